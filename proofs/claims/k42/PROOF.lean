import PyProof.Rows.All
import Wide.All
import OpenK.AllK
import Wide.FinOn
import Lean
import PyProof.EqAt
import PyProof.EqKinds
import PyProof.TupleCall
import PyProof.ZipIter
import PyProof.ListNew
import PyProof.TupleIter
import PyProof.WalksMore
import KE.KIntText
import PyProof.Rows.EqBoolInt
import PyProof.Rows.ZipGen
import PySem.Str
import PyProof.StrLawsTight
import PyProof.StrLawsIdx
import PyProof.StrLawsIn
import PyProof.Rows.SetFrom
import KE.KDictSum
import PyProof.Rows.SortWalk
import PyProof.NeKinds
import KE.KDictList
import KE.KRevIter
import PyProof.EnumMake
import PyProof.Rows.EnumRows
import PyProof.ExcInit
import PyProof.InstStoreFacts
import PyProof.ExcArgsOwn
import PyProof.ExcAttrAll.ValueError
import PyProof.ExcBaseAll.ValueError
import PyProof.ConsumeWalk
import PyProof.AttrMissHeap
import KE.KItemsList
import KE.KEqDict
import PyProof.StationsW
import PyProof.RulesAs
import PyProof.NsDelKeeps
import PyProof.ListMulRoad
import PyProof.FactsAll.tuple
import PyProof.DictWalks
import PyProof.Rows.SortStr
import PySem.Challenge.RW_swapstride_k42_ways_looked_at
set_option Elab.async false
set_option linter.all false
set_option maxRecDepth 100000
set_option maxHeartbeats 4000000
noncomputable section
open PySem
def zE:=@wpAny_bind
def zF:=@Nat.le_trans
def zG:=@Nat.le_refl
def zH:=@of_decide_eq_true
def zI:=@wpAny_pure
def zJ:=@Heap.lt_size
def zK:=@Heap.get?_push_size
def zL:=@Bool.false_ne_true
def zM:=@Option.some.inj
def zN:=@Nat.ne_of_lt
def zO:=@Nat.lt_of_lt_of_le
def zP:=@List.mem_cons_of_mem
def zQ:=@List.mem_map_of_mem
def zR:=@Nat.lt_irrefl
def zT:=@Nat.le_succ
def zU:=@wpAny_field
def zV:=@wpAny_holding
def zX:=@List.mem_of_mem_take
def zY:=@Nat.zero_le
def zZ:=@List.getElem_mem
def qD:=@wpAny_typeOf
def qF:=@wpAny_setField
end
abbrev Fg:=PySem.W.Frag
local macro_rules | `(tactic| walk_at"o")=>`(tactic| first |exact Or.inl rfl |exact Or.inr rfl)
local macro_rules | `(tactic| walk_at"q")=>`(tactic| exact⟨rfl,rfl,rfl,by decide +kernel,rfl,by decide +kernel,by decide +kernel⟩)
local macro_rules | `(tactic| walk_at"k")=>`(tactic| decide +kernel)
local macro_rules | `(tactic| walk_at"c")=>`(tactic| ((case a=>k_is);(case l=>k_is);(case c=>k_is);(case k=>k_is)))
set_option hygiene false in
local macro_rules | `(tactic| walk_at"d")=>`(tactic| (dsimp only[L2.KOf];refine' L2.deftx_mk KX G ?a ?l ?c ?k ?b;(case a=>k_is);(case l=>k_is);(case c=>k_is);(case k=>k_is);(case b=>(intro _ _ _ _ _ _ us hl;first |(obtain⟨_,rfl⟩:=L2.ln1 hl;rfl) |(obtain⟨_,_,rfl⟩:=L2.ln2 hl;rfl) |(obtain⟨_,_,_,rfl⟩:=L2.ln3 hl;rfl) |(obtain⟨_,_,_,_,rfl⟩:=L2.ln4 hl;rfl) |(obtain⟨_,_,_,_,_,rfl⟩:=L2.ln5 hl;rfl) |(obtain⟨_,_,_,_,_,_,rfl⟩:=L2.ln6 hl;rfl) |(obtain⟨_,_,_,_,_,_,_,rfl⟩:=L2.ln7 hl;rfl)))))
set_option hygiene false in
local macro_rules | `(tactic| walk_at"i")=>`(tactic| first |intro f cdv A outer s H vs Q E hr h |intro vs H Q E h)
local macro_rules | `(tactic| walk_at"s")=>`(tactic| first |(show 2 ≤ PySem.sizeLine;decide) |(show 3 ≤ PySem.sizeLine;decide) |(show 1 ≤ PySem.sizeLine;decide) |(show 0 ≤ PySem.sizeLine;decide) |(show 4 ≤ PySem.sizeLine;decide) |(show 5 ≤ PySem.sizeLine;decide) |(show 6 ≤ PySem.sizeLine;decide) |(show 8 ≤ PySem.sizeLine;decide))
theorem zGA{α:Type _}{l:List α}{i:Nat}(h:i<l.length):l[i]?=some l[i]:=List.getElem?_eq_getElem h
theorem zMS{α β:Type _}{f:α→β}{x:Option α}{b:β}(h:x.map f=some b):∃a,x=some a∧f a=b:=Option.map_eq_some_iff.mp h
theorem zLM{α β:Type _}{as:List α}(f:α→β):(as.map f).length=as.length:=List.length_map f
theorem zGM{α β:Type _}{f:α→β}{l:List α}{i:Nat}:(l.map f)[i]?=l[i]?.map f:=List.getElem?_map
theorem zES{α:Type _}{l:List α}{i:Nat}{a:α}(h:l[i]?=some a):∃h:i<l.length,l[i]=a:=List.getElem?_eq_some_iff.mp h
theorem zMG{α:Type _}{l:List α}{i:Nat}{a:α}(e:l[i]?=some a):a∈l:=List.mem_of_getElem? e
theorem zTL{α:Type _}{i:Nat}{l:List α}(h:l.length ≤ i):l.take i=l:=List.take_of_length_le h
theorem zMA{α:Type _}{a:α}{s t:List α}(h:a∈s++t):a∈s∨a∈t:=List.mem_append.mp h
theorem zMO{α:Type _}{a b:α}(h:a∈[b]):a=b:=List.mem_singleton.mp h
theorem zDT{p:Prop}[Decidable p](h:p):decide p=true:=decide_eq_true h
theorem zDF{p:Prop}[Decidable p](h:¬p):decide p=false:=decide_eq_false h
local macro_rules | `(tactic| walk_at"l")=>`(tactic| (intro vs H Q E h;(repeat (rcases h with⟨_,h⟩));subst_vars;rfl))
local macro_rules | `(tactic| walk_at"rd1")=>`(tactic| first
 |refine⟨_,rfl,?_⟩
 |refine⟨_,_,rfl,rfl,?_⟩
 |refine⟨_,_,_,_,rfl,rfl,(by assumption),(by first |rfl |assumption),?_⟩
 |refine⟨_,_,rfl,.inl (by assumption),?_⟩
 |refine⟨(by first |exact .inr ⟨by decide,by decide⟩ |exact .inl ⟨by decide,by decide⟩ |exact⟨by decide,by decide,by decide⟩ |exact⟨by decide,by decide⟩ |exact⟨by assumption,by assumption⟩ |(show(0:Int)<_;first |decide |assumption)),?_⟩
 |refine⟨rfl,?_⟩)
local macro_rules | `(tactic| walk_at"rd")=>`(tactic| repeat walk_at"rd1")
local macro_rules | `(tactic| walk_at"rd1")=>`(tactic| first
 |refine⟨_,rfl,?_⟩
 |refine⟨_,_,rfl,rfl,?_⟩
 |refine⟨_,_,_,_,rfl,rfl,(by assumption),(by first |rfl |assumption),?_⟩
 |refine⟨rfl,?_⟩
 |refine M.iteKF (by walk_at"k") ?_
 |refine M.iteKT (by walk_at"k") ?_)
section
open PySem
theorem zPO{h:Heap}{a:Addr}{u:Obj}(o:Obj)(e:h.get? a=some u):(h.push o).get? a=some u:=Heap.get?_push_of_some o e
theorem zLA{α:Type _}{as bs:List α}:(as++bs).length=as.length+bs.length:=List.length_append
theorem zMF{α:Type _}{p:α→Bool}{a:α}{l:List α}(h:l.find? p=some a):a∈l:=List.mem_of_find?_eq_some h
theorem zTA{α:Type _}{l:List α}{i:Nat}:l.take (i+1)=l.take i++l[i]?.toList:=List.take_add_one
theorem zMI{α:Type _}{a:α}{l:List α}(h:a∈l):∃(i:Nat) (h:i<l.length),l[i]=a:=List.mem_iff_getElem.mp h
theorem zMC{α:Type _}{a b:α}{l:List α}(h:a∈b::l):a=b∨a∈l:=List.mem_cons.mp h
theorem zMP{α β:Type _}{b:β}{f:α→β}{l:List α}(h:b∈l.map f):∃a,a∈l∧f a=b:=List.mem_map.mp h
theorem zAP{α β:Type _}{f:α→β}{as bs:List α}:(as++bs).map f=as.map f++bs.map f:=List.map_append
end
namespace L2
theorem ln1{α:Type}{l:List α}(h:l.length=1):∃a,l=[a]:=match l,h with |[a],_=>⟨a,rfl⟩
theorem ln2{α:Type}{l:List α}(h:l.length=2):∃a b,l=[a,b]:=match l,h with |[a,b],_=>⟨a,b,rfl⟩
theorem ln3{α:Type}{l:List α}(h:l.length=3):∃a b c,l=[a,b,c]:=match l,h with |[a,b,c],_=>⟨a,b,c,rfl⟩
theorem ln4{α:Type}{l:List α}(h:l.length=4):∃a b c d,l=[a,b,c,d]:=match l,h with |[a,b,c,d],_=>⟨a,b,c,d,rfl⟩
theorem ln5{α:Type}{l:List α}(h:l.length=5):∃a b c d e,l=[a,b,c,d,e]:=match l,h with |[a,b,c,d,e],_=>⟨a,b,c,d,e,rfl⟩
theorem ln6{α:Type}{l:List α}(h:l.length=6):∃a b c d e f,l=[a,b,c,d,e,f]:=match l,h with |[a,b,c,d,e,f],_=>⟨a,b,c,d,e,f,rfl⟩
theorem ln7{α:Type}{l:List α}(h:l.length=7):∃a b c d e f g,l=[a,b,c,d,e,f,g]:=match l,h with |[a,b,c,d,e,f,g],_=>⟨a,b,c,d,e,f,g,rfl⟩
end L2
section
theorem gcut{A:Prop}(h:∀G:Prop,(A->G)->G):A:=h A id
theorem jAA{p:Prop}{q:Prop}{F:Prop}(H0:p)(H1:q)(k:F):p/\q/\F:=⟨H0,H1,k⟩
theorem jAAA{p:Prop}{q:Prop}{r:Prop}{F:Prop}(H0:p)(H1:q)(H2:r)(k:F):p/\q/\r/\F:=⟨H0,H1,H2,k⟩
theorem jAE{p:Prop}{a:Sort _}{F:a->Prop}(H0:p)(u:a)(k:F u):p/\∃u,F u:=⟨H0,u,k⟩
theorem jAEA{p:Prop}{a:Sort _}{q:a->Prop}{F:a->Prop}(H0:p)(u:a)(H1:q u)(k:F u):p/\∃u,q u/\F u:=⟨H0,u,H1,k⟩
theorem xfh{p:Prop}{a:Sort _}{q:a->Prop}{r:a->Prop}{F:a->Prop}(H0:p)(u:a)(H1:q u)(H2:r u)(k:F u):p/\∃u,q u/\r u/\F u:=⟨H0,u,H1,H2,k⟩
theorem jEA{a:Sort _}{p:a->Prop}{F:a->Prop}(u:a)(H0:p u)(k:F u):∃u,p u/\F u:=⟨u,H0,k⟩
theorem jEAA{a:Sort _}{p:a->Prop}{q:a->Prop}{F:a->Prop}(u:a)(H0:p u)(H1:q u)(k:F u):∃u,p u/\q u/\F u:=⟨u,H0,H1,k⟩
theorem xdb{a:Sort _}{p:a->Prop}{q:a->Prop}{r:a->Prop}{F:a->Prop}(u:a)(H0:p u)(H1:q u)(H2:r u)(k:F u):∃u,p u/\q u/\r u/\F u:=⟨u,H0,H1,H2,k⟩
theorem xbj{a:Sort _}{p:a->Prop}{q:a->Prop}{r:a->Prop}{i:a->Prop}{F:a->Prop}(u:a)(H0:p u)(H1:q u)(H2:r u)(H3:i u)(k:F u):∃u,p u/\q u/\r u/\i u/\F u:=⟨u,H0,H1,H2,H3,k⟩
theorem xcl{a:Sort _}{p:a->Prop}{q:a->Prop}{r:a->Prop}{i:a->Prop}{j:a->Prop}{F:a->Prop}(u:a)(H0:p u)(H1:q u)(H2:r u)(H3:i u)(H4:j u)(k:F u):∃u,p u/\q u/\r u/\i u/\j u/\F u:=⟨u,H0,H1,H2,H3,H4,k⟩
theorem xao{a:Sort _}{p:a->Prop}{q:a->Prop}{b:Sort _}{r:a->b->Prop}{F:a->b->Prop}(u:a)(H0:p u)(H1:q u)(v:b)(H2:r u v)(k:F u v):∃u,p u/\q u/\∃v,r u v/\F u v:=⟨u,H0,H1,v,H2,k⟩
theorem xbh{a:Sort _}{p:a->Prop}{q:a->Prop}{b:Sort _}{c:Sort _}{r:a->b->c->Prop}{i:a->b->c->Prop}{F:a->b->c->Prop}(u:a)(H0:p u)(H1:q u)(v:b)(w:c)(H2:r u v w)(H3:i u v w)(k:F u v w):∃u,p u/\q u/\∃v,∃w,r u v w/\i u v w/\F u v w:=⟨u,H0,H1,v,w,H2,H3,k⟩
theorem xay{a:Sort _}{p:a->Prop}{b:Sort _}{q:a->b->Prop}{r:a->b->Prop}{F:a->b->Prop}(u:a)(H0:p u)(v:b)(H1:q u v)(H2:r u v)(k:F u v):∃u,p u/\∃v,q u v/\r u v/\F u v:=⟨u,H0,v,H1,H2,k⟩
theorem xcx{a:Sort _}{p:a->Prop}{b:Sort _}{q:a->b->Prop}{c:Sort _}{r:a->b->c->Prop}{i:a->b->c->Prop}{F:a->b->c->Prop}(u:a)(H0:p u)(v:b)(H1:q u v)(w:c)(H2:r u v w)(H3:i u v w)(k:F u v w):∃u,p u/\∃v,q u v/\∃w,r u v w/\i u v w/\F u v w:=⟨u,H0,v,H1,w,H2,H3,k⟩
theorem xbw{a:Sort _}{p:a->Prop}{b:Sort _}{q:a->b->Prop}{c:Sort _}{r:a->b->c->Prop}{d:Sort _}{i:a->b->c->d->Prop}{e:Sort _}{F:a->b->c->d->e->Prop}(u:a)(H0:p u)(v:b)(H1:q u v)(w:c)(H2:r u v w)(x:d)(H3:i u v w x)(y:e)(k:F u v w x y):∃u,p u/\∃v,q u v/\∃w,r u v w/\∃x,i u v w x/\∃y,F u v w x y:=⟨u,H0,v,H1,w,H2,x,H3,y,k⟩
theorem xa4{a:Sort _}{p:a->Prop}{b:Sort _}{q:a->b->Prop}{c:Sort _}{r:a->b->c->Prop}{d:Sort _}{i:a->b->c->d->Prop}{e:Sort _}{j:a->b->c->d->e->Prop}{F:a->b->c->d->e->Prop}(u:a)(H0:p u)(v:b)(H1:q u v)(w:c)(H2:r u v w)(x:d)(H3:i u v w x)(y:e)(H4:j u v w x y)(k:F u v w x y):∃u,p u/\∃v,q u v/\∃w,r u v w/\∃x,i u v w x/\∃y,j u v w x y/\F u v w x y:=⟨u,H0,v,H1,w,H2,x,H3,y,H4,k⟩
theorem xbg{a:Sort _}{p:a->Prop}{b:Sort _}{q:a->b->Prop}{c:Sort _}{r:a->b->c->Prop}{d:Sort _}{e:Sort _}{F:a->b->c->d->e->Prop}(u:a)(H0:p u)(v:b)(H1:q u v)(w:c)(H2:r u v w)(x:d)(y:e)(k:F u v w x y):∃u,p u/\∃v,q u v/\∃w,r u v w/\∃x,∃y,F u v w x y:=⟨u,H0,v,H1,w,H2,x,y,k⟩
theorem xbo{a:Sort _}{p:a->Prop}{b:Sort _}{q:a->b->Prop}{c:Sort _}{r:a->b->c->Prop}{d:Sort _}{e:Sort _}{i:a->b->c->d->e->Prop}{j:a->b->c->d->e->Prop}{F:a->b->c->d->e->Prop}(u:a)(H0:p u)(v:b)(H1:q u v)(w:c)(H2:r u v w)(x:d)(y:e)(H3:i u v w x y)(H4:j u v w x y)(k:F u v w x y):∃u,p u/\∃v,q u v/\∃w,r u v w/\∃x,∃y,i u v w x y/\j u v w x y/\F u v w x y:=⟨u,H0,v,H1,w,H2,x,y,H3,H4,k⟩
theorem xbf{a:Sort _}{p:a->Prop}{b:Sort _}{q:a->b->Prop}{c:Sort _}{d:Sort _}{r:a->b->c->d->Prop}{i:a->b->c->d->Prop}{F:a->b->c->d->Prop}(u:a)(H0:p u)(v:b)(H1:q u v)(w:c)(x:d)(H2:r u v w x)(H3:i u v w x)(k:F u v w x):∃u,p u/\∃v,q u v/\∃w,∃x,r u v w x/\i u v w x/\F u v w x:=⟨u,H0,v,H1,w,x,H2,H3,k⟩
theorem xb4{a:Sort _}{p:a->Prop}{b:Sort _}{q:a->b->Prop}{c:Sort _}{d:Sort _}{r:a->b->c->d->Prop}{i:a->b->c->d->Prop}{e:Sort _}{F:a->b->c->d->e->Prop}(u:a)(H0:p u)(v:b)(H1:q u v)(w:c)(x:d)(H2:r u v w x)(H3:i u v w x)(y:e)(k:F u v w x y):∃u,p u/\∃v,q u v/\∃w,∃x,r u v w x/\i u v w x/\∃y,F u v w x y:=⟨u,H0,v,H1,w,x,H2,H3,y,k⟩
theorem xbc{a:Sort _}{p:a->Prop}{b:Sort _}{q:a->b->Prop}{c:Sort _}{d:Sort _}{r:a->b->c->d->Prop}{i:a->b->c->d->Prop}{e:Sort _}{j:a->b->c->d->e->Prop}{F:a->b->c->d->e->Prop}(u:a)(H0:p u)(v:b)(H1:q u v)(w:c)(x:d)(H2:r u v w x)(H3:i u v w x)(y:e)(H4:j u v w x y)(k:F u v w x y):∃u,p u/\∃v,q u v/\∃w,∃x,r u v w x/\i u v w x/\∃y,j u v w x y/\F u v w x y:=⟨u,H0,v,H1,w,x,H2,H3,y,H4,k⟩
theorem xa6{a:Sort _}{p:a->Prop}{b:Sort _}{q:a->b->Prop}{c:Sort _}{d:Sort _}{e:Sort _}{F:a->b->c->d->e->Prop}(u:a)(H0:p u)(v:b)(H1:q u v)(w:c)(x:d)(y:e)(k:F u v w x y):∃u,p u/\∃v,q u v/\∃w,∃x,∃y,F u v w x y:=⟨u,H0,v,H1,w,x,y,k⟩
theorem xbd{a:Sort _}{p:a->Prop}{b:Sort _}{q:a->b->Prop}{c:Sort _}{d:Sort _}{e:Sort _}{r:a->b->c->d->e->Prop}{i:a->b->c->d->e->Prop}{F:a->b->c->d->e->Prop}(u:a)(H0:p u)(v:b)(H1:q u v)(w:c)(x:d)(y:e)(H2:r u v w x y)(H3:i u v w x y)(k:F u v w x y):∃u,p u/\∃v,q u v/\∃w,∃x,∃y,r u v w x y/\i u v w x y/\F u v w x y:=⟨u,H0,v,H1,w,x,y,H2,H3,k⟩
theorem xbz{a:Sort _}{p:a->Prop}{b:Sort _}{q:a->b->Prop}{c:Sort _}{d:Sort _}{e:Sort _}{r:a->b->c->d->e->Prop}{i:a->b->c->d->e->Prop}{j:a->b->c->d->e->Prop}{F:a->b->c->d->e->Prop}(u:a)(H0:p u)(v:b)(H1:q u v)(w:c)(x:d)(y:e)(H2:r u v w x y)(H3:i u v w x y)(H4:j u v w x y)(k:F u v w x y):∃u,p u/\∃v,q u v/\∃w,∃x,∃y,r u v w x y/\i u v w x y/\j u v w x y/\F u v w x y:=⟨u,H0,v,H1,w,x,y,H2,H3,H4,k⟩
theorem xe9{a:Sort _}{p:a->Prop}{b:Sort _}{c:Sort _}{q:a->b->c->Prop}{F:a->b->c->Prop}(u:a)(H0:p u)(v:b)(w:c)(H1:q u v w)(k:F u v w):∃u,p u/\∃v,∃w,q u v w/\F u v w:=⟨u,H0,v,w,H1,k⟩
theorem xa3{a:Sort _}{p:a->Prop}{b:Sort _}{c:Sort _}{q:a->b->c->Prop}{r:a->b->c->Prop}{F:a->b->c->Prop}(u:a)(H0:p u)(v:b)(w:c)(H1:q u v w)(H2:r u v w)(k:F u v w):∃u,p u/\∃v,∃w,q u v w/\r u v w/\F u v w:=⟨u,H0,v,w,H1,H2,k⟩
theorem xbe{a:Sort _}{p:a->Prop}{b:Sort _}{c:Sort _}{q:a->b->c->Prop}{r:a->b->c->Prop}{d:Sort _}{i:a->b->c->d->Prop}{F:a->b->c->d->Prop}(u:a)(H0:p u)(v:b)(w:c)(H1:q u v w)(H2:r u v w)(x:d)(H3:i u v w x)(k:F u v w x):∃u,p u/\∃v,∃w,q u v w/\r u v w/\∃x,i u v w x/\F u v w x:=⟨u,H0,v,w,H1,H2,x,H3,k⟩
theorem xbn{a:Sort _}{p:a->Prop}{b:Sort _}{c:Sort _}{q:a->b->c->Prop}{r:a->b->c->Prop}{d:Sort _}{e:Sort _}{i:a->b->c->d->e->Prop}{j:a->b->c->d->e->Prop}{F:a->b->c->d->e->Prop}(u:a)(H0:p u)(v:b)(w:c)(H1:q u v w)(H2:r u v w)(x:d)(y:e)(H3:i u v w x y)(H4:j u v w x y)(k:F u v w x y):∃u,p u/\∃v,∃w,q u v w/\r u v w/\∃x,∃y,i u v w x y/\j u v w x y/\F u v w x y:=⟨u,H0,v,w,H1,H2,x,y,H3,H4,k⟩
theorem xci{a:Sort _}{p:a->Prop}{b:Sort _}{c:Sort _}{d:Sort _}{q:a->b->c->d->Prop}{r:a->b->c->d->Prop}{F:a->b->c->d->Prop}(u:a)(H0:p u)(v:b)(w:c)(x:d)(H1:q u v w x)(H2:r u v w x)(k:F u v w x):∃u,p u/\∃v,∃w,∃x,q u v w x/\r u v w x/\F u v w x:=⟨u,H0,v,w,x,H1,H2,k⟩
theorem xcc{a:Sort _}{p:a->Prop}{b:Sort _}{c:Sort _}{d:Sort _}{q:a->b->c->d->Prop}{r:a->b->c->d->Prop}{i:a->b->c->d->Prop}{j:a->b->c->d->Prop}{F:a->b->c->d->Prop}(u:a)(H0:p u)(v:b)(w:c)(x:d)(H1:q u v w x)(H2:r u v w x)(H3:i u v w x)(H4:j u v w x)(k:F u v w x):∃u,p u/\∃v,∃w,∃x,q u v w x/\r u v w x/\i u v w x/\j u v w x/\F u v w x:=⟨u,H0,v,w,x,H1,H2,H3,H4,k⟩
theorem xbm{a:Sort _}{p:a->Prop}{b:Sort _}{c:Sort _}{d:Sort _}{e:Sort _}{F:a->b->c->d->e->Prop}(u:a)(H0:p u)(v:b)(w:c)(x:d)(y:e)(k:F u v w x y):∃u,p u/\∃v,∃w,∃x,∃y,F u v w x y:=⟨u,H0,v,w,x,y,k⟩
theorem xaa{a:Sort _}{p:a->Prop}{b:Sort _}{c:Sort _}{d:Sort _}{e:Sort _}{q:a->b->c->d->e->Prop}{r:a->b->c->d->e->Prop}{i:a->b->c->d->e->Prop}{j:a->b->c->d->e->Prop}{F:a->b->c->d->e->Prop}(u:a)(H0:p u)(v:b)(w:c)(x:d)(y:e)(H1:q u v w x y)(H2:r u v w x y)(H3:i u v w x y)(H4:j u v w x y)(k:F u v w x y):∃u,p u/\∃v,∃w,∃x,∃y,q u v w x y/\r u v w x y/\i u v w x y/\j u v w x y/\F u v w x y:=⟨u,H0,v,w,x,y,H1,H2,H3,H4,k⟩
theorem jEE{a:Sort _}{b:Sort _}{F:a->b->Prop}(u:a)(v:b)(k:F u v):∃u,∃v,F u v:=⟨u,v,k⟩
theorem jEEA{a:Sort _}{b:Sort _}{p:a->b->Prop}{F:a->b->Prop}(u:a)(v:b)(H0:p u v)(k:F u v):∃u,∃v,p u v/\F u v:=⟨u,v,H0,k⟩
theorem xaq{a:Sort _}{b:Sort _}{p:a->b->Prop}{q:a->b->Prop}{F:a->b->Prop}(u:a)(v:b)(H0:p u v)(H1:q u v)(k:F u v):∃u,∃v,p u v/\q u v/\F u v:=⟨u,v,H0,H1,k⟩
theorem xaw{a:Sort _}{b:Sort _}{p:a->b->Prop}{q:a->b->Prop}{r:a->b->Prop}{F:a->b->Prop}(u:a)(v:b)(H0:p u v)(H1:q u v)(H2:r u v)(k:F u v):∃u,∃v,p u v/\q u v/\r u v/\F u v:=⟨u,v,H0,H1,H2,k⟩
theorem xai{a:Sort _}{b:Sort _}{p:a->b->Prop}{q:a->b->Prop}{r:a->b->Prop}{c:Sort _}{d:Sort _}{i:a->b->c->d->Prop}{e:Sort _}{F:a->b->c->d->e->Prop}(u:a)(v:b)(H0:p u v)(H1:q u v)(H2:r u v)(w:c)(x:d)(H3:i u v w x)(y:e)(k:F u v w x y):∃u,∃v,p u v/\q u v/\r u v/\∃w,∃x,i u v w x/\∃y,F u v w x y:=⟨u,v,H0,H1,H2,w,x,H3,y,k⟩
theorem xac{a:Sort _}{b:Sort _}{p:a->b->Prop}{q:a->b->Prop}{c:Sort _}{d:Sort _}{r:a->b->c->d->Prop}{i:a->b->c->d->Prop}{e:Sort _}{F:a->b->c->d->e->Prop}(u:a)(v:b)(H0:p u v)(H1:q u v)(w:c)(x:d)(H2:r u v w x)(H3:i u v w x)(y:e)(k:F u v w x y):∃u,∃v,p u v/\q u v/\∃w,∃x,r u v w x/\i u v w x/\∃y,F u v w x y:=⟨u,v,H0,H1,w,x,H2,H3,y,k⟩
theorem xdu{a:Sort _}{b:Sort _}{c:Sort _}{p:a->b->c->Prop}{q:a->b->c->Prop}{F:a->b->c->Prop}(u:a)(v:b)(w:c)(H0:p u v w)(H1:q u v w)(k:F u v w):∃u,∃v,∃w,p u v w/\q u v w/\F u v w:=⟨u,v,w,H0,H1,k⟩
theorem xb3{a:Sort _}{b:Sort _}{c:Sort _}{p:a->b->c->Prop}{q:a->b->c->Prop}{r:a->b->c->Prop}{F:a->b->c->Prop}(u:a)(v:b)(w:c)(H0:p u v w)(H1:q u v w)(H2:r u v w)(k:F u v w):∃u,∃v,∃w,p u v w/\q u v w/\r u v w/\F u v w:=⟨u,v,w,H0,H1,H2,k⟩
theorem xa5{a:Sort _}{b:Sort _}{c:Sort _}{p:a->b->c->Prop}{q:a->b->c->Prop}{r:a->b->c->Prop}{i:a->b->c->Prop}{F:a->b->c->Prop}(u:a)(v:b)(w:c)(H0:p u v w)(H1:q u v w)(H2:r u v w)(H3:i u v w)(k:F u v w):∃u,∃v,∃w,p u v w/\q u v w/\r u v w/\i u v w/\F u v w:=⟨u,v,w,H0,H1,H2,H3,k⟩
theorem xax{a:Sort _}{b:Sort _}{c:Sort _}{p:a->b->c->Prop}{q:a->b->c->Prop}{r:a->b->c->Prop}{i:a->b->c->Prop}{j:a->b->c->Prop}{F:a->b->c->Prop}(u:a)(v:b)(w:c)(H0:p u v w)(H1:q u v w)(H2:r u v w)(H3:i u v w)(H4:j u v w)(k:F u v w):∃u,∃v,∃w,p u v w/\q u v w/\r u v w/\i u v w/\j u v w/\F u v w:=⟨u,v,w,H0,H1,H2,H3,H4,k⟩
theorem xal{a:Sort _}{b:Sort _}{c:Sort _}{d:Sort _}{p:a->b->c->d->Prop}{q:a->b->c->d->Prop}{r:a->b->c->d->Prop}{i:a->b->c->d->Prop}{F:a->b->c->d->Prop}(u:a)(v:b)(w:c)(x:d)(H0:p u v w x)(H1:q u v w x)(H2:r u v w x)(H3:i u v w x)(k:F u v w x):∃u,∃v,∃w,∃x,p u v w x/\q u v w x/\r u v w x/\i u v w x/\F u v w x:=⟨u,v,w,x,H0,H1,H2,H3,k⟩
theorem xbp{a:Sort _}{b:Sort _}{c:Sort _}{d:Sort _}{p:a->b->c->d->Prop}{q:a->b->c->d->Prop}{r:a->b->c->d->Prop}{i:a->b->c->d->Prop}{j:a->b->c->d->Prop}{F:a->b->c->d->Prop}(u:a)(v:b)(w:c)(x:d)(H0:p u v w x)(H1:q u v w x)(H2:r u v w x)(H3:i u v w x)(H4:j u v w x)(k:F u v w x):∃u,∃v,∃w,∃x,p u v w x/\q u v w x/\r u v w x/\i u v w x/\j u v w x/\F u v w x:=⟨u,v,w,x,H0,H1,H2,H3,H4,k⟩
theorem xbq{a:Sort _}{b:Sort _}{c:Sort _}{d:Sort _}{p:a->b->c->d->Prop}{q:a->b->c->d->Prop}{r:a->b->c->d->Prop}{i:a->b->c->d->Prop}{j:a->b->c->d->Prop}{g:a->b->c->d->Prop}{F:a->b->c->d->Prop}(u:a)(v:b)(w:c)(x:d)(H0:p u v w x)(H1:q u v w x)(H2:r u v w x)(H3:i u v w x)(H4:j u v w x)(H5:g u v w x)(k:F u v w x):∃u,∃v,∃w,∃x,p u v w x/\q u v w x/\r u v w x/\i u v w x/\j u v w x/\g u v w x/\F u v w x:=⟨u,v,w,x,H0,H1,H2,H3,H4,H5,k⟩
theorem xas{a:Sort _}{b:Sort _}{c:Sort _}{d:Sort _}{e:Sort _}{F:a->b->c->d->e->Prop}(u:a)(v:b)(w:c)(x:d)(y:e)(k:F u v w x y):∃u,∃v,∃w,∃x,∃y,F u v w x y:=⟨u,v,w,x,y,k⟩
theorem xag{a:Sort _}{b:Sort _}{c:Sort _}{d:Sort _}{e:Sort _}{p:a->b->c->d->e->Prop}{q:a->b->c->d->e->Prop}{r:a->b->c->d->e->Prop}{i:a->b->c->d->e->Prop}{j:a->b->c->d->e->Prop}{F:a->b->c->d->e->Prop}(u:a)(v:b)(w:c)(x:d)(y:e)(H0:p u v w x y)(H1:q u v w x y)(H2:r u v w x y)(H3:i u v w x y)(H4:j u v w x y)(k:F u v w x y):∃u,∃v,∃w,∃x,∃y,p u v w x y/\q u v w x y/\r u v w x y/\i u v w x y/\j u v w x y/\F u v w x y:=⟨u,v,w,x,y,H0,H1,H2,H3,H4,k⟩
end
section
namespace L2
open PySem PySem.Spec PyProof.Rows
abbrev Key:=Sum Int Str
def xox:Key->Value->Bool
 |.inl k,v=>Value.isInt k v
 |.inr x,v=>Value.isStrOf x v
def keyH(w:World):Key->Int
 |.inl k=>hashInt k
 |.inr x=>hashStr w x
theorem xb9:∀{k:Key} {v:Value},xox k v=true->(∃i t,k=Sum.inl i/\v=Value.int i t)\/(∃x t,k=Sum.inr x/\v=Value.str x t)
 |.inl i,v,h=>by
  obtain⟨t,e⟩:=Value.isInt_shape (k:=i) (v:=v) h;exact .inl ⟨i,t,rfl,e⟩
 |.inr x,v,h=>by
  obtain⟨t,e⟩:=Value.isStrOf_shape (x:=x) (v:=v) h;exact .inr ⟨x,t,rfl,e⟩
theorem xrm(i:Int)(t:Tok):xox (.inl i) (.int i t)=true:=by simp[xox,Value.isInt]
theorem xrl(x:Str)(t:Tok):xox (.inr x) (.str x t)=true:=by simp[xox,Value.isStrOf]
theorem xyv(a b:Int):decide ((Sum.inl a:Key)=Sum.inl b)=(a == b):=by
 by_cases e:a=b
 ·subst e;simp
 ·have h:¬(Sum.inl a:Key)=Sum.inl b:=λq=>e (Sum.inl.inj q)
  rw[zDF h];exact(beq_eq_false_iff_ne.mpr e).symm
theorem xys(a b:Str):decide ((Sum.inr a:Key)=Sum.inr b)=decide (a=b):=by
 by_cases e:a=b
 ·subst e;simp
 ·have h:¬(Sum.inr a:Key)=Sum.inr b:=λq=>e (Sum.inr.inj q)
  rw[zDF h,zDF e]
theorem xyu(a:Int)(b:Str):decide ((Sum.inl a:Key)=Sum.inr b)=false:=zDF (λq=>nomatch q)
theorem xyt(a:Str)(b:Int):decide ((Sum.inr a:Key)=Sum.inl b)=false:=zDF (λq=>nomatch q)
def xcf(prog:Program)(w:World):PySem.KeyKind prog w Key where
 is:=xox
 hash:=keyH w
 inj:=λv a b ha hb=>by
  rcases xb9 ha with⟨i,t,rfl,rfl⟩ |⟨x,t,rfl,rfl⟩
  ·rcases xb9 hb with⟨j,u,rfl,e⟩ |⟨y,u,rfl,e⟩
   ·injection e with e1 _;rw[e1]
   ·exact nomatch e
  ·rcases xb9 hb with⟨j,u,rfl,e⟩ |⟨y,u,rfl,e⟩
   ·exact nomatch e
   ·injection e with e1 _;rw[e1]
 byValue:=λk v h=>by
  rcases xb9 h with⟨i,t,rfl,rfl⟩ |⟨x,t,rfl,rfl⟩ <;> rfl
 pyHash:=λhv h=>by
  rcases xb9 hv with⟨i,t,rfl,rfl⟩ |⟨x,t,rfl,rfl⟩
  ·exact wpAny_pyHash_int h
  ·exact wpAny_pyHash_str h
 eqBool:=λhu hv h=>by
  rcases xb9 hu with⟨i,t,rfl,rfl⟩ |⟨x,t,rfl,rfl⟩
  ·rcases xb9 hv with⟨j,u,rfl,rfl⟩ |⟨y,u,rfl,rfl⟩
   ·rw[xyv]at h;exact wpAny_eqBool_int h
   ·rw[xyu]at h;exact SeqAt.EqAt.int_str i t y u _ _ _ _ h
  ·rcases xb9 hv with⟨j,u,rfl,rfl⟩ |⟨y,u,rfl,rfl⟩
   ·rw[xyt]at h;exact SeqAt.EqAt.str_int x t j u _ _ _ _ h
   ·rw[xys]at h;exact wpAny_eqBool_str h
 «strs»:=λk x t v h=>by
  rcases xb9 h with⟨i,u,rfl,e⟩ |⟨y,u,rfl,e⟩
  ·exact nomatch e
  ·injection e with e1 _
   subst e1;cases v <;> rfl
theorem xmk(prog:Program)(w:World)(i:Int)(t:Tok):(xcf prog w).is (.inl i) (.int i t)=true:=xrm i t
theorem xmj(prog:Program)(w:World)(x:Str)(t:Tok):(xcf prog w).is (.inr x) (.str x t)=true:=xrl x t
inductive V where
 |non |bl (b:Bool) |int (i:Int) |str (x:Str) |byt (b:Array UInt8) |flt (b:UInt64) |ref (a:Addr) |ty (n:String)
 deriving DecidableEq
def RelV:V->Value->Prop
 |.non,u=>u=Value.none
 |.bl b,u=>u=Value.bool b
 |.int i,u=>∃t,u=Value.int i t
 |.str x,u=>∃t,u=Value.str x t
 |.byt b,u=>∃t,u=Value.bytes b t
 |.flt b,u=>∃t,u=Value.float b t
 |.ref a,u=>u=Value.ref a
 |.ty n,u=>u=Value.type n
abbrev Vals:List V->List Value->Prop:=Paired RelV
theorem Vals.length{xs:List V}{us:List Value}(r:Vals xs us):xs.length=us.length:=Paired.length r
theorem Vals.get:∀{xs:List V} {us:List Value} {i:Nat} {x:V},Vals xs us->xs[i]?=some x->∃u,us[i]?=some u/\RelV x u
 |_,_,_,_,.nil,e=>by simp at e
 |_,_,0,_,.cons r _,e=>by simp at e;subst e;exact⟨_,rfl,r⟩
 |_,_,i+1,x,.cons _ t,e=>by
  obtain⟨u,h1,h2⟩:=Vals.get (i:=i) (x:=x) t (by simpa using e);exact⟨u,by simpa using h1,h2⟩
theorem Vals.set{x:V}{u:Value}(r:RelV x u):∀{xs:List V} {us:List Value} (i:Nat),Vals xs us->Vals (xs.set i x) (us.set i u)
 |_,_,_,.nil=>.nil
 |_,_,0,.cons _ t=>.cons r t
 |_,_,i+1,.cons q t=>.cons q (Vals.set r i t)
theorem Vals.append:∀{xs ys:List V} {us ws:List Value},Vals xs us->Vals ys ws->Vals (xs++ys) (us++ws)
 |_,_,_,_,.nil,s=>s
 |_,_,_,_,.cons r t,s=>.cons r (Vals.append t s)
theorem Vals.take:∀{xs:List V} {us:List Value} (n:Nat),Vals xs us->Vals (xs.take n) (us.take n)
 |_,_,0,_=>.nil
 |_,_,_+1,.nil=>.nil
 |_,_,n+1,.cons r t=>.cons r (Vals.take n t)
theorem Vals.drop:∀{xs:List V} {us:List Value} (n:Nat),Vals xs us->Vals (xs.drop n) (us.drop n)
 |_,_,0,r=>r
 |_,_,_+1,.nil=>.nil
 |_,_,n+1,.cons _ t=>Vals.drop n t
def RelO:Option V->Option Value->Prop
 |some v,some u=>RelV v u
 |none,none=>True
 |_,_=>False
def KV{κ:Type}:List (κ×V)->List (κ×Value)->Prop:=Paired λ(p:κ×V) (q:κ×Value)=>p.1=q.1/\RelV p.2 q.2
def kV:Key->V
 |.inl i=>.int i
 |.inr x=>.str x
inductive HO where
 |lst (xs:List V)
 |tup (xs:List V)
 |dK (kvs:List (Key×V)) |dT (kvs:List (List Key×V))
 |set (S:Int->Bool) (n:Nat)
 |ins (C dx:Addr) (fs:List (Str×V))
 |own (x:Addr)
 |xd (fs:List (Str×V))
 |met (f x:Addr)
 |rng (lo hi:Int)
 |frz (o:Obj) (u:HO)
 |tbl (ps:Array Value)
 |ext (φ:Heap->Prop)
abbrev Hp:=Addr->Option HO
def upd(H:Hp)(a:Addr)(o:HO):Hp:=λb=>if b=a then some o else H b
theorem ups{H:Hp}{a:Addr}{o:HO}:upd H a o a=some o:=by unfold upd;rw[if_pos rfl]
theorem xa7{H:Hp}{a b:Addr}{o:HO}(h:b≠a):upd H a o b=H b:=by unfold upd;rw[if_neg h]
theorem xz6{H:Hp}{a b:Addr}{o u:HO}(h:H a=some o)(h':H b=some u)(d:o≠u):a≠b:=by
 intro e;subst e;rw[h]at h';exact d (zM h')
theorem neN{H:Hp}{a b:Addr}{o:HO}(h:H a=some o)(h':H b=none):a≠b:=by
 intro e;subst e;rw[h]at h';cases h'
section
variable (P:Program)(w:World)
def ObjOk(H:Hp)(h:Heap)(a:Addr):HO->Prop
 |.lst xs=>xs.length<=sizeLine/\∃(its:List Value) (n:Nat),Vals xs its/\h.get? a=some {cls:=.type "list",data:=.seq its.toArray n}
 |.tup xs=>xs.length<=sizeLine/\∃its:List Value,Vals xs its/\∃o,h.get? a=some o/\o.cls=.type "tuple"/\∃n,o.data=.seq its.toArray n/\o.dict=none
 |.dK kvs=>kvs.length<=sizeLine/\(a == sysModules)=false/\∃vs,KV kvs vs/\h.DictOf (xcf P w) a vs
 | .dT kvs=>kvs.length<=sizeLine/\(a == sysModules)=false/\∃xs:List (List Key×Addr×Value),
   Paired (λ(p:List Key×V) (q:List Key×Addr×Value)=>p.1=q.1/\H q.2.1=some (.tup (p.1.map kV))/\RelV p.2 q.2.2) kvs xs ∧
   ∃o es ep,h.get? a=some o/\o.ExactDict/\o.data=.dict es ep/\es.toList=xs.map (entryOfKey (tupleKind (xcf P w)))/\(xs.map (·.1)).Nodup
 |.set S n=>h.SetOf (intKind P w) a S n
 | .ins C dx fs=>H dx=some (.own a)/\fs.length<=1000/\dx≠a/\h.get? a=some (PySem.W.instObj C dx) ∧
   ∃mA,h.Ns1 dx mA/\(∀f,RelO (fs.lookup f) (mA f))/\PySem.Within mA (fs.map (·.1))
 |.own _=>∃o,h.get? a=some o
 |.xd fs=>∃mA,h.Ns1 a mA/\∀f,RelO (fs.lookup f) (mA f)
 |.rng lo hi=>∃t u v,h.get? a=some {cls:=.type "range",data:=.fields #[.int lo t,.int hi u,.int 1 v]}
 |.frz o u=>h.get? a=some o/\ObjOk H h a u
 |.tbl ps=>h.get? a=some {cls:=.none,data:=.fields ps}
 |.met f x=>h.get? a=some (PySem.W.methodObj (.ref f) (.ref x))
 |.ext φ=>φ h/\(∃o,h.get? a=some o)/\∀h1 h2:Heap,φ h1->(∀o,h1.get? a=some o->h2.get? a=some o)->φ h2
def HOk(H:Hp)(h:Heap):Prop:=∀a o,H a=some o->ObjOk P w H h a o
end
section
variable {P:Program}{w:World}{H H':Hp}{h h':Heap}{a:Addr}{o:HO}
theorem ObjOk.lt(x:ObjOk P w H h a o):a<h.objs.size:=by
 cases o with
 |lst xs=>obtain⟨_,_,_,_,e⟩:=x;exact zJ e
 |tup xs=>obtain⟨_,_,_,_,e,_⟩:=x;exact zJ e
 |dK kvs=>obtain⟨_,_,_,_,o,_,_,e,_⟩:=x;exact zJ e
 |dT kvs=>obtain⟨_,_,_,_,o,_,_,e,_⟩:=x;exact zJ e
 |set S n=>obtain⟨o,_,_,_,e,_⟩:=x;exact zJ e
 |ins C dx fs=>obtain⟨_,_,_,e,_⟩:=x;exact zJ e
 |own y=>obtain⟨_,e⟩:=x;exact zJ e
 |xd fs=>obtain⟨_,⟨_,_,_,e,_⟩,_⟩:=x;exact zJ e
 |rng lo hi=>obtain⟨_,_,_,e⟩:=x;exact zJ e
 |frz b u=>obtain⟨e,_⟩:=x;exact zJ e
 |tbl ps=>exact zJ (show h.get? a=some _ from x)
 |met f y=>exact zJ (show h.get? a=some _ from x)
 |ext φ=>obtain⟨_,⟨_,e⟩,_⟩:=x;exact zJ e
theorem Paired.mapP{α β:Type}{F G:α->β->Prop}:∀{e:List α} {c:List β},Paired F e c->(∀a b,F a b->G a b)->Paired G e c
 |_,_,.nil,_=>.nil
 |_,_,.cons r t,f=>.cons (f _ _ r) (Paired.mapP t f)
theorem ObjOk.stay (x:ObjOk P w H h a o) (k:∀b u,(b=a\/H b=some (.own a))->h.get? b=some u->h'.get? b=some u)
  (ho:∀b,H b=some (.own a)->H' b=some (.own a)) (ht:∀b xs,H b=some (.tup xs)->H' b=some (.tup xs)):ObjOk P w H' h' a o:=by
 induction o with
 |lst xs=>obtain⟨z,its,n,r,e⟩:=x;exact⟨z,its,n,r,k _ _ (.inl rfl) e⟩
 |tup xs=>obtain⟨z,its,r,ob,e,c⟩:=x;exact⟨z,its,r,ob,k _ _ (.inl rfl) e,c⟩
 |dK kvs=>obtain⟨z,y,vs,r,ob,es,ep,e,c⟩:=x;exact⟨z,y,vs,r,ob,es,ep,k _ _ (.inl rfl) e,c⟩
 |dT kvs=>
  obtain⟨z,y,xs,r,ob,es,ep,e,c⟩:=x;exact⟨z,y,xs,Paired.mapP r λp q z=>⟨z.1,ht _ _ z.2.1,z.2.2⟩,ob,es,ep,k _ _ (.inl rfl) e,c⟩
 |set S n=>obtain⟨ob,es,ep,t,e,c⟩:=x;exact⟨ob,es,ep,t,k _ _ (.inl rfl) e,c⟩
 |ins C dx fs=>
  obtain⟨d,z,ne,e,mA,⟨od,es,ep,e2,c⟩,r⟩:=x;exact⟨ho _ d,z,ne,k _ _ (.inl rfl) e,mA,⟨od,es,ep,k _ _ (.inr d) e2,c⟩,r⟩
 |own y=>obtain⟨ob,e⟩:=x;exact⟨ob,k _ _ (.inl rfl) e⟩
 |xd fs=>obtain⟨mA,⟨od,es,ep,e,c⟩,r⟩:=x;exact⟨mA,⟨od,es,ep,k _ _ (.inl rfl) e,c⟩,r⟩
 |rng lo hi=>obtain⟨t,u,v,e⟩:=x;exact⟨t,u,v,k _ _ (.inl rfl) e⟩
 |frz ob u ih=>obtain⟨e,q⟩:=x;exact⟨k _ _ (.inl rfl) e,ih q⟩
 |tbl ps=>
  have e:h.get? a=some {cls:=.none,data:=.fields ps}:=x;show h'.get? a=some {cls:=.none,data:=.fields ps};exact k a _ (.inl rfl) e
 |met f y=>
  have e:h.get? a=some (PySem.W.methodObj (.ref f) (.ref y)):=x;show h'.get? a=some (PySem.W.methodObj (.ref f) (.ref y));exact k a _ (.inl rfl) e
 |ext φ=>obtain⟨p,⟨o,e⟩,st⟩:=x;exact⟨st _ _ p λo q=>k _ _ (.inl rfl) q,⟨o,k _ _ (.inl rfl) e⟩,st⟩
theorem HOk.lt(x:HOk P w H h)(e:H a=some o):a<h.objs.size:=(x a o e).lt
theorem HOk.fresh(x:HOk P w H h)(e:h.objs.size<=a):H a=none:=by
 cases q:H a with
 |none=>rfl
 |some u=>exact absurd (zO (x.lt q) e) (zR _)
theorem HOk.kept(x:HOk P w H h)(k:∀b u,h.get? b=some u->h'.get? b=some u):HOk P w H h':=λa o e=>
 (x a o e).stay (λb u _ q=>k b u q) (λ_ q=>q) λ_ _ q=>q
theorem HOk.laid(x:HOk P w H h)(k:∀b u,h.get? b=some u->h'.get? b=some u)(hp:h.objs.size<=a)(new:ObjOk P w (upd H a o) h' a o):HOk P w (upd H a o) h':=λb u e=>by
 have hn:=x.fresh hp;by_cases hb:b=a
 ·subst hb;rw[ups]at e;cases e;exact new
 ·rw[xa7 hb]at e
  exact(x b u e).stay (λc v _ q=>k c v q) (λc q=>by rw[xa7 (neN q hn)];exact q) λc xs q=>by rw[xa7 (neN q hn)];exact q
end
def Rd(H:Hp)(a:Addr)(u:HO):Prop:=H a=some u\/∃o,H a=some (.frz o u)
theorem Rd.ok{P:Program}{w:World}{H:Hp}{h:Heap}{a:Addr}{u:HO}(r:Rd H a u)(x:HOk P w H h):ObjOk P w H h a u:=by
 rcases r with r |⟨o,r⟩
 ·exact x a u r
 ·obtain⟨_,q⟩:=x a _ r
  exact q
def Mut:Option HO->Prop
 |some (.lst _)=>True
 |some (.dK _)=>True
 |some (.dT _)=>True
 |some (.set _ _)=>True
 |some (.ins _ _ _)=>True
 |some (.ext _)=>True
 |_=>False
section
variable {P:Program}{w:World}{H:Hp}{h h':Heap}{x e:Addr}{o':HO}
theorem HOk.write (ok:HOk P w H h) (mu:Mut (H x)) (he:e=x\/H e=some (.own x)) (k:∀b u,b≠e->h.get? b=some u->h'.get? b=some u) (heo:∃u,h'.get? e=some u)
  (new:ObjOk P w (upd H x o') h' x o'):HOk P w (upd H x o') h':=λb u q=>by
 have nown:∀c y,H c=some (.own y)->c≠x:=λc y r z=>by subst z;rw[r]at mu;exact mu
 have ntup:∀c xs,H c=some (.tup xs)->c≠x:=λc xs r z=>by subst z;rw[r]at mu;exact mu
 by_cases hb:b=x
 ·subst hb;rw[ups]at q;cases q;exact new
 ·rw[xa7 hb]at q
  by_cases hbe:b=e
  ·have q':H b=some (.own x):=by
    rcases he with z |z
    ·exact absurd (hbe.trans z) hb
    ·rw[hbe];exact z
   rw[q]at q';cases q';obtain⟨v,hv⟩:=heo;exact⟨v,by rw[hbe];exact hv⟩
  ·refine(ok b u q).stay (λc v hc r=>k c v ?_ r) (λc r=>by rw[xa7 (nown c b r)];exact r) λc xs r=>by rw[xa7 (ntup c xs r)];exact r
   rcases hc with rfl |hc
   ·exact hbe
   ·rintro rfl
    rcases he with z |z
    ·exact nown c b hc z
    ·rw[hc]at z;cases z;exact hb rfl
end
structure Un(fs ex:List Addr)(H H':Hp)(h h':Heap):Prop where
 keep:∀b o,h.get? b=some o->H b=none->b ∉fs->b ∉ex->h'.get? b=some o
 slot:∀b o,h.get? b=some o->H b=none->b∈fs->b ∉ex->∃sl,h'.get? b=some {o with slots:=sl}
 free:∀b o,h.get? b=some o->H b=none->b ∉ex->H' b=none
 there:∀b o,h.get? b=some o->b ∉ex->∃o',h'.get? b=some o'
 tups:∀b xs,H b=some (.tup xs)->H' b=some (.tup xs)
 frzs:∀b o u,H b=some (.frz o u)->H' b=some (.frz o u)
 tbls:∀b ps,H b=some (.tbl ps)->∃more,H' b=some (.tbl (ps++more))
section
variable {fs fs' ex ex':List Addr}{H H1 H2:Hp}{h h1 h2 h':Heap}{a x e:Addr}{o:HO}
theorem Un.any(u:Un fs ex H H1 h h1){b:Addr}{a:Obj}(q:h.get? b=some a)(n:H b=none)(c:b ∉ex):∃sl,h1.get? b=some {a with slots:=sl}:=by
 by_cases e:b∈fs
 ·exact u.slot b a q n e c
 ·exact⟨a.slots,u.keep b a q n e c⟩
theorem Un.kept(k:∀b u,h.get? b=some u->h'.get? b=some u):Un fs ex H H h h':=
 ⟨λb a q _ _ _=>k b a q,λb a q _ _ _=>⟨a.slots,k b a q⟩,λ_ _ _ n _=>n,λb a q _=>⟨a,k b a q⟩,λ_ _ q=>q,λ_ _ _ q=>q,λ_ ps q=>⟨#[],by rw[q];simp⟩⟩
theorem Un.refl:Un fs ex H H h h:=Un.kept λ_ _ q=>q
theorem Un.laid(k:∀b u,h.get? b=some u->h'.get? b=some u)(c:h.objs.size<=a)(hn:H a=none):Un fs ex H (upd H a o) h h' where
 keep:=λb u q _ _ _=>k b u q
 slot:=λb u q _ _ _=>⟨u.slots,k b u q⟩
 free:=λb u q n _=>by rw[xa7 (zN (zO (zJ q) c))];exact n
 there:=λb u q _=>⟨u,k b u q⟩
 tups:=λb xs q=>by rw[xa7 (neN q hn)];exact q
 frzs:=λb u xs q=>by rw[xa7 (neN q hn)];exact q
 tbls:=λb ps q=>⟨#[],by rw[xa7 (neN q hn),q];simp⟩
theorem Un.write(c:Mut (H x))(l:e=x\/H e=some (.own x))(k:∀b u,b≠e->h.get? b=some u->h'.get? b=some u)(g:∃u,h'.get? e=some u):Un fs ex H (upd H x o) h h':=by
 have i:∀b,H b=none->b≠x:=λb n z=>by subst z;rw[n]at c;exact c
 have j:∀b,H b=none->b≠e:=λb n z=>by
  subst z;rcases l with r |r
  ·exact i b n r
  ·rw[n]at r;cases r
 have f:∀b u,H b=some u->¬Mut (some u)->b≠x:=λb u q nm z=>by subst z;rw[q]at c;exact nm c
 refine⟨λb u q n _ _=>k b u (j b n) q,λb u q n _ _=>⟨u.slots,k b u (j b n) q⟩,λb u q n _=>by rw[xa7 (i b n)];exact n,λb u q _=>?_,
  λb xs q=>by rw[xa7 (f b _ q λz=>z)];exact q,λb u xs q=>by rw[xa7 (f b _ q λz=>z)];exact q,λb ps q=>⟨#[],by rw[xa7 (f b _ q λz=>z),q];simp⟩⟩
 by_cases a:b=e
 ·subst a;exact g
 ·exact⟨u,k b u a q⟩
end
def trk(h:Heap)(H:Hp):List Addr:=(List.range h.objs.size).filter λa=>(H a).isSome
def hidT(h:Heap)(H:Hp):Heap:=PySem.W.hideAll h (trk h H)
theorem xru(h:Heap)(H:Hp):(hidT h H).objs.size=h.objs.size:=PySem.W.hideAll_size _ _
theorem xtu{h:Heap}{H:Hp}{b:Addr}{o:Obj}(e:h.get? b=some o)(n:H b=none):(hidT h H).get? b=some o:=
 PySem.W.hideAll_get _ e λa=>by
  have q:(H b).isSome=true:=(List.mem_filter.mp a).2;rw[n]at q;simp at q
theorem xwe{h:Heap}{H:Hp}{b:Addr}{o:Obj}(e:(hidT h H).get? b=some o):h.get? b=some o/\H b=none:=by
 have a:h.get? b=some o:=PySem.W.of_hideAll (trk h H) e;refine⟨a,?_⟩
 cases q:H b with
 |none=>rfl
 |some x=>
  have c:b∈trk h H:=List.mem_filter.mpr ⟨List.mem_range.mpr (zJ a),by simp[q]⟩;have z:(hidT h H).get? b=none:=PySem.W.hideAll_none (trk h H) c;rw[z]at e;cases e
structure Mod(K:Fg)(mg:Str->Option Value)(base:Heap):Prop where
 kin:K.In base
 glob:base.Ns mainGlobals mg
 blt:∃mb,base.Ns builtinsNs mb/\∀x:Str,x≠"__name__"->mb x=bootBuiltins x
 nolimit:base.NoLimit
structure Cx where
 prog:Program
 w:World
 K:Fg
 mg:Str->Option Value
 base:Heap
 A:Around
 N:List Str
 s₀:Shared
 H₀:Hp
 env:Env
 outer:List Env
 stack:List Env
 ex:List Addr
 fn:Str->Bool
 calm:Bool
 pn:List (Addr×Obj)
 xe:Value->Shared->Prop
def frs(l:List Env):List Addr:=l.filterMap (·.frame)
abbrev Cx.fs(X:Cx):List Addr:=frs X.outer
def Vis(sc:Scope)(x:Str):Prop:=sc.names.lookup x=some .local\/sc.names.lookup x=some .cell\/sc.names.lookup x=some .free
def Loc(sc:Scope)(x:Str):Prop:=sc.names.lookup x=some .local\/sc.names.lookup x=some .cell
def Look(env:Env)(h:Heap)(m:Str->Option Value)(x:Str)(u:Value):Prop:=
 (env.kindOf x=some .local/\m x=some u)\/((env.kindOf x=some .cell\/env.kindOf x=some .free)/\∃c,env.cells.lookup x=some c/\h.IsCell c (some u))
structure Cx.Ok(X:Cx):Prop where
 mod:Mod X.K X.mg X.base
 kind:X.env.scope.kind=.function
 glob:X.env.globals=mainGlobals
 blt:X.env.builtins=builtinsNs
 above:X.s₀.heap.objs.size<=X.env.locals
 inj:∀x y c,X.env.cells.lookup x=some c->X.env.cells.lookup y=some c->x=y
 has:∀x,(X.env.kindOf x=some .cell\/X.env.kindOf x=some .free)->∃c,X.env.cells.lookup x=some c
 cab:∀x c,X.fn x=true->X.env.cells.lookup x=some c->X.s₀.heap.objs.size<=c
 hd:X.calm=true->X.A.handled=none
 frames:X.A.frames=some X.stack
 stk:X.stack=X.outer\/(X.stack=X.env::X.outer/\X.env.frame=some X.env.locals)
 exf:∀b∈X.ex,b≠X.env.locals/\∀x c,X.env.cells.lookup x=some c->c≠b
 bs:∀b o,X.base.get? b=some o->X.s₀.heap.get? b=some o/\X.H₀ b=none
 bsz:X.base.objs.size<=X.s₀.heap.objs.size
 noex:∀b o,X.base.get? b=some o->b ∉X.ex
 exfs:∀b∈X.ex,b ∉X.fs
 funs:X.s₀.heap.FunFrames X.base X.outer
 frf:∀b∈X.fs,X.H₀ b=none
structure Inv(X:Cx)(pins:List (Addr×Obj))(σ:List (Option V))(H:Hp)(s:Shared):Prop where
 ok:X.Ok
 os:s.os=X.s₀.os
 bare:AllBare s.gens
 base:Un X.fs X.ex X.H₀ H X.s₀.heap s.heap
 loc:∃m,s.heap.Ns X.env.locals m/\∀(i:Nat) (x:Str) (v:V),X.N[i]?=some x->σ[i]?=some (some v)->Vis X.env.scope x->∃u,RelV v u/\Look X.env s.heap m x u
 cell:∀x c,X.env.cells.lookup x=some c->∃v,s.heap.IsCell c v
 free:H X.env.locals=none
 freeC:∀x c,X.env.cells.lookup x=some c->H c=none
 pin:∀p∈X.pn++pins,s.heap.get? p.1=some p.2/\H p.1=none/\p.1≠X.env.locals/\p.1 ∉X.fs/\∀v,p.2.data≠.cell v
 hok:HOk X.prog X.w H s.heap
 len:σ.length=X.N.length
section
variable {X:Cx}{pins:List (Addr×Obj)}{σ:List (Option V)}{H H':Hp}{s:Shared}{h':Heap}
theorem Cx.Ok.nofr(ok:X.Ok){b:Addr}{o:Obj}(e:X.base.get? b=some o):b ∉X.fs:=λa=>by
 have:=(ok.funs.mem a).1;rw[e]at this;cases this
theorem Inv.bs(I:Inv X pins σ H s):∀b o,X.base.get? b=some o->s.heap.get? b=some o/\H b=none:=λb o e=>
 ⟨I.base.keep b o (I.ok.bs b o e).1 (I.ok.bs b o e).2 (I.ok.nofr e) (I.ok.noex b o e),I.base.free b o (I.ok.bs b o e).1 (I.ok.bs b o e).2 (I.ok.noex b o e)⟩
theorem Inv.bk(I:Inv X pins σ H s):∀b o,X.base.get? b=some o->s.heap.get? b=some o:=λb o e=>(I.bs b o e).1
theorem Inv.mod(I:Inv X pins σ H s):Mod X.K X.mg X.base:=I.ok.mod
theorem Inv.kIn(I:Inv X pins σ H s):X.K.In s.heap:=I.ok.mod.kin.keeps I.bk
theorem Inv.lt(I:Inv X pins σ H s):X.env.locals<s.heap.objs.size:=let ⟨_,hn,_⟩:=I.loc;hn.lt
theorem Inv.sz(I:Inv X pins σ H s):X.s₀.heap.objs.size<=s.heap.objs.size:=zF I.ok.above (Nat.le_of_lt I.lt)
theorem Inv.nofs(I:Inv X pins σ H s){a:Addr}(h:s.heap.objs.size<=a):a ∉X.fs:=λc=>by
 obtain⟨_,o,b,_⟩:=I.ok.funs.mem c;exact absurd (zO (zJ b) (zF I.sz h)) (zR _)
theorem Inv.cne(I:Inv X pins σ H s):∀x c,X.env.cells.lookup x=some c->c≠X.env.locals:=λx c e z=>by
 obtain⟨v,o,f,g⟩:=I.cell x c e;obtain⟨m,⟨o',es,ep,a,b,_⟩,_⟩:=I.loc;rw[z,a]at f;cases f;rw[b]at g;cases g
theorem Inv.funs(I:Inv X pins σ H s):s.heap.FunFrames X.base X.outer:=by
 have all:∀(l:List Env),(∀b∈frs l,b∈X.fs)->X.s₀.heap.FunFrames X.base l->s.heap.FunFrames X.base l:=by
  intro l
  induction l with
  |nil=>intro _ _;trivial
  |cons env r g=>
   intro hs j;obtain⟨m,⟨L,o,a,hn,i,n⟩,h⟩:=j;have f:L∈X.fs:=hs L (by unfold frs;rw[List.filterMap_cons,a];exact List.mem_cons_self);obtain⟨sl,e⟩:=I.base.slot L o i (I.ok.frf L f) f λz=>I.ok.exfs L z f;exact⟨m,⟨L,_,a,hn,e,n⟩,g (λb c=>hs b (by unfold frs;rw[List.filterMap_cons,a];exact zP _ c)) h⟩
 exact all X.outer (λ_ c=>c) I.ok.funs
theorem Inv.stack(I:Inv X pins σ H s):s.heap.FunFrames X.base X.stack:=by
 rcases I.ok.stk with e |⟨e,hf⟩
 ·rw[e];exact I.funs
 ·rw[e]
  obtain⟨m,hn,_⟩:=I.loc;refine .cons (by rw[I.ok.kind];decide) hf hn ?_ I.funs;exact Heap.get?_none_of_le (zF I.ok.bsz I.ok.above)
theorem Inv.stkSub(I:Inv X pins σ H s):∀b∈frs X.stack,b∈X.env.locals::X.fs:=λb a=>by
 rcases I.ok.stk with e |⟨e,c⟩
 ·rw[e]at a;exact zP _ a
 ·rw[e]at a
  unfold frs at a;rw[List.filterMap_cons,c]at a;exact a
theorem Inv.stkFree(I:Inv X pins σ H s):∀b∈frs X.stack,H b=none:=λb a=>by
 rcases zMC (I.stkSub b a) with e |a
 ·rw[e];exact I.free
 ·obtain⟨_,o,c,_⟩:=I.ok.funs.mem a
  exact I.base.free b o c (I.ok.frf b a) λz=>I.ok.exfs b z a
theorem Inv.step {g':Array GenState} {t':Nat} {d':Drawn} {ch:List Addr} (I:Inv X pins σ H s)
  (hch:∀b∈ch,(b∈X.ex\/X.s₀.heap.objs.size<=b)/\b≠X.env.locals/\(∀x c,X.env.cells.lookup x=some c->c≠b)/\∀p∈X.pn++pins,p.1≠b)
  (keep:∀b o,b≠X.env.locals->b ∉X.fs->b ∉ch->s.heap.get? b=some o->H b=none->h'.get? b=some o)
  (slot:∀b o,b≠X.env.locals->b∈X.fs->b ∉ch->s.heap.get? b=some o->H b=none->∃sl,h'.get? b=some {o with slots:=sl}) (free:∀b o,b ∉ch->s.heap.get? b=some o->H b=none->H' b=none)
  (there:∀b o,b ∉ch->s.heap.get? b=some o->∃o',h'.get? b=some o')
  (tups:∀b xs,H b=some (.tup xs)->H' b=some (.tup xs)) (frzs:∀b o u,H b=some (.frz o u)->H' b=some (.frz o u)) (tbls:∀b ps,H b=some (.tbl ps)->∃more,H' b=some (.tbl (ps++more)))
  (ns:∀m,s.heap.Ns X.env.locals m->h'.Ns X.env.locals m) (hok:HOk X.prog X.w H' h') (hg:AllBare g') :
  Inv X pins σ H' {s with heap:=h',gens:=g',drawn:=d',toks:=t'}:=by
 have neL:∀b o,X.s₀.heap.get? b=some o->b≠X.env.locals:=λb o e=>zN (zO (zJ e) I.ok.above)
 have neC:∀b o,X.s₀.heap.get? b=some o->b ∉X.ex->b ∉ch:=λb o e hx hb=>by
  rcases(hch b hb).1 with z |z
  ·exact hx z
  ·exact absurd (zO (zJ e) z) (zR _)
 have cellK:∀x c,X.env.cells.lookup x=some c->∀v,s.heap.IsCell c v->h'.IsCell c v:=λx c e v ⟨o,ho,hd⟩=>by
  have nch:c ∉ch:=λz=>(hch c z).2.2.1 x c e rfl;by_cases hc:c∈X.fs
  ·obtain⟨sl,q⟩:=slot c o (I.cne x c e) hc nch ho (I.freeC x c e)
   exact⟨_,q,hd⟩
  ·exact⟨o,keep c o (I.cne x c e) hc nch ho (I.freeC x c e),hd⟩
 refine⟨I.ok,I.os,hg,⟨λb o e n hb hx=>?_,λb o e n hb hx=>?_,λb o e n hx=>?_,λb o e hx=>?_,λb xs e=>tups b xs (I.base.tups b xs e),λb o xs e=>frzs b o xs (I.base.frzs b o xs e),λb ps e=>?_⟩,?_,λx c e=>?_,?_,λx c e=>?_,λp hp=>?_,hok,I.len⟩
 ·exact keep b o (neL b o e) hb (neC b o e hx) (I.base.keep b o e n hb hx) (I.base.free b o e n hx)
 ·obtain⟨sl,e1⟩:=I.base.slot b o e n hb hx
  obtain⟨sl',e2⟩:=slot b _ (neL b o e) hb (neC b o e hx) e1 (I.base.free b o e n hx);exact⟨sl',e2⟩
 ·obtain⟨o',e1⟩:=I.base.there b o e hx
  exact free b o' (neC b o e hx) e1 (I.base.free b o e n hx)
 ·obtain⟨o',e1⟩:=I.base.there b o e hx
  exact there b o' (neC b o e hx) e1
 ·obtain⟨m1,e1⟩:=I.base.tbls b ps e
  obtain⟨m2,e2⟩:=tbls b _ e1;exact⟨m1++m2,by rw[e2,Array.append_assoc]⟩
 ·obtain⟨m,hn,hl⟩:=I.loc
  refine⟨m,ns m hn,λi x v e1 e2 e3=>?_⟩;obtain⟨u,r,l⟩:=hl i x v e1 e2 e3;refine⟨u,r,?_⟩;rcases l with l |⟨k,c,e,z⟩
  ·exact .inl l
  ·exact .inr ⟨k,c,e,cellK x c e _ z⟩
 ·obtain⟨v,z⟩:=I.cell x c e
  exact⟨v,cellK x c e v z⟩
 ·obtain⟨m,⟨o,_,_,ho,_⟩,_⟩:=I.loc
  exact free _ o (λz=>(hch _ z).2.1 rfl) ho I.free
 ·obtain⟨v,o,ho,hd⟩:=I.cell x c e
  exact free c o (λz=>(hch c z).2.2.1 x c e rfl) ho (I.freeC x c e)
 ·obtain⟨e,n,ne,nf,d⟩:=I.pin p hp
  have nch:p.1 ∉ch:=λz=>(hch p.1 z).2.2.2 p hp rfl;exact⟨keep p.1 p.2 ne nf nch e n,free p.1 p.2 nch e n,ne,nf,d⟩
theorem Inv.un{t':Nat}(I:Inv X pins σ H s)(u:Un X.fs [] H H' s.heap h')(hok:HOk X.prog X.w H' h'):Inv X pins σ H' {s with heap:=h',toks:=t'}:=by
 obtain⟨m,⟨o,es,ep,ho,r⟩,_⟩:=id I.loc;obtain⟨sl,hL⟩:=u.any ho I.free (by simp)
 exact I.step (g':=s.gens) (d':=s.drawn) (ch:=[]) (λ_ z=>nomatch z) (λb o _ hb _ e n=>u.keep b o e n hb (by simp)) (λb o _ hb _ e n=>u.slot b o e n hb (by simp)) (λb o _ e n=>u.free b o e n (by simp)) (λb o _ e=>u.there b o e (by simp)) u.tups u.frzs u.tbls (λm' hm=>by
  obtain⟨o',es',ep',ho',r'⟩:=hm;rw[ho]at ho';cases ho';exact⟨_,es',ep',hL,r'⟩) hok I.bare
theorem Inv.call {g':Array GenState} {t':Nat} {d':Drawn} {ch:List Addr} (I:Inv X pins σ H s) (u:Un (frs X.stack) ch H H' s.heap h') (hok:HOk X.prog X.w H' h') (hg:AllBare g')
  (hch:∀b∈ch,(b∈X.ex\/X.s₀.heap.objs.size<=b)/\b≠X.env.locals/\(∀x c,X.env.cells.lookup x=some c->c≠b)/\∀p∈X.pn++pins,p.1≠b) :
  Inv X pins σ H' {s with heap:=h',gens:=g',drawn:=d',toks:=t'}:=by
 obtain⟨m,⟨o,es,ep,ho,r⟩,_⟩:=id I.loc;obtain⟨sl,hL⟩:=u.any ho I.free λz=>(hch _ z).2.1 rfl
 exact I.step (ch:=ch) hch (λb o hL hb hc e n=>u.keep b o e n (λz=>(zMC (I.stkSub b z)).elim hL hb) hc) (λb o _ _ hc e n=>u.any e n hc) (λb o hc e n=>u.free b o e n hc) (λb o hc e=>u.there b o e hc) u.tups u.frzs u.tbls (λm' hm=>by
  obtain⟨o',es',ep',ho',r'⟩:=hm;rw[ho]at ho';cases ho';exact⟨_,es',ep',hL,r'⟩) hok hg
theorem Inv.turned {t':Nat} {it:Addr} (I:Inv X pins σ H s) (k:∀b o,b≠it->s.heap.get? b=some o->h'.get? b=some o) (hn:H it=none) (hL:it≠X.env.locals)
  (h1:it∈X.ex\/X.s₀.heap.objs.size<=it) (h2:∀x c,X.env.cells.lookup x=some c->c≠it) (h3:∀p∈X.pn++pins,p.1≠it):Inv X pins σ H {s with heap:=h',toks:=t'}:=by
 have nit:∀b u,H b=some u->b≠it:=λb u e z=>by rw[z,hn]at e;cases e
 refine I.step (g':=s.gens) (d':=s.drawn) (ch:=[it]) (λb hb=>?_) (λb o _ _ hc e _=>k b o (λz=>hc (by simp[z])) e) (λb o _ _ hc e _=>⟨o.slots,k b o (λz=>hc (by simp[z])) e⟩) (λ_ _ _ _ n=>n)
  (λb o hc e=>⟨o,k b o (λz=>hc (by simp[z])) e⟩) (λ_ _ e=>e) (λ_ _ _ e=>e) (λb ps e=>⟨#[],by rw[e];simp⟩) (λm hm=>?_) (λb u e=>?_) I.bare
 ·have e:b=it:=by simpa using hb
  subst e;exact⟨h1,hL,h2,h3⟩
 ·obtain⟨o,es,ep,ho,r⟩:=hm
  exact⟨o,es,ep,k _ o (Ne.symm hL) ho,r⟩
 ·refine(I.hok b u e).stay (λc v hc q=>k c v ?_ q) (λ_ q=>q) λ_ _ q=>q
  rcases hc with z |z
  ·rw[z];exact nit b u e
  ·exact nit c _ z
theorem Inv.tok(I:Inv X pins σ H s)(t:Nat):Inv X pins σ H {s with toks:=t}:=I.un (h':=s.heap) (t':=t) Un.refl I.hok
theorem Inv.kept{t':Nat}(I:Inv X pins σ H s)(k:∀b u,s.heap.get? b=some u->h'.get? b=some u):Inv X pins σ H {s with heap:=h',toks:=t'}:=I.un (Un.kept k) (I.hok.kept k)
theorem Inv.laid {a:Addr} {o:HO} {t':Nat} (I:Inv X pins σ H s) (k:∀b u,s.heap.get? b=some u->h'.get? b=some u) (hp:s.heap.objs.size<=a) (new:ObjOk X.prog X.w (upd H a o) h' a o) :
  Inv X pins σ (upd H a o) {s with heap:=h',toks:=t'}:=I.un (Un.laid k hp (I.hok.fresh hp)) (I.hok.laid k hp new)
theorem Inv.write {x e:Addr} {o:HO} {t':Nat} (I:Inv X pins σ H s) (mu:Mut (H x)) (he:e=x\/H e=some (.own x)) (k:∀b u,b≠e->s.heap.get? b=some u->h'.get? b=some u) (heo:∃u,h'.get? e=some u)
  (new:ObjOk X.prog X.w (upd H x o) h' x o):Inv X pins σ (upd H x o) {s with heap:=h',toks:=t'}:=I.un (Un.write mu he k heo) (I.hok.write mu he k heo new)
theorem Inv.weak{σ':List (Option V)}(I:Inv X pins σ H s)(hl:σ'.length=σ.length)(w:∀(i:Nat) v,σ'[i]?=some (some v)->σ[i]?=some (some v)):Inv X pins σ' H s:=
 ⟨I.ok,I.os,I.bare,I.base,let ⟨m,hn,hl'⟩:=I.loc;⟨m,hn,λi x v e1 e2 e3=>hl' i x v e1 (w i v e2) e3⟩,I.cell,I.free,I.freeC,I.pin,I.hok,hl.trans I.len⟩
theorem Inv.pins_of{a:List (Addr×Obj)}(I:Inv X pins σ H s)(h:∀p∈a,s.heap.get? p.1=some p.2/\H p.1=none/\p.1≠X.env.locals/\p.1 ∉X.fs/\∀v,p.2.data≠.cell v):Inv X a σ H s:=
 ⟨I.ok,I.os,I.bare,I.base,I.loc,I.cell,I.free,I.freeC,λp b=>(zMA b).elim (λz=>I.pin p (List.mem_append_left _ z)) (h p),I.hok,I.len⟩
theorem xjg{N:List Str}(c:N.Nodup){i j:Nat}{x:Str}(a:N[i]?=some x)(b:N[j]?=some x):i=j:=by
 obtain⟨h1,f⟩:=zES a;obtain⟨h2,e⟩:=zES b;exact(List.getElem_inj c).mp (f.trans e.symm)
theorem xj6 {M:Model} {A:Around} {E:Value->Shared->Prop} {i:Nat} {x:Str} {v:V} {u:Value} {Q:Unit->Shared->Prop} (I:Inv X pins σ H s) (hN:X.N.Nodup) (hi:X.N[i]?=some x) (hx:Loc X.env.scope x) (r:RelV v u)
  (h:∀s',Inv X pins (σ.set i (some v)) H s'->(∃a,Heap.SameBut a s.heap s'.heap/\(a=X.env.locals\/X.env.cells.lookup x=some a))->Q () s') (hf:X.fn x=true\/X.env.scope.names.lookup x=some .local:=by first |exact .inl rfl |exact .inr rfl |assumption):wpAny M A (storeName X.env x u) Q E s:=by
 obtain⟨m,hn,hl⟩:=id I.loc;have hcls:(X.env.scope.kind == .class || (X.env.scope.kind == .module && X.env.locals != X.env.globals))=false:=by rw[I.ok.kind];rfl
 have hiσ:i<σ.length:=by rw[I.len];exact(zES hi).1
 have cne:=I.cne
 have tracked:∀{a:Addr} {h':Heap},(∃o,s.heap.get? a=some o/\H a=none)->Heap.SameBut a s.heap h'->HOk X.prog X.w H h':=λ{a h'} ha hs b ob e=>by
  obtain⟨_,_,hfree⟩:=ha;refine(I.hok b ob e).stay (λc w' hc q=>(hs.2 c ?_).trans q) (λ_ q=>q) λ_ _ q=>q;rintro rfl;rcases hc with rfl |hc
  ·rw[hfree]at e;cases e
  ·rw[hfree]at hc;cases hc
 rcases hx with hk |hk
 ·refine wpAny_storeName_local hk hn (λh' hn' hs=>?_) hcls
  obtain⟨oL,_,_,hoL,_⟩:=id hn;refine h _ ⟨I.ok,I.os,I.bare,⟨λb o e n hb hx=>?_,λb o e n hb hx=>?_,I.base.free,λb o e hx=>?_,I.base.tups,I.base.frzs,I.base.tbls⟩,⟨_,hn',λj y v' e1 e2 e3=>?_⟩,λy c e=>?_,I.free,I.freeC,λp hp=>?_,tracked ⟨oL,hoL,I.free⟩ hs,by simpa using I.len⟩ ⟨_,hs,.inl rfl⟩
  ·exact(hs.2 b (zN (zO (zJ e) I.ok.above))).trans (I.base.keep b o e n hb hx)
  ·obtain⟨sl,e1⟩:=I.base.slot b o e n hb hx
   exact⟨sl,(hs.2 b (zN (zO (zJ e) I.ok.above))).trans e1⟩
  ·obtain⟨o',e1⟩:=I.base.there b o e hx
   exact⟨o',(hs.2 b (zN (zO (zJ e) I.ok.above))).trans e1⟩
  ·by_cases hj:j=i
   ·subst hj
    rw[hi]at e1;cases e1;rw[List.getElem?_set_self hiσ]at e2;cases e2;exact⟨u,r,.inl ⟨hk,by simp⟩⟩
   ·rw[List.getElem?_set_ne (Ne.symm hj)]at e2
    obtain⟨u',r',q⟩:=hl j y v' e1 e2 e3;refine⟨u',r',?_⟩;rcases q with⟨k,e⟩ |⟨k,c,e,z⟩
    ·refine .inl ⟨k,?_⟩
     have:y≠x:=λe=>hj (xjg hN e1 (e ▸ hi));simp[this,e]
    ·exact .inr ⟨k,c,e,z.sameBut hs (cne y c e)⟩
  ·obtain⟨w',z⟩:=I.cell y c e
   exact⟨w',z.sameBut hs (cne y c e)⟩
  ·obtain⟨e,n,ne,nf,d⟩:=I.pin p hp
   exact⟨(hs.2 p.1 ne).trans e,n,ne,nf,d⟩
 ·have hfn:X.fn x=true:=by
   rcases hf with z |z
   ·exact z
   ·rw[z]at hk;cases hk
  obtain⟨c,hc⟩:=I.ok.has x (.inl hk);obtain⟨w',z⟩:=I.cell x c hc;refine wpAny_storeName_cell I.ok.kind hk hc z (λh' hc' hs=>?_);obtain⟨oc,hoc,hocd⟩:=id z;refine h {s with heap:=h'} ⟨I.ok,I.os,I.bare,⟨λb o e n hb hx=>?_,λb o e n hb hx=>?_,I.base.free,λb o e hx=>?_,I.base.tups,I.base.frzs,I.base.tbls⟩,⟨m,hn.sameBut hs (Ne.symm (cne x c hc)),λj y v' e1 e2 e3=>?_⟩,λy c' e=>?_,I.free,I.freeC,λp hp=>?_,tracked ⟨oc,hoc,I.freeC x c hc⟩ hs,by simpa using I.len⟩ ⟨c,hs,.inr hc⟩
  ·exact(hs.2 b (zN (zO (zJ e) (I.ok.cab x c hfn hc)))).trans (I.base.keep b o e n hb hx)
  ·obtain⟨sl,e1⟩:=I.base.slot b o e n hb hx
   exact⟨sl,(hs.2 b (zN (zO (zJ e) (I.ok.cab x c hfn hc)))).trans e1⟩
  ·obtain⟨o',e1⟩:=I.base.there b o e hx
   exact⟨o',(hs.2 b (zN (zO (zJ e) (I.ok.cab x c hfn hc)))).trans e1⟩
  ·by_cases hj:j=i
   ·subst hj
    rw[hi]at e1;cases e1;rw[List.getElem?_set_self hiσ]at e2;cases e2;exact⟨u,r,.inr ⟨.inl hk,c,hc,hc'⟩⟩
   ·rw[List.getElem?_set_ne (Ne.symm hj)]at e2
    obtain⟨u',r',q⟩:=hl j y v' e1 e2 e3;refine⟨u',r',?_⟩;rcases q with q |⟨k,c',e,z'⟩
    ·exact .inl q
    ·refine .inr ⟨k,c',e,z'.sameBut hs ?_⟩
     rintro rfl;exact hj (xjg hN e1 (I.ok.inj _ _ _ e hc ▸ hi))
  ·by_cases hcc:c'=c
   ·subst hcc;exact⟨_,hc'⟩
   ·obtain⟨w2,z2⟩:=I.cell y c' e
    exact⟨w2,z2.sameBut hs hcc⟩
  ·obtain⟨e,n,ne,nf,d⟩:=I.pin p hp
   refine⟨(hs.2 p.1 ?_).trans e,n,ne,nf,d⟩;intro q;rw[q,hoc]at e;have q':oc=p.2:=zM e;exact d w' (by rw[<- q'];exact hocd)
theorem xiz {M:Model} {A:Around} {E:Value->Shared->Prop} {i:Nat} {x:Str} {v:V} {u:Value} {Q:Unit->Shared->Prop} (I:Inv X pins σ H s) (c:X.N.Nodup) (hi:X.N[i]?=some x) (a:Loc X.env.scope x) (r:RelV v u)
  (h:∀s',Inv X pins (σ.set i (some v)) H s'->Q () s') (b:X.fn x=true\/X.env.scope.names.lookup x=some .local:=by first |exact .inl rfl |exact .inr rfl |assumption):wpAny M A (storeName X.env x u) Q E s:=
 xj6 I c hi a r (λs' e _=>h s' e) b
theorem Inv.call' {s':Shared} {ch:List Addr} (I:Inv X pins σ H s) (ho:s'.os=s.os) (u:Un (frs X.stack) ch H H' s.heap s'.heap) (hok:HOk X.prog X.w H' s'.heap) (hg:AllBare s'.gens)
  (hch:∀b∈ch,(b∈X.ex\/X.s₀.heap.objs.size<=b)/\b≠X.env.locals/\(∀x c,X.env.cells.lookup x=some c->c≠b)/\∀p∈X.pn++pins,p.1≠b):Inv X pins σ H' s':=by
 obtain⟨h',g',d',t',o'⟩:=s';have e:o'=s.os:=ho;subst e;exact I.call (g':=g') (t':=t') (d':=d') u hok hg hch
end
abbrev XK:=Value->Option Addr->Hp->Prop
abbrev St:=List (Option V)
abbrev VK:=V->Hp->Prop
abbrev TE:=St->Hp->VK->Prop
abbrev TT:=St->Hp->(Bool->Hp->Prop)->Prop
abbrev TA:=St->Hp->(List V->Hp->Prop)->Prop
structure Ends where
 nx:St->Hp->Prop
 rt:VK
 bk:St->Hp->Prop:=λ_ _=>False
 ct:St->Hp->Prop:=λ_ _=>False
abbrev TS:=Ends->St->Hp->Prop
def EP(X:Cx)(pins:List (Addr×Obj))(σ:St)(Q:VK)(u:Value)(s':Shared):Prop:=∃v H',Inv X pins σ H' s'/\RelV v u/\Q v H'
def TP(X:Cx)(pins:List (Addr×Obj))(σ:St)(Q:Bool->Hp->Prop)(b:Bool)(s':Shared):Prop:=∃H',Inv X pins σ H' s'/\Q b H'
def AP(X:Cx)(pins:List (Addr×Obj))(σ:St)(Q:List V->Hp->Prop)(us:List Value)(s':Shared):Prop:=∃vs H',Inv X pins σ H' s'/\Vals vs us/\Q vs H'
def SP(X:Cx)(pins:List (Addr×Obj))(D:Ends)(f:Flow)(s':Shared):Prop:=
 match f with
 |.next=>∃σ' H',Inv X pins σ' H' s'/\D.nx σ' H'
 |.brk=>∃σ' H',Inv X pins σ' H' s'/\D.bk σ' H'
 |.cont=>∃σ' H',Inv X pins σ' H' s'/\D.ct σ' H'
 |.ret u=>∃v σ' H',Inv X pins σ' H' s'/\RelV v u/\D.rt v H'
def PE(X:Cx)(e:Expr)(t:TE):Prop:=
 ∀(pins:List (Addr×Obj)) (s:Shared) (σ:St) (H:Hp) (Q:VK),Inv X pins σ H s->t σ H Q->wpAny (model X.prog X.w) X.A (eval e X.env) (EP X pins σ Q) X.xe s
def PT(X:Cx)(e:Expr)(t:TT):Prop:=
 ∀(pins:List (Addr×Obj)) (s:Shared) (σ:St) (H:Hp) (Q:Bool->Hp->Prop),Inv X pins σ H s->t σ H Q->wpAny (model X.prog X.w) X.A (isTrue e X.env (eval e X.env)) (TP X pins σ Q) X.xe s
def PW(X:Cx)(e:Expr)(t:TT):Prop:=
 ∀(whole:Sem Value) (pins:List (Addr×Obj)) (s:Shared) (σ:St) (H:Hp) (Q:Bool->Hp->Prop),Inv X pins σ H s->t σ H Q->wpAny (model X.prog X.w) X.A (isTrue e X.env whole) (TP X pins σ Q) X.xe s
theorem PW.pt{X:Cx}{e:Expr}{t:TT}(h:PW X e t):PT X e t:=h _
def PA(X:Cx)(es:List Expr)(t:TA):Prop:=
 ∀(pos:Pos) (pins:List (Addr×Obj)) (s:Shared) (σ:St) (H:Hp) (Q:List V->Hp->Prop),Inv X pins σ H s->t σ H Q->wpAny (model X.prog X.w) X.A (spliced (backTo pos (starEach es X.env))) (AP X pins σ Q) X.xe s
def PS(X:Cx)(st:Stmt)(t:TS):Prop:=
 ∀(pins:List (Addr×Obj)) (s:Shared) (σ:St) (H:Hp) (D:Ends),Inv X pins σ H s->t D σ H->wpAny (model X.prog X.w) X.A (exec st X.env) (SP X pins D) X.xe s
def PSs(X:Cx)(st:List Stmt)(t:TS):Prop:=
 ∀(pins:List (Addr×Obj)) (s:Shared) (σ:St) (H:Hp) (D:Ends),Inv X pins σ H s->t D σ H->wpAny (model X.prog X.w) X.A (execs st X.env) (SP X pins D) X.xe s
theorem thn{α:Type}{t:Sem α}{Q Q':α->Shared->Prop}{M:Model}{A:Around}{E:Value->Shared->Prop}{s:Shared}(h:wpAny M A t Q E s)(hQ:∀a s,Q a s->Q' a s):wpAny M A t Q' E s:=wpAny_mono h hQ λ_ _ x=>x
section
variable {X:Cx}
def tVar(i:Nat):TE:=λσ H Q=>∃v,σ[i]?=some (some v)/\Q v H
def tC(v:V):TE:=λ_ H Q=>Q v H
theorem xyd{i:Nat}{x:Str}{pos:Pos}(w:X.N[i]?=some x)(n:Vis X.env.scope x)(f:(x == ("__debug__":Str))=false:=by decide)(g:(x == ("__classdict__":Str))=false:=by decide):PE X (.Name x pos) (tVar i):=by
 intro pins s σ H Q I h;obtain⟨v,e,h⟩:=h;obtain⟨m,hn,p⟩:=I.loc;obtain⟨u,r,l⟩:=p i x v w e n;have fin:EP X pins σ Q u s:=⟨v,H,I,r,h⟩;rcases l with⟨b,o⟩ |⟨b,c,j,a⟩
 ·exact wpAny_Name (wpAny_loadName_local I.ok.kind b hn o fin) f
 ·rcases b with b |b
  ·exact wpAny_Name (wpAny_loadName_cell I.ok.kind b j a fin) f
  ·exact wpAny_Name (wpAny_loadName_free I.ok.kind b j a fin g) f
theorem pI{i j pos}:PE X (.Constant (.int i) j pos) (tC (.int i)):=λ_ _ _ H _ I h=>wpAny_Constant_int ⟨.int i,H,I.tok _,⟨_,rfl⟩,h⟩
theorem xh1{b j pos}:PE X (.Constant (.bool b) j pos) (tC (.bl b)):=λ_ _ _ H _ I h=>Constant_bool ⟨.bl b,H,I,rfl,h⟩
theorem xc5{j pos}:PE X (.Constant .none j pos) (tC .non):=λ_ _ _ H _ I h=>Constant_none ⟨.non,H,I,rfl,h⟩
theorem pS{x j pos}:PE X (.Constant (.str x) j pos) (tC (.str x)):=λ_ _ _ H _ I h=>Calls.Constant_str ⟨.str x,H,I.tok _,⟨_,rfl⟩,h⟩
def Gl(X:Cx)(x:Str):Prop:=X.env.kindOf x=some .globalImplicit
theorem xhl {E:Value->Shared->Prop} {pins:List (Addr×Obj)} {s:Shared} {σ:St} {H:Hp} {x:Str} {u:Value} {pos:Pos} {Q:Value->Shared->Prop} (I:Inv X pins σ H s) (b:Gl X x) (a:X.mg x=some u) (h:Q u s)
  (c:(x == ("__debug__":Str))=false:=by decide):wpAny (model X.prog X.w) X.A (eval (.Name x pos) X.env) Q E s:=
 Calls.Name_function_global I.ok.kind b (Calls.loadGlobal_global (by rw[I.ok.glob];exact I.mod.glob.keeps I.bk) a h) c
theorem xfy {E:Value->Shared->Prop} {pins:List (Addr×Obj)} {s:Shared} {σ:St} {H:Hp} {x:Str} {u:Value} {pos:Pos} {Q:Value->Shared->Prop} (I:Inv X pins σ H s) (c:Gl X x) (b:X.mg x=none) (a:bootBuiltins x=some u) (h:Q u s)
  (hn:x≠"__name__":=by decide) (e:(x == ("__debug__":Str))=false:=by decide):wpAny (model X.prog X.w) X.A (eval (.Name x pos) X.env) Q E s:=by
 obtain⟨f,h1,h2⟩:=I.mod.blt;exact Calls.Name_function_global I.ok.kind c (Calls.loadGlobal_builtin (by rw[I.ok.glob];exact I.mod.glob.keeps I.bk) b (by rw[I.ok.blt];exact h1.keeps I.bk) ((h2 x hn).trans a) h) e
theorem xqn{x:Str}{v:V}{u:Value}{pos:Pos}(hg:Gl X x)(hm:X.mg x=some u)(r:RelV v u)(hd:(x == ("__debug__":Str))=false:=by decide):PE X (.Name x pos) (tC v):=
 λ_ _ _ H _ I h=>xhl I hg hm ⟨v,H,I,r,h⟩ hd
theorem xv2{x:Str}{v:V}{u:Value}{pos:Pos}(c:Gl X x)(b:X.mg x=none)(a:bootBuiltins x=some u)(r:RelV v u)(hn:x≠"__name__":=by decide)(e:(x == ("__debug__":Str))=false:=by decide):PE X (.Name x pos) (tC v):=
 λ_ _ _ H _ I h=>xfy I c b a ⟨v,H,I,r,h⟩ hn e
variable {a b:Expr}{ta tb:TE}{pos:Pos}
def PC(X:Cx)(op:CmpOp)(a b:Expr)(t:TE):Prop:=
 ∀(pins:List (Addr×Obj)) (s:Shared) (σ:St) (H:Hp) (Q:VK),Inv X pins σ H s->t σ H Q->
  wpAny (model X.prog X.w) X.A (eval a X.env) (λv s₁=>wpAny (model X.prog X.w) X.A (eval b X.env) (λu s₂=>wpAny (model X.prog X.w) X.A (compareOp op v u) (EP X pins σ Q) X.xe s₂) X.xe s₁) X.xe s
def tB(t:TE):TT:=λσ H Q=>t σ H λx H1=>∃c,x=.bl c/\Q c H1
theorem xfp{op:CmpOp}{t:TE}(h:PC X op a b t)(h1:behindInMarks op b=false:=by first |exact nobehind _ (by decide) (by decide) |rfl):PT X (.Compare a [op] [b] pos) (tB t):=by
 intro pins s σ H Q I g;refine wpAny_isTrue_Compare1 (thn (h pins s σ H _ I g) λv m h1=>thn h1 λu l h2=>thn h2 λc j ⟨x,H1,i,e,f⟩=>?_) h1;obtain⟨d,rfl,q⟩:=f;cases e;exact wpAny_truthy_bool ⟨H1,i,q⟩
theorem xqf{e:Expr}{t:TE}(h:PE X e t)(he:∀whole,isTrue e X.env whole=(do let v <- whole;standAt e.pos;holding [v] (truthy v)):=by intro _;rfl):PT X e (tB t):=by
 intro pins s σ H Q I hw;refine isTrue_plain (thn (h pins s σ H _ I hw) λv s1 ⟨x,H1,I1,r1,q1⟩=>?_) (he _);obtain⟨d,rfl,q⟩:=q1;cases r1;exact wpAny_truthy_bool ⟨H1,I1,q⟩
variable {tA tB':TT}{rest:List Expr}
def tAnd(t u:TT):TT:=λσ H Q=>t σ H λc H1=>if c=true then u σ H1 Q else Q false H1
def tOr(t u:TT):TT:=λσ H Q=>t σ H λc H1=>if c=true then Q true H1 else u σ H1 Q
def tNot(t:TT):TT:=λσ H Q=>t σ H λc H1=>Q (!c) H1
theorem xby(b:PT X a tA):PW X (.BoolOp .And [a] pos) tA:=by
 intro f pins s σ H Q I h;refine isTrue_and (thn (b pins s σ H Q I h) λc g e=>?_)
 cases c with
 |true=>exact isTrue_and_nil e
 |false=>exact e
theorem xhb(b:PT X a tA):PW X (.BoolOp .Or [a] pos) tA:=by
 intro f pins s σ H Q I h;refine isTrue_or (thn (b pins s σ H Q I h) λc g e=>?_)
 cases c with
 |false=>exact isTrue_or_nil e
 |true=>exact e
theorem xcg(l:PT X a tA)(j:PW X (.BoolOp .And (b::rest) pos) tB'):PW X (.BoolOp .And (a::b::rest) pos) (tAnd tA tB'):=by
 intro g pins s σ H Q I h;refine isTrue_and (thn (l pins s σ H _ I h) λc i ⟨H1,f,e⟩=>?_)
 cases c with
 |true=>exact j g pins i σ H1 Q f e
 |false=>exact⟨H1,f,e⟩
theorem xi7(l:PT X a tA)(j:PW X (.BoolOp .Or (b::rest) pos) tB'):PW X (.BoolOp .Or (a::b::rest) pos) (tOr tA tB'):=by
 intro g pins s σ H Q I h;refine isTrue_or (thn (l pins s σ H _ I h) λc i ⟨H1,f,e⟩=>?_)
 cases c with
 |true=>exact⟨H1,f,e⟩
 |false=>exact j g pins i σ H1 Q f e
theorem xqg(b:PT X a tA):PT X (.UnaryOp .Not a pos) (tNot tA):=by
 intro pins s σ H Q I h;exact isTrue_not (b pins s σ H (λc H1=>Q (!c) H1) I h)
def xzt(ta tb:TE):TE:=λσ H Q=>ta σ H λx H1=>∃c,x=.bl c/\if c=true then tb σ H1 Q else Q (.bl false) H1
def xzp(ta:TE):TE:=λσ H Q=>ta σ H λx H1=>∃c,x=.bl c/\Q (.bl (!c)) H1
theorem xqm{op}{t:TE}(h:PE X a t):PE X (.BoolOp op [a] pos) t:=λpins s σ H Q I b=>BoolOp_one (h pins s σ H Q I b)
theorem xqq(l:PE X a ta)(j:PE X (.BoolOp .And (b::rest) pos) tb):PE X (.BoolOp .And (a::b::rest) pos) (xzt ta tb):=by
 intro pins s σ H Q I h;refine BoolOp_and (thn (l pins s σ H _ I h) λv g ⟨x,H1,f,i,e⟩=>?_);obtain⟨c,rfl,e⟩:=e;cases i;refine wpAny_truthy_bool ?_
 cases c with
 |true=>exact j pins g σ H1 Q f e
 |false=>exact⟨.bl false,H1,f,rfl,e⟩
theorem xye(f:PE X a ta):PE X (.UnaryOp .Not a pos) (xzp ta):=by
 intro pins s σ H Q I h;refine UnaryOp_ (thn (f pins s σ H _ I h) λv i ⟨x,H1,g,e,b⟩=>?_);obtain⟨c,rfl,b⟩:=b;cases e;exact not_of (wpAny_truthy_bool ⟨.bl (!c),H1,g,rfl,b⟩)
end
def SqL(K:Fg)(H:Hp)(a:Addr)(xs:List V):Prop:=
 Rd H a (.lst xs) ∨
  ∃(o:Obj) (its:Array Value) (n:Nat),K.lookup a=some o/\o.cls=.type "list"/\o.dict=none/\o.data=.seq its n/\its.size<=sizeLine/\Vals xs its.toList
def SqT(K:Fg)(H:Hp)(a:Addr)(xs:List V):Prop:=
 Rd H a (.tup xs) ∨
  ∃(o:Obj) (its:Array Value) (n:Nat),K.lookup a=some o/\o.cls=.type "tuple"/\o.data=.seq its n/\its.size<=sizeLine/\Vals xs its.toList
def absV:Value->Option V
 |.none=>some .non
 |.bool b=>some (.bl b)
 |.int i _=>some (.int i)
 |.str x _=>some (.str x)
 |.bytes b _=>some (.byt b)
 |.float b _=>some (.flt b)
 |.ref a=>some (.ref a)
 |.type n=>some (.ty n)
 |_=>none
theorem RelV.abs{x:V}{u:Value}(r:RelV x u):absV u=some x:=by
 cases x with
 |non=>cases r;rfl
 |bl _=>cases r;rfl
 |int _=>obtain⟨t,rfl⟩:=r;rfl
 |str _=>obtain⟨t,rfl⟩:=r;rfl
 |byt _=>obtain⟨t,rfl⟩:=r;rfl
 |flt _=>obtain⟨t,rfl⟩:=r;rfl
 |ref _=>cases r;rfl
 |ty _=>cases r;rfl
theorem RelV.inj{x y:V}{u:Value}(r:RelV x u)(q:RelV y u):x=y:=zM (r.abs.symm.trans q.abs)
theorem Vals.inj:∀{xs ys:List V} {us:List Value},Vals xs us->Vals ys us->xs=ys
 |_,_,_,.nil,.nil=>rfl
 |_,_,_,.cons r t,.cons a t'=>by rw[r.inj a,Vals.inj t t']
section
variable {X:Cx}{pins:List (Addr×Obj)}{σ:St}{H:Hp}{s:Shared}{a:Addr}{xs ys:List V}
theorem SqL.of{K:Fg}(h:H a=some (.lst xs)):SqL K H a xs:=.inl (.inl h)
noncomputable def zD:=@SqL.of
theorem SqT.of{K:Fg}(h:H a=some (.tup xs)):SqT K H a xs:=.inl (.inl h)
noncomputable def zC:=@SqT.of
theorem Inv.list(I:Inv X pins σ H s)(h:SqL X.K H a xs):∃its:List Value,Vals xs its/\PlainL s.heap a its.toArray/\xs.length<=sizeLine:=by
 rcases h with h |⟨o,its,n,b,f,c,hs,hz,r⟩
 ·obtain⟨z,its,n,r,e⟩:=h.ok I.hok
  exact⟨its,r,⟨_,n,e,rfl,rfl,rfl⟩,z⟩
 ·refine⟨its.toList,r,⟨o,n,I.kIn a o b,f,c,by simpa using hs⟩,?_⟩
  have e:=r.length;simp only[Array.length_toList]at e;omega
theorem Inv.tuple(I:Inv X pins σ H s)(h:SqT X.K H a xs):∃its:List Value,Vals xs its/\IsTup s.heap a its.toArray/\xs.length<=sizeLine:=by
 rcases h with h |⟨o,its,n,b,f,hs,hz,r⟩
 ·obtain⟨z,its,r,o,e,c,n,d,_⟩:=h.ok I.hok
  exact⟨its,r,⟨o,e,c,n,d⟩,z⟩
 ·refine⟨its.toList,r,⟨o,I.kIn a o b,f,n,by simpa using hs⟩,?_⟩
  have e:=r.length;simp only[Array.length_toList]at e;omega
theorem Inv.list_inj(I:Inv X pins σ H s)(h:SqL X.K H a xs)(h':SqL X.K H a ys):xs=ys:=by
 obtain⟨its,r,⟨o,n,e,_,_,d⟩,_⟩:=I.list h;obtain⟨its',c,⟨o',g,b,_,_,d'⟩,_⟩:=I.list h';rw[e]at b;cases b;rw[d]at d';injection d' with f _;have:its=its':=by simpa using congrArg Array.toList f
 subst this;exact r.inj c
theorem Inv.tuple_inj(I:Inv X pins σ H s)(h:SqT X.K H a xs)(h':SqT X.K H a ys):xs=ys:=by
 obtain⟨its,r,⟨o,e,_,n,d⟩,_⟩:=I.tuple h;obtain⟨its',c,⟨o',b,_,g,d'⟩,_⟩:=I.tuple h';rw[e]at b;cases b;rw[d]at d';injection d' with f _;have:its=its':=by simpa using congrArg Array.toList f
 subst this;exact r.inj c
end
abbrev Cx.wish(X:Cx)(E:Value->Shared->Prop):Cx:={X with xe:=E}
abbrev Cx.nox(X:Cx):Cx:=X.wish λ_ _=>False
theorem Cx.Ok.wish{X:Cx}(ok:X.Ok)(E:Value->Shared->Prop):(X.wish E).Ok:=
 ⟨ok.mod,ok.kind,ok.glob,ok.blt,ok.above,ok.inj,ok.has,ok.cab,ok.hd,ok.frames,ok.stk,ok.exf,ok.bs,ok.bsz,ok.noex,ok.exfs,ok.funs,ok.frf⟩
theorem Cx.Ok.unwish{X:Cx}{E:Value->Shared->Prop}(ok:(X.wish E).Ok):X.Ok:=
 ⟨ok.mod,ok.kind,ok.glob,ok.blt,ok.above,ok.inj,ok.has,ok.cab,ok.hd,ok.frames,ok.stk,ok.exf,ok.bs,ok.bsz,ok.noex,ok.exfs,ok.funs,ok.frf⟩
section
variable {X:Cx}{pins:List (Addr×Obj)}{σ:St}{H:Hp}{s:Shared}{E:Value->Shared->Prop}
theorem Inv.wish(I:Inv X pins σ H s)(E:Value->Shared->Prop):Inv (X.wish E) pins σ H s:=⟨I.ok.wish E,I.os,I.bare,I.base,I.loc,I.cell,I.free,I.freeC,I.pin,I.hok,I.len⟩
theorem Inv.unwish(I:Inv (X.wish E) pins σ H s):Inv X pins σ H s:=⟨I.ok.unwish,I.os,I.bare,I.base,I.loc,I.cell,I.free,I.freeC,I.pin,I.hok,I.len⟩
theorem SP.unwish{D:Ends}{f:Flow}{s':Shared}(h:SP (X.wish E) pins D f s'):SP X pins D f s':=by
 cases f with
 |next=>obtain⟨a,H',I,q⟩:=h;exact⟨a,H',I.unwish,q⟩
 |brk=>obtain⟨a,H',I,q⟩:=h;exact⟨a,H',I.unwish,q⟩
 |cont=>obtain⟨a,H',I,q⟩:=h;exact⟨a,H',I.unwish,q⟩
 |ret u=>obtain⟨v,a,H',I,r,q⟩:=h;exact⟨v,a,H',I.unwish,r,q⟩
theorem PSs.nox{st:List Stmt}{t:TS}(h:PSs X.nox st t):PSs X st t:=λpins s σ H D I a=>
 wpAny_mono (h pins s σ H D (I.wish _) a) (λ_ _ q=>q.unwish) λ_ _ z=>False.elim z
end
section
variable {X:Cx}{st:Stmt}{rest:List Stmt}{t u:TS}{e:Expr}{te:TE}{pos:Pos}
def xzq:TS:=λD σ H=>D.nx σ H
def tSeq(t u:TS):TS:=λD σ H=>t {D with nx:=u D} σ H
theorem pQ:PSs X [] xzq:=λ_ _ σ H _ I h=>wpAny_execs_nil ⟨σ,H,I,h⟩
theorem zpn(h1:PS X st t)(h2:PSs X rest u):PSs X (st::rest) (tSeq t u):=by
 intro pins s σ H D I h;refine wpAny_execs_cons (thn (h1 pins s σ H {D with nx:=u D} I h) λf b q=>?_)
 cases f with
 |next=>
  obtain⟨a,H',c,q⟩:=q;exact h2 pins b a H' D c q
 |ret v=>exact q
 |brk=>exact q
 |cont=>exact q
theorem zpo(h1:PS X st t):PSs X [st] t:=by
 intro pins s σ H D I h;refine wpAny_execs_cons (thn (h1 pins s σ H D I h) λf a q=>?_)
 cases f with
 |next=>exact wpAny_execs_nil q
 |ret v=>exact q
 |brk=>exact q
 |cont=>exact q
theorem Inv.quiet{pins:List (Addr×Obj)}{σ:St}{H:Hp}{s:Shared}(I:Inv X pins σ H s):interactive X.env=false:=by simp[interactive,I.ok.kind]
def xzr(te:TE):TS:=λD σ H=>te σ H λ_ H1=>D.nx σ H1
theorem xba(b:PE X e te)(hs:swapsWith e none pos.line X.env=pure false:=by rfl):PS X (.Expr e pos) (xzr te):=by
 intro pins s σ H D I h;exact wpAny_Expr_any (thn (b pins s σ H _ I h) λv f ⟨x,H1,c,g,a⟩=>⟨σ,H1,c,a⟩) I.quiet hs
def tRet(te:TE):TS:=λD σ H=>te σ H D.rt
theorem xaj(c:PE X e te):PS X (.Return (some e) pos) (tRet te):=by
 intro pins s σ H D I h;exact wpAny_Return_some (thn (c pins s σ H _ I h) λv g ⟨x,H1,f,a,b⟩=>⟨x,σ,H1,f,a,b⟩)
def tIfS(c:TT)(t u:TS):TS:=λD σ H=>c σ H λb H1=>if b=true then t D σ H1 else u D σ H1
theorem xa0{c:Expr}{a b:List Stmt}{tc:TT}(i:PT X c tc)(l:PSs X a t)(j:PSs X b u):PS X (.If c a b pos) (tIfS tc t u):=by
 intro pins s σ H D I h;refine wpAny_If (thn (i pins s σ H _ I h) λd e ⟨H1,g,f⟩=>?_)
 cases d with
 |true=>exact l pins e σ H1 D g f
 |false=>exact j pins e σ H1 D g f
end
abbrev TG:=V->St->Hp->(St->Hp->Prop)->Prop
abbrev TGs:=List V->St->Hp->(St->Hp->Prop)->Prop
def PG(X:Cx)(target:Expr)(t:TG):Prop:=
 ∀(pins:List (Addr×Obj)) (s:Shared) (σ:St) (H:Hp) (v:V) (u:Value) (Q:St->Hp->Prop),Inv X pins σ H s->RelV v u->t v σ H Q->
  wpAny (model X.prog X.w) X.A (assign target X.env u) (λ_ s'=>∃σ' H',Inv X pins σ' H' s'/\Q σ' H') X.xe s
def PGs(X:Cx)(ts:List Expr)(t:TGs):Prop:=
 ∀(pins:List (Addr×Obj)) (s:Shared) (σ:St) (H:Hp) (vs:List V) (us:List Value) (Q:St->Hp->Prop),Inv X pins σ H s->Vals vs us->t vs σ H Q->
  wpAny (model X.prog X.w) X.A (assignInOrder ((assignEach ts X.env).map (·.2)) us) (λ_ s'=>∃σ' H',Inv X pins σ' H' s'/\Q σ' H') X.xe s
abbrev TSet:=V->V->V->Hp->(Hp->Prop)->Prop
def PSet(X:Cx)(t:TSet):Prop:=
 ∀(pins:List (Addr×Obj)) (s:Shared) (σ:St) (H:Hp) (o i v:V) (ov iv u:Value) (Q:Hp->Prop),Inv X pins σ H s->RelV o ov->RelV i iv->RelV v u->t o i v H Q->
  wpAny (model X.prog X.w) X.A (setItem ov iv u) (λ_ s'=>∃H',Inv X pins σ H' s'/\Q H') X.xe s
section
variable {X:Cx}{pos:Pos}
def xhr(i:Nat):TG:=λv σ H Q=>Q (σ.set i (some v)) H
theorem xql{i:Nat}{x:Str}(c:X.N.Nodup)(hi:X.N[i]?=some x)(a:Loc X.env.scope x)(b:X.fn x=true\/X.env.scope.names.lookup x=some .local:=by first |exact .inl rfl |exact .inr rfl |assumption):PG X (.Name x pos) (xhr i):=by
 intro pins s σ H v u Q I r h;exact wpAny_assign_Name (xiz I c hi a r (λs' e=>⟨_,H,e,h⟩) b)
def gNil:TGs:=λvs σ H Q=>vs=[]/\Q σ H
def yad(t:TG)(u:TGs):TGs:=λvs σ H Q=>∃v r,vs=v::r/\t v σ H λσ' H'=>u r σ' H' Q
theorem xa1:PGs X [] gNil:=by
 intro pins s σ H vs us Q I r h;obtain⟨e,h⟩:=h;subst e;cases r;exact assignInOrder_nil ⟨σ,H,I,h⟩
theorem xab {e:Expr} {es:List Expr} {t:TG} {u:TGs} (h1:PG X e t) (h2:PGs X es u)
  (hs:(assignEach (e::es) X.env).map (·.2)=assign e X.env::(assignEach es X.env).map (·.2):=by rfl):PGs X (e::es) (yad t u):=by
 intro pins s σ H vs us Q I r h;obtain⟨v,j,g,h⟩:=h;subst g
 cases r with
 |cons r c=>
  rw[hs];refine assignInOrder_cons (thn (h1 pins s σ H _ _ _ I r h) λ_ b ⟨a,H1,i,f⟩=>?_);exact h2 pins b a H1 _ _ Q i c f
def gTup(K:Fg)(n:Nat)(t:TGs):TG:=λv σ H Q=>∃a xs,v=.ref a/\SqT K H a xs/\xs.length=n/\t xs σ H Q
theorem xyc {es:List Expr} {k:Nat} {t:TGs} {n:Nat} (p:X.calm=true) (h:PGs X es t)
  (hn:(assignEach es X.env).length=n:=by rfl) (f:(assignEach es X.env).findIdx? (·.1)=none:=by rfl):PG X (.Tuple es k pos) (gTup X.K n t):=by
 intro pins s σ H v u Q I r c;obtain⟨a,xs,w,l,m,c⟩:=c;subst w;cases r;obtain⟨its,g,j,hz⟩:=I.tuple l;refine assign_Tuple_tuple (I.ok.hd p) j (by simp[hn,<- m,g.length]) f λh' i=>?_;have x:Inv X pins σ H {s with heap:=h'}:=I.kept (t':=s.toks) λb o e=>i b o (zN (zJ e)) e;exact h pins _ σ H xs _ Q x (by simpa using g) c
def gSub(to ti:TE)(t:TSet):TG:=λv σ H Q=>to σ H λo H1=>ti σ H1 λi H2=>t o i v H2 λH3=>Q σ H3
theorem xqk {o i:Expr} {to c:TE} {t:TSet} (p:PE X o to) (hi:PE X i c) (hs:PSet X t)
  (w:∀v,assign (.Subscript o i pos) X.env v=(do
   let a <- holding [v] (eval o X.env)
   let b <- holding [v,a] (eval i X.env)
   standAt pos
   holding [v,a,b] (setItem a b v)
   release [v,a,b] []):=by intro _;rfl):PG X (.Subscript o i pos) (gSub to c t):=by
 intro pins s σ H v u Q I r h;rw[w];refine zE (zV (thn (p pins s σ H _ I h) λa f ⟨x,H1,F,j,n⟩=>?_));refine zE (zV (thn (hi pins f σ H1 _ F n) λb e ⟨y,H2,C,g,m⟩=>?_));refine zE (wpAny_standAt (zE (zV (thn (hs pins e σ H2 x y v a b u _ C j g r m) λ_ J ⟨G,z,l⟩=>?_))));exact wpAny_release ⟨σ,G,z,l⟩
def tAsg(te:TE)(g:TG):TS:=λD σ H=>te σ H λx H1=>g x σ H1 D.nx
theorem xdi {tg e:Expr} {te:TE} {g:TG} (j:PE X e te) (i:PG X tg g) (hs:swapsWithSole [tg] e pos.line X.env=pure false:=by rfl) (f:swappedStores [tg] e X.env=pure none:=by rfl)
  (h1:(assignEach [tg] X.env).map (·.2)=[assign tg X.env]:=by rfl):PS X (.Assign [tg] e pos) (tAsg te g):=by
 intro pins s σ H D I h;refine wpAny_Assign_stores (thn (j pins s σ H _ I h) λv a ⟨x,H1,l,b,c⟩=>?_) hs f;rw[h1];exact thn (i pins a σ H1 x v _ l b c) λ_ m q=>q
theorem xya {i:Nat} {x:Str} {e:Expr} {te:TE} {pos':Pos} (hN:X.N.Nodup) (hi:X.N[i]?=some x) (hx:Loc X.env.scope x) (he:PE X e te) (hs:swapsWith e (some (.Name x pos')) pos.line X.env=pure false:=by rfl) (hf:X.fn x=true\/X.env.scope.names.lookup x=some .local:=by first |exact .inl rfl |exact .inr rfl |assumption) :
  PS X (.Assign [.Name x pos'] e pos) (tAsg te (xhr i)):=by
 intro pins s σ H D I h;refine wpAny_Assign_Name (thn (he pins s σ H _ I h) λv s1 ⟨y,H1,I1,r1,q1⟩=>?_) hs;exact xiz I1 hN hi hx r1 (λs2 I2=>⟨_,H1,I2,q1⟩) hf
end
structure It where
 go:Nat->Hp->Prop
 yld:Nat->Hp->V->Hp->Prop
 stop:Nat->Hp->Prop
def FpOk(X:Cx)(pins:List (Addr×Obj))(H:Hp)(b:Addr):Prop:=
 H b=none/\b≠X.env.locals/\b ∉X.fs/\(b∈X.ex\/X.s₀.heap.objs.size<=b)/\(∀x c,X.env.cells.lookup x=some c->c≠b)/\∀p∈X.pn++pins,p.1≠b
theorem Inv.fpOk{X:Cx}{pins:List (Addr×Obj)}{σ:St}{H H':Hp}{s:Shared}{b:Addr}(I:Inv X pins σ H s)(a:s.heap.objs.size<=b)(hn:H' b=none):FpOk X pins H' b:=by
 refine⟨hn,Nat.ne_of_gt (zO I.lt a),I.nofs a,.inr (zF I.sz a),λx c e z=>?_,λp f z=>?_⟩
 ·obtain⟨v,q⟩:=I.cell x c e
  exact absurd (zO q.lt (by rw[z];exact a)) (zR _)
 ·exact absurd (zO (zJ (I.pin p f).1) (by rw[z];exact a)) (zR _)
structure Turn(P:Program)(w:World)(K:Fg)(tg:Expr)(J:It)(fp:List Addr)(it:Addr)(tn:Nat->Heap->Prop):Prop where
 mem:it∈fp
 obj:∀i h,tn i h->∀b∈fp,∃o,h.get? b=some o/\∀v,o.data≠.cell v
 keep:∀i h h',tn i h->(∀b∈fp,∀o,h.get? b=some o->h'.get? b=some o)->tn i h'
 item:∀(X:Cx),X.prog=P->X.w=w->X.K=K->X.calm=true->∀(i:Nat) (pins:List (Addr×Obj)) (s:Shared) (σ:St) (H:Hp) (E:Value->Shared->Prop),Inv X pins σ H s->(∀b∈fp,FpOk X pins H b)->tn i s.heap->J.go i H->
  wpAny (model P w) X.A (pyNext (.ref it)) (λr s1=>∃u,r=some u ∧
   wpAny (model P w) X.A (letOwnedTupleGo tg (.ref it) u) (λ_ s2=>∃x H',Inv X pins σ H' s2/\RelV x u/\J.yld i H x H'/\tn (i+1) s2.heap/\∀b∈fp,H' b=none) E s1) E s
 done:∀(X:Cx),X.prog=P->X.w=w->X.K=K->X.calm=true->∀(i:Nat) (pins:List (Addr×Obj)) (s:Shared) (σ:St) (H:Hp) (E:Value->Shared->Prop),Inv X pins σ H s->(∀b∈fp,FpOk X pins H b)->tn i s.heap->J.stop i H->
  wpAny (model P w) X.A (pyNext (.ref it)) (λr s1=>r=none/\Inv X pins σ H s1) E s
 self:∀(A:Around) (i:Nat) (s:Shared) (Q:Value->Shared->Prop) (E:Value->Shared->Prop),tn i s.heap->Q (.ref it) s->wpAny (model P w) A (pyIter (.ref it)) Q E s
abbrev TI:=St->Hp->(It->Hp->Prop)->Prop
def PIE(X:Cx)(pins:List (Addr×Obj))(σ:St)(tg:Expr)(R:It->Hp->Prop)(itv:Value)(s2:Shared):Prop:=
 ∃(it:Addr) (fp:List Addr) (tn:Nat->Heap->Prop) (J:It) (H':Hp),itv=.ref it/\Inv X pins σ H' s2/\Turn X.prog X.w X.K tg J fp it tn/\tn 0 s2.heap/\(∀b∈fp,FpOk X pins H' b)/\R J H'
def PI(X:Cx)(tg iter:Expr)(wi:TI):Prop:=
 ∀(pins:List (Addr×Obj)) (s:Shared) (σ:St) (H:Hp) (R:It->Hp->Prop),Inv X pins σ H s->wi σ H R->
  wpAny (model X.prog X.w) X.A (eval iter X.env) (λv s1=>wpAny (model X.prog X.w) X.A (pyIter v) (PIE X pins σ tg R) X.xe s1) X.xe s
theorem xrw {M:Model} {A:Around} {E:Value->Shared->Prop} {s:Shared} {tg:Expr} {it:Addr} {u:Value} {o:Obj} {n:String} {vs:Array Value} {Q:Unit->Shared->Prop} (ho:s.heap.get? it=some o) (hc:o.cls=.type n) (hd:o.data=.fields vs)
    (hn:["enumerate","zip","dict_itemiterator","dict_reverseitemiterator","odict_iterator","itertools.zip_longest","itertools.pairwise"].contains n=false) (hQ:Q () s):wpAny M A (letOwnedTupleGo tg (.ref it) u) Q E s:=by
  unfold letOwnedTupleGo
  cases tg <;> first
    |exact zI hQ
    |(cases u <;> first
        |exact zI hQ
        | (refine zE (wpAny_load ho ?_)
           rw[hc,hd];show wpAny M A (if (["enumerate","zip","dict_itemiterator","dict_reverseitemiterator","odict_iterator","itertools.zip_longest","itertools.pairwise"].contains n && vs[0]? == some (rawInt _))=true then _ else _) Q E s;rw[if_neg (by intro h;rw[hn,Bool.false_and]at h;cases h)];exact zI hQ))
def Itl(K:Fg)(a:Addr):It:=
 ⟨λi H=>∃xs x,SqL K H a xs/\xs[i]?=some x,λi H x H'=>H'=H/\∀xs,SqL K H a xs->xs[i]?=some x,λi H=>∃xs,SqL K H a xs/\xs.length<=i⟩
def Itt(K:Fg)(a:Addr):It:=
 ⟨λi H=>∃xs x,SqT K H a xs/\xs[i]?=some x,λi H x H'=>H'=H/\∀xs,SqT K H a xs->xs[i]?=some x,λi H=>∃xs,SqT K H a xs/\xs.length<=i⟩
def Itr(lo:Int)(n:Nat):It:=⟨λi _=>i<n,λi H x H'=>H'=H/\x=.int (lo+i),λi _=>n<=i⟩
theorem xpa{P:Program}{w:World}{K:Fg}{tg:Expr}(a it:Addr):Turn P w K tg (Itl K a) [it] it (λi h=>h.IsListIter it a i) where
 mem:=by simp
 obj:=λi h st b f=>by
  have e:b=it:=by simpa using f
  subst e;obtain⟨o,e,c,d⟩:=st;exact⟨o,e,λv z=>by rw[d]at z;cases z⟩
 keep:=λi h h' st k=>st.at λo e=>k it (by simp) o e
 item:=by
  intro X C r F Y i pins s σ H E I l st y;subst C r F;obtain⟨xs,x,j,n⟩:=y;obtain⟨its,m,p,hz⟩:=I.list j;obtain⟨u,hu,ru⟩:=m.get n;obtain⟨U,O,f2,M,J,G⟩:=l it (by simp);refine wpAny_pyNext_list_item st p.isList (x:=u) (by simpa using hu) λh' g Z=>?_;have I1:Inv X pins σ H {s with heap:=h'}:=I.turned (t':=s.toks) (λb o f e=>(Z.2 b f).trans e) U O M J G;obtain⟨o,e,c,d⟩:=id g;exact⟨u,rfl,xrw (s:={s with heap:=h'}) e c d (by decide) ⟨x,H,I1,ru,⟨rfl,λys hy=>by rw[I.list_inj hy j];exact n⟩,g,λb f=>(l b f).1⟩⟩
 done:=by
  intro X C r F Y i pins s σ H E I l st y;subst C r F;obtain⟨xs,j,n⟩:=y;obtain⟨its,m,p,hz⟩:=I.list j;obtain⟨U,O,f2,M,J,G⟩:=l it (by simp);have hl:=m.length;exact wpAny_pyNext_list_end (I.ok.hd Y) st p.isList (by simp;omega) λh' eb=>⟨rfl,I.turned (t':=s.toks) (λb o f e=>eb b o f e) U O M J G⟩
 self:=λ_ _ _ _ _ st h=>wpAny_pyIter_listiter st h
theorem xob{P:Program}{w:World}{K:Fg}{tg:Expr}(a it:Addr):Turn P w K tg (Itt K a) [it] it (λi h=>h.IsTupleIter it a i) where
 mem:=by simp
 obj:=λi h st b f=>by
  have e:b=it:=by simpa using f
  subst e;obtain⟨o,e,c,d⟩:=st;exact⟨o,e,λv z=>by rw[d]at z;cases z⟩
 keep:=λi h h' st k=>st.at λo e=>k it (by simp) o e
 item:=by
  intro X C r F Y i pins s σ H E I l st y;subst C r F;obtain⟨xs,x,j,n⟩:=y;obtain⟨its,m,p,hz⟩:=I.tuple j;obtain⟨u,hu,ru⟩:=m.get n;obtain⟨U,O,f2,M,J,G⟩:=l it (by simp);refine wpAny_pyNext_tuple_item st (show s.heap.IsTuple a its.toArray from p) (x:=u) (by simpa using hu) λh' g Z=>?_;have I1:Inv X pins σ H {s with heap:=h'}:=I.turned (t':=s.toks) (λb o f e=>(Z.2 b f).trans e) U O M J G;obtain⟨o,e,c,d⟩:=id g;exact⟨u,rfl,xrw (s:={s with heap:=h'}) e c d (by decide) ⟨x,H,I1,ru,⟨rfl,λys hy=>by rw[I.tuple_inj hy j];exact n⟩,g,λb f=>(l b f).1⟩⟩
 done:=by
  intro X C r F Y i pins s σ H E I l st y;subst C r F;obtain⟨xs,j,n⟩:=y;obtain⟨its,m,p,hz⟩:=I.tuple j;obtain⟨U,O,f2,M,J,G⟩:=l it (by simp);have hl:=m.length;exact wpAny_pyNext_tuple_end (I.ok.hd Y) st (show s.heap.IsTuple a its.toArray from p) (by simp;omega) λh' eb=>⟨rfl,I.turned (t':=s.toks) (λb o f e=>eb b o f e) U O M J G⟩
 self:=λ_ _ _ _ _ st h=>wpAny_pyIter_tupleiter st h
theorem xoc{P:Program}{w:World}{K:Fg}{tg:Expr}(it:Addr)(lo:Int)(n:Nat):Turn P w K tg (Itr lo n) [it] it (λi h=>IsRangeIter h it (lo+(i:Nat)*1) ((n:Int)-(i:Nat)) 1) where
 mem:=by simp
 obj:=λi h st b a=>by
  have e:b=it:=by simpa using a
  subst e
  exact⟨_,st,λv z=>by
   have F:Data.fields _=Data.cell v:=z;cases F⟩
 keep:=λi h h' st k=>k it (by simp) _ st
 item:=by
  intro X m g p l i pins s σ H E I f st j;subst m g p;obtain⟨C,y,M,x,u,r⟩:=f it (by simp);have W:=Walks.range (prog:=X.prog) (w:=X.w) (I.ok.hd l) it lo 1 n;refine W.item i s _ _ j st λv h' tk J c G=>?_;obtain⟨t,rfl⟩:=J;have U:Inv X pins σ H {s with heap:=h',toks:=tk}:=I.turned (λb o a e=>G b o (by simpa using a) e) C y x u r;refine⟨_,rfl,xrw (s:={s with heap:=h',toks:=tk}) (n:="range_iterator") c rfl rfl (by decide) ⟨.int (lo+i),H,U,⟨t,?_⟩,⟨rfl,rfl⟩,c,λb a=>(f b a).1⟩⟩;rw[Int.mul_one]
 done:=by
  intro X m g p l i pins s σ H E I f st j;subst m g p;obtain⟨C,y,M,x,u,r⟩:=f it (by simp);exact wpAny_pyNext_range_end (I.ok.hd l) st (by have:n<=i:=j;omega) λh' O=>⟨rfl,I.turned (t':=s.toks) (λb o a e=>O b o a e) C y x u r⟩
 self:=λ_ _ _ _ _ st h=>wpAny_pyIter_rangeiter st h
section
variable {X:Cx}{tg:Expr}
def xww(K:Fg)(tl:TE):TI:=λσ H R=>tl σ H λx H1=>∃a,x=.ref a/\(∃xs,SqL K H1 a xs)/\R (Itl K a) H1
def iTup(K:Fg)(tl:TE):TI:=λσ H R=>tl σ H λx H1=>∃a,x=.ref a/\(∃xs,SqT K H1 a xs)/\R (Itt K a) H1
theorem xqj{l:Expr}{tl:TE}(m:PE X l tl):PI X tg l (xww X.K tl):=by
 intro pins s σ H R I h;refine thn (m pins s σ H _ I h) λv c ⟨x,H1,f,g,i⟩=>?_;obtain⟨a,e,⟨xs,j⟩,q⟩:=i;subst e;cases g;obtain⟨its,r,p,hz⟩:=f.list j;refine wpAny_pyIter_list p.isList ?_;refine⟨c.heap.objs.size,[c.heap.objs.size],_,_,H1,rfl,f.kept (t':=c.toks) λb o e=>zPO _ e,xpa a _,⟨_,zK _ rfl,rfl,rfl⟩,λb n=>?_,q⟩;have e:b=c.heap.objs.size:=by simpa using n
 subst e;exact f.fpOk (zG _) (f.hok.fresh (zG _))
theorem xuo{l:Expr}{tl:TE}(m:PE X l tl):PI X tg l (iTup X.K tl):=by
 intro pins s σ H R I h;refine thn (m pins s σ H _ I h) λv c ⟨x,H1,f,g,i⟩=>?_;obtain⟨a,e,⟨xs,j⟩,q⟩:=i;subst e;cases g;obtain⟨its,r,p,hz⟩:=f.tuple j;refine wpAny_pyIter_tuple (show c.heap.IsTuple a its.toArray from p) ?_;refine⟨c.heap.objs.size,[c.heap.objs.size],_,_,H1,rfl,f.kept (t':=c.toks) λb o e=>zPO _ e,xob a _,⟨_,zK _ rfl,rfl,rfl⟩,λb n=>?_,q⟩;have e:b=c.heap.objs.size:=by simpa using n
 subst e;exact f.fpOk (zG _) (f.hok.fresh (zG _))
theorem xnl {pins:List (Addr×Obj)} {σ:St} {H:Hp} {s:Shared} {R:It->Hp->Prop} {E:Value->Shared->Prop} {lo hi:Int} {t u v:Tok} {tk:Nat} (I:Inv X pins σ H s) (h1:-(2 ^ 62)<=lo) (h2:lo<2 ^ 62) (h3:-(2 ^ 62)<=hi) (h4:hi<2 ^ 62)
  (q:R (Itr lo (hi-lo).toNat) H):wpAny (model X.prog X.w) X.A (pyIter (.ref s.heap.objs.size)) (PIE X pins σ tg R) E {s with heap:=s.heap.push {cls:=.type "range",data:=.fields #[.int lo t,.int hi u,.int 1 v]},toks:=tk}:=by
 refine wpAny_pyIter_range (IsRange.new ..) (small_one h1 h2 h3 h4) ?_;have I1:Inv X pins σ H {s with heap:=s.heap.push {cls:=.type "range",data:=.fields #[.int lo t,.int hi u,.int 1 v]},toks:=tk}:=I.kept λb o e=>zPO _ e
 refine⟨(s.heap.push {cls:=.type "range",data:=.fields #[.int lo t,.int hi u,.int 1 v]}).objs.size,[(s.heap.push {cls:=.type "range",data:=.fields #[.int lo t,.int hi u,.int 1 v]}).objs.size],_,_,H,rfl,
  I1.kept (t':=tk) λb o e=>zPO _ e,xoc _ lo (hi-lo).toNat,?_,λb hb=>?_,q⟩
 ·have e1:lo+((0:Nat):Int)*1=lo:=by simp
  have e2:(((hi-lo).toNat:Nat):Int)-((0:Nat):Int)=Builtin.Range.rangeSize lo hi 1:=by rw[rangeSize_one];split <;> omega
  show IsRangeIter _ _ (lo+((0:Nat):Int)*1) ((((hi-lo).toNat:Nat):Int)-((0:Nat):Int)) 1;rw[e1,e2];exact zK _ rfl
 ·have e:b=(s.heap.push {cls:=.type "range",data:=.fields #[.int lo t,.int hi u,.int 1 v]}).objs.size:=by simpa using hb
  subst e;exact I1.fpOk (zG _) (I1.hok.fresh (zG _))
def yaa(ta:TA):TI:=λσ H R=>ta σ H λvs H1=>∃j:Int,vs=[.int j]/\-(2 ^ 62)<=j/\j<2 ^ 62/\R (Itr 0 j.toNat) H1
def xz9(ta:TA):TI:=λσ H R=>ta σ H λvs H1=>∃i j:Int,vs=[.int i,.int j]/\(-(2 ^ 62)<=i/\i<2 ^ 62/\-(2 ^ 62)<=j/\j<2 ^ 62)/\R (Itr i (j-i).toNat) H1
theorem xep{a:Expr}{ta:TA}{p pos:Pos}(l:Gl X "range")(i:X.mg "range"=none)(m:PA X [a] ta)(hs:starEach [a] X.env=[(false,eval a X.env)]:=by rfl):PI X tg (.Call (.Name "range" p) [a] [] pos) (yaa ta):=by
 intro pins s σ H R I h;refine Call_ (xfy I l i boot_range (PyProof.Rows.callWith_type1 (thn (m pos pins s σ H _ I h) λus o ⟨vs,H1,n,f,b⟩=>?_) hs rfl));obtain⟨j,e,b,g,q⟩:=b;subst e
 cases f with
 |cons r c=>
  cases c;obtain⟨t,rfl⟩:=r;exact call_range_1 (xnl n (by omega) (by omega) b g (by simpa using q))
theorem xqi {a b:Expr} {ta:TA} {p pos:Pos} (x:Gl X "range") (w:X.mg "range"=none) (y:PA X [a,b] ta) (hs:starEach [a,b] X.env=[(false,eval a X.env),(false,eval b X.env)]:=by rfl) (c:starEach [b] X.env=[(false,eval b X.env)]:=by rfl) :
  PI X tg (.Call (.Name "range" p) [a,b] [] pos) (xz9 ta):=by
 intro pins s σ H R I h;refine Call_ (xfy I x w boot_range (PyProof.Rows.callWith_type1 (thn (y pos pins s σ H _ I h) λus C ⟨vs,H1,z,l,g⟩=>?_) (by rw[hs,c]) (by rw[c];rfl)));obtain⟨i,j,e,⟨g,u,o,n⟩,q⟩:=g;subst e
 cases l with
 | cons r f=>
  cases f with
  |cons m f=>
   cases f;obtain⟨t,rfl⟩:=r;obtain⟨t',rfl⟩:=m;exact call_range_2 (xnl z g u o n q)
def tFor(wi:TI)(g:TG)(tb:TS):TS:=λD σ H=>wi σ H λJ H1=>∃W:Nat->Nat->St->Hp->Prop,(∃m,W 0 m σ H1)/\∀i m σ H,W i m σ H->
 (J.stop i H/\D.nx σ H)\/(J.go i H/\∃N:St->Hp->Prop,(∀σ' H',N σ' H'->∃m',m'<m/\W (i+1) m' σ' H')/\∀x H',J.yld i H x H'->g x σ H' λσ2 H2=>tb {D with nx:=N,ct:=N,bk:=D.nx} σ2 H2)
def xkf(fp:List Addr)(h:Heap):List (Addr×Obj):=fp.filterMap λb=>(h.get? b).map λo=>(b,o)
theorem xex{a:List Addr}{h:Heap}{b:Addr}{o:Obj}(c:b∈a)(e:h.get? b=some o):(b,o)∈xkf a h:=List.mem_filterMap.mpr ⟨b,c,by rw[e];rfl⟩
theorem xq0{a:List Addr}{h:Heap}{p:Addr×Obj}(c:p∈xkf a h):p.1∈a/\h.get? p.1=some p.2:=by
 obtain⟨b,f,e⟩:=List.mem_filterMap.mp c
 cases q:h.get? b with
 |none=>rw[q]at e;cases e
 |some o=>
  rw[q]at e;have g:(b,o)=p:=zM e;subst g;exact⟨f,q⟩
theorem Inv.pinned{pins:List (Addr×Obj)}{σ:St}{H:Hp}{s:Shared}{a:List Addr}(I:Inv X pins σ H s)(i:∀b∈a,FpOk X pins H b)(h:∀b∈a,∃o,s.heap.get? b=some o/\∀v,o.data≠.cell v):Inv X (pins++xkf a s.heap) σ H s:=
 I.pins_of λp g=>(zMA g).elim (λz=>I.pin p (List.mem_append_right _ z)) λz=>by
  obtain⟨c,e⟩:=xq0 z;obtain⟨m,l,j,_⟩:=i p.1 c;obtain⟨o,f,d⟩:=h p.1 c;rw[e]at f;cases f;exact⟨e,m,l,j,d⟩
theorem Inv.unpinned{pins pl:List (Addr×Obj)}{σ:St}{H:Hp}{s:Shared}(I:Inv X (pins++pl) σ H s):Inv X pins σ H s:=I.pins_of λp a=>I.pin p (List.mem_append_right _ (List.mem_append_left _ a))
theorem xca {j:Expr} {F:List Stmt} {wi:TI} {g:TG} {tb:TS} {pos:Pos} (hp:PassesOwn (model X.prog X.w) X.A X.env X.xe) (hc:X.calm=true) (hi:PI X tg j wi) (hg:PG X tg g) (l:PSs X F tb)
  (hs:∀x,foldedSetIterable j X.env x=pure x:=by intro _;rfl):PS X (.For tg j F [] pos) (tFor wi g tb):=by
 intro pins s σ H D I h;refine wpAny_For (thn (hi pins s σ H _ I h) λv s1 h1=>thn h1 λa4 s2 h2=>?_) hs;obtain⟨it,fp,tn,J,H2,e,I2,T,a1,f2,W,⟨m0,w0⟩,U⟩:=h2;subst e;have c:∀{H':Hp},(∀b∈fp,H' b=none)->∀b∈fp,FpOk X pins H' b:=λhn b l=>⟨hn b l,(f2 b l).2⟩;refine codeAny_forLoop_any (λn s'=>∃i O H',Inv X pins O H' s'/\tn i s'.heap/\(∀b∈fp,H' b=none)/\W i n O H') ?_ m0 ⟨0,σ,H2,I2,a1,λb l=>(f2 b l).1,w0⟩;rintro n s3 ⟨i,M,H3,I3,Z,a0,w3⟩;rcases U i n M H3 w3 with⟨Y,qn⟩ |⟨go,N,hN,step⟩
 ·refine wpAny_passesOwn hp (thn (T.done X rfl rfl rfl hc i pins s3 M H3 X.xe I3 (c a0) Z Y) λr s4 ⟨hr,I4⟩=>?_)
  subst hr;exact wpAny_execs_nil ⟨M,H3,I4,qn⟩
 ·refine wpAny_passesOwn hp (thn (T.item X rfl rfl rfl hc i pins s3 M H3 X.xe I3 (c a0) Z go) λr s4 ⟨u,hr,h4⟩=>?_)
  subst hr;refine wpAny_passesOwn hp (thn h4 λ_ s5 ⟨x,H5,I5,r5,y5,G,a2⟩=>?_);have a3:=I5.pinned (c a2) (T.obj _ _ G);refine wpAny_passesOwn hp (thn (hg _ s5 M H5 x u _ a3 r5 (step x H5 y5)) λ_ s6 ⟨σ6,H6,I6,q6⟩=>?_);refine wpAny_passesOwn hp (thn (l _ s6 σ6 H6 _ I6 q6) λf s7 C=>?_)
  have p:∀{a:St} {z:Hp},Inv X (pins++xkf fp s5.heap) a z s7->N a z->∃m,m<n/\∃i O H',Inv X pins O H' s7/\tn i s7.heap/\(∀b∈fp,H' b=none)/\W i m O H':=λ{a z} y n7=>by
   obtain⟨m',hm,w7⟩:=hN a z n7;refine⟨m',hm,i+1,a,z,y.unpinned,T.keep _ _ _ G λb l o e=>(y.pin (b,o) (List.mem_append_right _ (List.mem_append_right _ (xex l e)))).1,λb l=>?_,w7⟩;obtain⟨o,e,d⟩:=T.obj _ _ G b l;exact(y.pin (b,o) (List.mem_append_right _ (List.mem_append_right _ (xex l e)))).2.1
  cases f with
  |next=>obtain⟨a,z,y,n7⟩:=C;exact p y n7
  |cont=>obtain⟨a,z,y,n7⟩:=C;exact p y n7
  |brk=>obtain⟨a,z,y,C⟩:=C;exact⟨a,z,y.unpinned,C⟩
  |ret v=>obtain⟨x7,a,z,y,r7,C⟩:=C;exact⟨x7,a,z,y.unpinned,r7,C⟩
end
theorem xgv {K:Fg} {a:Addr} {xs:List V} {g:TG} {tb:TS} {D:Ends} {σ:St} {H:Hp} (Pv:Nat->St->Hp->Prop) (h0:Pv 0 σ H) (hl:∀i σ H,i<=xs.length->Pv i σ H->SqL K H a xs)
  (hs:∀i x σ H,xs[i]?=some x->Pv i σ H->g x σ H λσ2 H2=>tb {D with nx:=Pv (i+1),ct:=Pv (i+1),bk:=D.nx} σ2 H2) (hd:∀σ H,Pv xs.length σ H->D.nx σ H) :
  ∃W:Nat->Nat->St->Hp->Prop,(∃m,W 0 m σ H)/\∀i m σ H,W i m σ H->
   ((Itl K a).stop i H/\D.nx σ H)\/((Itl K a).go i H/\∃N:St->Hp->Prop,(∀σ' H',N σ' H'->∃m',m'<m/\W (i+1) m' σ' H')/\∀x H',(Itl K a).yld i H x H'->g x σ H' λσ2 H2=>tb {D with nx:=N,ct:=N,bk:=D.nx} σ2 H2):=by
 refine⟨λi m σ H=>m=xs.length-i/\i<=xs.length/\Pv i σ H,⟨xs.length,by simp,zY _,h0⟩,?_⟩;rintro i m σ H ⟨rfl,hi,p⟩;have q:=hl i σ H hi p;by_cases hlt:i<xs.length
 ·refine .inr ⟨⟨xs,xs[i],q,by simp[hlt]⟩,Pv (i+1),λσ' H' p'=>⟨xs.length-(i+1),by omega,rfl,hlt,p'⟩,λx H' y=>?_⟩
  obtain⟨e,y⟩:=y;subst e;exact hs i x σ _ (y xs q) p
 ·have e:i=xs.length:=by omega
  subst e;exact .inl ⟨⟨xs,q,zG _⟩,hd σ H p⟩
theorem xdc {K:Fg} {a:Addr} {xs:List V} {g:TG} {tb:TS} {D:Ends} {σ:St} {H:Hp} (b:Nat->St->Hp->Prop) (h0:b 0 σ H) (n:∀i σ H,i<=xs.length->b i σ H->SqT K H a xs)
  (hs:∀i x σ H,xs[i]?=some x->b i σ H->g x σ H λf H2=>tb {D with nx:=b (i+1),ct:=b (i+1),bk:=D.nx} f H2) (o:∀σ H,b xs.length σ H->D.nx σ H) :
  ∃W:Nat->Nat->St->Hp->Prop,(∃m,W 0 m σ H)/\∀i m σ H,W i m σ H->
   ((Itt K a).stop i H/\D.nx σ H)\/((Itt K a).go i H/\∃N:St->Hp->Prop,(∀h H',N h H'->∃j,j<m/\W (i+1) j h H')/\∀x H',(Itt K a).yld i H x H'->g x σ H' λf H2=>tb {D with nx:=N,ct:=N,bk:=D.nx} f H2):=by
 refine⟨λi m σ H=>m=xs.length-i/\i<=xs.length/\b i σ H,⟨xs.length,by simp,zY _,h0⟩,?_⟩;rintro i m σ H ⟨rfl,hi,p⟩;have q:=n i σ H hi p;by_cases c:i<xs.length
 ·refine .inr ⟨⟨xs,xs[i],q,by simp[c]⟩,b (i+1),λh H' l=>⟨xs.length-(i+1),by omega,rfl,c,l⟩,λx H' y=>?_⟩
  obtain⟨e,y⟩:=y;subst e;exact hs i x σ _ (y xs q) p
 ·have e:i=xs.length:=by omega
  subst e;exact .inl ⟨⟨xs,q,zG _⟩,o σ H p⟩
theorem xhs {lo:Int} {n:Nat} {g:TG} {tb:TS} {D:Ends} {σ:St} {H:Hp} (b:Nat->St->Hp->Prop) (h0:b 0 σ H)
  (hs:∀i σ H,i<n->b i σ H->g (.int (lo+i)) σ H λc H2=>tb {D with nx:=b (i+1),ct:=b (i+1),bk:=D.nx} c H2) (l:∀σ H,b n σ H->D.nx σ H) :
  ∃W:Nat->Nat->St->Hp->Prop,(∃m,W 0 m σ H)/\∀i m σ H,W i m σ H->
   ((Itr lo n).stop i H/\D.nx σ H)\/((Itr lo n).go i H/\∃N:St->Hp->Prop,(∀f H',N f H'->∃h,h<m/\W (i+1) h f H')/\∀x H',(Itr lo n).yld i H x H'->g x σ H' λc H2=>tb {D with nx:=N,ct:=N,bk:=D.nx} c H2):=by
 refine⟨λi m σ H=>m=n-i/\i<=n/\b i σ H,⟨n,by simp,zY _,h0⟩,?_⟩;rintro i m σ H ⟨rfl,hi,p⟩;by_cases a:i<n
 ·refine .inr ⟨a,b (i+1),λf H' j=>⟨n-(i+1),by omega,rfl,a,j⟩,λx H' y=>?_⟩
  obtain⟨e,y⟩:=y;subst e y;exact hs i σ _ a p
 ·have e:i=n:=by omega
  subst e;exact .inl ⟨zG _,l σ H p⟩
abbrev R2:=V->V->Hp->VK->Prop
def OpR(X:Cx)(f:Value->Value->Sem Value)(r:R2):Prop:=
 ∀(pins:List (Addr×Obj)) (s:Shared) (σ:St) (H:Hp) (x y:V) (v u:Value) (Q:VK),Inv X pins σ H s->RelV x v->RelV y u->r x y H Q->
  wpAny (model X.prog X.w) X.A (f v u) (EP X pins σ Q) X.xe s
def UnR(X:Cx)(f:Value->Sem Value)(r:V->Hp->VK->Prop):Prop:=
 ∀(pins:List (Addr×Obj)) (s:Shared) (σ:St) (H:Hp) (x:V) (v:Value) (Q:VK),Inv X pins σ H s->RelV x v->r x H Q->
  wpAny (model X.prog X.w) X.A (f v) (EP X pins σ Q) X.xe s
def xec(X:Cx)(f:Value)(r:List V->Hp->VK->Prop):Prop:=
 ∀(pins:List (Addr×Obj)) (s:Shared) (σ:St) (H:Hp) (xs:List V) (us:List Value) (Q:VK),Inv X pins σ H s->Vals xs us->r xs H Q->
  wpAny (model X.prog X.w) X.A (call f us) (EP X pins σ Q) X.xe s
def tOp(r:R2)(ta tb:TE):TE:=λσ H Q=>ta σ H λx H1=>tb σ H1 λy H2=>r x y H2 Q
def tUn(r:V->Hp->VK->Prop)(ta:TE):TE:=λσ H Q=>ta σ H λx H1=>r x H1 Q
def rI(C:Int->Int->Prop)(g:Int->Int->V):R2:=λx y H Q=>∃i j,x=.int i/\y=.int j/\C i j/\Q (g i j) H
def rI0(g:Int->Int->V):R2:=λx y H Q=>∃i j,x=.int i/\y=.int j/\Q (g i j) H
def rU(g:Int->V):V->Hp->VK->Prop:=λx H Q=>∃i,x=.int i/\Q (g i) H
section
variable {X:Cx}{a b c:Expr}{ta tb tc:TE}{pos:Pos}
theorem binT (r:PE X a ta) (p:PE X b tb) {pins:List (Addr×Obj)} {s:Shared} {σ:St} {H:Hp} {R:V->V->Hp->Prop} (I:Inv X pins σ H s)
  (h:ta σ H λx H1=>tb σ H1 λy H2=>R x y H2) {Q:Value->Shared->Prop} {f:Value->Value->Sem Value}
  (o:∀v u c x y H2,Inv X pins σ H2 c->RelV x v->RelV y u->R x y H2->wpAny (model X.prog X.w) X.A (f v u) Q X.xe c) :
  wpAny (model X.prog X.w) X.A (eval a X.env) (λv g=>wpAny (model X.prog X.w) X.A (eval b X.env) (λu e=>wpAny (model X.prog X.w) X.A (f v u) Q X.xe e) X.xe g) X.xe s:=by
 refine thn (r pins s σ H _ I h) λv i ⟨x,H1,C,l,n⟩=>?_;refine thn (p pins i σ H1 _ C n) λu c ⟨y,H2,z,j,m⟩=>?_;exact o v u c x y H2 z l j m
theorem xat{op:Operator}{r:R2}(g:OpR X (binaryOp op) r)(j:PE X a ta)(i:PE X b tb):PE X (.BinOp a op b pos) (tOp r ta tb):=by
 intro pins s σ H Q I h;exact wpAny_BinOp (binT j i I h λv u c x y H2 l f e q=>g pins c σ H2 x y v u Q l f e q)
theorem xl7{op:UnaryOp}{r:V->Hp->VK->Prop}(f:UnR X (unaryOp op) r)(g:PE X a ta):PE X (.UnaryOp op a pos) (tUn r ta):=by
 intro pins s σ H Q I h;exact UnaryOp_ (thn (g pins s σ H _ I h) λv b ⟨x,H1,i,c,e⟩=>f pins b σ H1 x v Q i c e)
theorem opI {f:Value->Value->Sem Value} {C:Int->Int->Prop} {g:Int->Int->Int}
  (a:∀(i j:Int) (t u:Tok) (s:Shared) (Q:Value->Shared->Prop) (E:Value->Shared->Prop),C i j->Q (.int (g i j) s.toks) {s with toks:=s.toks+1}->wpAny (model X.prog X.w) X.A (f (.int i t) (.int j u)) Q E s) :
  OpR X f (rI C λi j=>.int (g i j)):=by
 intro pins s σ H x y v u Q I c b h;obtain⟨i,j,rfl,rfl,e,q⟩:=h;obtain⟨t,rfl⟩:=c;obtain⟨t',rfl⟩:=b;exact a i j t t' s _ _ e ⟨.int (g i j),H,I.tok _,⟨_,rfl⟩,q⟩
theorem opI0 {f:Value->Value->Sem Value} {g:Int->Int->Int}
  (a:∀(i j:Int) (t u:Tok) (s:Shared) (Q:Value->Shared->Prop) (E:Value->Shared->Prop),Q (.int (g i j) s.toks) {s with toks:=s.toks+1}->wpAny (model X.prog X.w) X.A (f (.int i t) (.int j u)) Q E s) :
  OpR X f (rI0 λi j=>.int (g i j)):=by
 intro pins s σ H x y v u Q I c b h;obtain⟨i,j,rfl,rfl,q⟩:=h;obtain⟨t,rfl⟩:=c;obtain⟨t',rfl⟩:=b;exact a i j t t' s _ _ ⟨.int (g i j),H,I.tok _,⟨_,rfl⟩,q⟩
theorem opB0 {f:Value->Value->Sem Value} {g:Int->Int->Bool}
  (a:∀(i j:Int) (t u:Tok) (s:Shared) (Q:Value->Shared->Prop) (E:Value->Shared->Prop),Q (.bool (g i j)) s->wpAny (model X.prog X.w) X.A (f (.int i t) (.int j u)) Q E s) :
  OpR X f (rI0 λi j=>.bl (g i j)):=by
 intro pins s σ H x y v u Q I c b h;obtain⟨i,j,rfl,rfl,q⟩:=h;obtain⟨t,rfl⟩:=c;obtain⟨t',rfl⟩:=b;exact a i j t t' s _ _ ⟨.bl (g i j),H,I,rfl,q⟩
def CPow(i j:Int):Prop:=0<=j/\j<=1000000/\i.natAbs<2 ^ 64
def CMul(i j:Int):Prop:=(-(2 ^ 64)<i/\i<2 ^ 64)\/(-(2 ^ 64)<j/\j<2 ^ 64)
theorem CMul.ok{i j:Int}(h:CMul i j):IntMulOk i j:=by
 rcases h with⟨h1,h2⟩ |⟨h1,h2⟩
 ·exact .of_left (intBits_le_64 h1 h2)
 ·exact .of_right (intBits_le_64 h1 h2)
theorem xb2:OpR X (binaryOp .Add) (rI0 λi j=>.int (i+j)):=opI0 λ_ _ _ _ _ _ _ q=>add_int q
theorem xc8:OpR X (binaryOp .Sub) (rI0 λi j=>.int (i-j)):=opI0 λ_ _ _ _ _ _ _ q=>sub_int q
theorem xel:OpR X (binaryOp .Mult) (rI CMul λi j=>.int (i*j)):=opI λ_ _ _ _ _ _ _ a q=>mul_int q a.ok
theorem xdj:OpR X (binaryOp .Mod) (rI (λ_ j=>0<j) λi j=>.int (i%j)):=opI λi j _ _ _ _ _ hc q=>by
 have h1:(0:Int)<j:=hc;exact mod_int' (by omega) (by rw[Int.fmod_eq_emod_of_nonneg i (by omega)];exact q)
theorem xqu:OpR X (binaryOp .Pow) (rI CPow λi j=>.int (i ^ j.toNat)):=opI λ_ _ _ _ _ _ _ a q=>pow_int_small a.1 a.2.1 a.2.2 q
theorem unI {f:Value->Sem Value} {g:Int->Int}
  (a:∀(i:Int) (t:Tok) (s:Shared) (Q:Value->Shared->Prop) (E:Value->Shared->Prop),Q (.int (g i) s.toks) {s with toks:=s.toks+1}->wpAny (model X.prog X.w) X.A (f (.int i t)) Q E s) :
  UnR X f (rU λi=>.int (g i)):=by
 intro pins s σ H x v Q I b h;obtain⟨i,rfl,q⟩:=h;obtain⟨t,rfl⟩:=b;exact a i t s _ _ ⟨.int (g i),H,I.tok _,⟨_,rfl⟩,q⟩
theorem xg1:UnR X (unaryOp .USub) (rU λi=>.int (-i)):=unI λ_ _ _ _ _ q=>neg_int q
end
def scal:V->V->Bool
 |.non,.non=>true |.non,.int _=>true |.int _,.non=>true |.non,.bl _=>true |.bl _,.non=>true |.non,.str _=>true |.str _,.non=>true
 |.int _,.int _=>true |.bl _,.bl _=>true |.str _,.str _=>true |.byt _,.byt _=>true
 |.int _,.str _=>true |.str _,.int _=>true |.bl _,.str _=>true |.str _,.bl _=>true
 |_,_=>false
def rEq:R2:=λx y H Q=>scal x y=true/\Q (.bl (decide (x=y))) H
def rNe:R2:=λx y H Q=>scal x y=true/\Q (.bl (!decide (x=y))) H
theorem xsb{i j:Int}:decide (V.int i=V.int j)=(i == j):=by
 rw[Bool.eq_iff_iff];simp
theorem xu4{i j:Bool}:decide (V.bl i=V.bl j)=(i == j):=by
 rw[Bool.eq_iff_iff];simp
theorem xsa{i j:Str}:decide (V.str i=V.str j)=(i == j):=by
 rw[Bool.eq_iff_iff];simp
theorem xsc{i j:Array UInt8}:decide (V.byt i=V.byt j)=(i.toList == j.toList):=by
 rw[Bool.eq_iff_iff];cases i;cases j;simp
section
variable {X:Cx}{a b c:Expr}{ta tb tc:TE}{pos:Pos}
theorem xbt{pins:List (Addr×Obj)}{σ:St}{H:Hp}{s:Shared}{Q:VK}{k k':Bool}(I:Inv X pins σ H s)(q:Q (.bl k) H)(e:k=k'):EP X pins σ Q (.bool k') s:=by
 subst e;exact⟨.bl k,H,I,rfl,q⟩
theorem xa9:OpR X (compareOp .Eq) rEq:=by
 intro pins s σ H x y v u Q I b a h;obtain⟨hs,q⟩:=h
 cases x with
 |non=>
  cases b
  cases y with
  |non=>cases a;exact PySem.EqNone.eq_none_none (xbt I q (by simp))
  |bl j=>cases a;exact PySem.EqNone.eq_none_bool (xbt I q (by simp))
  |int j=>obtain⟨t',rfl⟩:=a;exact PySem.EqNone.eq_none_int (xbt I q (by simp))
  |str j=>obtain⟨t',rfl⟩:=a;exact PySem.EqNone.eq_none_str (xbt I q (by simp))
  |_=>exact absurd (show false=true from hs) zL
 |bl i=>
  cases b
  cases y with
  |non=>cases a;exact PySem.EqNone.eq_bool_none (xbt I q (by simp))
  |bl j=>cases a;exact eq_bool (xbt I q xu4)
  |str j=>obtain⟨t',rfl⟩:=a;exact PySem.EqMixed.eq_bool_str (xbt I q (by simp))
  |_=>exact absurd (show false=true from hs) zL
 |int i=>
  obtain⟨t,rfl⟩:=b
  cases y with
  |non=>cases a;exact PySem.EqNone.eq_int_none (xbt I q (by simp))
  |int j=>obtain⟨t',rfl⟩:=a;exact eq_int (xbt I q xsb)
  |str j=>obtain⟨t',rfl⟩:=a;exact PySem.EqMixed.eq_int_str (xbt I q (by simp))
  |_=>exact absurd (show false=true from hs) zL
 |str i=>
  obtain⟨t,rfl⟩:=b
  cases y with
  |non=>cases a;exact PySem.EqNone.eq_str_none (xbt I q (by simp))
  |bl j=>cases a;exact PySem.EqMixed.eq_str_bool (xbt I q (by simp))
  |int j=>obtain⟨t',rfl⟩:=a;exact PySem.EqMixed.eq_str_int (xbt I q (by simp))
  |str j=>obtain⟨t',rfl⟩:=a;exact eq_str (xbt I q xsa)
  |_=>exact absurd (show false=true from hs) zL
 |byt i=>
  obtain⟨t,rfl⟩:=b
  cases y with
  |byt j=>obtain⟨t',rfl⟩:=a;exact PySem.W.eq_bytes (xbt I q xsc)
  |_=>exact absurd (show false=true from hs) zL
 |_=>cases y <;> exact absurd (show false=true from hs) zL
theorem xft:OpR X (compareOp .NotEq) rNe:=by
 intro pins s σ H x y v u Q I b a h;obtain⟨hs,q⟩:=h
 cases x with
 |non=>
  cases b
  cases y with
  |non=>cases a;exact PySem.EqNone.ne_none_none (xbt I q (by simp))
  |bl j=>cases a;exact PySem.EqNone.ne_none_bool (xbt I q (by simp))
  |int j=>obtain⟨t',rfl⟩:=a;exact PySem.EqNone.ne_none_int (xbt I q (by simp))
  |str j=>obtain⟨t',rfl⟩:=a;exact PySem.EqNone.ne_none_str (xbt I q (by simp))
  |_=>exact absurd (show false=true from hs) zL
 |bl i=>
  cases b
  cases y with
  |non=>cases a;exact PySem.EqNone.ne_bool_none (xbt I q (by simp))
  |bl j=>cases a;exact ne_bool (xbt I q (congrArg not xu4))
  |str j=>obtain⟨t',rfl⟩:=a;exact PySem.EqMixed.ne_bool_str (xbt I q (by simp))
  |_=>exact absurd (show false=true from hs) zL
 |int i=>
  obtain⟨t,rfl⟩:=b
  cases y with
  |non=>cases a;exact PySem.EqNone.ne_int_none (xbt I q (by simp))
  |int j=>obtain⟨t',rfl⟩:=a;exact ne_int (xbt I q (congrArg not xsb))
  |str j=>obtain⟨t',rfl⟩:=a;exact PySem.EqMixed.ne_int_str (xbt I q (by simp))
  |_=>exact absurd (show false=true from hs) zL
 |str i=>
  obtain⟨t,rfl⟩:=b
  cases y with
  |non=>cases a;exact PySem.EqNone.ne_str_none (xbt I q (by simp))
  |bl j=>cases a;exact PySem.EqMixed.ne_str_bool (xbt I q (by simp))
  |int j=>obtain⟨t',rfl⟩:=a;exact PySem.EqMixed.ne_str_int (xbt I q (by simp))
  |str j=>obtain⟨t',rfl⟩:=a;exact ne_str (xbt I q (congrArg not xsa))
  |_=>exact absurd (show false=true from hs) zL
 |byt i=>
  obtain⟨t,rfl⟩:=b
  cases y with
  |byt j=>obtain⟨t',rfl⟩:=a;exact PySem.W.ne_bytes (xbt I q (congrArg not xsc))
  |_=>exact absurd (show false=true from hs) zL
 |_=>cases y <;> exact absurd (show false=true from hs) zL
theorem xkj:OpR X (compareOp .Lt) (rI0 λi j=>.bl (decide (i<j))):=opB0 λ_ _ _ _ _ _ _ q=>lt_int q
theorem xz4:OpR X (compareOp .LtE) (rI0 λi j=>.bl (decide (i<=j))):=opB0 λ_ _ _ _ _ _ _ q=>le_int q
theorem xee:OpR X (compareOp .Gt) (rI0 λi j=>.bl (decide (j<i))):=opB0 λ_ _ _ _ _ _ _ q=>gt_int q
theorem xyi:OpR X (compareOp .GtE) (rI0 λi j=>.bl (decide (j<=i))):=opB0 λ_ _ _ _ _ _ _ q=>ge_int q
theorem xhe:OpR X (compareOp .Is) (λx y H Q=>y=.non/\Q (.bl (decide (x=.non))) H):=by
 intro pins s σ H x y v u Q I rx ry h;obtain⟨rfl,q⟩:=h;cases ry;refine is_none_gen (xbt I q ?_)
 cases x <;> first
  |(cases rx;rfl)
  |(obtain⟨t,rfl⟩:=rx;rfl)
theorem xjb:OpR X (compareOp .IsNot) (λx y H Q=>y=.non/\Q (.bl (!decide (x=.non))) H):=by
 intro pins s σ H x y v u Q I a b h;obtain⟨rfl,q⟩:=h;cases b;refine isnot_none_gen (xbt I q ?_)
 cases x <;> first
  |(cases a;rfl)
  |(obtain⟨t,rfl⟩:=a;rfl)
theorem nM(b:Expr){op:CmpOp}(h:op≠.In:=by decide)(h2:op≠.NotIn:=by decide):behindInMarks op b=false:=by
 have c:(op == CmpOp.In)=false:=by cases op <;> first |rfl |exact absurd rfl h
 have a:(op == CmpOp.NotIn)=false:=by cases op <;> first |rfl |exact absurd rfl h2
 cases b <;> simp[behindInMarks,c,a]
theorem xdt{op:CmpOp}{r:R2}(ho:OpR X (compareOp op) r)(ha:PE X a ta)(hb:PE X b tb)(hm:behindInMarks op b=false):PE X (.Compare a [op] [b] pos) (tOp r ta tb):=by
 intro pins s σ H Q I h;exact wpAny_Compare1 (binT ha hb I h λv u s2 x y H2 I2 rx ry q=>ho pins s2 σ H2 x y v u Q I2 rx ry q) hm
def xxm(t:TE):TT:=λσ H Q=>t σ H λx H'=>∃k,x=.bl k/\Q k H'
theorem pR{op:CmpOp}{r:R2}(p:OpR X (compareOp op) r)(F:PE X a ta)(C:PE X b tb)(w:behindInMarks op b=false):PT X (.Compare a [op] [b] pos) (xxm (tOp r ta tb)):=by
 intro pins s σ H Q I h
 refine wpAny_isTrue_Compare1 (thn (F pins s σ H _ I h) λv g ⟨x,H1,M,l,o⟩=>thn (C pins g σ H1 _ M o) λu f ⟨y,H2,J,j,n⟩=>
  thn (p pins f σ H2 x y v u _ J l j n) λc U ⟨z,O,G,i,k,e,m⟩=>?_) w
 subst e;cases i;exact wpAny_truthy_bool ⟨O,G,m⟩
def xxp(r r':R2)(ta tb tc:TE):TE:=λσ H Q=>ta σ H λx H1=>tb σ H1 λy H2=>r x y H2 λz H3=>∃k,z=.bl k ∧
 (if k=true then tc σ H3 λw' H4=>r' y w' H4 Q else Q (.bl false) H3)
theorem xs6 {op f:CmpOp} {r j:R2} (ho:OpR X (compareOp op) r) (g:OpR X (compareOp f) j) (ha:PE X a ta) (hb:PE X b tb) (hc:PE X c tc)
  (hm:lastMarks [op,f] [b,c]=false:=by with_unfolding_all rfl):PT X (.Compare a [op,f] [b,c] pos) (xxm (xxp r j ta tb tc)):=by
 intro pins s σ H Q I h
 refine isTrue_chain (thn (ha pins s σ H _ I h) λv G ⟨x,H1,I1,U,q1⟩=>test_link (thn (hb pins G σ H1 _ I1 q1) λu F ⟨y,H2,I2,i,q2⟩=>
  thn (ho pins F σ H2 x y v u _ I2 U i q2) λd C ⟨z,n,m,O,k,e,l⟩=>?_)) hm
 subst e;cases O;refine wpAny_truthy_bool ?_
 cases k with
 |false=>
  obtain⟨k',e',q'⟩:=l;cases e';exact ite_ff ⟨n,m,q'⟩
 |true=>
  refine ite_tt (test_last (thn (hc pins C σ n _ m l) λp w ⟨o,H4,I4,M,Z⟩=>thn (g pins w σ H4 y o u p _ I4 i M Z) λd' s5 ⟨z2,H5,I5,J,k2,e2,Y⟩=>?_));subst e2;cases J;exact wpAny_truthy_bool ⟨H5,I5,Y⟩
theorem xk6:(sizeLine:Nat)<2 ^ 63:=by rw[sizeLine_eq];decide
theorem xev:OpR X (binaryOp .Add) (λx y H Q=>∃i j,x=.str i/\y=.str j/\i.length+j.length<=sizeLine/\Q (.str (i++j)) H):=by
 intro pins s σ H x y v u Q I b a h;obtain⟨i,j,rfl,rfl,hz,q⟩:=h;obtain⟨t,rfl⟩:=b;obtain⟨t',rfl⟩:=a;exact add_str (λt' tk=>⟨.str (i++j),H,I.tok _,⟨_,rfl⟩,q⟩) hz
theorem xfl{x:V}{us:List Value}(r:Vals [x] us):∃u,us=[u]/\RelV x u:=by
 cases r with
 |cons b a=>cases a;exact⟨_,rfl,b⟩
theorem xdw:xec X (.type "int") (λxs H Q=>(∃i,xs=[.int i]/\Q (.int i) H)\/∃k,xs=[.bl k]/\Q (.int (if k then 1 else 0)) H):=by
 intro pins s σ H xs us Q I r h;rcases h with⟨i,rfl,q⟩ |⟨k,rfl,q⟩
 ·obtain⟨u,rfl,t,rfl⟩:=xfl r
  exact call_int_int ⟨.int i,H,I,⟨_,rfl⟩,q⟩
 ·obtain⟨u,rfl,a⟩:=xfl r
  cases a;exact call_int_bool ⟨.int (if k then 1 else 0),H,I.tok _,⟨_,rfl⟩,q⟩
end
structure ObjM(h:Heap)(x dx C:Addr)(mA:Str->Option Value):Prop where
 obj:h.get? x=some (PySem.W.instObj C dx)
 ns:h.Ns1 dx mA
 ne:dx≠x
theorem xk3{h:Heap}{dx:Addr}{mA:Str->Option Value}(n:h.Ns1 dx mA):∃od,h.get? dx=some od/\∀name,PySem.W.lookIn name od=some (mA name):=by
 obtain⟨o,es,ep,f,j,i,_,g⟩:=n;refine⟨o,f,λname=>?_⟩;have e:=g name;unfold nsFind findBy at e;rw[<- Array.find?_toList]at e;unfold PySem.W.lookIn;rw[j];dsimp only;split
 ·rename_i y q
  rw[q]at e;exact congrArg some e
 ·rename_i q
  rw[q]at e
  have a:es.toList.any (·.refKey)=false:=by
   rw[List.any_eq_false];intro y c;obtain⟨z,t,b⟩:=i y (Array.mem_toList_iff.mp c);simp[DictEntry.refKey,b]
  have l:¬es.toList.any (·.refKey)=true:=by rw[a];exact zL
  rw[if_neg l];exact congrArg some e
theorem ObjM.look{h:Heap}{x dx C:Addr}{mA:Str->Option Value}(I:ObjM h x dx C mA):∃od,PySem.W.InstAt h x (PySem.W.instObj C dx) C (some od)/\∀name,PySem.W.lookIn name od=some (mA name):=
 let ⟨od,a,b⟩:=xk3 I.ns
 ⟨od,⟨I.obj,rfl,rfl,a⟩,b⟩
theorem RelO.some_of{v:V}{o:Option Value}(r:RelO (some v) o):∃u,o=some u/\RelV v u:=by
 cases o with
 |none=>exact(show False from r).elim
 |some u=>exact⟨u,rfl,r⟩
section
variable {P:Program}{w:World}{H H':Hp}{h h':Heap}{a C dx:Addr}{fs fs':List (Str×V)}
theorem xwv(b:HOk P w H h)(e:H a=some (.ins C dx fs)):∃mA,ObjM h a dx C mA/\(∀f,RelO (fs.lookup f) (mA f))/\PySem.Within mA (fs.map (·.1))/\fs.length<=1000/\H dx=some (.own a):=by
 obtain⟨d,z,ne,c,mA,n,r,q⟩:=(show ObjOk P w H h a (.ins C dx fs) from b a _ e);exact⟨mA,⟨c,n,ne⟩,r,q,z,d⟩
end
structure Cls(K:Fg)(C:Addr):Prop where
 pg:PySem.W.plainGet K C Str.empty=true
 hd:PySem.W.hasDictIn K C=true
 po:PySem.W.plainOver K C=true
 sa:PySem.W.findIn K (.ref C) "__setattr__"=some (some (.builtin "object.__setattr__"))
theorem Cls.get{K:Fg}{C:Addr}(c:Cls K C)(f:Str):PySem.W.plainGet K C f=true:=c.pg
def xzg(K:Fg)(C:Addr)(f:Str):Prop:=PySem.W.findIn K (.ref C) f=some none
section
variable {X:Cx}{pins:List (Addr×Obj)}{σ:St}{H:Hp}{s:Shared}{A:Around}{E:Value->Shared->Prop}{Q:Value->Shared->Prop}{c:Value}{b:Bool}
inductive TyOf(K:Fg)(H:Hp):V->Value->Prop where
 |non:TyOf K H .non (.type "NoneType")
 |bl (x:Bool):TyOf K H (.bl x) (.type "bool")
 |int (i:Int):TyOf K H (.int i) (.type "int")
 |str (x:Str):TyOf K H (.str x) (.type "str")
 |flt (x:UInt64):TyOf K H (.flt x) (.type "float")
 |lst {a:Addr} {xs:List V} (e:H a=some (.lst xs)):TyOf K H (.ref a) (.type "list")
 |frz {a:Addr} {o:Obj} {xs:List V} (e:H a=some (.frz o (.lst xs))):TyOf K H (.ref a) (.type "list")
 |tup {a:Addr} {xs:List V} (e:H a=some (.tup xs)):TyOf K H (.ref a) (.type "tuple")
 |dK {a:Addr} {kvs:List (Key×V)} (e:H a=some (.dK kvs)):TyOf K H (.ref a) (.type "dict")
 |dT {a:Addr} {kvs:List (List Key×V)} (e:H a=some (.dT kvs)):TyOf K H (.ref a) (.type "dict")
 | ins {a C dx:Addr} {fs:List (Str×V)} (e:H a=some (.ins C dx fs)) (cl:Cls K C) (ha:PySem.W.findIn K (.ref C) "__class__"=some (some (.builtin "object.__class__")))
   (hn:PySem.W.specialIn K (.builtin "object.__class__") "__get__"=some (some (.builtin "getset_descriptor.__get__"))) (htk:PySem.W.takesIn K (.builtin "object.__class__")=some true)
   (hm:PySem.W.mroIn K C (.type "object")=some true):TyOf K H (.ref a) (.ref C)
theorem xrr {x:V} {u t:Value} (I:Inv X pins σ H s) (rx:RelV x u) (ty:TyOf X.K H x t) (e:PySem.W.kitOne X.K t c=some b) (h:∀tk,Q (.bool b) {s with toks:=tk}) :
  wpAny (model X.prog X.w) A (call (.builtin "isinstance") [u,c]) Q E s:=by
 cases ty with
 |non=>cases (show u=Value.none from rx);exact PySem.W.kia_one PySem.W.kitx_none I.kIn True.intro e (λz=>nomatch z) h
 |bl y=>cases (show u=Value.bool y from rx);exact PySem.W.kia_one PySem.W.kitx_bool I.kIn True.intro e (λz=>nomatch z) h
 |int i=>obtain⟨t,q⟩:=(show ∃t,u=Value.int i t from rx);cases q;exact PySem.W.kia_one PySem.W.kitx_int I.kIn True.intro e (λz=>nomatch z) h
 |str y=>obtain⟨t,q⟩:=(show ∃t,u=Value.str y t from rx);cases q;exact PySem.W.kia_one PySem.W.kitx_str I.kIn True.intro e (λz=>nomatch z) h
 |flt y=>obtain⟨t,q⟩:=(show ∃t,u=Value.float y t from rx);cases q;exact PySem.W.kia_one PySem.W.kitx_float I.kIn True.intro e (λz=>nomatch z) h
 |@lst a xs ea=>
  cases (show u=Value.ref a from rx);obtain⟨_,_,n,_,h1⟩:=(show ObjOk X.prog X.w H s.heap a (.lst xs) from I.hok a _ ea);exact PySem.W.kia_one PySem.W.kitx_list I.kIn ⟨_,h1,rfl⟩ e (λz=>nomatch z) h
 |@frz a ob xs ea=>
  cases (show u=Value.ref a from rx);obtain⟨_,_,_,n,_,h1⟩:=(show ObjOk X.prog X.w H s.heap a (.frz ob (.lst xs)) from I.hok a _ ea);exact PySem.W.kia_one PySem.W.kitx_list I.kIn ⟨_,h1,rfl⟩ e (λz=>nomatch z) h
 |@tup a xs ea=>
  cases (show u=Value.ref a from rx);obtain⟨_,_,_,p⟩:=(show ObjOk X.prog X.w H s.heap a (.tup xs) from I.hok a _ ea);obtain⟨o,h1,h2,_⟩:=p;exact PySem.W.kia_one PySem.W.kitx_tuple I.kIn ⟨o,h1,h2⟩ e (λz=>nomatch z) h
 |@dK a kvs ea=>
  cases (show u=Value.ref a from rx);obtain⟨_,_,vs,_,p⟩:=(show ObjOk X.prog X.w H s.heap a (.dK kvs) from I.hok a _ ea);obtain⟨o,es,ep,h1,h2,_⟩:=p;exact PySem.W.kia_one PySem.W.kitx_dict I.kIn ⟨o,h1,h2.1⟩ e (λz=>nomatch z) h
 |@dT a kvs ea=>
  cases (show u=Value.ref a from rx);obtain⟨_,_,xs,_,o,es,ep,h1,h2,_⟩:=(show ObjOk X.prog X.w H s.heap a (.dT kvs) from I.hok a _ ea);exact PySem.W.kia_one PySem.W.kitx_dict I.kIn ⟨o,h1,h2.1⟩ e (λz=>nomatch z) h
 |@ins a C dx fs ea cl ha hn htk hm=>
  cases (show u=Value.ref a from rx);obtain⟨mA,O,_⟩:=xwv I.hok ea;obtain⟨od,J,_⟩:=O.look;exact PySem.W.kia_one (PySem.W.kitx_own (cl.get _) cl.hd ha hn htk hm) I.kIn J e (λz=>nomatch z) h
end
structure Room(k:Nat)(A:Around):Prop where
 hd:A.handled=none
 dp:A.depth+3*k+5<recursionLimit
 un:A.units+16*k+200<cLine
theorem Room.mono{j k:Nat}{A:Around}(r:Room k A)(h:j<=k):Room j A:=⟨r.hd,by have:=r.dp;omega,by have:=r.un;omega⟩
theorem Room.deeper{k:Nat}{A:Around}(r:Room (k+1) A)(env:Env):Room k (A.deeper env):=
 ⟨r.hd,by have:=r.dp;show A.depth+1+3*k+5<_;omega,by have:=r.un;show A.units+3+16*k+200<_;omega⟩
theorem Room.depth{k:Nat}{A:Around}(r:Room k A):A.depth<recursionLimit:=by have:=r.dp;omega
theorem Room.units{k:Nat}{A:Around}(r:Room k A):A.units+64<cLine:=by have:=r.un;omega
def tNil:TA:=λ_ H Q=>Q [] H
def xvj(ta:TE)(tr:TA):TA:=λσ H Q=>ta σ H λx H1=>tr σ H1 λxs H2=>Q (x::xs) H2
section
variable {X:Cx}{e:Expr}{es:List Expr}{te:TE}{t:TA}{pos:Pos}
theorem pN:PA X [] tNil:=λ_ _ _ _ H Q I h=>Calls.spliced_nil ⟨[],H,I,.nil,h⟩
theorem zpc(j:PE X e te)(i:PA X es t)(hs:starEach (e::es) X.env=(false,eval e X.env)::starEach es X.env:=by rfl):PA X (e::es) (xvj te t):=by
 intro pos pins s σ H Q I h;rw[hs];show wpAny _ _ (spliced ((false,eval e X.env)::backTo pos (starEach es X.env))) _ _ s;refine Calls.spliced_cons (thn (j pins s σ H _ I h) λu a ⟨x,H1,m,c,g⟩=>?_);exact thn (i pos pins a σ H1 _ m g) λus n ⟨xs,H2,l,b,f⟩=>⟨x::xs,H2,l,.cons c b,f⟩
def tTup(t:TA):TE:=λσ H Q=>t σ H λxs H1=>xs.length<=sizeLine/\∀p,H1 p=none->Q (.ref p) (upd H1 p (.tup xs))
def tLst(t:TA):TE:=λσ H Q=>t σ H λxs H1=>xs.length<=sizeLine/\∀p,H1 p=none->Q (.ref p) (upd H1 p (.lst xs))
theorem xak{f}(h:PA X es t):PE X (.Tuple es f pos) (tTup t):=by
 intro pins s σ H Q I g;refine wpAny_Tuple_spliced (thn (h pos pins s σ H _ I g) λus a ⟨xs,H1,c,r,z,q⟩=>⟨by rw[<- r.length];exact z,?_⟩);have i:H1 a.heap.objs.size=none:=c.hok.fresh (zG _);refine⟨.ref a.heap.objs.size,upd H1 a.heap.objs.size (.tup xs),c.laid (t':=a.toks) (λb u e=>zPO _ e) (zG _) ?_,rfl,q _ i⟩;exact⟨z,us,r,⟨_,zK _ rfl,rfl,_,rfl,rfl⟩⟩
theorem xbs(h:PA X es t):PE X (.List es pos) (tLst t):=by
 intro pins s σ H Q I f;refine wpAny_List_spliced (thn (h pos pins s σ H _ I f) λus a ⟨xs,H1,c,r,z,q⟩=>⟨by rw[<- r.length];exact z,?_⟩);have g:H1 a.heap.objs.size=none:=c.hok.fresh (zG _);refine⟨.ref a.heap.objs.size,upd H1 a.heap.objs.size (.lst xs),c.laid (t':=a.toks) (λb u e=>zPO _ e) (zG _) ?_,rfl,q _ g⟩;exact⟨z,us,0,r,zK _ rfl⟩
end
abbrev Sp:=List V->Hp->VK->XK->Prop
abbrev CXT:=List Env->Hp->Shared->XK->Value->Shared->Prop
structure Env0(P:Program)(w:World)(K:Fg)(mg:Str->Option Value)(base:Heap)(A:Around)(outer:List Env)(s:Shared)(H:Hp):Prop where
 frames:A.frames=some outer
 mod:Mod K mg base
 bs:∀b o,base.get? b=some o->s.heap.get? b=some o/\H b=none
 bsz:base.objs.size<=s.heap.objs.size
 funs:s.heap.FunFrames base outer
 frf:∀b∈frs outer,H b=none
 hok:HOk P w H s.heap
 bare:AllBare s.gens
def CE(outer:List Env)(P:Program)(w:World)(H:Hp)(s:Shared)(Q:VK)(u:Value)(s':Shared):Prop:=
 ∃v H',s'.os=s.os/\AllBare s'.gens/\Un (frs outer) [] H H' s.heap s'.heap/\HOk P w H' s'.heap/\RelV v u/\Q v H'
def CR(CX:CXT)(outer:List Env)(P:Program)(w:World)(H:Hp)(s:Shared)(Q:VK)(E:XK)(r:Result)(s':Shared):Prop:=
 match r with
 |.ok (.ret u)=>CE outer P w H s Q u s'
 |.ok _=>False
 |.error e=>CX outer H s E e s'
structure FnOk(P:Program)(w:World)(K:Fg)(mg:Str->Option Value)(base:Heap)(CX:CXT)(k:Nat)(f:Addr)(fd:FuncData)(ps:List Str)(sp:Sp):Prop where
 len:∀vs H Q E,sp vs H Q E->vs.length=ps.length
 run:∀(A:Around) (outer:List Env) (s:Shared) (H:Hp) (args:Args) (us:List Value) (vs:List V) (Q:VK) (E:XK),Room k A->Env0 P w K mg base A outer s H->BindsTo s fd args (ps.zip us)->Vals vs us->sp vs H Q E->
  codeAny (model P w) A (.call (.ref f) args) (CR CX outer P w H s Q E) s
theorem FnOk.mono {P:Program} {w:World} {K:Fg} {mg:Str->Option Value} {base:Heap} {CX:CXT} {j k:Nat} {f:Addr} {fd:FuncData} {ps:List Str} {sp:Sp} (F:FnOk P w K mg base CX j f fd ps sp) (h:j<=k) :
  FnOk P w K mg base CX k f fd ps sp:=⟨F.len,λA outer s H args us vs Q E a=>F.run A outer s H args us vs Q E (a.mono h)⟩
theorem FnOk.imp {P:Program} {w:World} {K:Fg} {mg:Str->Option Value} {base:Heap} {CX:CXT} {k:Nat} {f:Addr} {fd:FuncData} {ps:List Str} {sp sp':Sp} (F:FnOk P w K mg base CX k f fd ps sp)
  (h:∀vs H Q E,sp' vs H Q E->sp vs H Q E):FnOk P w K mg base CX k f fd ps sp':=
 ⟨λvs H Q E q=>F.len vs H Q E (h _ _ _ _ q),λA outer s H args us vs Q E hr he hb hv hs=>F.run A outer s H args us vs Q E hr he hb hv (h _ _ _ _ hs)⟩
section
variable {X:Cx}{pins:List (Addr×Obj)}{σ:St}{H:Hp}{s s':Shared}
theorem Inv.env0(I:Inv X pins σ H s):Env0 X.prog X.w X.K X.mg X.base X.A X.stack s H:=
 ⟨I.ok.frames,I.ok.mod,I.bs,zF I.ok.bsz I.sz,I.stack,I.stkFree,I.hok,I.bare⟩
theorem Inv.after{Q:VK}{u:Value}(I:Inv X pins σ H s)(h:CE X.stack X.prog X.w H s Q u s'):EP X pins σ Q u s':=by
 obtain⟨v,H',os,bare,un,hok,r,q⟩:=h;obtain⟨hh,g,d,t,os'⟩:=s';obtain rfl:os'=s.os:=os;exact⟨v,H',I.call (h':=hh) (g':=g) (d':=d) (t':=t) (ch:=[]) un hok bare (λb z=>absurd z (by simp)),r,q⟩
end
def xxr(sp:Sp)(dvs:List V)(E:XK)(t:TA):TE:=λσ H Q=>t σ H λvs H1=>sp (vs++dvs) H1 Q E
def Binds(K:Fg)(fd:FuncData)(ps:List Str)(ds:List Value):Prop:=
 ∀(s:Shared) (us:List Value),K.In s.heap->(us++ds).length=ps.length->BindsTo s fd ⟨us,[]⟩ (ps.zip (us++ds))
theorem Binds.all{K:Fg}{fd:FuncData}{ps:List Str}(h:∀us:List Value,us.length=ps.length->bindArgs fd ⟨us,[]⟩=pure (ps.zip us)):Binds K fd ps []:=λs us _ hl=>by
 rw[List.append_nil]at hl⊢;exact .of_eq (h us hl)
def xsl(CX:CXT)(X:Cx)(E:XK):Prop:=∀(pins:List (Addr×Obj)) (σ:St) (H:Hp) (s:Shared) (e:Value) (s':Shared),Inv X pins σ H s->CX X.stack H s E e s'->X.xe e s'
section
variable {X:Cx}{CX:CXT}{k:Nat}{f C:Addr}{fd:FuncData}{ps:List Str}{sp:Sp}{dvs:List V}{ds:List Value}{E:XK}{x m:Str}{p pos apos:Pos}{e o:Expr}{es:List Expr}{ta:TE}{t:TA}
theorem xx2 {pins:List (Addr×Obj)} {σ:St} {H:Hp} {s:Shared} {Q:VK} {us:List Value} {vs:List V} (F:FnOk X.prog X.w X.K X.mg X.base CX k f fd ps sp) (hr:Room k X.A) (hb:Binds X.K fd ps ds) (hd:Vals dvs ds) (hx:xsl CX X E)
  (I:Inv X pins σ H s) (r:Vals vs us) (h:sp (vs++dvs) H Q E):wpAny (model X.prog X.w) X.A (call (.ref f) us) (EP X pins σ Q) X.xe s:=by
 have r2:Vals (vs++dvs) (us++ds):=r.append hd;have hl:(us++ds).length=ps.length:=by rw[<- r2.length];exact F.len _ _ _ _ h
 refine wpAny_call (codeAny_mono (F.run X.A X.stack s H ⟨us,[]⟩ (us++ds) (vs++dvs) Q E hr I.env0 (hb s us I.kIn hl) r2 h) λr s' hq=>?_)
 cases r with
 |error e=>exact hx pins σ H s e s' I hq
 |ok fl=>
  cases fl with
  |ret u=>exact I.after hq
  |next=>exact False.elim hq
  |brk=>exact False.elim hq
  |cont=>exact False.elim hq
theorem xv1 (F:FnOk X.prog X.w X.K X.mg X.base CX k f fd ps sp) (i:Room k X.A) (m:Gl X x) (j:X.mg x=some (.ref f)) (l:PySem.W.keepIn X.K (.ref f)=true) (u:Binds X.K fd ps ds) (o:Vals dvs ds) (g:xsl CX X E)
  (y:PA X (e::es) t) (b:(x == ("__debug__":Str))=false:=by decide) (n:starEach (e::es) X.env=(false,eval e X.env)::starEach es X.env:=by rfl) (a:(backTo pos (starEach es X.env)).any (·.1)=false:=by rfl) :
  PE X (.Call (.Name x p) (e::es) [] pos) (xxr sp dvs E t):=by
 intro pins s σ H Q I h;refine wpAny_Call_Name_kw (xhl I m j ?_ b);refine PySem.W.callWith_K (h₀:=X.base) I.ok.mod.kin l (thn (y pos pins s σ H _ I h) λus z ⟨vs,H1,c,r,q⟩=>⟨c.kIn,?_⟩) n a;exact xx2 F i u o g c r q
end
structure FnScope(N P:List Str)(sc:Scope):Prop where
 kind:sc.kind=.function
 co:sc.isCoroutine=false
 gen:sc.isGenerator=false
 nd:N.Nodup
 pre:N.take P.length=P
 par:∀x∈P,sc.names.lookup x=some .local\/sc.names.lookup x=some .cell
 nofree:∀y∈sc.names,y.2≠.free
theorem xlq{a:Str->Option NameKind}{x:Str}:∀{binds:List (Str×Value)} {m:Str->Option Value},(∀v,(x,v) ∉binds)->bindL a binds m x=m x
 |[],_,_=>rfl
 | (n,v)::r,m,h=>by
  unfold bindL;rw[xlq λw b=>h w (zP _ b)];split
  ·have:x≠n:=by rintro rfl;exact h v List.mem_cons_self
   simp[this]
  ·rfl
theorem xls{a:Str->Option NameKind}{x:Str}:∀{binds:List (Str×Value)} {m:Str->Option Value},(∀v,(x,v) ∉binds)->bindC a binds m x=m x
 |[],_,_=>rfl
 | (n,v)::r,m,h=>by
  unfold bindC;rw[xls λw b=>h w (zP _ b)];split
  ·rfl
  ·have:x≠n:=by rintro rfl;exact h v List.mem_cons_self
   simp[this]
theorem xlr {a:Str->Option NameKind} {x:Str} {v:Value}:∀{P:List Str} {vs:List Value} {i:Nat} {m:Str->Option Value},P.Nodup->P[i]?=some x->vs[i]?=some v->a x=some .local->
  bindL a (P.zip vs) m x=some v
 |[],_,_,_,_,h,_,_=>by simp at h
 |_::_,[],_,_,_,_,h,_=>by simp at h
 |p::P,w::vs,0,m,nd,h1,h2,b=>by
  simp at h1 h2;subst h1;subst h2;show bindL a ((p,w)::P.zip vs) m p=_;unfold bindL;rw[xlq λv c=>(List.nodup_cons.mp nd).1 (List.of_mem_zip c).1,if_pos b];simp
 |p::P,w::vs,i+1,m,nd,h1,h2,b=>by
  show bindL a ((p,w)::P.zip vs) m x=_;unfold bindL;exact xlr (i:=i) (List.nodup_cons.mp nd).2 (by simpa using h1) (by simpa using h2) b
theorem xlt {a:Str->Option NameKind} {x:Str} {v:Value}:∀{P:List Str} {vs:List Value} {i:Nat} {m:Str->Option Value},P.Nodup->P[i]?=some x->vs[i]?=some v->a x≠some .local->
  bindC a (P.zip vs) m x=some v
 |[],_,_,_,_,h,_,_=>by simp at h
 |_::_,[],_,_,_,_,h,_=>by simp at h
 |p::P,w::vs,0,m,nd,h1,h2,b=>by
  simp at h1 h2;subst h1;subst h2;show bindC a ((p,w)::P.zip vs) m p=_;unfold bindC;rw[xls λv c=>(List.nodup_cons.mp nd).1 (List.of_mem_zip c).1,if_neg b];simp
 |p::P,w::vs,i+1,m,nd,h1,h2,b=>by
  show bindC a ((p,w)::P.zip vs) m x=_;unfold bindC;exact xlt (i:=i) (List.nodup_cons.mp nd).2 (by simpa using h1) (by simpa using h2) b
def xgk(N:List Str)(vs:List V):St:=vs.map some++List.replicate (N.length-vs.length) none
def cxOf(CX:CXT)(P:Program)(w:World)(K:Fg)(mg:Str->Option Value)(base:Heap)(N:List Str)(qual:Str)(scope:Scope)(f:Addr)(cd:Value)(A:Around)(outer:List Env)(s:Shared)(H:Hp)(E:XK):Cx where
 prog:=P
 w:=w
 K:=K
 mg:=mg
 base:=base
 A:=A.deeper (envOfC qual scope s.heap.objs.size f cd)
 N:=N
 s₀:=s
 H₀:=H
 env:=envOfC qual scope s.heap.objs.size f cd
 outer:=outer
 stack:=envOfC qual scope s.heap.objs.size f cd::outer
 ex:=[]
 calm:=true
 fn:=λ_=>true
 pn:=[]
 xe:=λe s'=>wpAny (model P w) (A.deeper (envOfC qual scope s.heap.objs.size f cd)) (leaving (envOfC qual scope s.heap.objs.size f cd) e) (λ_ s''=>CX outer H s E e s'') (λe' s''=>CX outer H s E e' s'') s'
theorem xn6{a:Scope}{n:Nat}{x:Str}(h:a.names.lookup x=some .cell):∃c,(cellsFrom n a.names []).lookup x=some c:=by
 have q:=PySem.W.cellsFrom_some a.names n [] (.inl h);exact Option.isSome_iff_exists.mp q
theorem xrs {CX:CXT} {P:Program} {w:World} {K:Fg} {mg:Str->Option Value} {base:Heap} {N ps:List Str} {j:Str} {g:Scope} {f:Addr} {G:Value} {A:Around} {outer:List Env} {s I:Shared} {H:Hp} {E:XK} {us:List Value} {vs:List V}
  (S:FnScope N ps g) (Y:A.handled=none) (l:Env0 P w K mg base A outer s H) (hl:vs.length=ps.length) (r:Vals vs us)
  (x:InCallC s s.heap.objs.size (bindL (envOfC j g s.heap.objs.size f G).kindOf (ps.zip us) λ_=>none) (cellsFrom (s.heap.objs.size+1) g.names []) (bindC (envOfC j g s.heap.objs.size f G).kindOf (ps.zip us) λ_=>none) I) :
  Inv (cxOf CX P w K mg base N j g f G A outer s H E) [] (xgk N vs) H I:=by
 have U:ps.length<=N.length:=by have:=congrArg List.length S.pre;rw[List.length_take]at this;omega
 obtain⟨h1,tk,rfl,M⟩:=x.done;have m:∀b:Addr,b ∉(cxOf CX P w K mg base N j g f G A outer s H E).ex:=λb z=>absurd (show b∈([]:List Addr) from z) (by simp)
 refine⟨⟨l.mod,S.kind,rfl,rfl,zG _,λy z c h1 h2=>?_,λy o=>?_,λy c _ h=>?_,λ_=>Y,Around.frames_deeper l.frames,.inr ⟨rfl,rfl⟩,λb z=>absurd z (m b),l.bs,l.bsz,λb _ _=>m b,λb z=>absurd z (m b),l.funs,l.frf⟩,
  rfl,l.bare,Un.kept M,⟨_,x.toInCall.ns,λi y v h1 h2 h3=>?_⟩,λy c h=>⟨_,x.cell y c h⟩,l.hok.fresh (zG _),λy c h=>?_,λp F=>absurd (show p∈([]:List (Addr×Obj)) from F) (by simp),l.hok.kept M,?_⟩
 ·exact name_of_addr x.apart (PySem.mem_of_lookup h1) (PySem.mem_of_lookup h2)
 ·have o:g.names.lookup y=some .cell\/g.names.lookup y=some .free:=o
  rcases o with o |o
  ·exact xn6 o
  ·exact absurd rfl (S.nofree _ (PySem.mem_of_lookup o))
 ·exact Nat.le_of_lt (x.above y c (PySem.mem_of_lookup h))
 ·have hi:i<vs.length:=by
   unfold xgk at h2;by_cases hi:i<vs.length
   ·exact hi
   ·rw[List.getElem?_append_right (by simpa using hi)]at h2
    rw[List.getElem?_replicate]at h2;split at h2 <;> cases h2
  have Z:vs[i]?=some v:=by
   unfold xgk at h2;rw[List.getElem?_append_left (by simpa using hi),zGM]at h2
   cases e:vs[i]? with
   |none=>rw[e]at h2;cases h2
   |some a=>rw[e]at h2;cases h2;rfl
  obtain⟨u,J,O⟩:=r.get Z
  have F:ps[i]?=some y:=by
   rw[<- S.pre,List.getElem?_take_of_lt (by omega)];exact h1
  have C:ps.Nodup:=by rw[<- S.pre];exact S.nd.sublist (List.take_sublist _ _)
  refine⟨u,O,?_⟩;rcases S.par y (zMG F) with k |k
  ·exact .inl ⟨k,xlr C F J k⟩
  ·obtain⟨c,e⟩:=xn6 (n:=s.heap.objs.size+1) k
   refine .inr ⟨.inl k,c,e,?_⟩;have q:=x.cell y c e;rw[xlt C F J (by show g.names.lookup y≠_;rw[k];decide)]at q;exact q
 ·exact l.hok.fresh (Nat.le_of_lt (x.above y c (PySem.mem_of_lookup h)))
 ·unfold xgk
  show _=N.length;rw[zLA,zLM,List.length_replicate];omega
theorem xy6 {CX:CXT} {P:Program} {w:World} {K:Fg} {mg:Str->Option Value} {base:Heap} {k:Nat} {f:Addr} {name qual:Str} {params:Arguments} {body:List Stmt} {scope:Scope} {dV kV doc pm cdv ct oc:Value} {an od:Option Addr}
  {osl:Array (Option Value)} {N ps:List Str} {sp:Sp} (lk:K.lookup f=some ⟨oc,od,.func (PySem.W.fnOf name qual params body scope dV kV doc pm an cdv ct),osl⟩) (hcd:PySem.W.codeIn K cdv qual=true) (S:FnScope N ps scope)
  (len:∀vs H Q E,sp vs H Q E->vs.length=ps.length)
  (hbody:∀(A:Around) (outer:List Env) (s:Shared) (H:Hp) (vs:List V) (Q:VK) (E:XK),Room k (A.deeper (envOfC qual scope s.heap.objs.size f cdv))->sp vs H Q E->
   ∃t,PSs (cxOf CX P w K mg base N qual scope f cdv A outer s H E) body t/\t {nx:=λ_ H'=>Q .non H',rt:=Q} (xgk N vs) H) :
  FnOk P w K mg base CX (k+1) f (PySem.W.fnOf name qual params body scope dV kV doc pm an cdv ct) ps sp:=by
 refine⟨len,λA outer s H args us vs Q E hr e0 hb r hsp=>?_⟩;have hl:=len _ _ _ _ hsp;have KX:K.In s.heap:=e0.mod.kin.keeps λb o e=>(e0.bs b o e).1;have lim:s.heap.NoLimit:=e0.mod.nolimit.keeps λb o e=>(e0.bs b o e).1
 have hkind:∀y∈ps.zip us,scope.names.lookup y.1=some .local\/(scope.names.lookup y.1=some .cell/\((cellsFrom (s.heap.objs.size+1) scope.names []).lookup y.1).isSome=true):=λ⟨n,v⟩ hy=>by
  rcases S.par n (List.of_mem_zip hy).1 with q |q
  ·exact .inl q
  ·exact .inr ⟨q,PySem.W.cellsFrom_some _ _ _ (.inl q)⟩
 refine codeAny_call_function hr.depth (KX _ _ lk) rfl S.co S.gen rfl (PySem.W.codeRec_of KX hcd) (hb _ _ _ _ ?_);refine wpAny_newFunctionEnv_cells S.kind hkind λenv he s1 x=>?_;subst he;refine⟨lim.keeps x.toInCall.keep,codeAny_func ?_⟩;obtain⟨t,ht,hq⟩:=hbody A outer s H vs Q E (hr.deeper _) hsp;have I:Inv (cxOf CX P w K mg base N qual scope f cdv A outer s H E) [] (xgk N vs) H s1:=xrs S hr.hd e0 hl r x;refine wpAny_mono (ht [] s1 (xgk N vs) H _ I hq) (λfl s' hs=>?_) λe s' hs=>hs
 have fin:∀{σ':St} {H':Hp} {v:V} {u:Value},Inv (cxOf CX P w K mg base N qual scope f cdv A outer s H E) [] σ' H' s'->RelV v u->Q v H'->CE outer P w H s Q u s':=
  λ{σ' H' v u} J rv q=>⟨v,H',J.os,J.bare,J.base,J.hok,rv,q⟩
 cases fl with
 |ret u=>
  obtain⟨v,σ',H',J,rv,q⟩:=hs;exact fin J rv q
 |next=>
  obtain⟨σ',H',J,q⟩:=hs;exact fin (v:=V.non) (u:=Value.none) J rfl q
 |brk=>
  obtain⟨_,_,_,q⟩:=hs;exact False.elim q
 |cont=>
  obtain⟨_,_,_,q⟩:=hs;exact False.elim q
section
variable {X:Cx}{x:Str}{p pos:Pos}{e:Expr}{es:List Expr}{t:TA}{id T:String}{r:List V->Hp->VK->Prop}
def tCB(r:List V->Hp->VK->Prop)(t:TA):TE:=λσ H Q=>t σ H λvs H1=>r vs H1 Q
theorem xan (hc:xec X (.builtin id) r) (hg:Gl X x) (hm:X.mg x=none) (hv:bootBuiltins x=some (.builtin id)) (ha:PA X (e::es) t) (hn:x≠"__name__":=by decide) (hdb:(x == ("__debug__":Str))=false:=by decide)
  (he:starEach (e::es) X.env=(false,eval e X.env)::starEach es X.env:=by rfl) (hpl:(backTo pos (starEach es X.env)).any (·.1)=false:=by rfl):PE X (.Call (.Name x p) (e::es) [] pos) (tCB r t):=by
 intro pins s σ H Q I h;refine wpAny_Call_Name_kw (xfy I hg hm hv ?_ hn hdb);exact PyProof.Rows.callWith_builtin1 (thn (ha pos pins s σ H _ I h) λus s1 ⟨vs,H1,I1,r1,q1⟩=>hc pins s1 σ H1 vs us Q I1 r1 q1) he hpl
theorem xau (hc:xec X (.type T) r) (hg:Gl X x) (hm:X.mg x=none) (hv:bootBuiltins x=some (.type T)) (ha:PA X (e::es) t) (hn:x≠"__name__":=by decide) (hdb:(x == ("__debug__":Str))=false:=by decide)
  (he:starEach (e::es) X.env=(false,eval e X.env)::starEach es X.env:=by rfl) (hpl:(backTo pos (starEach es X.env)).any (·.1)=false:=by rfl):PE X (.Call (.Name x p) (e::es) [] pos) (tCB r t):=by
 intro pins s σ H Q I h;refine wpAny_Call_Name_kw (xfy I hg hm hv ?_ hn hdb);exact PyProof.Rows.callWith_type1 (thn (ha pos pins s σ H _ I h) λus s1 ⟨vs,H1,I1,r1,q1⟩=>hc pins s1 σ H1 vs us Q I1 r1 q1) he hpl
end
end L2
namespace HT
open PySem PyProof.Rows
section
variable {prog:Program}{w:World}{A:Around}{E:Value->Shared->Prop}{s:Shared}
theorem cat_tup {t b:Addr} {vs ws:List Value} {Q:Value->Shared->Prop} (ht:IsTup s.heap t vs.toArray) (hb:IsTup s.heap b ws.toArray) (hv:vs≠[])
  (h1:ws=[]->Q (.ref t) s) (h2:ws≠[]->Q (.ref s.heap.objs.size) {s with heap:=s.heap.push {cls:=.type "tuple",data:=.seq (vs++ws).toArray}})
  (hsz:vs.length+ws.length<=sizeLine):wpAny (model prog w) A (binaryOp .Add (.ref t) (.ref b)) Q E s:=by
 obtain⟨⟨cls,dd,data,sl⟩,ho,hc,n,hd⟩:=id ht;obtain⟨⟨cls2,dd2,data2,sl2⟩,ho2,hc2,n2,hd2⟩:=id hb;simp only at hc hd hc2 hd2;subst hc hd hc2 hd2;have e:vs.toArray++ws.toArray=(vs++ws).toArray:=by simp
 by_cases hw:ws=[]
 ·exact concat_meets ⟨_,ho,rfl⟩ ⟨_,ho2,rfl⟩ noFill_tuple_add seq_tuple_add PySem.F.slot_tuple_add PySem.F.entry_tuple_add (PySem.F.args_tuple_add_2 _ _)
   (tuple_addW1 t b vs.toArray ws.toArray n n2 dd dd2 sl sl2 (by simpa using hv) (by simp[hw])) ⟨ho,ho2,h1 hw⟩
 ·refine concat_meets ⟨_,ho,rfl⟩ ⟨_,ho2,rfl⟩ noFill_tuple_add seq_tuple_add PySem.F.slot_tuple_add PySem.F.entry_tuple_add (PySem.F.args_tuple_add_2 _ _)
   (tuple_addW2 t b vs.toArray ws.toArray n n2 dd dd2 sl sl2 (by simpa using hv) (by simpa using hw) (by rw[List.size_toArray,List.size_toArray];exact hsz)) ⟨ho,ho2,?_⟩
  rw[e];exact h2 hw
def sIx(n d:Nat):Option Int->Nat
 |none=>d
 |some v=>if v<0 then (v+(n:Int)).toNat else min v.toNat n
theorem sIx_none(n d:Nat):sIx n d none=d:=rfl
theorem sIx_nat(n d k:Nat):sIx n d (some (k:Int))=min k n:=by
 show(if (k:Int)<0 then ((k:Int)+(n:Int)).toNat else min (k:Int).toNat n)=min k n;rw[if_neg (by omega),Int.toNat_natCast]
theorem xx1(n d:Nat)(b:d<=n)(o:Option Int):sIx n d o<=n:=by
 cases o with
 |none=>exact b
 |some v=>
  show(if v<0 then (v+(n:Int)).toNat else min v.toNat n)<=n;by_cases a:v<0
  ·rw[if_pos a];omega
  ·rw[if_neg a];exact Nat.min_le_right _ _
theorem xsh(v:Int)(n d:Nat):(if v<0 then max (v+(n:Int)) 0 else min v (n:Int))=((sIx n d (some v):Nat):Int):=by
 show(if v<0 then max (v+(n:Int)) 0 else min v (n:Int))=(((if v<0 then (v+(n:Int)).toNat else min v.toNat n):Nat):Int);by_cases a:v<0
 ·simp only[if_pos a];omega
 ·simp only[if_neg a];omega
theorem xo1(lo hi:Option Int)(n:Nat):Builtin.Slice.sliceAdjust lo hi 1 (n:Int)=(((sIx n 0 lo:Nat):Int),((sIx n n hi:Nat):Int)):=by
 have h1:¬((1:Int)<0):=by omega
 unfold Builtin.Slice.sliceAdjust;simp only[h1,if_false];refine Prod.ext ?_ ?_
 ·cases lo with
  |none=>rfl
  |some v=>exact xsh v n 0
 ·cases hi with
  |none=>rfl
  |some v=>exact xsh v n n
theorem xoi(i j:Nat):Builtin.Slice.slicePlaces (i:Int) (j:Int) 1=j-i:=by
 unfold Builtin.Slice.slicePlaces;have h1:(1:Int) > 0:=by omega
 simp only[h1,if_true,Int.ediv_one];split <;> omega
theorem xib{v:Value}{o:Option Int}{Q:Option Int->Shared->Prop}(p:IsPart v o)(h:Q o s):wpAny (model prog w) A (Builtin.Slice.slicePartIndex v) Q E s:=by
 cases p with
 |none=>exact slicePart_none h
 |int i t=>exact slicePart_int h
theorem xek {sl:Addr} {e c:Value} {lo hi:Option Int} {n:Nat} {Q:Int×Int×Nat->Shared->Prop} (hs:s.heap.IsSliceOf sl e c .none) (pl:IsPart e lo) (f:IsPart c hi)
  (h:Q (((sIx n 0 lo:Nat):Int),1,sIx n n hi-sIx n 0 lo) s):wpAny (model prog w) A (Builtin.Slice.sliceApplied (.ref sl) (pure (n:Int))) Q E s:=by
 obtain⟨i,a,g,b⟩:=id hs;unfold Builtin.Slice.sliceApplied Builtin.Slice.sliceFields;refine zE (zE (zU a b (x:=e) rfl (zE (zU a b (x:=c) rfl (zE (zU a b (x:=.none) rfl (zI ?_)))))));refine zE (slicePart_none ?_);show wpAny _ _ (if ((1:Int) == 0)=true then _ else _) _ _ s;rw[if_neg (by decide)];refine zE (xib pl (zE (xib f (zE (zI ?_)))));show wpAny _ _ (match Builtin.Slice.sliceAdjust lo hi 1 (n:Int) with |(lo,hi)=>pure (lo,(1:Int),Builtin.Slice.slicePlaces lo hi 1)) _ _ s;rw[xo1 lo hi n];show wpAny _ _ (pure (((sIx n 0 lo:Nat):Int),(1:Int),Builtin.Slice.slicePlaces ((sIx n 0 lo:Nat):Int) ((sIx n n hi:Nat):Int) 1)) _ _ s;rw[xoi];exact zI h
theorem xs8(xs:Array Value)(i k:Nat):((List.range k).filterMap λ(m:Nat)=>xs[((i:Int)+(m:Int)*1).toNat]?).toArray=((xs.toList.drop i).take k).toArray:=by
 have e:(λ(m:Nat)=>xs[((i:Int)+(m:Int)*1).toNat]?)=λm=>xs[i+m]?:=by
  funext m
  have:((i:Int)+(m:Int)*1).toNat=i+m:=by omega
  rw[this]
 rw[e];have:=pick_run xs i k;rw[List.filterMap_map]at this;have a:((λx=>xs[x]?) ∘ λx=>i+x)=λm=>xs[i+m]?:=rfl;rw[a]at this;rw[this]
theorem getItem_tuple_cut {t sl:Addr} {items:Array Value} {j i:Value} {lo hi:Option Int} {Q:Value->Shared->Prop} (b:IsTup s.heap t items) (hs:s.heap.IsSliceOf sl j i .none) (pl:IsPart j lo) (l:IsPart i hi)
  (o:¬(sIx items.size 0 lo=0/\sIx items.size items.size hi=items.size))
  (h:Q (.ref s.heap.objs.size) {s with heap:=s.heap.push {cls:=.type "tuple",data:=.seq ((items.toList.drop (sIx items.size 0 lo)).take (sIx items.size items.size hi-sIx items.size 0 lo)).toArray}})
  (hsz:items.size<=sizeLine):wpAny (model prog w) A (getItem (.ref t) (.ref sl)) Q E s:=by
 have a:sizeOk (.seq ((items.toList.drop (sIx items.size 0 lo)).take (sIx items.size items.size hi-sIx items.size 0 lo)).toArray):=by
  show((items.toList.drop (sIx items.size 0 lo)).take (sIx items.size items.size hi-sIx items.size 0 lo)).toArray.size<=sizeLine;rw[List.size_toArray,List.length_take,List.length_drop,Array.length_toList];omega
 have x:sIx items.size items.size hi<=items.size:=xx1 _ _ (zG _) hi;obtain⟨n,c,f,p⟩:=id hs;have g:s.TypeIs (.ref sl) "slice":=⟨n,c,f⟩;unfold getItem
 try with_reducible refine zV ?_
 first |refine zE (zI ?_) |skip
 refine zE (wpAny_sequenceKey b.typeIs (by decide) ?_)
 refine zE (wpAny_callSpecial?_slot (name:=Str.ofString "__getitem__") b.typeIs PyProof.Rows.slot_tuple_getitem
  (wpAny_call_entry PyProof.Rows.slot_tuple_getitem b.typeIs entry_tuple_getitem ?_ (args_tuple_getitem _ _)))
 show wpAny _ _ (Builtin.Tuple.tupleItemsOf (.ref t) >>= _) _ _ s;refine zE (tupleItemsOf_ b ?_);refine zE (qD g ?_);rw[if_pos (by decide)];refine zE (xek hs pl l ?_)
 have e:¬((((sIx items.size 0 lo:Nat):Int) == 0 && (1:Int) == 1 && (sIx items.size items.size hi-sIx items.size 0 lo) == items.size)=true):=by
  intro q;rw[Bool.and_eq_true,Bool.and_eq_true]at q;have u:((sIx items.size 0 lo:Nat):Int)=0:=eq_of_beq q.1.1;have r:sIx items.size items.size hi-sIx items.size 0 lo=items.size:=eq_of_beq q.2;exact o ⟨by omega,by omega⟩
 show wpAny _ _ (if (((sIx items.size 0 lo:Nat):Int) == 0 && (1:Int) == 1 && (sIx items.size items.size hi-sIx items.size 0 lo) == items.size)=true then _ else _) _ _ s;rw[if_neg e,xs8]
 first
  |exact zE (m:=Builtin.Tuple.tupleExact _) (wpAny_newObj_type (zI ⟨_,rfl,zI h⟩) a)
  |exact zE (m:=Builtin.Tuple.tupleExact _) (wpAny_newObj_type (zE (zI (zI ⟨_,rfl,zI h⟩))) a)
  |exact zE (zE (m:=Builtin.Tuple.tupleExact _) (wpAny_newObj_type (zI (zI ⟨_,rfl,zI h⟩)) a))
  |exact zE (zE (m:=Builtin.Tuple.tupleExact _) (wpAny_newObj_type (zI ⟨_,rfl,zI h⟩) a))
end
end HT
namespace L2
open PySem PySem.Spec PyProof.Rows
abbrev TO:=St->Hp->(Option Int->Hp->Prop)->Prop
def PO(X:Cx)(e:Option Expr)(t:TO):Prop:=
 ∀(pins:List (Addr×Obj)) (s:Shared) (σ:St) (H:Hp) (Q:Option Int->Hp->Prop),Inv X pins σ H s->t σ H Q->
  wpAny (model X.prog X.w) X.A (evalPart e X.env) (λu s'=>∃o H',Inv X pins σ H' s'/\IsPart u o/\Q o H') X.xe s
def xiy:TO:=λ_ H Q=>Q none H
def xzo(t:TE):TO:=λσ H Q=>t σ H λx H1=>∃i,x=.int i/\Q (some i) H1
theorem xgc{ns:List Int}:∀{us:List Value},Vals (ns.map V.int) us->IntsAre us ns:=by
 induction ns with
 |nil=>intro us r;rw[List.map_nil]at r;cases r;exact .nil
 | cons n ns c=>
  intro us r;rw[List.map_cons]at r
  cases r with
  |cons b a=>
   obtain⟨t,e⟩:=b;subst e;exact .cons n t (c a)
section
variable {X:Cx}{e:Expr}{te:TE}{lo hi:Option Expr}{tl th:TO}{pos p2:Pos}
theorem xdp:PO X none xiy:=by
 intro pins s σ H Q I h;rw[evalPart_none];exact zI ⟨none,H,I,.none,h⟩
theorem xcy(h:PE X e te):PO X (some e) (xzo te):=by
 intro pins s σ H Q I c;rw[evalPart_some];refine thn (h pins s σ H _ I c) λu g ⟨x,H1,f,a,b⟩=>?_;obtain⟨i,rfl,q⟩:=b;obtain⟨t,rfl⟩:=a;exact⟨some i,H1,f,.int i t,q⟩
def SlR(X:Cx)(r:V->Option Int->Option Int->Hp->VK->Prop):Prop:=
 ∀(pins:List (Addr×Obj)) (s:Shared) (σ:St) (H:Hp) (x:V) (v vl vu:Value) (lo hi:Option Int) (sl:Addr) (Q:VK),Inv X pins σ H s->RelV x v->s.heap.IsSliceOf sl vl vu .none->IsPart vl lo->IsPart vu hi->r x lo hi H Q->
  ∃T id,typeLookup (.type T) "__getitem__"=pure (some (.builtin id))/\s.TypeIs v T/\wpAny (model X.prog X.w) X.A (getItem v (.ref sl)) (EP X pins σ Q) X.xe s
def tSl(r:V->Option Int->Option Int->Hp->VK->Prop)(te:TE)(tl th:TO):TE:=λσ H Q=>te σ H λx H1=>tl σ H1 λl H2=>th σ H2 λu H3=>r x l u H3 Q
theorem xcn{r:V->Option Int->Option Int->Hp->VK->Prop}(hr:SlR X r)(he:PE X e te)(hl:PO X lo tl)(hu:PO X hi th):PE X (.Subscript e (.Slice lo hi none p2) pos) (tSl r te tl th):=by
 intro pins s σ H Q I h;refine Subscript_ (thn (he pins s σ H _ I h) λv s1 ⟨x,H1,I1,r1,q1⟩=>?_);refine wpAny_Slice (thn (hl pins s1 σ H1 _ I1 q1) λvl s2 ⟨l,H2,I2,pl,q2⟩=>thn (hu pins s2 σ H2 _ I2 q2) λvu s3 ⟨u,H3,I3,pu,q3⟩=>?_);rw[evalPart_none];refine zI ?_;have I4:Inv X pins σ H3 {s3 with heap:=s3.heap.push {cls:=.type "slice",data:=.fields #[vl,vu,.none]}}:=I3.kept (t':=s3.toks) λb ob q=>zPO _ q;obtain⟨T,id,hT,ht,hg⟩:=hr pins {s3 with heap:=s3.heap.push {cls:=.type "slice",data:=.fields #[vl,vu,.none]}} σ H3 x v vl vu l u s3.heap.objs.size Q I4 r1 (Heap.IsSliceOf.new ..) pl pu q3;show wpAny (model X.prog X.w) X.A (subscriptTail e (.Slice lo hi none p2) v (.ref s3.heap.objs.size)) (EP X pins σ Q) X.xe {s3 with heap:=s3.heap.push {cls:=.type "slice",data:=.fields #[vl,vu,.none]}};exact tail_any (ops:=[.ref s3.heap.objs.size,v]) ht hT hg (by with_unfolding_all rfl)
def cutV(xs:List V)(lo hi:Option Int):List V:=(xs.drop (HT.sIx xs.length 0 lo)).take (HT.sIx xs.length xs.length hi-HT.sIx xs.length 0 lo)
theorem xhw(xs:List V)(lo hi:Option Int):(cutV xs lo hi).length<=xs.length:=by
 unfold cutV;rw[List.length_take,List.length_drop];omega
def rSlT(K:Fg):V->Option Int->Option Int->Hp->VK->Prop:=λx lo hi H Q=>∃a xs,x=.ref a/\SqT K H a xs ∧
 ¬(HT.sIx xs.length 0 lo=0/\HT.sIx xs.length xs.length hi=xs.length)/\∀p,H p=none->Q (.ref p) (upd H p (.tup (cutV xs lo hi)))
theorem xuk:SlR X (rSlT X.K):=by
 intro pins s σ H x v m l lo hi sl Q I f hs pl g h;obtain⟨a,xs,rfl,i,j,q⟩:=h;cases f;obtain⟨its,r,e,hz⟩:=I.tuple i;have c:its.toArray.size=xs.length:=by rw[List.size_toArray];exact r.length.symm
 refine⟨"tuple",_,PyProof.Rows.slot_tuple_getitem.lookup,e.typeIs,?_⟩;refine HT.getItem_tuple_cut e hs pl g (by rw[c];exact j) ?_ (by rw[c];exact hz);rw[c];refine⟨.ref s.heap.objs.size,_,I.laid (t':=s.toks) (o:=.tup (cutV xs lo hi)) (λb n q=>zPO _ q) (zG _) ?_,rfl,q _ (I.hok.fresh (zG _))⟩;exact⟨zF (xhw xs lo hi) hz,_,(r.drop (HT.sIx xs.length 0 lo)).take (HT.sIx xs.length xs.length hi-HT.sIx xs.length 0 lo),_,zK _ rfl,rfl,_,rfl,rfl⟩
def xz1(K:Fg):R2:=λx y H Q=>∃a b xs ys,x=.ref a/\y=.ref b/\SqT K H a xs/\SqT K H b ys/\xs≠[]/\xs.length+ys.length<=sizeLine ∧
 (ys=[]->Q (.ref a) H)/\(ys≠[]->∀p,H p=none->Q (.ref p) (upd H p (.tup (xs++ys))))
theorem Vals.nil_iff{xs:List V}{us:List Value}(r:Vals xs us):us=[] ↔ xs=[]:=by
 cases r with
 |nil=>simp
 |cons _ _=>simp
theorem xwb:OpR X (binaryOp .Add) (xz1 X.K):=by
 intro pins s σ H x y v u Q I i g h;obtain⟨a,b,xs,ys,rfl,rfl,r,p,n,hz,l,j⟩:=h;cases i;cases g;obtain⟨its,e,m,_⟩:=I.tuple r;obtain⟨f,c,p2,_⟩:=I.tuple p;refine HT.cat_tup m p2 (λz=>n (e.nil_iff.mp z)) (λz=>⟨.ref a,H,I,rfl,l (c.nil_iff.mp z)⟩) (λz=>?_) (by rw[<- e.length,<- c.length];exact hz);refine⟨.ref s.heap.objs.size,_,I.laid (t':=s.toks) (o:=.tup (xs++ys)) (λb C q=>zPO _ q) (zG _) ?_,rfl,j (λw=>z (c.nil_iff.mpr w)) _ (I.hok.fresh (zG _))⟩;exact⟨by rw[zLA];exact hz,_,e.append c,_,zK _ rfl,rfl,_,rfl,rfl⟩
end
def ixN(n:Nat)(i:Int):Option Nat:=if 0<=i then (if i<n then some i.toNat else none) else if -(n:Int)<=i then some (i+n).toNat else none
def atI{α:Type}(xs:List α)(i:Int):Option α:=(ixN xs.length i).bind λj=>xs[j]?
theorem xrp{n:Nat}{i:Int}{j:Nat}(h:ixN n i=some j):seqIndex? i n=some j/\j<n/\-(n:Int)<=i/\i<n:=by
 unfold ixN at h;by_cases h0:0<=i
 ·rw[if_pos h0]at h
  by_cases h1:i<n
  ·rw[if_pos h1]at h
   have e:i.toNat=j:=zM h;exact⟨by rw[seqIndex_of h0 h1,e],by omega,by omega,h1⟩
  ·rw[if_neg h1]at h;cases h
 ·rw[if_neg h0]at h
  by_cases h1:-(n:Int)<=i
  ·rw[if_pos h1]at h
   have e:(i+n).toNat=j:=zM h;exact⟨by rw[seqIndex_neg (by omega) h1,e],by omega,h1,by omega⟩
  ·rw[if_neg h1]at h;cases h
theorem xmx{α:Type}{xs:List α}{i:Int}{v:α}(h:atI xs i=some v):∃j,seqIndex? i xs.length=some j/\xs[j]?=some v/\j<xs.length/\-(xs.length:Int)<=i/\i<xs.length:=by
 unfold atI at h
 cases e:ixN xs.length i with
 |none=>rw[e]at h;cases h
 |some j=>
  rw[e]at h;obtain⟨h1,h2,b,a⟩:=xrp e;exact⟨j,h1,h,h2,b,a⟩
theorem xar{α:Type}{xs:List α}{j:Nat}{v:α}(h:xs[j]?=some v):atI xs (j:Int)=some v:=by
 have a:j<xs.length:=(zES h).1
 have e:ixN xs.length (j:Int)=some j:=by
  unfold ixN;rw[if_pos (by omega),if_pos (by omega)];simp
 unfold atI;rw[e];exact h
theorem xf5{α:Type}(xs:List α)(v:α):atI (xs++[v]) (-1)=some v:=by
 have a:(xs++[v]).length=xs.length+1:=by simp
 have e:ixN (xs++[v]).length (-1)=some xs.length:=by
  unfold ixN;rw[a,if_neg (by decide),if_pos (by omega)];congr 1;omega
 unfold atI;rw[e];show(xs++[v])[xs.length]?=some v;simp
def xmy(b:Expr):Prop:=∀o i,subscripted b false o i=operate [o,i] (getItem o i)
def IxR(X:Cx)(r:R2):Prop:=
 ∀(value slice:Expr) (pins:List (Addr×Obj)) (s:Shared) (σ:St) (H:Hp) (x y:V) (v u:Value) (Q:VK),Inv X pins σ H s->RelV x v->RelV y u->r x y H Q->
  subscripted slice false v u=operate [v,u] (getItem v u)->wpAny (model X.prog X.w) X.A (subscriptTail value slice v u) (EP X pins σ Q) X.xe s
def MtR(X:Cx)(id:String)(r:V->List V->Hp->VK->Prop):Prop:=
 ∀(pins:List (Addr×Obj)) (s:Shared) (σ:St) (H:Hp) (x:V) (xs:List V) (v:Value) (us:List Value) (Q:VK),Inv X pins σ H s->RelV x v->Vals xs us->r x xs H Q->
  wpAny (model X.prog X.w) X.A (call (.builtin id) (v::us)) (EP X pins σ Q) X.xe s
section
variable {X:Cx}{a b:Expr}{ta tb:TE}{pos:Pos}
theorem xok{r:R2}(hr:IxR X r)(ha:PE X a ta)(hb:PE X b tb)(hs:xmy b):PE X (.Subscript a b pos) (tOp r ta tb):=by
 intro pins s σ H Q I h;exact Subscript_ (binT ha hb I h λv u s2 x y H2 I2 rx ry q=>hr a b pins s2 σ H2 x y v u Q I2 rx ry q (hs _ _))
def rIxL(K:Fg):R2:=λx y H Q=>∃p xs i v,x=.ref p/\y=.int i/\SqL K H p xs/\atI xs i=some v/\Q v H
def rIxT(K:Fg):R2:=λx y H Q=>∃p xs i v,x=.ref p/\y=.int i/\SqT K H p xs/\atI xs i=some v/\Q v H
def rIxS:R2:=λx y H Q=>∃z i c,x=.str z/\y=.int i/\z.length<=sizeLine/\atI z.cps.toList i=some c/\Q (.str ⟨#[c]⟩) H
theorem iL:IxR X (rIxL X.K):=by
 intro value a pins s σ H x y v u Q I g f h hs;obtain⟨p,xs,i,z,rfl,rfl,l,n,q⟩:=h;cases g;obtain⟨t,rfl⟩:=f;obtain⟨its,r,pl,hz⟩:=I.list l;obtain⟨j,h1,h2,F,C,o⟩:=xmx n;obtain⟨w,e,b⟩:=r.get h2;have m:=r.length;have hn:=xk6;have fin:EP X pins σ Q w s:=⟨z,H,I,b,q⟩;by_cases h0:0<=i
 ·have c:i.toNat=j:=by
   rw[seqIndex_of h0 o]at h1;exact zM h1
  exact item_listR pl.isList h0 (by omega) (by rw[c];simpa using e) fin hs
 ·have c:(i+(its.toArray.size:Int)).toNat=j:=by
   rw[seqIndex_neg (by omega) C]at h1;rw[List.size_toArray,<- m];exact zM h1
  exact subscriptTail_builtinR (x:=w) pl.isList.typeIs slot_list_getitem.lookup
   (wpAny_getItem_list_neg (Q:=λr s'=>r=w/\EP X pins σ Q r s') pl.isList (by omega) (by rw[List.size_toArray] <;> omega) (by omega) (by rw[c];simpa using e) ⟨rfl,fin⟩) hs
theorem xyz:IxR X (rIxT X.K):=by
 intro value a pins s σ H x y v u Q I e c h hs;obtain⟨p,xs,i,z,rfl,rfl,f,l,q⟩:=h;cases e;obtain⟨t,rfl⟩:=c;obtain⟨its,r,pl,hz⟩:=I.tuple f;obtain⟨j,h1,h2,C,o,n⟩:=xmx l;obtain⟨w,m,b⟩:=r.get h2;have g:=r.length;have hn:=xk6;have fin:EP X pins σ Q w s:=⟨z,H,I,b,q⟩
 exact subscriptTail_builtinR (x:=w) pl.typeIs slot_tuple_getitem.lookup
  (getItem_tuple (j:=j) (Q:=λr s'=>r=w/\EP X pins σ Q r s') pl (by omega) (by omega) (by rw[List.size_toArray,<- g];exact h1) (by simpa using m) ⟨rfl,fin⟩) hs
theorem xny:IxR X rIxS:=by
 intro value a pins s σ H x y v u Q I e b h hs;obtain⟨z,i,c,rfl,rfl,hz,g,q⟩:=h;obtain⟨t,rfl⟩:=e;obtain⟨t',rfl⟩:=b;obtain⟨j,h1,h2,p,m,l⟩:=xmx g;have f:z.cps.toList.length=z.length:=by simp[Str.length]
 rw[f]at h1 m l;have hn:=xk6
 exact tail_any (typeIs_str s z t) slot_str_getitem.lookup (getItem_str (c:=c) (by
  have o:decide (i < -(2 ^ 63:Int))=false:=zDF (by omega);have n:decide (i ≥ 2 ^ 63)=false:=zDF (by omega);rw[o,n,Bool.or_false]) (by rw[h1];simpa using h2) ⟨.str ⟨#[c]⟩,H,I.tok _,⟨_,rfl⟩,q⟩) hs
theorem xow(its:List Value)(n j:Nat)(u:Value):Obj.mapSeq (·.setIfInBounds j u) {cls:=.type "list",data:=.seq its.toArray n}={cls:=.type "list",data:=.seq (its.set j u).toArray n}:=by
 simp[Obj.mapSeq]
theorem Inv.lst {pins:List (Addr×Obj)} {σ:St} {H:Hp} {s:Shared} {p:Addr} {xs:List V} (I:Inv X pins σ H s) (h:H p=some (.lst xs)) :
  ∃(its:List Value) (n:Nat),Vals xs its/\s.heap.get? p=some {cls:=.type "list",data:=.seq its.toArray n}/\xs.length<=sizeLine:=by
 obtain⟨z,its,n,r,e⟩:=I.hok p _ h;exact⟨its,n,r,e,z⟩
theorem Inv.lstUpd {pins:List (Addr×Obj)} {σ:St} {H:Hp} {s:Shared} {p:Addr} {xs ys:List V} {its its':List Value} {n n':Nat} {f:Obj->Obj} (I:Inv X pins σ H s) (h:H p=some (.lst xs))
  (ho:s.heap.get? p=some {cls:=.type "list",data:=.seq its.toArray n}) (hf:f {cls:=.type "list",data:=.seq its.toArray n}={cls:=.type "list",data:=.seq its'.toArray n'}) (r:Vals ys its') (hz:ys.length<=sizeLine) (t:Nat) :
  Inv X pins σ (upd H p (.lst ys)) {s with heap:=s.heap.update p f,toks:=t}:=by
 have e:(s.heap.update p f).get? p=some {cls:=.type "list",data:=.seq its'.toArray n'}:=by
  rw[Heap.get?_update_self f ho (by rw[hf] <;> rfl),hf]
 refine I.write (x:=p) (e:=p) (by rw[h];trivial) (.inl rfl) (λb u hb q=>(Heap.get?_update_other _ _ (Ne.symm hb)).trans q) ⟨_,e⟩ ?_;exact⟨hz,its',n',r,e⟩
def xzy:V->V->V->Hp->(Hp->Prop)->Prop:=λo i v H Q=>∃p xs k j,o=.ref p/\i=.int k/\H p=some (.lst xs)/\ixN xs.length k=some j/\Q (upd H p (.lst (xs.set j v)))
theorem xi6:PSet X xzy:=by
 intro pins s σ H o i v z C u Q I w x m h;obtain⟨p,xs,k,j,rfl,rfl,e,y,q⟩:=h;cases w;obtain⟨t,rfl⟩:=x;obtain⟨its,n,r,a,hz⟩:=I.lst e;obtain⟨h1,h2,g,f⟩:=xrp y;have b:=r.length;have hn:=xk6
 have l:Inv X pins σ (upd H p (.lst (xs.set j v))) {s with heap:=s.heap.update p (Obj.mapSeq (·.setIfInBounds j u))}:=
  I.lstUpd e a (xow its n j u) (r.set m j) (by rw[List.length_set];exact hz) s.toks
 by_cases h0:0<=k
 ·have c:k.toNat=j:=by
   rw[seqIndex_of h0 f]at h1;exact zM h1
  exact PySem.W.ki_setAt a h0 (by omega) (by rw[List.size_toArray,<- b];exact f) (by rw[c];exact⟨_,l,q⟩)
 ·have c:(k+(its.toArray.size:Int)).toNat=j:=by
   rw[seqIndex_neg (by omega) g]at h1;rw[List.size_toArray,<- b];exact zM h1
  exact PySem.W.ki_setBack a (by omega) (by rw[List.size_toArray,<- b];exact g) (by omega) (by rw[c];exact⟨_,l,q⟩)
theorem xkb(lo hi:Option Int)(n:Nat):(sliceBounds lo hi none n).1=((HT.sIx n 0 lo:Nat):Int)/\(sliceBounds lo hi none n).2.1=((HT.sIx n n hi:Nat):Int)/\(sliceBounds lo hi none n).2.2=1:=by
 refine⟨?_,?_,rfl⟩
 ·cases lo with
  |none=>simp[sliceBounds,HT.sIx]
  |some i=>
   simp only[sliceBounds,HT.sIx,Option.getD_none,show(1:Int) > 0 by decide,if_true];by_cases h:i<0
   ·simp only[h,if_true] <;> omega
   ·simp only[h,if_false] <;> omega
 ·cases hi with
  |none=>simp[sliceBounds,HT.sIx]
  |some i=>
   simp only[sliceBounds,HT.sIx,Option.getD_none,show(1:Int) > 0 by decide,if_true];by_cases h:i<0
   ·simp only[h,if_true] <;> omega
   ·simp only[h,if_false] <;> omega
theorem xi5(its:List Value)(lo hi:Option Int):slicePick its.toArray lo hi none=((its.drop (HT.sIx its.length 0 lo)).take (HT.sIx its.length its.length hi-HT.sIx its.length 0 lo)).toArray:=by
 obtain⟨h1,h2,a⟩:=xkb lo hi its.toArray.size;unfold slicePick;rw[h1,h2,a];simp only[sliceRange_one,pick_run,List.size_toArray] <;> rfl
def rSlL(K:Fg):V->Option Int->Option Int->Hp->VK->Prop:=λx lo hi H Q=>∃a xs,x=.ref a/\SqL K H a xs/\∀p,H p=none->Q (.ref p) (upd H p (.lst (cutV xs lo hi)))
theorem xg9:SlR X (rSlL X.K):=by
 intro pins s σ H x v l j lo hi sl Q I f hs pl g h;obtain⟨a,xs,rfl,i,q⟩:=h;cases f;obtain⟨its,r,e,hz⟩:=I.list i;have c:=r.length;refine⟨"list",_,slot_list_getitem.lookup,e.isList.typeIs,?_⟩;refine wpAny_getItem_list_slice e.isList hs pl g .none (by simp) ?_ (by rw[List.size_toArray] <;> omega);rw[xi5,<- c];refine⟨.ref s.heap.objs.size,_,I.laid (t':=s.toks) (o:=.lst (cutV xs lo hi)) (λb m q=>zPO _ q) (zG _) ?_,rfl,q _ (I.hok.fresh (zG _))⟩;exact⟨zF (xhw xs lo hi) hz,_,0,(r.drop (HT.sIx xs.length 0 lo)).take (HT.sIx xs.length xs.length hi-HT.sIx xs.length 0 lo),zK _ rfl⟩
def xem:V->Bool
 |.non=>true
 |.bl _=>true
 |.int _=>true
 |.str _=>true
 |_=>false
def eqV:V->V->Bool
 |.non,.non=>true
 |.bl a,.bl b=>a == b
 |.bl a,.int b=>(if a then 1 else 0) == b
 |.int a,.bl b=>a == (if b then 1 else 0)
 |.int a,.int b=>a == b
 |.str a,.str b=>a == b
 |_,_=>false
theorem xu3{A:Around}{s:Shared}{y x:V}{u v:Value}(e:RelV y u)(c:RelV x v)(g:xem y=true)(f:xem x=true):SeqAt.EqAt A s u v (eqV y x):=by
 cases y with
 |non=>
  cases e
  cases x with
  |non=>cases c;exact SeqAt.EqAt.same _
  |bl b=>cases c;exact SeqAt.EqAt.none_bool b
  |int b=>obtain⟨t,rfl⟩:=c;exact SeqAt.EqAt.none_int b t
  |str b=>obtain⟨t,rfl⟩:=c;exact SeqAt.EqAt.none_str b t
  |_=>exact absurd (show false=true from f) zL
 |bl a=>
  cases e
  cases x with
  |non=>cases c;exact SeqAt.EqAt.bool_none a
  |bl b=>cases c;exact SeqAt.EqAt.bool_bool a b
  |int b=>obtain⟨t,rfl⟩:=c;exact SeqAt.EqAt.bool_int a b t
  |str b=>obtain⟨t,rfl⟩:=c;exact SeqAt.EqAt.bool_str a b t
  |_=>exact absurd (show false=true from f) zL
 |int a=>
  obtain⟨t',rfl⟩:=e
  cases x with
  |non=>cases c;exact SeqAt.EqAt.int_none a t'
  |bl b=>cases c;exact SeqAt.EqAt.int_bool a t' b
  |int b=>obtain⟨t,rfl⟩:=c;exact SeqAt.EqAt.int_int a t' b t
  |str b=>obtain⟨t,rfl⟩:=c;exact SeqAt.EqAt.int_str a t' b t
  |_=>exact absurd (show false=true from f) zL
 |str a=>
  obtain⟨t',rfl⟩:=e
  cases x with
  |non=>cases c;exact SeqAt.EqAt.str_none a t'
  |bl b=>cases c;exact SeqAt.EqAt.str_bool a t' b
  |int b=>obtain⟨t,rfl⟩:=c;exact SeqAt.EqAt.str_int a t' b t
  |str b=>obtain⟨t,rfl⟩:=c;exact SeqAt.EqAt.str_str a t' b t
  |_=>exact absurd (show false=true from f) zL
 |_=>exact absurd (show false=true from g) zL
def eqU(x:V)(u:Value):Bool:=match u with
 |.none=>eqV .non x
 |.bool b=>eqV (.bl b) x
 |.int i _=>eqV (.int i) x
 |.str z _=>eqV (.str z) x
 |_=>false
theorem xn2{x y:V}{u:Value}(r:RelV y u)(f:xem y=true):eqU x u=eqV y x:=by
 cases y with
 |non=>cases r;rfl
 |bl b=>cases r;rfl
 |int i=>obtain⟨t,rfl⟩:=r;rfl
 |str z=>obtain⟨t,rfl⟩:=r;rfl
 |_=>exact absurd (show false=true from f) zL
theorem xhy{x:V}:∀{xs:List V} {us:List Value},Vals xs us->xs.all xem=true->us.any (eqU x)=xs.any λy=>eqV y x
 |_,_,.nil,_=>rfl
 |y::xs,u::us,.cons r t,f=>by
  rw[List.all_cons,Bool.and_eq_true]at f;rw[List.any_cons,List.any_cons,xn2 r f.1,xhy t f.2]
theorem xeg{A:Around}{s:Shared}{x:V}{v:Value}(b:RelV x v)(c:xem x=true):∀{xs:List V} {us:List Value},Vals xs us->xs.all xem=true->∀u∈us,SeqAt.EqAt A s u v (eqU x u)
 |_,_,.nil,_=>λu a=>by cases a
 |y::xs,u::us,.cons r t,f=>λe a=>by
  rw[List.all_cons,Bool.and_eq_true]at f;rcases zMC a with rfl |a
  ·rw[xn2 r f.1];exact xu3 r b f.1 c
  ·exact xeg b c t f.2 e a
def inV(x:V)(xs:List V):Bool:=xs.any λy=>eqV y x
def rIn(K:Fg)(neg:Bool):R2:=λx y H Q=>∃p xs,y=.ref p/\(SqL K H p xs\/SqT K H p xs)/\xem x=true/\xs.all xem=true/\Q (.bl (if neg then !inV x xs else inV x xs)) H
theorem xkk:OpR X (compareOp .In) (rIn X.K false):=by
 intro pins s σ H x y v u Q I c f h;obtain⟨p,xs,rfl,a,e,fs,q⟩:=h;cases f;rcases a with a |a
 ·obtain⟨its,r,pl,hz⟩:=I.list a
  refine SeqAt.in_listAt (eqU x) pl.isList (λw b=>xeg c e r fs w (by simpa using b)) ⟨.bl _,H,I,rfl,?_⟩;rw[show its.toArray.any (eqU x)=its.any (eqU x) by simp,xhy r fs];exact q
 ·obtain⟨its,r,pl,hz⟩:=I.tuple a
  refine SeqAt.in_tupleAt (eqU x) pl (λw b=>xeg c e r fs w (by simpa using b)) ⟨.bl _,H,I,rfl,?_⟩;rw[show its.toArray.any (eqU x)=its.any (eqU x) by simp,xhy r fs];exact q
theorem xki:OpR X (compareOp .NotIn) (rIn X.K true):=by
 intro pins s σ H x y v u Q I c f h;obtain⟨p,xs,rfl,a,e,fs,q⟩:=h;cases f;rcases a with a |a
 ·obtain⟨its,r,pl,hz⟩:=I.list a
  refine SeqAt.notIn_listAt (eqU x) pl.isList (λw b=>xeg c e r fs w (by simpa using b)) ⟨.bl _,H,I,rfl,?_⟩;rw[show its.toArray.any (eqU x)=its.any (eqU x) by simp,xhy r fs];exact q
 ·obtain⟨its,r,pl,hz⟩:=I.tuple a
  refine SeqAt.notIn_tupleAt (eqU x) pl (λw b=>xeg c e r fs w (by simpa using b)) ⟨.bl _,H,I,rfl,?_⟩;rw[show its.toArray.any (eqU x)=its.any (eqU x) by simp,xhy r fs];exact q
theorem xln:xec X (.builtin "len") (λxs H Q=>∃p ys,xs=[.ref p]/\(SqL X.K H p ys\/SqT X.K H p ys)/\Q (.int ys.length) H):=by
 intro pins s σ H xs us Q I r h;obtain⟨p,ys,rfl,b,q⟩:=h;obtain⟨u,rfl,e⟩:=xfl r;cases e;have hn:=xk6;rcases b with b |b
 ·obtain⟨its,c,pl,hz⟩:=I.list b
  have a:=c.length;exact Calls.call_len_list pl.isList (by simp only[List.size_toArray] <;> omega) ⟨.int ys.length,H,I.tok _,⟨s.toks+1,by rw[List.size_toArray,a]⟩,q⟩
 ·obtain⟨its,c,pl,hz⟩:=I.tuple b
  have a:=c.length;exact len_tuple pl (by simp only[List.size_toArray] <;> omega) ⟨.int ys.length,H,I.tok _,⟨s.toks+1,by rw[List.size_toArray,a]⟩,q⟩
theorem xju:xec X (.type "tuple") (λxs H Q=>∃p ys,xs=[.ref p]/\((SqL X.K H p ys/\∀l,H l=none->Q (.ref l) (upd H l (.tup ys)))\/(SqT X.K H p ys/\Q (.ref p) H))):=by
 intro pins s σ H xs us Q I r h;obtain⟨p,ys,rfl,h⟩:=h;obtain⟨u,rfl,i⟩:=xfl r;cases i;rcases h with⟨c,q⟩ |⟨c,q⟩
 ·obtain⟨its,a,pl,hz⟩:=I.list c
  have f:=a.length;refine call_tuple_list pl.isList (λh' j=>?_) (by simp only[List.size_toArray] <;> omega);have g:Inv X pins σ H {s with heap:=h'}:=I.kept (t':=s.toks) j
  have m:Inv X pins σ (upd H h'.objs.size (.tup ys)) {s with heap:=h'.push {cls:=.type "tuple",data:=.seq its.toArray}}:=
   g.laid (t':=s.toks) (λb o e=>zPO _ e) (zG _) (show ObjOk X.prog X.w _ _ _ (.tup ys) from⟨hz,its,a,_,zK _ rfl,rfl,_,rfl,rfl⟩)
  exact⟨.ref h'.objs.size,_,m,rfl,q _ (g.hok.fresh (zG _))⟩
 ·obtain⟨its,a,pl,hz⟩:=I.tuple c
  exact call_tuple_same pl ⟨.ref p,H,I,rfl,q⟩
def tyV(K:Fg)(T:String)(x:V)(H:Hp):Prop:=match x with
 |.str _=>T="str"
 |.int _=>T="int"
 | .ref p=>(T="list"/\∃xs,SqL K H p xs)\/(T="tuple"/\∃o,K.lookup p=some o/\o.cls=.type "tuple"/\o.dict=none) ∨
   (T="dict"/\((∃kvs,H p=some (.dK kvs))\/∃kvs,H p=some (.dT kvs)))\/(T="set"/\∃S n,H p=some (.set S n))
 |_=>False
theorem xud {pins:List (Addr×Obj)} {σ:St} {H:Hp} {s:Shared} {T:String} {x:V} {v:Value} (I:Inv X pins σ H s) (r:RelV x v) (f:tyV X.K T x H) :
  s.TypeIs v T/\∀a,v=.ref a->∃j,s.heap.get? a=some j/\j.dict=none:=by
 cases x with
 |str z=>
  obtain⟨t,rfl⟩:=r;cases (show T="str" from f);exact⟨typeIs_str s z t,λ_ e=>nomatch e⟩
 |int i=>
  obtain⟨t,rfl⟩:=r;cases (show T="int" from f);exact⟨typeIs_int s i t,λ_ e=>nomatch e⟩
 | ref p=>
  cases r;rcases f with⟨rfl,xs,l⟩ |⟨rfl,o,b,m,g⟩ |⟨rfl,b⟩ |⟨rfl,S,n,b⟩
  ·obtain⟨its,_,pl,_⟩:=I.list l
   refine⟨pl.isList.typeIs,λa e=>?_⟩;cases e;obtain⟨o,n,e,c,g,_⟩:=pl;exact⟨o,e,g⟩
  ·refine⟨⟨o,I.kIn p o b,m⟩,λa e=>?_⟩
   cases e;exact⟨o,I.kIn _ o b,g⟩
  ·have z:∃o,s.heap.get? p=some o/\o.ExactDict:=by
    rcases b with⟨kvs,b⟩ |⟨kvs,b⟩
    ·obtain⟨_,_,_,_,o,_,_,e,ex,_⟩:=I.hok p _ b
     exact⟨o,e,ex⟩
    ·obtain⟨_,_,_,_,o,_,_,e,ex,_⟩:=I.hok p _ b
     exact⟨o,e,ex⟩
   obtain⟨o,e,ex⟩:=z;refine⟨⟨o,e,ex.1⟩,λa h=>?_⟩;cases h;exact⟨o,e,ex.2.1⟩
  ·obtain⟨o,_,_,_,e,ex,_⟩:=I.hok p _ b
   refine⟨⟨o,e,ex.1⟩,λa h=>?_⟩;cases h;exact⟨o,e,ex.2.1⟩
 |_=>exact False.elim f
def tBM0(K:Fg)(T:String)(r:V->List V->Hp->VK->Prop)(to:TE):TE:=λσ H Q=>to σ H λx H1=>tyV K T x H1/\r x [] H1 Q
def tBM(K:Fg)(T:String)(r:V->List V->Hp->VK->Prop)(to:TE)(t:TA):TE:=λσ H Q=>to σ H λx H1=>tyV K T x H1/\t σ H1 λxs H2=>r x xs H2 Q
variable {o e:Expr}{es:List Expr}{to:TE}{t:TA}{name:Str}{apos cpos:Pos}{T id:String}{r:V->List V->Hp->VK->Prop}
theorem xuq (m:PlainAttrs T) (c:Slot T name id) (e:typeOf (.builtin id)=pure (.type "method_descriptor")) (p:MtR X id r) (n:PE X o to)
  (b:attributeBase o name X.env (eval o X.env)=eval o X.env:=by rfl) (a:(apos.endLine == cpos.line)=true:=by rfl):PE X (.Call (.Attribute o name apos) [] [] cpos) (tBM0 X.K T r to):=by
 intro pins s σ H Q I h;refine wpAny_Call_method0_late b a (thn (n pins s σ H _ I h) λv j ⟨x,H1,g,f,i,l⟩=>?_);obtain⟨h1,h2⟩:=xud g f i;exact⟨T,id,m,c,e,h1,h2,Calls.callWith_builtin rfl (PySem.evalArgs_none (p pins j σ H1 x [] v [] Q g f .nil l))⟩
theorem xgn (C:PlainAttrs T) (f:Slot T name id) (i:typeOf (.builtin id)=pure (.type "method_descriptor")) (G:MtR X id r) (F:PE X o to) (J:PA X (e::es) t)
  (c:attributeBase o name X.env (eval o X.env)=eval o X.env:=by rfl)
  (g:((backTo cpos (starEach (e::es) X.env)).all (λx=>!x.1) && (backToKw cpos (keywordEach [] X.env)).all (λx=>x.1.isSome)
   && decide ((e::es).length+([]:List Keyword).length+(if ([]:List Keyword).isEmpty then 0 else 1)<30))=true:=by rfl)
  (b:(apos.endLine == cpos.line)=true:=by rfl) (hs:starEach (e::es) X.env=(false,eval e X.env)::starEach es X.env:=by rfl) (a:(backTo cpos (starEach es X.env)).any (·.1)=false:=by rfl) :
  PE X (.Call (.Attribute o name apos) (e::es) [] cpos) (tBM X.K T r to t):=by
 intro pins s σ H Q I h;refine wpAny_Call_method_late c g b rfl (thn (F pins s σ H _ I h) λv u ⟨x,H1,m,j,n,z⟩=>?_);obtain⟨h1,h2⟩:=xud m j n;refine⟨T,id,C,f,i,h1,h2,?_⟩;have l:=J cpos pins u σ H1 _ m z;rw[hs]at l⊢;refine Calls.callWith_builtin (by show(false || (backTo cpos (starEach es X.env)).any (·.1))=false;rw[a] <;> rfl) (Calls.evalArgs_plain ?_);exact thn l λus p ⟨vs,H2,M,w,y⟩=>G pins p σ H2 x vs v us Q M j w y
end
def MtM(X:Cx)(id:String)(r:V->List V->Hp->VK->Prop):Prop:=
 ∀(pins:List (Addr×Obj)) (s:Shared) (σ:St) (H:Hp) (x:V) (xs:List V) (v:Value) (us:List Value) (Q:VK),Inv X pins σ H s->RelV x v->Vals xs us->r x xs H Q->
  wpAny (model X.prog X.w) X.A (call (.builtin id) (v::us)) (EP X pins σ Q) X.xe s
theorem Vals.one:∀{x:V} {us:List Value},Vals [x] us->∃u,us=[u]/\RelV x u
 |_,_,.cons r .nil=>⟨_,rfl,r⟩
theorem Vals.two:∀{x y:V} {us:List Value},Vals [x,y] us->∃u v,us=[u,v]/\RelV x u/\RelV y v
 |_,_,_,.cons r (.cons q .nil)=>⟨_,_,rfl,r,q⟩
theorem Vals.zero:∀{us:List Value},Vals [] us->us=[]
 |_,.nil=>rfl
theorem Vals.eraseIdx:∀{xs:List V} {us:List Value} (i:Nat),Vals xs us->Vals (xs.eraseIdx i) (us.eraseIdx i)
 |_,_,_,.nil=>.nil
 |_,_,0,.cons _ t=>t
 |_,_,i+1,.cons r t=>.cons r (Vals.eraseIdx i t)
theorem Vals.reverse{xs:List V}{us:List Value}(h:Vals xs us):Vals xs.reverse us.reverse:=by
 induction h with
 |nil=>exact .nil
 |cons r t a=>rw[List.reverse_cons,List.reverse_cons];exact Vals.append a (.cons r .nil)
theorem Vals.rep{xs:List V}{us:List Value}(h:Vals xs us):∀k:Nat,Vals (List.replicate k xs).flatten (List.replicate k us).flatten
 |0=>.nil
 |k+1=>by
  rw[List.replicate_succ,List.replicate_succ,List.flatten_cons,List.flatten_cons];exact Vals.append h (Vals.rep h k)
theorem xk8{α:Type}:∀(l:List α) (i:Nat),(l.eraseIdx i).length<=l.length
 |[],_=>zG _
 |_::_,0=>zT _
 |_::r,i+1=>Nat.succ_le_succ (xk8 r i)
theorem foldl_rep (its:List Value):∀(k:Nat) (acc:List Value),
  List.foldl (λb a=>b++a) acc.toArray (List.replicate k its.toArray)=(acc++(List.replicate k its).flatten).toArray
 |0,acc=>by simp
 | k+1,acc=>by
  have e:acc.toArray++its.toArray=(acc++its).toArray:=by simp
  have c:(acc++its)++(List.replicate k its).flatten=acc++(List.replicate (k+1) its).flatten:=by
   rw[List.replicate_succ,List.flatten_cons,List.append_assoc]
  rw[<- c,<- foldl_rep its k (acc++its),<- e,List.replicate_succ,List.foldl_cons]
section
variable {X:Cx}{pins:List (Addr×Obj)}{σ:St}{H:Hp}{s:Shared}{l b:Addr}{xs ys zs:List V}
theorem Inv.lset {its its':List Value} {n:Nat} {f:Array Value->Array Value} {t':Nat} (I:Inv X pins σ H s) (h:H l=some (.lst xs))
  (e:s.heap.get? l=some {cls:=.type "list",data:=.seq its.toArray n}) (c:f its.toArray=its'.toArray) (a:Vals ys its') (hz:ys.length<=sizeLine) :
  Inv X pins σ (upd H l (.lst ys)) {s with heap:=s.heap.update l (Obj.mapSeq f),toks:=t'}:=by
 have q:=PySem.IsL.update e f;rw[c]at q;refine I.write (x:=l) (e:=l) (by rw[h];exact trivial) (.inl rfl) (λi u g b=>(Heap.get?_update_other s.heap (Obj.mapSeq f) (Ne.symm g)).trans b) ⟨_,q⟩ ?_;exact⟨hz,its',_,a,q⟩
theorem Inv.lnew {its:List Value} {t':Nat} (I:Inv X pins σ H s) (a:Vals ys its) (hz:ys.length<=sizeLine) :
  Inv X pins σ (upd H s.heap.objs.size (.lst ys)) {s with heap:=s.heap.push {cls:=.type "list",data:=.seq its.toArray},toks:=t'}:=
 I.laid (λ_ _ q=>zPO _ q) (zG _) ⟨hz,its,0,a,zK _ rfl⟩
theorem Inv.fresh(I:Inv X pins σ H s):H s.heap.objs.size=none:=I.hok.fresh (zG _)
theorem Inv.lstM(I:Inv X pins σ H s)(a:H l=some (.lst xs)):xs.length<=sizeLine/\∃(its:List Value) (n:Nat),Vals xs its/\xs.length=its.length/\s.heap.get? l=some {cls:=.type "list",data:=.seq its.toArray n}:=by
 obtain⟨z,its,n,r,e⟩:=I.hok l _ a;exact⟨z,its,n,r,r.length,e⟩
end
section
variable {X:Cx}
def xvy:V->List V->Hp->VK->Prop:=λx vs H Q=>∃l xs y,x=.ref l/\vs=[y]/\H l=some (.lst xs)/\xs.length<sizeLine/\Q .non (upd H l (.lst (xs++[y])))
theorem xct:MtM X "list.append" xvy:=by
 intro pins s σ H x vs v us Q I b c h;obtain⟨l,xs,y,rfl,rfl,a,hz,q⟩:=h;cases b;obtain⟨u,rfl,f⟩:=c.one;obtain⟨z,its,n,r,g,e⟩:=I.lstM a;refine call_meets F.slot_list_append ⟨_,e,rfl⟩ F.entry_list_append (F.args_list_append_2 _ _) (PySem.list_append l its.toArray n u (by rw[List.size_toArray];omega)) ⟨e,?_⟩;refine⟨.non,_,I.lset (its':=its++[u]) a e (by simp) (r.append (.cons f .nil)) ?_,rfl,q⟩;rw[zLA,List.length_singleton];omega
def xx6:V->List V->Hp->VK->Prop:=λx vs H Q=>∃l xs i k y,x=.ref l/\vs=[.int i]/\H l=some (.lst xs)/\-(2 ^ 63)<=i/\i<2 ^ 63/\seqIndex? i xs.length=some k/\xs[k]?=some y/\Q y (upd H l (.lst (xs.eraseIdx k)))
theorem xti:MtM X "list.pop" xx6:=by
 intro pins s σ H x vs v us Q I c f h;obtain⟨l,xs,i,k,y,rfl,rfl,b,h1,h2,p,j,q⟩:=h;cases c;obtain⟨u,rfl,g⟩:=f.one;obtain⟨t,rfl⟩:=g;obtain⟨z,its,n,r,o,e⟩:=I.lstM b;obtain⟨w,m,a⟩:=r.get j
 refine call_meets F.slot_list_pop ⟨_,e,rfl⟩ F.entry_list_pop (F.args_list_pop_2 _ _)
  (MeetsSeq.list_pop_at l its.toArray n i t k w (fitsIndex_both h1 h2) (by rw[List.size_toArray,<- o];exact p) (by rw[<- Array.getElem?_toList];exact m) (by rw[List.size_toArray];omega)) ⟨e,?_⟩
 refine⟨y,_,I.lset (its':=its.eraseIdx k) b e ?_ (r.eraseIdx k) ?_,a,q⟩
 ·show its.toArray.eraseIdxIfInBounds k=(its.eraseIdx k).toArray
  rw[List.eraseIdxIfInBounds_toArray]
 ·have:=xk8 xs k
  omega
def xs4:V->List V->Hp->VK->Prop:=λx vs H Q=>∃l xs,x=.ref l/\vs=[]/\H l=some (.lst xs)/\Q .non (upd H l (.lst xs.reverse))
theorem xif:MtM X "list.reverse" xs4:=by
 intro pins s σ H x vs v us Q I c f h;obtain⟨l,xs,rfl,rfl,b,q⟩:=h;cases c;have a:=f.zero;subst a;obtain⟨z,its,n,r,g,e⟩:=I.lstM b;refine call_meets F.slot_list_reverse ⟨_,e,rfl⟩ F.entry_list_reverse (F.args_list_reverse_1 _) (AutoSeq1.list_reverse_list_0 l its.toArray n (by rw[List.size_toArray];omega)) ⟨e,?_⟩;refine⟨.non,_,I.lset (its':=its.reverse) b e (by simp) r.reverse ?_,rfl,q⟩;rw[List.length_reverse];omega
def rCat:R2:=λx y H Q=>∃l b xs zs,x=.ref l/\y=.ref b/\H l=some (.lst xs)/\H b=some (.lst zs)/\xs.length+zs.length<=sizeLine/\∀p,H p=none->Q (.ref p) (upd H p (.lst (xs++zs)))
theorem xhf:OpR X (binaryOp .Add) rCat:=by
 intro pins s σ H x y v u Q I f c h;obtain⟨l,b,xs,zs,rfl,rfl,j,m,hz,q⟩:=h;cases f;cases c;obtain⟨z,its,n,r,F,e⟩:=I.lstM j;obtain⟨w,a,C,g,i,p⟩:=I.lstM m;refine PySem.P.add_list e p ?_ (by rw[List.size_toArray,List.size_toArray];omega);have o:its.toArray++a.toArray=(its++a).toArray:=by simp
 rw[o];exact⟨.ref _,_,I.lnew (t':=s.toks) (r.append g) (by rw[zLA];omega),rfl,q _ I.fresh⟩
theorem len_rep{α:Type}(xs:List α)(k:Nat):(List.replicate k xs).flatten.length=k*xs.length:=by
 induction k with
 |zero=>simp
 |succ k a=>rw[List.replicate_succ,List.flatten_cons,zLA,a,Nat.succ_mul,Nat.add_comm]
end
end L2
namespace Att
open PySem PySem.W PySem.Calls PyProof.Rows
theorem xho{P:Params}{h:Heap}:∀(ns:List Int) (vs:List Value),WellAll P h vs (ns.map WData.int)->IntsAre vs ns:=by
 intro ns
 induction ns with
 |nil=>
  intro vs w;rw[List.map_nil]at w;cases w;exact .nil
 | cons n ns c=>
  intro vs w;rw[List.map_cons]at w
  cases w with
  |cons a b=>
   cases a;exact .cons _ _ (c _ b)
theorem xp3 {l:OpenLaw} {n:Nat} (hn:l.most=some n) {P:Params} {h:Heap} {args:List WData} {b:List Value}
  (c:l.row.toRowW.claim.pre args=true) (j:WellAll P h b args) :
  ∃a vs ns,b=[Value.ref a]/\args=[WData.list (ns.map WData.int)]/\h.get? a=some {cls:=.type "list",data:=.seq vs.toArray}/\IntsAre vs ns/\ns.length<=n:=by
 have m:WShape.hasAll [] args [.list .int]=true:=(pre_splitW c).1;have o:l.pre.holds [] {args:=args}=true:=(pre_splitW c).2;obtain⟨d,r,rfl,h1,h2⟩:=hasAllW_cons m;obtain rfl:=hasAllW_nil h2;obtain⟨xs,rfl,x⟩:=hasW_list h1;obtain⟨ns,rfl⟩:=items_int x
 have e:ns.length<=n:=by
  unfold OpenLaw.pre at o
  have i:(WTm.not (.lt (.lit (.int (n:Int))) (.len (.arg 0)))).holds [] {args:=[.list (ns.map .int)]}=true:=by
   have i:=(holds_andW o).1;rw[hn]at i;exact i
  have g:=condW_of i (w_not (w_lt w_lit (w_len_list (w_arg rfl))));rw[zLM]at g;refine Nat.le_of_not_lt λq=>?_;have u:(n:Int)<((ns.length:Nat):Int):=by omega
  first
   |(rw[zDT u]at g;exact absurd g (by decide))
   |(simp at g;omega)
 cases j with
 |cons s p=>
  cases p
  cases s with
  |list w f=>exact⟨_,_,ns,rfl,rfl,w,xho ns _ f,e⟩
theorem xqh(l:OpenLaw)(args:List WData):l.row.toRowW.claim.post args (.bool true) args=true:=
 postW_of (r:=l.row.toRowW) (X:=(true == true))
  (show WShape.has [] (.bool true) .bool=true by first |rfl |decide |simp[WShape.has,WShape.arms,WShape.armsAll])
  (show(WTm.eq .res (.lit (.bool true))).value [] {args:=args,res:=some (.bool true),after:=args}=some (.bool (true == true)) from w_eq_bool (w_res rfl) w_lit) rfl
theorem attach_call {l:OpenLaw} {n:Nat} {q:Program} {loose:List Str} {XP:(Str->Option Value)->Heap->Prop} {YP:World->Heap->Prop} {d:DefRec}
  (hn:l.most=some n) (hdf:d.params.defaults=[])
  (call:∀(w:World) (s₀ s₁:Shared) (mg mb:Str->Option Value) (fa:Addr) (o:Obj) (pm cd doc:Value) (a:Addr) (vs:List Value) (ns:List Int),
   Ground q loose [] XP w s₀ mg mb s₁.heap->YP w s₁.heap->
   s₁.heap.get? fa=some o->o.data=.func (docDef d.name d.params d.body d.scope pm cd doc)->s₁.heap.CodeRec cd d.name->mg d.name=some (.ref fa)->
   s₁.heap.get? a=some {cls:=.type "list",data:=.seq vs.toArray}->IntsAre vs ns->ns.length<=n->s₁.gens=#[]->
   codeAny (model l.prog w) callerA (.call (.ref fa) ⟨[.ref a],[]⟩) (λr s'=>r=.ok (.ret (.bool true))/\OldK s₁.heap s'.heap/\s'.os=s₁.os/\AllBare s'.gens) s₁) :
  WalkO q loose XP YP l.row.toRowW d [] (λf vs=>PySem.call f vs):=by
 intro w s₀ s₁ mg mb G Y fa o pm cd doc dV kV ho hd hcd hD hmg hg args vals as hpre hlay hrd hwl hlo;obtain rfl:dV=.none:=Dflts.none hD hdf;obtain rfl:kV=.none:=Dflts.noKw hD;obtain⟨a,vs,ns,rfl,rfl,hobj,hints,hlen⟩:=xp3 hn hpre hwl;refine enter_call (codeAny_mono (call w s₀ s₁ mg mb fa o pm cd doc a vs ns G Y ho (fd_plain hd) hcd hmg hobj hints hlen hg) λr s' hq=>?_);obtain⟨rfl,h2,h3,h4⟩:=hq;exact⟨.inl ⟨.bool true,.bool true,[],rfl,λ_=>rfl,.bool true,xqh l _,λ_=>⟨List.Pairwise.nil,λ_ hm=>(nomatch hm)⟩⟩,h2,h3,h4⟩
end Att
namespace L2
open PySem PySem.Spec PyProof.Rows
theorem xjy:∀{vs:List Value} {ns:List Int},IntsAre vs ns->Vals (ns.map V.int) vs
 |_,_,.nil=>.nil
 |_,_,.cons n t h=>.cons ⟨t,rfl⟩ (xjy h)
def Only(H:Hp):Prop:=∀b,H b=none\/∃o xs,H b=some (.frz o (.lst xs))
theorem xtl {P:Program} {w:World} {K:Fg} {mg mb:Str->Option Value} {CX:CXT} {k:Nat} {fa a:Addr} {fd:FuncData} {x:Str} {sp:Sp} {s₁:Shared} {vs:List Value} {ns:List Int}
  (KX:K.In s₁.heap) (hns:s₁.heap.Ns mainGlobals mg) (hb:s₁.heap.Ns builtinsNs mb) (hbb:∀x:Str,x≠"__name__"->mb x=bootBuiltins x) (hlim:s₁.heap.NoLimit) (hg:s₁.gens=#[])
  (ha:s₁.heap.get? a=some {cls:=.type "list",data:=.seq vs.toArray}) (hi:IntsAre vs ns) (hl:ns.length<=sizeLine) (hr:Room k callerA)
  (F:∀base:Heap,K.In base->base.Ns mainGlobals mg->FnOk P w K mg base CX k fa fd [x] sp) (hbind:∀(s:Shared) (u:Value),BindsTo s fd ⟨[u],[]⟩ [(x,u)])
  (hsp:∀H:Hp,Only H->SqL K H a (ns.map V.int)->sp [.ref a] H (λv _=>v=.bl true) λ_ _ _=>False)
  (hCX:∀H e s',CX [] H s₁ (λ_ _ _=>False) e s'->False) :
  codeAny (model P w) callerA (.call (.ref fa) ⟨[.ref a],[]⟩) (λr s'=>r=.ok (.ret (.bool true))/\OldK s₁.heap s'.heap/\s'.os=s₁.os/\AllBare s'.gens) s₁:=by
 have rv:=xjy hi;have lenV:=hi.length
 have core:∀H:Hp,Only H->SqL K H a (ns.map V.int)->HOk P w H s₁.heap->(∀b,H b≠none->b=a)->(H a≠none->K.lookup a=none)->
   codeAny (model P w) callerA (.call (.ref fa) ⟨[.ref a],[]⟩) (λr s'=>r=.ok (.ret (.bool true))/\OldK s₁.heap s'.heap/\s'.os=s₁.os/\AllBare s'.gens) s₁:=by
  intro H hO hS hok hA hK;have base_of:∀{b:Addr} {o:Obj},s₁.heap.get? b=some o->H b=none->(hidT s₁.heap H).get? b=some o:=λe n=>xtu e n
  have noA:∀{b:Addr} {o:Obj} {es:Array DictEntry} {ep:Nat},s₁.heap.get? b=some o->o.data=.dict es ep->H b=none:=λ{b o es ep} e d=>by
   cases q:H b with
   |none=>rfl
   |some u=>
    have e':b=a:=hA b (by rw[q];simp);subst e';rw[ha]at e;cases e;have d':Data.seq vs.toArray _=Data.dict es ep:=d;cases d'
  have nsK:∀{b:Addr} {m:Str->Option Value},s₁.heap.Ns b m->(hidT s₁.heap H).Ns b m:=λ{b m} ⟨o,es,ep,e,d,r⟩=>⟨o,es,ep,base_of e (noA e d),d,r⟩
  have hKb:K.In (hidT s₁.heap H):=λb o e=>base_of (KX b o e) (by
   cases q:H b with
   |none=>rfl
   |some u=>
    have e':b=a:=hA b (by rw[q];simp);subst e';rw[hK (by rw[q];simp)]at e;cases e)
  have hM:Mod K mg (hidT s₁.heap H):=⟨hKb,nsK hns,⟨mb,nsK hb,hbb⟩,let ⟨mc,h1,h2⟩:=hlim;⟨mc,nsK h1,h2⟩⟩;have e0:Env0 P w K mg (hidT s₁.heap H) callerA [] s₁ H:=⟨rfl,hM,λb o e=>xwe e,Nat.le_of_eq (xru _ _),trivial,λb hb=>absurd (show b∈([]:List Addr) from hb) (by simp),hok,.of_eq hg⟩;refine codeAny_mono ((F _ hKb (nsK hns)).run callerA [] s₁ H ⟨[.ref a],[]⟩ [.ref a] [.ref a] _ _ hr e0 (hbind s₁ (.ref a)) (.cons rfl .nil) (hsp H hO hS)) λr s' h=>?_
  cases r with
  |error e=>exact(hCX H e s' h).elim
  | ok fl=>
   cases fl with
   |next=>exact False.elim h
   |brk=>exact False.elim h
   |cont=>exact False.elim h
   | ret u=>
    obtain⟨v,H',os,bare,un,hok',r',q⟩:=h;have q':v=.bl true:=q;subst q';obtain rfl:u=Value.bool true:=r';refine⟨rfl,OldK.of_keep λb o e=>?_,os,bare⟩
    cases q:H b with
    |none=>exact un.keep b o e q (by intro z;exact absurd (show b∈([]:List Addr) from z) (by simp)) (by simp)
    | some u=>
     rcases hO b with z |⟨ob,xs,z⟩
     ·rw[q]at z;cases z
     ·have z2:=un.frzs b ob _ z
      obtain⟨e1,_⟩:=hok b _ z;obtain⟨e2,_⟩:=hok' b _ z2;rw[e]at e1;cases e1;exact e2
 cases hk:K.lookup a with
 |some o=>
  have e:=KX a o hk;rw[ha]at e;cases e;refine core (λ_=>none) (λ_=>.inl rfl) (.inr ⟨_,vs.toArray,_,hk,rfl,rfl,rfl,by rw[List.size_toArray,lenV];exact hl,by simpa using rv⟩) (λb u z=>by have z':(none:Option HO)=some u:=z;cases z') (λb z=>absurd rfl z) λz=>absurd rfl z
 | none=>
  refine core (λb=>if b=a then some (.frz {cls:=.type "list",data:=.seq vs.toArray} (.lst (ns.map V.int))) else none) (λb=>?_) (.inl (.inr ⟨{cls:=.type "list",data:=.seq vs.toArray},if_pos rfl⟩)) (λb u z=>?_) (λb z=>?_) λ_=>hk
  ·by_cases hb:b=a
   ·exact .inr ⟨_,_,if_pos hb⟩
   ·exact .inl (if_neg hb)
  ·by_cases hb:b=a
   ·have z':=(if_pos hb).symm.trans z
    cases z';subst hb;exact⟨ha,by rw[zLM];exact hl,vs,_,rv,ha⟩
   ·have z':=(if_neg hb).symm.trans z
    cases z'
  ·by_cases hb:b=a
   ·exact hb
   ·exact absurd (if_neg hb) z
abbrev KOf{K:Fg}{h:Heap}(_:K.In h):Fg:=K
theorem walk_of {l:PySem.W.OpenLaw} {n k:Nat} {q:Program} {loose:List Str} {XP:(Str->Option Value)->Heap->Prop} {YP:World->Heap->Prop} {d:DefRec} {K:Params->Fg} {CX:World->CXT} {sp:World->Sp} {x:Str}
  (hn:l.most=some n) (hn2:n<=sizeLine) (hdf:d.params.defaults=[]) (hr:Room k callerA)
  (hY:∀(w:World) (h:Heap),YP w h->(K w.params).In h)
  (F:∀(w:World) (mg:Str->Option Value) (fa:Addr) (h:Heap),(K w.params).In h->h.Ns mainGlobals mg->mg d.name=some (.ref fa)->
   ∃fd:FuncData,(∀(s:Shared) (u:Value),BindsTo s fd ⟨[u],[]⟩ [(x,u)]) ∧
    ∀base:Heap,(K w.params).In base->base.Ns mainGlobals mg->FnOk l.prog w (K w.params) mg base (CX w) k fa fd [x] (sp w))
  (hsp:∀(w:World) (H:Hp) (a:Addr) (ns:List Int),ns.length<=n->Only H->SqL (K w.params) H a (ns.map V.int)->sp w [.ref a] H (λv _=>v=.bl true) λ_ _ _=>False)
  (hCX:∀(w:World) (H:Hp) (s:Shared) (e:Value) (s':Shared),CX w [] H s (λ_ _ _=>False) e s'->False) :
  PySem.W.WalkO q loose XP YP l.row.toRowW d [] (λf vs=>PySem.call f vs):=by
 refine Att.attach_call hn hdf λw s₀ s₁ mg mb fa o pm cd doc a vs ns G Y ho hd hcd hmg hobj hints hlen hg=>?_;have KX:=hY w _ Y;obtain⟨fd,hb,hF⟩:=F w mg fa _ KX G.T.g hmg;exact xtl KX G.T.g G.T.b G.T.builtins G.T.nolimit hg hobj hints (zF hlen hn2) hr hF hb (λH hO hS=>hsp w H a ns hlen hO hS) λH e s'=>hCX w H s₁ e s'
def xfj(s:Stmt):Arguments:=match s with
 |.FunctionDef _ a _ _ _ _ _ _ _ _=>a
 |_=>{posonlyargs:=[],args:=[],vararg:=none,kwonlyargs:=[],kw_defaults:=[],kwarg:=none,defaults:=[]}
def xd4(s:Stmt):List Stmt:=match s with
 |.FunctionDef _ _ b _ _ _ _ _ _ _=>b
 |_=>[]
def xae(s:Stmt):Scope:=match s with
 |.FunctionDef _ _ _ _ _ _ sc _ _ _=>sc
 |_=>{kind:=.function,names:=[],isGenerator:=false,isCoroutine:=false}
abbrev CX0:CXT:=λ_ _ _ _ _ _=>False
abbrev E0:XK:=λ_ _ _=>False
theorem xz3{X:Cx}:xsl CX0 X E0:=λ_ _ _ _ _ _ _ h=>h.elim
structure Fun(K:Fg)(x qual:Str)(st:Stmt)(f:Addr)(fd:FuncData):Prop where
 ex:∃(oc:Value) (od:Option Addr) (kV doc pm:Value) (an:Option Addr) (cdv ct:Value) (osl:Array (Option Value)),
  fd=PySem.W.fnOf x qual (xfj st) (xd4 st) (xae st) .none kV doc pm an cdv ct/\K.lookup f=some ⟨oc,od,.func fd,osl⟩/\PySem.W.codeIn K cdv qual=true
 kp:PySem.W.keepIn K (.ref f)=true
section
variable {P:Program}{w:World}{K:Fg}{mg:Str->Option Value}{base:Heap}
theorem Fun.ok {x qual:Str} {st:Stmt} {f:Addr} {fd:FuncData} {N ps:List Str} {k:Nat} {sp:Sp} (F:Fun K x qual st f fd) (S:FnScope N ps (xae st)) (len:∀vs H Q E,sp vs H Q E->vs.length=ps.length)
  (hbody:∀(cdv:Value) (A:Around) (outer:List Env) (s:Shared) (H:Hp) (vs:List V) (Q:VK) (E:XK),Room k (A.deeper (envOfC qual (xae st) s.heap.objs.size f cdv))->sp vs H Q E->
   ∃t,PSs (cxOf CX0 P w K mg base N qual (xae st) f cdv A outer s H E).nox (xd4 st) t/\t {nx:=λ_ H'=>Q .non H',rt:=Q} (xgk N vs) H):FnOk P w K mg base CX0 (k+1) f fd ps sp:=by
 obtain⟨oc,od,kV,doc,pm,an,cdv,ct,osl,rfl,lk,hcd⟩:=F.ex;refine xy6 lk hcd S len λA outer s H vs Q E hr hsp=>?_;obtain⟨t,h,q⟩:=hbody cdv A outer s H vs Q E hr hsp;exact⟨t,h.nox,q⟩
theorem xu0 {x a:Str} {st:Stmt} {f:Addr} {j:Value} {od i:Option Addr} {g:Array (Option Value)} {kV e h b ct:Value} (l:K.lookup f=some ⟨j,od,.func (PySem.W.fnOf x a (xfj st) (xd4 st) (xae st) .none kV e h i b ct),g⟩)
  (c:PySem.W.codeIn K b a=true) (k:PySem.W.keepIn K (.ref f)=true):Fun K x a st f (PySem.W.fnOf x a (xfj st) (xd4 st) (xae st) .none kV e h i b ct):=⟨⟨j,od,kV,e,h,i,b,ct,g,rfl,l,c⟩,k⟩
end
theorem xcs{A:Around}{k:Nat}(a:Room k A):A.units+1<cLine:=Nat.lt_of_le_of_lt (Nat.add_le_add_left (by decide:1<=64) _) a.units
section
variable {X:Cx}
theorem pv (i:Nat) {x:Str} {pos:Pos} (e:X.N[i]?=some x:=by rfl) (b:Vis X.env.scope x:=by first |exact Or.inl rfl |exact Or.inr (Or.inl rfl) |exact Or.inr (Or.inr rfl)) (c:(x == ("__debug__":Str))=false:=by decide)
  (a:(x == ("__classdict__":Str))=false:=by decide):PE X (.Name x pos) (tVar i):=xyd e b c a
end
theorem iteF{A B:Prop}(h:B):if false=true then A else B:=by
 rw[if_neg zL];exact h
theorem iteT{A B:Prop}(h:A):if true=true then A else B:=by
 rw[if_pos rfl];exact h
theorem ite2{c A B:Prop}[Decidable c](h1:c->A)(h2:¬c->B):if c then A else B:=by
 by_cases h:c
 ·rw[if_pos h]
  exact h1 h
 ·rw[if_neg h]
  exact h2 h
theorem xwt{c A B:Prop}[Decidable c](a:c)(h:B):if (!decide c)=true then A else B:=by
 rw[zDT a];exact iteF h
def Same(H H':Hp):Prop:=∀b o,H b=some o->H' b=some o
theorem Same.refl(H:Hp):Same H H:=λ_ _ h=>h
theorem Same.trans{H H1 H2:Hp}(a:Same H H1)(b:Same H1 H2):Same H H2:=λc o h=>b c o (a c o h)
theorem Same.seq{K:Fg}{H H':Hp}{a:Addr}{xs:List V}(e:Same H H')(h:SqL K H a xs):SqL K H' a xs:=by
 rcases h with(h |⟨o,h⟩) |h
 ·exact .inl (.inl (e _ _ h))
 ·exact .inl (.inr ⟨o,e _ _ h⟩)
 ·exact .inr h
def clOf(env:Env):List (Str×NameKind)->List (Str×Addr)->List (Str×Addr)
 |[],cs=>cs
 |(n,k)::r,cs=>clOf env r (if k == .free then match env.cells.lookup n with |some a=>(n,a)::cs |none=>cs else cs)
theorem xll{env:Env}{x:Str}{c:Addr}:∀{ns:List (Str×NameKind)} {cs:List (Str×Addr)},(∀p∈cs,env.cells.lookup p.1=some p.2)->(clOf env ns cs).lookup x=some c->env.cells.lookup x=some c
 |[],cs,h,e=>by
  unfold clOf at e;exact h (x,c) (PySem.mem_of_lookup e)
 | (n,k)::r,cs,h,e=>by
  unfold clOf at e;refine xll (ns:=r) ?_ e;intro p b;split at b
  ·split at b
   ·rename_i a f
    rcases zMC b with rfl |b
    ·exact f
    ·exact h p b
   ·exact h p b
  ·exact h p b
theorem xe8{x:Str}:∀{cs:List (Str×Addr)},(∃c,(x,c)∈cs)->∃c,cs.lookup x=some c
 |[],⟨_,h⟩=>nomatch h
 | (n,a)::r,⟨c,h⟩=>by
  rw[List.lookup_cons]
  cases e:x == n with
  |true=>exact⟨a,rfl⟩
  | false=>
   rcases zMC h with h |h
   ·cases h
    rw[beq_self_eq_true]at e;cases e
   ·exact xe8 ⟨c,h⟩
theorem xn5{env:Env}{x:Str}:∀{ns:List (Str×NameKind)} {cs:List (Str×Addr)},((∃c,(x,c)∈cs)\/((x,NameKind.free)∈ns/\∃c,env.cells.lookup x=some c))->∃c,(x,c)∈clOf env ns cs
 |[],cs,h=>by
  unfold clOf;rcases h with h |⟨h,_⟩
  ·exact h
  ·cases h
 | (n,k)::r,cs,h=>by
  unfold clOf;refine xn5 (ns:=r) ?_;rcases h with⟨c,h⟩ |⟨h,c,a⟩
  ·refine .inl ⟨c,?_⟩
   split
   ·split
    ·exact zP _ h
    ·exact h
   ·exact h
  ·rcases zMC h with h |h
   ·cases h
    refine .inl ⟨c,?_⟩;rw[if_pos (by decide),a];exact List.mem_cons_self
   ·exact .inr ⟨h,c,a⟩
theorem xf4{a:Scope}{env:Env}(h:∀p∈a.names,p.2=NameKind.free->∃c,env.cells.lookup p.1=some c):closureFor a env=pure (clOf env a.names []):=by
 have l:∀(ns:List (Str×NameKind)) (cs:List (Str×Addr)),(∀p∈ns,p.2=NameKind.free->∃c,env.cells.lookup p.1=some c)->
   (forIn ns cs λ(x:Str×NameKind) (r:List (Str×Addr))=>(if (x.2 == NameKind.free)=true then do
     let y <- cellOf env x.1
     pure (ForInStep.yield ((x.1,y)::r)) else pure (ForInStep.yield r):Sem (ForInStep (List (Str×Addr)))))=(pure (clOf env ns cs):Sem (List (Str×Addr))):=by
  intro ns
  induction ns with
  |nil=>intro cs _;rfl
  | cons p r f=>
   intro cs e;obtain⟨n,k⟩:=p;rw[List.forIn_cons];unfold clOf;by_cases g:k=NameKind.free
   ·subst g
    obtain⟨c,i⟩:=e (n,.free) List.mem_cons_self rfl;have m:cellOf env n=pure c:=by unfold cellOf;rw[i]
    simp only[beq_self_eq_true,if_true,m,i,pure_bind];exact f _ λq b=>e q (zP _ b)
   ·have j:(k == NameKind.free)=false:=by simpa using g
    simp only[j,Bool.false_eq_true,if_false,pure_bind];exact f _ λq b=>e q (zP _ b)
 unfold closureFor;have:=l a.names [] h;simp only[bind_pure_comp,id_map']at this⊢;rw[this];rfl
theorem xde {env:Env} {x:Str} {k':NameKind}:∀{ns:List (Str×NameKind)},
  (ns.map λ(n,k)=>if (k == NameKind.free && env.scope.kind == .function && env.kindOf n == some .cell) then (n,NameKind.cell) else (n,k)).lookup x=some k'->
  ∃k,ns.lookup x=some k/\(k'=k\/(k=.free/\k'=.cell))
 |[],h=>by simp at h
 | (n,k)::r,h=>by
  have h':List.lookup x ((if (k == NameKind.free && env.scope.kind == .function && env.kindOf n == some .cell)=true then (n,NameKind.cell) else (n,k))::(r.map λ(n,k)=>if (k == NameKind.free && env.scope.kind == .function && env.kindOf n == some .cell) then (n,NameKind.cell) else (n,k)))=some k':=h;rw[List.lookup_cons];by_cases a:(k == NameKind.free && env.scope.kind == .function && env.kindOf n == some .cell)=true
  ·rw[if_pos a,List.lookup_cons]at h'
   cases e:x == n with
   |true=>
    rw[e]at h';cases h';refine⟨k,rfl,.inr ⟨?_,rfl⟩⟩;rw[Bool.and_eq_true,Bool.and_eq_true]at a;exact eq_of_beq a.1.1
   |false=>
    rw[e]at h';exact xde h'
  ·rw[if_neg a,List.lookup_cons]at h'
   cases e:x == n with
   |true=>
    rw[e]at h';cases h';exact⟨_,rfl,.inl rfl⟩
   |false=>
    rw[e]at h';exact xde h'
theorem xfe {env:Env} {x:Str} {k:NameKind}:∀{ns:List (Str×NameKind)},ns.lookup x=some k->
  ∃k',(ns.map λ(n,k)=>if (k == NameKind.free && env.scope.kind == .function && env.kindOf n == some .cell) then (n,NameKind.cell) else (n,k)).lookup x=some k'/\(k'=k\/(k=.free/\k'=.cell))
 |[],h=>by simp at h
 | (n,b)::r,h=>by
  show ∃k',List.lookup x ((if (b == NameKind.free && env.scope.kind == .function && env.kindOf n == some .cell)=true then (n,NameKind.cell) else (n,b))::(r.map λ(n,k)=>if (k == NameKind.free && env.scope.kind == .function && env.kindOf n == some .cell) then (n,NameKind.cell) else (n,k)))=some k'/\_;rw[List.lookup_cons]at h;by_cases a:(b == NameKind.free && env.scope.kind == .function && env.kindOf n == some .cell)=true
  ·rw[if_pos a,List.lookup_cons]
   cases e:x == n with
   |true=>
    rw[e]at h;cases h;refine⟨_,rfl,.inr ⟨?_,rfl⟩⟩;rw[Bool.and_eq_true,Bool.and_eq_true]at a;exact eq_of_beq a.1.1
   |false=>
    rw[e]at h;exact xfe h
  ·rw[if_neg a,List.lookup_cons]
   cases e:x == n with
   |true=>
    rw[e]at h;cases h;exact⟨_,rfl,.inl rfl⟩
   |false=>
    rw[e]at h;exact xfe h
abbrev Cap:=List (Option Nat)
def capt(ix:Cap)(σ:St):St:=ix.map λo=>(o.bind λj=>σ[j]?).join
def xt7(N N':List Str)(sc sc':Scope)(ix:Cap):Bool:=
 (ix.length == N'.length) && (sc'.kind == .function) &&
 (sc'.names.all λp=>p.2 != .cell && (p.2 != .local || sc'.names.lookup p.1 == some .local) && (p.2 != .free || (sc.names.lookup p.1 == some .cell || sc.names.lookup p.1 == some .free))) &&
 (List.range ix.length).all λk=>match ix[k]? with
  |some (some j)=>match N'[k]? with
   |some x=>N[j]? == some x && sc'.names.lookup x == some .free
   |none=>false
  |_=>true
structure CapOk(N N':List Str)(sc sc':Scope)(ix:Cap):Prop where
 len:ix.length=N'.length
 kind:sc'.kind=.function
 nocell:∀p∈sc'.names,p.2≠.cell
 loc:∀p∈sc'.names,p.2=.local->sc'.names.lookup p.1=some .local
 fre:∀p∈sc'.names,p.2=.free->sc.names.lookup p.1=some .cell\/sc.names.lookup p.1=some .free
 cap:∀(k j:Nat),ix[k]?=some (some j)->∃x,N'[k]?=some x/\N[j]?=some x/\sc'.names.lookup x=some .free
theorem xn7{N g:List Str}{i a:Scope}{ix:Cap}(h:xt7 N g i a ix=true):CapOk N g i a ix:=by
 unfold xt7 at h;simp only[Bool.and_eq_true,List.all_eq_true,beq_iff_eq]at h;obtain⟨⟨⟨s,r⟩,f⟩,o⟩:=h;refine⟨s,r,λp b=>?_,λp b m=>?_,λp b n=>?_,λk j l=>?_⟩
 ·have:=(f p b).1.1
  simpa using this
 ·have:=(f p b).1.2
  rw[m]at this;simpa using this
 ·have:=(f p b).2
  rw[n]at this;simpa using this
 ·have c:k<ix.length:=(zES l).1
  have:=o k (List.mem_range.mpr c);rw[l]at this;simp only at this
  cases e:g[k]? with
  |none=>rw[e]at this;simp at this
  |some x=>
   rw[e]at this;simp only[Bool.and_eq_true,beq_iff_eq]at this;exact⟨x,rfl,this.1,this.2⟩
abbrev Cx.comp(X:Cx)(sc:Scope)(N':List Str)(C:Addr)(s₀:Shared)(H₀:Hp)(ex:List Addr):Cx:=
 {X with N:=N',s₀:=s₀,H₀:=H₀,env:=compEnvC sc (clOf X.env sc.names []) C X.env,outer:=X.stack,stack:=X.stack,ex:=ex,fn:=λ_=>false,pn:=[],xe:=λ_ _=>False}
def Ext(σ σ':St):Prop:=σ.length=σ'.length/\∀(i:Nat) v,σ[i]?=some (some v)->σ'[i]?=some (some v)
theorem xd3{σ:St}{i:Nat}{v:Option V}(h:σ[i]?=some none):Ext σ (σ.set i v):=by
 refine⟨by simp,λj w e=>?_⟩;by_cases a:i=j
 ·subst a;rw[h]at e;cases e
 ·rw[List.getElem?_set_ne a];exact e
def PTs(X:Cx)(ifs:List Expr)(t:TT):Prop:=
 ∀(pins:List (Addr×Obj)) (s:Shared) (σ:St) (H:Hp) (Q:Bool->Hp->Prop),Inv X pins σ H s->t σ H Q->
  wpAny (model X.prog X.w) X.A (forIn ifs true λc r=>if r=true then do let ok <- isTrue c X.env (eval c X.env);pure (ForInStep.yield ok) else pure (ForInStep.yield r)) (TP X pins σ Q) X.xe s
def tYes:TT:=λ_ H Q=>Q true H
theorem xce{X:Cx}:PTs X [] tYes:=λ_ _ _ H _ I h=>wpAny_tests_nil ⟨H,I,h⟩
theorem xcq{X:Cx}{c:Expr}{t:TT}(h:PT X c t):PTs X [c] t:=λa s σ H Q I b=>wpAny_tests_one (h a s σ H Q I b)
def xh0(J:It)(ix:Cap)(g:TG)(tt:TT)(te:TE)(σ:St)(H1:Hp)(Q:VK):Prop:=∃W:Nat->Nat->List V->Hp->Prop,(∃m,W 0 m [] H1)/\∀i m ys H,W i m ys H->
 (J.stop i H/\∀D,H D=none->Q (.ref D) (upd H D (.lst ys))) ∨
 (J.go i H/\ys.length<sizeLine/\∀x H',J.yld i H x H'->g x (capt ix σ) H' λσ2 H2=>Ext (capt ix σ) σ2/\tt σ2 H2 λb H3=>
  if b=true then te σ2 H3 λy H4=>∃m',m'<m/\W (i+1) m' (ys++[y]) H4 else ∃m',m'<m/\W (i+1) m' ys H3)
def xxo(ix:Cap)(wi:TI)(g:TG)(tt:TT)(te:TE):TE:=λσ H Q=>wi σ H λJ H1=>xh0 J ix g tt te σ H1 Q
theorem HOk.track{P:Program}{w:World}{H:Hp}{h:Heap}{a:Addr}{o:HO}(x:HOk P w H h)(hn:H a=none)(new:ObjOk P w (upd H a o) h a o):HOk P w (upd H a o) h:=λb u e=>by
 by_cases f:b=a
 ·subst f;rw[ups]at e;cases e;exact new
 ·rw[xa7 f]at e
  exact(x b u e).stay (λc v _ q=>q) (λc q=>by rw[xa7 (neN q hn)];exact q) λc xs q=>by rw[xa7 (neN q hn)];exact q
theorem xe5 {prog:Program} {w:World} {A:Around} {R:Result->Shared->Prop} {s:Shared} {j a g:Expr} {i:List Expr} {b:Scope} {pos:Pos} {it acc:Value} {env:Env} (I:Nat->Shared->Prop)
  (l:∀ n s,I n s->wpAny (model prog w) A (pyNext it) (λr u=>match r with
   |none=>R (.ok .next) u
   | some v=>wpAny (model prog w) A (letOwnedTupleGo a it v) (λ_ o=>wpAny (model prog w) A (assign a env v) (λ_ F=>
     wpAny (model prog w) A (forIn i true λc r=>if r=true then do let ok <- isTrue c env (eval c env);pure (ForInStep.yield ok) else pure (ForInStep.yield r)) (λok p=>
      if ok=true then wpAny (model prog w) A (eval j env) (λx C=>
       wpAny (model prog w) A (call (.builtin "list.append") [acc,x]) (λ_ z=>∃m,m<n/\I m z) (notedBy (model prog w) A env λe f=>R (.error e) f) C) (notedBy (model prog w) A env λe f=>R (.error e) f) p
      else ∃m,m<n/\I m p) (notedBy (model prog w) A env λe f=>R (.error e) f) F) (notedBy (model prog w) A env λe f=>R (.error e) f) o) (notedBy (model prog w) A env λe f=>R (.error e) f) u) (notedBy (model prog w) A env λe f=>R (.error e) f) s)
  (n:Nat) (h:I n s) :
  codeAny (model prog w) A (.compLoop (.ListComp j [⟨a,g,i,0⟩] b pos) 0 it acc env) R s:=by
 refine codeAny_loop rfl I (λn s U=>?_) n h;show wpAny _ A ((compTurn (.ListComp j [⟨a,g,i,0⟩] b pos) 0 it acc env).onRaise (λx=>do noteFrame x env;theTreesLotGoes x)) _ _ s;refine wpAny_noted ?_;rw[compTurn_list];refine zE (wpAny_standAt (zE (wpAny_mono (l n s U) (λr u h₁=>?_) λ_ _ h'=>h')))
 cases r with
 |none=>exact zI h₁
 | some v=>
  refine zE (wpAny_mono h₁ (λ_ o y=>?_) λ_ _ h'=>h');refine zE (wpAny_mono y (λ_ F O=>zE (wpAny_mono O (λok p G=>?_) λ_ _ h'=>h')) λ_ _ h'=>h')
  cases ok with
  |false=>exact zI ⟨rfl,G⟩
  |true=>
   exact zE (zE (wpAny_mono G (λx C M=>zE (wpAny_mono M (λ_ z J=>zI (zI ⟨rfl,J⟩)) λ_ _ h'=>h')) λ_ _ h'=>h'))
section
variable {X:Cx}
theorem xie{M:Model}{A:Around}{α:Type}{t:Sem α}{Q:α->Shared->Prop}{E:Value->Shared->Prop}{s:Shared}(h:wpAny M A t Q (λ_ _=>False) s):wpAny M A t Q E s:=wpAny_mono h (λ_ _ q=>q) λ_ _ z=>z.elim
theorem xim {elt tg iter:Expr} {ifs:List Expr} {sc:Scope} {pos:Pos} {N':List Str} {ix:Cap} {g:TG} {tt:TT} {te:TE} {pins:List (Addr×Obj)} {σ:St} {s:Shared} {Q:VK} {RR:Value->Addr->Result->Shared->Prop} {E:Value->Shared->Prop}
  {itv:Value} (hc:X.calm=true) (ok:CapOk X.N N' X.env.scope sc ix)
  (hg:∀C s₀ H₀ ex,PG (X.comp sc N' C s₀ H₀ ex) tg g) (ht:∀C s₀ H₀ ex,PTs (X.comp sc N' C s₀ H₀ ex) ifs tt) (he:∀C s₀ H₀ ex,PE (X.comp sc N' C s₀ H₀ ex) elt te)
  (hi:PIE X pins σ tg (λJ H1=>xh0 J ix g tt te σ H1 Q) itv s)
  (fin:∀(D C:Addr) (s':Shared) (H':Hp) (m:Str->Option Value),Inv X pins σ H' s'->Q (.ref D) H'->s'.heap.Ns C m->H' C=none->C≠X.env.locals->X.s₀.heap.objs.size<=C->(∀x c,X.env.cells.lookup x=some c->c≠C)->(∀p∈X.pn++pins,p.1≠C)->
   RR (.ref D) C (.ok .next) s') :
  wpAny (model X.prog X.w) X.A (newList []) (λacc s₃=>wpAny (model X.prog X.w) X.A (newFunctionEnv sc X.env.globals (clOf X.env sc.names []) [] X.env.qual none .none (some X.env)) (λcenv s₄=>
   codeAny (model X.prog X.w) X.A (.compStart (.ListComp elt [⟨tg,iter,ifs,0⟩] sc pos) 0 itv acc {cenv with scope:=relabel sc X.env}) (RR acc cenv.locals) s₄) E s₃) E s:=by
 obtain⟨it,fp,tn,J,H2,rfl,I2,T,st2,f2,W,⟨m0,w0⟩,turn⟩:=hi;refine wpAny_newObj_type (wpAny_newFunctionEnv ok.nocell (by intro y hy;simp at hy) (λh₁ hns₁ hsb₁=>?_) ok.kind);dsimp only at hns₁ hsb₁⊢;generalize hHD:s.heap.push {cls:=.type "list",dict:=none,data:=.seq ([]:List Value).toArray}=hD at hns₁ hsb₁⊢;have hCs:hD.objs.size=s.heap.objs.size+1:=by rw[<- hHD,Heap.size_push]
 have upC:s.heap.objs.size<hD.objs.size:=by rw[hCs];exact Nat.lt_succ_self _
 have hDC:s.heap.objs.size≠hD.objs.size:=by rw[hCs];exact zN (Nat.lt_succ_self _)
 have below:∀b o,s.heap.get? b=some o->b≠hD.objs.size/\b≠s.heap.objs.size:=λb o e=>by
  have:=zJ e;exact⟨zN (by rw[hCs];exact Nat.lt_succ_of_lt this),zN this⟩
 have old:∀b o,s.heap.get? b=some o->h₁.get? b=some o:=λb o e=>hsb₁.extBut b o (below b o e).1 (zPO _ (hHD ▸ zPO _ e));have hacc:h₁.get? s.heap.objs.size=some {cls:=.type "list",data:=.seq ([]:List Value).toArray 0}:=hsb₁.extBut _ _ hDC (zPO _ (hHD ▸ zK _ rfl));have fpo:∀b∈fp,b<s.heap.objs.size:=λb hb=>let ⟨o,e,_⟩:=T.obj _ _ st2 b hb;zJ e;have cellX:∀x c,(clOf X.env sc.names []).lookup x=some c->X.env.cells.lookup x=some c:=λx c e=>xll (λp hp=>absurd hp (by simp)) e;have cellLt:∀x c,X.env.cells.lookup x=some c->c<s.heap.objs.size:=λx c e=>let ⟨v,z⟩:=I2.cell x c e;z.lt
 have hasC:∀x,(x,NameKind.free)∈sc.names->∃c,(clOf X.env sc.names []).lookup x=some c:=λx hx=>by
  have h1:=I2.ok.has x (ok.fre (x,.free) hx rfl);exact xe8 (xn5 (.inr ⟨hx,h1⟩))
 have okX:(X.comp sc N' hD.objs.size s H2 fp).Ok:=by
  refine⟨I2.ok.mod,ok.kind,I2.ok.glob,I2.ok.blt,?_,?_,?_,?_,I2.ok.hd,I2.ok.frames,.inl rfl,?_,I2.bs,zF I2.ok.bsz I2.sz,?_,?_,I2.stack,I2.stkFree⟩
  ·exact Nat.le_of_lt upC
  ·intro x y c h1 h2
   exact I2.ok.inj x y c (cellX x c h1) (cellX y c h2)
  ·intro x hx
   have hx':(relabel sc X.env).names.lookup x=some .cell\/(relabel sc X.env).names.lookup x=some .free:=hx
   have:∃k,sc.names.lookup x=some k/\(k=.free\/k=.cell):=by
    rcases hx' with h |h
    ·obtain⟨k,e,z⟩:=xde h
     rcases z with z |⟨z,_⟩
     ·exact⟨k,e,.inr z.symm⟩
     ·exact⟨k,e,.inl z⟩
    ·obtain⟨k,e,z⟩:=xde h
     rcases z with z |⟨_,z⟩
     ·exact⟨k,e,.inl z.symm⟩
     ·cases z
   obtain⟨k,e,z⟩:=this;rcases z with rfl |rfl
   ·exact hasC x (PySem.mem_of_lookup e)
   ·exact absurd rfl (ok.nocell _ (PySem.mem_of_lookup e))
  ·intro x c h _
   cases h
  ·intro b hb
   refine⟨?_,λx c e=>(f2 b hb).2.2.2.2.1 x c (cellX x c e)⟩;exact zN (by rw[hCs];exact Nat.lt_succ_of_lt (fpo b hb))
  ·intro b o e hb
   rcases(f2 b hb).2.2.2.1 with z |z
   ·exact I2.ok.noex b o e z
   ·exact absurd (zO (zJ (I2.ok.bs b o e).1) z) (zR _)
  ·intro b hb z
   rcases zMC (I2.stkSub b z) with z |z
   ·exact(f2 b hb).2.1 z
   ·exact(f2 b hb).2.2.1 z
 have hnD:H2 s.heap.objs.size=none:=I2.hok.fresh (zG _);have hnC:H2 hD.objs.size=none:=I2.hok.fresh (Nat.le_of_lt upC)
 have nofsD:∀a,s.heap.objs.size<=a->a ∉frs X.stack:=λa ha z=>by
  rcases zMC (I2.stkSub a z) with z |z
  ·exact absurd (zO I2.lt ha) (by rw[z];exact zR _)
  ·exact I2.nofs ha z
 have xgk:Inv (X.comp sc N' hD.objs.size s H2 fp) [(s.heap.objs.size,{cls:=.type "list",data:=.seq ([]:List Value).toArray 0})] (capt ix σ) H2 {s with heap:=h₁,toks:=s.toks+([]:List (Str×Value)).length}:=by
  refine⟨okX,rfl,I2.bare,Un.kept old,⟨_,hns₁,?_⟩,λx c e=>?_,hnC,λx c e=>I2.freeC x c (cellX x c e),λp hp=>?_,I2.hok.kept old,?_⟩
  ·intro i x v hN hv hvis
   have hl:i<ix.length:=by rw[ok.len];exact(zES hN).1
   have hv':(ix.map λo=>(o.bind λj=>σ[j]?).join)[i]?=some (some v):=hv;rw[zGM,zGA hl]at hv';have hv'':((ix[i].bind λj=>σ[j]?).join)=some v:=zM hv'
   cases ej:ix[i] with
   |none=>rw[ej]at hv'';cases hv''
   | some j=>
    rw[ej]at hv''
    have hσ:σ[j]?=some (some v):=by
     have z:(σ[j]?).join=some v:=hv''
     cases q:σ[j]? with
     |none=>rw[q]at z;cases z
     |some o=>rw[q]at z;exact congrArg some z
    obtain⟨x',e1,e2,e3⟩:=ok.cap i j (by rw[zGA hl,ej]);rw[show N'[i]?=some x from hN]at e1;cases e1;have hk:=ok.fre (x,.free) (PySem.mem_of_lookup e3) rfl;obtain⟨m,hm,hl'⟩:=I2.loc;obtain⟨u,ru,lk⟩:=hl' j x v e2 hσ (hk.elim (λz=>.inr (.inl z)) λz=>.inr (.inr z));refine⟨u,ru,.inr ⟨?_,?_⟩⟩
    ·show(relabel sc X.env).names.lookup x=some .cell\/(relabel sc X.env).names.lookup x=some .free
     obtain⟨k',q1,q2⟩:=xfe (env:=X.env) e3;rcases q2 with q2 |⟨_,q2⟩
     ·exact .inr (q1.trans (congrArg some q2))
     ·exact .inl (q1.trans (congrArg some q2))
    ·obtain⟨c,hc'⟩:=hasC x (PySem.mem_of_lookup e3)
     refine⟨c,hc',?_⟩;rcases lk with⟨z,_⟩ |⟨_,c',ec,⟨o,ho,hd⟩⟩
     ·have z':X.env.scope.names.lookup x=some .local:=z
      rcases hk with hk |hk
      ·rw[z']at hk;cases hk
      ·rw[z']at hk;cases hk
     ·rw[cellX x c hc']at ec
      cases ec;exact⟨o,old _ _ ho,hd⟩
  ·obtain⟨v,o,ho,hd⟩:=I2.cell x c (cellX x c e)
   exact⟨v,o,old _ _ ho,hd⟩
  ·have e:p=(s.heap.objs.size,{cls:=.type "list",data:=.seq ([]:List Value).toArray 0}):=by simpa using hp
   subst e;exact⟨hacc,hnD,hDC,nofsD _ (zG _),λv z=>by cases z⟩
  ·show(ix.map _).length=N'.length
   rw[zLM];exact ok.len
 have st1:tn 0 h₁:=T.keep _ _ _ st2 λb hb o e=>old b o e
 have loop:∀s₃:Shared,s₃={s with heap:=h₁,toks:=s.toks+([]:List (Str×Value)).length}->
   codeAny (model X.prog X.w) X.A (.compLoop (.ListComp elt [⟨tg,iter,ifs,0⟩] sc pos) 0 (.ref it) (.ref s.heap.objs.size) (compEnvC sc (clOf X.env sc.names []) hD.objs.size X.env))
    (RR (.ref s.heap.objs.size) hD.objs.size) s₃:=by
  rintro s₃ rfl
  have fpI:∀{H':Hp} {o:Obj},(∀b∈fp,H' b=none)->∀b∈fp,FpOk (X.comp sc N' hD.objs.size s H2 fp) [(s.heap.objs.size,o)] H' b:=λ{H' o} hn b hb=>by
   have hlt:=fpo b hb;refine⟨hn b hb,(okX.exf b hb).1,okX.exfs b hb,.inl hb,(okX.exf b hb).2,λp hp=>?_⟩;have e:p=(s.heap.objs.size,o):=by simpa using hp
   subst e;exact Nat.ne_of_gt hlt
  refine xe5 (λn s'=>∃i ys its k H',Inv (X.comp sc N' hD.objs.size s H2 fp) [(s.heap.objs.size,{cls:=.type "list",data:=.seq its.toArray k})] (capt ix σ) H' s'/\Vals ys its/\ys.length<=sizeLine/\tn i s'.heap/\(∀b∈fp,H' b=none)/\W i n ys H')
   ?_ m0 ⟨0,[],[],0,H2,xgk,.nil,zY _,st1,λb hb=>(f2 b hb).1,w0⟩
  rintro n s4 ⟨i,ys,its,k,H4,I4,r4,z4,st4,fr4,w4⟩;rcases turn i n ys H4 w4 with⟨stop,q⟩ |⟨go,hz,step⟩
  ·refine xie (thn (T.done (X.comp sc N' hD.objs.size s H2 fp) rfl rfl rfl hc i _ s4 _ H4 (λ_ _=>False) I4 (fpI fr4) st4 stop) λr s5 ⟨hr,I5⟩=>?_)
   subst hr;show RR (.ref s.heap.objs.size) hD.objs.size (.ok .next) s5;obtain⟨pD,nD,_,_,_⟩:=I5.pin (s.heap.objs.size,{cls:=.type "list",data:=.seq its.toArray k}) (by simp);obtain⟨m5,hm5,_⟩:=I5.loc;have okD:HOk X.prog X.w (upd H4 s.heap.objs.size (.lst ys)) s5.heap:=I5.hok.track nD ⟨z4,its,k,r4,pD⟩
   have un:Un (frs X.stack) fp H2 (upd H4 s.heap.objs.size (.lst ys)) s.heap s5.heap:=by
    have B:Un (frs X.stack) fp H2 H4 s.heap s5.heap:=I5.base;have ne:∀b u,H2 b=some u->b≠s.heap.objs.size:=λb u e=>neN e hnD;refine⟨B.keep,B.slot,λb o e n hb=>?_,B.there,λb xs e=>?_,λb o u e=>?_,λb ps e=>?_⟩
    ·rw[xa7 (below b o e).2];exact B.free b o e n hb
    ·rw[xa7 (ne b _ e)];exact B.tups b xs e
    ·rw[xa7 (ne b _ e)];exact B.frzs b o u e
    ·rw[xa7 (ne b _ e)];exact B.tbls b ps e
   have IX:Inv X pins σ (upd H4 s.heap.objs.size (.lst ys)) s5:=I2.call' (ch:=fp) I5.os un okD I5.bare λb hb=>⟨(f2 b hb).2.2.2.1,(f2 b hb).2.1,(f2 b hb).2.2.2.2.1,(f2 b hb).2.2.2.2.2⟩;refine fin _ _ s5 _ m5 IX (q _ nD) hm5 ?_ (Nat.ne_of_gt (Nat.lt_trans I2.lt upC)) (Nat.le_of_lt (Nat.lt_of_le_of_lt I2.sz upC)) (λx c e=>zN (Nat.lt_trans (cellLt x c e) upC)) (λp hp=>zN (Nat.lt_trans (zJ (I2.pin p hp).1) upC));rw[xa7 (Ne.symm hDC)];exact I5.free
  ·refine xie (thn (T.item (X.comp sc N' hD.objs.size s H2 fp) rfl rfl rfl hc i _ s4 _ H4 (λ_ _=>False) I4 (fpI fr4) st4 go) λr s5 ⟨u,hr,h5⟩=>?_)
   subst hr;refine xie (thn h5 λ_ s6 ⟨x,H6,I6,r6,y6,st6,fr6⟩=>?_);have I6':=I6.pinned (fpI fr6) (T.obj _ _ st6);refine xie (thn (hg _ _ _ _ _ s6 _ H6 x u _ I6' r6 (step x H6 y6)) λ_ s7 ⟨σ7,H7,I7,x7,q7⟩=>?_);refine xie (thn (ht _ _ _ _ _ s7 σ7 H7 _ I7 q7) λb s8 ⟨H8,I8,q8⟩=>?_)
   have back:∀{s9:Shared} {H9:Hp},Inv (X.comp sc N' hD.objs.size s H2 fp) ([(s.heap.objs.size,{cls:=.type "list",data:=.seq its.toArray k})]++xkf fp s6.heap) σ7 H9 s9->
     Inv (X.comp sc N' hD.objs.size s H2 fp) [(s.heap.objs.size,{cls:=.type "list",data:=.seq its.toArray k})] (capt ix σ) H9 s9/\tn (i+1) s9.heap/\(∀b∈fp,H9 b=none):=λ{s9 H9} J9=>by
    refine⟨(J9.unpinned).weak x7.1 x7.2,T.keep _ _ _ st6 λb hb o e=>(J9.pin (b,o) (List.mem_append_right _ (List.mem_append_right _ (xex hb e)))).1,λb hb=>?_⟩;obtain⟨o,e,d⟩:=T.obj _ _ st6 b hb;exact(J9.pin (b,o) (List.mem_append_right _ (List.mem_append_right _ (xex hb e)))).2.1
   cases b with
   |false=>
    rw[if_neg zL]at q8⊢;obtain⟨m',hm,w8⟩:=q8;obtain⟨J8,st8,fr8⟩:=back I8;exact⟨m',hm,i+1,ys,its,k,H8,J8,r4,z4,st8,fr8,w8⟩
   | true=>
    rw[if_pos rfl]at q8⊢;refine xie (thn (he _ _ _ _ _ s8 σ7 H8 _ I8 q8) λy s9 ⟨v9,H9,I9,r9,q9⟩=>?_);obtain⟨m',hm,w9⟩:=q9;obtain⟨J9,st9,fr9⟩:=back I9;obtain⟨pD,nD,neC,nf,_⟩:=J9.pin (s.heap.objs.size,{cls:=.type "list",data:=.seq its.toArray k}) (by simp);have hlen:=r4.length;refine call_meets F.slot_list_append ⟨_,pD,rfl⟩ F.entry_list_append (F.args_list_append_2 _ _) (PySem.list_append s.heap.objs.size its.toArray k y (by rw[List.size_toArray];omega)) ⟨pD,?_⟩;have q:=PySem.IsL.update pD (·.push y);have ep:its.toArray.push y=(its++[y]).toArray:=by simp
    dsimp only at q;rw[ep]at q;obtain⟨k',q⟩:∃k',(s9.heap.update s.heap.objs.size (Obj.mapSeq (·.push y))).get? s.heap.objs.size=some {cls:=.type "list",data:=.seq (its++[y]).toArray k'}:=⟨_,q⟩;have J0:Inv (X.comp sc N' hD.objs.size s H2 fp) [] (capt ix σ) H9 s9:=J9.pins_of λp hp=>absurd hp (by simp)
    have J1:Inv (X.comp sc N' hD.objs.size s H2 fp) [] (capt ix σ) H9 {s9 with heap:=s9.heap.update s.heap.objs.size (Obj.mapSeq (·.push y))}:=
     J0.turned (it:=s.heap.objs.size) (t':=s9.toks) (λb o hb e=>(Heap.get?_update_other _ _ (Ne.symm hb)).trans e) nD neC (.inr (zG _)) (λx c e=>zN (cellLt x c (cellX x c e))) λp hp=>absurd hp (by simp)
    refine⟨m',hm,i+1,ys++[v9],its++[y],k',H9,J1.pins_of λp hp=>?_,r4.append (.cons r9 .nil),?_,T.keep _ _ _ st9 λb hb o e=>(Heap.get?_update_other _ _ ?_).trans e,fr9,w9⟩
    ·have e:p=_:=zMO hp
     subst e;exact⟨q,nD,neC,nf,λv z=>by cases z⟩
    ·rw[zLA,List.length_singleton];omega
    ·exact Nat.ne_of_gt (fpo b hb)
 exact codeAny_compStart_list (loop _ rfl) (T.self _ 0 _ _ _ st1 (loop _ rfl))
theorem Inv.letGo {pins:List (Addr×Obj)} {σ:St} {H:Hp} {s:Shared} {C:Addr} {h':Heap} (I:Inv X pins σ H s) (hs:Heap.SameBut C s.heap h') (h0:H C=none) (h1:C≠X.env.locals) (h2:X.s₀.heap.objs.size<=C) (h3:∀x c,X.env.cells.lookup x=some c->c≠C)
  (h4:∀p∈X.pn++pins,p.1≠C):Inv X pins σ H {s with heap:=h'}:=I.turned (t':=s.toks) (λb o hb e=>(hs.2 b hb).trans e) h0 h1 (.inr h2) h3 h4
theorem xb7 {elt tg iter:Expr} {ifs:List Expr} {sc:Scope} {pos:Pos} (N':List Str) (ix:Cap) {wi:TI} {g:TG} {tt:TT} {te:TE} (hc:X.calm=true) (hok:xt7 X.N N' X.env.scope sc ix=true)
  (hi:PI X tg iter wi) (hg:∀C s₀ H₀ ex,PG (X.comp sc N' C s₀ H₀ ex) tg g) (ht:∀C s₀ H₀ ex,PTs (X.comp sc N' C s₀ H₀ ex) ifs tt) (he:∀C s₀ H₀ ex,PE (X.comp sc N' C s₀ H₀ ex) elt te)
  (hs:∀x,foldedSetIterable iter X.env x=pure x:=by intro _;rfl):PE X (.ListComp elt [⟨tg,iter,ifs,0⟩] sc pos) (xxo ix wi g tt te):=by
 intro pins s σ H Q I h;have ok:=xn7 hok;rw[eval_ListComp];refine wpAny_comprehension_free (use:=none) rfl hs (xf4 λp hp hk=>I.ok.has p.1 (ok.fre p hp hk)) ok.kind ok.loc (thn (hi pins s σ H _ I h) λv s1 h1=>thn h1 λitv s2 h2=>?_);refine xim (RR:=λacc C=>compPost (model X.prog X.w) X.A X.xe none (EP X pins σ Q) acc C) hc ok hg ht he h2 ?_;intro D C s' H' m I' q hm h0 h1 h2 h3 h4;exact⟨m,hm,λh' hsb=>⟨.ref D,H',I'.letGo hsb h0 h1 h2 h3 h4,rfl,q⟩⟩
theorem xbl {elt tg iter:Expr} {ifs:List Expr} {sc:Scope} {pos spos py:Pos} {i:Nat} {y:Str} (N':List Str) (ix:Cap) {wi:TI} {g:TG} {tt:TT} {te:TE} (hc:X.calm=true) (hok:xt7 X.N N' X.env.scope sc ix=true)
  (hN:X.N.Nodup) (hy:X.N[i]?=some y) (hx:Loc X.env.scope y)
  (hi:PI X tg iter wi) (hg:∀C s₀ H₀ ex,PG (X.comp sc N' C s₀ H₀ ex) tg g) (ht:∀C s₀ H₀ ex,PTs (X.comp sc N' C s₀ H₀ ex) ifs tt) (he:∀C s₀ H₀ ex,PE (X.comp sc N' C s₀ H₀ ex) elt te)
  (hs:∀x,foldedSetIterable iter X.env x=pure x:=by intro _;rfl) (hsw:swapsWith (.ListComp elt [⟨tg,iter,ifs,0⟩] sc pos) (some (.Name y py)) spos.line X.env=pure true:=by rfl)
  (hf:X.fn y=true\/X.env.scope.names.lookup y=some .local:=by first |exact .inl rfl |exact .inr rfl |assumption) :
  PS X (.Assign [.Name y py] (.ListComp elt [⟨tg,iter,ifs,0⟩] sc pos) spos) (tAsg (xxo ix wi g tt te) (xhr i)):=by
 intro pins s σ H D I h;have ok:=xn7 hok;rw[exec_Assign_Name_used _ _ _ _ hsw];refine zE (wpAny_standAt (zE ?_));show wpAny _ X.A (do let _ <- comprehension (.ListComp elt [⟨tg,iter,ifs,0⟩] sc pos) sc X.env _ (newList []) false (eval iter X.env) (some (assign (.Name y py) X.env))) _ _ s
 refine zE (wpAny_mono (wpAny_comprehension_free (use:=some (assign (.Name y py) X.env)) (Q:=λ_ s'=>SP X pins D .next s') rfl hs (xf4 λp hp hk=>I.ok.has p.1 (ok.fre p hp hk)) ok.kind ok.loc
  (thn (hi pins s σ H _ I h) λv s1 h1=>thn h1 λitv s2 h2=>?_)) (λ_ s' hq=>zI (zI hq)) λ_ _ e=>e)
 refine xim (Q:=λx H1=>xhr i x σ H1 D.nx) (RR:=λacc C=>compPost (model X.prog X.w) X.A X.xe (some (assign (.Name y py) X.env)) (λ_ s'=>SP X pins D .next s') acc C) hc ok hg ht he h2 ?_;intro Dl C s' H' m I' q hm h0 h1 h2 h3 h4;refine wpAny_assign_Name (xj6 I' hN hy hx (v:=.ref Dl) rfl (λs3 I3 sb=>?_) hf);obtain⟨a,hsb,ha⟩:=sb
 have hne:C≠a:=by
  rcases ha with e |e
  ·rw[e];exact h1
  ·exact Ne.symm (h3 y a e)
 exact⟨m,hm.sameBut hsb hne,λh' hs'=>⟨_,H',I3.letGo hs' h0 h1 h2 h3 h4,q⟩⟩
end
section
variable {ix:Cap}{tt:TT}{te:TE}{g:TG}{σ:St}{H:Hp}{Q:VK}
def Nxt(Pv:Nat->List V->Hp->Prop)(n i:Nat)(ys:List V):VK:=λy H2=>∃m',m'<n-i/\m'=n-(i+1)/\i+1<=n/\(ys++[y]).length=i+1/\Pv (i+1) (ys++[y]) H2
theorem nxt{a:Nat->List V->Hp->Prop}{n i:Nat}{ys:List V}{y:V}{b:Hp}(hi:i<n)(c:ys.length=i)(h:a (i+1) (ys++[y]) b):Nxt a n i ys y b:=
 ⟨n-(i+1),by omega,rfl,hi,by rw[zLA,List.length_singleton,c],h⟩
theorem xge {lo:Int} {n j:Nat} (Pv:Nat->List V->Hp->Prop) (hj:(capt ix σ)[j]?=some none) (h0:Pv 0 [] H) (hn:n<sizeLine)
  (hs:∀i ys H,i<n->ys.length=i->Pv i ys H->te ((capt ix σ).set j (some (.int (lo+i)))) H (Nxt Pv n i ys))
  (hd:∀ys H,ys.length=n->Pv n ys H->∀D,H D=none->Q (.ref D) (upd H D (.lst ys))):xh0 (Itr lo n) ix (xhr j) tYes te σ H Q:=by
 refine⟨λi m ys H=>m=n-i/\i<=n/\ys.length=i/\Pv i ys H,⟨n,by simp,zY _,rfl,h0⟩,?_⟩;rintro i m ys H ⟨rfl,hi,hl,p⟩;by_cases hlt:i<n
 ·refine .inr ⟨hlt,by omega,λx H' y=>?_⟩
  obtain⟨e,y⟩:=y;subst e y;refine⟨xd3 hj,?_⟩;unfold tYes;dsimp only;rw[if_pos rfl];exact hs i ys _ hlt hl p
 ·have e:i=n:=by omega
  subst e;exact .inl ⟨zG _,hd ys H hl p⟩
theorem xhx {K:Fg} {a:Addr} {xs:List V} {j:Nat} (Pv:Nat->List V->Hp->Prop) (hj:(capt ix σ)[j]?=some none) (h0:Pv 0 [] H) (hn:xs.length<sizeLine) (hl':∀i ys H,i<=xs.length->Pv i ys H->SqL K H a xs)
  (hs:∀i x ys H,xs[i]?=some x->ys.length=i->Pv i ys H->te ((capt ix σ).set j (some x)) H (Nxt Pv xs.length i ys))
  (hd:∀ys H,ys.length=xs.length->Pv xs.length ys H->∀D,H D=none->Q (.ref D) (upd H D (.lst ys))):xh0 (Itl K a) ix (xhr j) tYes te σ H Q:=by
 refine⟨λi m ys H=>m=xs.length-i/\i<=xs.length/\ys.length=i/\Pv i ys H,⟨xs.length,by simp,zY _,rfl,h0⟩,?_⟩;rintro i m ys H ⟨rfl,hi,hl,p⟩;have q:=hl' i ys H hi p;by_cases hlt:i<xs.length
 ·refine .inr ⟨⟨xs,xs[i],q,by simp[hlt]⟩,by omega,λv H' y=>?_⟩
  obtain⟨e,y⟩:=y;subst e;refine⟨xd3 hj,?_⟩;unfold tYes;dsimp only;rw[if_pos rfl];exact hs i v ys _ (y xs q) hl p
 ·have e:i=xs.length:=by omega
  subst e;exact .inl ⟨⟨xs,q,zG _⟩,hd ys H hl p⟩
theorem xe1 {K:Fg} {a:Addr} {xs:List V} {j:Nat} (b:Nat->List V->Hp->Prop) (h:(capt ix σ)[j]?=some none) (h0:b 0 [] H) (hn:xs.length<sizeLine) (f:∀i ys H,i<=xs.length->b i ys H->SqT K H a xs)
  (hs:∀i x ys H,xs[i]?=some x->ys.length=i->b i ys H->te ((capt ix σ).set j (some x)) H (Nxt b xs.length i ys))
  (l:∀ys H,ys.length=xs.length->b xs.length ys H->∀D,H D=none->Q (.ref D) (upd H D (.lst ys))):xh0 (Itt K a) ix (xhr j) tYes te σ H Q:=by
 refine⟨λi m ys H=>m=xs.length-i/\i<=xs.length/\ys.length=i/\b i ys H,⟨xs.length,by simp,zY _,rfl,h0⟩,?_⟩;rintro i m ys H ⟨rfl,hi,g,p⟩;have q:=f i ys H hi p;by_cases c:i<xs.length
 ·refine .inr ⟨⟨xs,xs[i],q,by simp[c]⟩,by omega,λv n y=>?_⟩
  obtain⟨e,y⟩:=y;subst e;refine⟨xd3 h,?_⟩;unfold tYes;dsimp only;rw[if_pos rfl];exact hs i v ys _ (y xs q) g p
 ·have e:i=xs.length:=by omega
  subst e;exact .inl ⟨⟨xs,q,zG _⟩,l ys H g p⟩
end
section
variable {X:Cx}
def yan(i j:Int):Prop:=0<j/\j<2 ^ 64
theorem xcv:OpR X (binaryOp .FloorDiv) (rI yan λi j=>.int (i / j)):=opI λi j _ _ _ _ _ a q=>by
 have f:(0:Int)<j:=a.1;have e:j<2 ^ 64:=a.2;refine floordiv_int (by omega) (by rw[Int.fdiv_eq_ediv_of_nonneg i (by omega)];exact q) (.inl (PyProof.noPylong_of_log2 ?_));have b:j.natAbs<2 ^ 64:=by omega
 have h0:j.natAbs≠0:=by omega
 have c:j.natAbs.log2<64:=(Nat.log2_lt h0).mpr b;omega
theorem xoe{ys:List Str}:∀{us:List Value},Vals (ys.map V.str) us->StrsAre us ys:=by
 induction ys with
 |nil=>intro us r;rw[List.map_nil]at r;cases r;exact .nil
 | cons n ns c=>
  intro us r;rw[List.map_cons]at r
  cases r with
  |cons b a=>
   obtain⟨t,e⟩:=b;subst e;exact .cons n t (c a)
def xzz(K:Fg):V->List V->Hp->VK->Prop:=λx vs H Q=>∃(sep:Str) (p:Addr) (ys:List Str),x=.str sep/\vs=[.ref p]/\SqL K H p (ys.map V.str)/\(ys.map (·.length)).sum+ys.length*sep.length<=16777216/\Q (.str (Txt.join sep ys)) H
theorem xwm:MtR X "str.join" (xzz X.K):=by
 intro a s σ H x vs v us Q I c e h;obtain⟨b,p,ys,rfl,rfl,g,hz,q⟩:=h;obtain⟨t,rfl⟩:=c;obtain⟨u,rfl,f⟩:=e.one;cases f;obtain⟨its,r,pl,_⟩:=I.list g;exact join_list pl.isList (by simpa using xoe r) hz λt' k=>⟨.str _,H,I.tok k,⟨t',rfl⟩,q⟩
def rSlS:V->Option Int->Option Int->Hp->VK->Prop:=λx lo hi H Q=>∃z:Str,x=.str z/\z.length<=sizeLine/\Q (.str (Txt.slice z lo hi)) H
theorem xul:SlR X rSlS:=by
 intro f s σ H x v G C y hi sl Q I w hs pl r h;obtain⟨z,rfl,hz,q⟩:=h;obtain⟨t,rfl⟩:=w;refine⟨"str",_,F.slot_str_getitem.lookup,typeIs_str _ _ _,?_⟩
 have m:∀(o:Str),o=Txt.slice z y hi->o.length<=sizeLine/\∀t' k,EP X f σ Q (.str o t') {s with toks:=k}:=λo e=>by
  subst e;exact⟨zF (Txt.slice_le z _ _) hz,λt' k=>⟨.str _,H,I.tok k,⟨t',rfl⟩,q⟩⟩
 obtain⟨g,a,c,b⟩:=hs
 cases pl with
 |none=>
  cases r with
  |none=>exact wpAny_getItem_str_slice (l:=none) (u:=none) (st:=none) ⟨g,a,c,b⟩ rfl (post_val_or_str (m _ rfl))
  |int j n=>exact wpAny_getItem_str_slice (l:=none) (u:=some (j,n)) (st:=none) ⟨g,a,c,b⟩ rfl (post_val_or_str (m _ rfl))
 |int i p=>
  cases r with
  |none=>exact wpAny_getItem_str_slice (l:=some (i,p)) (u:=none) (st:=none) ⟨g,a,c,b⟩ rfl (post_val_or_str (m _ rfl))
  |int j n=>exact wpAny_getItem_str_slice (l:=some (i,p)) (u:=some (j,n)) (st:=none) ⟨g,a,c,b⟩ rfl (post_val_or_str (m _ rfl))
theorem xmv:xec X (.builtin "isinstance") (λxs H Q=>∃x y c t b,xs=[x,y]/\(∀u,RelV y u->u=c)/\TyOf X.K H x t/\PySem.W.kitOne X.K t c=some b/\Q (.bl b) H):=by
 intro a s σ H xs us Q I r h;obtain⟨x,y,c,t,b,rfl,l,f,e,q⟩:=h;obtain⟨u,v,rfl,j,i⟩:=r.two;obtain rfl:=l v i;exact xrr I j f e λg=>⟨.bl b,H,I.tok g,rfl,q⟩
def eqVs:List V->List V->Bool
 |[],[]=>true
 |x::xs,y::ys=>eqV x y && eqVs xs ys
 |_,_=>false
theorem xn1:∀{xs ys:List V},xs.length≠ys.length->eqVs xs ys=false
 |[],[],h=>absurd rfl h
 |[],_::_,_=>rfl
 |_::_,[],_=>rfl
 |x::xs,y::ys,h=>by
  show(eqV x y && eqVs xs ys)=false;rw[xn1 (xs:=xs) (ys:=ys) (by simpa using h),Bool.and_false]
theorem xik:∀{xs ys:List V},xs.length=ys.length->(List.range xs.length).all (λi=>eqV (xs.getD i .non) (ys.getD i .non))=eqVs xs ys
 |[],[],_=>rfl
 |[],_::_,h=>by cases h
 |_::_,[],h=>by cases h
 |x::xs,y::ys,h=>by
  rw[List.length_cons,List.range_succ_eq_map,List.all_cons,List.all_map];show(eqV x y && (List.range xs.length).all (λi=>eqV (xs.getD i .non) (ys.getD i .non)))=(eqV x y && eqVs xs ys);rw[xik (xs:=xs) (ys:=ys) (by simpa using h)]
def rEqL(K:Fg):R2:=λx y H Q=>∃a b xs ys,x=.ref a/\y=.ref b/\SqL K H a xs/\SqL K H b ys/\xs.all xem=true/\ys.all xem=true/\Q (.bl (eqVs xs ys)) H
theorem xyj(r:X.A.units<cLine):OpR X (compareOp .Eq) (rEqL X.K):=by
 intro n s σ H x y v u Q I G F h;obtain⟨a,b,xs,ys,rfl,rfl,Y,U,fa,fb,q⟩:=h;cases G;cases F;obtain⟨its,m,p,_⟩:=I.list Y;obtain⟨c,l,o,_⟩:=I.list U;have O:=m.length;have l2:=l.length;by_cases w:xs.length=ys.length
 ·refine SeqAt.eq_listAt (e:=λi=>eqV (xs.getD i .non) (ys.getD i .non)) p.isList o.isList (by simp only[List.size_toArray];omega) r (λj h1 Z=>?_) ⟨.bl _,H,I,rfl,?_⟩
  ·have g:j<xs.length:=by simp only[List.size_toArray]at h1;omega
   have f:j<ys.length:=by simp only[List.size_toArray]at Z;omega
   obtain⟨C,e1,M⟩:=m.get (i:=j) (x:=xs[j]) (zGA g);obtain⟨z,e2,J⟩:=l.get (i:=j) (x:=ys[j]) (zGA f)
   have g1:its.toArray[j]=C:=by
    have:its[j]?=some its[j]:=zGA (by omega);rw[e1]at this;simpa using (zM this).symm
   have g2:c.toArray[j]=z:=by
    have:c[j]?=some c[j]:=zGA (by omega);rw[e2]at this;simpa using (zM this).symm
   rw[g1,g2,List.getD_eq_getElem?_getD,List.getD_eq_getElem?_getD,zGA g,zGA f];exact xu3 M J (List.all_eq_true.mp fa _ (zZ g)) (List.all_eq_true.mp fb _ (zZ f))
  ·rw[List.size_toArray,<- O,xik w]
   exact q
 ·refine SeqAt.eq_list_lengthsAt p.isList o.isList (by simp only[List.size_toArray];simp;omega) r ⟨.bl _,H,I,rfl,?_⟩
  rw[xn1 w]at q;exact q
end
def SameBut(a:Addr)(H H':Hp):Prop:=∀b o,H b=some o->b≠a->H' b=some o
theorem SameBut.refl(a:Addr)(H:Hp):SameBut a H H:=λ_ _ h _=>h
theorem SameBut.trans{a:Addr}{H f c:Hp}(h:SameBut a H f)(k:SameBut a f c):SameBut a H c:=λb o e n=>k b o (h b o e n) n
theorem SameBut.upd(a:Addr)(H:Hp)(o:HO):SameBut a H (upd H a o):=λb u e n=>by rw[xa7 n];exact e
theorem Same.but{a:Addr}{H c:Hp}(h:Same H c):SameBut a H c:=λb o e _=>h b o e
theorem Same.new{H:Hp}{p:Addr}(h:H p=none)(o:HO):Same H (upd H p o):=λb u q=>by rw[xa7 (neN q h)];exact q
noncomputable def zB:=@Same.new
theorem xck{H a:Hp}{p:Addr}(h:Same H a)(n:a p=none):H p=none:=by
 cases e:H p with
 |none=>rfl
 |some o=>rw[h p o e]at n;cases n
structure DefTx(K:Fg)(mg:Str->Option Value)(x:Str)(st:Stmt)(ps:List Str):Prop where
 ex:∃(f:Addr) (fd:FuncData),Fun K x x st f fd/\mg x=some (.ref f)/\∀us:List Value,us.length=ps.length->bindArgs fd ⟨us,[]⟩=pure (ps.zip us)
structure DefIs(P:Program)(w:World)(K:Fg)(mg:Str->Option Value)(base:Heap)(n:Nat)(x:Str)(ps:List Str)(sp:Sp):Prop where
 ex:∃(f:Addr) (fd:FuncData),FnOk P w K mg base CX0 n f fd ps sp/\Binds K fd ps []/\PySem.W.keepIn K (.ref f)=true/\mg x=some (.ref f)/\∃oc od osl,K.lookup f=some ⟨oc,od,.func fd,osl⟩
theorem xli{K:Fg}{x:Str}{st:Stmt}{f:Addr}{c:FuncData}(F:Fun K x x st f c):∃b od a,K.lookup f=some ⟨b,od,.func c,a⟩:=by
 obtain⟨b,od,kV,e,h,i,g,ct,a,_,l,_⟩:=F.ex;exact⟨b,od,a,l⟩
section
variable {P:Program}{w:World}{K:Fg}{mg:Str->Option Value}{base:Heap}{n m:Nat}{x:Str}{ps N:List Str}{sp:Sp}{st:Stmt}
theorem DefIs.mono(D:DefIs P w K a base n x ps sp)(h:n<=m):DefIs P w K a base m x ps sp:=by
 obtain⟨f,b,F,r⟩:=D.ex;exact⟨f,b,F.mono h,r⟩
theorem DefIs.of (T:DefTx K e x st ps) (S:FnScope N ps (xae st)) (len:∀vs H Q E,sp vs H Q E->vs.length=ps.length)
  (c:∀(f:Addr) (a:Value) (A:Around) (outer:List Env) (s:Shared) (H:Hp) (vs:List V) (Q:VK) (E:XK),Room n (A.deeper (envOfC x (xae st) s.heap.objs.size f a))->sp vs H Q E->
   ∃t,PSs (cxOf CX0 P w K e base N x (xae st) f a A outer s H E).nox (xd4 st) t/\t {nx:=λ_ j=>Q .non j,rt:=Q} (xgk N vs) H):DefIs P w K e base (n+1) x ps sp:=by
 obtain⟨f,i,F,m,b⟩:=T.ex;exact⟨f,i,F.ok S len (λa A outer s H vs Q E g h=>c f a A outer s H vs Q E g h),Binds.all b,F.kp,m,xli F⟩
theorem DefIs.none(T:DefTx K a x st ps)(no:∀vs H Q E,¬sp vs H Q E):DefIs P w K a base n x ps sp:=by
 obtain⟨f,c,F,m,b⟩:=T.ex;exact⟨f,c,⟨λvs H Q E h=>absurd h (no vs H Q E),λA outer s H args us vs Q E _ _ _ _ h=>absurd h (no vs H Q E)⟩,Binds.all b,F.kp,m,xli F⟩
end
section
variable {X:Cx}{n:Nat}{x:Str}{ps:List Str}{sp:Sp}{e:Expr}{es:List Expr}{p pos:Pos}{t:TA}
theorem pd (D:DefIs X.prog X.w X.K X.mg X.base n x ps sp) (g:Room n X.A) (j:PA X (e::es) t) (h:Gl X x:=by rfl) (c:(x == ("__debug__":Str))=false:=by decide)
  (i:starEach (e::es) X.env=(false,eval e X.env)::starEach es X.env:=by rfl) (a:(backTo pos (starEach es X.env)).any (·.1)=false:=by rfl):PE X (.Call (.Name x p) (e::es) [] pos) (xxr sp [] E0 t):=by
 obtain⟨f,l,F,b,k,m,_⟩:=D.ex;exact xv1 F g h m k b .nil xz3 j c i a
theorem xqo{i:Int}(hm:∃t,X.mg x=some (.int i t))(hg:Gl X x:=by rfl)(hd:(x == ("__debug__":Str))=false:=by decide):PE X (.Name x pos) (tC (.int i)):=by
 obtain⟨t,h⟩:=hm;exact xqn hg h ⟨t,rfl⟩ hd
theorem xdq{a:Addr}(b:X.mg x=some (.ref a))(c:Gl X x:=by rfl)(e:(x == ("__debug__":Str))=false:=by decide):PE X (.Name x pos) (tC (.ref a)):=xqn c b rfl e
theorem xup{T:String}(b:X.mg x=none)(a:bootBuiltins x=some (.type T))(c:Gl X x:=by rfl)(hn:x≠"__name__":=by decide)(e:(x == ("__debug__":Str))=false:=by decide):PE X (.Name x pos) (tC (.ty T)):=xv2 c b a rfl hn e
end
def Fed(a:Addr)(H H':Hp):Prop:=SameBut a H H'/\∃p q:Int,H' a=some (.lst [.int p,.int q])
theorem Fed.trans{a:Addr}{H c b:Hp}(h:Fed a H c)(k:Fed a c b):Fed a H b:=⟨h.1.trans k.1,k.2⟩
theorem Fed.of{a:Addr}{H:Hp}{p q:Int}:Fed a H (upd H a (.lst [.int p,.int q])):=⟨SameBut.upd a H _,p,q,ups⟩
theorem Fed.refl{a:Addr}{H:Hp}{p q:Int}(h:H a=some (.lst [.int p,.int q])):Fed a H H:=⟨SameBut.refl a H,p,q,h⟩
theorem Fed.same{a:Addr}{H c b:Hp}(h:Fed a H c)(s:Same c b):Fed a H b:=by
 obtain⟨k,p,q,e⟩:=h;exact⟨k.trans s.but,p,q,s _ _ e⟩
theorem Fed.back{a:Addr}{H H0 H':Hp}(n:H a=none)(s:Same H H0)(h:Fed a H0 H'):Same H H':=λb o e=>h.1 b o (s b o e) (neN e n)
theorem deftx_mk {K:Fg} {h:Heap} {n:Str->Option Value} (X:K.In h) (G:h.Ns mainGlobals n) {x:Str} {st:Stmt} {ps:List Str} {f:Addr} {o:Value} {od j:Option Addr} {m:Array (Option Value)} {kV g i e ct:Value}
  (a:PySem.W.nsIn K mainGlobals x=some (some (.ref f))) (l:K.lookup f=some ⟨o,od,.func (PySem.W.fnOf x x (xfj st) (xd4 st) (xae st) .none kV g i j e ct),m⟩)
  (c:PySem.W.codeIn K e x=true) (k:PySem.W.keepIn K (.ref f)=true)
  (b:∀(kV g i:Value) (j:Option Addr) (e ct:Value) (us:List Value),us.length=ps.length->bindArgs (PySem.W.fnOf x x (xfj st) (xd4 st) (xae st) .none kV g i j e ct) ⟨us,[]⟩=pure (ps.zip us)):DefTx K n x st ps:=by
 have F:=xu0 (st:=st) l c k;exact⟨f,_,F,PySem.W.mg_of X G a,b kV g i j e ct⟩
theorem law_top {P:Program} {w:World} {K:Fg} {mg:Str->Option Value} {n:Nat} {x y:Str} {st:Stmt} {sp:Sp} {fa:Addr} (T:DefTx K mg x st [y]) (hmg:mg x=some (.ref fa)) (D:∀base,DefIs P w K mg base n x [y] sp) :
  ∃fd:FuncData,(∀(s:Shared) (u:Value),BindsTo s fd ⟨[u],[]⟩ [(y,u)])/\∀base:Heap,K.In base->base.Ns mainGlobals mg->FnOk P w K mg base CX0 n fa fd [y] sp:=by
 obtain⟨f,fd,F,m,b⟩:=T.ex;rw[hmg]at m;cases m;refine⟨fd,λs u=>.of_eq (b [u] rfl),λbase _ _=>?_⟩;obtain⟨f',fd',G,_,_,m',oc,od,osl,l⟩:=(D base).ex;rw[hmg]at m';cases m';obtain⟨oc2,od2,osl2,l2⟩:=xli F;rw[l]at l2;cases l2;exact G
theorem gint_mk{K:Fg}{h:Heap}{b:Str->Option Value}(X:K.In h)(G:h.Ns mainGlobals b){x:Str}{i:Int}{t:Tok}(a:PySem.W.nsIn K mainGlobals x=some (some (.int i t))):∃t,b x=some (.int i t):=⟨t,PySem.W.mg_of X G a⟩
end L2
end
section
namespace Zt
open PySem
section
variable {prog:Program}{w:World}{A:Around}{E:Value->Shared->Prop}{s:Shared}
theorem xk0 {it l:Addr} {i:Nat} {items} {x:Value} {Q:Value->Shared->Prop} (a:s.heap.IsTupleIter it l i)
  (h:s.heap.IsTuple l items) (g:items[i]?=some x)
  (m:∀h',h'.IsTupleIter it l (i+1)->Heap.SameBut it s.heap h'->Q x {s with heap:=h'}) :
  wpAny (model prog w) A (Builtin.SmallTypes.nextOf (.ref it)) Q E s:=by
 obtain⟨o,c,j,b⟩:=id a;obtain⟨n,e,_,p,f⟩:=h;unfold Builtin.SmallTypes.nextOf
 refine zE (wpAny_callSpecial?_slot (name:=Str.ofString "__next__") a.typeIs F.slot_tuple_iterator_next
  (wpAny_call_entry F.slot_tuple_iterator_next a.typeIs F.entry_tuple_iterator_next ?_ (F.args_tuple_iterator_next_1 _)))
 show wpAny _ _ (field (.ref it) 0 >>= _) _ _ s;refine zE (zU c b (x:=.ref l) rfl ?_);show wpAny _ _ (if (Value.ref l == Value.none)=true then _ else _) _ _ s;rw[if_neg (show ¬((Value.ref l == Value.none)=true) from zL)];show wpAny _ _ (field (.ref it) 1 >>= _) _ _ s;refine zE (zU c b (x:=.int i 0) rfl ?_);show wpAny _ _ (seqItems? (.ref l) >>= _) _ _ s;refine zE (wpAny_seqItems e f ?_);simp only[Int.toNat_natCast,g];refine zE (qF c b (by simp) (zI ⟨x,rfl,zI (m _ ?_ (Heap.SameBut.update ..))⟩))
 exact⟨_,Heap.get?_update_self _ c (Obj.isFreed_of_fields (Obj.data_mapFields b _)),(Obj.cls_mapFields ..).trans j,by
  rw[Obj.data_mapFields b];simp[rawInt]⟩
theorem xth {it l:Addr} {i:Nat} {items} {Q:Value->Shared->Prop} (j:A.handled=none)
  (b:s.heap.IsTupleIter it l i) (p:s.heap.IsTuple l items) (n:items[i]?=none)
  (r:∀h' e,Heap.ExtBut it s.heap h'->(∃o,h'.get? e=some o/\o.cls=.type "StopIteration")->E (.ref e) {s with heap:=h'}) :
  wpAny (model prog w) A (Builtin.SmallTypes.nextOf (.ref it)) Q E s:=by
 obtain⟨o,f,z,h⟩:=id b;obtain⟨u,c,_,y,g⟩:=p;unfold Builtin.SmallTypes.nextOf
 refine zE (wpAny_callSpecial?_slot (name:=Str.ofString "__next__") b.typeIs F.slot_tuple_iterator_next
  (wpAny_call_entry F.slot_tuple_iterator_next b.typeIs F.entry_tuple_iterator_next ?_ (F.args_tuple_iterator_next_1 _)))
 show wpAny _ _ (field (.ref it) 0 >>= _) _ _ s;refine zE (zU f h (x:=.ref l) rfl ?_);show wpAny _ _ (if (Value.ref l == Value.none)=true then _ else _) _ _ s;rw[if_neg (show ¬((Value.ref l == Value.none)=true) from zL)];show wpAny _ _ (field (.ref it) 1 >>= _) _ _ s;refine zE (zU f h (x:=.int i 0) rfl ?_);show wpAny _ _ (seqItems? (.ref l) >>= _) _ _ s;refine zE (wpAny_seqItems c g ?_);simp only[Int.toNat_natCast,n];refine zE (wpAny_rule (zE (qF f h (by simp) ?_)));show wpAny _ _ (newExc (.type "StopIteration") [] >>= _) _ _ _;refine zE ?_;simp only[newExc,newTuple];refine zE (wpAny_newObj_type ?_ (by size_fits));refine zE (m:=firstArgMember _ _) (wpAny_of_eq (a:=Value.none) (by first |rfl |(simp only[firstArgMember];rfl)) ?_);refine wpAny_newObj_type ?_ (by size_fits);simp only[raiseNew];refine zE (wpAny_handled ?_)
 first |rw[show A.in1.handled=none from j] |rw[j]
 refine zE (zI (wpAny_throw ?_));exact r _ _ (((Heap.SameBut.update ..).extBut.push _).push _) ⟨_,zK _ rfl,rfl⟩
abbrev xu8(h:Heap)(z TI TO:Addr)(f0 f1:Value):Prop:=
 h.get? z=some {cls:=.type "zip",dict:=none,data:=.fields #[f0,f1,.bool false,.ref TI,.ref TO],slots:=#[]}
def Free(h:Heap)(z TI TO:Addr):Prop:=xu8 h z TI TO .none (.bool false)\/∃(T:Addr) (b:Bool) (o:Obj),xu8 h z TI TO (rawInt T) (.bool b)/\h.get? T=some o/\T≠z
structure Zs(h:Heap)(z TI TO i1 i2 l1 l2:Addr)(xs ys:Array Value)(k:Nat):Prop where
 zip:Free h z TI TO
 ti:IsPair h TI (.ref i1) (.ref i2)
 to:∃a b,IsPair h TO a b
 it1:h.IsTupleIter i1 l1 k
 it2:h.IsTupleIter i2 l2 k
 t1:h.IsTuple l1 xs
 t2:h.IsTuple l2 ys
structure Nx(prog:Program)(w:World)(it l:Addr)(xs:Array Value)(P:Heap->Nat->Prop):Prop where
 item:∀{A:Around} {E:Value->Shared->Prop} {s:Shared} {Q:Value->Shared->Prop} {i:Nat} {x:Value},P s.heap i->xs[i]?=some x->(∀h',P h' (i+1)->Heap.SameBut it s.heap h'->Q x {s with heap:=h'})->wpAny (model prog w) A (Builtin.SmallTypes.nextOf (.ref it)) Q E s
 last:∀{A:Around} {E:Value->Shared->Prop} {s:Shared} {Q:Value->Shared->Prop} {i:Nat},A.handled=none->P s.heap i->xs[i]?=none->(∀h' e,Heap.ExtBut it s.heap h'->(∃o,h'.get? e=some o/\o.cls=.type "StopIteration")->E (.ref e) {s with heap:=h'})->wpAny (model prog w) A (Builtin.SmallTypes.nextOf (.ref it)) Q E s
 kept:∀{h h':Heap} {i:Nat},P h i->(∀o,h.get? it=some o->h'.get? it=some o)->(∀o,h.get? l=some o->h'.get? l=some o)->P h' i
 there:∀{h:Heap} {i:Nat},P h i->∃o,h.get? it=some o
theorem Nx.ext{it l a:Addr}{xs:Array Value}{P:Heap->Nat->Prop}(N:Nx prog w it l xs P){h h':Heap}{i:Nat}(p:P h i)(e:Heap.ExtBut a h h')(c:it≠a)(b:l≠a):P h' i:=N.kept p (λo q=>e _ _ c q) λo q=>e _ _ b q
structure Zg(P1:Heap->Nat->Prop)(h:Heap)(z TI TO i1 i2 l2:Addr)(ys:Array Value)(k:Nat):Prop where
 zip:Free h z TI TO
 ti:IsPair h TI (.ref i1) (.ref i2)
 to:∃a b,IsPair h TO a b
 p1:P1 h k
 it2:h.IsTupleIter i2 l2 k
 t2:h.IsTuple l2 ys
theorem xy5 {P1:Heap->Nat->Prop} {z TI TO U r l1 Z:Addr} {k1 k2:Nat} {xs ys:Array Value} {x y a b:Value} {Q:Value->Shared->Prop} (D:ZipApart z TI TO U r l1 Z)
  (hz:IsZip s.heap z TI TO .none) (a7:IsPair s.heap TI (.ref U) (.ref r)) (a6:IsPair s.heap TO a b)
  (Y:Nx prog w U l1 xs P1) (h1:P1 s.heap k1) (h2:s.heap.IsTupleIter r Z k2) (a4:s.heap.IsTuple Z ys) (hx:xs[k1]?=some x) (hy:ys[k2]?=some y)
  (hQ:∀h',IsZip h' z TI TO (rawInt s.heap.objs.size)->IsPair h' TO x y->P1 h' (k1+1)->h'.IsTupleIter r Z (k2+1)->IsPair h' s.heap.objs.size x y->h'.objs.size=s.heap.objs.size+1->
   (∀c o,c≠z->c≠TO->c≠U->c≠r->s.heap.get? c=some o->h'.get? c=some o)->Q (.ref s.heap.objs.size) {s with heap:=h'}) :
  wpAny (model prog w) A (Builtin.«zip.__next__» ⟨[.ref z],[]⟩) (λfin s'=>∃v,fin=.done (.ret v)/\Q v s') E s:=by
 show wpAny _ _ (field (.ref z) 2 >>= _) _ _ _;refine zE (zU hz rfl (x:=.bool false) rfl ?_);show wpAny _ _ (field (.ref z) 3 >>= _) _ _ _;refine zE (zU hz rfl (x:=.ref TI) rfl ?_);refine zE (wpAny_seqItems a7 rfl ?_);show wpAny _ _ (Builtin.SmallTypes.ownedTupleIsFree (.ref z) >>= _) _ _ _;refine zE ?_;unfold Builtin.SmallTypes.ownedTupleIsFree;refine zE (zU hz rfl (x:=.none) rfl (zI ?_));simp only[if_true];refine zE (wpAny_rule ?_);refine zE (zU hz rfl (x:=.ref TO) rfl ?_);refine zE (wpAny_setField_rec hz (by simp) λh₁ I j=>?_)
 replace I:IsZip h₁ z TI TO .ellipsis:=I
 refine zE ?_;simp only[List.zipIdx_cons,List.zipIdx_nil,List.forIn_cons,List.forIn_nil];refine zE (zE (wpAny_onRaise ?_));show wpAny _ _ (Builtin.SmallTypes.nextOf (.ref U) >>= _) _ _ _;refine zE (Y.item (Y.ext h1 j.extBut D.i1z D.l1z) hx λh₂ ab i=>zI ?_);have F:IsPair h₂ TO a b:=i.extBut _ _ D.TOi1 (j.extBut _ _ D.TOz a6);refine zE (wpAny_seqItems F rfl ?_);refine zE (wpAny_updateSeq_pair F λh₃ n h=>?_)
 replace n:IsPair h₃ TO x b:=n
 refine zE (wpAny_letGo (zI ?_));refine zE (zE (wpAny_onRaise ?_));show wpAny _ _ (Builtin.SmallTypes.nextOf (.ref r) >>= _) _ _ _
 refine zE (xk0 (((h2.extBut j.extBut D.i2z).extBut i.extBut D.i12.symm).extBut h.extBut D.TOi2.symm)
  (((a4.extBut j.extBut D.l2z).extBut i.extBut D.l2i1).extBut h.extBut D.l2TO) hy λh₄ a9 m=>zI ?_)
 have C:IsPair h₄ TO x b:=m.extBut _ _ D.TOi2 n;refine zE (wpAny_seqItems C rfl ?_);refine zE (wpAny_updateSeq_pair C λf g l=>?_)
 replace g:IsPair f TO x y:=g
 refine zE (wpAny_letGo (zI (zI ?_)));refine zE (wpAny_seqItems g rfl ?_);refine zE (wpAny_newTuple ?_);have hsz:f.objs.size=s.heap.objs.size:=by rw[l.1,m.1,h.1,i.1,j.1]
 have a0:IsZip f z TI TO .ellipsis:=l.extBut _ _ D.TOz.symm (m.extBut _ _ D.i2z.symm (h.extBut _ _ D.TOz.symm (i.extBut _ _ D.i1z.symm I)))
 have a5:∀c o,c≠z->c≠TO->c≠U->c≠r->s.heap.get? c=some o->f.get? c=some o:=λc o O c2 c3 c4 e=>
  l.extBut _ _ c2 (m.extBut _ _ c4 (h.extBut _ _ c2 (i.extBut _ _ c3 (j.extBut _ _ O e))))
 have aa:P1 f (k1+1):=Y.ext (Y.ext (Y.ext ab h.extBut D.TOi1.symm D.l1TO) m.extBut D.i12 D.l1i2) l.extBut D.TOi1.symm D.l1TO;have a8:f.IsTupleIter r Z (k2+1):=a9.extBut l.extBut D.TOi2.symm;have u:z<f.objs.size:=zJ a0;show wpAny _ _ (Builtin.SmallTypes.ownedTupleHandOut (.ref z) (.ref f.objs.size) >>= _) _ _ _;refine zE ?_;unfold Builtin.SmallTypes.ownedTupleHandOut;have a3:IsZip (f.push {cls:=.type "tuple",data:=.seq #[x,y]}) z TI TO .ellipsis:=zPO _ a0;refine zE (wpAny_setField_rec a3 (by simp) λh₇ G M=>?_)
 replace G:IsZip h₇ z TI TO (rawInt f.objs.size):=G
 refine wpAny_setField_rec G (by simp) λh₈ p J=>?_
 replace p:IsZip h₈ z TI TO (rawInt f.objs.size):=p
 have up:∀c o,c≠z->f.get? c=some o->h₈.get? c=some o:=λc o O e=>J.extBut _ _ O (M.extBut _ _ O (zPO _ e));have a2:IsPair h₈ f.objs.size x y:=J.extBut _ _ (Nat.ne_of_gt u) (M.extBut _ _ (Nat.ne_of_gt u) (zK _ rfl));have a1:h₈.objs.size=f.objs.size+1:=by rw[J.1,M.1,Heap.size_push]
 rw[hsz]at p a2 a1;refine zI ⟨_,rfl,?_⟩;show Q (.ref f.objs.size) _;rw[hsz];exact hQ h₈ p (up _ _ D.TOz g) (Y.kept aa (λo e=>up _ o D.i1z e) λo e=>up _ o D.l1z e) (a8.at λo e=>up _ o D.i2z e) a2 a1 λc o O c2 c3 c4 e=>up c o O (a5 c o O c2 c3 c4 e)
theorem yah{a:Addr}{o:Obj}{Q:Option Obj->Shared->Prop}(b:s.heap.get? a=some o)(h:Q (some o) s):wpAny (model prog w) A (loadIfAlive a) Q E s:=by
 intro Γ p c;unfold loadIfAlive
 first
  |(rw[Sem.wp_loadIfAlive,b];exact h)
  |(simp only[Sem.wp_loadIfAlive,b];exact h)
theorem yac {P1:Heap->Nat->Prop} {z TI TO i Z Y U:Addr} {k:Nat} {xs ys:Array Value} {Q:Fin->Shared->Prop} (I:A.handled=none) (D:ZipApart z TI TO i Z Y U) (F:Nx prog w i Y xs P1) (S:Zg P1 s.heap z TI TO i Z U ys k) (G:xs[k]?=none)
  (M:∀h' e,(∀c o,c≠z->c≠i->s.heap.get? c=some o->h'.get? c=some o)->(∃o,h'.get? e=some o/\o.cls=.type "StopIteration")->E (.ref e) {s with heap:=h'}) :
  wpAny (model prog w) A (Builtin.«zip.__next__» ⟨[.ref z],[]⟩) Q E s:=by
 obtain⟨hz,u,⟨a,b,a2⟩,O,h2,a0⟩:=S;rcases hz with hz |⟨T,bb,oT,hz,hT,a1⟩
 ·show wpAny _ _ (field (.ref z) 2 >>= _) _ _ _
  refine zE (zU hz rfl (x:=.bool false) rfl ?_);show wpAny _ _ (field (.ref z) 3 >>= _) _ _ _;refine zE (zU hz rfl (x:=.ref TI) rfl ?_);refine zE (wpAny_seqItems u rfl ?_);show wpAny _ _ (Builtin.SmallTypes.ownedTupleIsFree (.ref z) >>= _) _ _ _;refine zE ?_;unfold Builtin.SmallTypes.ownedTupleIsFree;refine zE (zU hz rfl (x:=.none) rfl (zI ?_));simp only[if_true];refine zE (wpAny_rule ?_);refine zE (zU hz rfl (x:=.ref TO) rfl ?_);refine zE (wpAny_setField_rec hz (by simp) λh₁ h g=>?_)
  replace h:IsZip h₁ z TI TO .ellipsis:=h
  refine zE ?_;simp only[List.zipIdx_cons,List.zipIdx_nil,List.forIn_cons,List.forIn_nil];refine zE (zE (wpAny_onRaise ?_));show wpAny _ _ (Builtin.SmallTypes.nextOf (.ref i) >>= _) _ _ _;refine zE (F.last I (F.ext O g.extBut D.i1z D.l1z) G λl e f p=>?_);obtain⟨oe,j,r⟩:=p;have m:IsZip l z TI TO .ellipsis:=f _ _ D.i1z.symm h;have J:e≠z:=λx=>by subst x;rw[m]at j;cases j;simp at r
  refine wpAny_setField_rec m (by simp) λh₃ _ n=>M h₃ e (λc o C y x=>n.extBut _ _ C (f _ _ y (g.extBut _ _ C x))) ⟨oe,n.extBut _ _ J j,r⟩
 ·show wpAny _ _ (field (.ref z) 2 >>= _) _ _ _
  refine zE (zU hz rfl (x:=.bool false) rfl ?_);show wpAny _ _ (field (.ref z) 3 >>= _) _ _ _;refine zE (zU hz rfl (x:=.ref TI) rfl ?_);refine zE (wpAny_seqItems u rfl ?_);show wpAny _ _ (Builtin.SmallTypes.ownedTupleIsFree (.ref z) >>= _) _ _ _;refine zE ?_;unfold Builtin.SmallTypes.ownedTupleIsFree;refine zE (zU hz rfl (x:=rawInt T) rfl ?_);show wpAny _ _ (loadIfAlive ((T:Int).toNat) >>= _) _ _ _;rw[Int.toNat_natCast];refine zE (yah hT ?_);simp only[Option.isNone_some,Bool.false_eq_true,if_false];refine zE (zU hz rfl (x:=.bool bb) rfl ?_)
  cases bb with
  |true=>
   simp only[bne_self_eq_false,Bool.false_eq_true,if_false];refine zI ?_;simp only[Bool.false_eq_true,if_false,List.forIn_toArray,List.forIn_cons,List.forIn_nil];refine zE (zE (zE (zV ?_)));show wpAny _ _ (Builtin.SmallTypes.nextOf (.ref i) >>= _) _ _ _;exact zE (F.last I O G λl e f p=>M l e (λc o C y x=>f _ _ y x) p)
  |false=>
   rw[if_pos (by rfl)];refine zE (wpAny_setField_rec hz (by simp) λh₁ h g=>?_);refine zI ?_;simp only[Bool.false_eq_true,if_false,List.forIn_toArray,List.forIn_cons,List.forIn_nil];refine zE (zE (zE (zV ?_)));show wpAny _ _ (Builtin.SmallTypes.nextOf (.ref i) >>= _) _ _ _;exact zE (F.last I (F.ext O g.extBut D.i1z D.l1z) G λl e f p=>M l e (λc o C y x=>f _ _ y (g.extBut _ _ C x)) p)
theorem gEnd {j:Heap->Nat->Prop} {z TI TO a h g f:Addr} {k:Nat} {xs ys:Array Value} {Q:Option Value->Shared->Prop} (p:A.handled=none) (D:ZipApart z TI TO a h g f) (y:Nx prog w a g xs j) (S:Zg j s.heap z TI TO a h f ys k) (l:xs[k]?=none)
  (x:∀h',(∀c o,c≠z->c≠a->s.heap.get? c=some o->h'.get? c=some o)->Q none {s with heap:=h'}):wpAny (model prog w) A (pyNext (.ref z)) Q E s:=by
 have i:s.TypeIs (.ref z) "zip":=by
  rcases S.zip with hz |⟨T,G,C,hz,_⟩ <;> exact⟨_,hz,rfl⟩
 unfold pyNext
 refine zE (wpAny_attempt (wpAny_callSpecial?_slot (name:=Str.ofString "__next__") i F.slot_zip_next
  (wpAny_call_entry F.slot_zip_next i F.entry_zip_next (yac p D y S l λh' e n r=>?_) (F.args_zip_next_1 _))))
 obtain⟨o,m,u⟩:=r;refine zE (wpAny_isInstance (T:="StopIteration") (b:=true) ⟨o,m,u⟩ isSubtype_stop ?_);exact zI (x _ n)
theorem nxT{it l:Addr}{xs:Array Value}(f:l≠it):Nx prog w it l xs λh k=>h.IsTupleIter it l k/\h.IsTuple l xs where
 item:=λp c i=>xk0 p.1 p.2 c λh' a s=>i h' ⟨a,p.2.extBut s.extBut f⟩ s
 last:=λg p c j=>xth g p.1 p.2 c j
 kept:=λp a b=>⟨p.1.at a,p.2.at b⟩
 there:=λp=>by obtain⟨o,e,_⟩:=p.1;exact⟨o,e⟩
theorem item_first {z TI TO f e h g:Addr} {j i:Nat} {xs ys:Array Value} {x y a b:Value} {Q:Value->Shared->Prop} (D:ZipApart z TI TO f e h g)
  (hz:IsZip s.heap z TI TO .none) (p:IsPair s.heap TI (.ref f) (.ref e)) (n:IsPair s.heap TO a b)
  (I:s.heap.IsTupleIter f h j) (G:s.heap.IsTupleIter e g i) (m:s.heap.IsTuple h xs) (l:s.heap.IsTuple g ys) (C:xs[j]?=some x) (u:ys[i]?=some y)
  (F:∀h',IsZip h' z TI TO (rawInt s.heap.objs.size)->IsPair h' TO x y->h'.IsTupleIter f h (j+1)->h'.IsTupleIter e g (i+1)->IsPair h' s.heap.objs.size x y->h'.objs.size=s.heap.objs.size+1->
   (∀c o,c≠z->c≠TO->c≠f->c≠e->s.heap.get? c=some o->h'.get? c=some o)->Q (.ref s.heap.objs.size) {s with heap:=h'}) :
  wpAny (model prog w) A (Builtin.«zip.__next__» ⟨[.ref z],[]⟩) (λfin r=>∃v,fin=.done (.ret v)/\Q v r) E s:=xy5 D hz p n (nxT D.l1i1) ⟨I,m⟩ G l C u λh' b1 Z Y U O M J=>F h' b1 Z Y.1 U O M J
theorem pyNext_end {z TI TO a f e b:Addr} {k:Nat} {xs ys:Array Value} {Q:Option Value->Shared->Prop} (h:A.handled=none) (D:ZipApart z TI TO a f e b) (S:Zs s.heap z TI TO a f e b xs ys k) (g:xs[k]?=none)
  (i:∀h',(∀c o,c≠z->c≠a->s.heap.get? c=some o->h'.get? c=some o)->Q none {s with heap:=h'}):wpAny (model prog w) A (pyNext (.ref z)) Q E s:=gEnd h D (nxT D.l1i1) ⟨S.zip,S.ti,S.to,⟨S.it1,S.t1⟩,S.it2,S.t2⟩ g i
end
abbrev zH1(h:Heap)(l1:Addr):Heap:=h.push {cls:=.type "tuple_iterator",data:=.fields #[.ref l1,.int 0 0]}
abbrev zH2(h:Heap)(l1 l2:Addr):Heap:=(zH1 h l1).push {cls:=.type "tuple_iterator",data:=.fields #[.ref l2,.int 0 0]}
abbrev zH3(h:Heap)(l1 l2:Addr):Heap:=(zH2 h l1 l2).push {cls:=.type "tuple",data:=.seq #[.ref h.objs.size,.ref (zH1 h l1).objs.size]}
abbrev zH4(h:Heap)(l1 l2:Addr):Heap:=(zH3 h l1 l2).push {cls:=.type "tuple",data:=.seq #[.none,.none]}
abbrev zH5(h:Heap)(l1 l2:Addr):Heap:=(zH4 h l1 l2).push {cls:=.type "zip",data:=.fields #[.none,.bool false,.bool false,.ref (zH2 h l1 l2).objs.size,.ref (zH3 h l1 l2).objs.size]}
theorem xra (a b:Addr) (xs ys:Array Value) :
  Meets (Builtin.«zip.__new__» ⟨[.type "zip",.ref a,.ref b],[]⟩) (λ_ R s=>s.heap.IsTuple a xs/\s.heap.IsTuple b ys ∧
   R (.ok (.ret (.ref (zH4 s.heap a b).objs.size))) {s with heap:=zH5 s.heap a b}):=
 .of_wp λprog w A R s h=>by
  obtain⟨n,g,d,j,l⟩:=s;obtain⟨e,c,h⟩:=h;have m:=sub_zip;have i:Heap.IsTuple (Shared.heap ⟨n,g,d,j,l⟩) a xs:=e;have f:Heap.IsTuple (Shared.heap ⟨n.push {cls:=.type "tuple_iterator",data:=.fields #[.ref a,.int 0 0]},g,d,j,l⟩) b ys:=Heap.IsTuple.push c _
  wp_walk using wpAny_pyIter_tuple i,wpAny_pyIter_tuple f
  exact⟨_,rfl,h⟩
end Zt
end
section
namespace L2
open PySem PySem.Spec PyProof.Rows
abbrev TJ:=St->Hp->Str->VK->Prop
def PJ(X:Cx)(es:List Expr)(t:TJ):Prop:=
 ∀(pins:List (Addr×Obj)) (s:Shared) (σ:St) (H:Hp) (out:Str) (Q:VK),Inv X pins σ H s->t σ H out Q->wpAny (model X.prog X.w) X.A (joinParts out (evalEach es X.env)) (EP X pins σ Q) X.xe s
def jNil:TJ:=λ_ H out Q=>out.length<=sizeLine/\Q (.str out) H
def jLit(x:Str)(t:TJ):TJ:=λσ H out Q=>(out++x).length<=sizeLine/\t σ H (out++x) Q
def jStr(te:TE)(t:TJ):TJ:=λσ H out Q=>te σ H λv H1=>∃x,v=.str x/\x.length<=sizeLine/\(out++x).length<=sizeLine/\t σ H1 (out++x) Q
def jInt(te:TE)(t:TJ):TJ:=λσ H out Q=>te σ H λv H1=>∃i:Int,v=.int i/\i.natAbs.log2<1920/\(out++Str.ofString (toString i)).length<=sizeLine/\t σ H1 (out++Str.ofString (toString i)) Q
section
variable {X:Cx}{e e1 e2:Expr}{es:List Expr}{te:TE}{t:TJ}{pos:Pos}
theorem xdm:PJ X [] jNil:=λ_ _ _ H out _ I h=>joinParts_nilE (joinParts_nil ⟨.str out,H,I.tok _,⟨_,rfl⟩,h.2⟩ h.1)
theorem xb0{x:Str}{j}(h:PJ X es t):PJ X (.Constant (.str x) j pos::es) (jLit x t):=by
 intro a s σ H out Q I b;refine joinParts_consE (joinParts_cons (thn (pS (X:=X) a s σ H (λv i=>v=.str x/\i=H) I ⟨rfl,rfl⟩) λv c ⟨z,l,g,r,f,e⟩=>?_));subst f e;obtain⟨t',rfl⟩:=r;exact⟨b.1,h a c σ _ _ Q g b.2⟩
theorem xcz(j:PE X e c)(h:PJ X es t):PJ X (.FormattedValue e (-1) none pos::es) (jStr c t):=by
 intro a s σ H out Q I g;refine joinParts_consE (joinParts_cons (FormattedValue_plain (thn (j a s σ H _ I g) λv n ⟨z,m,l,r,x,e,hz,i,q⟩=>?_)));subst e;obtain⟨t',rfl⟩:=r;exact formatField_str (λf b=>⟨i,h a _ σ m _ Q (l.tok b) q⟩) hz
theorem xum(g:PE X e b)(h:PJ X es t):PJ X (.FormattedValue e (-1) none pos::es) (jInt b t):=by
 intro a s σ H out Q I c;refine joinParts_consE (joinParts_cons (FormattedValue_plain (thn (g a s σ H _ I c) λv m ⟨z,l,j,r,i,e,hz,f,q⟩=>?_)));subst e;obtain⟨t',rfl⟩:=r;exact formatField_int_small hz ⟨f,h a _ σ l _ Q (j.tok _) q⟩
theorem xcr(h:PJ X (e::c::es) t):PE X (.JoinedStr (e::c::es) pos) (λσ H Q=>t σ H Str.empty Q):=λa s σ H Q I b=>JoinedStr_many (h a s σ H _ Q I b)
end
section
variable {es:List Expr}{env:Env}
theorem zso{c k p}:starEach (.Constant c k p::es) env=(false,eval (.Constant c k p) env)::starEach es env:=rfl
theorem zsn{x p}:starEach (.Name x p::es) env=(false,eval (.Name x p) env)::starEach es env:=rfl
theorem zsc{a b c d}:starEach (.Call a b c d::es) env=(false,eval (.Call a b c d) env)::starEach es env:=rfl
theorem xa8{a b c d}:starEach (.BinOp a b c d::es) env=(false,eval (.BinOp a b c d) env)::starEach es env:=rfl
theorem zss{a b c}:starEach (.Subscript a b c::es) env=(false,eval (.Subscript a b c) env)::starEach es env:=rfl
theorem sT{a b c}:starEach (.Tuple a b c::es) env=(false,eval (.Tuple a b c) env)::starEach es env:=rfl
theorem xsx{a b}:starEach (.List a b::es) env=(false,eval (.List a b) env)::starEach es env:=rfl
theorem xfm{a b c d}:starEach (.Compare a b c d::es) env=(false,eval (.Compare a b c d) env)::starEach es env:=rfl
theorem xpl{a b c}:starEach (.BoolOp a b c::es) env=(false,eval (.BoolOp a b c) env)::starEach es env:=rfl
theorem xbr{a b}:starEach (.JoinedStr a b::es) env=(false,eval (.JoinedStr a b) env)::starEach es env:=rfl
theorem xdh{a b c d}:starEach (.ListComp a b c d::es) env=(false,eval (.ListComp a b c d) env)::starEach es env:=rfl
end
def str1:Expr->Option Str
 |.Constant (.str x) _ _=>some x
 |_=>none
def xh8:List Expr->Option (List Str)
 |[]=>some []
 |e::es=>(str1 e).bind λx=>(xh8 es).map (x::·)
theorem xvl{e:Expr}{x:Str}(h:str1 e=some x):∃j p,e=.Constant (.str x) j p:=by
 unfold str1 at h;split at h
 ·cases h;exact⟨_,_,rfl⟩
 ·cases h
def xzn(xs:List Str):TA:=λ_ H Q=>Q (xs.map V.str) H
theorem xyg{X:Cx}{es:List Expr}{t t':TA}(h:PA X es t)(i:∀σ H Q,t' σ H Q->t σ H Q):PA X es t':=λpos a s σ H Q I b=>h pos a s σ H Q I (i σ H Q b)
theorem xqr{X:Cx}:∀{es:List Expr} (xs:List Str),xh8 es=some xs->PA X es (xzn xs)
 |[],xs,h=>by
  cases h;exact pN
 | e::es,xs,h=>by
  cases a:str1 e with
  |none=>rw[xh8,a]at h;cases h
  | some x=>
   cases b:xh8 es with
   |none=>rw[xh8,a,b]at h;cases h
   |some ys=>
    rw[xh8,a,b]at h;cases h;obtain⟨j,p,rfl⟩:=xvl a;exact xyg (zpc (pS (x:=x) (j:=j) (pos:=p)) (xqr (X:=X) ys b) zso) λσ H Q c=>c
end L2
end
section
namespace M
open PySem
inductive D where
 |int (i:Int)
 |str (x:Str)
 |tup (ds:List D)
inductive All2{α β:Type}(R:α->β->Prop):List α->List β->Prop where
 |nil:All2 R [] []
 |cons {a b as bs} (h:R a b) (t:All2 R as bs):All2 R (a::as) (b::bs)
theorem All2.length{α β:Type}{R:α->β->Prop}{as:List α}{bs:List β}(h:All2 R as bs):as.length=bs.length:=by
 induction h with
 |nil=>rfl
 |cons _ _ a=>simp[a]
theorem All2.imp{α β:Type}{R S:α->β->Prop}{as:List α}{bs:List β}(h:All2 R as bs)(f:∀a b,R a b->S a b):All2 S as bs:=by
 induction h with
 |nil=>exact .nil
 |cons h _ c=>exact .cons (f _ _ h) c
def S(s:String):Str:=Str.ofString s
def xfz(c:Nat):Bool:=97<=c && c<=122
def xov(x:List Nat):Bool:=1<=x.length && x.length<=6 && x.all xfz && x != [110,117,109] && x != [105,116]
def Name(x:Str):Prop:=xov x.cps.toList=true
theorem Name.le{x:Str}(h:Name x):x.cps.toList.length<=6:=by
 unfold Name xov at h;simp only[Bool.and_eq_true,decide_eq_true_eq]at h;exact h.1.1.1.2
def numS(n:Int):Str:=Str.ofString (toString n)
theorem xq1(m:Nat):(numS (m:Int)).cps.toList=(Nat.toDigits 10 m).map Char.toNat:=by
 unfold numS;rw[Str.ofString_eq_toList];show(Nat.repr m).toList.map Char.toNat=_;rw[Nat.toList_repr]
def L(x:Str):List Nat:=x.cps.toList
def ofL(l:List Nat):Str:=⟨l.toArray⟩
theorem xej(l:List Nat):L (ofL l)=l:=rfl
theorem xym(x:Str):ofL (L x)=x:=by
 cases x;rfl
theorem xso{x y:Str}(h:L x=L y):x=y:=by
 rw[<- xym x,<- xym y,h]
theorem xe3(x y:Str):L (x++y)=L x++L y:=by
 show(x.cps++y.cps).toList=_;simp[L]
theorem xf6(x:Str):(L x).length=x.length:=by
 simp[L,Str.length]
end M
end
section
namespace M
open PySem L2
mutual
def RelD(H:Hp):V->D->Prop
 |v,.int i=>v=.int i
 |v,.str x=>v=.str x
 |v,.tup ds=>∃a vs,v=.ref a/\H a=some (.tup vs)/\RelDs H vs ds
def RelDs(H:Hp):List V->List D->Prop
 |vs,[]=>vs=[]
 |vs,d::ds=>∃v r,vs=v::r/\RelD H v d/\RelDs H r ds
end
mutual
theorem RelD.same{H H':Hp}(s:Same H H'):∀{v:V} (d:D),RelD H v d->RelD H' v d
 |v,.int i,h=>h
 |v,.str x,h=>h
 |v,.tup ds,⟨a,vs,e,ha,h⟩=>⟨a,vs,e,s _ _ ha,RelDs.same s ds h⟩
theorem RelDs.same{H H':Hp}(s:Same H H'):∀{vs:List V} (ds:List D),RelDs H vs ds->RelDs H' vs ds
 |vs,[],h=>h
 |vs,d::ds,⟨v,r,e,h1,h2⟩=>⟨v,r,e,RelD.same s d h1,RelDs.same s ds h2⟩
end
theorem RelDs.length{H:Hp}:∀{vs:List V} {ds:List D},RelDs H vs ds->vs.length=ds.length
 |vs,[],h=>by rw[show vs=[] from h];rfl
 |vs,d::ds,⟨v,r,e,_,a⟩=>by rw[e,List.length_cons,List.length_cons,RelDs.length a]
theorem RelDs.append{H:Hp}:∀{vs us:List V} {ds es:List D},RelDs H vs ds->RelDs H us es->RelDs H (vs++us) (ds++es)
 |vs,us,[],es,h,k=>by rw[show vs=[] from h];exact k
 |vs,us,d::ds,es,⟨v,r,e,b,a⟩,k=>by subst e;exact⟨v,r++us,rfl,b,RelDs.append a k⟩
theorem RelDs.get{H:Hp}:∀{vs:List V} {ds:List D} {i:Nat} {v:V},RelDs H vs ds->vs[i]?=some v->∃d,ds[i]?=some d/\RelD H v d
 |vs,[],i,v,h,e=>by rw[show vs=[] from h]at e;simp at e
 |vs,d::ds,0,v,⟨u,r,a,g,_⟩,e=>by
  subst a;simp at e;subst e;exact⟨d,rfl,g⟩
 |vs,d::ds,i+1,v,⟨u,r,a,_,f⟩,e=>by
  subst a;obtain⟨x,b,c⟩:=RelDs.get (i:=i) (v:=v) f (by simpa using e);exact⟨x,by simpa using b,c⟩
theorem iteKF{c A B:Prop}[Decidable c](h:decide c=false)(b:B):if decide c=true then A else B:=by
 rw[h];exact b
theorem iteKT{c A B:Prop}[Decidable c](h:decide c=true)(a:A):if decide c=true then A else B:=by
 rw[h];exact a
theorem xrq{c:Bool}{A B:Prop}(h:c=false)(b:B):if c=true then A else B:=by
 rw[h];exact b
mutual
theorem RelD.tups{H H':Hp}(s:∀b vs,H b=some (.tup vs)->H' b=some (.tup vs)):∀{v:V} (d:D),RelD H v d->RelD H' v d
 |v,.int i,h=>h
 |v,.str x,h=>h
 |v,.tup ds,⟨a,vs,e,ha,h⟩=>⟨a,vs,e,s _ _ ha,RelDs.tups s ds h⟩
theorem RelDs.tups{H H':Hp}(s:∀b vs,H b=some (.tup vs)->H' b=some (.tup vs)):∀{vs:List V} (ds:List D),RelDs H vs ds->RelDs H' vs ds
 |vs,[],h=>h
 |vs,d::ds,⟨v,r,e,h1,h2⟩=>⟨v,r,e,RelD.tups s d h1,RelDs.tups s ds h2⟩
end
theorem xah{a:Addr}{H c:Hp}(g:∃p q:Int,H a=some (.lst [.int p,.int q]))(f:Fed a H c):∀b vs,H b=some (.tup vs)->c b=some (.tup vs):=λb vs e=>f.1 b _ e λz=>by
 obtain⟨p,q,h⟩:=g;rw[z,h]at e;cases e
def xdz(c:Nat):Str:=⟨#[c]⟩
theorem xld:∀cs:List Nat,Txt.join (S "") (cs.map xdz)=ofL cs:=by
 have h:∀cs:List Nat,L (Str.join (S "") (cs.map xdz))=cs:=by
  intro cs
  induction cs with
  |nil=>rfl
  | cons c r a=>
   cases r with
   |nil=>rfl
   |cons d r=>
    show L (xdz c++S ""++Str.join (S "") ((d::r).map xdz))=_;rw[xe3,xe3,a];have e:L (S "")=[]:=by walk_at"k"
    rw[e];rfl
 intro cs;apply xso;show L (Builtin.Str.glued (S "") (cs.map xdz))=cs;rw[StrLaws.glued_eq_join,h]
theorem xl1(cs:List Nat):((cs.map xdz).map (·.length)).sum=cs.length:=by
 induction cs with
 |nil=>rfl
 |cons c r a=>
  show(xdz c).length+((r.map xdz).map (·.length)).sum=r.length+1;rw[a,show(xdz c).length=1 from rfl];omega
theorem xn8{α:Type}{cs:List α}{r:Int}(h0:0<=r)(h:r<(cs.length:Int)):∃c∈cs,atI cs r=some c:=by
 have a:r.toNat<cs.length:=by omega
 have b:r=((r.toNat:Nat):Int):=by omega
 refine⟨cs[r.toNat],zZ a,?_⟩;have q:atI cs ((r.toNat:Nat):Int)=some cs[r.toNat]:=xar (zGA a);rw[<- b]at q;exact q
end M
end
section
namespace L2
open PySem PySem.Spec PyProof.Rows
section
variable {κ:Type}[DecidableEq κ]
def valV(kvs:List (κ×V))(k:κ):Option V:=(kvs.find? λkv=>decide (kv.1=k)).map (·.2)
def putK(kvs:List (κ×V))(k:κ)(v:V):List (κ×V):=
 if (kvs.any λkv=>decide (kv.1=k))=true then kvs.map (λkv=>if kv.1=k then (kv.1,v) else kv) else kvs++[(k,v)]
theorem xc0{p:κ×V}{r:List (κ×V)}{k:κ}(e:p.1=k):valV (p::r) k=some p.2:=by simp[valV,List.find?_cons,e]
theorem xc1{p:κ×V}{r:List (κ×V)}{k:κ}(e:¬p.1=k):valV (p::r) k=valV r k:=by simp[valV,List.find?_cons,e]
theorem xeq(k:κ):∀kvs:List (κ×V),(kvs.any λkv=>decide (kv.1=k))=(valV kvs k).isSome
 |[]=>rfl
 |p::r=>by
  rw[List.any_cons];by_cases e:p.1=k
  ·simp only[xc0 e,zDT e,Bool.true_or,Option.isSome_some]
  ·rw[xc1 e,zDF e,Bool.false_or];exact xeq k r
theorem xm6(k j:κ)(y:V):∀kvs:List (κ×V),valV (kvs.map λkv=>if kv.1=k then (kv.1,y) else kv) j=(valV kvs j).map λx=>if j=k then y else x
 |[]=>rfl
 | p::r=>by
  have a:=xm6 k j y r;rw[List.map_cons];by_cases h:p.1=k
  ·rw[if_pos h]
   by_cases e:p.1=j
   ·rw[xc0 (p:=(p.1,y)) e,xc0 e,Option.map_some,if_pos (e.symm.trans h)]
   ·rw[xc1 (p:=(p.1,y)) e,xc1 e,a]
  ·rw[if_neg h]
   by_cases e:p.1=j
   ·rw[xc0 (p:=p) e,xc0 e,Option.map_some,if_neg (λz=>h (e.trans z))]
   ·rw[xc1 (p:=p) e,xc1 e,a]
theorem xjz(k j:κ)(y:V):∀kvs:List (κ×V),valV kvs k=none->valV (kvs++[(k,y)]) j=if j=k then some y else valV kvs j
 |[],_=>by
  by_cases e:k=j
  ·rw[if_pos e.symm];exact xc0 (p:=(k,y)) e
  ·rw[if_neg (λz=>e z.symm)];exact xc1 (p:=(k,y)) e
 |p::r,hn=>by
  rw[List.cons_append];have a:¬p.1=k:=λz=>by rw[xc0 z]at hn;cases hn
  rw[xc1 a]at hn;have b:=xjz k j y r hn;by_cases e:p.1=j
  ·rw[xc0 e,xc0 e,if_neg (λz=>a (e.trans z))]
  ·rw[xc1 e,xc1 e,b]
theorem xiu(kvs:List (κ×V))(k j:κ)(y:V):valV (putK kvs k y) j=if j=k then some y else valV kvs j:=by
 unfold putK;by_cases a:(kvs.any λkv=>decide (kv.1=k))=true
 ·rw[if_pos a,xm6]
  rw[xeq]at a;by_cases e:j=k
  ·obtain⟨x,b⟩:=Option.isSome_iff_exists.mp a
   rw[if_pos e,e,b,Option.map_some,if_pos rfl]
  ·rw[if_neg e]
   cases valV kvs j with
   |none=>rfl
   |some x=>rw[Option.map_some,if_neg e]
 ·rw[if_neg a]
  refine xjz k j y kvs ?_;rw[xeq]at a
  cases q:valV kvs k with
  |none=>rfl
  |some x=>rw[q]at a;exact(a rfl).elim
theorem xeh(kvs:List (κ×V))(k:κ)(v:V):(putK kvs k v).length<=kvs.length+1:=by
 unfold putK;split
 ·rw[zLM];omega
 ·rw[zLA,List.length_cons,List.length_nil];omega
theorem RelO.isSome_eq{o:Option V}{u:Option Value}(r:RelO o u):o.isSome=u.isSome:=by
 cases o with
 |none=>cases u with
  |none=>rfl
  |some _=>exact(show False from r).elim
 |some _=>cases u with
  |none=>exact(show False from r).elim
  |some _=>rfl
theorem KV.val{kvs:List (κ×V)}{vs:List (κ×Value)}(r:KV kvs vs)(k:κ):RelO (valV kvs k) (valueAt vs k):=by
 unfold KV at r
 induction r with
 |nil=>exact True.intro
 | @cons p q ps qs h t ih=>
  obtain⟨h1,h2⟩:=h;by_cases e:p.1=k
  ·have e':q.1=k:=h1.symm.trans e
   have b:valueAt (q::qs) k=some q.2:=by simp[valueAt,List.find?_cons,e']
   rw[xc0 e,b];exact h2
  ·have e':¬q.1=k:=λz=>e (h1.trans z)
   have b:valueAt (q::qs) k=valueAt qs k:=by simp[valueAt,List.find?_cons,e']
   rw[xc1 e,b];exact ih
theorem KV.any{kvs:List (κ×V)}{vs:List (κ×Value)}(r:KV kvs vs)(k:κ):(kvs.any λkv=>decide (kv.1=k))=vs.any λkv=>decide (kv.1=k):=by
 unfold KV at r
 induction r with
 |nil=>rfl
 |cons h t a=>rw[List.any_cons,List.any_cons,a,h.1]
theorem KV.repl {kvs:List (κ×V)} {vs:List (κ×Value)} (r:KV kvs vs) (k:κ) {y:V} {u:Value} (b:RelV y u) :
  KV (kvs.map λkv=>if kv.1=k then (kv.1,y) else kv) (vs.map λkv=>if kv.1=k then (kv.1,u) else kv):=by
 unfold KV at r⊢
 induction r with
 |nil=>exact .nil
 |@cons p q ps g h t c=>
  rw[List.map_cons,List.map_cons];refine .cons ?_ c;obtain⟨a,f⟩:=h;by_cases e:p.1=k
  ·rw[if_pos e,if_pos (a.symm.trans e)];exact⟨a,b⟩
  ·rw[if_neg e,if_neg (λz=>e (a.trans z))];exact⟨a,f⟩
theorem KV.put{kvs:List (κ×V)}{vs:List (κ×Value)}(r:KV kvs vs)(k:κ){y:V}{u:Value}(a:RelV y u):KV (putK kvs k y) (stored vs k u):=by
 unfold putK stored;rw[r.any k];by_cases e:(vs.any λkv=>decide (kv.1=k))=true
 ·rw[if_pos e,if_pos e];exact r.repl k a
 ·rw[if_neg e,if_neg e];exact Paired.snoc r ⟨rfl,a⟩
theorem KV.length{kvs:List (κ×V)}{vs:List (κ×Value)}(r:KV kvs vs):kvs.length=vs.length:=Paired.length r
end
theorem xoy{P:Program}{w:World}{k:Key}{u:Value}(r:RelV (kV k) u):(xcf P w).is k u=true:=by
 cases k with
 |inl i=>obtain⟨t,e⟩:=(show ∃t,u=Value.int i t from r);subst e;exact xmk P w i t
 |inr x=>obtain⟨t,e⟩:=(show ∃t,u=Value.str x t from r);subst e;exact xmj P w x t
theorem xle{P:Program}{w:World}:∀{ks:List Key} {us:List Value},Vals (ks.map kV) us->ItemsAre (xcf P w) ks us
 |[],_,r=>by rw[List.map_nil]at r;cases r;exact .nil
 |k::ks,_,r=>by
  rw[List.map_cons]at r
  cases r with
  |cons h t=>exact .cons (xoy h) (xle t)
abbrev KT(H:Hp):List (List Key×V)->List (List Key×Addr×Value)->Prop:=Paired λp q=>p.1=q.1/\H q.2.1=some (.tup (p.1.map kV))/\RelV p.2 q.2.2
theorem KT.val{H:Hp}{kvs:List (List Key×V)}{xs:List (List Key×Addr×Value)}(r:KT H kvs xs)(k:List Key):RelO (valV kvs k) ((atKey xs k).map (·.2)):=by
 induction r with
 |nil=>exact True.intro
 | @cons p q ps a h t g=>
  obtain⟨f,_,i⟩:=h;by_cases e:p.1=k
  ·have c:q.1=k:=f.symm.trans e
   have b:atKey (q::a) k=some q.2:=by simp[atKey,List.find?_cons,c]
   rw[xc0 e,b];exact i
  ·have c:¬q.1=k:=λz=>e (f.trans z)
   have b:atKey (q::a) k=atKey a k:=by simp[atKey,List.find?_cons,c]
   rw[xc1 e,b];exact g
theorem KT.repl {H:Hp} {kvs:List (List Key×V)} {xs:List (List Key×Addr×Value)} (r:KT H kvs xs) (k:List Key) {y:V} {u:Value} (c:RelV y u) :
  KT H (kvs.map λkv=>if kv.1=k then (kv.1,y) else kv) (xs.map (putAt k u)):=by
 induction r with
 |nil=>exact .nil
 |@cons p q ps i h t f=>
  rw[List.map_cons,List.map_cons];refine .cons ?_ f;obtain⟨a,b,g⟩:=h;unfold putAt;by_cases e:p.1=k
  ·rw[if_pos e,if_pos (a.symm.trans e)];exact⟨a,b,c⟩
  ·rw[if_neg e,if_neg (λz=>e (a.trans z))];exact⟨a,b,g⟩
theorem KT.put {H:Hp} {kvs:List (List Key×V)} {xs:List (List Key×Addr×Value)} (r:KT H kvs xs) (k:List Key) {b:Addr} {y:V} {u:Value} (c:H b=some (.tup (k.map kV))) (a:RelV y u) :
  KT H (putK kvs k y) (storedH xs k b u):=by
 have e:(kvs.any λkv=>decide (kv.1=k))=(atKey xs k).isSome:=by
  rw[xeq,(r.val k).isSome_eq,Option.isSome_map]
 unfold putK storedH;rw[e];by_cases q:(atKey xs k).isSome=true
 ·rw[if_pos q,if_pos q];exact r.repl k a
 ·rw[if_neg q,if_neg q];exact Paired.snoc r ⟨rfl,c,a⟩
theorem KT.keeps{H a:Hp}{kvs:List (List Key×V)}{xs:List (List Key×Addr×Value)}(r:KT H kvs xs)(c:∀b ys,H b=some (.tup ys)->a b=some (.tup ys)):KT a kvs xs:=
 Paired.mapP r λ_ _ z=>⟨z.1,c _ _ z.2.1,z.2.2⟩
section
variable {P:Program}{w:World}{H:Hp}{h:Heap}{a:Addr}
theorem xx4{u:HO}(ok:HOk P w H h)(e:Rd H a u):ObjOk P w H h a u:=e.ok ok
theorem xms{kvs:List (Key×V)}(ok:HOk P w H h)(e:Rd H a (.dK kvs)):kvs.length<=sizeLine/\(a == sysModules)=false/\∃vs,KV kvs vs/\h.DictOf (xcf P w) a vs:=
 show ObjOk P w H h a (.dK kvs) from xx4 ok e
theorem xr9{kvs:List (Key×V)}(ok:HOk P w H h)(e:H a=some (.dK kvs)):kvs.length<=sizeLine/\(a == sysModules)=false/\∃vs,KV kvs vs/\h.DictOf (xcf P w) a vs:=xms ok (.inl e)
theorem xlc{ks:List Key}(ok:HOk P w H h)(e:H a=some (.tup (ks.map kV))):(tupleKind (xcf P w)).is h ks a:=by
 obtain⟨_,its,r,o,h1,h2,n,h3,_⟩:=(show ObjOk P w H h a (.tup (ks.map kV)) from ok a _ e);exact⟨o,its.toArray,n,h1,h2,h3,by simpa using xle r⟩
theorem xr8 {kvs:List (List Key×V)} (ok:HOk P w H h) (e:Rd H a (.dT kvs)):kvs.length<=sizeLine/\(a == sysModules)=false ∧
  ∃xs,KT H kvs xs/\h.DictOfH (tupleKind (xcf P w)) a xs:=by
 obtain⟨z,y,xs,r,o,es,ep,s,n,j,i,g⟩:=(show ObjOk P w H h a (.dT kvs) from xx4 ok e);refine⟨z,y,xs,r,o,es,ep,s,n,j,i,λx b=>?_,g⟩
 have all:∀{l:List (List Key×V)} {m:List (List Key×Addr×Value)},KT H l m->∀x∈m,(tupleKind (xcf P w)).is h x.1 x.2.1:=by
  intro l m q
  induction q with
  |nil=>intro x b;exact nomatch b
  | @cons p q ps u c t f=>
   intro x b;rcases zMC b with e |b
   ·subst e
    exact xlc ok (by rw[<- c.1];exact c.2.1)
   ·exact f x b
 exact all r x b
theorem yae {kvs:List (List Key×V)} (ok:HOk P w H h) (e:H a=some (.dT kvs)):kvs.length<=sizeLine/\(a == sysModules)=false ∧
  ∃xs,KT H kvs xs/\h.DictOfH (tupleKind (xcf P w)) a xs:=xr8 ok (.inl e)
end
def DGet(H:Hp)(a:Addr)(y:V)(r:Option V):Prop:=
 (∃kvs k,Rd H a (.dK kvs)/\y=kV k/\r=valV kvs k)\/∃kvs k b,Rd H a (.dT kvs)/\y=.ref b/\H b=some (.tup (k.map kV))/\r=valV kvs k
def DPut(H:Hp)(a:Addr)(y v:V)(H':Hp):Prop:=
 (∃kvs k,H a=some (.dK kvs)/\y=kV k/\kvs.length<sizeLine/\H'=upd H a (.dK (putK kvs k v))) ∨
 ∃kvs k b,H a=some (.dT kvs)/\y=.ref b/\H b=some (.tup (k.map kV))/\kvs.length<sizeLine/\H'=upd H a (.dT (putK kvs k v))
theorem DGet.k{H:Hp}{a:Addr}{kvs:List (Key×V)}{k:Key}(e:H a=some (.dK kvs)):DGet H a (kV k) (valV kvs k):=.inl ⟨kvs,k,.inl e,rfl,rfl⟩
theorem DPut.k{H:Hp}{a:Addr}{kvs:List (Key×V)}{k:Key}{v:V}(e:H a=some (.dK kvs))(b:kvs.length<sizeLine):DPut H a (kV k) v (upd H a (.dK (putK kvs k v))):=.inl ⟨kvs,k,e,rfl,b,rfl⟩
section
variable {X:Cx}{pins:List (Addr×Obj)}{σ:St}{H:Hp}{s:Shared}{a:Addr}{y v:V}{u r:Value}{o:Option V}{A:Around}{E:Value->Shared->Prop}
theorem Inv.big(I:Inv X pins σ H s):sysModules<s.heap.objs.size:=by
 have h:mainGlobals<s.heap.objs.size:=(I.mod.glob.keeps I.bk).lt;exact Nat.lt_trans (by decide) h
theorem xsf {Q:Value->Shared->Prop} (hu:A.units+1<cLine) (I:Inv X pins σ H s) (g:DGet H a y (some v)) (ry:RelV y u) (h:∀w' s',Inv X pins σ H s'->RelV v w'->Q w' s') :
  wpAny (model X.prog X.w) A (getItem (.ref a) u) Q E s:=by
 rcases g with⟨kvs,k,e,ey,l⟩ |⟨kvs,k,b,e,ey,eb,l⟩
 ·subst ey
  obtain⟨z,hd,vs,rel,dd⟩:=xms I.hok e;obtain⟨w',hw,rw'⟩:=RelO.some_of (v:=v) (o:=valueAt vs k) (by rw[l];exact rel.val k);exact wpAny_getItem_of (xoy ry) dd.mapOf hw (h w' _ (I.tok _) rw')
 ·subst ey
  cases (show u=Value.ref b from ry);obtain⟨z,hd,xs,rel,dd⟩:=xr8 I.hok e;obtain⟨w',hw,rw'⟩:=RelO.some_of (v:=v) (o:=(atKey xs k).map (·.2)) (by rw[l];exact rel.val k);obtain⟨p,hp,hp2⟩:=zMS hw;refine wpAny_getItem_heap (tupleKind_room_in1 hu) (xlc I.hok eb) dd hp ?_;rw[hp2];exact h w' _ (I.tok _) rw'
theorem d_in {Q:Value->Shared->Prop} (hu:A.units+1<cLine) (I:Inv X pins σ H s) (g:DGet H a y o) (ry:RelV y u) (h:∀s',Inv X pins σ H s'->Q (.bool o.isSome) s') :
  wpAny (model X.prog X.w) A (compareOp .In u (.ref a)) Q E s:=by
 rcases g with⟨kvs,k,e,ey,l⟩ |⟨kvs,k,b,e,ey,eb,l⟩
 ·subst ey
  obtain⟨z,hd,vs,rel,dd⟩:=xms I.hok e;refine wpAny_in_of (xoy ry) hd dd.mapOf ?_;rw[<- (rel.val k).isSome_eq,<- l];exact h _ (I.tok _)
 ·subst ey
  cases (show u=Value.ref b from ry);obtain⟨z,hd,xs,rel,dd⟩:=xr8 I.hok e;refine wpAny_in_heap (tupleKind_room_in1 hu) (xlc I.hok eb) hd dd ?_;have q:=(rel.val k).isSome_eq;rw[Option.isSome_map]at q;rw[<- q,<- l];exact h _ (I.tok _)
theorem xw5 {Q:Value->Shared->Prop} (p:A.units+1<cLine) (I:Inv X pins σ H s) (g:DGet H a y o) (n:RelV y u) (h:∀m,Inv X pins σ H m->Q (.bool (!o.isSome)) m) :
  wpAny (model X.prog X.w) A (compareOp .NotIn u (.ref a)) Q E s:=by
 rcases g with⟨kvs,k,e,i,l⟩ |⟨kvs,k,b,e,i,r,l⟩
 ·subst i
  obtain⟨z,f,vs,c,j⟩:=xms I.hok e;refine wpAny_notIn_of (xoy n) f j.mapOf ?_;rw[<- (c.val k).isSome_eq,<- l];exact h _ (I.tok _)
 ·subst i
  cases (show u=Value.ref b from n);obtain⟨z,f,xs,c,j⟩:=xr8 I.hok e;refine wpAny_notIn_heap (tupleKind_room_in1 p) (xlc I.hok r) f j ?_;have q:=(c.val k).isSome_eq;rw[Option.isSome_map]at q;rw[<- q,<- l];exact h _ (I.tok _)
theorem xsd {h':Heap} {t':Nat} {ob:HO} (I:Inv X pins σ H s) (mu:Mut (H a)) (hs:Heap.SameBut a s.heap h') (he:∃q,h'.get? a=some q) (new:ObjOk X.prog X.w (upd H a ob) h' a ob) :
  Inv X pins σ (upd H a ob) {s with heap:=h',toks:=t'}:=
 I.write (x:=a) (e:=a) mu (.inl rfl) (λb q hb z=>(hs.2 b hb).trans z) he new
theorem xn4 {P:Program} {w:World} {f:Hp} {h':Heap} {kvs:List (Key×V)} {vs:List (Key×Value)} (z:kvs.length<=sizeLine) (c:(a == sysModules)=false) (b:KV kvs vs) (e:h'.DictOf (xcf P w) a vs) :
  ObjOk P w f h' a (.dK kvs):=⟨z,c,vs,b,e⟩
theorem xse {H':Hp} {Q:Unit->Shared->Prop} (hu:A.units+1<cLine) (I:Inv X pins σ H s) (g:DPut H a y v H') (ry:RelV y u) (rv:RelV v r) (h:∀s',Inv X pins σ H' s'->Q () s') :
  wpAny (model X.prog X.w) A (setItem (.ref a) u r) Q E s:=by
 rcases g with⟨kvs,k,e,ey,l,eH⟩ |⟨kvs,k,b,e,ey,eb,l,eH⟩
 ·subst ey eH
  obtain⟨z,hd,vs,rel,dd⟩:=xr9 I.hok e;have hz:vs.length<=sizeLine:=by rw[<- rel.length];exact z
  have hl:(putK kvs k v).length<=sizeLine:=by have:=xeh kvs k v;omega
  refine wpAny_setItem_pairs (hsz:=hz) (xoy ry) dd λh' dd' hs=>h _ ?_;have he:∃q,h'.get? a=some q:=let ⟨q,_,_,hq,_⟩:=dd';⟨q,hq⟩;exact xsd I (by rw[e];exact True.intro) hs he (xn4 hl hd (rel.put k rv) dd')
 ·subst ey eH
  cases (show u=Value.ref b from ry);obtain⟨z,hd,xs,rel,dd⟩:=yae I.hok e;have hz:xs.length<=sizeLine:=by rw[<- Paired.length rel];exact z
  have hl:(putK kvs k v).length<=sizeLine:=by have:=xeh kvs k v;omega
  refine wpAny_setItem_heap (hsz:=hz) (tupleKind_room_in1 hu) (xlc I.hok eb) dd λh' dd' hs=>h _ ?_;obtain⟨q,es,ep,hq,h2,h3,h4,_,h5⟩:=dd';refine xsd I (by rw[e];exact True.intro) hs ⟨q,hq⟩ ⟨hl,hd,_,(rel.put k eb rv).keeps λc ys ec=>?_,q,es,ep,hq,h2,h3,h4,h5⟩;rw[xa7 (xz6 ec e (λz=>nomatch z))];exact ec
end
section
variable {X:Cx}{pins:List (Addr×Obj)}{σ:St}{H:Hp}{s:Shared}{a:Addr}{kvs:List (Key×V)}{k:Key}{u:Value}{A:Around}{E:Value->Shared->Prop}
theorem yaf{Q:Value->Shared->Prop}(I:Inv X pins σ H s)(e:Rd H a (.dK kvs))(h:∀t s',Inv X pins σ H s'->Q (.int kvs.length t) s'):wpAny (model X.prog X.w) A (call (.builtin "len") [.ref a]) Q E s:=by
 obtain⟨z,hd,vs,rel,dd⟩:=xms I.hok e;refine call_len_dict hd dd (by rw[<- rel.length];rw[sizeLine_eq]at z;omega) ?_;rw[<- rel.length];exact h _ _ (I.tok _)
end
def NoSl(i:Expr):Prop:=∀ov iv,subscripted i false ov iv=operate [ov,iv] (getItem ov iv)
theorem xvk {prog:Program} {w:World} {A:Around} {E:Value->Shared->Prop} {s:Shared} {env:Env} {value a:Expr} {pos:Pos} {T id:String} {Q:Value->Shared->Prop}
  (l:typeLookup (.type T) "__getitem__"=pure (some (.builtin id))) (hs:NoSl a)
  (h:wpAny (model prog w) A (eval value env) (λo f=>wpAny (model prog w) A (eval a env) (λi b=>b.TypeIs o T/\wpAny (model prog w) A (getItem o i) Q E b) E f) E s) :
  wpAny (model prog w) A (eval (.Subscript value a pos) env) Q E s:=by
 refine Subscript_ (wpAny_mono h (λo f h₁=>wpAny_mono h₁ (λi b c=>?_) λ_ _ x=>x) λ_ _ x=>x);obtain⟨g,c⟩:=c;unfold subscriptTail;refine zE ?_;rw[getitemInPython_of_ne g.not_modules];refine zE (wpAny_specialOf g l ?_)
 have fin:wpAny (model prog w) A (subscripted a false o i) (λr e=>wpAny (model prog w) A (letTemporaryGo value o r >>= λ_=>pure r) Q E e) E b:=by
  rw[hs o i];exact wpAny_operating (wpAny_mono c (λr e j=>zE (wpAny_letTemporaryGo (zI j))) λ_ _ x=>x)
 first
  |exact zI (zE fin)
  |exact zE (zI (zE fin))
  |exact zE fin
theorem xmt{X:Cx}{pins:List (Addr×Obj)}{σ:St}{H:Hp}{s:Shared}{a:Addr}{y:V}{o:Option V}(I:Inv X pins σ H s)(g:DGet H a y o):s.TypeIs (.ref a) "dict":=by
 rcases g with⟨kvs,k,e,_,_⟩ |⟨kvs,k,b,e,_,_,_⟩
 ·obtain⟨_,_,vs,_,c⟩:=xms I.hok e
  exact c.typeIs
 ·obtain⟨_,_,xs,_,c⟩:=xr8 I.hok e
  exact c.typeIs
def xzs(td ty:TE):TE:=λσ H Q=>td σ H λx H1=>ty σ H1 λy H2=>∃a v,x=.ref a/\DGet H2 a y (some v)/\Q v H2
def tDIn(ty td:TE):TE:=λσ H Q=>ty σ H λy H1=>td σ H1 λx H2=>∃a o,x=.ref a/\DGet H2 a y o/\Q (.bl o.isSome) H2
def xvi(ty td:TE):TE:=λσ H Q=>ty σ H λy H1=>td σ H1 λx H2=>∃a o,x=.ref a/\DGet H2 a y o/\Q (.bl (!o.isSome)) H2
def xzx(td ty tv:TE):TS:=λD σ H=>tv σ H λv H1=>td σ H1 λx H2=>ty σ H2 λy H3=>∃a H4,x=.ref a/\DPut H3 a y v H4/\D.nx σ H4
section
variable {X:Cx}{o i e value:Expr}{pos pos' tpos:Pos}{td ty tv:TE}
theorem xds(n:X.A.units+1<cLine)(p:PE X o td)(hi:PE X i ty)(hs:NoSl i):PE X (.Subscript o i pos) (xzs td ty):=by
 intro pins s σ H Q I h;refine xvk PySem.F.slot_dict_getitem.lookup hs (thn (p pins s σ H _ I h) λu e ⟨x,C,w,j,m⟩=>thn (hi pins e σ C _ w m) λO M ⟨y,z,c,f,a,v,ex,g,l⟩=>?_);subst ex;obtain rfl:u=Value.ref a:=j;exact⟨xmt c g,xsf n c g f λG J r b=>⟨v,z,r,b,l⟩⟩
theorem xkg(m:X.A.units+1<cLine)(hi:PE X i ty)(n:PE X o td):PC X .In i o (tDIn ty td):=by
 intro pins s σ H Q I h;refine thn (hi pins s σ H _ I h) λJ b ⟨y,C,w,c,j⟩=>thn (n pins b σ C _ w j) λu G ⟨x,z,r,e,a,l,ex,g,f⟩=>?_;subst ex;obtain rfl:u=Value.ref a:=e;exact d_in m r g c λF p=>⟨.bl l.isSome,z,p,rfl,f⟩
theorem xfq(m:X.A.units+1<cLine)(hi:PE X i ty)(n:PE X o td):PC X .NotIn i o (xvi ty td):=by
 intro pins s σ H Q I h;refine thn (hi pins s σ H _ I h) λJ b ⟨y,C,w,c,j⟩=>thn (n pins b σ C _ w j) λu G ⟨x,z,r,e,a,l,ex,g,f⟩=>?_;subst ex;obtain rfl:u=Value.ref a:=e;exact xw5 m r g c λF p=>⟨.bl (!l.isSome),z,p,rfl,f⟩
theorem xc9 (w:X.A.units+1<cLine) (z:PE X o td) (hi:PE X i ty) (p:PE X value tv) (hs:swapsWith value (some (.Subscript o i pos')) pos.line X.env=pure false) :
  PS X (.Assign [.Subscript o i pos'] value pos) (xzx td ty tv):=by
 intro pins s σ H D I h;refine wpAny_Assign_Subscript (thn (p pins s σ H _ I h) λr c ⟨v,U,J,j,n⟩=>thn (z pins c σ U _ J n) λu b ⟨x,O,G,f,m⟩=>thn (hi pins b σ O _ G m) λiv Z ⟨y,H3,F,e,a,M,ex,g,l⟩=>?_) hs;subst ex;obtain rfl:u=Value.ref a:=f;exact xse w F g e j λY C=>⟨σ,M,C,l⟩
end
theorem xt3{P:Program}{w:World}{H:Hp}(h:Heap)(a:sysModules<h.objs.size):ObjOk P w H (h.push {cls:=.type "dict",data:=.dict #[]}) h.objs.size (.dK []):=
 ⟨zY _,beq_eq_false_iff_ne.mpr (Ne.symm (zN a)),[],.nil,Heap.DictOf.new h⟩
def xxn:TE:=λ_ H Q=>∀p,H p=none->Q (.ref p) (upd H p (.dK []))
section
variable {X:Cx}{pos:Pos}
theorem xnm:PE X (.Dict [] [] pos) xxn:=λpins s σ H Q I h=>
 wpAny_Dict_empty ⟨.ref s.heap.objs.size,_,I.laid (a:=s.heap.objs.size) (o:=.dK []) (t':=s.toks) (λ_ _ q=>zPO _ q) (zG _) (xt3 s.heap I.big),rfl,h _ (I.hok.fresh (zG _))⟩
end
def xb5(kvs more:List (Key×V)):List (Key×V):=more.foldl (λacc kv=>putK acc kv.1 kv.2) kvs
theorem KV.merge:∀{more:List (Key×V)} {rs:List (Key×Value)} {kvs:List (Key×V)} {vs:List (Key×Value)},KV more rs->KV kvs vs->KV (xb5 kvs more) (merged vs rs):=by
 intro more rs kvs vs r;unfold KV at r
 induction r generalizing kvs vs with
 |nil=>intro q;exact q
 | @cons p q ps c h t b=>
  intro a
  have e:KV (putK kvs p.1 p.2) (stored vs q.1 q.2):=by
   have:=a.put p.1 h.2;rw[<- h.1];exact this
  exact b e
theorem xdn:∀(more kvs:List (Key×V)),(xb5 kvs more).length<=kvs.length+more.length
 |[],kvs=>by show kvs.length<=kvs.length+0;omega
 |p::r,kvs=>by
  have b:=xdn r (putK kvs p.1 p.2);have a:=xeh kvs p.1 p.2;show(xb5 (putK kvs p.1 p.2) r).length<=_;rw[List.length_cons];omega
section
variable {X:Cx}{pins:List (Addr×Obj)}{σ:St}{H:Hp}{s:Shared}{a:Addr}{kvs:List (Key×V)}{A:Around}{E:Value->Shared->Prop}
theorem xt4{Q:Value->Shared->Prop}(I:Inv X pins σ H s)(e:Rd H a (.dK kvs))(h:∀p g,H p=none->Inv X pins σ (upd H p (.dK kvs)) g->Q (.ref p) g):wpAny (model X.prog X.w) A (call (.type "dict") [.ref a]) Q E s:=by
 obtain⟨z,j,vs,c,l⟩:=xms I.hok e;refine kt_call_dict j l (by rw[<- c.length];exact z) λh' f hs=>?_;refine h _ _ (I.hok.fresh (zG _)) (I.laid (a:=s.heap.objs.size) (o:=.dK kvs) (t':=s.toks) (λb q i=>?_) (zG _) (xn4 z (beq_eq_false_iff_ne.mpr (Ne.symm (zN I.big))) c f));exact(hs.2 b (zN (zJ i))).trans (zPO _ i)
end
section
variable {X:Cx}
theorem xlo:xec X (.builtin "len") (λxs H Q=>∃a kvs,xs=[V.ref a]/\H a=some (.dK kvs)/\Q (.int kvs.length) H):=by
 intro pins s σ H xs us Q I r h;obtain⟨a,kvs,rfl,ha,q⟩:=h;obtain⟨u,rfl,ru⟩:=xfl r;cases ru;exact yaf I (.inl ha) λt s' I'=>⟨.int kvs.length,H,I',⟨t,rfl⟩,q⟩
end
section
variable {κ:Type}[DecidableEq κ]
theorem xmi:∀{l:List κ} {k:κ},l.Nodup->¬k∈l->(l++[k]).Nodup
 |[],k,_,_=>by simp
 |a::r,k,h,b=>by
  obtain⟨e,c⟩:=List.nodup_cons.mp h;show(a::(r++[k])).Nodup;refine List.nodup_cons.mpr ⟨λm=>?_,xmi c λm=>b (List.mem_cons.mpr (Or.inr m))⟩;rcases zMA m with q |q
  ·exact e q
  ·exact b (List.mem_cons.mpr (Or.inl (zMO q).symm))
end
section
variable {X:Cx}
theorem xeb:xec X (.type "dict") (λxs H Q=>∃a kvs,xs=[V.ref a]/\H a=some (.dK kvs)/\∀p,H p=none->Q (.ref p) (upd H p (.dK kvs))):=by
 intro pins s σ H xs us Q I r h;obtain⟨a,kvs,rfl,ha,q⟩:=h;obtain⟨u,rfl,ru⟩:=xfl r;cases ru;exact xt4 I (.inl ha) λp s' hp I'=>⟨.ref p,_,I',rfl,q p hp⟩
end
section
variable {ix:Cap}{tt:TT}{te:TE}{g:TG}{σ:St}{H:Hp}{Q:VK}
def NxtG(Pv:Nat->List V->Hp->Prop)(n i:Nat)(ys:List V):VK:=λy H2=>∃m',m'<n-i/\m'=n-(i+1)/\i+1<=n/\(ys++[y]).length<=i+1/\Pv (i+1) (ys++[y]) H2
def NxtN(Pv:Nat->List V->Hp->Prop)(n i:Nat)(ys:List V):Hp->Prop:=λH2=>∃m',m'<n-i/\m'=n-(i+1)/\i+1<=n/\ys.length<=i+1/\Pv (i+1) ys H2
theorem nxtG{a:Nat->List V->Hp->Prop}{n i:Nat}{ys:List V}{y:V}{b:Hp}(hi:i<n)(c:ys.length<=i)(h:a (i+1) (ys++[y]) b):NxtG a n i ys y b:=
 ⟨n-(i+1),by omega,rfl,hi,by rw[zLA,List.length_singleton];omega,h⟩
theorem nxtN{a:Nat->List V->Hp->Prop}{n i:Nat}{ys:List V}{b:Hp}(hi:i<n)(c:ys.length<=i)(h:a (i+1) ys b):NxtN a n i ys b:=
 ⟨n-(i+1),by omega,rfl,hi,by omega,h⟩
theorem xbb {K:Fg} {a:Addr} {xs:List V} (c:Nat->List V->Hp->Prop) (h0:c 0 [] H) (hn:xs.length<sizeLine) (j:∀i ys H,i<=xs.length->c i ys H->SqT K H a xs)
  (hs:∀i x ys H,xs[i]?=some x->i<xs.length->ys.length<=i->c i ys H->g x (capt l σ) H λh w=>Ext (capt l σ) h/\r h w λb o=>if b=true then s h o (NxtG c xs.length i ys) else NxtN c xs.length i ys o)
  (u:∀ys H,ys.length<=xs.length->c xs.length ys H->∀D,H D=none->Q (.ref D) (upd H D (.lst ys))):xh0 (Itt K a) l g r s σ H Q:=by
 refine⟨λi m ys H=>m=xs.length-i/\i<=xs.length/\ys.length<=i/\c i ys H,⟨xs.length,by simp,zY _,zG _,h0⟩,?_⟩;rintro i m ys H ⟨rfl,hi,n,p⟩;have q:=j i ys H hi p;by_cases f:i<xs.length
 ·refine .inr ⟨⟨xs,xs[i],q,by simp[f]⟩,by omega,λv z y=>?_⟩
  obtain⟨e,y⟩:=y;subst e;exact hs i v ys _ (y xs q) f n p
 ·have e:i=xs.length:=by omega
  subst e;exact .inl ⟨⟨xs,q,zG _⟩,u ys H n p⟩
theorem xe2 {K:Fg} {a:Addr} {xs:List V} (c:Nat->List V->Hp->Prop) (h0:c 0 [] H) (hn:xs.length<sizeLine) (j:∀i ys H,i<=xs.length->c i ys H->SqL K H a xs)
  (hs:∀i x ys H,xs[i]?=some x->i<xs.length->ys.length<=i->c i ys H->g x (capt l σ) H λh w=>Ext (capt l σ) h/\r h w λb o=>if b=true then s h o (NxtG c xs.length i ys) else NxtN c xs.length i ys o)
  (u:∀ys H,ys.length<=xs.length->c xs.length ys H->∀D,H D=none->Q (.ref D) (upd H D (.lst ys))):xh0 (Itl K a) l g r s σ H Q:=by
 refine⟨λi m ys H=>m=xs.length-i/\i<=xs.length/\ys.length<=i/\c i ys H,⟨xs.length,by simp,zY _,zG _,h0⟩,?_⟩;rintro i m ys H ⟨rfl,hi,n,p⟩;have q:=j i ys H hi p;by_cases f:i<xs.length
 ·refine .inr ⟨⟨xs,xs[i],q,by simp[f]⟩,by omega,λv z y=>?_⟩
  obtain⟨e,y⟩:=y;subst e;exact hs i v ys _ (y xs q) f n p
 ·have e:i=xs.length:=by omega
  subst e;exact .inl ⟨⟨xs,q,zG _⟩,u ys H n p⟩
theorem ext2{σ:St}{i j:Nat}{v w:Option V}(h:σ[i]?=some none)(k:σ[j]?=some none):Ext σ ((σ.set i v).set j w):=by
 refine⟨by simp,λn c e=>?_⟩;have b:i≠n:=λz=>by subst z;rw[h]at e;cases e
 have a:j≠n:=λz=>by subst z;rw[k]at e;cases e
 rw[List.getElem?_set_ne a,List.getElem?_set_ne b];exact e
end
theorem xj5:∀{ns:List Int},(∀n∈ns,0<=n/\n<=1000000)->0<=ns.sum/\ns.sum<=1000000*(ns.length:Int)
 |[],_=>by simp
 |n::ns,h=>by
  have c:=h n (by simp);have b:=xj5 (ns:=ns) λm a=>h m (zP _ a);rw[List.sum_cons,List.length_cons];push_cast;omega
section
variable {X:Cx}
theorem xlm(x:X.calm=true):xec X (.builtin "sum") (λxs H Q=>∃p,∃ns:List Int,xs=[.ref p]/\SqL X.K H p (ns.map V.int)/\(∀n∈ns,0<=n/\n<=1000000)/\ns.length<=1000/\Q (.int ns.sum) H):=by
 intro b s σ H xs us Q I r h;obtain⟨p,ns,rfl,m,g,c,q⟩:=h;obtain⟨u,rfl,l⟩:=xfl r;cases l;obtain⟨its,i,pl,hz⟩:=I.list m;have hi:=xgc i;obtain⟨xs,e⟩:=hi.allInts.items;have a:ns=xs.toList.map (·.1):=by rw[<- hi.numsOf,<- nums_intItems,<- e]
 have f:=pl.isList;rw[e]at f;have hsz:xs.size=ns.length:=by rw[a,zLM,Array.length_toList]
 refine sum_intList (I.ok.hd x) f (λj w=>?_) λh' y t' k=>⟨.int ns.sum,H,I.kept k,?_,q⟩
 ·have o:numAt xs j∈ns:=by
   rw[a,numAt_eq];exact getD_mem (by rw[zLM,Array.length_toList];exact w)
  have F:=g _ o;have C:=xj5 (ns:=ns.take (j+1)) λn hn=>g n (zX hn);have z:(ns.take (j+1)).length<=1000:=zF (List.length_take_le _ _) (by omega);rw[preSum_eq,<- a];unfold InLong;omega
 ·refine⟨t',?_⟩
  rw[preSum_eq,<- a,zTL (by omega)]
theorem xsj(z:X.calm=true):xec X (.builtin "max") (λxs H Q=>∃p,∃ns:List Int,xs=[.ref p]/\SqL X.K H p (ns.map V.int)/\ns≠[]/\∀m,m∈ns->(∀n∈ns,n<=m)->Q (.int m) H):=by
 intro f s σ H xs us Q I r h;obtain⟨p,ns,rfl,x,c,q⟩:=h;obtain⟨u,rfl,o⟩:=xfl r;cases o;obtain⟨its,l,pl,hz⟩:=I.list x;have hi:=xgc l;obtain⟨xs,e⟩:=hi.allInts.items;have b:ns=xs.toList.map (·.1):=by rw[<- hi.numsOf,<- nums_intItems,<- e]
 have g:=pl.isList;rw[e]at g;have hsz:xs.size=ns.length:=by rw[b,zLM,Array.length_toList]
 have G:0<ns.length:=List.length_pos_iff.mpr c;refine max_intList (I.ok.hd z) g (by omega) λv h' F w k=>?_;obtain⟨t,rfl⟩:=intItems_at w;obtain⟨J,C⟩:=argBest_gt (numAt xs) (xs.size-1);refine⟨.int _,H,I.kept k,⟨t,rfl⟩,q _ ?_ λa i=>?_⟩
 ·rw[b,numAt_eq]
  exact getD_mem (by rw[zLM,Array.length_toList];omega)
 ·rw[b]at i
  obtain⟨j,y,rfl⟩:=mem_getD i;rw[zLM,Array.length_toList]at y;rw[<- numAt_eq];exact C j (by omega)
end
section
variable {X:Cx}{K:Fg}
theorem xws(h:X.K=K):IxR X (rIxT K):=by subst h;exact xyz
theorem xtp(h:X.K=K):IxR X (rIxL K):=by subst h;exact iL
theorem xad(h:X.K=K):xec X (.builtin "len") (λxs H Q=>∃p ys,xs=[.ref p]/\(SqL K H p ys\/SqT K H p ys)/\Q (.int ys.length) H):=by subst h;exact xln
theorem xa2 {es:List Expr} {k:Nat} {t:TGs} {n:Nat} {pos:Pos} (c:X.K=K) (b:X.calm=true) (h:PGs X es t)
  (hn:(assignEach es X.env).length=n:=by rfl) (a:(assignEach es X.env).findIdx? (·.1)=none:=by rfl):PG X (.Tuple es k pos) (gTup K n t):=by subst c;exact xyc b h hn a
end
end L2
end
section
namespace Zt
open PySem PySem.Spec PyProof.Rows
section
variable {prog:Program}{w:World}{A:Around}{E:Value->Shared->Prop}{s:Shared}
theorem call_zipN {l1 l2:Addr} {xs ys:Array Value} {Q:Value->Shared->Prop} (hl1:s.heap.IsTuple l1 xs) (hl2:s.heap.IsTuple l2 ys)
  (h:∀h',IsZip h' (s.heap.objs.size+4) (s.heap.objs.size+2) (s.heap.objs.size+3) .none->IsPair h' (s.heap.objs.size+2) (.ref s.heap.objs.size) (.ref (s.heap.objs.size+1))->(∃a b,IsPair h' (s.heap.objs.size+3) a b)->
   h'.IsTupleIter s.heap.objs.size l1 0->h'.IsTupleIter (s.heap.objs.size+1) l2 0->(∀c o,s.heap.get? c=some o->h'.get? c=some o)->Q (.ref (s.heap.objs.size+4)) {s with heap:=h'}) :
  wpAny (model prog w) A (call (.type "zip") [.ref l1,.ref l2]) Q E s:=by
 refine callType_new F.called_zip (by decide) (F.typeCall_zip_2 _ _) (F.newCall_zip_2 _ _) (λobj=>F.args_object_init_3 obj _ _) F.entry_zip_new
  (xra l1 l2 xs ys) ⟨hl1,hl2,?_⟩
 have z1:(zH1 s.heap l1).objs.size=s.heap.objs.size+1:=Heap.size_push ..;have z2:(zH2 s.heap l1 l2).objs.size=s.heap.objs.size+2:=by rw[Heap.size_push,z1]
 have z3:(zH3 s.heap l1 l2).objs.size=s.heap.objs.size+3:=by rw[Heap.size_push,z2]
 have z4:(zH4 s.heap l1 l2).objs.size=s.heap.objs.size+4:=by rw[Heap.size_push,z3]
 have g5:(zH5 s.heap l1 l2).get? (zH4 s.heap l1 l2).objs.size=some _:=zK _ rfl;have g4:(zH5 s.heap l1 l2).get? (zH3 s.heap l1 l2).objs.size=some _:=zPO _ (zK _ rfl);have g3:(zH5 s.heap l1 l2).get? (zH2 s.heap l1 l2).objs.size=some _:=zPO _ (zPO _ (zK _ rfl));have g2:(zH5 s.heap l1 l2).get? (zH1 s.heap l1).objs.size=some _:=zPO _ (zPO _ (zPO _ (zK _ rfl)));have g1:(zH5 s.heap l1 l2).get? s.heap.objs.size=some _:=zPO _ (zPO _ (zPO _ (zPO _ (zK _ rfl))));have kp:∀c o,s.heap.get? c=some o->(zH5 s.heap l1 l2).get? c=some o:=λc o e=>zPO _ (zPO _ (zPO _ (zPO _ (zPO _ e))));show _/\_;rw[z2,z3,z4]at g5;rw[z1,z2]at g3;rw[z3]at g4;rw[z1]at g2;rw[z4];exact⟨⟨_,g5,rfl⟩,h _ g5 g3 ⟨_,_,g4⟩ ⟨_,g1,rfl,rfl⟩ ⟨_,g2,rfl,rfl⟩ kp⟩
end
end Zt
namespace L2
open PySem PySem.Spec PyProof.Rows
section
variable {X:Cx}{pins:List (Addr×Obj)}{σ:St}{H:Hp}{s:Shared}{h':Heap}
theorem Inv.turnedM{t':Nat}{fp:List Addr}(I:Inv X pins σ H s)(k:∀b o,b ∉fp->s.heap.get? b=some o->h'.get? b=some o)(hf:∀b∈fp,FpOk X pins H b):Inv X pins σ H {s with heap:=h',toks:=t'}:=by
 have nit:∀b u,H b=some u->b ∉fp:=λb u e z=>by rw[(hf b z).1]at e;cases e
 refine I.step (g':=s.gens) (d':=s.drawn) (ch:=fp) (λb hb=>?_) (λb o _ _ hc e _=>k b o hc e) (λb o _ _ hc e _=>⟨o.slots,k b o hc e⟩) (λ_ _ _ _ n=>n)
  (λb o hc e=>⟨o,k b o hc e⟩) (λ_ _ e=>e) (λ_ _ _ e=>e) (λb ps e=>⟨#[],by rw[e];simp⟩) (λm hm=>?_) (λb u e=>?_) I.bare
 ·obtain⟨f0,f1,f2,f3,f4,f5⟩:=hf b hb
  exact⟨f3,f1,f4,f5⟩
 ·obtain⟨o,es,ep,ho,r⟩:=hm
  exact⟨o,es,ep,k _ o (λz=>(hf _ z).2.1 rfl) ho,r⟩
 ·refine(I.hok b u e).stay (λc v hc q=>k c v ?_ q) (λ_ q=>q) λ_ _ q=>q
  rcases hc with z |z
  ·rw[z];exact nit b u e
  ·exact nit c _ z
end
theorem xmo{h:Heap}{o u:Obj}{b:Addr}(e:(h.push o).get? b=some u)(q:b≠h.objs.size):h.get? b=some u:=by
 rwa[Heap.get?_push_ne h b o q]at e
section
variable {X:Cx}
def Itz (K:Fg) (a b:Addr):It:=
  ⟨λi H=>∃xs ys x y,SqT K H a xs/\SqT K H b ys/\xs[i]?=some x/\ys[i]?=some y,λi H x H'=>∃p u v,x=.ref p/\H p=none/\H'=upd H p (.tup [u,v])/\(∀xs,SqT K H a xs->xs[i]?=some u)/\∀ys,SqT K H b ys->ys[i]?=some v,
   λi H=>∃xs ys,SqT K H a xs/\SqT K H b ys/\xs.length<=i⟩
theorem xsr {P:Program} {w:World} {K:Fg} {a0:List Expr} {x1} {pos:Pos} {a b z TI TO n m:Addr} (D:ZipApart z TI TO n m a b) :
  Turn P w K (.Tuple a0 x1 pos) (Itz K a b) [z,TI,TO,n,m] z (λi h=>IsZip h z TI TO .none/\IsPair h TI (.ref n) (.ref m)/\(∃u v,IsPair h TO u v)/\h.IsTupleIter n a i/\h.IsTupleIter m b i) where
 mem:=by simp
 obj:=λi h st c g=>by
  obtain⟨l,j,⟨u,v,J⟩,G,C⟩:=st;simp only[List.mem_cons,List.not_mem_nil,or_false]at g;rcases g with rfl |rfl |rfl |rfl |rfl
  ·exact⟨_,l,λv z=>by cases z⟩
  ·exact⟨_,j,λv z=>by cases z⟩
  ·exact⟨_,J,λv z=>by cases z⟩
  ·obtain⟨o,e,c,d⟩:=G
   exact⟨o,e,λv z=>by rw[d]at z;cases z⟩
  ·obtain⟨o,e,c,d⟩:=C
   exact⟨o,e,λv z=>by rw[d]at z;cases z⟩
 keep:=λi h h' st k=>by
  obtain⟨l,j,⟨u,v,J⟩,G,C⟩:=st;exact⟨k z (by simp) _ l,k TI (by simp) _ j,⟨u,v,k TO (by simp) _ J⟩,G.at λo q=>k n (by simp) o q,C.at λo q=>k m (by simp) o q⟩
 item:=by
  intro X hP hw hK g i f s σ H E I hf st hg;subst hP hw hK;obtain⟨xs,ys,x,y,hq,r,hx,hy⟩:=hg;obtain⟨its,rv,p,hz⟩:=I.tuple hq;obtain⟨its',Y,p',a9⟩:=I.tuple r;obtain⟨u,hu,ru⟩:=rv.get hx;obtain⟨U,aa,a8⟩:=Y.get hy;obtain⟨l,j,⟨_,_,J⟩,G,C⟩:=st;have hT:s.TypeIs (.ref z) "zip":=⟨_,l,rfl⟩;unfold pyNext
  refine zE (wpAny_attempt (wpAny_callSpecial?_slot (name:=Str.ofString "__next__") hT F.slot_zip_next
   (wpAny_call_entry F.slot_zip_next hT F.entry_zip_next
    (Zt.item_first D l j J G C p p' (x:=u) (y:=U) (by simpa using hu) (by simpa using aa) λh1 a1 a2 a3 a4 a5 a6 a7=>zI ⟨_,rfl,wpAny_letOwnedTupleGo_zip a1 λh2 b1 b2=>?_⟩) (F.args_zip_next_1 _))))
  have ab:H s.heap.objs.size=none:=I.hok.fresh (zG _);have g1:(s.heap.push {cls:=.type "tuple",data:=.seq #[u,U]}).get? s.heap.objs.size=some {cls:=.type "tuple",data:=.seq #[u,U]}:=zK _ rfl
  have I1:Inv X f σ (upd H s.heap.objs.size (.tup [x,y])) {s with heap:=s.heap.push {cls:=.type "tuple",data:=.seq #[u,U]},toks:=s.toks}:=
   I.laid (λb o q=>zPO _ q) (zG _) ⟨by show 2<=sizeLine;decide,[u,U],.cons ru (.cons a8 .nil),⟨_,g1,rfl,_,rfl,rfl⟩⟩
  have lt:∀c∈[z,TI,TO,n,m],c≠s.heap.objs.size:=λc g=>by
   simp only[List.mem_cons,List.not_mem_nil,or_false]at g;rcases g with rfl |rfl |rfl |rfl |rfl
   ·exact zN (zJ l)
   ·exact zN (zJ j)
   ·exact zN (zJ J)
   ·obtain⟨o,q,_⟩:=G
    exact zN (zJ q)
   ·obtain⟨o,q,_⟩:=C
    exact zN (zJ q)
  have Z:∀c∈[z,TI,TO,n,m],FpOk X f (upd H s.heap.objs.size (.tup [x,y])) c:=λc g=>by
   refine⟨?_,(hf c g).2⟩;rw[xa7 (lt c g)];exact(hf c g).1
  have I2:Inv X f σ (upd H s.heap.objs.size (.tup [x,y])) {s with heap:=h2,toks:=s.toks}:=
   I1.turnedM (t':=s.toks) (λc o hb q=>by
    have M:c≠z/\c≠TI/\c≠TO/\c≠n/\c≠m:=by simpa using hb
    have q1:h1.get? c=some o:=by
     by_cases e:c=s.heap.objs.size
     ·subst e
      have q':(s.heap.push {cls:=.type "tuple",data:=.seq #[u,U]}).get? s.heap.objs.size=some o:=q;rw[g1]at q';cases q';exact a5
     ·exact a7 c o M.1 M.2.2.1 M.2.2.2.1 M.2.2.2.2 (xmo q e)
    exact(b2.2 c M.1).trans q1) Z
  refine⟨.ref s.heap.objs.size,_,I2,rfl,⟨_,x,y,rfl,ab,rfl,λzs O=>by rw[I.tuple_inj O hq];exact hx,λzs O=>by rw[I.tuple_inj O r];exact hy⟩,⟨b1,?_,⟨_,_,(b2.2 _ D.TOz).trans a2⟩,a3.at λo q=>(b2.2 _ D.i1z).trans q,a4.at λo q=>(b2.2 _ D.i2z).trans q⟩,λc g=>(Z c g).1⟩;exact(b2.2 _ D.TIz).trans (a7 _ _ D.TIz D.TITO D.TIi1 D.TIi2 j)
 done:=by
  intro X hP hw hK g i f s σ H E I hf st hg;subst hP hw hK;obtain⟨xs,ys,hq,r,hx⟩:=hg;obtain⟨its,rv,p,hz⟩:=I.tuple hq;obtain⟨its',Y,p',a9⟩:=I.tuple r;obtain⟨l,j,J,G,C⟩:=st;have hl:=rv.length
  exact Zt.pyNext_end (I.ok.hd g) D ⟨.inl l,j,J,G,C,p,p'⟩ (by simp;omega) λh' kk=>⟨rfl,I.turnedM (t':=s.toks) (λc o hb q=>by
   have M:c≠z/\c≠TI/\c≠TO/\c≠n/\c≠m:=by simpa using hb
   exact kk c o M.1 M.2.2.2.1 q) hf⟩
 self:=λ_ _ _ _ _ st h=>wpAny_pyIter_zip st.1 h
def iZip(K:Fg)(ta:TA):TI:=λσ H R=>ta σ H λvs H1=>∃a b,vs=[.ref a,.ref b]/\(∃xs,SqT K H1 a xs)/\(∃ys,SqT K H1 b ys)/\R (Itz K a b) H1
theorem xun {a b:Expr} {r:TA} {p pos:Pos} {l:List Expr} {F} {G:Pos} (hg:Gl X "zip") (hm:X.mg "zip"=none) (ha:PA X [a,b] r) (hs:starEach [a,b] X.env=[(false,eval a X.env),(false,eval b X.env)]:=by rfl) (i:starEach [b] X.env=[(false,eval b X.env)]:=by rfl) :
  PI X (.Tuple l F G) (.Call (.Name "zip" p) [a,b] [] pos) (iZip X.K r):=by
 intro g s σ H R I h;refine Call_ (xfy I hg hm PyProof.Rows.boot_zip (PyProof.Rows.callWith_type1 (thn (ha pos g s σ H _ I h) λus f ⟨vs,H1,m,J,M⟩=>?_) (by rw[hs,i]) (by rw[i];rfl)));obtain⟨U,O,e,⟨xs,hx⟩,⟨ys,hy⟩,q⟩:=M;subst e;obtain⟨u1,u2,rfl,e1,e2⟩:=J.two;cases e1;cases e2;obtain⟨its,rx,tx,a3⟩:=m.tuple hx;obtain⟨Z,ry,o,a0⟩:=m.tuple hy;have a1:U<f.heap.objs.size:=by obtain⟨_,e,_⟩:=tx;exact zJ e
 have a2:O<f.heap.objs.size:=by obtain⟨_,e,_⟩:=o;exact zJ e
 have D:=PyProof.Rows.zipApart_new a1 a2;refine Zt.call_zipN tx o λh1 n C y x w Y=>wpAny_pyIter_zip n ?_;refine⟨f.heap.objs.size+4,[f.heap.objs.size+4,f.heap.objs.size+2,f.heap.objs.size+3,f.heap.objs.size,f.heap.objs.size+1],_,_,H1,rfl,m.kept (t':=f.toks) Y,xsr D,⟨n,C,y,x,w⟩,λc u=>?_,q⟩
 have j:f.heap.objs.size<=c:=by
  simp only[List.mem_cons,List.not_mem_nil,or_false]at u;rcases u with z |z |z |z |z <;> subst z <;> first |exact Nat.le_add_right _ _ |exact zG _
 exact m.fpOk j (m.hok.fresh j)
theorem xry {K:Fg} {a b:Addr} {xs ys:List V} {g:TG} {tb:TS} {D:Ends} {σ:St} {H:Hp} (hxy:xs.length=ys.length) (Pv:Nat->St->Hp->Prop) (h0:Pv 0 σ H) (hl:∀i σ H,i<=xs.length->Pv i σ H->SqT K H a xs/\SqT K H b ys)
  (hs:∀i x y σ H p,xs[i]?=some x->ys[i]?=some y->Pv i σ H->H p=none->g (.ref p) σ (upd H p (.tup [x,y])) λσ2 H2=>tb {D with nx:=Pv (i+1),ct:=Pv (i+1),bk:=D.nx} σ2 H2) (hd:∀σ H,Pv xs.length σ H->D.nx σ H) :
  ∃W:Nat->Nat->St->Hp->Prop,(∃m,W 0 m σ H)/\∀i m σ H,W i m σ H->
   ((Itz K a b).stop i H/\D.nx σ H)\/((Itz K a b).go i H/\∃N:St->Hp->Prop,(∀σ' H',N σ' H'->∃m',m'<m/\W (i+1) m' σ' H')/\∀x H',(Itz K a b).yld i H x H'->g x σ H' λσ2 H2=>tb {D with nx:=N,ct:=N,bk:=D.nx} σ2 H2):=by
 refine⟨λi m σ H=>m=xs.length-i/\i<=xs.length/\Pv i σ H,⟨xs.length,by simp,zY _,h0⟩,?_⟩;rintro i m σ H ⟨rfl,hi,p⟩;have q:=hl i σ H hi p;by_cases hlt:i<xs.length
 ·refine .inr ⟨⟨xs,ys,xs[i],ys[i]'(by omega),q.1,q.2,by simp[hlt],by simp[<- hxy,hlt]⟩,Pv (i+1),λσ' H' p'=>⟨xs.length-(i+1),by omega,rfl,hlt,p'⟩,λx H' y=>?_⟩
  obtain⟨pp,u,v,rfl,hp,rfl,hu,hv⟩:=y;exact hs i u v σ H pp (hu xs q.1) (hv ys q.2) p hp
 ·have e:i=xs.length:=by omega
  subst e;exact .inl ⟨⟨xs,ys,q.1,q.2,zG _⟩,hd σ H p⟩
end
end L2
end
section
namespace M
open PySem L2
structure Kn where
 name:Str
 rc:Bool
 parts:List (Str×Str)
def Kn.sort(k:Kn):Str:=if k.rc=true then S "rec" else S "alt"
def xe4(p:Str×Str):D:=.tup [.str p.1,.str p.2]
def xdv(ps:List (Str×Str)):D:=.tup (ps.map xe4)
def Kn.d(k:Kn):D:=.tup [.str k.name,.str k.sort,xdv k.parts]
def xbx(ks:List Kn):D:=.tup (ks.map Kn.d)
def kAt(ks:List Kn)(x:Str):Option Kn:=ks.find? λk=>decide (k.name=x)
def xvr:Option Kn->V
 |some k=>.str k.sort
 |none=>.non
def xnn:Option Kn->D
 |some k=>xdv k.parts
 |none=>.tup []
def KsAt(H:Hp)(v:V)(ks:List Kn):Prop:=RelD H v (xbx ks)/\ks.length<=100/\∀k∈ks,k.parts.length<=100
theorem KsAt.same{H a:Hp}{v:V}{ks:List Kn}(h:KsAt H v ks)(s:Same H a):KsAt a v ks:=⟨h.1.same s _,h.2⟩
abbrev En:=Str->Option D
def En.put(e:En)(x:Str)(d:D):En:=λy=>if y=x then some d else e y
def EnAt(H:Hp)(p:Addr)(m:Nat)(e:En):Prop:=
 ∃kvs,H p=some (.dK kvs)/\kvs.length<=m/\∀x,(e x=none->valV kvs (Sum.inr x)=none)/\∀d,e x=some d->∃v,valV kvs (Sum.inr x)=some v/\RelD H v d
theorem EnAt.same{H b:Hp}{p:Addr}{m:Nat}{e:En}(h:EnAt H p m e)(s:Same H b):EnAt b p m e:=by
 obtain⟨kvs,i,g,a⟩:=h;refine⟨kvs,s _ _ i,g,λx=>⟨(a x).1,λd f=>?_⟩⟩;obtain⟨v,c,r⟩:=(a x).2 d f;exact⟨v,c,r.same s _⟩
theorem EnAt.mono{H:Hp}{p:Addr}{m a:Nat}{e:En}(h:EnAt H p m e)(l:m<=a):EnAt H p a e:=by
 obtain⟨kvs,c,f,b⟩:=h;exact⟨kvs,c,by omega,b⟩
theorem EnAt.put {H a:Hp} {p q:Addr} {m:Nat} {e:En} {kvs:List (Key×V)} (l:H p=some (.dK kvs)) (n:kvs.length<=m) (h:∀x,(e x=none->valV kvs (Sum.inr x)=none)/\∀d,e x=some d->∃v,valV kvs (Sum.inr x)=some v/\RelD H v d)
  (s:Same H a) {x:Str} {v:V} {d:D} (g:RelD a v d) (j:a q=some (.dK (putK kvs (Sum.inr x) v))):EnAt a q (m+1) (e.put x d):=by
 refine⟨_,j,by have:=xeh kvs (Sum.inr x) v;omega,λy=>?_⟩;rw[xiu];unfold En.put;by_cases c:y=x
 ·subst c
  rw[if_pos rfl,if_pos rfl];refine⟨λz=>(by cases z),λd' f=>?_⟩;cases f;exact⟨v,rfl,g⟩
 ·have b:¬(Sum.inr y:Key)=Sum.inr x:=λz=>c (Sum.inr.inj z)
  rw[if_neg c,if_neg b];refine⟨(h y).1,λd' f=>?_⟩;obtain⟨u,i,r⟩:=(h y).2 d' f;exact⟨u,i,r.same s _⟩
def opV(s:Str)(x y:Int):Int:=
 if s=S "+" then (x+y)%4294967296 else if s=S "-" then (x-y)%4294967296 else if s=S "*" then x*y%4294967296 else if s=S "<" then (if x<y then 1 else 0) else (if x=y then 1 else 0)
def Nm(x:Int):Prop:=0<=x/\x<4294967296
theorem xyk(s:Str)(x y:Int):Nm (opV s x y):=by
 have h:∀z:Int,Nm (z%4294967296):=λz=>⟨Int.emod_nonneg _ (by decide),Int.emod_lt_of_pos _ (by decide)⟩;unfold opV;split
 ·exact h _
 split
 ·exact h _
 split
 ·exact h _
 split
 ·split <;> exact⟨by decide,by decide⟩
 ·split <;> exact⟨by decide,by decide⟩
abbrev tNum(n:Int):D:=.tup [.str (S "num"),.int n]
abbrev tBox(x:Str):D:=.tup [.str (S "box"),.str x]
abbrev tOpD(s:Str)(a b:D):D:=.tup [.str (S "op"),.str s,a,b]
abbrev tRec(k:Str)(es:List D):D:=.tup [.str (S "rec"),.str k,.tup es]
abbrev tGet(a:D)(f:Str):D:=.tup [.str (S "get"),a,.str f]
abbrev tTag(k t:Str)(a:D):D:=.tup [.str (S "tag"),.str k,.str t,a]
abbrev dArm(r:Str×Str×D):D:=.tup [.str r.1,.str r.2.1,r.2.2]
abbrev xgj(a:D)(rs:List (Str×Str×D)):D:=.tup [.str (S "case"),a,.tup (rs.map dArm)]
abbrev tIfD(a b c:D):D:=.tup [.str (S "if"),a,b,c]
def xsn(env:En)(d v:D):Prop:=(∃n,d=tNum n/\v=.int n)\/∃x,env x=some v/\d=tBox x
def NodeEv(ks:List Kn)(R:En->D->D->Prop)(env:En)(d v:D):Prop:=
 (∃s a b x y,R env a (.int x)/\R env b (.int y)/\Nm x/\Nm y/\d=tOpD s a b/\v=.int (opV s x y)) ∨
 (∃k es vs,es.length<=1000/\All2 (R env) es vs/\d=tRec k es/\v=.tup [.str k,.tup vs]) ∨
 (∃a k vs f kn i,R env a (.tup [.str k,.tup vs])/\kAt ks k=some kn/\(kn.parts.map (·.1)).findIdx? (λz=>decide (z=f))=some i/\vs[i]?=some v/\d=tGet a f) ∨
 (∃k t a x,R env a x/\d=tTag k t a/\v=.tup [.str k,.str t,x]) ∨
 (∃a rs k t x y e,rs.length<=1000/\R env a (.tup [.str k,.str t,x])/\rs.find? (λr=>decide (r.1=t))=some (t,y,e)/\R (env.put y x) e v/\d=xgj a rs) ∨
 (∃a b c x,R env a (.int x)/\R env (if x=0 then c else b) v/\d=tIfD a b c)
def xlw(env:En)(d:D)(k:Str):Prop:=(∃n,Nm n/\d=tNum n/\k=S "num")\/∃x,env x=some (.str k)/\d=tBox x
def xch(kn:Kn)(f:Str):Option Str:=(kn.parts.find? λp=>decide (p.1=f)).map (·.2)
abbrev RKn:=En->D->Str->Prop
def OpKd(R:RKn):RKn:=λenv d k=>∃s a b,R env a (S "num")/\R env b (S "num")/\d=tOpD s a b/\k=S "num"
def yal(ks:List Kn)(R:RKn):RKn:=λenv d k=>∃es kn,kAt ks k=some kn/\kn.rc=true/\All2 (λe (p:Str×Str)=>R env e p.2) es kn.parts/\d=tRec k es
def yam(ks:List Kn)(R:RKn):RKn:=λenv d k=>∃a k1 f kn,R env a k1/\kAt ks k1=some kn/\kn.rc=true/\xch kn f=some k/\d=tGet a f
def yak(ks:List Kn)(R:RKn):RKn:=λenv d k=>∃t a kn k1,kAt ks k=some kn/\kn.rc=false/\xch kn t=some k1/\R env a k1/\d=tTag k t a
def xzh (cs:Prop) (ks:List Kn) (R:RKn):RKn:=λenv d k=>cs/\∃a,∃rs:List (Str×Str×D),∃k1 kn,R env a k1/\kAt ks k1=some kn/\kn.rc=false/\rs≠[]/\rs.length=kn.parts.length/\(rs.map (·.1)).Nodup ∧
  (∀r∈rs,env r.2.1=none/\∃k2,xch kn r.1=some k2/\R (env.put r.2.1 (.str k2)) r.2.2 k)/\d=xgj a rs
def IfKd(R:RKn):RKn:=λenv d k=>∃a b c,R env a (S "num")/\R env b k/\R env c k/\d=tIfD a b c
def NodeKd(cs:Prop)(ks:List Kn)(R:RKn):RKn:=λenv d k=>OpKd R env d k\/yal ks R env d k\/yam ks R env d k\/yak ks R env d k\/xzh cs ks R env d k\/IfKd R env d k
def Kd(cs:Prop)(ks:List Kn):Nat->En->D->Str->Prop
 |0=>xlw
 |n+1=>λenv d k=>xlw env d k\/NodeKd cs ks (Kd cs ks n) env d k
theorem xdk{α:Type}{p:α->Bool}{xs:List α}{i:Nat}{a:α}(h:(xs.take i).find? p=none)(c:xs[i]?=some a):(p a=true->xs.find? p=some a)/\(p a=false->(xs.take (i+1)).find? p=none):=by
 have hi:i<xs.length:=(zES c).1;have e:xs[i]=a:=(zES c).2;refine⟨λb=>?_,λb=>?_⟩
 ·have f:xs=xs.take i++a::xs.drop (i+1):=by
   rw[<- e,<- List.drop_eq_getElem_cons hi,List.take_append_drop]
  rw[f,List.find?_append,h];simp[b]
 ·rw[zTA,c,List.find?_append,h]
  simp[b]
theorem Same.new2{H:Hp}{p:Addr}(h:H p=none)(o c:HO):Same H (upd (upd H p o) p c):=λb u q=>by
 have a:=neN q h;rw[xa7 a,xa7 a];exact q
end M
end
section
namespace St
open PySem PySem.Spec PyProof.Rows
def met(val:Nat->Str)(i:Nat):List Str:=((List.range i).map val).foldl step_dedup []
theorem xfx(val:Nat->Str)(i:Nat):met val (i+1)=step_dedup (met val i) (val i):=by
 unfold met;rw[List.range_succ,zAP,List.foldl_append];rfl
theorem met_len(val:Nat->Str):∀i,(met val i).length<=i
 |0=>zG _
 | i+1=>by
  have a:=met_len val i;rw[xfx];unfold step_dedup;split
  ·omega
  ·rw[zLA,List.length_singleton]
   omega
theorem xza(l:List Str)(v k:Str):(step_dedup l v).any (· == k)=(l.any (· == k) || decide (k=v)):=by
 unfold step_dedup;split
 ·rename_i h
  by_cases e:k=v
  ·subst e
   rw[h,Bool.true_or]
  ·rw[zDF e,Bool.or_false]
 ·rw[List.any_append]
  congr 1;rw[Bool.eq_iff_iff];simp;exact eq_comm
theorem xu5(l:List Str)(v:Str):(step_dedup l v).length=if l.any (· == v) then l.length else l.length+1:=by
 unfold step_dedup;split <;> simp
theorem xpk:∀{vs:List Value} {ns:List Str},StrsAre vs ns->∀(i:Nat) (v:Value),vs[i]?=some v->∃t,v=.str (ns.getD i Str.empty) t
 |_,_,.nil,i,v,h=>by simp at h
 |_,_,.cons n t r,0,v,h=>by
  simp at h;exact⟨t,h.symm⟩
 |_,_,.cons n t r,i+1,v,h=>by
  obtain⟨t',e⟩:=xpk r i v (by simpa using h);exact⟨t',by simpa using e⟩
section
variable {prog:Program}{w:World}{A:Around}{R:Result->Shared->Prop}{I:Addr}{fp wr:List Addr}{G:Array GenState->Array GenState->Prop}{n:Nat}{P:Nat->Value->Prop}{St:Nat->Shared->Prop}
theorem upd_loop (W:WalksS prog w A.in1 I fp J G n P St) (S:Addr) (z:S ∉fp)
  (val:Nat->Str) (l:∀i v,P i v->∃t,v=.str (val i) t) (j:n+1<scanBound) :
  ∀(k i:Nat) (s:Shared),n-i=k->i<=n->St i s->
   s.heap.SetOf (PySem.strKind prog w) S (λk'=>(met val i).any (· == k')) (met val i).length->
   (∀a,Moved (S::J) G s a->a.heap.SetOf (PySem.strKind prog w) S (λk'=>(met val n).any (· == k')) (met val n).length->R (.ok (.ret .none)) a)->
   codeAny (model prog w) A (.builtin "set.update.loop" ⟨[.ref S,.ref I],[]⟩) R s:=by
 have y:S ∉J:=λh=>z (W.sub _ h);have c:∀b∈J,b∈S::J:=λb j=>zP _ j;intro k
 induction k with
 | zero=>
  intro i s hk hi f hS hR;have U:i=n:=by omega
  subst U;refine codeAny_builtin F.entry_set_update_loop ?_;rw[Around.under_plainId F.plain_set_update_loop _];show wpAny _ A.in1 (pyNext (.ref I) >>= _) _ _ s;refine zE (W.done s _ _ f λa u=>?_);show wpAny _ A.in1 (ret Value.none) _ _ a
  exact zI (hR a (u.mono c) (by
   obtain⟨o,es,ep,t,O,rest⟩:=hS;exact⟨o,es,ep,t,u.heap S _ y O,rest⟩))
 | succ k ih=>
  intro i s hk hi f hS hR;have x:i<n:=by omega
  refine codeAny_builtin F.entry_set_update_loop ?_;rw[Around.under_plainId F.plain_set_update_loop _];show wpAny _ A.in1 (pyNext (.ref I) >>= _) _ _ s;refine zE (W.item i s _ _ x f λv a hP m u=>?_);obtain⟨t,rfl⟩:=l i v hP
  have a0:a.heap.SetOf (PySem.strKind prog w) S (λk'=>(met val i).any (· == k')) (met val i).length:=by
   obtain⟨o,es,ep,tb,O,rest⟩:=hS;exact⟨o,es,ep,tb,u.heap S _ y O,rest⟩
  show wpAny _ A.in1 (holding [Value.str (val i) t] (setAdd S (.str (val i) t)) >>= _) _ _ a;refine zE (zV ?_);unfold setAdd;refine zV ?_;refine zE ((PySem.strKind prog w).pyHash (k:=val i) (PySem.strKind_is _ _ _ _) ?_);have g:(met val i).length+1<scanBound:=by have:=met_len val i;omega
  refine wpAny_setAddHashed_of (knd:=PySem.strKind prog w) (s:={a with toks:=a.toks+1}) (PySem.strKind_is _ _ _ _) rfl a0 g λh' p Z=>?_
  have Y:h'.SetOf (PySem.strKind prog w) S (λk'=>(met val (i+1)).any (· == k')) (met val (i+1)).length:=
   SetOf_congr Z (λk'=>by rw[xfx,xza]) (by rw[xfx,xu5])
  refine zI ⟨plainId_quiet F.plain_set_update_loop _,ih (i+1) _ (by omega) x (W.frame _ a _ _ m (zT _) λb j o e=>?_) Y λM r C=>?_⟩
  ·rw[p.2 b (λh:b=S=>z (by rw[<- h];exact j))];exact e
  ·refine hR M (Moved.trans W.gtrans ((u.mono c).then_heap (zT _) λb o j e=>?_) r) C
   rw[p.2 b (λh:b=S=>j (by rw[h];exact List.mem_cons_self))];exact e
end
section
variable {prog:Program}{w:World}{A:Around}{E:Value->Shared->Prop}{s:Shared}
set_option maxRecDepth 100000 in
set_option maxHeartbeats 3200000 in
theorem call_set_strs {l:Addr} {items:Array Value} {ns:List Str} {Q:Value->Shared->Prop}
  (hh:A.handled=none) (hl:s.heap.IsList l items) (hi:StrsAre items.toList ns) (hb:items.size+1<scanBound)
  (h:∀(h':Heap) (tk:Nat),h'.SetOf (PySem.strKind prog w) s.heap.objs.size (λk'=>(met (λi=>ns.getD i Str.empty) items.size).any (· == k')) (met (λi=>ns.getD i Str.empty) items.size).length->
   (∀b o,b<s.heap.objs.size->s.heap.get? b=some o->h'.get? b=some o)->Q (.ref s.heap.objs.size) {s with heap:=h',toks:=tk}) :
  wpAny (model prog w) A (call (.type "set") [.ref l]) Q E s:=by
 obtain⟨c,tl,hmro⟩:=F.called_set.mro;have hmade:=F.called_set.made;have hsub:=F.called_set.sub;refine wpAny_call (codeAny_of_tree ?_);show wpAny _ _ (callAny (.type "set") _) _ _ _;refine zI ⟨Code.quiet_builtin _ (by walk_at"k"),codeAny_builtin F.entry_type_call ?_⟩;rw[Around.under_plain (weight_type_call_type "set" [.ref l] []) rfl];have h1:=F.called_set.notType;have h2:=F.called_set.canCreate;have hct:=F.typeCall_set_1 (.ref l)
 repeat (any_goals (first |assumption |wp_step))
 refine codeAny_mono (code_set_new_1 (.ref l) (E:=E) (Q₁:=λobj s₁=>∃led:Bool,obj=.ref s.heap.objs.size/\s₁={s with heap:=s.heap.push {cls:=.type "set",dict:=none,data:=.set #[] 0 (.fresh 0 0 led)}}) λled=>⟨led,rfl,rfl⟩) λr s₁ hr=>?_
 cases r with
 |error e=>exact hr
 | ok fl=>
  cases fl with
  | ret obj=>
   obtain⟨led,rfl,rfl⟩:=hr;have hS:(s.heap.push {cls:=.type "set",dict:=none,data:=.set #[] 0 (.fresh 0 0 led)}).get? s.heap.objs.size=some {cls:=.type "set",dict:=none,data:=.set #[] 0 (.fresh 0 0 led)}:=zK _ rfl;have hT:Shared.TypeIs {s with heap:=s.heap.push {cls:=.type "set",dict:=none,data:=.set #[] 0 (.fresh 0 0 led)}} (.ref s.heap.objs.size) "set":=⟨_,hS,rfl⟩;have hli:=F.called_set.init.lookup;have hbi:=F.called_set.init.bind (.ref s.heap.objs.size)
   repeat (any_goals (first |assumption |wp_step))
   refine codeAny_mono (codeAny_call_builtin (R:=wants (λr s₂=>r=.none/\∃h' tk,s₂={s with heap:=h',toks:=tk} ∧
     h'.SetOf (PySem.strKind prog w) s.heap.objs.size (λk'=>(met (λi=>ns.getD i Str.empty) items.size).any (· == k')) (met (λi=>ns.getD i Str.empty) items.size).length ∧
     (∀b o,b<s.heap.objs.size->s.heap.get? b=some o->h'.get? b=some o)) E) F.called_set.init.plain F.entry_set_init (check_set_init_1 hT ?_)) λr₂ s₂ hr₂=>?_
   ·obtain⟨ol,hol,hcl,nl,hdl⟩:=hl
    obtain⟨ocls,odict,odata,oslots⟩:=ol;simp only at hcl hdl;subst hcl;subst hdl;have hol':(s.heap.push {cls:=.type "set",dict:=none,data:=.set #[] 0 (.fresh 0 0 led)}).get? l=some {cls:=.type "list",dict:=odict,data:=.seq items nl,slots:=oslots}:=zPO _ hol;have hsls:=F.sub_list_set;have hslf:=F.sub_list_frozenset;have hne:(Value.type "list" == Value.type "dict")=false:=by decide
    have hl1:(s.heap.push {cls:=.type "set",dict:=none,data:=.set #[] 0 (.fresh 0 0 led)}).IsList l items:=⟨_,hol',rfl,nl,rfl⟩;unfold Builtin.«set.__init__» noKeywords Builtin.Frozenset.updateFrom;generalize hPI:pyIter=PI
    wp_walk
    subst hPI;refine wpAny_pyIter_list hl1 ?_;refine zE (wpAny_runValue ?_);have hlS:l<s.heap.objs.size:=zJ hol;have hh3:A.in1.in1.in1.handled=none:=by simp[hh]
    have hneI:l≠(s.heap.push {cls:=.type "set",dict:=none,data:=.set #[] 0 (.fresh 0 0 led)}).objs.size:=by
     rw[Heap.size_push];exact zN (Nat.lt_succ_of_lt hlS)
    have hSf:s.heap.objs.size ∉ [(s.heap.push {cls:=.type "set",dict:=none,data:=.set #[] 0 (.fresh 0 0 led)}).objs.size,l]:=by
     rw[Heap.size_push];simp only[List.mem_cons,List.mem_singleton,List.not_mem_nil,or_false,not_or];exact⟨zN (Nat.lt_succ_self _),Nat.ne_of_gt hlS⟩
    have hval:∀(i:Nat) (v:Value),items[i]?=some v->∃t,v=.str ((λi=>ns.getD i Str.empty) i) t:=λi v hv=>
     xpk hi i v (by rw[Array.getElem?_toList];exact hv)
    refine upd_loop ((Walks.list hh3 _ l hneI items).toS) s.heap.objs.size
     hSf (λi=>ns.getD i Str.empty) hval hb (items.size-0) 0 _ (by omega) (zY _)
     ⟨⟨_,zK _ rfl,rfl,rfl⟩,(hl1.push _)⟩ ?hS0 ?hR
    case hS0=>
     have hget:((s.heap.push {cls:=.type "set",dict:=none,data:=.set #[] 0 (.fresh 0 0 led)}).push {cls:=.type "list_iterator",data:=.fields #[.ref l,.int 0 0]}).get? s.heap.objs.size
       = some {cls:=.type "set",dict:=none,data:=.set #[] 0 (.fresh 0 0 led)}:=zPO _ hS
     exact SetOf_congr ((setObjOf_fresh (knd:=PySem.strKind prog w) led).setOf hget (by unfold scanBound;omega)) (λ_=>rfl) rfl
    case hR=>
     intro s' hm hS';obtain⟨h',g',d',tk',os'⟩:=s';have eg:g'=s.gens:=hm.gens;have ed:d'=s.drawn:=hm.drawn;have eo:os'=s.os:=hm.os;subst eg;subst ed;subst eo;show wpAny _ _ _ _ _ _;refine zI ?_;show wpAny _ _ (ret Value.none) _ _ _;refine zI ⟨rfl,h',tk',rfl,hS',λb o hb e=>?_⟩;have hb1:b≠s.heap.objs.size:=zN hb
     have hb2:b≠(s.heap.push {cls:=.type "set",dict:=none,data:=.set #[] 0 (.fresh 0 0 led)}).objs.size:=by
      rw[Heap.size_push];exact zN (Nat.lt_succ_of_lt hb)
     exact hm.heap b o (by simp only[List.mem_cons,List.mem_singleton,List.not_mem_nil,or_false,not_or];exact⟨hb1,hb2⟩) (zPO _ (zPO _ e))
   ·cases r₂ with
    |error e=>exact hr₂
    | ok fl₂=>
     cases fl₂ with
     |ret r=>
      obtain⟨rfl,h',tk,rfl,hS',hk'⟩:=hr₂
      repeat (any_goals (first |assumption |wp_step))
      exact h _ _ hS' hk'
     |_=>exact hr₂.elim
  |_=>exact hr.elim
end
end St
end
section
namespace M
open PySem L2
mutual
def D.deep:D->Nat
 |.int _=>0
 |.str _=>0
 |.tup ds=>xdd ds+1
def xdd:List D->Nat
 |[]=>0
 |d::ds=>max d.deep (xdd ds)
end
theorem xcu:∀{ds:List D} {d:D},d∈ds->d.deep<=xdd ds
 | e::ds,d,h=>by
  show d.deep<=max e.deep (xdd ds);rcases zMC h with rfl |h
  ·omega
  ·have:=xcu h
   omega
theorem xd0{n:Nat}:∀{ds:List D},(∀d∈ds,d.deep<=n)->xdd ds<=n
 |[],_=>zY _
 |e::ds,h=>by
  show max e.deep (xdd ds)<=n;have c:=h e (by simp);have b:=xd0 (ds:=ds) λd a=>h d (zP _ a);omega
section
variable {X:Cx}{pins:List (Addr×Obj)}{σ:St}{H:Hp}{s:Shared}
theorem xih{vs:List V}{its:List Value}(r:Vals vs its){j:Nat}(a:j<its.toArray.size):∃x,vs[j]?=some x/\RelV x its.toArray[j]:=by
 have b:=r.length;have h:j<its.length:=by simpa using a
 obtain⟨u,e,q⟩:=r.get (i:=j) (x:=vs[j]'(by omega)) (zGA _)
 have g:its.toArray[j]=u:=by
  have:its[j]?=some its[j]:=zGA h;rw[e]at this;simpa using (zM this).symm
 exact⟨vs[j]'(by omega),zGA _,by rw[g];exact q⟩
theorem xy9(I:Inv X pins σ H s):∀(n:Nat) (d:D) {x y:V} {u v:Value} {A:Around},d.deep<=n->RelD H x d->RelD H y d->RelV x u->RelV y v->A.units+n<cLine->SeqAt.EqAt A s u v true
 |n,.int i,x,y,u,v,A,_,hx,hy,ru,rv,_=>by
  cases hx;cases hy;obtain⟨t,rfl⟩:=ru;obtain⟨t',rfl⟩:=rv;have:=SeqAt.EqAt.int_int (A:=A) (s:=s) i t i t';rw[beq_self_eq_true]at this;exact this
 |n,.str z,x,y,u,v,A,_,hx,hy,ru,rv,_=>by
  cases hx;cases hy;obtain⟨t,rfl⟩:=ru;obtain⟨t',rfl⟩:=rv;have:=SeqAt.EqAt.str_str (A:=A) (s:=s) z t z t';rw[beq_self_eq_true]at this;exact this
 |0,.tup ds,x,y,u,v,A,h,_,_,_,_,_=>absurd h (Nat.not_succ_le_zero _)
 | n + 1,.tup ds,x,y,u,v,A,h,hx,hy,ru,rv,hA=>by
  obtain⟨a,vs,rfl,ha,rvs⟩:=hx;obtain⟨b,ws,rfl,hb,rws⟩:=hy;obtain rfl:u=.ref a:=ru;obtain rfl:v=.ref b:=rv;by_cases hab:a=b
  ·subst hab
   exact SeqAt.EqAt.same _
  ·obtain⟨its,r1,p1,_⟩:=I.tuple (zC (K:=X.K) ha)
   obtain⟨its2,r2,p2,_⟩:=I.tuple (zC (K:=X.K) hb);have l1:=r1.length;have l2:=r2.length;have l3:=rvs.length;have l4:=rws.length;have:=SeqAt.EqAt.of_refs hab (SeqAt.RcAt.tuples (A:=A) (e:=λ_=>true) p1 p2 (by omega) λj h1 h2=>?_)
   ·have e:((List.range (min its.toArray.size its2.toArray.size)).all (λ_=>true) && its.toArray.size == its2.toArray.size)=true:=by
     rw[show its.toArray.size=its2.toArray.size by simp only[List.size_toArray];omega];simp
    rw[e]at this;exact this
   ·obtain⟨x1,e1,q1⟩:=xih r1 h1
    obtain⟨x2,e2,q2⟩:=xih r2 h2;obtain⟨d1,f1,g1⟩:=rvs.get e1;obtain⟨d2,f2,g2⟩:=rws.get e2;rw[f1]at f2;cases f2;refine xy9 I n d1 ?_ g1 g2 q1 q2 (by show A.units+1+n<cLine;omega);have:=xcu (zMG f1);have h':xdd ds+1<=n+1:=h;omega
end
def five:List Nat:=[113,120,122,118,119]
def nmA(cs:List Nat)(a:Nat)(b:Int)(k:Nat):List Nat:=cs.take a++(97+((b+5*(k:Int))%26).toNat)::cs.drop a
def nmB(cs:List Nat)(a:Nat)(b:Int)(k:Nat):List Nat:=nmA cs a b (k-k%2)++List.replicate (k%2) 113
def xmz(nms:List Str):Prop:=nms.length=26/\nms.Nodup/\∀z∈nms,Name z
theorem xhk(cs:List Nat)(a:Nat)(b:Int)(k:Nat):(nmA cs a b k).length=cs.length+1:=by
 unfold nmA;rw[zLA,List.length_cons,List.length_take,List.length_drop];omega
theorem xhj(cs:List Nat)(a:Nat)(b:Int)(k:Nat):(nmB cs a b k).length=cs.length+1+k%2:=by
 unfold nmB;rw[zLA,xhk,List.length_replicate]
theorem xq4{cs:List Nat}{a:Nat}{b:Int}{k j:Nat}(e:k<26)(f:j<26)(h:nmA cs a b k=nmA cs a b j):k=j:=by
 unfold nmA at h;have c:=List.append_cancel_left h;have g:=(List.cons.inj c).1;omega
theorem xwl{cs:List Nat}{a:Nat}{b:Int}{k j:Nat}(g:k<26)(i:j<26)(h:nmB cs a b k=nmB cs a b j):k=j:=by
 have e:=congrArg List.length h;rw[xhj,xhj]at e;have c:k%2=j%2:=by omega
 unfold nmB at h;rw[c]at h;have f:=List.append_cancel_right h;have l:=xq4 (by omega) (by omega) f;omega
theorem xky{f:Nat->Str}(h:∀k j,k<26->j<26->f k=f j->k=j):((List.range 26).map f).Nodup:=by
 refine List.pairwise_map.mpr (List.Pairwise.imp_of_mem (λhi b a e=>?_) (List.pairwise_lt_range (n:=26)));have:=h _ _ (List.mem_range.mp hi) (List.mem_range.mp b) e;omega
theorem xht:∀c∈five,xfz c=true:=by decide
theorem xk7(i:Int):xfz (97+(i%26).toNat)=true:=by
 unfold xfz;have b:0<=i%26:=Int.emod_nonneg _ (by decide);have a:i%26<26:=Int.emod_lt_of_pos _ (by decide);rw[Bool.and_eq_true,decide_eq_true_eq,decide_eq_true_eq];omega
theorem xq6{l:List Nat}(i:1<=l.length)(h:l.length<=6)(f:∀c∈l,xfz c=true)(a:l.length=1\/∃c∈l,c∈five):Name (ofL l):=by
 show xov l=true;unfold xov
 have ne:∀z:List Nat,z.length≠1->(∀c∈z,c ∉five)->(l != z)=true:=λz hz g=>by
  rw[bne_iff_ne];intro e;subst e;rcases a with a |⟨c,b,a⟩
  ·exact hz a
  ·exact g c b a
 rw[ne [110,117,109] (by decide) (by decide),ne [105,116] (by decide) (by decide),zDT i,zDT h,List.all_eq_true.mpr f];rfl
theorem mem_nmA{cs:List Nat}{a:Nat}{b:Int}{k c:Nat}:c∈nmA cs a b k ↔ c∈cs\/c=97+((b+5*(k:Int))%26).toNat:=by
 unfold nmA;rw[List.mem_append,List.mem_cons]
 have e:c∈cs ↔ c∈cs.take a\/c∈cs.drop a:=by
  rw[<- List.mem_append,List.take_append_drop]
 rw[e];constructor
 ·rintro(h |h |h)
  ·exact .inl (.inl h)
  ·exact .inr h
  ·exact .inl (.inr h)
 ·rintro((h |h) |h)
  ·exact .inl h
  ·exact .inr (.inr h)
  ·exact .inr (.inl h)
theorem xtg{cs:List Nat}{a:Nat}{b:Int}{k:Nat}(g:cs.length<=4)(e:∀c∈cs,c∈five):Name (ofL (nmA cs a b k)):=by
 refine xq6 (by rw[xhk];omega) (by rw[xhk];omega) (λc f=>?_) ?_
 ·rcases mem_nmA.mp f with h |h
  ·exact xht c (e c h)
  ·rw[h];exact xk7 _
 ·cases cs with
  |nil=>exact .inl (by rw[xhk];rfl)
  |cons c r=>exact .inr ⟨c,mem_nmA.mpr (.inl (by simp)),e c (by simp)⟩
theorem xtf{cs:List Nat}{a:Nat}{b:Int}{k:Nat}(i:cs.length<=4)(f:∀c∈cs,c∈five):Name (ofL (nmB cs a b k)):=by
 refine xq6 (by rw[xhj];omega) (by rw[xhj];omega) (λc e=>?_) ?_
 ·unfold nmB at e
  rcases zMA e with e |e
  ·rcases mem_nmA.mp e with h |h
   ·exact xht c (f c h)
   ·rw[h];exact xk7 _
  ·rw[(List.mem_replicate.mp e).2];decide
 ·by_cases g:k%2=0
  ·cases cs with
   |nil=>exact .inl (by rw[xhj,g];rfl)
   |cons c r=>exact .inr ⟨c,by unfold nmB;exact List.mem_append_left _ (mem_nmA.mpr (.inl (by simp))),f c (by simp)⟩
  ·refine .inr ⟨113,?_,by decide⟩
   unfold nmB;exact List.mem_append_right _ (List.mem_replicate.mpr ⟨by omega,rfl⟩)
theorem nmsA{cs:List Nat}{a:Nat}{b:Int}(h:cs.length<=4)(i:∀c∈cs,c∈five):xmz ((List.range 26).map λk=>ofL (nmA cs a b k)):=by
 refine⟨by simp,xky λk j f g e=>xq4 f g (congrArg L e),λz hz=>?_⟩;obtain⟨k,_,rfl⟩:=zMP hz;exact xtg h i
theorem nmsB{cs:List Nat}{a:Nat}{b:Int}(h:cs.length<=4)(i:∀c∈cs,c∈five):xmz ((List.range 26).map λk=>ofL (nmB cs a b k)):=by
 refine⟨by simp,xky λk j f g e=>xwl f g (congrArg L e),λz hz=>?_⟩;obtain⟨k,_,rfl⟩:=zMP hz;exact xtf h i
theorem xs0(x:Str){j:Int}(h0:0<=j)(a:j<=x.length):Txt.slice x none (some j)=ofL ((L x).take j.toNat):=by
 have e:Txt.slice x none (some j)=StrLaws.sliceText x none (some j):=rfl;rw[e,StrLaws.sliceText_to ⟨h0,by rw[show x.cps.toList.length=x.length by simp[Str.length]];exact a⟩];show ofL ((((L x).drop 0).take (j-0).toNat))=_;rw[List.drop_zero,Int.sub_zero]
theorem xof(x:Str){j:Int}(h0:0<=j)(a:j<=x.length):Txt.slice x (some j) none=ofL ((L x).drop j.toNat):=by
 have e:Txt.slice x (some j) none=StrLaws.sliceText x (some j) none:=rfl;rw[e,StrLaws.sliceText_from ⟨h0,by rw[show x.cps.toList.length=x.length by simp[Str.length]];exact a⟩];apply xso;show((L x).drop j.toNat).take _=(L x).drop j.toNat;refine zTL ?_;rw[List.length_drop];show(L x).length-j.toNat<=(((L x).length:Int)-j).toNat;omega
theorem xrh{i:Int}(h0:0<=i)(h:i<26):atI (S "abcdefghijklmnopqrstuvwxyz").cps.toList i=some (97+i.toNat):=by
 have all:∀k,k<26->(S "abcdefghijklmnopqrstuvwxyz").cps.toList[k]?=some (97+k):=by walk_at"k"
 have a:i=((i.toNat:Nat):Int):=by omega
 have q:=xar (all i.toNat (by omega));rw[<- a]at q;exact q
theorem xw1{i:Int}(h0:0<=i)(h:i<5):∃c∈five,atI (S "qxzvw").cps.toList i=some c:=by
 have e:(S "qxzvw").cps.toList=five:=by walk_at"k"
 rw[e];exact xn8 h0 h
theorem xq5(cs:List Nat)(a ch:Nat):ofL (cs.take a)++(⟨#[ch]⟩:Str)++ofL (cs.drop a)=ofL (cs.take a++ch::cs.drop a):=by
 apply xso;rw[xe3,xe3,xej,xej,xej];show cs.take a++[ch]++cs.drop a=_;simp
end M
namespace L2
open PySem PySem.Spec PyProof.Rows
theorem xv8{X:Cx}:OpR X (binaryOp .Mult) (λx y H Q=>∃i n,x=.str i/\y=.int n/\(n=0\/n=1)/\Q (.str (if n=1 then i else Str.empty)) H):=by
 intro pins s σ H x y v u Q I rx ry h;obtain⟨i,n,rfl,rfl,hn,q⟩:=h;obtain⟨t,rfl⟩:=rx;obtain⟨t',rfl⟩:=ry;refine SB.mul ?_ λt' k=>⟨.str _,H,I.tok k,⟨t',rfl⟩,?_⟩
 ·rcases hn with rfl |rfl
  ·exact⟨by decide,λh=>absurd (by decide) h,λh=>absurd (by decide) h⟩
  ·exact⟨by decide,λ_ h=>by simp at h,λ_ h=>by simp at h⟩
 ·have e:Txt.mul i n=if n=1 then i else Str.empty:=by
   rcases hn with rfl |rfl
   ·rfl
   ·unfold Txt.mul
    rw[if_neg (by decide),if_pos (by simp),if_pos rfl]
  rw[e];exact q
end L2
end
section
namespace M
open PySem L2
structure KWf(ks:List Kn):Prop where
 nd:(ks.map Kn.name).Nodup
 nm:∀k∈ks,Name k.name
 ref:∀(i:Nat) (k:Kn),ks[i]?=some k->∀p∈k.parts,p.2=S "num"\/∃j,∃k':Kn,j<i/\ks[j]?=some k'/\k'.name=p.2
 alt:∀k∈ks,k.rc=false->k.parts≠[]
 few:ks.length<=6
 pts:∀k∈ks,k.parts.length<=5
 pnd:∀k:Kn,k∈ks->(k.parts.map (λp:Str×Str=>p.1)).Nodup
 pnm:∀k:Kn,k∈ks->∀p∈k.parts,Name p.1
theorem xef{x:Str}(h:Name x):x≠S "num":=λe=>by
 rw[e]at h;exact absurd (show xov (S "num").cps.toList=true from h) (by walk_at"k")
theorem KWf.nil:KWf []:=⟨List.nodup_nil,(λ_ h=>nomatch h),(λi k h=>by simp at h),(λ_ h=>nomatch h),zY _,(λ_ h=>nomatch h),(λ_ h=>nomatch h),(λ_ h=>nomatch h)⟩
theorem xco{α:Type}{f:α->Str}:∀{xs:List α} {i:Nat} {a:α},(xs.map f).Nodup->xs[i]?=some a->xs.find? (λz=>decide (f z=f a))=some a
 |x::xs,0,a,nd,h=>by
  simp at h;subst h;rw[List.find?_cons,zDT rfl]
 |x::xs,i+1,a,nd,h=>by
  have h':xs[i]?=some a:=by simpa using h
  rw[List.map_cons,List.nodup_cons]at nd;have b:f x≠f a:=λe=>nd.1 (by rw[e];exact zQ (zMG h'));rw[List.find?_cons,zDF b];exact xco nd.2 h'
theorem KWf.at{ks:List Kn}(w:KWf ks){i:Nat}{k:Kn}(h:ks[i]?=some k):kAt ks k.name=some k:=xco (f:=Kn.name) w.nd h
theorem KWf.no{ks:List Kn}{x:Str}(h:∀k∈ks,k.name≠x):kAt ks x=none:=by
 unfold kAt;rw[List.find?_eq_none];intro k a;simpa using h k a
theorem KWf.num{ks:List Kn}(w:KWf ks):kAt ks (S "num")=none:=KWf.no λk a=>xef (w.nm k a)
def KIn(ks:List Kn)(n:Nat)(x:Str):Prop:=x=S "num"\/∃j k,j<n/\ks[j]?=some k/\k.name=x
theorem KIn.mono{ks:List Kn}{n m:Nat}{x:Str}(h:KIn ks n x)(l:n<=m):KIn ks m x:=by
 rcases h with h |⟨j,k,a,h⟩
 ·exact .inl h
 ·exact .inr ⟨j,k,by omega,h⟩
theorem KIn.ap{ks more:List Kn}{n:Nat}{x:Str}(h:KIn ks n x):KIn (ks++more) n x:=by
 rcases h with h |⟨j,k,b,a,c⟩
 ·exact .inl h
 ·exact .inr ⟨j,k,b,by rw[List.getElem?_append_left (zES a).1];exact a,c⟩
theorem KIn.of{ks:List Kn}{x:Str}(h:x=S "num"\/∃k∈ks,k.name=x):KIn ks ks.length x:=by
 rcases h with h |⟨k,b,h⟩
 ·exact .inl h
 ·obtain⟨j,a,e⟩:=zMI b
  exact .inr ⟨j,k,a,by rw[<- e];exact zGA a,h⟩
theorem KWf.snoc {ks:List Kn} (w:KWf ks) {k:Kn} (o:k.name ∉ks.map Kn.name) (n:Name k.name) (m:∀p∈k.parts,KIn ks ks.length p.2) (l:k.rc=false->k.parts≠[]) (r:ks.length<6) (j:k.parts.length<=5)
  (h:(k.parts.map (·.1)).Nodup) (g:∀p∈k.parts,Name p.1):KWf (ks++[k]):=by
 have c:∀{q:Kn->Prop},(∀z∈ks,q z)->q k->∀z∈ks++[k],q z:=λa b z hz=>by
  rcases zMA hz with hz |hz
  ·exact a z hz
  ·rw[zMO hz];exact b
 refine⟨?_,c w.nm n,?_,c w.alt l,by rw[zLA,List.length_singleton];omega,c w.pts j,c w.pnd h,c w.pnm g⟩
 ·rw[zAP]
  exact xmi w.nd o
 ·intro i z hz p f
  by_cases hi:i<ks.length
  ·rw[List.getElem?_append_left hi]at hz
   exact KIn.ap (w.ref i z hz p f)
  ·rw[List.getElem?_append_right (by omega)]at hz
   have e:i-ks.length=0:=by
    have:=(zES hz).1;simp at this;omega
   rw[e]at hz;simp at hz;subst hz;exact(m p f).ap.mono (by omega)
def maxD:List Int->Int
 |[]=>0
 |n::ns=>max n (maxD ns)
theorem xrb:∀{ns:List Int} {n:Int},n∈ns->n<=maxD ns
 | m::ns,n,h=>by
  show n<=max m (maxD ns);rcases zMC h with rfl |h
  ·omega
  ·have:=xrb h
   omega
theorem xji:∀{ns:List Int},ns≠[]->(∀n∈ns,0<=n)->maxD ns∈ns
 |[n],_,h=>by
  have h0:=h n (by simp);show max n 0∈[n];rw[Int.max_eq_left h0];simp
 |n::m::ns,_,h=>by
  have a:=xji (ns:=m::ns) (by simp) λx b=>h x (zP _ b);show max n (maxD (m::ns))∈n::m::ns;rcases Int.le_total n (maxD (m::ns)) with e |e
  ·rw[Int.max_eq_right e];exact zP _ a
  ·rw[Int.max_eq_left e];simp
theorem xwn{ns:List Int}{m:Int}(hn:ns≠[])(h0:∀n∈ns,0<=n)(a:m∈ns)(h:∀n∈ns,n<=m):m=maxD ns:=by
 have c:=xrb a;have b:=h _ (xji hn h0);omega
def szF:Nat->List Kn->Str->Int
 |0,_,_=>1
 |n+1,ks,x=>match kAt ks x with
  |none=>1
  |some k=>1+(if k.rc=true then (k.parts.map λp=>szF n ks p.2).sum else maxD (k.parts.map λp=>szF n ks p.2))
theorem xg4{ks:List Kn}(e:∀k∈ks,k.parts.length<=5):∀(n:Nat) (x:Str),1<=szF n ks x/\szF n ks x<=6 ^ n
 |0,x=>by simp[szF]
 | n + 1,x=>by
  unfold szF;have u:(1:Int)<=6 ^ n:=Int.pow_pos (by decide);have w:(6:Int) ^ (n+1)=6*6 ^ n:=by rw[Int.pow_succ,Int.mul_comm]
  cases j:kAt ks x with
  |none=>simp only;omega
  | some k=>
   simp only;have c:=e k (zMF j)
   have all:∀m∈k.parts.map (λp=>szF n ks p.2),1<=m/\m<=6 ^ n:=λm b=>by
    obtain⟨p,_,rfl⟩:=zMP b;exact xg4 e n p.2
   have i:(k.parts.map (λp=>szF n ks p.2)).length<=5:=by rw[zLM];exact c
   generalize k.parts.map (λp=>szF n ks p.2)=ns at all i⊢
   have hs:∀(l:List Int),(∀m∈l,1<=m/\m<=(6:Int) ^ n)->0<=l.sum/\l.sum<=l.length*6 ^ n:=by
    intro l
    induction l with
    |nil=>intro _;simp
    |cons a r g=>
     intro h;have s:=h a (by simp);have o:=g λm b=>h m (zP _ b);rw[List.sum_cons,List.length_cons];push_cast;rw[Int.add_mul];omega
   have b:0<=maxD ns/\maxD ns<=6 ^ n:=by
    by_cases f:ns=[]
    ·subst f;simp[maxD];omega
    ·have:=all _ (xji f λm b=>by have:=all m b;omega)
     omega
   have s:=hs ns all;have o:(ns.length:Int)*6 ^ n<=5*6 ^ n:=Int.mul_le_mul_of_nonneg_right (by omega) (by omega);split <;> omega
def KsSeq(H:Hp)(v:V)(ks:List Kn):Prop:=∃a vs,v=.ref a/\(H a=some (.lst vs)\/H a=some (.tup vs))/\RelDs H vs (ks.map Kn.d)
theorem KsSeq.same{H b:Hp}{v:V}{ks:List Kn}(h:KsSeq H v ks)(s:Same H b):KsSeq b v ks:=by
 obtain⟨a,vs,e,f,c⟩:=h;exact⟨a,vs,e,f.imp (s _ _) (s _ _),c.same s _⟩
theorem KWf.ksAt{ks:List Kn}(w:KWf ks){H:Hp}{v:V}(h:RelD H v (xbx ks)):KsAt H v ks:=⟨h,by have:=w.few;omega,λk a=>by have:=w.pts k a;omega⟩
theorem KsAt.seq{H:Hp}{v:V}{ks:List Kn}(h:KsAt H v ks):KsSeq H v ks:=by
 obtain⟨a,vs,e,c,b⟩:=h.1;exact⟨a,vs,e,.inr c,b⟩
def xgl:Option Kn->Str
 |some k=>k.sort
 |none=>S "num"
end M
namespace L2
open PySem PySem.Spec PyProof.Rows
theorem xv0{X:Cx}{b it:Expr}{e c:TI}(g:PI X b it e)(f:PI X b it c):PI X b it (λσ H R=>e σ H R\/c σ H R):=λa s σ H R I h=>by
 rcases h with h |h
 ·exact g a s σ H R I h
 ·exact f a s σ H R I h
end L2
namespace L2
theorem xgx{σ:St}{H:Hp}{A B:Hp->Prop}(h:A H):tYes σ H (λb a=>if b=true then A a else B a):=by
 unfold tYes;show if true=true then A H else B H;rw[if_pos rfl];exact h
end L2
namespace M
open PySem L2
theorem Fed.put{f p:Addr}{H c:Hp}(h:Fed f H c)(i:H p=none)(j:p≠f)(o:HO):Fed f H (upd c p o):=by
 obtain⟨s,x,y,e⟩:=h;refine⟨λb u a g=>?_,x,y,?_⟩
 ·rw[xa7 (neN a i)]
  exact s b u a g
 ·rw[xa7 (Ne.symm j)]
  exact e
theorem xbk{H:Hp}{p:Addr}{us:List V}(h:H p=some (.lst us))(o:HO):∀b vs,H b=some (.tup vs)->upd H p o b=some (.tup vs):=λb vs a=>by
 rw[xa7 λe=>by rw[e,h]at a;cases a];exact a
theorem xjh{ks:List Kn}{r:Int}(h0:0<=r)(h:r<1+(ks.length:Int)):∃x,atI ([V.str (S "num")]++(ks.map Kn.name).map V.str) r=some (.str x)/\KIn ks ks.length x:=by
 have e:[V.str (S "num")]++(ks.map Kn.name).map V.str=(S "num"::ks.map Kn.name).map V.str:=rfl;obtain⟨z,hz,b⟩:=xn8 (cs:=(S "num"::ks.map Kn.name).map V.str) h0 (by rw[zLM,List.length_cons,zLM];push_cast;omega);obtain⟨y,a,rfl⟩:=zMP hz;refine⟨y,by rw[e];exact b,?_⟩;rcases zMC a with rfl |a
 ·exact .inl rfl
 ·obtain⟨k,c,rfl⟩:=zMP a
  exact KIn.of (.inr ⟨k,c,rfl⟩)
theorem xm9{ys:List Str}{i:Nat}(h:i<ys.length):atI (ys.map V.str) (0+(i:Int))=some (.str ys[i]):=by
 rw[Int.zero_add];exact xar (by rw[zGM,zGA h];rfl)
theorem xu6{a:List Str}(h:a.length=26):cutV (a.map V.str) (some 8) (some 12)=((a.drop 8).take 4).map V.str:=by
 unfold cutV HT.sIx;rw[zLM,h,List.map_take,List.map_drop];rfl
theorem xyf{a:List Str}(h:xmz a)(i:Nat):(((a.drop 8).take 4).take i).Nodup/\∀z∈((a.drop 8).take 4).take i,Name z:=by
 have hs:(((a.drop 8).take 4).take i).Sublist a:=((List.take_sublist _ _).trans (List.take_sublist _ _)).trans (List.drop_sublist _ _);exact⟨h.2.1.sublist hs,λz hz=>h.2.2 z (hs.subset hz)⟩
theorem xq3{a:List Str}(h:a.Nodup){i:Nat}(hi:i<a.length):a[i] ∉a.take i:=λb=>by
 obtain⟨j,c,e⟩:=zMI b;rw[List.length_take]at c;rw[List.getElem_take]at e;have:=(List.getElem_inj h).mp e;omega
def xua(nms:List Str)(ks:List Kn):Prop:=KWf ks/\ks.length<=4/\ks.map Kn.name=nms.take ks.length/\∀k∈ks,k.parts.length<=4/\k.parts.map (·.1)=((nms.drop 8).take 4).take k.parts.length
theorem xuz{A:Around}{k:Nat}(a:Room k A):A.units+200<cLine:=by
 have:=a.un;omega
def nuT:Nat->List Kn->Str->D
 |0,_,_=>tNum 0
 | n+1,ks,x=>match kAt ks x with
  |none=>tNum 0
  |some k=>if k.rc=true then tRec x (k.parts.map λp=>nuT n ks p.2) else match k.parts with
   |[]=>tNum 0
   |p::_=>tTag x p.1 (nuT n ks p.2)
def nuV:Nat->List Kn->Str->D
 |0,_,_=>.int 0
 | n+1,ks,x=>match kAt ks x with
  |none=>.int 0
  |some k=>if k.rc=true then .tup [.str x,.tup (k.parts.map λp=>nuV n ks p.2)] else match k.parts with
   |[]=>.int 0
   |p::_=>.tup [.str x,.str p.1,nuV n ks p.2]
theorem KIn.look{ks:List Kn}(wf:KWf ks){m:Nat}{x:Str}(h:KIn ks m x):(x=S "num"/\kAt ks x=none)\/∃j k,m=j+1/\kAt ks x=some k/\k.name=x/\k∈ks/\∀p∈k.parts,KIn ks j p.2:=by
 rcases h with rfl |⟨j,k,e,a,rfl⟩
 ·exact .inl ⟨rfl,wf.num⟩
 ·refine .inr ⟨m-1,k,by omega,wf.at a,rfl,zMG a,λp c=>?_⟩
  rcases wf.ref j k a p c with z |⟨i,b,hi,z⟩
  ·exact .inl z
  ·exact .inr ⟨i,b,by omega,z⟩
def NuAt (ks:List Kn) (m:Nat) (x:Str):Prop:=
  (x=S "num"/\kAt ks x=none/\nuT (m+1) ks x=tNum 0/\nuV (m+1) ks x=.int 0) ∨
  ∃ j k,m=j+1/\kAt ks x=some k/\k.name=x/\k∈ks/\(∀p∈k.parts,KIn ks j p.2)/\x≠S "num" ∧
    ((k.rc=true/\nuT (m+1) ks x=tRec x (k.parts.map λp=>nuT m ks p.2)/\nuV (m+1) ks x=.tup [.str x,.tup (k.parts.map λp=>nuV m ks p.2)]) ∨
     (k.rc=false/\∃p r,k.parts=p::r/\nuT (m+1) ks x=tTag x p.1 (nuT m ks p.2)/\nuV (m+1) ks x=.tup [.str x,.str p.1,nuV m ks p.2]))
theorem KIn.nu{ks:List Kn}(wf:KWf ks){m:Nat}{x:Str}(h:KIn ks m x):NuAt ks m x:=by
 rcases h.look wf with⟨rfl,e⟩ |⟨j,k,rfl,e,hn,b,g⟩
 ·refine .inl ⟨rfl,e,?_,?_⟩
  ·unfold nuT;rw[e]
  ·unfold nuV;rw[e]
 ·refine .inr ⟨j,k,rfl,e,hn,b,g,by rw[<- hn];exact xef (wf.nm k b),?_⟩
  cases a:k.rc with
  | true=>
   refine .inl ⟨rfl,?_,?_⟩
   ·conv=>lhs;unfold nuT
    rw[e];show(if k.rc=true then _ else _)=_;rw[if_pos a]
   ·conv=>lhs;unfold nuV
    rw[e];show(if k.rc=true then _ else _)=_;rw[if_pos a]
  | false=>
   obtain⟨p,r,c⟩:∃p r,k.parts=p::r:=by
    cases f:k.parts with
    |nil=>exact absurd f (wf.alt k b a)
    |cons p r=>exact⟨p,r,rfl⟩
   refine .inr ⟨rfl,p,r,c,?_,?_⟩
   ·conv=>lhs;unfold nuT
    rw[e];show(if k.rc=true then _ else _)=_;rw[if_neg (by rw[a];decide),c]
   ·conv=>lhs;unfold nuV
    rw[e];show(if k.rc=true then _ else _)=_;rw[if_neg (by rw[a];decide),c]
theorem xgw{α β γ:Type}{R:β->γ->Prop}{f:α->β}{g:α->γ}:∀{xs:List α},(∀x∈xs,R (f x) (g x))->All2 R (xs.map f) (xs.map g)
 |[],_=>.nil
 |x::xs,h=>.cons (h x (by simp)) (xgw λy a=>h y (zP _ a))
theorem xmg{ks:List Kn}(wf:KWf ks):∀(m:Nat) (x:Str),KIn ks m x->∀env,Kd False ks m env (nuT (m+1) ks x) x
 |0,x,h,env=>by
  rcases h.nu wf with⟨rfl,_,e,_⟩ |⟨j,k,e,_⟩
  ·rw[e];exact .inl ⟨0,⟨by decide,by decide⟩,rfl,rfl⟩
  ·cases e
 | m+1,x,h,env=>by
  rcases h.nu wf with⟨rfl,_,e,_⟩ |⟨j,k,n,i,hn,o,c,_,⟨b,e,_⟩ |⟨b,p,r,l,e,_⟩⟩
  ·rw[e];exact .inl (.inl ⟨0,⟨by decide,by decide⟩,rfl,rfl⟩)
  ·cases n
   rw[e];refine .inr (.inr (.inl ⟨_,k,i,b,?_,rfl⟩));have:=xgw (R:=λe (p:Str×Str)=>Kd False ks m env e p.2) (f:=λp:Str×Str=>nuT (m+1) ks p.2) (g:=λp=>p) (xs:=k.parts) λp a=>xmg wf m p.2 (c p a) env;rw[List.map_id']at this;exact this
  ·cases n
   rw[e];refine .inr (.inr (.inr (.inr (.inl ⟨p.1,_,k,p.2,i,b,?_,xmg wf m p.2 (c p (by rw[l];simp)) env,rfl⟩))));unfold xch;rw[l,List.find?_cons,zDT rfl];rfl
end M
end
section
namespace L2
open PySem PySem.Spec PyProof.Rows
theorem xy0{P:Program}{w:World}{k:Key}{v:Value}(h:(xcf P w).is k v=true):RelV (kV k) v:=by
 cases k with
 |inl i=>
  have h':Value.isInt i v=true:=h;unfold Value.isInt at h';split at h' <;> simp_all [RelV,kV]
 |inr x=>
  have h':Value.isStrOf x v=true:=h;unfold Value.isStrOf at h';split at h' <;> simp_all [RelV,kV]
theorem xo7:∀{xs:List V} {us:List Value},xs.length=us.length->(∀(i:Nat) x u,xs[i]?=some x->us[i]?=some u->RelV x u)->Vals xs us
 |[],[],_,_=>.nil
 |[],_::_,h,_=>by simp at h
 |_::_,[],h,_=>by simp at h
 |x::xs,u::us,h,k=>.cons (k 0 x u rfl rfl) (xo7 (by simpa using h) λi y w a b=>k (i+1) y w (by simpa using a) (by simpa using b))
theorem KV.get{κ:Type}{kvs:List (κ×V)}{vs:List (κ×Value)}(r:KV kvs vs){i:Nat}{p:κ×V}{q:κ×Value}(a:kvs[i]?=some p)(b:vs[i]?=some q):p.1=q.1:=by
 unfold KV at r
 induction r generalizing i with
 |nil=>simp at a
 | cons h t c=>
  cases i with
  |zero=>
   simp at a b;subst a b;exact h.1
  |succ i=>exact c (by simpa using a) (by simpa using b)
section
variable {X:Cx}
theorem xin(hc:X.calm=true):xec X (.type "list") (λxs H Q=>∃a,∃kvs:List (Key×V),xs=[V.ref a]/\H a=some (.dK kvs)/\∀l,H l=none->Q (.ref l) (upd H l (.lst (kvs.map λkv=>kV kv.1)))):=by
 intro pins s σ H xs us Q I r h;obtain⟨a,kvs,rfl,ha,q⟩:=h;obtain⟨u,rfl,ru⟩:=xfl r;cases ru;obtain⟨z,hd,vs,rel,dd⟩:=xr9 I.hok ha;obtain⟨ep,hat⟩:=dd.dictAt;have hl:=rel.length;refine PySem.W.kdl_call (PySem.W.kdl_dict hd) (I.ok.hd hc) hat (by rw[<- hl];exact z) λh' tk acc' c' hk hD hacc=>?_;refine⟨.ref s.heap.objs.size,_,I.laid hk (zG _) (o:=.lst (kvs.map λkv=>kV kv.1)) ⟨by rw[zLM];exact z,acc'.toList,c',?_,by simpa using hD⟩,rfl,q _ (I.hok.fresh (zG _))⟩;refine xo7 (by have:=hacc.1;rw[zLM];simp only[Array.length_toList];omega) λi x u hx hu=>?_;rw[zGM]at hx;obtain⟨p,hp,rfl⟩:=zMS hx;obtain⟨k,y,hky,hk'⟩:=hacc.2 i u (by rw[<- Array.getElem?_toList];exact hu);have e:p.1=k:=KV.get rel hp hky;rw[e];exact xy0 hk'
end
theorem xt9:bootBuiltins "reversed"=some (.type "reversed"):=by walk_at"k"
end L2
end
section
namespace St
open PySem PySem.Spec PyProof.Rows
theorem xk1{ns:List Str}(nd:ns.Nodup):∀i,i<=ns.length->met (λi=>ns.getD i Str.empty) i=ns.take i
 |0,_=>rfl
 | i+1,h=>by
  rw[xfx,xk1 nd i (by omega)];have e:ns.getD i Str.empty=ns[i]:=by simp[List.getD,zGA (show i<ns.length by omega)]
  show step_dedup (ns.take i) (ns.getD i Str.empty)=_;rw[e];unfold step_dedup;rw[if_neg,zTA,zGA (show i<ns.length by omega)]
  ·rfl
  ·intro l
   obtain⟨x,c,g⟩:=List.any_eq_true.mp l;have b:x=ns[i]:=by simpa using g
   subst b;obtain⟨j,f,a⟩:=List.getElem_of_mem c;rw[List.length_take]at f;rw[List.getElem_take]at a;have:=(List.getElem_inj nd).mp a;omega
end St
namespace L2
open PySem PySem.Spec PyProof.Rows
theorem xna:∀{ns:List Str} {us:List Value},Vals (ns.map V.str) us->StrsAre us ns
 |[],_,h=>by cases h;exact .nil
 | x::r,_,h=>by
  cases h with
  |cons a b=>
   obtain⟨t,rfl⟩:=a;constructor;exact xna b
theorem xv7{X:Cx}:OpR X (compareOp .IsNot) (λx y H Q=>y=.bl true/\∃b,x=.bl b/\Q (.bl (!b)) H):=by
 intro pins s σ H x y v u Q I rx ry h;obtain⟨rfl,b,rfl,q⟩:=h;cases rx;cases ry;cases b <;> exact zI (xbt I q rfl)
end L2
end
section
namespace M
open PySem L2
theorem xj4{ks:List Kn}{k:Kn}{x:Str}(h:kAt ks x=some k)(n:Nat):szF (n+1) ks x=1+(if k.rc=true then (k.parts.map λp=>szF n ks p.2).sum else maxD (k.parts.map λp=>szF n ks p.2)):=by
 conv=>lhs;unfold szF
 rw[h]
theorem xfc {ks:List Kn} {x:Str} (h:kAt ks x=none):∀n,szF n ks x=1
  |0=>rfl
  | n + 1 => by conv => lhs;unfold szF
                rw[h]
theorem xsv{ks:List Kn}(w:KWf ks)(j:Nat):∀(x:Str),KIn ks j x->∀n,j+1<=n->szF n ks x=szF (j+1) ks x:=by
 induction j with
 |zero=>
  intro x h n hn;rcases h.look w with⟨rfl,e⟩ |⟨i,k,b,_⟩
  ·rw[xfc e,xfc e]
  ·cases b
 | succ j c=>
  intro x h n hn;rcases h.look w with⟨rfl,e⟩ |⟨i,k,b,e,_,_,f⟩
  ·rw[xfc e,xfc e]
  ·cases b
   obtain⟨m,rfl⟩:∃m,n=m+1:=⟨n-1,by omega⟩;have this:(k.parts.map λp=>szF m ks p.2)=k.parts.map λp=>szF (j+1) ks p.2:=List.map_congr_left λp a=>c p.2 (f p a) m (by omega);rw[xj4 e,xj4 e,this]
def sz(ks:List Kn)(x:Str):Int:=szF 7 ks x
theorem xxs{ks:List Kn}(w:KWf ks):sz ks (S "num")=1:=xfc w.num _
theorem xzu{ks:List Kn}(w:KWf ks)(x:Str):1<=sz ks x:=(xg4 w.pts 7 x).1
def inSz(k:Kn)(f:Str->Int):Int:=if k.rc=true then (k.parts.map λp=>f p.2).sum else maxD (k.parts.map λp=>f p.2)
theorem xii{k:Kn}{f g:Str->Int}(h:∀p∈k.parts,f p.2=g p.2):inSz k f=inSz k g:=by
 unfold inSz;rw[List.map_congr_left (g:=λp=>g p.2) h]
theorem xzv{ks:List Kn}(w:KWf ks){i:Nat}{k:Kn}(h:ks[i]?=some k):sz ks k.name=1+inSz k (sz ks):=by
 have c:=w.few;have hi:i<ks.length:=(zES h).1;show szF 7 ks k.name=_;rw[xj4 (w.at h)];show 1+inSz k (szF 6 ks)=_;rw[xii (g:=sz ks)];intro p b;have a:KIn ks 5 p.2:=KIn.mono (n:=i) (w.ref i k h p b) (by omega);exact(xsv w 5 p.2 a 7 (by omega)).symm
theorem xyy{ks more:List Kn}{x:Str}{k:Kn}(h:kAt ks x=some k):kAt (ks++more) x=some k:=by
 unfold kAt at h⊢;rw[List.find?_append,h];rfl
theorem xue{ks more:List Kn}(w:KWf ks)(b:KWf (ks++more)):∀(n:Nat) (x:Str),KIn ks ks.length x->szF n (ks++more) x=szF n ks x
 |0,_,_=>rfl
 |n+1,x,h=>by
  rcases h.look w with⟨rfl,e⟩ |⟨i,k,f,e,_,_,c⟩
  ·rw[xfc e,xfc b.num]
  ·rw[xj4 e,xj4 (xyy e),List.map_congr_left (g:=λp=>szF n ks p.2) λp a=>xue w b n p.2 ((c p a).mono (by omega))]
theorem xxt{ks more:List Kn}(w:KWf ks)(a:KWf (ks++more)){x:Str}(h:KIn ks ks.length x):sz (ks++more) x=sz ks x:=xue w a 7 x h
def Fit(ks:List Kn):Prop:=∀k∈ks,sz ks k.name<=30
theorem Fit.nil:Fit []:=λ_ h=>nomatch h
theorem Fit.snoc{ks:List Kn}{k:Kn}(w:KWf ks)(a:KWf (ks++[k]))(f:Fit ks)(c:∀p∈k.parts,KIn ks ks.length p.2)(e:inSz k (sz ks)<=29):Fit (ks++[k]):=by
 intro z hz;rcases zMA hz with hz |hz
 ·rw[xxt w a (KIn.of (.inr ⟨z,hz,rfl⟩))]
  exact f z hz
 ·rw[zMO hz,xzv a (i:=ks.length) (by simp),xii (g:=sz ks) λp b=>xxt w a (c p b)]
  omega
end M
end
section
namespace L2
open PySem PySem.Spec PySem.W PySem.Calls PyProof.Rows
open Builtin Builtin.ObjectAttr
section
variable {prog:Program}{w:World}{A:Around}{E:Value->Shared->Prop}{s:Shared}{K:Frag}{x C:Addr}{ox:Obj}{od:Option Obj}{name:Str}
structure XCls(K:Frag)(C:Addr):Prop where
 ga:findIn K (.ref C) "__getattribute__"=some (some (.builtin "BaseException.__getattribute__"))
 gk:findIn K (.ref C) "__getattr__"=some none
 mb:mroIn K C (.type "BaseException")=some true
 mo:mroIn K C (.type "object")=some true
 hd:hasDictIn K C=true
 ca:findIn K (.ref C) "__class__"=some (some (.builtin "object.__class__"))
 cn:specialIn K (.builtin "object.__class__") "__get__"=some (some (.builtin "getset_descriptor.__get__"))
 ct:takesIn K (.builtin "object.__class__")=some true
theorem xy7 {l:Tok} {m b:Bool} {Q P:Value->Shared->Prop} (X:K.In s.heap) (I:InstAt s.heap x ox C od) (c:XCls K C)
  (h:∀(A' z:Around) (R:Result->Shared->Prop),(∀v a,P v a->R (.ok (.ret v)) a)->wpAny (model prog w) A' (Builtin.«object.__getattribute__» ⟨[.ref x,.str name l],[]⟩)
   (λfin a=>match fin with |.done f=>R (.ok f) a |.again G=>G.quiet=true/\codeAny (model prog w) z G R a) (λe a=>R (.error e) a) s)
  (hP:∀v a,P v a->wpAny (model prog w) A (handedOut v) Q E a) :
  wpAny (model prog w) A (getAttrBy (.ref x) (.str name l) m b) Q E s:=by
 obtain⟨Y,g,d,t,os⟩:=s;have J:=I.type (M:=model prog w);have L1:=looks_findIn (M:=model prog w) X c.ga;have L2:=looks_findIn (M:=model prog w) X c.gk;have L3:=looks_mroIn (M:=model prog w) X c.mb;have o:(Value.builtin "BaseException.__getattribute__" == Value.builtin "object.__getattribute__")=false:=by walk_at"k"
 have u:(onTheHeap (Value.ref C) && Value.builtin "BaseException.__getattribute__" == Value.builtin "object.__getattribute__")=false:=by rw[o];rfl
 have y:(b && onTheHeap (Value.builtin "BaseException.__getattribute__"))=false:=by cases b <;> rfl
 unfold getAttrBy;refine zV (zE (J.at (zE (L1.at ?_))));dsimp only;rw[if_neg (by rw[u];decide)];have O:=PySem.F.attrBase_ValueError;have U:builtinKind "BaseException.__getattribute__"=some .slot:=by walk_at"k"
 have j:splitId "BaseException.__getattribute__"=some ("BaseException","__getattribute__"):=by walk_at"k"
 unfold getAttrByItsOwn;refine zE ?_;unfold hookBefore;rw[if_pos (show onTheHeap (Value.ref C)=true from rfl)];refine L2.at ?_;refine zE (wpAny_attempt (zV ?_));unfold callGetattribute;rw[if_neg (by rw[y];decide)];unfold boundAndCalled;rw[O.ga.bind (.ref x)];refine zE (zI ?_);refine wpAny_call (codeAny_mono (R:=λr a=>∃v,r=.ok (.ret v)/\P v a) (codeAny_call_builtin O.ga.plain PySem.F.entry_bexc_ga ?_) λr a ⟨v,e,p⟩=>?_)
 ·show wpAny _ _ (checkBuiltinCall "BaseException.__getattribute__" ⟨[.ref x,.str name l],[]⟩) _ _ _
  have Z:argsOk "BaseException.__getattribute__" ⟨[.ref x,.str name l],[]⟩:=PySem.F.args_bexc_ga (.ref x) (.str name l);have hI:Looks (model prog w) Y (isInstance (.ref x) (.type "BaseException")) true:=J.andThen L3;refine check_slot (i:="BaseException.__getattribute__") (owner:="BaseException") (n:="__getattribute__") (self:=.ref x) (rest:=[.str name l]) (kw:=[]) U j hI Z ?_;exact h _ _ (λr a=>∃v,r=.ok (.ret v)/\P v a) λv a p=>⟨v,rfl,p⟩
 ·subst e
  exact hP v a p
theorem xr2 {Q:Option Value->Shared->Prop} (X:K.In s.heap) (I:InstAt s.heap x ox C od) (c:XCls K C) (h:Q (some (.ref C)) {s with toks:=s.toks+1}) :
  wpAny (model prog w) A (getAttr? (.ref x) "__class__") Q E s:=by
 have f:findObj K C od "__class__"=some (.bind (.builtin "getset_descriptor.__get__") (.builtin "object.__class__")):=by
  obtain⟨r,i,_⟩:=any_some c.hd;unfold findObj;rw[i,Option.bind_some,c.ca,Option.bind_some];dsimp only;rw[c.cn,Option.bind_some];dsimp only;rw[c.ct,Option.bind_some]
 unfold getAttr?;refine zE (wpAny_mkText ?_);unfold getAttrBy?;refine zE (wpAny_attempt ?_);refine xy7 (s:={s with toks:=s.toks+1}) (P:=λa b=>a=.ref C/\b={s with toks:=s.toks+1}) X I c (λu p R j=>?_) λa b ⟨m,l⟩=>?_
 ·obtain⟨h0,g,d,t,e⟩:=s
  have o:=I.type (M:=model prog w);have n:=looks_find (M:=model prog w) X I f;unfold Builtin.«object.__getattribute__»;refine zE (zI ?_);refine zE (zI (zE (o.at (zE (n.at ?_)))));show wpAny _ _ (bindTo (Value.builtin "getset_descriptor.__get__") (Value.builtin "object.__class__") (.ref x) (.ref C)) _ _ _;unfold bindTo;dsimp only;exact zE (zV (wpAny_call (class_get (s:=⟨h0,g,d,t+1,e⟩) (ox:=ox) (od:=od) X I c.mo (zI (j _ _ ⟨rfl,rfl⟩)))))
 ·subst m l
  exact zI (zI h)
theorem xnv(c:XCls K C):KitX K (.ref x) (.ref C) (λh=>∃ox od,InstAt h x ox C od) where
 ty:=λ_ _ _ ⟨_,_,I⟩=>I.type
 it:=λ_ _ X _=>by
  obtain⟨cdD,hcD,_⟩:=any_some c.hd;unfold clsIn at hcD;split at hcD
  ·rename_i c' d' cd' sl' ho
   intro A' Q' E' s' k q;unfold isType loadHead;exact zE (wpAny_loadPart (k _ _ (X _ _ ho)) (zI q))
  ·cases hcD
 ne:=λh tp dd its n sl X htp=>by
  obtain⟨cdD,hcD,_⟩:=any_some c.hd;refine Bool.eq_false_iff.mpr λq=>?_;have e:C=tp:=Value.ref.inj (beq_iff_eq.mp q);subst e;unfold clsIn at hcD;split at hcD
  ·rename_i c' d' cd' sl' ho
   have z:=(X _ _ ho).symm.trans htp;cases z
  ·cases hcD
 ca:=λX ⟨_,_,I⟩ k=>xr2 X I c k
end
section
variable {prog:Program}{w:World}{A:Around}{E:Value->Shared->Prop}{h:Heap}{g:Array GenState}{d:Drawn}{t:Nat}{os:OsState}
variable {nm q:Str}{C N:Addr}{bs bm bmB:List Value}{hdct:Bool}{sn:List Str}{sub:List Value}{ab:Bool}{col:Option Bool}{dd:Option Addr}{k0 k1 k2 k3 k5:Option Value}{B newId initId:String}
abbrev newExc(C t:Addr)(dx:Option Addr):Obj:={cls:=.ref C,dict:=dx,data:=.fields #[.ref t,.none,.none,.none,.bool false,.none]}
abbrev xga(rest:List Value):Obj:={cls:=.type "tuple",data:=.seq rest.toArray}
theorem xjq (F:ExcBaseFacts B a j n) (T:OwnTail h n u) {rest:List Value} {init:Value} {Q:Fin->Shared->Prop}
  (i:h.get? C=some (excClassObj nm q C N bs u s O sub ab M dd k0 k1 Z Y U a)) (hi:Looks (model prog w) h (typeLookup (.ref C) "__init__") (some init))
  (I:∀self,Looks (model prog w) h (bindSpecial init self) (init,[self]))
  (G:wpAny (model prog w) A (call init (.ref (h.objs.size+1)::rest)) (λr p=>r=.none/\Q (.done (.ret (.ref (h.objs.size+1)))) p) E ⟨(h.push (xga rest)).push (newExc C h.objs.size none),g,d,t,y⟩) (c:rest.length<=sizeLine) :
  wpAny (model prog w) A (Builtin.«type.__call__» ⟨.ref C::rest,[]⟩) Q E ⟨h,g,d,t,y⟩:=by
 repeat (first |with_reducible refine wpAny_loadPart_at i ?_ |with_reducible refine wpAny_madeBy_exc i ?_ |wp_step)
 refine codeAny_call_builtin_code (Code.quiet_builtin _ F.quiet) (wpAny_check_new_subT F T i ?_);refine codeAny_exc_new_subT F T i ?_ c;show wpAny _ _ _ _ _ _;have up:∀b o,h.get? b=some o->((h.push (xga rest)).push (newExc C h.objs.size none)).get? b=some o:=λb o e=>zPO _ (zPO _ e);have m:=up _ _ i;have f:((h.push (xga rest)).push (newExc C h.objs.size none)).get? (h.objs.size+1)=some (newExc C h.objs.size none):=by heap_get
 have l:(Value.ref C::u).contains (.ref C)=true:=by simp
 unfold isInstance
 repeat (first |with_reducible refine wpAny_loadPart_at f ?_ |(with_reducible refine wpAny_isSubtype_exc m ?_;rw[l]) |wp_step)
 show wpAny _ _ (typeLookup (.ref C) _) _ _ _;refine hi _ _ _ _ up ?_;refine zV (zE (I _ _ _ _ _ up ?_));refine zE (wpAny_mono G (λr p z=>?_) λ_ _ x=>x);obtain⟨rfl,J⟩:=z
 wp_walk
 exact J
theorem xty (F:ExcBaseFacts B a c f) (T:OwnTail h f p) {rest:List Value} {init:Value} {Q:Value->Shared->Prop}
  (e:h.get? C=some (excClassObj nm q C N bs p l s sub Y o U I G y x u a)) (hi:Looks (model prog w) h (typeLookup (.ref C) "__init__") (some init))
  (n:∀self,Looks (model prog w) h (bindSpecial init self) (init,[self]))
  (m:wpAny (model prog w) (A.under (.builtin "type.__call__" ⟨.ref C::rest,[]⟩)) (call init (.ref (h.objs.size+1)::rest)) (λr i=>r=.none/\Q (.ref (h.objs.size+1)) i) E
   ⟨(h.push (xga rest)).push (newExc C h.objs.size none),g,d,t,j⟩) (b:rest.length<=sizeLine) :
  wpAny (model prog w) A (call (.ref C) rest) Q E ⟨h,g,d,t,j⟩:=by
 have O:=tc_lookup;have M:=tc_bind (.ref C);have J:(⟨h,g,d,t,j⟩:Shared).TypeIs (.ref C) "type":=⟨_,e,rfl⟩;refine wpAny_call (codeAny_of_tree ?_);show wpAny _ _ (callAny (.ref C) _) _ _ _
 repeat (any_goals (first |assumption |with_reducible refine wpAny_loadPart_at e ?_ |wp_step))
 refine⟨rfl,?_⟩;refine codeAny_call_builtin_at (Code.quiet_builtin _ (by walk_at"k")) entry_typeCall (wpAny_check_type_call_sub e (xjq F T e hi n ?_ b));exact wpAny_mono m (λr i z=>z) λ_ _ z=>z
theorem xtx (F:ExcBaseFacts B newId initId bmB) (T:OwnTail h bmB bm) {e t0:Addr} {rest:List Value} {Q:Value->Shared->Prop}
  (hC:h.get? C=some (excClassObj nm q C N bs bm hdct sn sub ab col dd k0 k1 k2 k3 k5 newId)) (he:h.get? e=some (newExc C t0 none))
  (hq:∀h',(∀b o,b≠e->h.get? b=some o->h'.get? b=some o)->h'.get? e=some (newExc C h.objs.size none)->Q .none ⟨h',g,d,t,os⟩) (hrest:rest.length<=sizeLine) :
  wpAny (model prog w) A (call (.builtin initId) (.ref e::rest)) Q E ⟨h,g,d,t,os⟩:=by
 refine wpAny_call (codeAny_call_builtin F.init.plain F.initEntry (wpAny_check_init_subT F T hC he rfl ?_))
 wp_walk
 show Q .none _;refine hq _ (λb o hb e0=>?_) ?_
 ·rw[Heap.get?_update_other _ _ (Ne.symm hb)]
  exact zPO _ e0
 ·exact Heap.get?_update_self _ (zPO _ he) rfl
end
def xIn(K:Frag)(C:Addr)(bmB:List Value)(newId:String):Bool:=match K.lookup C with
 |some ⟨.type "type",_,.cls cd,sl⟩=>(match cd.mro,sl.toList with
  |.ref C'::bm,[_,_,_,_,some (.builtin n),_]=>C' == C && n == newId && !cd.hasDel && cd.hasDict && tailIn K bmB bm
  |_,_=>false)
 |_=>false
def XObj(h:Heap)(C:Addr)(bmB:List Value)(newId:String):Prop:=
 ∃nm q N bs bm sn sub ab col dd k0 k1 k2 k3 k5,h.get? C=some (excClassObj nm q C N bs bm true sn sub ab col dd k0 k1 k2 k3 k5 newId)/\OwnTail h bmB bm
theorem xis{K:Frag}{h:Heap}{C:Addr}{c:List Value}{a:String}(X:K.In h)(e:xIn K C c a=true):XObj h C c a:=by
 unfold xIn at e;split at e
 ·rename_i F G sl y
  split at e
  ·rename_i M I w u s r n p g hs
   simp only[Bool.and_eq_true,beq_iff_eq,Bool.not_eq_true']at e;obtain⟨⟨⟨⟨rfl,rfl⟩,b⟩,j⟩,x⟩:=e;obtain⟨nm,bs,o,ns,m,i,l,sub,J,f,z⟩:=G;dsimp only at g b j;subst g b j;obtain⟨sl⟩:=sl;dsimp only at hs;subst hs;exact⟨nm,m,ns,bs,I,l,sub,J,f,F,w,u,s,r,p,X _ _ y,tail_of_in X x⟩
  ·cases e
 ·cases e
end L2
end
section
namespace L2
open PySem PySem.Spec PyProof.Rows
def excO(e C:Addr)(d:Option Addr):HO:=.ext λh=>∃t:Addr,h.get? e=some (newExc C t d)
abbrev bmV:List Value:=[.type "ValueError",.type "Exception",.type "BaseException",.type "object"]
structure XCl(K:Fg)(C:Addr):Prop where
 cls:XCls K C
 obj:xIn K C bmV "ValueError.__new__"=true
 kp:PySem.W.keepIn K (.ref C)=true
 sa:PySem.W.findIn K (.ref C) "__setattr__"=some (some (.builtin "object.__setattr__"))
theorem ObjOk.exc{P:Program}{w:World}{H:Hp}{h:Heap}{e C t:Addr}{d:Option Addr}(b:h.get? e=some (newExc C t d)):ObjOk P w H h e (excO e C d):=
 ⟨⟨t,b⟩,⟨_,b⟩,λf c ⟨t',a⟩ k=>⟨t',k _ a⟩⟩
theorem HOk.exc{P:Program}{w:World}{H:Hp}{h:Heap}{e C:Addr}{d:Option Addr}(x:HOk P w H h)(q:H e=some (excO e C d)):∃t,h.get? e=some (newExc C t d):=
 (show ObjOk P w H h e (excO e C d) from x e _ q).1
section
variable {X:Cx}{pins:List (Addr×Obj)}{σ:St}{H:Hp}{s:Shared}{C:Addr}{Q:VK}{us:List Value}{vs:List V}{CX:CXT}{k:Nat}{f:Addr}{fd:FuncData}{ps:List Str}{sp:Sp}{E:XK}
theorem xwz{h:Heap}{rest:List Value}{C:Addr}:((h.push (xga rest)).push (newExc C h.objs.size none)).get? (h.objs.size+1)=some (newExc C h.objs.size none):=by heap_get
theorem xvu (M:XCl X.K C) (hi:PySem.W.findIn X.K (.ref C) "__init__"=some (some (.builtin "ValueError.__init__"))) (I:Inv X pins σ H s) (r:Vals vs us) (n:vs.length<=sizeLine)
  (h:∀e,H e=none->Q (.ref e) (upd H e (excO e C none))):wpAny (model X.prog X.w) X.A (call (.ref C) us) (EP X pins σ Q) X.xe s:=by
 have f:us.length<=sizeLine:=by rw[<- r.length];exact n
 have c:=I.kIn;obtain⟨nm,G,N,bs,bm,y,sub,ab,x,dd,k0,Z,Y,U,O,i,T⟩:=xis c M.obj;have m:=h (s.heap.objs.size+1) (I.hok.fresh (zT _));obtain⟨a,g,d,t,J⟩:=s;have up:∀b o,a.get? b=some o->((a.push (xga us)).push (L2.newExc C a.objs.size none)).get? b=some o:=λb o e=>zPO _ (zPO _ e);refine xty PySem.F.excBase_ValueError T i (PySem.W.looks_findIn c hi) (λself=>PySem.W.Looks.of_pure (PySem.F.excBase_ValueError.init.bind self)) ?_ f;refine xtx PySem.F.excBase_ValueError (T.keeps up) (up _ _ i) xwz (λh' l p=>⟨rfl,?_⟩) f;exact⟨.ref (a.objs.size+1),_,I.laid (t':=t) (λb u e=>l b u (λz=>by have j:b<a.objs.size:=zJ e;exact absurd j (by rw[show b=a.objs.size+1 from z];exact Nat.not_lt.mpr (zT _))) (up b u e)) (zT _) (ObjOk.exc p),rfl,m⟩
variable {x:Str}{p pos:Pos}{e:Expr}{es:List Expr}{t:TA}
def tExc(C:Addr)(t:TA):TE:=λσ H Q=>t σ H λvs H1=>vs.length<=sizeLine/\∀e,H1 e=none->Q (.ref e) (upd H1 e (excO e C none))
theorem xdr (M:XCl X.K C) (hi:PySem.W.findIn X.K (.ref C) "__init__"=some (some (.builtin "ValueError.__init__"))) (g:Gl X x) (f:X.mg x=some (.ref C)) (j:PA X (e::es) t)
  (b:(x == ("__debug__":Str))=false:=by decide) (i:starEach (e::es) X.env=(false,eval e X.env)::starEach es X.env:=by rfl) (a:(backTo pos (starEach es X.env)).any (·.1)=false:=by rfl) :
  PE X (.Call (.Name x p) (e::es) [] pos) (tExc C t):=by
 intro pins s σ H Q I h;refine wpAny_Call_Name_kw (xhl I g f ?_ b);refine PySem.W.callWith_K (h₀:=X.base) I.ok.mod.kin M.kp (thn (j pos pins s σ H _ I h) λus l ⟨vs,m,c,r,q⟩=>⟨c.kIn,?_⟩) i a;exact xvu M hi c r q.1 q.2
structure XSup(K:Fg)(C:Addr):Prop where
 reads:PySem.W.readsIn K C (.type "type")=true
 ga:PySem.W.specialIn K (.ref C) "__getattribute__"=some (some (.builtin "type.__getattribute__"))
 init:PySem.W.findCls K (.ref C) (.type "type") "__init__"=some (.val (.builtin "ValueError.__init__"))
variable {o value:Expr}{fl:Str}{pos':Pos}{ta tv:TE}
end
end L2
end
section
end
section
namespace L2
open PySem PySem.Spec PyProof.Rows
open PySem.W in
def ad(K:Frag)(x:Str):Addr:=match nsIn K mainGlobals x with |some (some (.ref C))=>C |_=>0
theorem yai{K:Fg}{x:Str}{C:Addr}(e:PySem.W.nsIn K mainGlobals x=some (some (.ref C))):ad K x=C:=by unfold ad;rw[e]
def names11:List Str:=["BadText","Twice","NoName","NoCount","WrongKind","Lacks","NotOwn","Falls","TooBig","NoFit","NoCode"]
def cAt(K:Fg)(i:Nat):Addr:=ad K (names11.getD i "")
open PySem.W in
def xu9(K:Frag)(C:Addr):Bool:=
 findIn K (.ref C) "__getattribute__" == some (some (.builtin "BaseException.__getattribute__")) && (findIn K (.ref C) "__getattr__" == some none && (mroIn K C (.type "BaseException") == some true && (mroIn K C (.type "object") == some true &&
 (hasDictIn K C && (findIn K (.ref C) "__class__" == some (some (.builtin "object.__class__")) && (specialIn K (.builtin "object.__class__") "__get__" == some (some (.builtin "getset_descriptor.__get__")) && (takesIn K (.builtin "object.__class__") == some true &&
 (xIn K C bmV "ValueError.__new__" && (keepIn K (.ref C) && findIn K (.ref C) "__setattr__" == some (some (.builtin "object.__setattr__")))))))))))
theorem xxc{K:Fg}{C:Addr}(e:xu9 K C=true):XCl K C:=by
 unfold xu9 at e;simp only[Bool.and_eq_true,beq_iff_eq]at e;obtain⟨n,m,l,j,i,h,g,f,c,b,a⟩:=e;exact⟨⟨n,m,l,j,i,h,g,f⟩,c,b,a⟩
open PySem.W in
def xuc(K:Frag):Bool:=
 (List.range 11).all (λi=>xu9 K (cAt K i)) && ((List.range 11).all (λi=>i == 0 || findIn K (.ref (cAt K i)) "__init__" == some (some (.builtin "ValueError.__init__"))) &&
 ((List.range 11).all (λi=>(List.range 11).all λj=>kitOne K (.ref (cAt K i)) (.ref (cAt K j)) == some (decide (i=j))) &&
 ((List.range 11).all (λi=>kitOne K (.ref (cAt K i)) (.ref (ad K "SwapError")) == some true && kitOne K (.ref (cAt K i)) (.type "ValueError") == some true) &&
 (readsIn K (ad K "SwapError") (.type "type") && (specialIn K (.ref (ad K "SwapError")) "__getattribute__" == some (some (.builtin "type.__getattribute__")) &&
 ((match findCls K (.ref (ad K "SwapError")) (.type "type") "__init__" with |some (.val v)=>v == .builtin "ValueError.__init__" | _=>false) &&
 (findIn K (.ref (cAt K 0)) "at" == some none)))))))
structure XTab(K:Fg):Prop where
 cl:∀i,i<11->XCl K (cAt K i)
 ini:∀i,i<11->i≠0->PySem.W.findIn K (.ref (cAt K i)) "__init__"=some (some (.builtin "ValueError.__init__"))
 kit:∀i j,i<11->j<11->PySem.W.kitOne K (.ref (cAt K i)) (.ref (cAt K j))=some (decide (i=j))
 kS:∀i,i<11->PySem.W.kitOne K (.ref (cAt K i)) (.ref (ad K "SwapError"))=some true
 kV:∀i,i<11->PySem.W.kitOne K (.ref (cAt K i)) (.type "ValueError")=some true
 sup:XSup K (ad K "SwapError")
 na:xzg K (cAt K 0) "at"
theorem xtab_of{K:Fg}(e:xuc K=true):XTab K:=by
 unfold xuc at e;simp only[Bool.and_eq_true,List.all_eq_true,List.mem_range,beq_iff_eq,Bool.or_eq_true]at e;obtain⟨o,m,l,b,g,f,a,c⟩:=e;refine⟨λi h=>xxc (o i h),λi h n=>(m i h).resolve_left n,λi j h h'=>l i h j h',λi h=>(b i h).1,λi h=>(b i h).2,⟨g,f,?_⟩,c⟩;split at a
 ·rename_i v q
  rw[q,beq_iff_eq.mp a]
 ·cases a
def xze(s:Stmt)(j:Nat):Stmt:=match s with
 |.ClassDef _ _ _ b _ _ _ _ _ _ _=>b.getD j (.Pass ⟨0,0,0,0⟩)
 |_=>.Pass ⟨0,0,0,0⟩
structure InitTx(K:Fg)(q:Str)(C:Addr)(st:Stmt)(ps:List Str):Prop where
 ex:∃(f:Addr) (fd:FuncData),PySem.W.findIn K (.ref C) "__init__"=some (some (.ref f))/\PySem.W.isFn K (.ref f)=true/\Fun K "__init__" q st f fd/\∀us:List Value,us.length=ps.length->bindArgs fd ⟨us,[]⟩=pure (ps.zip us)
theorem init_mk {K:Fg} {x q:Str} {C f:Addr} {st:Stmt} {ps:List Str} {o:Value} {od j:Option Addr} {m:Array (Option Value)} {kV g h e ct:Value} (a:PySem.W.nsIn K mainGlobals x=some (some (.ref C)))
  (i:PySem.W.findIn K (.ref C) "__init__"=some (some (.ref f))) (n:PySem.W.isFn K (.ref f)=true)
  (l:K.lookup f=some ⟨o,od,.func (PySem.W.fnOf "__init__" q (xfj st) (xd4 st) (xae st) .none kV g h j e ct),m⟩) (c:PySem.W.codeIn K e q=true) (k:PySem.W.keepIn K (.ref f)=true)
  (b:∀(kV g h:Value) (j:Option Addr) (e ct:Value) (us:List Value),us.length=ps.length->bindArgs (PySem.W.fnOf "__init__" q (xfj st) (xd4 st) (xae st) .none kV g h j e ct) ⟨us,[]⟩=pure (ps.zip us)):InitTx K q (ad K x) st ps:=by
 rw[yai a];exact⟨f,_,i,n,xu0 (st:=st) l c k,b kV g h j e ct⟩
end L2
end
section
namespace L2
open PySem PySem.Spec PyProof.Rows M
section
variable {X:Cx}
def xqc(K:Fg):R2:=λx y H Q=>∃a b xs ys,x=.ref a/\y=.ref b/\SqT K H a xs/\SqT K H b ys/\xs.length+ys.length<=sizeLine ∧
 (xs=[]->Q (.ref b) H)/\(xs≠[]->ys=[]->Q (.ref a) H)/\(xs≠[]->ys≠[]->∀p,H p=none->Q (.ref p) (upd H p (.tup (xs++ys))))
theorem xta:OpR X (binaryOp .Add) (xqc X.K):=by
 intro c s σ H x y v u Q I r p h;obtain⟨a,b,xs,ys,rfl,rfl,J,G,hz,Z,Y,U⟩:=h;by_cases f:xs=[]
 ·cases r
  cases p;obtain⟨its,O,p1,_⟩:=I.tuple J;obtain⟨e,r2,p2,_⟩:=I.tuple G;obtain⟨⟨cls,dd,data,sl⟩,w,C,n,z⟩:=id p1;obtain⟨⟨M,m,o,l⟩,g,j,n2,i⟩:=id p2;simp only at C z j i;subst C z j i
  exact concat_meets ⟨_,w,rfl⟩ ⟨_,g,rfl⟩ noFill_tuple_add seq_tuple_add PySem.F.slot_tuple_add PySem.F.entry_tuple_add (PySem.F.args_tuple_add_2 _ _)
   (tuple_addW0 a b its.toArray e.toArray n n2 dd m sl l (by rw[O.nil_iff.mpr f];rfl)) ⟨w,g,⟨.ref b,H,I,rfl,Z f⟩⟩
 ·exact xwb c s σ H _ _ v u Q I r p ⟨a,b,xs,ys,rfl,rfl,J,G,f,hz,Y f,U f⟩
end
end L2
end
section
namespace HT
open PySem PySem.Spec PyProof.Rows L2
section
variable {prog:Program}{w:World}{A:Around}{E:Value->Shared->Prop}{s:Shared}
theorem getItem_tuple_whole {t sl:Addr} {items:Array Value} {j i:Value} {a hi:Option Int} {Q:Value->Shared->Prop} (c:IsTup s.heap t items) (hs:s.heap.IsSliceOf sl j i .none) (pl:IsPart j a) (m:IsPart i hi)
  (l:sIx items.size 0 a=0/\sIx items.size items.size hi=items.size)
  (h:Q (.ref t) s):wpAny (model prog w) A (getItem (.ref t) (.ref sl)) Q E s:=by
 obtain⟨n,e,f,o⟩:=id hs;have g:s.TypeIs (.ref sl) "slice":=⟨n,e,f⟩;unfold getItem
 try with_reducible refine zV ?_
 first |refine zE (zI ?_) |skip
 refine zE (wpAny_sequenceKey c.typeIs (by decide) ?_)
 refine zE (wpAny_callSpecial?_slot (name:=Str.ofString "__getitem__") c.typeIs PyProof.Rows.slot_tuple_getitem
  (wpAny_call_entry PyProof.Rows.slot_tuple_getitem c.typeIs entry_tuple_getitem ?_ (args_tuple_getitem _ _)))
 show wpAny _ _ (Builtin.Tuple.tupleItemsOf (.ref t) >>= _) _ _ s;refine zE (tupleItemsOf_ c ?_);refine zE (qD g ?_);rw[if_pos (by decide)];refine zE (xek hs pl m ?_)
 have b:(((sIx items.size 0 a:Nat):Int) == 0 && (1:Int) == 1 && (sIx items.size items.size hi-sIx items.size 0 a) == items.size)=true:=by
  rw[l.1,l.2];simp
 show wpAny _ _ (if (((sIx items.size 0 a:Nat):Int) == 0 && (1:Int) == 1 && (sIx items.size items.size hi-sIx items.size 0 a) == items.size)=true then _ else _) _ _ s;rw[if_pos b];unfold Builtin.Tuple.tupleIsExact;refine zE (zE (qD c.typeIs (zI ?_)));rw[if_pos (by decide)];exact zE (wpAny_rule (zI ⟨_,rfl,zI h⟩))
end
end HT
namespace L2
open PySem PySem.Spec PyProof.Rows M
section
variable {X:Cx}
def xvv(K:Fg):V->Option Int->Option Int->Hp->VK->Prop:=λx lo hi H Q=>∃a xs,x=.ref a/\SqT K H a xs ∧
 ((HT.sIx xs.length 0 lo=0/\HT.sIx xs.length xs.length hi=xs.length)->Q (.ref a) H) ∧
 (¬(HT.sIx xs.length 0 lo=0/\HT.sIx xs.length xs.length hi=xs.length)->∀p,H p=none->Q (.ref p) (upd H p (.tup (cutV xs lo hi))))
theorem xvs:SlR X (xvv X.K):=by
 intro b s σ H x v n m i hi sl Q I f hs pl g h;obtain⟨a,xs,rfl,j,p,o⟩:=h;by_cases e:HT.sIx xs.length 0 i=0/\HT.sIx xs.length xs.length hi=xs.length
 ·cases f
  obtain⟨its,r,l,hz⟩:=I.tuple j;have c:its.toArray.size=xs.length:=by rw[List.size_toArray];exact r.length.symm
  refine⟨"tuple",_,PyProof.Rows.slot_tuple_getitem.lookup,l.typeIs,?_⟩;exact HT.getItem_tuple_whole l hs pl g (by rw[c];exact e) ⟨.ref a,H,I,rfl,p e⟩
 ·exact xuk b s σ H _ v n m i hi sl Q I f hs pl g ⟨a,xs,rfl,j,e,o e⟩
end
end L2
end
section
namespace PySem
open Sem (wp)
section
variable {prog:Program}{w:World}{A:Around}{E:Value->Shared->Prop}{s:Shared}
theorem xf2 {a:Addr} {xs:Array Value} {k:Nat} {sl:Array (Option Value)} {name:Str} {Q:Option Value->Shared->Prop}
  (hx:s.heap.get? a=some {cls:=.type "list",dict:=none,data:=.seq xs k,slots:=sl}) (hmiss:typeLookup (.type "list") name=pure none) (hname:(["__module__","__name__","__qualname__","__doc__","__annotations__"]:List Str).contains name=false) (hA:A.handled=none)
  (h:∀h' tk,(∀b o,s.heap.get? b=some o->h'.get? b=some o)->Q none {s with heap:=h',toks:=tk}) (hsz:name.length+100<=sizeLine) :
  wpAny (model prog w) A (getAttr? (.ref a) name) Q E s:=by
 obtain⟨hp,g,d,tk,os⟩:=s;have hT:∀tk',(⟨hp,g,d,tk',os⟩:Shared).TypeIs (.ref a) "list":=λ_=>⟨_,hx,rfl⟩;have f1:=sub_AttributeError;have f3:=F.slot_list_getattribute.lookup;have f4:=F.slot_list_getattribute.bind (.ref a);have f5:=am_list_getattr_none;unfold getAttr? getAttrBy? getAttrBy
 repeat (any_goals (first |assumption |exact hT _ |((with_reducible show wpAny _ _ (call (Value.builtin "list.__getattribute__") _ _) _ _ _);refine call_meets F.slot_list_getattribute (hT _) am_entry_list_getattribute (F.args_list_getattribute_2 _ _) (meets_getattribute_miss_list a xs k sl name _ hmiss hname hsz) ⟨hx,hA,λh' tk' e hx'=>?_⟩) |wp_step))
 obtain⟨t',u',he⟩:=hx'.there;show wpAny _ _ (getattributeRaised _ _ _ _ _ _ _) _ _ _;unfold getattributeRaised
 repeat (any_goals (first |assumption |wp_step))
 all_goals first |exact h _ _ hx'.keeps |skip
end
end PySem
namespace L2
open PySem PySem.Spec PyProof.Rows
theorem xbu:plainId "dict.update.loop"=true:=by walk_at"k"
theorem xdg:entryFor table "dict.update.loop"=some Builtin.«dict.update.loop»:=entryFor_of_fast (by kernel_rfl)
section
variable {prog:Program}{w:World}{A:Around}{K:Type}[DecidableEq K]{knd:KeyKind prog w K}
def PairsAt(knd:KeyKind prog w K)(h:Heap):List Value->List (K×Value)->Prop
 |[],[]=>True
 |it::its,p::ps=>(∃a key,it=.ref a/\h.IsTuple a #[key,p.2]/\knd.is p.1 key=true)/\PairsAt knd h its ps
 |_,_=>False
theorem PairsAt.keep{h h':Heap}:∀{its:List Value} {ps:List (K×Value)},PairsAt knd h its ps->(∀a xs,h.IsTuple a xs->h'.IsTuple a xs)->PairsAt knd h' its ps
 |[],[],_,_=>trivial
 |it::its,p::ps,⟨⟨a,b,e,f,c⟩,r⟩,k=>⟨⟨a,b,e,k _ _ f,c⟩,PairsAt.keep r k⟩
 |[],_::_,h,_=>h.elim
 |_::_,[],h,_=>h.elim
theorem xg3{h:Heap}{a d:Addr}{xs:Array Value}{kvs:List (K×Value)}(g:h.IsTuple a xs)(j:h.DictOf knd d kvs):a≠d:=λe=>by
 subst e;obtain⟨o,i,l,_⟩:=g;obtain⟨t,_,_,f,c,_⟩:=j;have b:=c.1;have:o=t:=zM (i.symm.trans f);subst this;rw[l]at b;exact absurd (Value.type.inj b) (by decide)
theorem xg2{h:Heap}{a I l:Addr}{i:Nat}{xs:Array Value}(f:h.IsTuple a xs)(j:h.IsListIter I l i):a≠I:=λe=>by
 subst e;obtain⟨o,g,m,_⟩:=f;obtain⟨t,c,b,_⟩:=j;have:o=t:=zM (g.symm.trans c);subst this;rw[m]at b;exact absurd (Value.type.inj b) (by decide)
theorem upd_loop {R:Result->Shared->Prop} {I l d:Addr} {its:List Value} {ps:List (K×Value)} (hh:A.in1.handled=none) (Z:l≠I) (a6:l≠d) (F:I≠d) :
    ∀(k i:Nat) (s:Shared) (f:List (K×Value)),its.length-i=k->i<=its.length->s.heap.IsListIter I l i->s.heap.IsList l its.toArray->s.heap.DictOf knd d f->PairsAt knd s.heap (its.drop i) (ps.drop i)->f.length+(its.length-i)<=sizeLine->
    (∀h' tk,h'.DictOf knd d (merged f (ps.drop i))->(∀b o,b≠d->b≠I->s.heap.get? b=some o->h'.get? b=some o)->R (.ok (.ret .none)) {s with heap:=h',toks:=tk})->
    codeAny (model prog w) A (.builtin "dict.update.loop" ⟨[.ref d,.ref I,rawInt i,.none],[]⟩) R s:=by
  intro k
  induction k with
  | zero=>
    intro i s f hk hi g hl hd j hsz hR;have C:i=its.length:=by omega
    have W:=Walks.list (prog:=prog) (w:=w) (A:=A.in1) hh I l Z its.toArray;refine codeAny_builtin xdg ?_;rw[Around.under_plainId xbu _];show wpAny _ A.in1 (pyNext (.ref I) >>= _) _ _ s
    refine wpAny_bind (W.done s _ _ (by have e:its.toArray.size = i := by simp[C]
                                        rw[e];exact⟨g,hl⟩) λh' tk c=>?_)
    show wpAny _ _ (Builtin.Dict.addKeywords d [] >>= _) _ _ _;refine zE (zI (zI ?_))
    have a4:ps.drop i=[]:=by
      rw[C,List.drop_length]at j;rw[C]
      cases hq:ps.drop its.length with
      |nil=>rfl
      |cons p r=>rw[hq]at j;exact j.elim
    refine hR h' tk ?_ λb o G n e=>c b o (by simpa using n) e;rw[a4];exact hd.at λo e=>c d o (by simpa using (Ne.symm F)) e
  | succ k ih=>
    intro i s f hk hi g hl hd j hsz hR;have m:i<its.length:=by omega
    have W:=Walks.list (prog:=prog) (w:=w) (A:=A.in1) hh I l Z its.toArray;have a7:its.drop i=its[i]::its.drop (i+1):=List.drop_eq_getElem_cons m;rw[a7]at j
    obtain⟨p,r,z⟩:∃p r,ps.drop i=p::r:=by
      cases hq:ps.drop i with
      |nil=>rw[hq]at j;exact j.elim
      |cons p r=>exact⟨p,r,rfl⟩
    have U:ps.drop (i+1)=r:=by rw[<- List.tail_drop,z];rfl
    rw[z]at j;obtain⟨⟨a,x,ea,O,a0⟩,y⟩:=j;refine codeAny_builtin xdg ?_;rw[Around.under_plainId xbu _];show wpAny _ A.in1 (pyNext (.ref I) >>= _) _ _ s;refine zE (W.item i s _ _ (by simpa using m) ⟨g,hl⟩ λv h' tk hP u c=>?_)
    have hv:v=.ref a:=by
      have:its[i]?=some v:=by simpa using hP
      rw[zGA m,ea]at this;exact(zM this).symm
    subst hv;have M:h'.IsTuple a #[x,p.2]:=O.at λo e=>c a o (by simpa using xg2 O g) e;have a2:h'.DictOf knd d f:=hd.at λo e=>c d o (by simpa using (Ne.symm F)) e;obtain⟨oa,Y,aa,na,a8⟩:=id M;refine zE (zV (zE (wpAny_tryCatch ?_)));unfold Builtin.Dict.pairItems;refine zE (qD ⟨oa,Y,aa⟩ ?_);rw[if_pos (by decide)];refine zE (wpAny_seqItems Y a8 (zI ?_));show wpAny _ _ (holding [x,p.2] (dictSet d x p.2)) _ _ _;refine zV (wpAny_dictSet_pairs a0 a2 (λh2 a9 h=>?_) (by omega));have J:h2.IsListIter I l (i+1)/\h2.IsList l its.toArray:=⟨u.1.at λo e=>(h.2 I F).trans e,u.2.at λo e=>(h.2 l a6).trans e⟩;refine zI ⟨plainId_quiet xbu _,ih (i+1) _ _ (by omega) m J.1 J.2 a9 ?_ ?_ λh3 a3 a1 a5=>?_⟩
    · rw[U]
      exact y.keep λb xs G=>by
        have h1:h'.IsTuple b xs:=G.at λo e=>c b o (by simpa using xg2 G g) e;exact h1.at λo e=>(h.2 b (xg3 h1 a2)).trans e
    · have:=stored_length_le f p.1 p.2
      omega
    · refine hR h3 a3 ?_ λb o G n e=>a5 b o G n ((h.2 b G).trans (c b o (by simpa using n) e))
      rw[z];rw[U]at a1;exact a1
end
theorem xk5:typeLookup (.type "list") "keys"=pure none:=am_miss_of_fast (by kernel_rfl)
section
variable {prog:Program}{w:World}{A:Around}{E:Value->Shared->Prop}{s:Shared}{K:Type}[DecidableEq K]{knd:KeyKind prog w K}
theorem xlk {l:Addr} {its:List Value} {n:Nat} {ps:List (K×Value)} {Q:Value->Shared->Prop} (hh:A.handled=none) (hl:s.heap.get? l=some {cls:=.type "list",data:=.seq its.toArray n}) (hp:PairsAt knd s.heap its ps) (hsz:its.length<=sizeLine)
  (h:∀h' tk,h'.DictOf knd s.heap.objs.size (merged [] ps)->(∀b o,s.heap.get? b=some o->h'.get? b=some o)->Q (.ref s.heap.objs.size) {s with heap:=h',toks:=tk}) :
  wpAny (model prog w) A (call (.type "dict") [.ref l]) Q E s:=by
 refine callType_codes (Q₁:=λobj s₁=>obj=.ref s.heap.objs.size/\s₁={s with heap:=s.heap.push {cls:=.type "dict",data:=.dict #[]}}) F.kt_called_dict (F.kt_typeCall_dict_1 _) F.entry_dict_init (kt_code_dict_new _ ⟨rfl,rfl⟩) ?_;rintro obj s₁ ⟨rfl,rfl⟩;have hnew:(s.heap.push {cls:=.type "dict",data:=.dict #[]}).DictOf knd s.heap.objs.size []:=Heap.DictOf.new s.heap;have ext0:∀b o,s.heap.get? b=some o->(s.heap.push {cls:=.type "dict",data:=.dict #[]}).get? b=some o:=λb o e=>zPO _ e;have hl0:=ext0 _ _ hl;have hT:(⟨s.heap.push {cls:=.type "dict",data:=.dict #[]},s.gens,s.drawn,s.toks,s.os⟩:Shared).TypeIs (.ref l) "list":=⟨_,hl0,rfl⟩;have hdl:l≠s.heap.objs.size:=λe=>absurd (zJ hl) (by rw[e];exact zR _);refine⟨hnew.typeIs,F.args_dict_init_2 _ _,?_⟩;unfold Builtin.«dict.__init__»;refine zE ?_;unfold Builtin.Dict.selfAndRest;refine zE (wpAny_notOrdered_dict hnew.typeIs ?_);show wpAny _ _ (pure (s.heap.objs.size,[Value.ref l])) _ _ _;refine zI ?_;show wpAny _ _ (Builtin.Dict.updateFrom "dict.__init__" s.heap.objs.size (.ref l) [] .none) _ _ _;unfold Builtin.Dict.updateFrom;refine zE (qD hT ?_);rw[if_pos (by decide)];refine zE (xf2 (sl:=#[]) hl0 xk5 (by walk_at"k") hh (λh1 tk1 k1=>?_) (by walk_at"k"));rw[if_pos (show(none:Option Value).isNone=true from rfl)];refine zE (wpAny_rule ?_);have hl1:=k1 _ _ hl0;have hL1:h1.IsList l its.toArray:=⟨_,hl1,rfl,_,rfl⟩
 refine zE (wpAny_pyIter_list hL1 (zI ⟨plainId_quiet xbu _,?_⟩));have hsz1:s.heap.objs.size<h1.objs.size:=zJ (k1 _ _ (zK _ rfl));have hlI:l<h1.objs.size:=zJ hl1;have ext2:∀b o,h1.get? b=some o->(h1.push {cls:=.type "list_iterator",data:=.fields #[.ref l,.int 0 0]}).get? b=some o:=λb o e=>zPO _ e;refine upd_loop (knd:=knd) (A:=A.in1) (ps:=ps) (l:=l) (d:=s.heap.objs.size) (its:=its) hh (zN hlI) hdl (Nat.ne_of_gt hsz1) its.length 0 _ [] (Nat.sub_zero _) (zY _) ⟨_,zK _ rfl,rfl,rfl⟩ (hL1.push _) (hnew.at λo e=>ext2 _ _ (k1 _ _ e)) (hp.keep λa xs ha=>ha.at λo e=>ext2 _ _ (k1 _ _ (ext0 _ _ e))) (by simpa using hsz) λh3 tk3 hd3 hk3=>?_;refine⟨rfl,h h3 tk3 hd3 λb o e=>hk3 b o ?_ ?_ (ext2 _ _ (k1 _ _ (ext0 _ _ e)))⟩
 ·exact λz=>absurd (zJ e) (by rw[z];exact zR _)
 ·exact λz=>absurd (zJ e) (by rw[z];exact Nat.not_lt_of_gt hsz1)
end
def PairsV(H:Hp):List V->List (Key×V)->Prop
 |[],[]=>True
 |y::ys,kv::kvs=>(∃b,y=.ref b/\H b=some (.tup [kV kv.1,kv.2]))/\PairsV H ys kvs
 |_,_=>False
theorem PairsV.length{H:Hp}:∀{ys:List V} {kvs:List (Key×V)},PairsV H ys kvs->ys.length=kvs.length
 |[],[],_=>rfl
 |y::ys,kv::kvs,⟨_,r⟩=>by rw[List.length_cons,List.length_cons,PairsV.length r]
 |[],_::_,h=>h.elim
 |_::_,[],h=>h.elim
section
variable {X:Cx}
theorem xja{a:List (Addr×Obj)}{σ:St}{H:Hp}{s:Shared}(I:Inv X a σ H s):∀{ys:List V} {its:List Value} {kvs:List (Key×V)},Vals ys its->PairsV H ys kvs->∃ps,KV kvs ps/\PairsAt (xcf X.prog X.w) s.heap its ps
 |[],_,[],r,_=>by cases r;exact⟨[],.nil,trivial⟩
 | y::ys,_,kv::kvs,r,⟨⟨b,n,m⟩,rest⟩=>by
  subst n
  cases r with
  |cons h t=>
   obtain⟨ps,l,j⟩:=xja I t rest;obtain⟨c,g,i,_⟩:=I.tuple (zC (K:=X.K) m);obtain⟨f,e,rfl,p,o⟩:=g.two;exact⟨(kv.1,e)::ps,.cons ⟨rfl,o⟩ l,⟨b,f,h,i,xoy p⟩,j⟩
 |[],_,_::_,_,h=>h.elim
 |_::_,_,[],_,h=>h.elim
theorem xip(hc:X.calm=true):xec X (.type "dict") (λxs H Q=>∃a ys,∃kvs:List (Key×V),xs=[.ref a]/\H a=some (.lst ys)/\PairsV H ys kvs/\∀p,H p=none->Q (.ref p) (upd H p (.dK (xb5 [] kvs)))):=by
 intro pins s σ H xs us Q I r h;obtain⟨a,ys,kvs,rfl,ha,hp,q⟩:=h;obtain⟨u,rfl,ru⟩:=xfl r;obtain rfl:u=.ref a:=ru;obtain⟨hz,its,n,rv,hl⟩:=(show ObjOk X.prog X.w H s.heap a (.lst ys) from I.hok a _ ha);obtain⟨ps,hk,hpa⟩:=xja I rv hp;have hyl:=hp.length;refine xlk (knd:=xcf X.prog X.w) (I.ok.hd hc) hl hpa (by rw[<- rv.length];exact hz) λh' tk dd' k'=>?_
 have hz':(xb5 [] kvs).length<=sizeLine:=by
  have:=xdn kvs [];rw[List.length_nil]at this;omega
 exact⟨.ref s.heap.objs.size,_,I.laid (a:=s.heap.objs.size) (o:=.dK (xb5 [] kvs)) (t':=tk) k' (zG _) (xn4 hz' (beq_eq_false_iff_ne.mpr (Ne.symm (zN I.big))) (hk.merge .nil) dd'),rfl,q _ (I.hok.fresh (zG _))⟩
end
end L2
end
section
namespace L2
open PySem PySem.Spec PySem.W PyProof.Rows M
section
variable {X:Cx}
def rNeK:R2:=λx y H Q=>∃a b,∃kvs:List (Key×V),x=.ref a/\y=.ref b/\H a=some (.dK kvs)/\H b=some (.dK kvs)/\(∀p∈kvs,∃d:D,RelD H p.2 d/\d.deep<=190)/\Q (.bl false) H
theorem xyh(hu:X.A.units+200<cLine):OpR X (compareOp .NotEq) rNeK:=by
 intro Y s σ H x y v u Q I rx ry h;obtain⟨a,b,kvs,rfl,rfl,ha,hb,hv,q⟩:=h;obtain rfl:v=.ref a:=rx;obtain rfl:u=.ref b:=ry;obtain⟨z,M,vs,l,dd⟩:=xr9 I.hok ha;obtain⟨z2,J,c,g,n⟩:=xr9 I.hok hb;have C:(c.map (·.1)).Nodup:=let ⟨_,_,_,_,_,_,_,_,hn⟩:=n;hn;have l1:=l.length;have l2:=g.length
 have m:∀(ks:List (Key×V)) (us f:List (Key×Value)) (pre:List (Key×Value)),KV ks us->KV ks f->c=pre++f->(∀p∈ks,∃d:D,RelD H p.2 d/\d.deep<=190)->KeqHits X.A.in1 s c us true:=by
  intro ks
  induction ks with
  |nil=>intro us f pre w U _ _;cases w;exact .nil
  | cons k ks ih=>
   intro us f pre w U e Z
   cases w with
   | @cons _ O _ r h1 t1=>
    cases U with
    | @cons _ o _ j h2 t2=>
     obtain⟨d,rd,G⟩:=Z k (by simp)
     have F:valueAt c O.1=some o.2:=by
      rw[show O.1=o.1 from h1.1.symm.trans h2.1];exact valueAt_of_get C (i:=pre.length) (by rw[e];simp)
     have:=KeqHits.hit (e:=true) (b:=true) F (xy9 I 190 d G rd rd h1.2 h2.2 (by show X.A.units+1+190<cLine;omega)) (ih r j (pre++[o]) t1 t2 (by rw[e];simp) λp hp=>Z p (zP _ hp));exact this
 refine keq_ne M J dd n (by omega) (λ_=>m kvs vs c [] l g rfl hv) ⟨.bl false,H,I,?_,q⟩;rw[show vs.length=c.length by omega];simp;rfl
end
end L2
end
section
namespace M
open PySem L2
inductive Vk(ks:List Kn):Str->D->Prop
 |num (i:Int) (h:Nm i):Vk ks (S "num") (.int i)
 |rc {x:Str} {k:Kn} {ws:List D} (hk:kAt ks x=some k) (hr:k.rc=true) (hl:ws.length=k.parts.length) (h:∀(i:Nat) (w:D) (p:Str×Str),ws[i]?=some w->k.parts[i]?=some p->Vk ks p.2 w):Vk ks x (.tup [.str x,.tup ws])
 |al {x:Str} {k:Kn} {p:Str×Str} {w:D} (hk:kAt ks x=some k) (hr:k.rc=false) (hp:p∈k.parts) (h:Vk ks p.2 w):Vk ks x (.tup [.str x,.str p.1,w])
theorem xo6{ks:List Kn}(wf:KWf ks){x:Str}{v:D}(b:x=S "num")(h:Vk ks x v):∃i,Nm i/\v=.int i:=by
 cases h with
 |num i hi=>exact⟨i,hi,rfl⟩
 |rc a=>rw[b,wf.num]at a;cases a
 |al a=>rw[b,wf.num]at a;cases a
theorem xxe{ks:List Kn}(wf:KWf ks){x:Str}{k:Kn}{v:D}(c:kAt ks x=some k)(e:k.rc=true)(h:Vk ks x v):∃ws,ws.length=k.parts.length/\(∀(i:Nat) w p,ws[i]?=some w->k.parts[i]?=some p->Vk ks p.2 w)/\v=.tup [.str x,.tup ws]:=by
 cases h with
 |num i hi=>rw[wf.num]at c;cases c
 |rc b a f h=>
  rw[c]at b;cases b;exact⟨_,f,h,rfl⟩
 |al b a=>
  rw[c]at b;cases b;rw[e]at a;cases a
theorem xxf{ks:List Kn}(wf:KWf ks){x:Str}{k:Kn}{v:D}(c:kAt ks x=some k)(e:k.rc=false)(h:Vk ks x v):∃p∈k.parts,∃w,Vk ks p.2 w/\v=.tup [.str x,.str p.1,w]:=by
 cases h with
 |num i hi=>rw[wf.num]at c;cases c
 |rc b a=>
  rw[c]at b;cases b;rw[e]at a;cases a
 |@al _ _ p w b a f h=>
  rw[c]at b;cases b;exact⟨p,f,w,h,rfl⟩
def FitB(ks:List Kn)(bs:List (Str×Str))(env:En):Prop:=∀p∈bs,∃v,env p.1=some v/\Vk ks p.2 v
theorem FitB.put{ks:List Kn}{bs:List (Str×Str)}{env:En}{y k:Str}{v:D}(h:FitB ks bs env)(c:∀p∈bs,p.1≠y)(e:Vk ks k v):FitB ks (bs++[(y,k)]) (env.put y v):=λp a=>by
 unfold En.put;rcases zMA a with a |a
 ·obtain⟨b,g,f⟩:=h p a
  exact⟨b,by rw[if_neg (c p a)];exact g,f⟩
 ·rw[zMO a]
  exact⟨v,by rw[if_pos rfl],e⟩
def Sg(s:Str):Prop:=s=S "+"\/s=S "-"\/s=S "*"\/s=S "<"\/s=S "="
def SgD(d:D):Prop:=∀s a b,d=tOpD s a b->Sg s
def Evs(ks:List Kn):Nat->En->D->D->Prop
 |0=>xsn
 |n+1=>λenv d v=>xsn env d v\/(NodeEv ks (Evs ks n) env d v/\SgD d)
theorem All2.imp3{α β:Type}{R c:α->β->Prop}(k:∀a b,R a b->c a b):∀{as:List α} {bs:List β},All2 R as bs->All2 c as bs
 |_,_,.nil=>.nil
 |_,_,.cons h t=>.cons (k _ _ h) (All2.imp3 k t)
theorem NodeEv.mono{ks:List Kn}{R n:En->D->D->Prop}(k:∀env d v,R env d v->n env d v){env:En}{d v:D}(h:NodeEv ks R env d v):NodeEv ks n env d v:=by
 rcases h with⟨s,a,b,x,y,g,l,r⟩ |⟨j,es,vs,m,g,r⟩ |⟨a,j,vs,f,o,i,g,r⟩ |⟨j,t,a,x,g,r⟩ |⟨a,rs,j,t,x,y,e,m,g,p,l,r⟩ |⟨a,b,c,x,g,l,r⟩
 ·exact .inl ⟨s,a,b,x,y,k _ _ _ g,k _ _ _ l,r⟩
 ·exact .inr (.inl ⟨j,es,vs,m,g.imp3 (k env),r⟩)
 ·exact .inr (.inr (.inl ⟨a,j,vs,f,o,i,k _ _ _ g,r⟩))
 ·exact .inr (.inr (.inr (.inl ⟨j,t,a,x,k _ _ _ g,r⟩)))
 ·exact .inr (.inr (.inr (.inr (.inl ⟨a,rs,j,t,x,y,e,m,k _ _ _ g,p,k _ _ _ l,r⟩))))
 ·exact .inr (.inr (.inr (.inr (.inr ⟨a,b,c,x,k _ _ _ g,k _ _ _ l,r⟩))))
theorem xot{h:Str}{r:List D}(c:h≠S "op"):SgD (.tup (.str h::r)):=λs a b e=>by
 have g:=D.tup.inj e;have f:=(List.cons.inj g).1;exact absurd (D.str.inj f) c
theorem xzw{s:Str}{a b:D}(h:Sg s):SgD (tOpD s a b):=λg j i e=>by
 have f:=D.tup.inj e;have c:=(List.cons.inj (List.cons.inj f).2).1;rw[<- D.str.inj c];exact h
def TmOk(ks:List Kn)(n:Nat)(bs:List (Str×Str))(d:D)(x:Str):Prop:=∀env,FitB ks bs env->∃v,Evs ks n env d v/\Vk ks x v
theorem xr4{ks:List Kn}{n:Nat}{env:En}{d v:D}(h:xsn env d v):Evs ks n env d v:=by
 cases n with
 |zero=>exact h
 |succ n=>exact .inl h
theorem xxi{ks:List Kn}{n:Nat}{bs:List (Str×Str)}{i:Int}(h:Nm i):TmOk ks n bs (tNum i) (S "num"):=λenv _=>⟨.int i,xr4 (.inl ⟨i,rfl,rfl⟩),.num i h⟩
theorem xxk{ks:List Kn}{n:Nat}{bs:List (Str×Str)}{y x:Str}(h:(y,x)∈bs):TmOk ks n bs (tBox y) x:=λenv a=>by
 obtain⟨v,c,b⟩:=a _ h;exact⟨v,xr4 (.inr ⟨y,c,rfl⟩),b⟩
theorem xzi{ks:List Kn}(wf:KWf ks){n:Nat}{bs:List (Str×Str)}{s:Str}{a b:D}(hs:Sg s)(l:TmOk ks n bs a (S "num"))(h:TmOk ks n bs b (S "num")):TmOk ks (n+1) bs (tOpD s a b) (S "num"):=λenv c=>by
 obtain⟨u,o,f⟩:=l env c;obtain⟨v,m,e⟩:=h env c;obtain⟨i,hi,rfl⟩:=xo6 wf rfl f;obtain⟨j,g,rfl⟩:=xo6 wf rfl e;exact⟨_,.inr ⟨.inl ⟨s,a,b,i,j,o,m,hi,g,rfl,rfl⟩,xzw hs⟩,.num _ (xyk s i j)⟩
theorem xpc{ks:List Kn}{n:Nat}{bs:List (Str×Str)}{env:En}(c:FitB ks bs env):∀{es:List D} {ps:List (Str×Str)},All2 (λe (p:Str×Str)=>TmOk ks n bs e p.2) es ps->∃vs,All2 (Evs ks n env) es vs/\vs.length=ps.length/\∀(i:Nat) w p,vs[i]?=some w->ps[i]?=some p->Vk ks p.2 w
 |_,_,.nil=>⟨[],.nil,rfl,λi w p h=>by simp at h⟩
 | _,_,.cons h t=>by
  obtain⟨v,m,l⟩:=h env c;obtain⟨vs,j,g,f⟩:=xpc c t;refine⟨v::vs,.cons m j,by rw[List.length_cons,List.length_cons,g],λi w p a b=>?_⟩
  cases i with
  |zero=>
   simp at a b;subst a b;exact l
  |succ i=>exact f i w p (by simpa using a) (by simpa using b)
theorem xxh{ks:List Kn}{n:Nat}{bs:List (Str×Str)}{x:Str}{k:Kn}{es:List D}(c:kAt ks x=some k)(a:k.rc=true)(b:k.parts.length<=1000)(h:All2 (λe (p:Str×Str)=>TmOk ks n bs e p.2) es k.parts):TmOk ks (n+1) bs (tRec x es) x:=λenv f=>by
 obtain⟨vs,j,i,g⟩:=xpc f h;exact⟨_,.inr ⟨.inr (.inl ⟨x,es,vs,by rw[h.length];exact b,j,rfl,rfl⟩),xot (by walk_at"k")⟩,.rc c a i g⟩
theorem xlf{f:Str}:∀{l:List Str} {i:Nat},l.Nodup->l[i]?=some f->l.findIdx? (λz=>decide (z=f))=some i
 |[],i,_,h=>by simp at h
 |y::l,0,_,h=>by
  simp at h;subst h;simp[List.findIdx?_cons]
 |y::l,i+1,nd,h=>by
  have b:f∈l:=zMG (by simpa using h);have a:¬y=f:=λe=>by subst e;exact(List.nodup_cons.mp nd).1 b
  rw[List.findIdx?_cons,zDF a];have:=xlf (l:=l) (i:=i) (List.nodup_cons.mp nd).2 (by simpa using h);simp[this]
theorem xxj{ks:List Kn}(wf:KWf ks){n:Nat}{bs:List (Str×Str)}{y:Str}{k:Kn}{a:D}{p:Str×Str}(c:kAt ks y=some k)(j:k.rc=true)(l:p∈k.parts)(h:TmOk ks n bs a y):TmOk ks (n+1) bs (tGet a p.1) p.2:=λenv o=>by
 obtain⟨v,s,r⟩:=h env o;obtain⟨ws,u,g,rfl⟩:=xxe wf c j r;obtain⟨i,hi,e⟩:=zMI l;have b:i<ws.length:=by omega
 have m:=zMF c;have f:k.parts[i]?=some p:=by rw[<- e];exact zGA hi
 exact⟨ws[i],.inr ⟨.inr (.inr (.inl ⟨a,y,ws,p.1,k,i,s,c,xlf (wf.pnd k m) (by rw[zGM,f];rfl),zGA b,rfl⟩)),xot (by walk_at"k")⟩,g i _ p (zGA b) f⟩
theorem xxg{ks:List Kn}{n:Nat}{bs:List (Str×Str)}{x:Str}{k:Kn}{a:D}{p:Str×Str}(e:kAt ks x=some k)(b:k.rc=false)(c:p∈k.parts)(h:TmOk ks n bs a p.2):TmOk ks (n+1) bs (tTag x p.1 a) x:=λenv f=>by
 obtain⟨v,i,g⟩:=h env f;exact⟨_,.inr ⟨.inr (.inr (.inr (.inl ⟨x,p.1,a,v,i,rfl,rfl⟩))),xot (by walk_at"k")⟩,.al e b c g⟩
theorem xvb {ks:List Kn} (wf:KWf ks) {n:Nat} {bs:List (Str×Str)} {x y:Str} {k:Kn} {a:D} {rs:List (Str×Str×D)} (s:kAt ks y=some k) (j:k.rc=false) (C:TmOk ks n bs a y) (o:rs.length<=1000) (nd:(rs.map (·.1)).Nodup)
  (h:∀p∈k.parts,∃z e,(p.1,z,e)∈rs/\(∀q∈bs,q.1≠z)/\TmOk ks n (bs++[(z,p.2)]) e x):TmOk ks (n+1) bs (xgj a rs) x:=λenv b=>by
 obtain⟨v,J,I⟩:=C env b;obtain⟨p,l,w,g,rfl⟩:=xxf wf s j I;obtain⟨z,e,m,hz,u⟩:=h p l;obtain⟨c,G,F⟩:=u _ (b.put hz g);obtain⟨i,hi,M⟩:=zMI m;have:=xco (f:=λr:Str×Str×D=>r.1) (xs:=rs) (i:=i) (a:=(p.1,z,e)) nd (by rw[<- M];exact zGA hi);exact⟨c,.inr ⟨.inr (.inr (.inr (.inr (.inl ⟨a,rs,y,p.1,w,z,e,o,J,this,G,rfl⟩)))),xot (by walk_at"k")⟩,F⟩
theorem xzj{ks:List Kn}(wf:KWf ks){n:Nat}{bs:List (Str×Str)}{x:Str}{a b c:D}(o:TmOk ks n bs a (S "num"))(m:TmOk ks n bs b x)(l:TmOk ks n bs c x):TmOk ks (n+1) bs (tIfD a b c) x:=λenv f=>by
 obtain⟨u,h,j⟩:=o env f;obtain⟨i,hi,rfl⟩:=xo6 wf rfl j;by_cases h0:i=0
 ·obtain⟨v,g,e⟩:=l env f
  exact⟨v,.inr ⟨.inr (.inr (.inr (.inr (.inr ⟨a,b,c,i,h,by rw[if_pos h0];exact g,rfl⟩)))),xot (by walk_at"k")⟩,e⟩
 ·obtain⟨v,g,e⟩:=m env f
  exact⟨v,.inr ⟨.inr (.inr (.inr (.inr (.inr ⟨a,b,c,i,h,by rw[if_neg h0];exact g,rfl⟩)))),xot (by walk_at"k")⟩,e⟩
def smS(f:Str->Int)(k:Kn):Int:=if k.rc=true then (k.parts.map λp=>f p.2).sum else match k.parts with |[]=>0 |p::_=>f p.2
def hiS(f:Str->Int)(k:Kn):Int:=if k.rc=true then maxD (k.parts.map λp=>f p.2) else match k.parts with |[]=>0 |p::_=>f p.2
theorem xj9{f g:Str->Int}{k:Kn}(h:∀p∈k.parts,f p.2=g p.2):smS f k=smS g k:=by
 unfold smS;rw[List.map_congr_left h]
 cases a:k.parts with
 |nil=>rfl
 |cons p r=>
  show(if k.rc=true then _ else f p.2)=(if k.rc=true then _ else g p.2);rw[h p (by rw[a];simp)]
theorem xlh{f g:Str->Int}{k:Kn}(h:∀p∈k.parts,f p.2=g p.2):hiS f k=hiS g k:=by
 unfold hiS;rw[List.map_congr_left h]
 cases a:k.parts with
 |nil=>rfl
 |cons p r=>
  show(if k.rc=true then _ else f p.2)=(if k.rc=true then _ else g p.2);rw[h p (by rw[a];simp)]
def smF:Nat->List Kn->Str->Int
 |0,_,_=>1
 |n+1,ks,x=>match kAt ks x with
  |none=>1
  |some k=>1+smS (smF n ks) k
def hiF:Nat->List Kn->Str->Int
 |0,_,_=>1
 |n+1,ks,x=>match kAt ks x with
  |none=>1
  |some k=>1+hiS (hiF n ks) k
theorem xes{n:Nat}{ks:List Kn}{x:Str}(h:kAt ks x=none):smF (n+1) ks x=1:=by unfold smF;rw[h]
theorem xgs{n:Nat}{ks:List Kn}{x:Str}{k:Kn}(h:kAt ks x=some k):smF (n+1) ks x=1+smS (smF n ks) k:=by
 show(match kAt ks x with |none=>1 |some k=>1+smS (smF n ks) k)=_;rw[h]
theorem xey{n:Nat}{ks:List Kn}{x:Str}(h:kAt ks x=none):hiF (n+1) ks x=1:=by unfold hiF;rw[h]
theorem xgu{n:Nat}{ks:List Kn}{x:Str}{k:Kn}(h:kAt ks x=some k):hiF (n+1) ks x=1+hiS (hiF n ks) k:=by
 show(match kAt ks x with |none=>1 |some k=>1+hiS (hiF n ks) k)=_;rw[h]
theorem xxy{ks:List Kn}(wf:KWf ks):∀(m:Nat) (x:Str),KIn ks m x->smF (m+2) ks x=smF (m+1) ks x/\hiF (m+2) ks x=hiF (m+1) ks x:=by
 intro m
 induction m with
 |zero=>
  intro x h;rcases h.look wf with⟨_,e⟩ |⟨j,k,c,_⟩
  ·exact⟨(xes e).trans (xes e).symm,(xey e).trans (xey e).symm⟩
  ·cases c
 | succ m f=>
  intro x h;rcases h.look wf with⟨_,e⟩ |⟨j,k,c,b,hn,i,g⟩
  ·exact⟨(xes e).trans (xes e).symm,(xey e).trans (xey e).symm⟩
  ·cases c
   rw[xgs b,xgs b,xgu b,xgu b,xj9 λp a=>(f p.2 (g p a)).1,xlh λp a=>(f p.2 (g p a)).2];exact⟨rfl,rfl⟩
def smK(ks:List Kn)(x:Str):Int:=smF 7 ks x
def hiK(ks:List Kn)(x:Str):Int:=hiF 7 ks x
theorem xxw{ks:List Kn}(wf:KWf ks){m:Nat}{x:Str}(h:KIn ks m x)(b:m<=6):smF (m+1) ks x=smK ks x/\hiF (m+1) ks x=hiK ks x:=by
 have:∀k,smF (m+k+1) ks x=smF (m+1) ks x/\hiF (m+k+1) ks x=hiF (m+1) ks x:=λk=>by
  induction k with
  |zero=>exact⟨rfl,rfl⟩
  |succ k a=>
   have u:=xxy wf (m+k) x (h.mono (by omega));exact⟨u.1.trans a.1,u.2.trans a.2⟩
 have u:=this (6-m);rw[show m+(6-m)+1=7 by omega]at u;exact⟨u.1.symm,u.2.symm⟩
theorem xpz{ks:List Kn}(wf:KWf ks):smK ks (S "num")=1/\hiK ks (S "num")=1:=⟨xes wf.num,xey wf.num⟩
theorem xxx{ks:List Kn}(wf:KWf ks){x:Str}{k:Kn}(hk:kAt ks x=some k):smK ks x=1+smS (smK ks) k/\hiK ks x=1+hiS (hiK ks) k:=by
 have hm:=zMF hk
 have hx:k.name=x:=by
  have:=List.find?_some hk;exact zH this
 have hin:KIn ks 6 x:=(KIn.of (.inr ⟨k,hm,hx⟩)).mono wf.few;rcases hin.look wf with⟨_,e⟩ |⟨j,k',e0,hk',hn,hm',hp⟩
 ·rw[e]at hk;cases hk
 ·cases e0
  rw[hk]at hk';cases hk';exact⟨(xgs (n:=6) hk).trans (congrArg (λz=>1+z) (xj9 λp hp'=>(xxw wf (hp p hp') (by omega)).1)),(xgu (n:=6) hk).trans (congrArg (λz=>1+z) (xlh λp hp'=>(xxw wf (hp p hp') (by omega)).2))⟩
theorem xka{ks:List Kn}(g:∀k∈ks,k.parts.length<=5):∀(n:Nat) (x:Str),(1<=smF n ks x/\smF n ks x<=6 ^ n)/\(1<=hiF n ks x/\hiF n ks x<=n+1)
 |0,x=>⟨⟨Int.le_refl _,Int.le_refl _⟩,⟨Int.le_refl _,Int.le_refl _⟩⟩
 | n + 1,x=>by
  have o:(1:Int)<=6 ^ n:=Int.pow_pos (by decide);have m:(6:Int) ^ (n+1)=6*6 ^ n:=by rw[Int.pow_succ,Int.mul_comm]
  cases b:kAt ks x with
  |none=>
   rw[xes b,xey b];exact⟨⟨Int.le_refl _,by rw[m];omega⟩,Int.le_refl _,by push_cast;omega⟩
  | some k=>
   rw[xgs b,xgu b];have j:=g k (zMF b);have f:=λy=>xka g n y
   have hs:∀(l:List (Str×Str)),0<=(l.map λp=>smF n ks p.2).sum/\(l.map λp=>smF n ks p.2).sum<=l.length*6 ^ n:=by
    intro l
    induction l with
    |nil=>simp
    |cons a r c=>
     have h:=(f a.2).1;rw[List.map_cons,List.sum_cons,List.length_cons];push_cast;rw[Int.add_mul];omega
   have i:∀(l:List (Str×Str)),0<=maxD (l.map λp=>hiF n ks p.2)/\maxD (l.map λp=>hiF n ks p.2)<=n+1:=by
    intro l
    induction l with
    |nil=>show 0<=(0:Int)/\(0:Int)<=n+1;omega
    |cons a r c=>
     have h:=(f a.2).2;have e:maxD ((a::r).map λp=>hiF n ks p.2)=max (hiF n ks a.2) (maxD (r.map λp=>hiF n ks p.2)):=rfl;rw[e];omega
   have h:=hs k.parts;have w:(k.parts.length:Int)*6 ^ n<=5*6 ^ n:=Int.mul_le_mul_of_nonneg_right (by omega) (by omega);have u:=i k.parts;unfold smS hiS;push_cast
   cases k.rc with
   |true=>
    rw[if_pos rfl,if_pos rfl];refine⟨⟨?_,?_⟩,?_,?_⟩ <;> omega
   | false=>
    rw[if_neg (by decide),if_neg (by decide)]
    cases k.parts with
    |nil=>
     refine⟨⟨?_,?_⟩,?_,?_⟩ <;> dsimp only <;> omega
    |cons p r=>
     have s:=f p.2;refine⟨⟨?_,?_⟩,?_,?_⟩ <;> dsimp only <;> omega
theorem xni{ks:List Kn}(wf:KWf ks)(x:Str):1<=smK ks x/\smK ks x<=279936/\1<=hiK ks x/\hiK ks x<=8:=by
 have:=xka wf.pts 7 x;have e:(6:Int) ^ 7=279936:=by decide
 unfold smK hiK;omega
end M
end
section
namespace L2
open PySem PySem.Spec PyProof.Rows M
section
variable {X:Cx}
def rEqE(K:Fg):R2:=λx y H Q=>∃a b xs,x=.ref a/\y=.ref b/\SqL K H a xs/\SqL K H b []/\Q (.bl xs.isEmpty) H
theorem xnp(m:X.A.units<cLine):OpR X (compareOp .Eq) (rEqE X.K):=by
 intro f s σ H x y v u Q I o n h;obtain⟨a,b,xs,rfl,rfl,C,z,q⟩:=h;cases o;cases n;obtain⟨its,r,i,_⟩:=I.list C;obtain⟨l,p,g,_⟩:=I.list z;have c:=r.length;have w:=p.length
 cases xs with
 | nil=>
  refine SeqAt.eq_listAt (e:=λ_=>true) i.isList g.isList (by simp only[List.size_toArray];omega) m (λj F G=>?_) ⟨.bl _,H,I,rfl,?_⟩
  ·simp only[List.size_toArray]at F
   simp at c;omega
  ·have:its=[]:=List.eq_nil_of_length_eq_zero (by simpa using c.symm)
   subst this;exact q
 |cons x xs=>
  refine PySem.EqBoolInt.of_rc (SeqAt.RcAt.lists_lengths i.isList g.isList (by simp only[List.size_toArray];simp at c w⊢;omega) m) ⟨.bl _,H,I,rfl,?_⟩;simpa using q
end
end L2
end
section
namespace L2
open PySem PySem.Spec PyProof.Rows
def Trc(h:Heap)(e C:Addr)(d:Option Addr)(c2:Value)(T:Option Addr)(fl:Value):Prop:=
 ∃vs:Array Value,(vs.size=6/\vs[2]?=some c2)/\h.get? e=some {cls:=.ref C,dict:=d,data:=.fields vs} ∧
  match T with
  |none=>vs[1]?=some .none
  |some T=>vs[1]?=some (.ref T)/\T≠e/\∃oT ts,h.get? T=some oT/\oT.data=.fields ts/\ts[3]?=some fl
structure FlyTo(fs:List Addr)(e:Addr)(T:Option Addr)(h h':Heap):Prop where
 keep:∀b o,b ∉fs->b≠e->T≠some b->h.get? b=some o->h'.get? b=some o
 slot:∀b o,b∈fs->b≠e->T≠some b->h.get? b=some o->∃sl,h'.get? b=some {o with slots:=sl}
 size:h.objs.size<=h'.objs.size
theorem FlyTo.refl{fs:List Addr}{e:Addr}{T:Option Addr}{h:Heap}:FlyTo fs e T h h:=⟨λ_ _ _ _ _ q=>q,λ_ o _ _ _ q=>⟨o.slots,q⟩,zG _⟩
theorem FlyTo.trans{fs:List Addr}{e T':Addr}{T:Option Addr}{h h1 h2:Heap}(a:FlyTo fs e T h h1)(b:FlyTo fs e (some T') h1 h2)(t:T=some T'\/h.objs.size<=T'):FlyTo fs e T h h2:=by
 have nt:∀c o,T≠some c->h.get? c=some o->(some T':Option Addr)≠some c:=λc o n q z=>by
  have z':T'=c:=zM z;rcases t with t |t
  ·exact n (by rw[t,z'])
  ·exact absurd (zJ q) (Nat.not_lt.mpr (by rw[<- z'];exact t))
 refine⟨λc o n1 n2 n3 q=>b.keep c o n1 n2 (nt c o n3 q) (a.keep c o n1 n2 n3 q),λc o n1 n2 n3 q=>?_,zF a.size b.size⟩;obtain⟨sl,q1⟩:=a.slot c o n1 n2 n3 q;obtain⟨sl',q2⟩:=b.slot c _ n1 n2 (nt c o n3 q) q1;exact⟨sl',q2⟩
section
variable {M:Model}{A:Around}{E:Value->Shared->Prop}{s:Shared}{c2:Value}
theorem xe0 {fs:List Addr} {e C T:Addr} {d fr:Option Addr} {u:Value} {Q:Unit->Shared->Prop} (t:Trc s.heap e C d w (some T) u)
  (h:∀h',FlyTo fs e (some T) s.heap h'->Trc h' e C d w (some T) (fr.elim .none λf=>rawInt f)->Q () {s with heap:=h'}):wpAny M A (setFlight (.ref e) fr) Q E s:=by
 obtain⟨vs,hz,l,j,g,x,ts,m,c,r⟩:=t;have j:vs[1]?=some (.ref T):=j;have a:∀b,b≠T->(s.heap.update T (Obj.mapFields (·.setIfInBounds 3 (fr.elim Value.none λf=>rawInt f)))).get? b=s.heap.get? b:=λb p=>Heap.get?_update_other _ _ (Ne.symm p);unfold setFlight;refine zE (zU l rfl j ?_);rw[if_pos (show(Value.ref T != Value.none)=true from by simp)];have i:3<ts.size:=(Array.getElem?_eq_some_iff.mp r).1;refine qF m c i (h _ ⟨λb o _ _ n q=>(a b λz=>n (by rw[z])).trans q,λb o _ _ n q=>⟨o.slots,(a b λz=>n (by rw[z])).trans q⟩,?_⟩ ?_)
 ·rw[Heap.size_after_update];exact zG _
 ·exact⟨vs,hz,(a e (Ne.symm g)).trans l,j,g,_,_,Heap.get?_update_self _ m (Obj.isFreed_of_fields (Obj.data_mapFields c _)),Obj.data_mapFields c _,by simp[i]⟩
theorem xrz {base:Heap} {env:Env} {outer:List Env} {L e C:Addr} {d:Option Addr} {vs:Array Value} {c:Value} {f:Bool} {Q:Unit->Shared->Prop}
  (y:A.frames=some (env::outer)) (I:s.heap.FunFrames base (env::outer)) (U:env.frame=some L)
  (J:s.heap.get? e=some {cls:=.ref C,dict:=d,data:=.fields vs}) (hz:vs.size=6/\vs[2]?=some Y)
  (h:∀h',FlyTo (frs (env::outer)) e none s.heap h'->Trc h' e C d Y (some s.heap.objs.size) (rawInt L)->Q () {s with heap:=h'}) :
  wpAny M A (do let a <- frameOf env;let pl <- entryPlaceOf L f;let b <- EntryCells.newEntry c a .none (rawInt L) .none pl;setField (.ref e) 1 b) Q E s:=by
 have p:e ∉frs (env::outer):=λO=>by
  obtain⟨_,o,u,x⟩:=I.mem O;rw[J]at u;injection u with u;subst u;exact x vs rfl
 refine zE (wpAny_frameOf_fun y I U λh₁ i=>?_);refine zE (wpAny_entryPlaceOf λpl j=>?_);unfold EntryCells.newEntry newFields;refine zE (wpAny_newObj_type ?_ (j.sizeOk5 _ _ _ _ _));have m:h₁.get? e=some {cls:=.ref C,dict:=d,data:=.fields vs}:=(i.2.1 e p).trans J;have g:h₁.objs.size=s.heap.objs.size:=i.1;have l:=zPO (h:=h₁) {cls:=.type "traceback",dict:=none,data:=.fields ([c,.ref L,.none,rawInt L,.none]++(if pl.isEmpty then List.replicate 6 Value.none else pl)).toArray} m;refine qF l rfl (by rw[hz.1];decide) ?_;have r:h₁.objs.size≠e:=Nat.ne_of_gt (zJ m);have z:=Heap.get?_update_self (Obj.mapFields (·.setIfInBounds 1 (Value.ref h₁.objs.size))) l rfl
 have G:=(Heap.get?_update_other (h₁.push {cls:=.type "traceback",dict:=none,data:=.fields ([c,.ref L,.none,rawInt L,.none]++(if pl.isEmpty then List.replicate 6 Value.none else pl)).toArray})
  (Obj.mapFields (·.setIfInBounds 1 (Value.ref h₁.objs.size))) (Ne.symm r)).trans (zK h₁ rfl)
 have keep:∀b o,b≠e->h₁.get? b=some o->
   ((h₁.push {cls:=.type "traceback",dict:=none,data:=.fields ([c,.ref L,.none,rawInt L,.none]++(if pl.isEmpty then List.replicate 6 Value.none else pl)).toArray}).update e (Obj.mapFields (·.setIfInBounds 1 (Value.ref h₁.objs.size)))).get? b=some o:=λb o F w=>by
  rw[Heap.get?_update_other _ _ (Ne.symm F)];exact zPO _ w
 refine h _ ⟨λb o w n _ q=>keep b o n ((i.2.1 b w).trans q),λb o w n _ q=>?_,?_⟩ ?_
 ·obtain⟨sl,hs⟩:=i.2.2 b o q
  exact⟨sl,keep b _ n hs⟩
 ·rw[Heap.size_after_update,Heap.size_push,g];exact zT _
 ·refine⟨vs.setIfInBounds 1 (Value.ref h₁.objs.size),⟨by simpa using hz.1,by rw[Array.getElem?_setIfInBounds_ne (by decide)];exact hz.2⟩,?_,?_,?_,?_⟩
  ·exact z
  ·rw[g];simp[hz.1]
  ·rw[<- g];exact r
  ·refine⟨{cls:=.type "traceback",dict:=none,data:=.fields ([c,.ref L,.none,rawInt L,.none]++(if pl.isEmpty then List.replicate 6 Value.none else pl)).toArray},_,by rw[<- g];exact G,rfl,?_⟩
   first |(simp;done) |(rcases j with rfl |⟨_,_,_,_,_,_,_,rfl⟩ <;> simp)
theorem xjp {base:Heap} {env:Env} {outer:List Env} {L e C:Addr} {d T:Option Addr} {Z:Value} {Q:Unit->Shared->Prop}
  (m:A.frames=some (env::outer)) (U:s.heap.FunFrames base (env::outer)) (x:env.frame=some L) (t:Trc s.heap e C d c2 T Z)
  (h:∀h' J,FlyTo (frs (env::outer)) e T s.heap h'->(T=some J\/s.heap.objs.size<=J)->Trc h' e C d c2 (some J) (rawInt L)->Q () {s with heap:=h'}):wpAny M A (noteFrame (.ref e) env) Q E s:=by
 obtain⟨vs,hz,n,O⟩:=id t;unfold noteFrame;simp only[x]
 cases T with
 |none=>
  refine zE (zU n rfl O ?_);rw[if_neg (by decide)];exact xrz m U x n hz λh' a b=>h h' _ a (.inr (zG _)) b
 | some T=>
  obtain⟨I,y,oT,ts,F,l,Y⟩:=O;have I:vs[1]?=some (.ref T):=I;refine zE (zU n rfl I ?_);rw[if_pos (show(Value.ref T != Value.none)=true from by simp)];refine zE (zU F l Y ?_);by_cases q:(Z == rawInt L)=true
  ·rw[if_pos q]
   obtain rfl:=beq_iff_eq.mp q;exact zI (h _ T FlyTo.refl (.inl rfl) t)
  ·rw[if_neg q]
   have G:3<ts.size:=(Array.getElem?_eq_some_iff.mp Y).1;refine zE (qF F l G ?_);have f:∀b,b≠T->(s.heap.update T (Obj.mapFields (·.setIfInBounds 3 Value.none))).get? b=s.heap.get? b:=λb i=>Heap.get?_update_other _ _ (Ne.symm i)
   have g:∀b o,s.heap.get? b=some o->(∀vs,o.data≠.fields vs)->b≠T:=λb o i j q=>by
    rw[q,F]at i;injection i with i;subst i;exact j ts l
   have hsz:(s.heap.update T (Obj.mapFields (·.setIfInBounds 3 Value.none))).objs.size=s.heap.objs.size:=Heap.size_after_update ..;refine xrz (s:={s with heap:=s.heap.update T (Obj.mapFields (·.setIfInBounds 3 Value.none))}) m (U.of_keeps λb o i j=>⟨o,(f b (g b o i j)).trans i,rfl⟩) x ((f e (Ne.symm y)).trans n) hz λh' a b=>?_;refine h h' _ ⟨λc o u r p w=>a.keep c o u r (λz=>nomatch z) ((f c λz=>p (by rw[z])).trans w),λc o u r p w=>a.slot c o u r (λz=>nomatch z) ((f c λz=>p (by rw[z])).trans w),?_⟩ (.inr (zG _)) ?_
   ·rw[<- hsz];exact a.size
   ·rw[<- hsz];exact b
theorem xr0 {base:Heap} {env:Env} {outer:List Env} {L e C:Addr} {d T:Option Addr} {m:Value} {Q:Unit->Shared->Prop}
  (f:A.frames=some (env::outer)) (g:s.heap.FunFrames base (env::outer)) (i:env.frame=some L) (t:Trc s.heap e C d n T m)
  (h:∀h' c,FlyTo (frs (env::outer)) e T s.heap h'->(T=some c\/s.heap.objs.size<=c)->Trc h' e C d n (some c) .none->Q () {s with heap:=h'}):wpAny M A (leaving env (.ref e)) Q E s:=by
 unfold leaving;refine zE (xjp f g i t λl c a w b=>?_);exact xe0 (s:={s with heap:=l}) (fs:=frs (env::outer)) (fr:=none) b λj p o=>h j c (a.trans p w) w o
end
def excF(e C:Addr)(d:Option Addr)(c2:Value):HO:=.ext λh=>∃vs:Array Value,(vs.size=6/\vs[2]?=some c2)/\h.get? e=some {cls:=.ref C,dict:=d,data:=.fields vs}
theorem ObjOk.excF{P:Program}{w:World}{H:Hp}{h:Heap}{e C:Addr}{d:Option Addr}{c:Value}{vs:Array Value}(hz:vs.size=6/\vs[2]?=some c)(b:h.get? e=some {cls:=.ref C,dict:=d,data:=.fields vs}):ObjOk P w H h e (L2.excF e C d c):=
 ⟨⟨vs,hz,b⟩,⟨_,b⟩,λg f ⟨v,z,a⟩ k=>⟨v,z,k _ a⟩⟩
theorem HOk.excF{P:Program}{w:World}{H:Hp}{h:Heap}{e C:Addr}{d:Option Addr}{a:Value}(x:HOk P w H h)(q:H e=some (L2.excF e C d a)):∃vs:Array Value,(vs.size=6/\vs[2]?=some a)/\h.get? e=some {cls:=.ref C,dict:=d,data:=.fields vs}:=
 (show ObjOk P w H h e (L2.excF e C d a) from x e _ q).1
section
variable {X:Cx}{pins:List (Addr×Obj)}{σ:St}{H:Hp}{s:Shared}{h':Heap}{x C:Addr}{d T T1:Option Addr}{fl c2:Value}
theorem Inv.flight(I:Inv X pins σ H s)(hx:H x=some (excF x C d c2))(hT:∀T',T=some T'->FpOk X pins H T')(a:FlyTo (frs X.stack) x T s.heap h')(t:Trc h' x C d c2 T1 fl):Inv X pins σ H {s with heap:=h'}:=by
 obtain⟨vs,hz,he,_⟩:=t;have nT:∀b u,H b=some u->T≠some b:=λb u e z=>by rw[(hT b z).1]at e;cases e
 have nF:∀b u,H b=some u->b ∉frs X.stack:=λb u e z=>by rw[I.stkFree b z]at e;cases e
 have nx:∀b,H b=none->b≠x:=λb n z=>by rw[z,hx]at n;cases n
 have there:∀b o,T≠some b->s.heap.get? b=some o->∃o',h'.get? b=some o':=λb o n q=>by
  by_cases z:b=x
  ·exact⟨_,by rw[z];exact he⟩
  ·by_cases f:b∈frs X.stack
   ·obtain⟨sl,w⟩:=a.slot b o f z n q
    exact⟨_,w⟩
   ·exact⟨_,a.keep b o f z n q⟩
 have tl:∀b,b ∉T.toList->T≠some b:=λb n z=>n (by rw[z];simp);refine I.call (g':=s.gens) (t':=s.toks) (d':=s.drawn) (ch:=T.toList) ⟨λb o q n hb hc=>a.keep b o hb (nx b n) (tl b hc) q,λb o q n hb hc=>a.slot b o hb (nx b n) (tl b hc) q,λ_ _ _ n _=>n,λb o q hc=>there b o (tl b hc) q,λ_ _ q=>q,λ_ _ _ q=>q,λb ps q=>⟨#[],by rw[q];simp⟩⟩ (λb u e=>?_) I.bare (λb hb=>?_)
 ·by_cases z:b=x
  ·subst z
   rw[hx]at e;cases e;exact ObjOk.excF hz he
  ·refine(I.hok b u e).stay (λc v hc q=>?_) (λ_ q=>q) λ_ _ q=>q
   rcases hc with w |w
   ·rw[w]
    rw[w]at q;exact a.keep b v (nF b u e) z (nT b u e) q
   ·have cx:c≠x:=λz=>by rw[z,hx]at w;cases w
    exact a.keep c v (nF c _ w) cx (nT c _ w) q
 ·have hb':T=some b:=by simpa using hb
  obtain⟨f0,f1,f2,f3,f4,f5⟩:=hT b hb';exact⟨f3,f1,f4,f5⟩
abbrev XS:=Value->Option Addr->St->Hp->Prop
def Thrown(X:Cx)(E:XS)(e:Value)(s:Shared):Prop:=
 ∃(x C:Addr) (d T:Option Addr) (c2 fl:Value) (pins:List (Addr×Obj)) (σ:St) (H:Hp),e=.ref x/\Inv X pins σ H s/\H x=some (excF x C d c2)/\(∀T',T=some T'->FpOk X pins H T')/\Trc s.heap x C d c2 T fl/\E (.ref x) d σ H
abbrev Cx.thr(X:Cx)(E:XS):Cx:=X.wish (Thrown X E)
def CX1(P:Program)(w:World):CXT:=λouter H s E e s'=>
 ∃(x C:Addr) (d T:Option Addr) (c2 fl:Value) (H':Hp),e=.ref x/\s'.os=s.os/\AllBare s'.gens/\Un (frs outer) [] H H' s.heap s'.heap/\HOk P w H' s'.heap/\H' x=some (excF x C d c2) ∧
  (∀T',T=some T'->s.heap.objs.size<=T'/\H' T'=none)/\Trc s'.heap x C d c2 T fl/\E (.ref x) d H'
theorem xz2{E:XS}{e:Value}{s':Shared}(I0:Inv X pins σ H s)(h:CX1 X.prog X.w X.stack H s (λv d H'=>E v d σ H') e s'):Thrown X E e s':=by
 obtain⟨x,C,d,T,c2,fl,H',rfl,os,bare,un,hok,hx,hT,t,q⟩:=h
 have I1:Inv X pins σ H' s':=by
  obtain⟨hh,g,dr,tk,os'⟩:=s';obtain rfl:os'=s.os:=os;exact I0.call (h':=hh) (g':=g) (d':=dr) (t':=tk) (ch:=[]) un hok bare (λb z=>absurd z (by simp))
 exact⟨x,C,d,T,c2,fl,pins,σ,H',rfl,I1,hx,λT' z=>I0.fpOk (hT T' z).1 (hT T' z).2,t,q⟩
end
section
variable {P:Program}{w:World}{K:Fg}{mg:Str->Option Value}{base:Heap}{N:List Str}{qual:Str}{scope:Scope}{f:Addr}{cd:Value}{A:Around}{outer:List Env}{s:Shared}{H:Hp}{E:XK}
theorem xpd{e:Value}{s':Shared}(h:Thrown (cxOf (CX1 P w) P w K mg base N qual scope f cd A outer s H E) (λv d _ H'=>E v d H') e s'):(cxOf (CX1 P w) P w K mg base N qual scope f cd A outer s H E).xe e s':=by
 obtain⟨x,C,d,T,c2,fl,pins,σ,H',rfl,I,hx,hT,t,q⟩:=h;show wpAny (model P w) (A.deeper (envOfC qual scope s.heap.objs.size f cd)) (leaving (envOfC qual scope s.heap.objs.size f cd) (.ref x)) _ _ s';refine xr0 (base:=base) I.ok.frames I.stack rfl t λh2 T' a w2 t2=>?_;have I2:=I.flight hx hT a t2;refine⟨x,C,d,some T',c2,.none,H',rfl,I2.os,I2.bare,I2.base,I2.hok,hx,λT2 z=>?_,t2,q⟩;cases z;rcases w2 with z |z
 ·obtain⟨f0,f1,f2,f3,f4,f5⟩:=hT T' z
  refine⟨?_,f0⟩;rcases f3 with y |y
  ·exact absurd y (by show T' ∉([]:List Addr);simp)
  ·exact y
 ·exact⟨zF I.sz z,I.hok.fresh z⟩
theorem PSs.thr{E:XS}{X:Cx}{st:List Stmt}{t:TS}(h:PSs (X.thr E) st t)(c:∀e b,Thrown X E e b->X.xe e b):PSs X st t:=λa s σ H D I f=>
 wpAny_mono (h a s σ H D (I.wish _) f) (λ_ _ q=>q.unwish) λe b z=>c e b z
end
section
variable {X:Cx}{E:XS}
theorem xvc(hs:X.stack=X.env::X.outer)(hf:X.env.frame=some X.env.locals):PassesOwn (model X.prog X.w) X.A X.env (Thrown X E):=by
 intro e s h;obtain⟨x,C,d,T,c2,fl,pins,σ,H,rfl,I,hx,hT,t,q⟩:=h;have fr:X.A.frames=some (X.env::X.outer):=by rw[I.ok.frames,hs]
 have fn:s.heap.FunFrames X.base (X.env::X.outer):=by rw[<- hs];exact I.stack
 refine xjp (base:=X.base) fr fn hf t λh1 T' a w t1=>?_;rw[<- hs]at a;have I1:=I.flight hx hT a t1
 have hT1:FpOk X pins H T':=by
  rcases w with z |z
  ·exact hT T' z
  ·exact I.fpOk z (I.hok.fresh z)
 show wpAny _ _ _ _ _ _;obtain⟨vs,hz,he,h1',_⟩:=id t1;have h1':vs[1]?=some (.ref T'):=h1';refine zE (zU he rfl h1' ?_);rw[if_neg (show ¬((Value.ref T' == Value.none)=true) from zL)];show wpAny _ _ (setFlight (.ref x) X.env.frame) _ _ _;refine xe0 (fs:=frs X.stack) t1 λh2 a2 t2=>?_;exact⟨x,C,d,some T',c2,_,pins,σ,H,rfl,I1.flight hx (λT2 z=>by cases z;exact hT1) a2 t2,hx,λT2 z=>by cases z;exact hT1,t2,q⟩
end
section
variable {M:Model}{A:Around}{E':Value->Shared->Prop}{env:Env}
theorem xoh {s:Shared} {x:Sem Value} {Q:Flow->Shared->Prop} (l:A.handled=none)
  (h:wpAny M A x (λv c=>∃e t C d b,v=.ref e/\b.contains (.type "BaseException")=true/\XObj c.heap C b "ValueError.__new__"/\c.heap.get? e=some (newExc C t d)/\j (.ref e) c) j s) :
  wpAny M A (raiseStmt env (some x) none) Q j s:=by
 unfold raiseStmt;refine zE (wpAny_mono h (λv c h₁=>?_) λ_ _ x=>x);obtain⟨e,t,C,d,b,rfl,a,⟨nm,w,N,bs,p,u,sub,Y,o,U,J,I,G,F,z,i,T⟩,m,n⟩:=h₁;have f:(Value.ref C::p).contains (.type "BaseException")=true:=by rw[List.contains_cons,T.hasType a,Bool.or_true]
 obtain⟨O,g,d,r,y⟩:=c
 repeat (first |with_reducible refine wpAny_loadPart_at m ?_ |with_reducible refine wpAny_loadPart_at i ?_ |(with_reducible refine wpAny_isSubtype_exc i ?_;rw[f]) |wp_step)
 exact wpAny_raiseNew_none l n
end
section
variable {X:Cx}{E:XS}{ex:Expr}{te:TE}{pos:Pos}
def xx0(K:Fg)(E:XS)(te:TE):TS:=λ_ σ H=>te σ H λv H1=>∃x C d,v=.ref x/\H1 x=some (excO x C d)/\XCl K C/\E (.ref x) d σ (upd H1 x (excF x C d .none))
theorem xb6(p:X.calm=true)(o:PE (X.thr E) ex m):PS (X.thr E) (.Raise (some ex) none pos) (xx0 X.K E m):=by
 intro a s σ H D I h;rw[arm_exec_Raise];simp only[evalOpt,Option.map];refine zE (wpAny_standAt (xoh (I.ok.hd p) ?_));refine zE (wpAny_mono (o a s σ H _ I h) (λv g w=>zE (wpAny_standAt (zI ?_))) λ_ _ z=>z);obtain⟨u,l,i,r,x,C,d,ex,j,c,q⟩:=w;subst ex;obtain rfl:v=Value.ref x:=r;obtain⟨f,b⟩:=i.hok.exc j;refine⟨x,f,C,d,bmV,rfl,by decide,xis i.kIn c.obj,b,?_⟩
 have y:Inv X a σ (upd l x (excF x C d .none)) g:=by
  have n:Mut (l x):=by rw[j];exact True.intro
  exact i.unwish.write (h':=g.heap) (t':=g.toks) (x:=x) (e:=x) n (.inl rfl) (λ_ _ _ q=>q) ⟨_,b⟩ (ObjOk.excF (vs:=#[.ref f,.none,.none,.none,.bool false,.none]) ⟨rfl,rfl⟩ b)
 exact⟨x,C,d,none,.none,.none,a,σ,_,rfl,y,ups,λF z=>(nomatch z),⟨#[.ref f,.none,.none,.none,.bool false,.none],⟨rfl,rfl⟩,b,rfl⟩,q⟩
end
structure DefXs(P:Program)(w:World)(K:Fg)(mg:Str->Option Value)(base:Heap)(n:Nat)(x:Str)(ps:List Str)(sp:Sp):Prop where
 ex:∃(f:Addr) (fd:FuncData),FnOk P w K mg base (CX1 P w) n f fd ps sp/\Binds K fd ps []/\PySem.W.keepIn K (.ref f)=true/\mg x=some (.ref f)/\∃oc od osl,K.lookup f=some ⟨oc,od,.func fd,osl⟩
section
variable {P:Program}{w:World}{K:Fg}{mg:Str->Option Value}{base:Heap}{n m:Nat}{x:Str}{ps N:List Str}{sp:Sp}{st:Stmt}
theorem DefXs.mono(D:DefXs P w K a base n x ps sp)(h:n<=m):DefXs P w K a base m x ps sp:=by
 obtain⟨f,b,F,r⟩:=D.ex;exact⟨f,b,F.mono h,r⟩
theorem DefXs.imp{a:Sp}(D:DefXs P w K b base n x ps sp)(h:∀vs H Q E,a vs H Q E->sp vs H Q E):DefXs P w K b base n x ps a:=by
 obtain⟨f,c,F,r⟩:=D.ex;exact⟨f,c,F.imp h,r⟩
theorem DefXs.of (T:DefTx K l x st ps) (S:FnScope N ps (xae st)) (len:∀vs H Q E,sp vs H Q E->vs.length=ps.length)
  (c:∀(f:Addr) (a:Value) (A:Around) (outer:List Env) (s:Shared) (H:Hp) (vs:List V) (Q:VK) (E:XK),Room n (A.deeper (envOfC x (xae st) s.heap.objs.size f a))->sp vs H Q E->
   ∃t,PSs ((cxOf (CX1 P w) P w K l base N x (xae st) f a A outer s H E).thr λv d _ j=>E v d j) (xd4 st) t/\t {nx:=λ_ j=>Q .non j,rt:=Q} (xgk N vs) H):DefXs P w K l base (n+1) x ps sp:=by
 obtain⟨f,u,F,m,b⟩:=T.ex;refine⟨f,u,?_,Binds.all b,F.kp,m,xli F⟩;obtain⟨I,od,kV,y,G,J,a,ct,o,rfl,p,i⟩:=F.ex;refine xy6 p i S len λA outer s H vs Q E r g=>?_;obtain⟨t,h,q⟩:=c f a A outer s H vs Q E r g;exact⟨t,h.thr λe C z=>xpd z,q⟩
theorem DefXs.none(T:DefTx K a x st ps)(no:∀vs H Q E,¬sp vs H Q E):DefXs P w K a base n x ps sp:=by
 obtain⟨f,c,F,m,b⟩:=T.ex;exact⟨f,c,⟨λvs H Q E h=>absurd h (no vs H Q E),λA outer s H args us vs Q E _ _ _ _ h=>absurd h (no vs H Q E)⟩,Binds.all b,F.kp,m,xli F⟩
end
section
variable {X:Cx}{E:XS}{n:Nat}{x:Str}{ps:List Str}{sp:Sp}{e:Expr}{es:List Expr}{p pos:Pos}{t:TA}
def xxq(sp:Sp)(E:XS)(t:TA):TE:=λσ H Q=>t σ H λvs H1=>sp vs H1 Q λv d H'=>E v d σ H'
theorem xav (D:DefXs X.prog X.w X.K X.mg X.base n x ps sp) (y:Room n X.A) (J:PA (X.thr E) (e::es) t) (C:Gl X x:=by rfl) (j:(x == ("__debug__":Str))=false:=by decide)
  (G:starEach (e::es) X.env=(false,eval e X.env)::starEach es X.env:=by rfl) (i:(backTo pos (starEach es X.env)).any (·.1)=false:=by rfl):PE (X.thr E) (.Call (.Name x p) (e::es) [] pos) (xxq sp E t):=by
 obtain⟨f,Y,F,b,k,m,_⟩:=D.ex;intro a s σ H Q I h;refine wpAny_Call_Name_kw (xhl (X:=X.thr E) I C m ?_ j);refine PySem.W.callWith_K (h₀:=X.base) I.ok.mod.kin k (thn (J pos a s σ H _ I h) λus l ⟨vs,O,g,r,q⟩=>⟨g.kIn,?_⟩) G i;have z:(us++[]).length=ps.length:=by rw[List.append_nil,<- r.length];exact F.len _ _ _ _ q
 have o:=b l us g.kIn z;rw[List.append_nil]at o;refine wpAny_call (codeAny_mono (F.run X.A X.stack l O ⟨us,[]⟩ us vs Q _ y g.unwish.env0 o r q) λr U c=>?_)
 cases r with
 |error e=>exact xz2 g.unwish c
 |ok M=>
  cases M with
  |ret u=>exact g.after c
  |next=>exact False.elim c
  |brk=>exact False.elim c
  |cont=>exact False.elim c
end
abbrev Cx.mkd(X:Cx)(e:Value):Cx:={X with A:=X.A.mark (some e),calm:=false}
abbrev Cx.pnd(X:Cx)(pn:List (Addr×Obj)):Cx:={X with pn:=pn}
section
variable {X:Cx}{pins pn:List (Addr×Obj)}{σ:St}{H:Hp}{s:Shared}{e:Value}
theorem Cx.Ok.mkd(ok:X.Ok)(e:Value):(X.mkd e).Ok:=
 ⟨ok.mod,ok.kind,ok.glob,ok.blt,ok.above,ok.inj,ok.has,ok.cab,λz=>Bool.noConfusion z,ok.frames,ok.stk,ok.exf,ok.bs,ok.bsz,ok.noex,ok.exfs,ok.funs,ok.frf⟩
theorem Cx.Ok.pnd(ok:X.Ok)(pn:List (Addr×Obj)):(X.pnd pn).Ok:=
 ⟨ok.mod,ok.kind,ok.glob,ok.blt,ok.above,ok.inj,ok.has,ok.cab,ok.hd,ok.frames,ok.stk,ok.exf,ok.bs,ok.bsz,ok.noex,ok.exfs,ok.funs,ok.frf⟩
theorem Inv.mkd(I:Inv X a σ H s)(e:Value):Inv (X.mkd e) a σ H s:=⟨I.ok.mkd e,I.os,I.bare,I.base,I.loc,I.cell,I.free,I.freeC,I.pin,I.hok,I.len⟩
theorem Inv.unmkd(ok:X.Ok)(I:Inv (X.mkd e) pins σ H s):Inv X pins σ H s:=⟨ok,I.os,I.bare,I.base,I.loc,I.cell,I.free,I.freeC,I.pin,I.hok,I.len⟩
theorem Inv.pnd(I:Inv X a σ H s):Inv (X.pnd (X.pn++a)) [] σ H s:=
 ⟨I.ok.pnd _,I.os,I.bare,I.base,I.loc,I.cell,I.free,I.freeC,λp b=>I.pin p (by simpa using b),I.hok,I.len⟩
theorem Inv.unpnd{a:List (Addr×Obj)}(ok:X.Ok)(I:Inv (X.pnd (X.pn++b)) a σ H s):Inv X b σ H s:=
 ⟨ok,I.os,I.bare,I.base,I.loc,I.cell,I.free,I.freeC,λp c=>I.pin p (List.mem_append_left _ c),I.hok,I.len⟩
theorem FpOk.unpnd{a:List (Addr×Obj)}{b:Addr}(h:FpOk (X.pnd (X.pn++c)) a H b):FpOk X c H b:=
 ⟨h.1,h.2.1,h.2.2.1,h.2.2.2.1,h.2.2.2.2.1,λp e=>h.2.2.2.2.2 p (List.mem_append_left _ e)⟩
theorem SP.unpnd{D:Ends}{f:Flow}{e:Shared}(ok:X.Ok)(h:SP (X.pnd (X.pn++c)) [] D f e):SP X c D f e:=by
 cases f with
 |next=>obtain⟨a,b,I,q⟩:=h;exact⟨a,b,I.unpnd ok,q⟩
 |brk=>obtain⟨a,b,I,q⟩:=h;exact⟨a,b,I.unpnd ok,q⟩
 |cont=>obtain⟨a,b,I,q⟩:=h;exact⟨a,b,I.unpnd ok,q⟩
 |ret u=>obtain⟨v,a,b,I,r,q⟩:=h;exact⟨v,a,b,I.unpnd ok,r,q⟩
theorem Inv.forget {h':Heap} {t' i:Nat} {x:Str} {m:Str->Option Value} {u:Option Value} (I:Inv X pins σ H s) (hN:X.N.Nodup) (hi:X.N[i]?=some x) (hk:X.env.scope.names.lookup x=some .local)
  (hm:∀m,s.heap.Ns X.env.locals m->∃u,h'.Ns X.env.locals (λy=>if y=x then u else m y)) (hs:∀b,b≠X.env.locals->h'.get? b=s.heap.get? b):Inv X pins (σ.set i none) H {s with heap:=h',toks:=t'}:=by
 obtain⟨m,hn,hl⟩:=id I.loc;have hiσ:i<σ.length:=by rw[I.len];exact(zES hi).1
 have cne:=I.cne;obtain⟨u,hn'⟩:=hm m hn;obtain⟨oL,_,_,hoL,_⟩:=id hn;refine⟨I.ok,I.os,I.bare,⟨λb o e n hb hx=>?_,λb o e n hb hx=>?_,I.base.free,λb o e hx=>?_,I.base.tups,I.base.frzs,I.base.tbls⟩,⟨_,hn',λj y v' e1 e2 e3=>?_⟩,λy c e=>?_,I.free,I.freeC,λp hp=>?_,λb ob e=>?_,by simpa using I.len⟩
 ·exact(hs b (zN (zO (zJ e) I.ok.above))).trans (I.base.keep b o e n hb hx)
 ·obtain⟨sl,e1⟩:=I.base.slot b o e n hb hx
  exact⟨sl,(hs b (zN (zO (zJ e) I.ok.above))).trans e1⟩
 ·obtain⟨o',e1⟩:=I.base.there b o e hx
  exact⟨o',(hs b (zN (zO (zJ e) I.ok.above))).trans e1⟩
 ·by_cases hj:j=i
  ·subst hj
   rw[List.getElem?_set_self hiσ]at e2;cases e2
  ·rw[List.getElem?_set_ne (Ne.symm hj)]at e2
   obtain⟨u',r',q⟩:=hl j y v' e1 e2 e3;refine⟨u',r',?_⟩;rcases q with⟨k,e⟩ |⟨k,c,e,z⟩
   ·refine .inl ⟨k,?_⟩
    have:y≠x:=λe=>hj (xjg hN e1 (e ▸ hi));simp[this,e]
   ·obtain⟨o,ho,hd⟩:=z
    exact .inr ⟨k,c,e,⟨o,(hs c (cne y c e)).trans ho,hd⟩⟩
 ·obtain⟨w',o,ho,hd⟩:=I.cell y c e
  exact⟨w',o,(hs c (cne y c e)).trans ho,hd⟩
 ·obtain⟨e,n,ne,nf,d⟩:=I.pin p hp
  exact⟨(hs p.1 ne).trans e,n,ne,nf,d⟩
 ·refine(I.hok b ob e).stay (λc w' hc q=>(hs c ?_).trans q) (λ_ q=>q) λ_ _ q=>q
  rintro rfl;rcases hc with rfl |hc
  ·rw[I.free]at e;cases e
  ·rw[I.free]at hc;cases hc
theorem xr1 {M:Model} {A:Around} {E':Value->Shared->Prop} {s:Shared} {K:Fg} {x C C0:Addr} {d:Option Addr} {vs:Array Value} {Q:Bool->Shared->Prop} (hx:s.heap.get? x=some {cls:=.ref C,dict:=d,data:=.fields vs})
  (O:XObj s.heap C bmV "ValueError.__new__") (O0:XObj s.heap C0 bmV "ValueError.__new__") (kin:K.In s.heap) (hsub:PySem.W.mroIn K C (.ref C0)=some true) (hq:Q true s):wpAny M A (excMatches (.ref x) (.ref C0)) Q E' s:=by
 obtain⟨nm,qn,N,bs,bm,sn,sub,ab,col,dd,k0,k1,k2,k3,k5,hC,T⟩:=O;obtain⟨nm',qn',N',bs',bm',sn',sub',ab',col',dd',k0',k1',k2',k3',k5',hC0,T'⟩:=O0;have hcB:(Value.ref C0::bm').contains (.type "BaseException")=true:=by rw[List.contains_cons,T'.hasType (show bmV.contains (.type "BaseException")=true by decide),Bool.or_true]
 have LS:=PySem.W.looks_mroIn (M:=M) kin hsub;have f:=tc_notTuple;obtain⟨hp,g,dr,tk,os⟩:=s;unfold excMatches
 repeat (first |with_reducible refine wpAny_loadPart_at hx ?_ |with_reducible refine wpAny_loadPart_at hC0 ?_ |(with_reducible refine wpAny_isSubtype_exc hC0 ?_;rw[hcB]) |with_reducible refine LS.at ?_ |wp_step)
 exact hq
end
section
variable {X:Cx}{pins:List (Addr×Obj)}{σ:St}{H:Hp}{s:Shared}
theorem xfw {M:Model} {A:Around} {E':Value->Shared->Prop} {Q:Unit->Shared->Prop} {i:Nat} {n:Str} {f:Pos} (I:Inv X c σ H s) (U:X.N.Nodup) (hi:X.N[i]?=some n) (x:X.env.scope.names.lookup n=some .local)
  (h:∀r,Inv X c (σ.set i none) H r->Q () r):wpAny M A (do bindName X.env n .none;unbindBehindTheSuite X.env n f) Q E' s:=by
 obtain⟨m,hn,_⟩:=id I.loc;have l:(X.env.scope.kind == .class || (X.env.scope.kind == .module && X.env.locals != X.env.globals))=false:=by rw[I.ok.kind];rfl
 refine wpAny_nameGoes_keeps x hn l λh' v p hs=>h _ ?_;refine I.forget (m:=m) (u:=v) U hi x (λz a=>?_) (λb O=>hs.2 b O);obtain⟨o,es,ep,C,J,G,F⟩:=hn;obtain⟨o2,Y,Z,g,j,w,a⟩:=a;rw[C]at g;cases g;rw[J]at j;cases j;have e:z=m:=funext λy=>by rw[<- F y,<- a y]
 exact⟨v,by rw[e];exact p⟩
def xxz(K:Fg)(C0:Addr)(i:Nat)(tb:XS->TS)(ts:TS):TS:=λD σ H=>∃Es:XS,tb Es D σ H/\∀x C d c2 σ' H',Es (.ref x) d σ' H'->H' x=some (excF x C d c2)->
 XCl K C/\PySem.W.mroIn K C (.ref C0)=some true ∧
 ts {nx:=λσ2 H2=>D.nx (σ2.set i none) H2,rt:=D.rt,bk:=λσ2 H2=>D.bk (σ2.set i none) H2,ct:=λσ2 H2=>D.ct (σ2.set i none) H2} (σ'.set i (some (.ref x))) H'
theorem xs7 {l:List Stmt} {b0:Stmt} {c:List Stmt} {tb:XS->TS} {ts:TS} {i:Nat} {n y:Str} {C0:Addr} {np j pos:Pos} (hs:X.stack=X.env::X.outer) (hf:X.env.frame=some X.env.locals) (Z:X.N.Nodup) (hi:X.N[i]?=some n)
  (J:X.env.scope.names.lookup n=some .local) (hm:X.mg y=some (.ref C0)) (M0:xIn X.K C0 bmV "ValueError.__new__"=true) (hb:∀pn Es,PSs ((X.pnd pn).thr Es) l (tb Es)) (a1:∀e,PSs ((X.mkd e).nox) (b0::c) ts)
  (hg:Gl X y:=by rfl) (a4:(y == ("__debug__":Str))=false:=by decide):PS X (.Try l [.ExceptHandler (some (.Name y np)) (some n) (b0::c) j] [] [] pos) (xxz X.K C0 i tb ts):=by
 intro b s σ H D I h;obtain⟨Es,a5,hh⟩:=h;refine wpAny_Try_except ?_;refine wpAny_mono (hb (X.pn++b) Es [] s σ H D (I.pnd.wish _) a5) (λf G q=>?_) (λe G q=>?_)
 ·have q':SP X b D f G:=SP.unpnd I.ok q.unwish
  cases f with
  |next=>exact wpAny_execs_nil q'
  |brk=>exact q'
  |cont=>exact q'
  |ret u=>exact q'
 ·obtain⟨x,C,d,T,c2,fl,a0,σ',H',rfl,I1,hx,hT,t,qe⟩:=q
  have g:Inv X b σ' H' G:=I1.unpnd I.ok;have Y:∀m,T=some m->FpOk X b H' m:=λm z=>(hT m z).unpnd;obtain⟨M,O,qs⟩:=hh x C d c2 σ' H' qe hx;have fr:X.A.frames=some (X.env::X.outer):=by rw[I.ok.frames,hs]
  have fn:G.heap.FunFrames X.base (X.env::X.outer):=by rw[<- hs];exact g.stack
  refine xjp (base:=X.base) fr fn hf t λh1 m a w t1=>?_;rw[<- hs]at a;have I2:=g.flight hx Y a t1
  have U:∀T2,some m=some T2->FpOk X b H' T2:=λT2 z=>by
   cases z;rcases w with z |z
   ·exact Y m z
   ·exact g.fpOk z (g.hok.fresh z)
  refine xe0 (s:={G with heap:=h1}) (fs:=frs X.stack) (fr:=none) t1 λh2 a2 t2=>?_;have I3:=I2.flight hx U a2 t2;refine wpAny_handleBy_cons (codeAny_handlers_test ?_) (by intro q;cases q);refine xhl (X:=X.mkd (.ref x)) (I3.mkd _) hg hm ?_ a4;obtain⟨vs,hz,he,_⟩:=id t2;refine xr1 he (xis I3.kIn M.obj) (xis I3.kIn M0) I3.kIn O ?_;refine codeAny_handlers_suite_as ?_;refine xe0 (s:={G with heap:=h2}) (fs:=frs X.stack) (fr:=none) t2 λh3 a3 t3=>?_;have I4:=I3.flight hx U a3 t3;refine xiz (X:=X.mkd (.ref x)) (I4.mkd _) Z hi (.inl J) (v:=.ref x) rfl (λs5 I5=>?_) (.inr J);refine wpAny_mono (a1 (.ref x) b s5 _ H' _ (I5.wish _) qs) (λf s6 q6=>?_) (λ_ _ z=>False.elim z);have q7:=q6.unwish;show wpAny _ _ (do bindName X.env n .none;unbindBehindTheSuite X.env n j) (λ_ s3=>SP X b D f s3) _ s6
  cases f with
  |next=>obtain⟨σ2,F,p,q⟩:=q7;exact xfw (p.unmkd I.ok) Z hi J λs7 o=>⟨_,F,o,q⟩
  |brk=>obtain⟨σ2,F,p,q⟩:=q7;exact xfw (p.unmkd I.ok) Z hi J λs7 o=>⟨_,F,o,q⟩
  |cont=>obtain⟨σ2,F,p,q⟩:=q7;exact xfw (p.unmkd I.ok) Z hi J λs7 o=>⟨_,F,o,q⟩
  |ret u=>obtain⟨v,σ2,F,p,r,q⟩:=q7;exact xfw (p.unmkd I.ok) Z hi J λs7 o=>⟨v,_,F,o,r,q⟩
end
section
variable {X:Cx}{pins:List (Addr×Obj)}{σ:St}{H:Hp}{s:Shared}{C:Addr}{o:Expr}{fl:Str}{pos:Pos}{ta:TE}
theorem xlj{a:Addr}{c:Option Addr}{j:Value}(I:Inv X e σ H s)(i:H a=some (excF a C c j))(g:∀d,c=some d->∃fs,H d=some (.xd fs)):∃ox od,PySem.W.InstAt s.heap a ox C od:=by
 obtain⟨vs,hz,f⟩:=I.hok.excF i
 cases c with
 |none=>exact⟨_,none,f,rfl,rfl,True.intro⟩
 |some d=>
  obtain⟨fs,h⟩:=g d rfl;obtain⟨l,hn,m⟩:=(show ObjOk X.prog X.w H s.heap d (.xd fs) from I.hok d _ h);obtain⟨od,b,n⟩:=xk3 hn;exact⟨_,some od,f,rfl,rfl,b⟩
theorem xlp:xec X (.builtin "isinstance") (λxs H Q=>∃a C f i y c b,xs=[.ref a,y]/\(∀u,RelV y u->u=c)/\H a=some (excF a C f i)/\(∀d,f=some d->∃fs,H d=some (.xd fs))/\XCl X.K C ∧
  PySem.W.kitOne X.K (.ref C) c=some b/\Q (.bl b) H):=by
 intro g s σ H xs us Q I r h;obtain⟨a,C,f,i,y,c,b,rfl,n,p,o,M,e,q⟩:=h;obtain⟨u,v,rfl,m,l⟩:=r.two;obtain rfl:=n v l;obtain rfl:u=Value.ref a:=m;exact PySem.W.kia_one (xnv M.cls) I.kIn (xlj I p o) e (λz=>nomatch z) λj=>⟨.bl b,H,I.tok j,rfl,q⟩
theorem xqa:∀{cs:List Addr} {us:List Value},Vals (cs.map V.ref) us->us=cs.map Value.ref
 |[],_,.nil=>rfl
 |c::cs,_,.cons r t=>by
  rw[List.map_cons,<- xqa t];exact congrArg (·::_) r
theorem xjv:xec X (.builtin "isinstance") (λxs H Q=>∃(a C:Addr) (dx:Option Addr) (c2:Value) (tp:Addr) (cs:List Addr) (b:Bool),xs=[.ref a,.ref tp]/\H tp=some (.tup (cs.map V.ref))/\H a=some (excF a C dx c2)/\(∀d,dx=some d->∃fs,H d=some (.xd fs))/\XCl X.K C ∧
  PySem.W.kitAny X.K (.ref C) (cs.map Value.ref)=some b/\Q (.bl b) H):=by
 intro pins s σ H xs us Q I r h;obtain⟨a,C,dx,c2,tp,cs,b,rfl,et,ea,hd,M,e,q⟩:=h;obtain⟨u,v,rfl,ru,rv⟩:=r.two;obtain rfl:u=Value.ref a:=ru;obtain rfl:v=Value.ref tp:=rv;obtain⟨_,its,rv2,⟨oc,od,dt,sl⟩,h1,h2,n,h3,_⟩:=(show ObjOk X.prog X.w H s.heap tp (.tup (cs.map V.ref)) from I.hok tp _ et);obtain rfl:=xqa rv2;dsimp only at h2 h3;subst h2 h3;exact PySem.W.kia_tup (xnv M.cls) I.kIn (xlj I ea hd) h1 e (λz=>nomatch z) λtk=>⟨.bl b,H,I.tok tk,rfl,q⟩
end
section
variable {X:Cx}{E:XS}
theorem xdy(hs:X.stack=X.env::X.outer)(a:X.env.frame=some X.env.locals):PassesOwn (model (X.thr E).prog (X.thr E).w) (X.thr E).A (X.thr E).env (X.thr E).xe:=xvc hs a
end
end L2
end
section
end
section
namespace St
open PySem PySem.Spec PyProof.Rows
theorem xq9{ns:List Str}:∀i,i<=ns.length->(met (λi=>ns.getD i Str.empty) i).length=i->met (λi=>ns.getD i Str.empty) i=ns.take i/\(ns.take i).Nodup
 |0,_,_=>⟨rfl,List.nodup_nil⟩
 | i+1,h,e=>by
  have p:=met_len (λi=>ns.getD i Str.empty) i;have j:ns.getD i Str.empty=ns[i]:=by simp[List.getD,zGA (show i<ns.length by omega)]
  rw[xfx]at e⊢;rw[xu5]at e;by_cases c:(met (λi=>ns.getD i Str.empty) i).any (· == (λi=>ns.getD i Str.empty) i)=true
  ·rw[if_pos c]at e
   omega
  ·rw[if_neg c]at e
   have f:(met (λi=>ns.getD i Str.empty) i).length=i:=by omega
   obtain⟨a,b⟩:=xq9 i (by omega) f
   have o:ns[i] ∉ns.take i:=λn=>c (by
    rw[a];exact List.any_eq_true.mpr ⟨ns[i],n,by rw[show(λi=>ns.getD i Str.empty) i=ns[i] from j];simp⟩)
   have g:ns.take (i+1)=ns.take i++[ns[i]]:=by rw[zTA,zGA (show i<ns.length by omega)];rfl
   refine⟨?_,?_⟩
   ·unfold step_dedup
    rw[if_neg c,a,g];show ns.take i++[ns.getD i Str.empty]=_;rw[j]
   ·rw[g]
    exact List.nodup_append.mpr ⟨b,by simp,λx m y l=>by rw[zMO l];exact λq=>o (by rw[<- q];exact m)⟩
theorem met_iff(ns:List Str):(met (λi=>ns.getD i Str.empty) ns.length).length=ns.length ↔ ns.Nodup:=by
 constructor
 ·intro h
  have:=(xq9 ns.length (zG _) h).2
  rwa[List.take_length]at this
 ·intro h
  rw[xk1 h _ (zG _),List.take_length]
end St
namespace L2
open PySem PySem.Spec PyProof.Rows
def xsu(te:TE):TE:=λσ H Q=>te σ H λx H1=>∃p,∃ns:List Str,x=.ref p/\H1 p=some (.lst (ns.map V.str))/\ns.length<=1000/\∀m:Nat,m<=ns.length->(m=ns.length ↔ ns.Nodup)->Q (.int m) H1
theorem xoj {X:Cx} {e:Expr} {M:TE} {p1 w q1 l:Pos} (hc:X.calm=true) (G:Gl X "len") (C:X.mg "len"=none) (F:Gl X "set") (z:X.mg "set"=none) (he:PE X e M)
  (f:starEach [e] X.env=[(false,eval e X.env)]:=by rfl)
  (g:starEach [Expr.Call (.Name "set" w) [e] [] l] X.env=[(false,eval (.Call (.Name "set" w) [e] [] l) X.env)]:=by rfl) :
  PE X (.Call (.Name "len" p1) [.Call (.Name "set" w) [e] [] l] [] q1) (xsu M):=by
 intro c s σ H Q I h;refine wpAny_Call_Name_kw (xfy I G C PySem.boot_len ?_ (by decide) (by decide));refine PyProof.Rows.callWith_builtin1 ?_ g rfl;rw[g];refine Calls.spliced_cons ?_;refine wpAny_Call_Name_kw (xfy I F z PyProof.Rows.boot_set ?_ (by decide) (by decide))
 refine PyProof.Rows.callWith_type1 (thn ((zpc he pN f) l c s σ H (λvs n=>match vs with
  |[x]=>∃p,∃ns:List Str,x=.ref p/\n p=some (.lst (ns.map V.str))/\ns.length<=1000/\∀m:Nat,m<=ns.length->(m=ns.length ↔ ns.Nodup)->Q (.int m) n
  |_=>False) I h) λus s1 ⟨vs,n,Y,r,q⟩=>?_) f rfl
 match vs,r,q with
 | [x],r,q=>
  obtain⟨p,ns,rfl,hp,a0,q⟩:=q;obtain⟨u,rfl,Z⟩:=xfl r;cases Z;obtain⟨its,O,pl,hz⟩:=Y.list (zD (K:=X.K) hp);have j:ns.length=its.length:=by have:=O.length;rw[zLM]at this;exact this
  refine St.call_set_strs (ns:=ns) (I.ok.hd hc) pl.isList (by simpa using xna O) (by show its.toArray.size+1<4096;rw[List.size_toArray];omega) λh2 tk hS hk=>Calls.spliced_nil ?_;obtain⟨o,es,ep,t,ho,J,hd,_,_,_,hf,hsz⟩:=hS
  have a:es.size=(St.met (λi=>ns.getD i Str.empty) ns.length).length:=by
   rw[hsz];have:its.toArray.size=ns.length:=by simp[j]
   rw[this]
  have y:=St.met_len (λi=>ns.getD i Str.empty) ns.length;refine call_len_set ho J hd hf (by rw[a];omega) ⟨.int es.size,n,?_,⟨_,rfl⟩,q es.size (by rw[a];exact y) (by rw[a];exact St.met_iff ns)⟩;exact Y.kept λb u U=>hk b u (zJ U) U
theorem xnw{K:Fg}{t:Value}:∀{cs:List Value},(∀c∈cs,PySem.W.kitOne K t c=some false)->PySem.W.kitAny K t cs=some false
 |[],_=>rfl
 |c::cs,h=>by
  unfold PySem.W.kitAny;rw[h c (by simp)];exact xnw λd hd=>h d (by simp[hd])
open PySem.W in
def xo3(K:Frag):Bool:=xIn K (ad K "SwapError") bmV "ValueError.__new__" && (List.range 11).all (λi=>mroIn K (cAt K i) (.ref (ad K "SwapError")) == some true)
structure XTab2(K:Fg):Prop where
 obj:xIn K (ad K "SwapError") bmV "ValueError.__new__"=true
 mro:∀i,i<11->PySem.W.mroIn K (cAt K i) (.ref (ad K "SwapError"))=some true
theorem xtab2_of{K:Fg}(e:xo3 K=true):XTab2 K:=by
 unfold xo3 at e;simp only[Bool.and_eq_true,List.all_eq_true,List.mem_range,beq_iff_eq]at e;exact⟨e.1,e.2⟩
theorem xtz{e C b:Addr}{d d':Option Addr}{c p:Value}(h:excF e C d c=excF e b d' p):C=b/\d=d':=by
 unfold excF at h;injection h with h;let o:Obj:={cls:=.ref C,dict:=d,data:=.fields #[.none,.none,c,.none,.none,.none]};let a:Heap:={objs:=Array.replicate (e+1) o}
 have f:a.get? e=some o:=by
  unfold Heap.get?
  have:a.objs[e]?=some o:=by
   show(Array.replicate (e+1) o)[e]?=some o;simp
  rw[this]
 have n:=congrFun h a;have j:∃vs:Array Value,(vs.size=6/\vs[2]?=some c)/\a.get? e=some {cls:=.ref C,dict:=d,data:=.fields vs}:=⟨_,⟨rfl,rfl⟩,f⟩;rw[n]at j;obtain⟨vs,_,i⟩:=j;rw[f]at i;have g:=zM i;have m:Value.ref C=Value.ref b:=congrArg Obj.cls g;have l:d=d':=congrArg Obj.dict g;exact⟨by injection m,l⟩
end L2
end
section
namespace M
open PySem L2
def byN(j:Nat):Str:=ofL [98,121,97+j]
theorem xw7{i j:Nat}(h:byN i=byN j):i=j:=by
 have:=congrArg L h;unfold byN at this;rw[xej,xej]at this;simp at this;exact this
def NoBy(x:Str):Prop:=∀j:Nat,x≠byN j
theorem xz7{l:List Nat}(h:l[0]?≠some 98\/l[1]?≠some 121):NoBy (ofL l):=λj e=>by
 have:=congrArg L e;unfold byN at this;rw[xej,xej]at this;subst this;simp at h
theorem xmq{c:Nat}(h:c∈five):c≠98/\c≠121:=by
 revert h;unfold five;simp;omega
theorem xut{cs:List Nat}(h:∀c∈cs,c∈five)(a:Nat)(b:Int)(k:Nat)(t:List Nat)(i:∀c∈t,c∈five):NoBy (ofL (nmA cs a b k++t)):=by
 apply xz7;unfold nmA
 cases g:cs.take a with
 |nil=>
  right;rw[List.nil_append,List.cons_append,List.getElem?_cons_succ];intro e;have f:=zMG e;rcases zMA f with f |f
  ·exact(xmq (h _ (List.mem_of_mem_drop f))).2 rfl
  ·exact(xmq (i _ f)).2 rfl
 |cons c r=>
  left;intro e;simp at e;have:c∈cs.take a:=by rw[g];simp
  exact(xmq (h c (zX this))).1 e
theorem xwj{cs:List Nat}{a:Nat}{b:Int}(e:∀c∈cs,c∈five):∀z∈((List.range 26).map λk=>ofL (nmA cs a b k)),NoBy z:=λz hz=>by
 obtain⟨k,_,rfl⟩:=zMP hz;have:=xut e a b k [] (λ_ h=>nomatch h);rw[List.append_nil]at this;exact this
theorem xwg{cs:List Nat}{a:Nat}{b:Int}(f:∀c∈cs,c∈five):∀z∈((List.range 26).map λk=>ofL (nmB cs a b k)),NoBy z:=λz hz=>by
 obtain⟨k,_,rfl⟩:=zMP hz;unfold nmB;exact xut f a b _ _ λc e=>by rw[List.eq_of_mem_replicate e];decide
theorem xt1{i:Nat}(h:i<8):atI (S "abcdefgh").cps.toList (i:Int)=some (97+i):=by
 have all:∀k,k<8->(S "abcdefgh").cps.toList[k]?=some (97+k):=by walk_at"k"
 exact xar (all i h)
theorem xt8(i:Nat):S "by"++(⟨#[97+i]⟩:Str)=byN i:=by
 apply xso;rw[xe3,show L (S "by")=[98,121] by walk_at"k"];rfl
def BxAt(H:Hp)(f:Addr)(bv:V)(bs:List (Str×Str)):Prop:=∃bl us,bv=.ref bl/\H bl=some (.lst us)/\RelDs H us (bs.map xe4)/\bl≠f
def yao(bs:List (Str×Str))(m:Nat):Prop:=∀b∈bs,∀j,j<m->b.1≠byN j
def PNB(ks:List Kn):Prop:=∀k∈ks,∀p∈k.parts,NoBy p.1
structure TIn(H:Hp)(f:Addr)(kv bv:V)(ks:List Kn)(bs:List (Str×Str))(m:Nat):Prop where
 fd:∃p q:Int,H f=some (.lst [.int p,.int q])
 kd:RelD H kv (xbx ks)
 wf:KWf ks
 nb:PNB ks
 bx:BxAt H f bv bs
 nd:(bs.map (·.1)).Nodup
 bl:bs.length+m<=30
 fr:yao bs m
 kn:∀b∈bs,KIn ks 6 b.2
theorem TIn.same{H b:Hp}{f:Addr}{kv a:V}{ks:List Kn}{bs:List (Str×Str)}{m:Nat}(h:TIn H f kv a ks bs m)(s:Same H b):TIn b f kv a ks bs m:=by
 obtain⟨p,q,g⟩:=h.fd;obtain⟨j,us,e,i,c,n⟩:=h.bx;exact⟨⟨p,q,s _ _ g⟩,h.kd.same s _,h.wf,h.nb,⟨j,us,e,s _ _ i,c.same s _,n⟩,h.nd,h.bl,h.fr,h.kn⟩
theorem TIn.fed{H b:Hp}{f:Addr}{kv a:V}{ks:List Kn}{bs:List (Str×Str)}{m:Nat}(h:TIn H f kv a ks bs m)(s:Fed f H b):TIn b f kv a ks bs m:=by
 obtain⟨i,us,e,g,c,n⟩:=h.bx;exact⟨s.2,h.kd.tups (xah h.fd s) _,h.wf,h.nb,⟨i,us,e,s.1 _ _ g n,c.tups (xah h.fd s) _,n⟩,h.nd,h.bl,h.fr,h.kn⟩
theorem TIn.down{H:Hp}{f:Addr}{kv c:V}{ks:List Kn}{bs:List (Str×Str)}{m a:Nat}(h:TIn H f kv c ks bs m)(l:a<=m):TIn H f kv c ks bs a:=
 ⟨h.fd,h.kd,h.wf,h.nb,h.bx,h.nd,by have:=h.bl;omega,λb e j g=>h.fr b e j (by omega),h.kn⟩
end M
end
section
set_option maxHeartbeats 400000
namespace M
open PySem L2
def eqJ(e:D->D->Bool)(ds es:List D)(j:Nat):Bool:=match ds[j]?,es[j]? with
 |some d,some f=>e d f
 |_,_=>true
def eqL(e:D->D->Bool)(ds es:List D):Bool:=(List.range (min ds.length es.length)).all (eqJ e ds es) && ds.length == es.length
section
variable {X:Cx}{pins:List (Addr×Obj)}{σ:St}{H:Hp}{s:Shared}
def Cmp(H:Hp)(s:Shared)(n:Nat)(e:D->D->Bool)(d f:D):Prop:=∀(x y:V) (u v:Value) (A:Around),RelD H x d->RelD H y f->RelV x u->RelV y v->A.units+n<cLine->SeqAt.EqAt A s u v (e d f)
theorem xw6(I:Inv X r σ H s){n:Nat}{e:D->D->Bool}{ds es:List D}(hc:∀(j:Nat) d f,ds[j]?=some d->es[j]?=some f->Cmp H s n e d f)(l:∀x,RelDs H x ds->RelDs H x es->eqL e ds es=true){x y:V}{u v:Value}{A:Around}(hx:RelD H x (.tup ds))(hy:RelD H y (.tup es))(M:RelV x u)(J:RelV y v)(hA:A.units+(n+1)<cLine):SeqAt.EqAt A s u v (eqL e ds es):=by
 obtain⟨a,vs,rfl,w,h⟩:=hx;obtain⟨b,ws,rfl,m,g⟩:=hy;obtain rfl:u=.ref a:=M;obtain rfl:v=.ref b:=J;by_cases i:a=b
 ·subst i
  rw[w]at m;cases m;rw[l _ h g];exact SeqAt.EqAt.same _
 ·obtain⟨its,p,Z,_⟩:=I.tuple (zC (K:=X.K) w)
  obtain⟨c,o,Y,_⟩:=I.tuple (zC (K:=X.K) m);have l1:=p.length;have l2:=o.length;have l3:=h.length;have l4:=g.length;have:=SeqAt.EqAt.of_refs i (SeqAt.RcAt.tuples (A:=A) (e:=eqJ e ds es) Z Y (by omega) λj h1 h2=>?_)
  ·have e':((List.range (min its.toArray.size c.toArray.size)).all (eqJ e ds es) && its.toArray.size == c.toArray.size)=eqL e ds es:=by
    unfold eqL;rw[show its.toArray.size=ds.length by simp only[List.size_toArray];omega,show c.toArray.size=es.length by simp only[List.size_toArray];omega]
   rw[e']at this;exact this
  ·obtain⟨x1,e1,U⟩:=xih p h1
   obtain⟨x2,e2,O⟩:=xih o h2;obtain⟨G,C,g1⟩:=h.get e1;obtain⟨F,z,g2⟩:=g.get e2;have ej:eqJ e ds es j=e G F:=by unfold eqJ;rw[C,z]
   rw[ej];exact hc j G F C z _ _ _ _ _ g1 g2 U O (by show A.units+1+n<cLine;omega)
theorem xjs{e:D->D->Bool}{ds:List D}(h:∀d∈ds,e d d=true):eqL e ds ds=true:=by
 unfold eqL;rw[Bool.and_eq_true];refine⟨List.all_eq_true.mpr λj a=>?_,beq_self_eq_true _⟩;unfold eqJ
 cases q:ds[j]? with
 |none=>rfl
 |some d=>exact h d (zMG q)
end
end M
end
section
namespace L2
open PySem PySem.Spec PyProof.Rows
def Itv(a:Addr)(xs:List V):It:=⟨λi H=>H a=some (.lst xs)/\i<xs.length,λi H x H'=>H'=H/\xs[xs.length-1-i]?=some x,λi H=>H a=some (.lst xs)/\xs.length<=i⟩
theorem xss{P:Program}{w:World}{K:Fg}{tg:Expr}(a it:Addr)(xs:List V):Turn P w K tg (Itv a xs) [it] it (λi h=>i<=xs.length/\h.IsRevIter it a ((xs.length:Int)-1-(i:Int))) where
 mem:=by simp
 obj:=λi h st b j=>by
  have e:b=it:=by simpa using j
  subst e;obtain⟨_,o,e,c,d⟩:=st;exact⟨o,e,λv z=>by rw[d]at z;cases z⟩
 keep:=λi h h' st k=>⟨st.1,st.2.at λo e=>k it (by simp) o e⟩
 item:=by
  intro X y n C Y i g s σ H E I m st r;subst y n C;obtain⟨Z,hi⟩:=r;obtain⟨its,rv,p,hz⟩:=I.list (zD (K:=X.K) Z);have U:xs[xs.length-1-i]?=some (xs[xs.length-1-i]'(by omega)):=zGA _;obtain⟨u,hu,ru⟩:=rv.get U;obtain⟨O,M,f2,J,G,F⟩:=m it (by simp);have f:=st.2;rw[show(xs.length:Int)-1-(i:Int)=((xs.length-1-i:Nat):Int) by omega]at f;refine wpAny_pyNext_rev_item f p.isList (x:=u) (by simpa using hu) λh' l sb=>?_;have I1:Inv X g σ H {s with heap:=h'}:=I.turned (t':=s.toks) (λb o j e=>(sb.2 b j).trans e) O M J G F;obtain⟨o,e,c,d⟩:=id l;refine⟨u,rfl,xrw (s:={s with heap:=h'}) e c d (by decide) ⟨_,H,I1,ru,⟨rfl,U⟩,⟨hi,?_⟩,λb j=>(m b j).1⟩⟩;rw[show(xs.length:Int)-1-((i+1:Nat):Int)=((xs.length-1-i:Nat):Int)-1 by omega];exact l
 done:=by
  intro X y n C Y i g s σ H E I m st r;subst y n C;obtain⟨Z,hi⟩:=r;obtain⟨O,M,f2,J,G,F⟩:=m it (by simp);have f:=st.2;have h1:=st.1;rw[show(xs.length:Int)-1-(i:Int)=-1 by omega]at f;exact wpAny_pyNext_rev_end (I.ok.hd Y) f λh' eb=>⟨rfl,I.turned (t':=s.toks) (λb o j e=>eb b o j e) O M J G F⟩
 self:=λ_ _ _ _ _ st h=>wpAny_pyIter_revIter st.2 h
section
variable {X:Cx}{tg:Expr}
def iRev(te:TE):TI:=λσ H R=>te σ H λx H1=>∃a xs,x=.ref a/\H1 a=some (.lst xs)/\R (Itv a xs) H1
theorem xyb{e:Expr}{y:TE}{G z:Pos}(w:Gl X "reversed")(r:X.mg "reversed"=none)(O:PE X e y)(i:starEach [e] X.env=[(false,eval e X.env)]:=by rfl):PI X Z (.Call (.Name "reversed" G) [e] [] z) (iRev y):=by
 intro g s σ H R I h;refine wpAny_Call_Name_kw (xfy I w r xt9 ?_ (by decide) (by decide))
 refine PyProof.Rows.callWith_type1 (thn ((zpc O pN i) z g s σ H (λvs l=>match vs with
  |[x]=>∃a xs,x=.ref a/\l a=some (.lst xs)/\R (Itv a xs) l
  |_=>False) I h) λus c ⟨vs,l,m,n,q⟩=>?_) i rfl
 match vs,n,q with
 | [x],n,q=>
  obtain⟨p,xs,rfl,J,q⟩:=q;obtain⟨u,rfl,F⟩:=xfl n;cases F;obtain⟨its,C,pl,hz⟩:=m.list (zD (K:=X.K) J);have M:=C.length;refine call_reversed_list pl.isList ?_;have Y:Inv X g σ l {c with heap:=c.heap.push {cls:=.type "list_reverseiterator",data:=.fields #[.ref p,rawInt ((its.toArray.size:Int)-1)]}}:=m.kept (t':=c.toks) λb o e=>zPO _ e;have j:(c.heap.push {cls:=.type "list_reverseiterator",data:=.fields #[.ref p,rawInt ((its.toArray.size:Int)-1)]}).IsRevIter c.heap.objs.size p ((its.toArray.size:Int)-1):=⟨_,zK _ rfl,rfl,rfl⟩;refine wpAny_pyIter_revIter j ?_;refine⟨c.heap.objs.size,[c.heap.objs.size],_,_,l,rfl,Y,xss p _ xs,⟨zY _,?_⟩,λb U=>?_,q⟩
  ·rw[show(xs.length:Int)-1-((0:Nat):Int)=(its.toArray.size:Int)-1 by rw[List.size_toArray,<- M];omega]
   exact j
  ·have e:b=c.heap.objs.size:=by simpa using U
   subst e;have f:=m.fpOk (zG _) (m.hok.fresh (zG _));exact f
theorem xw0 {a:Addr} {xs:List V} {g:TG} {n:TS} {D:Ends} {σ:St} {H:Hp} (b:Nat->St->Hp->Prop) (h0:b 0 σ H) (s:∀i σ H,i<=xs.length->b i σ H->H a=some (.lst xs))
  (hs:∀i x σ H,i<xs.length->xs[xs.length-1-i]?=some x->b i σ H->g x σ H λh l=>n {D with nx:=b (i+1),ct:=b (i+1),bk:=D.nx} h l) (u:∀σ H,b xs.length σ H->D.nx σ H) :
  ∃W:Nat->Nat->St->Hp->Prop,(∃m,W 0 m σ H)/\∀i m σ H,W i m σ H->
   ((Itv a xs).stop i H/\D.nx σ H)\/((Itv a xs).go i H/\∃N:St->Hp->Prop,(∀j f,N j f->∃o,o<m/\W (i+1) o j f)/\∀x f,(Itv a xs).yld i H x f->g x σ f λh l=>n {D with nx:=N,ct:=N,bk:=D.nx} h l):=by
 refine⟨λi m σ H=>m=xs.length-i/\i<=xs.length/\b i σ H,⟨xs.length,by simp,zY _,h0⟩,?_⟩;rintro i m σ H ⟨rfl,hi,p⟩;have q:=s i σ H hi p;by_cases c:i<xs.length
 ·refine .inr ⟨⟨q,c⟩,b (i+1),λj f r=>⟨xs.length-(i+1),by omega,rfl,c,r⟩,λx f y=>?_⟩
  obtain⟨e,y⟩:=y;subst e;exact hs i x σ _ c y p
 ·have e:i=xs.length:=by omega
  subst e;exact .inl ⟨⟨q,zG _⟩,u σ H p⟩
end
end L2
namespace M
open PySem L2
def eqN:Nat->D->D->Bool
 |_,.int a,.int b=>a == b
 |_,.str a,.str b=>a == b
 |n+1,.tup ds,.tup es=>eqL (eqN n) ds es
 |_,_,_=>false
theorem xjr:∀(n:Nat) (d:D),d.deep<=n->eqN n d d=true
 |n,.int a,_=>by cases n <;> exact beq_self_eq_true a
 |n,.str a,_=>by cases n <;> exact beq_self_eq_true a
 |0,.tup ds,h=>absurd h (Nat.not_succ_le_zero _)
 |n+1,.tup ds,h=>xjs λd b=>xjr n d (by have:=xcu b;have h':xdd ds+1<=n+1:=h;omega)
section
variable {X:Cx}{pins:List (Addr×Obj)}{σ:St}{H:Hp}{s:Shared}
theorem xp9:∀(n:Nat) (x:V) (d f:D),d.deep<=n->RelD H x d->RelD H x f->d=f
 |n,x,.int a,.int b,_,h,k=>by cases h;cases k;rfl
 |n,x,.str a,.str b,_,h,k=>by cases h;cases k;rfl
 |0,x,.tup ds,.tup es,h,_,_=>absurd h (Nat.not_succ_le_zero _)
 | n+1,x,.tup ds,.tup es,r,h,k=>by
  obtain⟨a,vs,rfl,s,g⟩:=h;obtain⟨b,ws,e,m,c⟩:=k;cases e;rw[s]at m;cases m;have F:=g.length;have C:=c.length;congr 1;refine List.ext_getElem? λj=>?_
  cases i:ds[j]? with
  |none=>rw[List.getElem?_eq_none_iff.mpr (by have:=List.getElem?_eq_none_iff.mp i;omega)]
  |some d=>
   have p:=(zES i).1;have l:vs[j]?=some (vs[j]'(by omega)):=zGA _;obtain⟨G,o,w⟩:=g.get l;obtain⟨z,y,u⟩:=c.get l;rw[i]at o;cases o;rw[y,xp9 n _ d z (by have:=xcu (zMG i);have h':xdd ds+1<=n+1:=r;omega) w u]
 |n,x,.int _,.str _,_,h,k=>by cases h;cases k
 |n,x,.int _,.tup _,_,h,k=>by cases h;obtain⟨_,_,e,_⟩:=k;cases e
 |n,x,.str _,.int _,_,h,k=>by cases h;cases k
 |n,x,.str _,.tup _,_,h,k=>by cases h;obtain⟨_,_,e,_⟩:=k;cases e
 |n,x,.tup _,.int _,_,h,k=>by cases k;obtain⟨_,_,e,_⟩:=h;cases e
 |n,x,.tup _,.str _,_,h,k=>by cases k;obtain⟨_,_,e,_⟩:=h;cases e
theorem xs3{n:Nat}{x:List V}{ds es:List D}(h:∀d∈ds,d.deep<=n)(c:RelDs H x ds)(b:RelDs H x es):ds=es:=by
 have r:=c.length;have p:=b.length;refine List.ext_getElem? λj=>?_
 cases a:ds[j]? with
 |none=>rw[List.getElem?_eq_none_iff.mpr (by have:=List.getElem?_eq_none_iff.mp a;omega)]
 |some d=>
  have g:=(zES a).1;have e:x[j]?=some (x[j]'(by omega)):=zGA _;obtain⟨s,f,l⟩:=c.get e;obtain⟨o,m,i⟩:=b.get e;rw[a]at f;cases f;rw[m,xp9 n _ d o (h d (zMG a)) l i]
theorem cmpN(I:Inv X G σ H s):∀(n:Nat) (d f:D),d.deep<=n->f.deep<=n->Cmp H s (n+1) (eqN n) d f
 |n,.int a,.int b,_,_=>λx y u v A l i g c _=>by
  cases l;cases i;obtain⟨t,rfl⟩:=g;obtain⟨t',rfl⟩:=c;cases n <;> exact SeqAt.EqAt.int_int (A:=A) (s:=s) a t b t'
 |n,.str a,.str b,_,_=>λx y u v A l i g c _=>by
  cases l;cases i;obtain⟨t,rfl⟩:=g;obtain⟨t',rfl⟩:=c;cases n <;> exact SeqAt.EqAt.str_str (A:=A) (s:=s) a t b t'
 |n,.int a,.str b,_,_=>λx y u v A l i g c _=>by
  cases l;cases i;obtain⟨t,rfl⟩:=g;obtain⟨t',rfl⟩:=c;cases n <;> exact SeqAt.EqAt.int_str (A:=A) (s:=s) a t b t'
 |n,.str a,.int b,_,_=>λx y u v A l i g c _=>by
  cases l;cases i;obtain⟨t,rfl⟩:=g;obtain⟨t',rfl⟩:=c;cases n <;> exact SeqAt.EqAt.str_int (A:=A) (s:=s) a t b t'
 |n,.int a,.tup ds,_,_=>λx y u v A l i g c C=>by
  cases l;obtain⟨b,ws,rfl,r,o⟩:=i;obtain⟨t,rfl⟩:=g;obtain rfl:v=.ref b:=c;obtain⟨m,w,p,_⟩:=I.tuple (zC (K:=X.K) r);cases n <;> exact SeqAt.EqAt.int_tuple (A:=A) (s:=s) a t p (by omega)
 |n,.str a,.tup ds,_,_=>λx y u v A l i g c C=>by
  cases l;obtain⟨b,ws,rfl,r,o⟩:=i;obtain⟨t,rfl⟩:=g;obtain rfl:v=.ref b:=c;obtain⟨m,w,p,_⟩:=I.tuple (zC (K:=X.K) r);cases n <;> exact SeqAt.EqAt.str_tuple (A:=A) (s:=s) a t p (by omega)
 |n,.tup ds,.int a,_,_=>λx y u v A l i g c C=>by
  cases i;obtain⟨b,ws,rfl,r,o⟩:=l;obtain⟨t,rfl⟩:=c;obtain rfl:u=.ref b:=g;obtain⟨m,w,p,_⟩:=I.tuple (zC (K:=X.K) r);cases n <;> exact SeqAt.EqAt.tuple_int (A:=A) (s:=s) a t p (by omega)
 |n,.tup ds,.str a,_,_=>λx y u v A l i g c C=>by
  cases i;obtain⟨b,ws,rfl,r,o⟩:=l;obtain⟨t,rfl⟩:=c;obtain rfl:u=.ref b:=g;obtain⟨m,w,p,_⟩:=I.tuple (zC (K:=X.K) r);cases n <;> exact SeqAt.EqAt.tuple_str (A:=A) (s:=s) a t p (by omega)
 |0,.tup ds,.tup es,h,_=>absurd h (Nat.not_succ_le_zero _)
 |n+1,.tup ds,.tup es,O,M=>λx y u v A l i g c C=>by
  have F:∀d∈ds,d.deep<=n:=λd z=>by have:=xcu z;have h':xdd ds+1<=n+1:=O;omega
  have U:∀d∈es,d.deep<=n:=λd z=>by have:=xcu z;have h':xdd es+1<=n+1:=M;omega
  refine xw6 (n:=n+1) (e:=eqN n) I (λj d f Z Y=>cmpN I n d f (F d (zMG Z)) (U f (zMG Y))) (λx J w=>?_) l i g c C;rw[<- xs3 F J w];exact xjs λd z=>xjr n d (F d z)
end
section
variable {X:Cx}
def xz0:R2:=λx y H Q=>∃ds es:List D,RelD H x (.tup ds)/\RelD H y (.tup es)/\xdd ds<=190/\xdd es<=190/\Q (.bl (eqL (eqN 190) ds es)) H
theorem xwa(hu:X.A.units+200<cLine):OpR X (compareOp .Eq) xz0:=by
 intro m s σ H x y v u Q I z w h;obtain⟨ds,es,O,M,hd,he,q⟩:=h;obtain⟨a,vs,rfl,Y,g⟩:=O;obtain⟨b,ws,rfl,U,f⟩:=M;obtain rfl:v=.ref a:=z;obtain rfl:u=.ref b:=w;obtain⟨its,l,J,_⟩:=I.tuple (zC (K:=X.K) Y);obtain⟨c,i,G,_⟩:=I.tuple (zC (K:=X.K) U);have l1:=l.length;have l2:=i.length;have l3:=g.length;have l4:=f.length;refine SeqAt.eq_tupleAt (e:=eqJ (eqN 190) ds es) J G (by omega) (λj h1 Z=>?_) ⟨.bl (eqL (eqN 190) ds es),H,I,?_,q⟩
 ·obtain⟨x1,e1,F⟩:=xih l h1
  obtain⟨x2,e2,C⟩:=xih i Z;obtain⟨r,o,g1⟩:=g.get e1;obtain⟨p,n,g2⟩:=f.get e2;have ej:eqJ (eqN 190) ds es j=eqN 190 r p:=by unfold eqJ;rw[o,n]
  rw[ej];refine cmpN I 190 r p ?_ ?_ _ _ _ _ _ g1 g2 F C (by show X.A.units+1+191<cLine;omega)
  ·have:=xcu (zMG o);omega
  ·have:=xcu (zMG n);omega
 ·have e':((List.range (min its.toArray.size c.toArray.size)).all (eqJ (eqN 190) ds es) && its.toArray.size == c.toArray.size)=eqL (eqN 190) ds es:=by
   unfold eqL;rw[show its.toArray.size=ds.length by simp only[List.size_toArray];omega,show c.toArray.size=es.length by simp only[List.size_toArray];omega]
  rw[e'];rfl
end
end M
end
section
namespace HT
open PySem PySem.Spec PyProof.Rows
theorem noFill_tuple_mul:fillsNumberSlot (.type "tuple") "mul"=pure false:=
 PySem.fillsNumberSlot_seq (id:="tuple.__mul__") (r:=some (.builtin "tuple.__rmul__")) F.slot_tuple_mul.lookup (by walk_at"k") F.slot_tuple_rmul.lookup (by walk_at"k")
theorem repeat_tuple:seqRepeat? (.type "tuple")=pure (some (.builtin "tuple.__mul__")):=by
 unfold seqRepeat?;rw[PySem.seqSlot_of (T:="tuple") (name:="__mul__") (id:="tuple.__mul__") F.slot_tuple_mul.lookup (by walk_at"k"),PySem.seqSlot_of (T:="tuple") (name:="__rmul__") (id:="tuple.__rmul__") F.slot_tuple_rmul.lookup (by walk_at"k")];rfl
theorem int_rmul_tuple (a:Int) (t:Tok) (l:Addr) (items:Array Value) (n:Nat) (b:Option Addr) (sl:Array (Option Value)) :
  Meets (Builtin.«int.__rmul__» ⟨[.int a t,.ref l],[]⟩) (λ_ R s=>s.heap.get? l=some {cls:=.type "tuple",dict:=b,data:=.seq items n,slots:=sl}/\R (.ok (.ret Value.notImplemented)) s):=
 .of_wp λprog w A R s h=>by obtain⟨f,g,d,c,e⟩:=s;obtain⟨i,h⟩:=h;wp_walk;exact⟨_,rfl,h⟩
theorem tuple_mul_one (l:Addr) (items:Array Value) (n:Nat) (u:Tok) (sl:Array (Option Value)) :
  Meets (Builtin.«tuple.__mul__» ⟨[.ref l,.int 1 u],[]⟩) (λ_ R s=>s.heap.get? l=some {cls:=.type "tuple",dict:=none,data:=.seq items n,slots:=sl}/\R (.ok (.ret (.ref l))) s):=
 .of_wp λprog w A R s h=>by obtain⟨c,g,d,a,b⟩:=s;obtain⟨e,h⟩:=h;wp_walk;exact⟨_,rfl,h⟩
theorem tuple_mul_n (l:Addr) (items:Array Value) (n:Nat) (x:Int) (u:Tok) (sl:Array (Option Value)) (I:2<=x) (G:x<2 ^ 62) (c:items.isEmpty=false) (F:(items.size:Int)*x<=sizeLine) :
  Meets (Builtin.«tuple.__mul__» ⟨[.ref l,.int x u],[]⟩) (λ_ R s=>s.heap.get? l=some {cls:=.type "tuple",dict:=none,data:=.seq items n,slots:=sl}/\R (.ok (.ret (.ref s.heap.objs.size))) {s with heap:=s.heap.push {cls:=.type "tuple",data:=.seq ((List.replicate x.toNat items).foldl (·++·) #[])},toks:=s.toks}):=
 .of_wp λprog w A R s h=>by
  obtain⟨z,g,d,r,y⟩:=s;obtain⟨C,h⟩:=h
  have p:(decide (x < -2 ^ 63) || decide (x ≥ 2 ^ 63))=false:=by
   rw[Bool.or_eq_false_iff];exact⟨zDF (by omega),zDF (by omega)⟩
  have o:(items.isEmpty || x == 1)=false:=by
   rw[c,Bool.false_or,beq_eq_false_iff_ne];omega
  have m:(decide (x<=0) || items.isEmpty)=false:=by
   rw[c,Bool.or_false];exact zDF (by omega)
  have hs:(sizeLine:Int)<=(2 ^ 63-1) / 8:=by decide
  have j:¬(items.size:Int)*x > (2 ^ 63-1) / 8:=by omega
  have i:Builtin.Tuple.tupleTooMany ((items.size:Int)*x)=false:=zDF (by omega)
  wp_walk
  rw[if_neg (by rw[p];decide)]
  wp_walk
  rw[if_neg (by rw[o];decide),if_neg (by rw[m];decide),if_neg j,if_neg (by rw[i];decide)]
  have J:(List.foldl (λb a=>b++a) #[] (List.replicate x.toNat items)).size<=sizeLine:=by
   have e:=L2.foldl_rep items.toList x.toNat [];rw[List.nil_append,Array.toArray_toList]at e;have f:List.foldl (λb a=>b++a) #[] (List.replicate x.toNat items)=(List.replicate x.toNat items.toList).flatten.toArray:=e;rw[f,List.size_toArray,L2.len_rep,Array.length_toList]
   have:((x.toNat*items.size:Nat):Int)=(items.size:Int)*x:=by
    rw[Int.natCast_mul,Int.toNat_of_nonneg (by omega),Int.mul_comm]
   omega
  wp_walk
  exact⟨_,rfl,h⟩
end HT
namespace L2
open PySem PySem.Spec PyProof.Rows
section
variable {X:Cx}
def xvw(K:Fg):R2:=λx y H Q=>∃l k xs,x=.ref l/\y=.int k/\H l=some (.tup xs)/\xs≠[]/\1<=k/\k<2 ^ 62/\xs.length*k.toNat<=sizeLine/\(k=1->Q (.ref l) H) ∧
 (2<=k->∀p,H p=none->Q (.ref p) (upd H p (.tup (List.replicate k.toNat xs).flatten)))
theorem xv6:OpR X (binaryOp .Mult) (xvw X.K):=by
 intro j s σ H x y v u Q I J G h;obtain⟨l,k,xs,rfl,rfl,Z,g,h1,h2,hz,O,M⟩:=h;cases J;obtain⟨t,rfl⟩:=G;obtain⟨_,its,r,⟨cls,dd,data,sl⟩,c,z,n,p,f⟩:=(show ObjOk X.prog X.w H s.heap l (.tup xs) from I.hok l _ Z);simp only at z p f;subst z p f;have m:=r.length
 have i:its.toArray.isEmpty=false:=by
  cases its with
  |nil=>exact absurd (List.length_eq_zero_iff.mp m) g
  |cons a b=>rfl
 refine wpAny_binaryOp_repeat_ref (T:="tuple") (U:="int") (by decide) ⟨_,c,rfl⟩ (λC=>typeIs_int C k t) HT.noFill_tuple_mul F.fills_int_mul F.slot_int_rmul HT.repeat_tuple F.slot_int_index.lookup
  (call_meets F.slot_int_rmul (typeIs_int s k t) F.entry_int_rmul (F.args_int_rmul_2 _ _) (HT.int_rmul_tuple k t l its.toArray n none sl) ⟨c,rfl,⟨_,c,rfl⟩,?_⟩)
 by_cases Y:k=1
 ·subst Y
  exact call_meets F.slot_tuple_mul ⟨_,c,rfl⟩ F.entry_tuple_mul (F.args_tuple_mul_2 _ _) (HT.tuple_mul_one l its.toArray n t sl) ⟨c,⟨.ref l,H,I,rfl,O rfl⟩⟩
 ·refine call_meets F.slot_tuple_mul ⟨_,c,rfl⟩ F.entry_tuple_mul (F.args_tuple_mul_2 _ _) (HT.tuple_mul_n l its.toArray n k t sl (by omega) h2 i ?_) ⟨c,?_⟩
  ·rw[List.size_toArray,<- m]
   have:((xs.length*k.toNat:Nat):Int)=(xs.length:Int)*k:=by
    rw[Int.natCast_mul,Int.toNat_of_nonneg (by omega)]
   omega
  ·have e:(List.replicate k.toNat its.toArray).foldl (·++·) #[]=(List.replicate k.toNat its).flatten.toArray:=by
    have:=foldl_rep its k.toNat [];rw[List.nil_append]at this;exact this
   rw[e];refine⟨.ref s.heap.objs.size,_,I.laid (t':=s.toks) (o:=.tup (List.replicate k.toNat xs).flatten) (λb ob q=>zPO _ q) (zG _) ?_,rfl,M (by omega) _ (I.hok.fresh (zG _))⟩;exact⟨by rw[len_rep,Nat.mul_comm];exact hz,_,r.rep k.toNat,_,zK _ rfl,rfl,_,rfl,rfl⟩
end
end L2
end
section
namespace L2
open PySem PySem.Spec PyProof.Rows M
section
variable {X:Cx}{K:Fg}
theorem xap{b:Expr}(e:X.K=K){l:Expr}{a:TE}(c:PE X l a):PI X b l (iTup K a):=by subst e;exact xuo c
theorem xcd{b:Expr}(e:X.K=K){l:Expr}{a:TE}(c:PE X l a):PI X b l (xww K a):=by subst e;exact xqj c
theorem xbi(a:X.K=K):xec X (.type "tuple") (λxs H Q=>∃p ys,xs=[.ref p]/\((SqL K H p ys/\∀l,H l=none->Q (.ref l) (upd H l (.tup ys)))\/(SqT K H p ys/\Q (.ref p) H))):=by subst a;exact xju
theorem xnz(a:X.K=K):OpR X (binaryOp .Add) (xqc K):=by subst a;exact xta
theorem xy4(a:X.K=K):OpR X (compareOp .In) (rIn K false):=by subst a;exact xkk
theorem xy3(a:X.K=K):SlR X (rSlT K):=by subst a;exact xuk
theorem xhq(a:X.K=K):SlR X (xvv K):=by subst a;exact xvs
theorem xwy(a:X.K=K):OpR X (binaryOp .Mult) (xvw K):=by subst a;exact xv6
end
section
variable {X:Cx}
theorem va(i:Nat){x:Str}{p:Pos}{es:List Expr}{t:TA}(c:PA X es t)(f:X.N[i]?=some x:=by rfl)(b:Vis X.env.scope x:=by first |exact Or.inl rfl |exact Or.inr (Or.inl rfl) |exact Or.inr (Or.inr rfl))(e:(x == ("__debug__":Str))=false:=by decide)(a:(x == ("__classdict__":Str))=false:=by decide):PA X (.Name x p::es) (xvj (tVar i) t):=zpc (pv i f b e a) c zsn
theorem v1(i:Nat){x:Str}{p:Pos}(e:X.N[i]?=some x:=by rfl)(b:Vis X.env.scope x:=by first |exact Or.inl rfl |exact Or.inr (Or.inl rfl) |exact Or.inr (Or.inr rfl))(c:(x == ("__debug__":Str))=false:=by decide)(a:(x == ("__classdict__":Str))=false:=by decide):PA X [.Name x p] (xvj (tVar i) tNil):=va i pN e b c a
theorem psn(i:Nat){x:Str}{e:Expr}{b:TE}{pos a:Pos}(h:X.N.Nodup)(g:PE X e b)(hi:X.N[i]?=some x:=by rfl)(c:Loc X.env.scope x:=by first |exact Or.inl rfl |exact Or.inr rfl)(hs:swapsWith e (some (.Name x a)) pos.line X.env=pure false:=by rfl)(f:X.fn x=true\/X.env.scope.names.lookup x=some .local:=by first |exact .inl rfl |exact .inr rfl |assumption):PS X (.Assign [.Name x a] e pos) (tAsg b (xhr i)):=xya h hi c g hs f
theorem pgn(i:Nat){x:Str}{pos:Pos}(c:X.N.Nodup)(hi:X.N[i]?=some x:=by rfl)(a:Loc X.env.scope x:=by first |exact Or.inl rfl |exact Or.inr rfl)(b:X.fn x=true\/X.env.scope.names.lookup x=some .local:=by first |exact .inl rfl |exact .inr rfl |assumption):PG X (.Name x pos) (xhr i):=xql c hi a b
theorem px(K:Fg){a b:Expr}{e c:TE}{pos:Pos}(g:PE X a e)(f:PE X b c)(h:X.K=K:=by rfl)(hs:xmy b:=by exact λ_ _=>rfl):PE X (.Subscript a b pos) (tOp (rIxT K) e c):=xok (xws h) g f hs
theorem pxl(K:Fg){a b:Expr}{e c:TE}{pos:Pos}(g:PE X a e)(f:PE X b c)(h:X.K=K:=by rfl)(hs:xmy b:=by exact λ_ _=>rfl):PE X (.Subscript a b pos) (tOp (rIxL K) e c):=xok (xtp h) g f hs
theorem pgc(i:Nat){x:Str}{pos:Pos}(hi:X.N[i]?=some x:=by rfl)(hN:X.N.Nodup:=by exact zH (by kernel_rfl))(hx:Loc X.env.scope x:=by exact Or.inl rfl)(hf:X.fn x=true\/X.env.scope.names.lookup x=some .local:=by first |exact .inl rfl |exact .inr rfl |assumption):PG X (.Name x pos) (xhr i):=xql hN hi hx hf
end
end L2
end
section
namespace M
open PySem L2
def ArmN(ks:List Kn)(z:Str):Prop:=(∃j,z=byN j)\/∃k∈ks,∃p∈k.parts,p.1=z
def FitK(ks:List Kn)(bs:List (Str×Str))(env:En):Prop:=(∀p∈bs,env p.1=some (.str p.2))/\∀z,ArmN ks z->(∀q∈bs,q.1≠z)->env z=none
theorem FitK.put{ks:List Kn}{bs:List (Str×Str)}{env:En}{y k:Str}(h:FitK ks bs env)(f:∀p∈bs,p.1≠y):FitK ks (bs++[(y,k)]) (env.put y (.str k)):=by
 refine⟨λp a=>?_,λz hz e=>?_⟩
 ·unfold En.put
  rcases zMA a with a |a
  ·rw[if_neg (f p a)];exact h.1 p a
  ·rw[zMO a,if_pos rfl]
 ·unfold En.put
  have b:y≠z:=e (y,k) (by simp);rw[if_neg (Ne.symm b)];exact h.2 z hz λq c=>e q (by simp[c])
def TmK(ks:List Kn)(n:Nat)(bs:List (Str×Str))(d:D)(x:Str):Prop:=∀env,FitK ks bs env->Kd True ks n env d x
def TmB(ks:List Kn)(n:Nat)(bs:List (Str×Str))(d:D)(x:Str):Prop:=TmOk ks n bs d x/\TmK ks n bs d x
theorem xrn{ks:List Kn}{n:Nat}{env:En}{d:D}{x:Str}(h:xlw env d x):Kd True ks n env d x:=by
 cases n with
 |zero=>exact h
 |succ n=>exact .inl h
theorem xph{ks:List Kn}{n:Nat}{bs:List (Str×Str)}{i:Int}(h:Nm i):TmB ks n bs (tNum i) (S "num"):=⟨xxi h,λenv _=>xrn (.inl ⟨i,h,rfl,rfl⟩)⟩
theorem xj2{ks:List Kn}{n:Nat}{bs:List (Str×Str)}{y x:Str}(h:(y,x)∈bs):TmB ks n bs (tBox y) x:=⟨xxk h,λenv a=>xrn (.inr ⟨y,a.1 _ h,rfl⟩)⟩
theorem xzl{ks:List Kn}(wf:KWf ks){n:Nat}{bs:List (Str×Str)}{s:Str}{a b:D}(hs:Sg s)(f:TmB ks n bs a (S "num"))(e:TmB ks n bs b (S "num")):TmB ks (n+1) bs (tOpD s a b) (S "num"):=
 ⟨xzi wf hs f.1 e.1,λenv c=>.inr (.inl ⟨s,a,b,f.2 env c,e.2 env c,rfl,rfl⟩)⟩
theorem xpg{ks:List Kn}{n:Nat}{bs:List (Str×Str)}{x:Str}{k:Kn}{es:List D}(b:kAt ks x=some k)(a:k.rc=true)(c:k.parts.length<=1000)(h:All2 (λe (p:Str×Str)=>TmB ks n bs e p.2) es k.parts):TmB ks (n+1) bs (tRec x es) x:=
 ⟨xxh b a c (h.imp λ_ _ h=>h.1),λenv f=>.inr (.inr (.inl ⟨es,k,b,a,h.imp λ_ _ h=>h.2 env f,rfl⟩))⟩
theorem xl8{k:Kn}{p:Str×Str}(nd:(k.parts.map (·.1)).Nodup)(b:p∈k.parts):xch k p.1=some p.2:=by
 unfold xch;obtain⟨i,hi,e⟩:=zMI b;have:=xco (f:=λr:Str×Str=>r.1) (xs:=k.parts) (i:=i) (a:=p) nd (by rw[<- e];exact zGA hi);rw[this];rfl
theorem xxl{ks:List Kn}(wf:KWf ks){n:Nat}{bs:List (Str×Str)}{y:Str}{k:Kn}{a:D}{p:Str×Str}(b:kAt ks y=some k)(c:k.rc=true)(e:p∈k.parts)(h:TmB ks n bs a y):TmB ks (n+1) bs (tGet a p.1) p.2:=
 ⟨xxj wf b c e h.1,λenv f=>.inr (.inr (.inr (.inl ⟨a,y,p.1,k,h.2 env f,b,c,xl8 (wf.pnd k (zMF b)) e,rfl⟩)))⟩
theorem xpf{ks:List Kn}(wf:KWf ks){n:Nat}{bs:List (Str×Str)}{x:Str}{k:Kn}{a:D}{p:Str×Str}(b:kAt ks x=some k)(c:k.rc=false)(e:p∈k.parts)(h:TmB ks n bs a p.2):TmB ks (n+1) bs (tTag x p.1 a) x:=
 ⟨xxg b c e h.1,λenv f=>.inr (.inr (.inr (.inr (.inl ⟨p.1,a,k,p.2,b,c,xl8 (wf.pnd k (zMF b)) e,h.2 env f,rfl⟩))))⟩
theorem xkz{α β:Type}{f:α->β}:∀{l:List α},(l.map f).Nodup->∀{a b:α},a∈l->b∈l->f a=f b->a=b
 |[],_,a,_,i,_,_=>nomatch i
 | c::l,nd,a,b,i,j,e=>by
  rw[List.map_cons,List.nodup_cons]at nd;rcases zMC i with h |h <;> rcases zMC j with g |g
  ·rw[h,g]
  ·rw[h]at e
   exact absurd (by rw[e];exact zQ g) nd.1
  ·rw[g]at e
   exact absurd (by rw[<- e];exact zQ h) nd.1
  ·exact xkz nd.2 h g e
theorem xvg {ks:List Kn} (wf:KWf ks) {n:Nat} {bs:List (Str×Str)} {x y:Str} {k:Kn} {a:D} {rs:List (Str×Str×D)} (l:kAt ks y=some k) (j:k.rc=false) (w:TmB ks n bs a y) (F:rs.length<=1000) (nd:(rs.map (·.1)).Nodup)
  (b:rs.length=k.parts.length) (c:∀r∈rs,∃p∈k.parts,p.1=r.1)
  (h:∀p∈k.parts,∃z e,(p.1,z,e)∈rs/\(∀q∈bs,q.1≠z)/\ArmN ks z/\TmB ks n (bs++[(z,p.2)]) e x):TmB ks (n+1) bs (xgj a rs) x:=by
 have u:=zMF l;refine⟨xvb wf l j w.1 F nd λp g=>?_,λenv m=>.inr (.inr (.inr (.inr (.inr (.inl ⟨True.intro,a,rs,y,k,w.2 env m,l,j,?_,b,nd,λr f=>?_,rfl⟩)))))⟩
 ·obtain⟨z,e,s,i,C,o⟩:=h p g
  exact⟨z,e,s,i,o.1⟩
 ·intro e
  have h0:k.parts=[]:=List.eq_nil_of_length_eq_zero (by rw[<- b,e];rfl);exact wf.alt k u j h0
 ·obtain⟨p,g,e⟩:=c r f
  obtain⟨z,I,s,i,C,o⟩:=h p g;have G:r=(p.1,z,I):=xkz nd f s e.symm;subst G;exact⟨m.2 z C i,p.2,xl8 (wf.pnd k u) g,o.2 _ (m.put i)⟩
theorem xzm{ks:List Kn}(wf:KWf ks){n:Nat}{bs:List (Str×Str)}{x:Str}{a b c:D}(h:TmB ks n bs a (S "num"))(g:TmB ks n bs b x)(f:TmB ks n bs c x):TmB ks (n+1) bs (tIfD a b c) x:=
 ⟨xzj wf h.1 g.1 f.1,λenv e=>.inr (.inr (.inr (.inr (.inr (.inr ⟨a,b,c,h.2 env e,g.2 env e,f.2 env e,rfl⟩)))))⟩
theorem NodeKd.mono{cs:Prop}{ks:List Kn}{R n:RKn}(k:∀env d x,R env d x->n env d x){env:En}{d:D}{x:Str}(h:NodeKd cs ks R env d x):NodeKd cs ks n env d x:=by
 rcases h with⟨s,a,b,e,g,r⟩ |⟨es,i,e,g,j,r⟩ |⟨a,l,f,i,e,r⟩ |⟨t,a,i,l,e,g,j,m,r⟩ |⟨u,a,rs,l,i,e,g,j,m,z,y,w,r⟩ |⟨a,b,c,e,g,j,r⟩
 ·exact .inl ⟨s,a,b,k _ _ _ e,k _ _ _ g,r⟩
 ·exact .inr (.inl ⟨es,i,e,g,j.imp λ_ _ h=>k _ _ _ h,r⟩)
 ·exact .inr (.inr (.inl ⟨a,l,f,i,k _ _ _ e,r⟩))
 ·exact .inr (.inr (.inr (.inl ⟨t,a,i,l,e,g,j,k _ _ _ m,r⟩)))
 ·refine .inr (.inr (.inr (.inr (.inl ⟨u,a,rs,l,i,k _ _ _ e,g,j,m,z,y,λr p=>?_,r⟩))))
  obtain⟨G,o,F,C⟩:=w r p;exact⟨G,o,F,k _ _ _ C⟩
 ·exact .inr (.inr (.inr (.inr (.inr ⟨a,b,c,k _ _ _ e,k _ _ _ g,k _ _ _ j,r⟩))))
theorem xyw{cs:Prop}{ks:List Kn}:∀(n:Nat) (env:En) (d:D) (x:Str),Kd cs ks n env d x->Kd cs ks (n+1) env d x
 |0,_,_,_,h=>.inl h
 |n+1,env,d,x,h=>by
  rcases h with h |h
  ·exact .inl h
  ·exact .inr (h.mono (xyw n))
theorem xyx{cs:Prop}{ks:List Kn}{n m:Nat}(l:n<=m){env:En}{d:D}{x:Str}(h:Kd cs ks n env d x):Kd cs ks m env d x:=by
 obtain⟨k,rfl⟩:∃k,m=n+k:=⟨m-n,by omega⟩;clear l
 induction k with
 |zero=>exact h
 |succ k a=>exact xyw _ _ _ _ a
theorem xwr{ks:List Kn}{n:Nat}{env:En}{d:D}{x:Str}(h:Kd True ks n env d x):(∃a rs,d=xgj a rs)\/∃hd r,d=.tup (.str hd::r)/\hd≠S "case":=by
 have lf:xlw env d x->(∃a rs,d=xgj a rs)\/∃hd r,d=.tup (.str hd::r)/\hd≠S "case":=λz=>by
  rcases z with⟨i,_,e,_⟩ |⟨y,_,e⟩
  ·exact .inr ⟨_,_,e,by walk_at"k"⟩
  ·exact .inr ⟨_,_,e,by walk_at"k"⟩
 cases n with
 |zero=>exact lf h
 |succ m=>
  rcases h with h |⟨s,a',b,h1,h2,e,_⟩ |⟨es,kn,h1,h2,h3,e⟩ |⟨a',k1,f,kn,h1,h2,h3,h4,e⟩ |⟨t,a',kn,k1,h1,h2,h3,h4,e⟩ |⟨_,a',rs,k1,kn,h1,h2,h3,h4,h5,h6,h7,e⟩ |⟨a',b,c,h1,h2,h3,e⟩
  ·exact lf h
  ·exact .inr ⟨_,_,e,by walk_at"k"⟩
  ·exact .inr ⟨_,_,e,by walk_at"k"⟩
  ·exact .inr ⟨_,_,e,by walk_at"k"⟩
  ·exact .inr ⟨_,_,e,by walk_at"k"⟩
  ·exact .inl ⟨a',rs,e⟩
  ·exact .inr ⟨_,_,e,by walk_at"k"⟩
def NoMo(x:Str):Prop:=x≠S "more"
theorem xz5{l:List Nat}(h:l[0]?≠some 109\/l[1]?≠some 111):NoMo (ofL l):=λe=>by
 have:=congrArg L e;rw[xej,show L (S "more")=[109,111,114,101] by walk_at"k"]at this;subst this;simp at h
theorem xmp{c:Nat}(h:c∈five):c≠109/\c≠111:=by
 revert h;unfold five;simp;omega
theorem xus{cs:List Nat}(h:∀c∈cs,c∈five)(a:Nat)(b:Int)(k:Nat)(t:List Nat)(i:∀c∈t,c∈five):NoMo (ofL (nmA cs a b k++t)):=by
 apply xz5;unfold nmA
 cases g:cs.take a with
 |nil=>
  right;rw[List.nil_append,List.cons_append,List.getElem?_cons_succ];intro e;have f:=zMG e;rcases zMA f with f |f
  ·exact(xmp (h _ (List.mem_of_mem_drop f))).2 rfl
  ·exact(xmp (i _ f)).2 rfl
 |cons c r=>
  left;intro e;simp at e;have:c∈cs.take a:=by rw[g];simp
  exact(xmp (h c (zX this))).1 e
theorem xwi{cs:List Nat}{a:Nat}{b:Int}(e:∀c∈cs,c∈five):∀z∈((List.range 26).map λk=>ofL (nmA cs a b k)),NoMo z:=λz hz=>by
 obtain⟨k,_,rfl⟩:=zMP hz;have:=xus e a b k [] (λ_ h=>nomatch h);rw[List.append_nil]at this;exact this
theorem xwf{cs:List Nat}{a:Nat}{b:Int}(f:∀c∈cs,c∈five):∀z∈((List.range 26).map λk=>ofL (nmB cs a b k)),NoMo z:=λz hz=>by
 obtain⟨k,_,rfl⟩:=zMP hz;unfold nmB;exact xus f a b _ _ λc e=>by rw[List.eq_of_mem_replicate e];decide
end M
end
section
namespace L2
open PySem PySem.Spec PyProof.Rows
section
variable {X:Cx}
theorem Inv.reH {pins:List (Addr×Obj)} {σ:St} {H:Hp} {s:Shared} {a:Addr} {o u:HO} (I:Inv X pins σ H s) (ha:H a=some o) (n1:∀xs,o≠.tup xs) (n2:∀ps,o≠.tbl ps) (n3:∀x,o≠.own x) (nz:∀ob v,X.H₀ a≠some (.frz ob v))
  (new:ObjOk X.prog X.w (upd H a u) s.heap a u):Inv X pins σ (upd H a u) s:=by
 have hn:∀{b:Addr},H b=none->upd H a u b=none:=λ{b} e=>by
  rw[xa7 λz=>by rw[z,ha]at e;cases e];exact e
 have hs:∀{b:Addr} {v:HO},H b=some v->v≠o->upd H a u b=some v:=λ{b v} e ne=>by
  rw[xa7 λz=>by rw[z,ha]at e;exact ne (zM e).symm];exact e
 refine⟨I.ok,I.os,I.bare,⟨I.base.keep,I.base.slot,λb ob e n hx=>hn (I.base.free b ob e n hx),I.base.there,λb xs e=>hs (I.base.tups b xs e) λz=>n1 xs z.symm,λb ob v e=>?_,λb ps e=>?_⟩,I.loc,I.cell,hn I.free,λx c e=>hn (I.freeC x c e),λp hp=>?_,λb v e=>?_,I.len⟩
 ·rw[xa7 λz=>by subst z;exact nz ob v e]
  exact I.base.frzs b ob v e
 ·obtain⟨more,e'⟩:=I.base.tbls b ps e
  exact⟨more,hs e' λz=>n2 _ z.symm⟩
 ·obtain⟨q1,q2,q3⟩:=I.pin p hp
  exact⟨q1,hn q2,q3⟩
 ·by_cases hb:b=a
  ·subst hb
   rw[ups]at e;cases e;exact new
  ·rw[xa7 hb]at e
   exact(I.hok b v e).stay (λ_ _ _ q=>q) (λc q=>hs q λz=>n3 _ z.symm) λc xs q=>hs q λz=>n1 _ z.symm
def NoFz(H0:Hp)(a:Addr):Prop:=∀ob u,H0 a≠some (.frz ob u)
theorem Inv.noFz{b:List (Addr×Obj)}{σ:St}{H:Hp}{s:Shared}{a:Addr}{kvs:List (Key×V)}(I:Inv X b σ H s)(f:H a=some (.dK kvs)):NoFz X.H₀ a:=λc u e=>by
 have:=I.base.frzs a c u e;rw[f]at this;cases this
theorem Inv.freeze{pins:List (Addr×Obj)}{σ:St}{H:Hp}{s:Shared}{a:Addr}{ob:Obj}{kvs:List (Key×V)}(I:Inv X pins σ H s)(ha:H a=some (.dK kvs))(e:s.heap.get? a=some ob):Inv X pins σ (upd H a (.frz ob (.dK kvs))) s:=by
 refine I.reH ha (λ_ z=>by cases z) (λ_ z=>by cases z) (λ_ z=>by cases z) (I.noFz ha) ⟨e,?_⟩;obtain⟨z,y,r⟩:=(show ObjOk X.prog X.w H s.heap a (.dK kvs) from I.hok a _ ha);exact⟨z,y,r⟩
theorem Inv.thaw{b:List (Addr×Obj)}{σ:St}{H:Hp}{s:Shared}{a:Addr}{c:Obj}{kvs:List (Key×V)}(I:Inv X b σ H s)(e:H a=some (.frz c (.dK kvs)))(f:NoFz X.H₀ a):Inv X b σ (upd H a (.dK kvs)) s:=by
 obtain⟨_,z,y,r⟩:=(show ObjOk X.prog X.w H s.heap a (.frz c (.dK kvs)) from I.hok a _ e);exact I.reH e (λ_ z=>by cases z) (λ_ z=>by cases z) (λ_ z=>by cases z) f ⟨z,y,r⟩
def Itd(a:Addr)(o:Obj)(kvs:List (Key×V)):It:=
 ⟨λi H=>H a=some (.frz o (.dK kvs))/\i<kvs.length,λi H x H'=>H'=H/\∃kv,kvs[i]?=some kv/\x=kV kv.1,λi H=>H a=some (.frz o (.dK kvs))/\kvs.length<=i⟩
theorem xu1{P:Program}{w:World}{H:Hp}{h:Heap}{a:Addr}{o:Obj}{kvs:List (Key×V)}{es:Array DictEntry}{ep:Nat}(ok:HOk P w H h)(e:H a=some (.frz o (.dK kvs)))(b:o.data=.dict es ep):∃vs,KV kvs vs/\h.DictAt (xcf P w) a vs ep:=by
 obtain⟨g,_,_,vs,r,j,es',i,f,c,d,q⟩:=(show ObjOk P w H h a (.frz o (.dK kvs)) from ok a _ e);rw[g]at f;cases f;rw[b]at d;cases d;exact⟨vs,r,o,es,g,c,b,q⟩
theorem xpb{P:Program}{w:World}{K:Fg}{tg:Expr}{a it:Addr}{o:Obj}{kvs:List (Key×V)}{es:Array DictEntry}{ep:Nat}(a0:a≠it)(hd:o.data=.dict es ep):Turn P w K tg (Itd a o kvs) [it] it (λi h=>h.IsKeyIter it a i kvs.length ep) where
 mem:=by simp
 obj:=λi h st b l=>by
  have e:b=it:=by simpa using l
  subst e;obtain⟨o,e,c,d⟩:=st;exact⟨o,e,λv z=>by rw[d]at z;cases z⟩
 keep:=λi h h' st k=>st.at λo e=>k it (by simp) o e
 item:=by
  intro X G y J hc i g s σ H E I u st C;subst G y J;obtain⟨F,hi⟩:=C;obtain⟨vs,f,m⟩:=xu1 I.hok F hd;have r:=f.length;obtain⟨Z,Y,f2,U,O,M⟩:=u it (by simp);have p:i<vs.length:=by omega
  refine wpAny_pyNext_dict_item (kvs:=vs) (k:=vs[i].1) (v:=vs[i].2) (by rw[<- r];exact st) m (by rw[zGA p]) λx h' n j sb=>?_;have I1:Inv X g σ H {s with heap:=h'}:=I.turned (t':=s.toks) (λb o l e=>(sb.2 b l).trans e) Z Y U O M;rw[<- r]at j;obtain⟨o',e,c,d⟩:=id j;have ek:=KV.get f (zGA hi) (zGA p);exact⟨x,rfl,xrw (s:={s with heap:=h'}) e c d (by decide) ⟨kV kvs[i].1,H,I1,by rw[ek];exact xy0 n,⟨rfl,_,zGA hi,rfl⟩,j,λb l=>(u b l).1⟩⟩
 done:=by
  intro X G y J hc i g s σ H E I u st C;subst G y J;obtain⟨F,hi⟩:=C;obtain⟨vs,f,m⟩:=xu1 I.hok F hd;have r:=f.length;obtain⟨Z,Y,f2,U,O,M⟩:=u it (by simp);exact wpAny_pyNext_dict_end (I.ok.hd hc) (kvs:=vs) (by rw[<- r];exact st) m (List.getElem?_eq_none (by omega)) λh' eb=>⟨rfl,I.turned (t':=s.toks) (λb o l e=>eb b o l e) Z Y U O M⟩
 self:=λ_ _ _ _ _ st h=>wpAny_pyIter_keyiter st h
def yab(H0:Hp)(td:TE):TI:=λσ H R=>td σ H λx H1=>∃a,∃kvs:List (Key×V),x=.ref a/\H1 a=some (.dK kvs)/\∀o,NoFz H0 a->R (Itd a o kvs) (upd H1 a (.frz o (.dK kvs)))
theorem xl6{tg l:Expr}{tl:TE}(hl:PE X l tl):PI X tg l (yab X.H₀ tl):=by
 intro pins s σ H R I h;refine thn (hl pins s σ H _ I h) λv s1 ⟨x,H1,I1,r1,q1⟩=>?_;obtain⟨a,kvs,e,ha,q⟩:=q1;subst e;cases r1;obtain⟨hz,hsys,vs,rel,dd⟩:=xr9 I1.hok ha;obtain⟨ep,dat⟩:=dd.dictAt;obtain⟨o,es,ho,hx,hdat,_⟩:=id dat;have hlen:=rel.length;refine wpAny_pyIter_dict hsys dat ?_;have I2:=I1.freeze ha ho;have hn:upd H1 a (.frz o (.dK kvs)) s1.heap.objs.size=none:=I2.hok.fresh (zG _);refine⟨s1.heap.objs.size,[s1.heap.objs.size],_,_,_,rfl,I2.kept (t':=s1.toks) λb o e=>zPO _ e,xpb (λz=>?_) hdat,⟨_,zK _ rfl,rfl,by rw[hlen];rfl⟩,λb hb=>?_,q o (I1.noFz ha)⟩
 ·rw[<- z,ups]at hn
  cases hn
 ·have e:b=s1.heap.objs.size:=by simpa using hb
  subst e;exact I2.fpOk (zG _) hn
def xzk(H0:Hp)(N:St->Hp->Prop):St->Hp->Prop:=λσ H=>∃a o,∃kvs:List (Key×V),H a=some (.frz o (.dK kvs))/\NoFz H0 a/\N σ (upd H a (.dK kvs))
theorem xjo {a:Addr} {o:Obj} {kvs:List (Key×V)} {g:TG} {n:TS} {D:Ends} {σ:St} {H:Hp} (b:Nat->St->Hp->Prop) (h0:b 0 σ H) (u:∀i σ H,i<=kvs.length->b i σ H->H a=some (.frz o (.dK kvs)))
  (hs:∀i kv σ H,kvs[i]?=some kv->b i σ H->g (kV kv.1) σ H λh l=>n {D with nx:=b (i+1),ct:=b (i+1),bk:=D.nx} h l) (z:∀σ H,b kvs.length σ H->D.nx σ H) :
  ∃W:Nat->Nat->St->Hp->Prop,(∃m,W 0 m σ H)/\∀i m σ H,W i m σ H->
   ((Itd a o kvs).stop i H/\D.nx σ H)\/((Itd a o kvs).go i H/\∃N:St->Hp->Prop,(∀j c,N j c->∃r,r<m/\W (i+1) r j c)/\∀x c,(Itd a o kvs).yld i H x c->g x σ c λh l=>n {D with nx:=N,ct:=N,bk:=D.nx} h l):=by
 refine⟨λi m σ H=>m=kvs.length-i/\i<=kvs.length/\b i σ H,⟨kvs.length,by simp,zY _,h0⟩,?_⟩;rintro i m σ H ⟨rfl,hi,p⟩;have q:=u i σ H hi p;by_cases f:i<kvs.length
 ·refine .inr ⟨⟨q,f⟩,b (i+1),λj c s=>⟨kvs.length-(i+1),by omega,rfl,f,s⟩,λx c y=>?_⟩
  obtain⟨e,kv,w,C⟩:=y;subst e C;exact hs i kv σ _ w p
 ·have e:i=kvs.length:=by omega
  subst e;exact .inl ⟨⟨q,zG _⟩,z σ H p⟩
end
end L2
end
section
namespace PySem
open Sem (wp)
section
variable {prog:Program}{w:World}{A:Around}{E:Value->Shared->Prop}{s:Shared}
theorem xgd {a:Addr} {xs:Array Value} {k:Nat} {sl:Array (Option Value)} {name:Str} {Q:Option Value->Shared->Prop}
  (hx:s.heap.get? a=some {cls:=.type "tuple",dict:=none,data:=.seq xs k,slots:=sl}) (hmiss:typeLookup (.type "tuple") name=pure none) (hname:(["__module__","__name__","__qualname__","__doc__","__annotations__"]:List Str).contains name=false) (hA:A.handled=none)
  (h:∀h' tk,(∀b o,s.heap.get? b=some o->h'.get? b=some o)->Q none {s with heap:=h',toks:=tk}) (hsz:name.length+100<=sizeLine) :
  wpAny (model prog w) A (getAttr? (.ref a) name) Q E s:=by
 obtain⟨hp,g,d,tk,os⟩:=s;have hT:∀tk',(⟨hp,g,d,tk',os⟩:Shared).TypeIs (.ref a) "tuple":=λ_=>⟨_,hx,rfl⟩;have f1:=sub_AttributeError;have f3:=F.slot_tuple_getattribute.lookup;have f4:=F.slot_tuple_getattribute.bind (.ref a);have f5:=am_tuple_getattr_none;unfold getAttr? getAttrBy? getAttrBy
 repeat (any_goals (first |assumption |exact hT _ |((with_reducible show wpAny _ _ (call (Value.builtin "tuple.__getattribute__") _ _) _ _ _);refine call_meets F.slot_tuple_getattribute (hT _) am_entry_tuple_getattribute (F.args_tuple_getattribute_2 _ _) (meets_getattribute_miss_tuple a xs k sl name _ hmiss hname hsz) ⟨hx,hA,λh' tk' e hx'=>?_⟩) |wp_step))
 obtain⟨t',u',he⟩:=hx'.there;show wpAny _ _ (getattributeRaised _ _ _ _ _ _ _) _ _ _;unfold getattributeRaised
 repeat (any_goals (first |assumption |wp_step))
 all_goals first |exact h _ _ hx'.keeps |skip
end
end PySem
namespace L2
open PySem PySem.Spec PyProof.Rows
section
variable {prog:Program}{w:World}{A:Around}{K:Type}[DecidableEq K]{knd:KeyKind prog w K}
theorem xgf{h:Heap}{a I l:Addr}{i:Nat}{xs:Array Value}(f:h.IsTuple a xs)(j:h.IsTupleIter I l i):a≠I:=λe=>by
 subst e;obtain⟨o,g,m,_⟩:=f;obtain⟨t,c,b,_⟩:=j;have:o=t:=zM (g.symm.trans c);subst this;rw[m]at b;exact absurd (Value.type.inj b) (by decide)
theorem xo9 {R:Result->Shared->Prop} {I l d:Addr} {its:List Value} {ps:List (K×Value)} (hh:A.in1.handled=none) (Z:l≠I) (a6:l≠d) (F:I≠d) :
    ∀(k i:Nat) (s:Shared) (f:List (K×Value)),its.length-i=k->i<=its.length->s.heap.IsTupleIter I l i->s.heap.IsTuple l its.toArray->s.heap.DictOf knd d f->PairsAt knd s.heap (its.drop i) (ps.drop i)->f.length+(its.length-i)<=sizeLine->
    (∀h' tk,h'.DictOf knd d (merged f (ps.drop i))->(∀b o,b≠d->b≠I->s.heap.get? b=some o->h'.get? b=some o)->R (.ok (.ret .none)) {s with heap:=h',toks:=tk})->
    codeAny (model prog w) A (.builtin "dict.update.loop" ⟨[.ref d,.ref I,rawInt i,.none],[]⟩) R s:=by
  intro k
  induction k with
  | zero=>
    intro i s f hk hi g hl hd j hsz hR;have C:i=its.length:=by omega
    have W:=Walks.tuple (prog:=prog) (w:=w) (A:=A.in1) hh I l Z its.toArray;refine codeAny_builtin xdg ?_;rw[Around.under_plainId xbu _];show wpAny _ A.in1 (pyNext (.ref I) >>= _) _ _ s
    refine wpAny_bind (W.done s _ _ (by have e:its.toArray.size = i := by simp[C]
                                        rw[e];exact⟨g,hl⟩) λh' tk c=>?_)
    show wpAny _ _ (Builtin.Dict.addKeywords d [] >>= _) _ _ _;refine zE (zI (zI ?_))
    have a4:ps.drop i=[]:=by
      rw[C,List.drop_length]at j;rw[C]
      cases hq:ps.drop its.length with
      |nil=>rfl
      |cons p r=>rw[hq]at j;exact j.elim
    refine hR h' tk ?_ λb o G n e=>c b o (by simpa using n) e;rw[a4];exact hd.at λo e=>c d o (by simpa using (Ne.symm F)) e
  | succ k ih=>
    intro i s f hk hi g hl hd j hsz hR;have m:i<its.length:=by omega
    have W:=Walks.tuple (prog:=prog) (w:=w) (A:=A.in1) hh I l Z its.toArray;have a7:its.drop i=its[i]::its.drop (i+1):=List.drop_eq_getElem_cons m;rw[a7]at j
    obtain⟨p,r,z⟩:∃p r,ps.drop i=p::r:=by
      cases hq:ps.drop i with
      |nil=>rw[hq]at j;exact j.elim
      |cons p r=>exact⟨p,r,rfl⟩
    have U:ps.drop (i+1)=r:=by rw[<- List.tail_drop,z];rfl
    rw[z]at j;obtain⟨⟨a,x,ea,O,a0⟩,y⟩:=j;refine codeAny_builtin xdg ?_;rw[Around.under_plainId xbu _];show wpAny _ A.in1 (pyNext (.ref I) >>= _) _ _ s;refine zE (W.item i s _ _ (by simpa using m) ⟨g,hl⟩ λv h' tk hP u c=>?_)
    have hv:v=.ref a:=by
      have:its[i]?=some v:=by simpa using hP
      rw[zGA m,ea]at this;exact(zM this).symm
    subst hv;have M:h'.IsTuple a #[x,p.2]:=O.at λo e=>c a o (by simpa using xgf O g) e;have a2:h'.DictOf knd d f:=hd.at λo e=>c d o (by simpa using (Ne.symm F)) e;obtain⟨oa,Y,aa,na,a8⟩:=id M;refine zE (zV (zE (wpAny_tryCatch ?_)));unfold Builtin.Dict.pairItems;refine zE (qD ⟨oa,Y,aa⟩ ?_);rw[if_pos (by decide)];refine zE (wpAny_seqItems Y a8 (zI ?_));show wpAny _ _ (holding [x,p.2] (dictSet d x p.2)) _ _ _;refine zV (wpAny_dictSet_pairs a0 a2 (λh2 a9 h=>?_) (by omega));have J:h2.IsTupleIter I l (i+1)/\h2.IsTuple l its.toArray:=⟨u.1.at λo e=>(h.2 I F).trans e,u.2.at λo e=>(h.2 l a6).trans e⟩;refine zI ⟨plainId_quiet xbu _,ih (i+1) _ _ (by omega) m J.1 J.2 a9 ?_ ?_ λh3 a3 a1 a5=>?_⟩
    · rw[U]
      exact y.keep λb xs G=>by
        have h1:h'.IsTuple b xs:=G.at λo e=>c b o (by simpa using xgf G g) e;exact h1.at λo e=>(h.2 b (xg3 h1 a2)).trans e
    · have:=stored_length_le f p.1 p.2
      omega
    · refine hR h3 a3 ?_ λb o G n e=>a5 b o G n ((h.2 b G).trans (c b o (by simpa using n) e))
      rw[z];rw[U]at a1;exact a1
end
theorem xl0:typeLookup (.type "tuple") "keys"=pure none:=am_miss_of_fast (by kernel_rfl)
section
variable {prog:Program}{w:World}{A:Around}{E:Value->Shared->Prop}{s:Shared}{K:Type}[DecidableEq K]{knd:KeyKind prog w K}
theorem xmu {l:Addr} {its:List Value} {n:Nat} {sl:Array (Option Value)} {ps:List (K×Value)} {Q:Value->Shared->Prop} (hh:A.handled=none) (hl:s.heap.get? l=some {cls:=.type "tuple",data:=.seq its.toArray n,dict:=none,slots:=sl}) (hp:PairsAt knd s.heap its ps) (hsz:its.length<=sizeLine)
  (h:∀h' tk,h'.DictOf knd s.heap.objs.size (merged [] ps)->(∀b o,s.heap.get? b=some o->h'.get? b=some o)->Q (.ref s.heap.objs.size) {s with heap:=h',toks:=tk}) :
  wpAny (model prog w) A (call (.type "dict") [.ref l]) Q E s:=by
 refine callType_codes (Q₁:=λobj s₁=>obj=.ref s.heap.objs.size/\s₁={s with heap:=s.heap.push {cls:=.type "dict",data:=.dict #[]}}) F.kt_called_dict (F.kt_typeCall_dict_1 _) F.entry_dict_init (kt_code_dict_new _ ⟨rfl,rfl⟩) ?_;rintro obj s₁ ⟨rfl,rfl⟩;have hnew:(s.heap.push {cls:=.type "dict",data:=.dict #[]}).DictOf knd s.heap.objs.size []:=Heap.DictOf.new s.heap;have ext0:∀b o,s.heap.get? b=some o->(s.heap.push {cls:=.type "dict",data:=.dict #[]}).get? b=some o:=λb o e=>zPO _ e;have hl0:=ext0 _ _ hl;have hT:(⟨s.heap.push {cls:=.type "dict",data:=.dict #[]},s.gens,s.drawn,s.toks,s.os⟩:Shared).TypeIs (.ref l) "tuple":=⟨_,hl0,rfl⟩;have hdl:l≠s.heap.objs.size:=λe=>absurd (zJ hl) (by rw[e];exact zR _);refine⟨hnew.typeIs,F.args_dict_init_2 _ _,?_⟩;unfold Builtin.«dict.__init__»;refine zE ?_;unfold Builtin.Dict.selfAndRest;refine zE (wpAny_notOrdered_dict hnew.typeIs ?_);show wpAny _ _ (pure (s.heap.objs.size,[Value.ref l])) _ _ _;refine zI ?_;show wpAny _ _ (Builtin.Dict.updateFrom "dict.__init__" s.heap.objs.size (.ref l) [] .none) _ _ _;unfold Builtin.Dict.updateFrom;refine zE (qD hT ?_);rw[if_pos (by decide)];refine zE (xgd (sl:=sl) hl0 xl0 (by walk_at"k") hh (λh1 tk1 k1=>?_) (by walk_at"k"));rw[if_pos (show(none:Option Value).isNone=true from rfl)];refine zE (wpAny_rule ?_);have hl1:=k1 _ _ hl0;have hL1:h1.IsTuple l its.toArray:=⟨_,hl1,rfl,_,rfl⟩
 refine zE (wpAny_pyIter_tuple hL1 (zI ⟨plainId_quiet xbu _,?_⟩));have hsz1:s.heap.objs.size<h1.objs.size:=zJ (k1 _ _ (zK _ rfl));have hlI:l<h1.objs.size:=zJ hl1;have ext2:∀b o,h1.get? b=some o->(h1.push {cls:=.type "tuple_iterator",data:=.fields #[.ref l,.int 0 0]}).get? b=some o:=λb o e=>zPO _ e;refine xo9 (knd:=knd) (A:=A.in1) (ps:=ps) (l:=l) (d:=s.heap.objs.size) (its:=its) hh (zN hlI) hdl (Nat.ne_of_gt hsz1) its.length 0 _ [] (Nat.sub_zero _) (zY _) ⟨_,zK _ rfl,rfl,rfl⟩ (hL1.push _) (hnew.at λo e=>ext2 _ _ (k1 _ _ e)) (hp.keep λa xs ha=>ha.at λo e=>ext2 _ _ (k1 _ _ (ext0 _ _ e))) (by simpa using hsz) λh3 tk3 hd3 hk3=>?_;refine⟨rfl,h h3 tk3 hd3 λb o e=>hk3 b o ?_ ?_ (ext2 _ _ (k1 _ _ (ext0 _ _ e)))⟩
 ·exact λz=>absurd (zJ e) (by rw[z];exact zR _)
 ·exact λz=>absurd (zJ e) (by rw[z];exact Nat.not_lt_of_gt hsz1)
end
section
variable {X:Cx}
theorem xio(hc:X.calm=true):xec X (.type "dict") (λxs H Q=>∃a ys,∃kvs:List (Key×V),xs=[.ref a]/\H a=some (.tup ys)/\PairsV H ys kvs/\∀p,H p=none->Q (.ref p) (upd H p (.dK (xb5 [] kvs)))):=by
 intro pins s σ H xs us Q I r h;obtain⟨a,ys,kvs,rfl,ha,hp,q⟩:=h;obtain⟨u,rfl,ru⟩:=xfl r;obtain rfl:u=.ref a:=ru;obtain⟨hz,its,rv,⟨oc,od,dt,sl⟩,ho,h1,n,h2,h3⟩:=(show ObjOk X.prog X.w H s.heap a (.tup ys) from I.hok a _ ha);simp only at h1 h2 h3;subst h1 h2 h3;obtain⟨ps,hk,hpa⟩:=xja I rv hp;have hyl:=hp.length;refine xmu (knd:=xcf X.prog X.w) (I.ok.hd hc) ho hpa (by rw[<- rv.length];exact hz) λh' tk dd' k'=>?_
 have hz':(xb5 [] kvs).length<=sizeLine:=by
  have:=xdn kvs [];rw[List.length_nil]at this;omega
 exact⟨.ref s.heap.objs.size,_,I.laid (a:=s.heap.objs.size) (o:=.dK (xb5 [] kvs)) (t':=tk) k' (zG _) (xn4 hz' (beq_eq_false_iff_ne.mpr (Ne.symm (zN I.big))) (hk.merge .nil) dd'),rfl,q _ (I.hok.fresh (zG _))⟩
end
end L2
end
section
namespace M
open PySem L2
abbrev Wy:=Str×Str×D
def wyD(y:Wy):D:=.tup [.str y.2.1,y.2.2]
def WAll(H:Hp):List (Key×V)->List Wy->Prop
 |[],[]=>True
 |kv::kvs,y::ys=>(kv.1=Sum.inr y.1/\RelD H kv.2 (wyD y))/\WAll H kvs ys
 |_,_=>False
theorem WAll.len{H:Hp}:∀{kvs:List (Key×V)} {ys:List Wy},WAll H kvs ys->kvs.length=ys.length
 |[],[],_=>rfl
 |kv::kvs,y::ys,h=>by rw[List.length_cons,List.length_cons,WAll.len h.2]
theorem WAll.tups{H a:Hp}(s:∀b us,H b=some (.tup us)->a b=some (.tup us)):∀{kvs:List (Key×V)} {ys:List Wy},WAll H kvs ys->WAll a kvs ys
 |[],[],_=>trivial
 |kv::kvs,y::ys,h=>⟨⟨h.1.1,h.1.2.tups s _⟩,WAll.tups s h.2⟩
theorem WAll.snoc{H:Hp}{kv:Key×V}{y:Wy}(h:kv.1=Sum.inr y.1/\RelD H kv.2 (wyD y)):∀{kvs:List (Key×V)} {ys:List Wy},WAll H kvs ys->WAll H (kvs++[kv]) (ys++[y])
 |[],[],_=>⟨h,trivial⟩
 |a::kvs,b::ys,g=>⟨g.1,WAll.snoc h g.2⟩
theorem WAll.get{H:Hp}:∀{kvs:List (Key×V)} {ys:List Wy},WAll H kvs ys->∀{i:Nat} {kv:Key×V},kvs[i]?=some kv->∃y,ys[i]?=some y/\kv.1=Sum.inr y.1/\RelD H kv.2 (wyD y)
 |a::kvs,y::ys,g,0,kv,e=>by
  simp at e;subst e;exact⟨y,rfl,g.1⟩
 |a::kvs,y::ys,g,i+1,kv,e=>WAll.get g.2 (by simpa using e)
def wyAt(ys:List Wy)(x:Str):Option Wy:=ys.find? λy=>decide (y.1=x)
def xam(ys:List Wy)(x:Str):Option Str:=if x=S "num" then some (S "num") else (wyAt ys x).map λy=>y.2.1
def optV:Option Str->V
 |some x=>.str x
 |none=>.non
def WaysAt(H:Hp)(a:Addr)(ys:List Wy):Prop:=∃kvs:List (Key×V),Rd H a (.dK kvs)/\WAll H kvs ys
theorem WAll.val{H:Hp}{x:Str}:∀{kvs:List (Key×V)} {ys:List Wy},WAll H kvs ys->(wyAt ys x=none->valV kvs (Sum.inr x:Key)=none)/\∀y,wyAt ys x=some y->∃v,valV kvs (Sum.inr x:Key)=some v/\RelD H v (wyD y)
 |[],[],_=>⟨λ_=>rfl,λy e=>(by cases e)⟩
 | kv::kvs,y::ys,h=>by
  have b:=WAll.val (x:=x) h.2;unfold wyAt valV at *
  rw[List.find?_cons,List.find?_cons];by_cases c:y.1=x
  ·have a:kv.1=Sum.inr x:=by rw[h.1.1,c]
   rw[zDT c,zDT a];exact⟨λe=>(by cases e),λz e=>by cases e;exact⟨kv.2,rfl,h.1.2⟩⟩
  ·have a:¬kv.1=Sum.inr x:=λz=>c (Sum.inr.inj (h.1.1.symm.trans z))
   rw[zDF c,zDF a];exact b
theorem Rd.same{H b:Hp}{a:Addr}{u:HO}(h:Rd H a u)(s:Same H b):Rd b a u:=by
 rcases h with h |⟨o,h⟩
 ·exact .inl (s _ _ h)
 ·exact .inr ⟨o,s _ _ h⟩
theorem WaysAt.same{H c:Hp}{a:Addr}{ys:List Wy}(h:WaysAt H a ys)(s:Same H c):WaysAt c a ys:=by
 obtain⟨kvs,g,f⟩:=h;exact⟨kvs,Rd.same g s,f.tups λb us e=>s _ _ e⟩
theorem DGet.rd{H:Hp}{a:Addr}{kvs:List (Key×V)}{k:Key}(e:Rd H a (.dK kvs)):DGet H a (kV k) (valV kvs k):=.inl ⟨kvs,k,e,rfl,rfl⟩
theorem xcw{ks:List Kn}(nd:(ks.map Kn.name).Nodup){k:Kn}(b:k∈ks):kAt ks k.name=some k:=by
 obtain⟨i,hi,e⟩:=zMI b;exact xco (f:=Kn.name) (xs:=ks) (i:=i) (a:=k) nd (by rw[<- e];exact zGA hi)
def xd2(olds:List (Str×Str))(x:Str):Option Str:=(olds.find? λp=>decide (p.1=x)).map λp=>p.2
theorem xkh{a:List (Str×Str)}{x k:Str}(h:xd2 a x=some k):(x,k)∈a:=by
 unfold xd2 at h;obtain⟨p,b,e⟩:=zMS h
 have c:p.1=x:=by
  have:=List.find?_some b;exact zH this
 have:=zMF b;rw[<- c,<- e];exact this
theorem xur{b:List (Str×Str)}(nd:(b.map (·.1)).Nodup){p:Str×Str}(c:p∈b):xd2 b p.1=some p.2:=by
 unfold xd2;obtain⟨i,hi,e⟩:=zMI c;rw[xco (f:=λr:Str×Str=>r.1) (xs:=b) (i:=i) (a:=p) nd (by rw[<- e];exact zGA hi)];rfl
def okQ(ys:List Wy)(olds:List (Str×Str))(q:Str×Str):Bool:=match xd2 olds q.1 with
 |none=>true
 |some k=>decide (xam ys k=some q.2)
def tmQ(ks2:List Kn)(olds:List (Str×Str))(q:Str×Str):D:=match xd2 olds q.1 with
 |none=>nuT 7 ks2 q.2
 |some _=>tBox q.1
def okT(ys:List Wy)(news:List (Str×Str))(p:Str×Str):Bool:=match xd2 news p.1 with
 |none=>false
 |some g=>decide (xam ys p.2=some g)
def xvh(k:Kn):D:=.tup (k.parts.map λp=>.tup [.str p.1,tTag k.name p.1 (tBox (S "it"))])
def xd7 (ks2:List Kn) (ys:List Wy) (k:Kn):Option D:=match kAt ks2 k.name with
  |none=>none
  | some k2=>if k2.rc=k.rc then
      (if k.rc=true then (if k2.parts.all (okQ ys k.parts)=true then some (tRec k.name (k2.parts.map (tmQ ks2 k.parts))) else none)
       else (if k.parts.all (okT ys k2.parts)=true then some (xvh k) else none))
    else none
def xfb(ks2:List Kn)(ys:List Wy)(k:Kn):List Wy:=match wyAt ys k.name with
 |some _=>ys
 |none=>match xd7 ks2 ys k with
  |none=>ys
  |some d=>ys++[(k.name,k.name,d)]
def xb1(ks2 ks:List Kn)(told:List Wy):List Wy:=ks.foldl (xfb ks2) told
theorem xf7(ks2 ks:List Kn)(k:Kn)(told:List Wy):xb1 ks2 (ks++[k]) told=xfb ks2 (xb1 ks2 ks told) k:=by
 unfold xb1;rw[List.foldl_append];rfl
theorem xo5(ks2 as bs:List Kn)(told:List Wy):xb1 ks2 (as++bs) told=xb1 ks2 bs (xb1 ks2 as told):=by
 unfold xb1;rw[List.foldl_append]
theorem xly (ys:List Wy) (y:Wy) (x:Str):wyAt (ys++[y]) x=match wyAt ys x with
  |some z=>some z
  |none=>if y.1=x then some y else none:=by
 unfold wyAt;rw[List.find?_append]
 cases h:ys.find? λy=>decide (y.1=x) with
 |some z=>rfl
 | none=>
  rw[Option.none_or,List.find?_cons];by_cases c:y.1=x
  ·rw[zDT c,if_pos c]
  ·rw[zDF c,if_neg c]
   rfl
theorem xh6{ys:List Wy}{y:Wy}{x:Str}(h:y.1≠x):wyAt (ys++[y]) x=wyAt ys x:=by
 rw[xly]
 cases wyAt ys x with
 |some z=>rfl
 |none=>rw[if_neg h]
theorem xgy{ys:List Wy}{x:Str}{y:Wy}(h:wyAt ys x=some y):y.1=x/\y∈ys:=by
 unfold wyAt at h;have a:=List.find?_some h;exact⟨zH a,zMF h⟩
theorem xsq{ks2:List Kn}{ys:List Wy}{k:Kn}{x:Str}(h:k.name≠x):wyAt (xfb ks2 ys k) x=wyAt ys x:=by
 unfold xfb
 cases wyAt ys k.name with
 |some z=>rfl
 |none=>
  cases xd7 ks2 ys k with
  |none=>rfl
  |some d=>exact xh6 h
theorem xm4{ks2:List Kn}{x:Str}:∀{ks:List Kn} {ys:List Wy},(∀k∈ks,k.name≠x)->wyAt (xb1 ks2 ks ys) x=wyAt ys x
 |[],ys,_=>rfl
 |k::ks,ys,h=>by
  show wyAt (xb1 ks2 ks (xfb ks2 ys k)) x=_;rw[xm4 λk' a=>h k' (by simp[a]),xsq (h k (by simp))]
theorem xd8{ys ys':List Wy}{x:Str}(h:wyAt ys x=wyAt ys' x):xam ys x=xam ys' x:=by
 unfold xam;rw[h]
theorem xhz{α:Type}{f g:α->Bool}:∀{l:List α},(∀a∈l,f a=g a)->l.all f=l.all g
 |[],_=>rfl
 |a::l,h=>by rw[List.all_cons,List.all_cons,h a (by simp),xhz λb c=>h b (by simp[c])]
theorem xlg{ks2:List Kn}{ys ys':List Wy}{k:Kn}(h:∀p∈k.parts,xam ys p.2=xam ys' p.2):xd7 ks2 ys k=xd7 ks2 ys' k:=by
 have f:∀q,okQ ys k.parts q=okQ ys' k.parts q:=λq=>by
  unfold okQ
  cases e:xd2 k.parts q.1 with
  |none=>rfl
  |some z=>
   show decide (xam ys z=some q.2)=decide (xam ys' z=some q.2);rw[h _ (xkh e)]
 have c:∀a,∀p∈k.parts,okT ys a p=okT ys' a p:=λa p i=>by
  unfold okT
  cases e:xd2 a p.1 with
  |none=>rfl
  |some g=>
   show decide (xam ys p.2=some g)=decide (xam ys' p.2=some g);rw[h p i]
 unfold xd7
 cases kAt ks2 k.name with
 |none=>rfl
 |some b=>
  show(if b.rc=k.rc then _ else _)=(if b.rc=k.rc then _ else _);rw[xhz (l:=b.parts) λq _=>f q,xhz (l:=k.parts) (c b.parts)]
theorem xew{ks:List Kn}(nd:(ks.map Kn.name).Nodup){i j:Nat}{k k':Kn}(hi:ks[i]?=some k)(b:ks[j]?=some k')(e:k.name=k'.name):i=j:=by
 have f:(ks.map Kn.name)[i]?=some k.name:=by rw[zGM,hi];rfl
 have c:(ks.map Kn.name)[j]?=some k.name:=by rw[zGM,b,e];rfl
 have a:=(zES hi).1;exact(List.getElem?_inj (by rw[zLM];exact a) nd).mp (f.trans c.symm)
def xoa(ks:List Kn)(i:Nat)(x:Str):Prop:=x=S "num"\/∃j,∃k':Kn,j<i/\ks[j]?=some k'/\k'.name=x
theorem xez(ys:List Wy):xam ys (S "num")=some (S "num"):=by unfold xam;rw[if_pos rfl]
theorem xhp{ks:List Kn}(wf:KWf ks){ks2:List Kn}{told:List Wy}{i:Nat}{x:Str}(h:xoa ks i x):xam (xb1 ks2 ks told) x=xam (xb1 ks2 (ks.take i) told) x:=by
 rcases h with rfl |⟨j,k',hj,hk,rfl⟩
 ·rw[xez,xez]
 ·apply xd8
  conv=>lhs;rw[<- List.take_append_drop i ks]
  rw[xo5];refine xm4 λk hk2 e=>?_;obtain⟨l,hl,e2⟩:=zMI hk2
  have h2:ks[i+l]?=some k:=by
   rw[<- e2,List.getElem_drop];rw[List.length_drop]at hl;exact zGA (by omega)
  have:=xew wf.nd h2 hk e;omega
theorem xj3{ks:List Kn}{i:Nat}{k:Kn}(h:ks[i]?=some k):ks.take (i+1)=ks.take i++[k]:=by
 rw[zTA,h];rfl
theorem xj1{ks:List Kn}(wf:KWf ks){ks2:List Kn}{told:List Wy}{y:Wy}{i:Nat}{k0:Kn}(h0:ks[i]?=some k0)(hy:y.1=k0.name):∀j,j<=i->∀x,x≠y.1->wyAt (xb1 ks2 (ks.take j) (told++[y])) x=wyAt (xb1 ks2 (ks.take j) told) x
 |0,_,x,hx=>by
  rw[List.take_zero];exact xh6 (Ne.symm hx)
 | j+1,hj,x,hx=>by
  have ih:=xj1 wf (ks2:=ks2) (told:=told) h0 hy j (by omega);have hi:=(zES h0).1;obtain⟨k,hk⟩:∃k,ks[j]?=some k:=⟨ks[j],zGA (by omega)⟩
  have hkn:k.name≠y.1:=λe=>by
   have:=xew wf.nd hk h0 (by rw[e,hy]);omega
  rw[xj3 hk,xf7,xf7]
  have hb:xd7 ks2 (xb1 ks2 (ks.take j) (told++[y])) k=xd7 ks2 (xb1 ks2 (ks.take j) told) k:=xlg λp hp=>by
   rcases wf.ref j k hk p hp with z |⟨l,k',hl,hk',e⟩
   ·rw[z,xez,xez]
   ·refine xd8 (ih p.2 λe2=>?_)
    have:=xew wf.nd hk' h0 (by rw[e,e2,hy]);omega
  have hw:=ih k.name hkn;have hx':=ih x hx;unfold xfb;rw[hw,hb]
  cases wyAt (xb1 ks2 (ks.take j) told) k.name with
  |some z=>exact hx'
  | none=>
   cases xd7 ks2 (xb1 ks2 (ks.take j) told) k with
   |none=>exact hx'
   |some d=>
    show wyAt (_++[_]) x=wyAt (_++[_]) x;rw[xly,xly,hx']
theorem xrv{ks:List Kn}(wf:KWf ks){ks2:List Kn}{told:List Wy}{y:Wy}{i:Nat}{a:Kn}(h0:ks[i]?=some a)(b:y.1=a.name){x:Str}(h:xoa ks i x):xam (xb1 ks2 ks (told++[y])) x=xam (xb1 ks2 ks told) x:=by
 rw[xhp wf h,xhp wf h];rcases h with rfl |⟨j,k',f,c,rfl⟩
 ·rw[xez,xez]
 ·refine xd8 (xj1 wf h0 b i (zG _) _ λe=>?_)
  have:=xew wf.nd c h0 (by rw[e,b]);omega
def xbv(ys:List Wy)(ps:List (Str×Str)):List (Str×Str):=ps.filterMap λp=>(xam ys p.2).map λg=>(p.1,g)
theorem xd5{ys ys':List Wy}:∀{ps:List (Str×Str)},(∀p∈ps,xam ys p.2=xam ys' p.2)->xbv ys ps=xbv ys' ps
 |[],_=>rfl
 |p::ps,h=>by
  unfold xbv;rw[List.filterMap_cons,List.filterMap_cons,h p (by simp)];have:=xd5 (ps:=ps) λq a=>h q (by simp[a]);unfold xbv at this;rw[this]
theorem xqt{ys:List Wy}{ps:List (Str×Str)}{p:Str×Str}{g:Str}(a:p∈ps)(h:xam ys p.2=some g):(p.1,g)∈xbv ys ps:=by
 unfold xbv;exact List.mem_filterMap.mpr ⟨p,a,by rw[h];rfl⟩
theorem xff{ys:List Wy}{ps:List (Str×Str)}{b:Str×Str}(h:b∈xbv ys ps):∃p∈ps,p.1=b.1/\xam ys p.2=some b.2:=by
 unfold xbv at h;obtain⟨p,a,e⟩:=List.mem_filterMap.mp h;obtain⟨g,c,rfl⟩:=zMS e;exact⟨p,a,rfl,c⟩
theorem xic{ys:List Wy}:∀{ps:List (Str×Str)},((xbv ys ps).map (·.1)).Sublist (ps.map (·.1))
 |[]=>.slnil
 |p::ps=>by
  have a:=xic (ys:=ys) (ps:=ps);unfold xbv at a⊢;rw[List.filterMap_cons]
  cases xam ys p.2 with
  |none=>exact a.cons _
  |some g=>exact a.cons₂ _
theorem xed{ys:List Wy}{ps:List (Str×Str)}(h:(ps.map (·.1)).Nodup):((xbv ys ps).map (·.1)).Nodup:=h.sublist xic
theorem xfs{ys:List Wy}{ps:List (Str×Str)}:(xbv ys ps).length<=ps.length:=List.length_filterMap_le _ _
def dPr(e:Str×D):D:=.tup [.str e.1,e.2]
def HowOk(ks2:List Kn)(ys:List Wy)(k:Kn)(g:Str)(d:D):Prop:=
 (k.rc=true/\TmB ks2 22 (xbv ys k.parts) d g) ∨
 (k.rc=false/\∃es:List (Str×D),d=.tup (es.map dPr)/\es.map (·.1)=k.parts.map (·.1)/\∀(i:Nat) e p,es[i]?=some e->k.parts[i]?=some p->TmB ks2 22 (xbv ys [(S "it",p.2)]) e.2 g)
def xd1(ks ks2:List Kn)(ys:List Wy)(y:Wy):Prop:=∃k,kAt ks y.1=some k/\KIn ks2 6 y.2.1/\HowOk ks2 ys k y.2.1 y.2.2
theorem HowOk.congr{ks2:List Kn}{ys ys':List Wy}{k:Kn}{g:Str}{d:D}(h:HowOk ks2 ys k g d)(c:∀p∈k.parts,xam ys p.2=xam ys' p.2):HowOk ks2 ys' k g d:=by
 rcases h with⟨a,h⟩ |⟨a,es,m,l,h⟩
 ·exact .inl ⟨a,by rw[<- xd5 c];exact h⟩
 ·refine .inr ⟨a,es,m,l,λi e p j b=>?_⟩
  have:=h i e p j b;rw[xd5 (ys:=ys) (ys':=ys') (ps:=[(S "it",p.2)]) λq f=>by rw[zMO f];exact c p (zMG b)]at this;exact this
theorem xvf{ks:List Kn}(wf:KWf ks){bs:List (Str×Str)}:∀(m:Nat) (x:Str),KIn ks m x->TmB ks m bs (nuT (m+1) ks x) x
 |0,x,h=>by
  rcases h.nu wf with⟨rfl,_,e,_⟩ |⟨j,k,e,_⟩
  ·rw[e];exact xph ⟨by decide,by decide⟩
  ·cases e
 | m+1,x,h=>by
  rcases h.nu wf with⟨rfl,_,e,_⟩ |⟨j,k,n,i,hn,o,c,_,⟨b,e,_⟩ |⟨b,p,r,l,e,_⟩⟩
  ·rw[e];exact xph ⟨by decide,by decide⟩
  ·cases n
   rw[e];refine xpg i b (by have:=wf.pts k o;omega) ?_;have:=xgw (R:=λe (p:Str×Str)=>TmB ks m bs e p.2) (f:=λp:Str×Str=>nuT (m+1) ks p.2) (g:=λp=>p) (xs:=k.parts) λp a=>xvf wf m p.2 (c p a);rw[List.map_id']at this;exact this
  ·cases n
   rw[e];exact xpf wf i b (by rw[l];simp) (xvf wf m p.2 (c p (by rw[l];simp)))
theorem xr3{ks:List Kn}:∀(n:Nat) (env:En) (d v:D),Evs ks n env d v->Evs ks (n+1) env d v
 |0,_,_,_,h=>.inl h
 |n+1,env,d,v,h=>by
  rcases h with h |⟨h,g⟩
  ·exact .inl h
  ·exact .inr ⟨h.mono (xr3 n),g⟩
theorem xw2{ks:List Kn}{n m:Nat}(l:n<=m){env:En}{d v:D}(h:Evs ks n env d v):Evs ks m env d v:=by
 obtain⟨k,rfl⟩:∃k,m=n+k:=⟨m-n,by omega⟩;clear l
 induction k with
 |zero=>exact h
 |succ k a=>exact xr3 _ _ _ _ a
theorem TmB.up{ks:List Kn}{n m:Nat}{bs:List (Str×Str)}{d:D}{x:Str}(h:TmB ks n bs d x)(l:n<=m):TmB ks m bs d x:=⟨λenv a=>by
 obtain⟨v,c,b⟩:=h.1 env a;exact⟨v,xw2 l c,b⟩,λenv a=>xyx l (h.2 env a)⟩
theorem xtn{ks:List Kn}(wf:KWf ks){x:Str}{k:Kn}(h:kAt ks x=some k):KIn ks 6 x:=by
 have b:=zMF h
 have a:k.name=x:=by
  have:=List.find?_some h;exact zH this
 exact(KIn.of (.inr ⟨k,b,a⟩)).mono wf.few
theorem xhm{ks:List Kn}{x:Str}{k:Kn}(h:kAt ks x=some k):k.name=x:=by
 have:=List.find?_some h;exact zH this
theorem xnx{ks:List Kn}(wf:KWf ks){k:Kn}(h:k∈ks){p:Str×Str}(a:p∈k.parts):KIn ks 6 p.2:=by
 obtain⟨i,hi,e⟩:=zMI h;have:=wf.few;exact KIn.mono (n:=i) (wf.ref i k (by rw[<- e];exact zGA hi) p a) (by omega)
theorem xrt{ks2:List Kn}(wf2:KWf ks2){ys:List Wy}{k:Kn}{d:D}(h:xd7 ks2 ys k=some d):KIn ks2 6 k.name/\HowOk ks2 ys k k.name d:=by
 unfold xd7 at h
 cases hk:kAt ks2 k.name with
 |none=>rw[hk]at h;cases h
 | some k2=>
  rw[hk]at h;have hm:=zMF hk;refine⟨xtn wf2 hk,?_⟩;by_cases hr:k2.rc=k.rc
  ·simp only[hr,if_true]at h
   cases hc:k.rc with
   | true=>
    simp only[hc,if_true]at h;by_cases ha:k2.parts.all (okQ ys k.parts)=true
    ·rw[if_pos ha]at h
     cases h;refine .inl ⟨hc,?_⟩;have h5:=wf2.pts k2 hm;refine TmB.up (n:=7) (xpg (n:=6) hk (by rw[hr,hc]) (by omega) ?_) (by omega)
     have:=xgw (R:=λe (p:Str×Str)=>TmB ks2 6 (xbv ys k.parts) e p.2) (f:=tmQ ks2 k.parts) (g:=λp=>p) (xs:=k2.parts) λq hq=>by
      have hok:=List.all_eq_true.mp ha q hq;unfold okQ at hok;unfold tmQ
      cases ho:xd2 k.parts q.1 with
      |none=>exact xvf wf2 6 q.2 (xnx wf2 hm hq)
      |some z=>
       rw[ho]at hok;exact xj2 (xqt (p:=(q.1,z)) (xkh ho) (zH hok))
     rw[List.map_id']at this;exact this
    ·rw[if_neg ha]at h
     cases h
   | false=>
    rw[hc]at h;simp only[Bool.false_eq_true,if_false]at h;by_cases ha:k.parts.all (okT ys k2.parts)=true
    ·rw[if_pos ha]at h
     cases h;refine .inr ⟨hc,k.parts.map λp=>(p.1,tTag k.name p.1 (tBox (S "it"))),?_,?_,λi e p he hp=>?_⟩
     ·unfold xvh
      rw[List.map_map];rfl
     ·rw[List.map_map]
      rfl
     ·rw[zGM,hp]at he
      cases he;have hpm:=zMG hp;have hok:=List.all_eq_true.mp ha p hpm;unfold okT at hok
      cases ho:xd2 k2.parts p.1 with
      |none=>rw[ho]at hok;cases hok
      |some g=>
       rw[ho]at hok;have hg:=zH hok;refine TmB.up (n:=1) (xpf (n:=0) (p:=(p.1,g)) wf2 hk (by rw[hr,hc]) (xkh ho) (xj2 ?_)) (by omega);exact xqt (p:=(S "it",p.2)) (by simp) hg
    ·rw[if_neg ha]at h
     cases h
  ·simp only[if_neg hr]at h
   cases h
theorem xrc{ks2:List Kn}:∀{ks:List Kn} {told:List Wy} {y:Wy},y∈xb1 ks2 ks told->y∈told\/∃i k d,ks[i]?=some k/\y=(k.name,k.name,d)/\xd7 ks2 (xb1 ks2 (ks.take i) told) k=some d
 |[],told,y,h=>.inl h
 | k::ks,told,y,h=>by
  rcases xrc (ks:=ks) (told:=xfb ks2 told k) h with h |⟨i,k',d,h1,h2,h3⟩
  ·unfold xfb at h
   cases hw:wyAt told k.name with
   |some z=>rw[hw]at h;exact .inl h
   | none=>
    rw[hw]at h
    cases hb:xd7 ks2 told k with
    |none=>rw[hb]at h;exact .inl h
    |some d=>
     rw[hb]at h;rcases zMA h with h |h
     ·exact .inl h
     ·exact .inr ⟨0,k,d,rfl,zMO h,hb⟩
  ·exact .inr ⟨i+1,k',d,h1,h2,h3⟩
theorem xhc{ks:List Kn}(wf:KWf ks){i:Nat}{k:Kn}(b:ks[i]?=some k){p:Str×Str}(a:p∈k.parts):xoa ks i p.2:=wf.ref i k b p a
def xir(ks ks2:List Kn)(told:List Wy):Prop:=∀y∈told,xd1 ks ks2 (xb1 ks2 ks told) y
theorem xig{ks ks2:List Kn}(wf:KWf ks)(a:KWf ks2){told:List Wy}(h:xir ks ks2 told):∀y∈xb1 ks2 ks told,xd1 ks ks2 (xb1 ks2 ks told) y:=λy f=>by
 rcases xrc f with c |⟨i,k,d,e,rfl,j⟩
 ·exact h y c
 ·have b:xd7 ks2 (xb1 ks2 ks told) k=some d:=by
   rw[xlg (ys':=xb1 ks2 (ks.take i) told) λp g=>xhp wf (xhc wf e g)];exact j
  obtain⟨c,l⟩:=xrt a b;exact⟨k,xcw wf.nd (zMG e),c,l⟩
theorem xj0{ks ks2:List Kn}(wf:KWf ks){told:List Wy}{y:Wy}{i:Nat}{b:Kn}(h0:ks[i]?=some b)(f:y.1=b.name)(h:xir ks ks2 told)(r:∀z∈told,∃j k,j<i/\ks[j]?=some k/\k.name=z.1)(g:KIn ks2 6 y.2.1/\HowOk ks2 (xb1 ks2 ks told) b y.2.1 y.2.2):xir ks ks2 (told++[y]):=by
 have stay:∀x,xoa ks i x->xam (xb1 ks2 ks told) x=xam (xb1 ks2 ks (told++[y])) x:=λx o=>(xrv wf h0 f o).symm;intro z hz;rcases zMA hz with hz |hz
 ·obtain⟨k,m,u,s⟩:=h z hz
  obtain⟨j,k',F,a,e⟩:=r z hz
  have w:k=k':=by
   have:=xcw wf.nd (zMG a);rw[e,m]at this;exact zM this
  subst w;refine⟨k,m,u,s.congr λp c=>stay _ ?_⟩;rcases wf.ref j k a p c with z |⟨l,n,C,z⟩
  ·exact .inl z
  ·exact .inr ⟨l,n,by omega,z⟩
 ·rw[zMO hz]
  exact⟨b,by rw[f];exact xcw wf.nd (zMG h0),g.1,g.2.congr λp c=>stay _ (xhc wf h0 c)⟩
theorem xen{ys:List Wy}{x:Str}(h:wyAt ys x=none):∀y∈ys,y.1≠x:=λy a e=>by
 unfold wyAt at h;have:=List.find?_eq_none.mp h y a;exact this (zDT e)
theorem xfk{ys:List Wy}(nd:(ys.map (·.1)).Nodup){y:Wy}(b:y∈ys):wyAt ys y.1=some y:=by
 obtain⟨i,hi,e⟩:=zMI b;exact xco (f:=λz:Wy=>z.1) (xs:=ys) (i:=i) (a:=y) nd (by rw[<- e];exact zGA hi)
theorem xvm{ks2:List Kn}{ys:List Wy}{k:Kn}(nd:(ys.map (·.1)).Nodup):((xfb ks2 ys k).map (·.1)).Nodup:=by
 unfold xfb
 cases g:wyAt ys k.name with
 |some z=>exact nd
 | none=>
  cases xd7 ks2 ys k with
  |none=>exact nd
  |some d=>
   show((ys++[(k.name,k.name,d)]).map (·.1)).Nodup;rw[zAP];refine List.nodup_append.mpr ⟨nd,by simp,λa i b h e=>?_⟩;obtain⟨y,f,rfl⟩:=zMP i;have c:b=k.name:=by simpa using h
   exact xen g y f (by rw[e,c])
theorem xrd{ks2:List Kn}:∀{ks:List Kn} {ys:List Wy},(ys.map (·.1)).Nodup->((xb1 ks2 ks ys).map (·.1)).Nodup
 |[],_,nd=>nd
 |k::ks,ys,nd=>xrd (ks:=ks) (xvm nd)
theorem xsw{ks2:List Kn}{ys:List Wy}{k:Kn}:(xfb ks2 ys k).length<=ys.length+1:=by
 unfold xfb
 cases wyAt ys k.name with
 |some z=>show ys.length<=_;omega
 |none=>
  cases xd7 ks2 ys k with
  |none=>show ys.length<=_;omega
  |some d=>show(ys++[_]).length<=_;simp
theorem xjj{ks2:List Kn}:∀{ks:List Kn} {ys:List Wy},(xb1 ks2 ks ys).length<=ys.length+ks.length
 |[],ys=>zG _
 |k::ks,ys=>by
  have b:=xjj (ks2:=ks2) (ks:=ks) (ys:=xfb ks2 ys k);have a:=xsw (ks2:=ks2) (ys:=ys) (k:=k);show(xb1 ks2 ks (xfb ks2 ys k)).length<=ys.length+(ks.length+1);omega
theorem xoz{ks ks2:List Kn}{ys:List Wy}(h:∀y∈ys,xd1 ks ks2 ys y){x g:Str}(a:xam ys x=some g):KIn ks2 6 g:=by
 unfold xam at a;by_cases c:x=S "num"
 ·rw[if_pos c]at a
  cases a;exact .inl rfl
 ·rw[if_neg c]at a
  obtain⟨y,b,rfl⟩:=zMS a;obtain⟨k,_,e,_⟩:=h y (xgy b).2;exact e
theorem xfi{α:Type}{p:α->Bool}:∀{l:List α} {r:List α} {a:α},l.filter p=r++[a]->∃i:Nat,l[i]?=some a/\p a=true/\∀j b,i<j->l[j]?=some b->p b=false
 |[],r,a,h=>by
  cases r <;> simp at h
 | c::l,r,a,h=>by
  by_cases hl:l.filter p=[]
  ·rw [List.filter_cons]at h
   cases hc:p c with
   |false=>
    rw[hc,hl]at h;cases r <;> simp at h
   | true=>
    rw[hc,hl]at h
    cases r with
    |cons z r=>simp at h
    | nil=>
     simp at h;subst h;refine⟨0,rfl,hc,λj b hj hb=>?_⟩
     cases j with
     |zero=>omega
     | succ j=>
      cases hb':p b with
      |false=>rfl
      |true=>
       have:b∈l.filter p:=List.mem_filter.mpr ⟨zMG (by simpa using hb),hb'⟩;rw[hl]at this;cases this
  ·obtain⟨r',a',e⟩:∃r' a',l.filter p=r'++[a']:=⟨(l.filter p).dropLast,(l.filter p).getLast hl,(List.dropLast_concat_getLast hl).symm⟩
   have ea:a'=a:=by
    rw[List.filter_cons]at h
    cases hc:p c with
    |false=>
     rw[hc]at h;simp only[Bool.false_eq_true,if_false]at h;rw[e]at h;exact(List.append_inj' h rfl).2 |> List.cons.inj |>.1
    |true=>
     rw[hc]at h;simp only[if_true]at h;rw[e,<- List.cons_append]at h;exact(List.append_inj' h rfl).2 |> List.cons.inj |>.1
   subst ea;obtain⟨i,h1,h2,h3⟩:=xfi e;refine⟨i+1,by simpa using h1,h2,λj b hj hb=>?_⟩
   cases j with
   |zero=>omega
   |succ j=>exact h3 j b (by omega) (by simpa using hb)
theorem xk9{ks:List Kn}(wf:KWf ks){ys:List Wy}{i:Nat}{k0:Kn}(h0:ks[i]?=some k0)(hl:∀j k,i<j->ks[j]?=some k->(wyAt ys k.name).isSome=false):∀y∈ys,∀k,kAt ks y.1=some k->∀p∈k.parts,p.2≠k0.name:=by
 intro y hy k hk p hp e;have hkm:=zMF hk;have hkn:=xhm hk;obtain⟨j,hj,ej⟩:=zMI hkm;have hj':ks[j]?=some k:=by rw[<- ej];exact zGA hj
 have hji:j<=i:=by
  refine Nat.le_of_not_lt λc=>?_;have:=hl j k c hj';rw[hkn]at this
  cases hw:wyAt ys y.1 with
  |none=>exact xen hw y hy rfl
  |some z=>rw[hw]at this;cases this
 rcases wf.ref j k hj' p hp with z |⟨l,k',hl',hk',e'⟩
 ·have:=xcw wf.nd (zMG h0)
  rw[<- e,z,wf.num]at this;cases this
 ·have:=xew wf.nd hk' h0 (by rw[e',e])
  omega
def NoAb(x:Str):Prop:=x≠S "ababab"
theorem yaj{l:List Nat}(h:l[0]?≠some 97\/l[1]?≠some 98):NoAb (ofL l):=λe=>by
 have:=congrArg L e;rw[xej,show L (S "ababab")=[97,98,97,98,97,98] by walk_at"k"]at this;subst this;simp at h
theorem xmr{c:Nat}(h:c∈five):c≠97/\c≠98:=by
 revert h;unfold five;simp;omega
theorem xuu{cs:List Nat}(h:∀c∈cs,c∈five)(a:Nat)(b:Int)(k:Nat)(t:List Nat)(i:∀c∈t,c∈five):NoAb (ofL (nmA cs a b k++t)):=by
 apply yaj;unfold nmA
 cases g:cs.take a with
 |nil=>
  right;rw[List.nil_append,List.cons_append,List.getElem?_cons_succ];intro e;have f:=zMG e;rcases zMA f with f |f
  ·exact(xmr (h _ (List.mem_of_mem_drop f))).2 rfl
  ·exact(xmr (i _ f)).2 rfl
 |cons c r=>
  left;intro e;simp at e;have:c∈cs.take a:=by rw[g];simp
  exact(xmr (h c (zX this))).1 e
theorem xwk{cs:List Nat}{a:Nat}{b:Int}(e:∀c∈cs,c∈five):∀z∈((List.range 26).map λk=>ofL (nmA cs a b k)),NoAb z:=λz hz=>by
 obtain⟨k,_,rfl⟩:=zMP hz;have:=xuu e a b k [] (λ_ h=>nomatch h);rw[List.append_nil]at this;exact this
theorem xwh{cs:List Nat}{a:Nat}{b:Int}(f:∀c∈cs,c∈five):∀z∈((List.range 26).map λk=>ofL (nmB cs a b k)),NoAb z:=λz hz=>by
 obtain⟨k,_,rfl⟩:=zMP hz;unfold nmB;exact xuu f a b _ _ λc e=>by rw[List.eq_of_mem_replicate e];decide
def exW(ys:List Wy)(x g:Str)(d:D):List Wy:=ys.map λy=>if y.1=x then (x,g,d) else y
theorem xqe{ys:List Wy}{x g:Str}{d:D}:(exW ys x g d).map (·.1)=ys.map (·.1):=by
 unfold exW;rw[List.map_map];refine List.map_congr_left λy _=>?_;show(if y.1=x then (x,g,d) else y).1=y.1;by_cases c:y.1=x
 ·rw[if_pos c,c]
 ·rw[if_neg c]
theorem xf8{ys:List Wy}{x g:Str}{d:D}{y:Wy}(h:y∈exW ys x g d):y=(x,g,d)\/(y∈ys/\y.1≠x):=by
 unfold exW at h;obtain⟨a,h0,rfl⟩:=zMP h;by_cases c:a.1=x
 ·rw[if_pos c];exact .inl rfl
 ·rw[if_neg c];exact .inr ⟨h0,c⟩
theorem xx8{ys:List Wy}{x g:Str}{d:D}{y:Wy}(h:wyAt ys x=some y):(x,g,d)∈exW ys x g d:=by
 have a:=xgy h;unfold exW;refine List.mem_map.mpr ⟨y,a.2,if_pos a.1⟩
theorem xx9{ys:List Wy}{x z g:Str}{d:D}(h:z≠x):wyAt (exW ys x g d) z=wyAt ys z:=by
 unfold wyAt exW
 induction ys with
 |nil=>rfl
 | cons y ys a=>
  rw[List.map_cons,List.find?_cons,List.find?_cons];by_cases c:y.1=x
  ·rw[if_pos c,zDF (show ¬(x,g,d).1=z from λe=>h e.symm),zDF (show ¬y.1=z from λe=>h (e.symm.trans c))]
   exact a
  ·rw[if_neg c]
   cases decide (y.1=z) with
   |true=>rfl
   |false=>exact a
theorem xfo{ys:List Wy}{x z g:Str}{d:D}(h:z≠x):xam (exW ys x g d) z=xam ys z:=xd8 (xx9 h)
theorem xs5{ys:List Wy}{x g:Str}{d:D}{y:Wy}(h:wyAt ys x=some y):wyAt (exW ys x g d) x=some (x,g,d):=by
 unfold wyAt exW at *
 induction ys with
 |nil=>cases h
 | cons a ys b=>
  rw[List.find?_cons]at h;rw[List.map_cons,List.find?_cons];by_cases c:a.1=x
  ·rw[if_pos c,zDT (show(x,g,d).1=x from rfl)]
  ·rw[if_neg c,zDF c]
   rw[zDF c]at h;exact b h
theorem xi8{ys:List Wy}{x g:Str}{d:D}{y:Wy}(h:wyAt ys x=some y)(a:y.2.1=g)(z:Str):xam (exW ys x g d) z=xam ys z:=by
 by_cases c:z=x
 ·subst c
  unfold xam;rw[xs5 h,h];by_cases e:z=S "num"
  ·rw[if_pos e,if_pos e]
  ·rw[if_neg e,if_neg e]
   show some g=some y.2.1;rw[a]
 ·exact xfo c
theorem xjx{H:Hp}{x g:Str}{v:V}{d:D}(b:RelD H v (wyD (x,g,d))):∀{kvs:List (Key×V)} {ys:List Wy},WAll H kvs ys->WAll H (kvs.map λkv=>if kv.1=Sum.inr x then (kv.1,v) else kv) (exW ys x g d)
 |[],[],_=>trivial
 | kv::kvs,y::ys,h=>by
  unfold exW;rw[List.map_cons,List.map_cons];refine⟨?_,xjx b h.2⟩;by_cases c:y.1=x
  ·have a:kv.1=Sum.inr x:=by rw[h.1.1,c]
   rw[if_pos c,if_pos a];exact⟨a,b⟩
  ·have a:¬kv.1=Sum.inr x:=λe=>c (Sum.inr.inj (h.1.1.symm.trans e))
   rw[if_neg c,if_neg a];exact h.1
theorem xm3{H:Hp}{x g:Str}{v:V}{d:D}(c:RelD H v (wyD (x,g,d))){kvs:List (Key×V)}{ys:List Wy}(h:WAll H kvs ys)(b:(wyAt ys x).isSome=true):WAll H (putK kvs (Sum.inr x) v) (exW ys x g d):=by
 unfold putK;obtain⟨y,a⟩:=Option.isSome_iff_exists.mp b;obtain⟨u,e,_⟩:=(h.val (x:=x)).2 y a;rw[if_pos (by rw[xeq,e];rfl)];exact xjx c h
theorem xm2{H:Hp}{x g:Str}{v:V}{d:D}(b:RelD H v (wyD (x,g,d))){kvs:List (Key×V)}{ys:List Wy}(h:WAll H kvs ys)(a:wyAt ys x=none):WAll H (putK kvs (Sum.inr x) v) (ys++[(x,g,d)]):=by
 unfold putK;have c:=(h.val (x:=x)).1 a;rw[if_neg (by rw[xeq,c];decide)];exact h.snoc ⟨rfl,b⟩
abbrev Res:=Except Nat Str
abbrev RKt:=En->D->Res->Prop
def nk(k:Str):Res->Option Nat
 |.ok k'=>if k'=k then none else some 4
 |.error c=>some c
def fin(o:Option Nat)(k:Str):Res:=match o with
 |some c=>.error c
 |none=>.ok k
def xlv(env:En)(d:D)(r:Res):Prop:=
 (∃i:Int,d=tNum i/\0<=i/\i<10 ^ 18/\r=if i<4294967296 then .ok (S "num") else .error 4) ∨
 ∃x:Str,d=tBox x/\((∃k,env x=some (.str k)/\r=.ok k)\/(env x=none/\x.length<=100/\r=.error 2))
def OpKt(R:RKt):RKt:=λenv d r=>∃s a b ra,d=tOpD s a b/\R env a ra/\((∃c,nk (S "num") ra=some c/\r=.error c)\/(nk (S "num") ra=none/\∃rb,R env b rb/\r=fin (nk (S "num") rb) (S "num")))
def IfKt(R:RKt):RKt:=λenv d r=>∃a b c ra,d=tIfD a b c/\R env a ra/\((∃e,nk (S "num") ra=some e/\r=.error e)\/(nk (S "num") ra=none/\∃rb,R env b rb/\((∃e,rb=.error e/\r=.error e)\/∃k rc,rb=.ok k/\R env c rc/\r=fin (nk k rc) k)))
def xgm(ks:List Kn)(x so:Str):Option Nat:=match kAt ks x with
 |none=>some 2
 |some kn=>if kn.sort=so then none else some 4
def ksR(ks:List Kn)(so:Str):Res->Res
 |.error c=>.error c
 |.ok k=>match kAt ks k with
  |none=>.error 4
  |some kn=>if kn.sort=so then .ok k else .error 4
def xh2(kn:Kn)(f:Str):Res:=match xch kn f with
 |some k=>.ok k
 |none=>.error 2
def AllN(R:D->Res->Prop):List D->List (Str×Str)->Option Nat->Prop
 |[],[],o=>o=none
 |e::es,p::ps,o=>∃re,R e re/\((∃c,nk p.2 re=some c/\o=some c)\/(nk p.2 re=none/\AllN R es ps o))
 |_,_,_=>False
def xxa(ks:List Kn)(R:RKt):RKt:=λenv d r=>∃x es,d=tRec x es/\((∃c,xgm ks x (S "rec")=some c/\x.length<=100/\r=.error c)\/(xgm ks x (S "rec")=none/\∃kn,kAt ks x=some kn ∧
 ((es.length≠kn.parts.length/\r=.error 3)\/(es.length=kn.parts.length/\∃o,AllN (R env) es kn.parts o/\r=fin o x))))
def xxb(ks:List Kn)(R:RKt):RKt:=λenv d r=>∃a f ra,d=tGet a f/\R env a ra/\((∃c,ksR ks (S "rec") ra=.error c/\r=.error c)\/∃k kn,ksR ks (S "rec") ra=.ok k/\kAt ks k=some kn/\r=xh2 kn f/\(xch kn f=none->f.length<=100))
def xw9(ks:List Kn)(R:RKt):RKt:=λenv d r=>∃x t a,d=tTag x t a/\((∃c,xgm ks x (S "alt")=some c/\x.length<=100/\r=.error c)\/(xgm ks x (S "alt")=none/\∃kn,kAt ks x=some kn ∧
 ((xch kn t=none/\t.length<=100/\r=.error 2)\/∃k1 ra,xch kn t=some k1/\R env a ra/\r=fin (nk k1 ra) x)))
abbrev Arm3:=Str×Str×D
def xgi(kn:Kn)(rs:List Arm3):Option Nat:=
 if ¬(∀r∈rs,r.1∈kn.parts.map (·.1)) then some 2 else if ¬(rs.map (·.1)).Nodup then some 1 else if rs.length<kn.parts.length then some 5 else none
def ArmR(kn:Kn)(R:RKt)(env:En)(r:Arm3)(q:Res):Prop:=(env r.2.1≠none/\r.2.1.length<=100/\q=.error 1)\/(env r.2.1=none/\((xch kn r.1=none/\r.1.length<=100/\q=.error 2)\/∃k2,xch kn r.1=some k2/\R (env.put r.2.1 (.str k2)) r.2.2 q))
def xub(A:Arm3->Res->Prop)(k:Str):List Arm3->Option Nat->Prop
 |[],o=>o=none
 |r::rs,o=>∃q,A r q/\((∃c,nk k q=some c/\o=some c)\/(nk k q=none/\xub A k rs o))
def xsp(ks:List Kn)(R:RKt):RKt:=λenv d r=>∃a rs ra,d=xgj a rs/\rs.length<=1000/\R env a ra/\((∃c,ksR ks (S "alt") ra=.error c/\r=.error c)\/∃k1 kn,ksR ks (S "alt") ra=.ok k1/\kAt ks k1=some kn ∧
 ((∃c,xgi kn rs=some c/\(∀z∈rs,z.1.length<=100)/\r=.error c)\/(xgi kn rs=none/\∃r0 rest q0,rs=r0::rest/\ArmR kn R env r0 q0/\((∃c,q0=.error c/\r=.error c)\/∃k o,q0=.ok k/\xub (ArmR kn R env) k rest o/\r=fin o k))))
def xsm(ks:List Kn)(R:RKt):RKt:=λenv d r=>OpKt R env d r\/xxa ks R env d r\/xxb ks R env d r\/xw9 ks R env d r\/xsp ks R env d r\/IfKt R env d r
def Kt(ks:List Kn):Nat->RKt
 |0=>xlv
 |n+1=>λenv d r=>xlv env d r\/xsm ks (Kt ks n) env d r
def KLn(ks:List Kn):Prop:=∀k∈ks,k.name.length<=100/\∀p∈k.parts,p.1.length<=100/\p.2.length<=100
def EnvL(env:En):Prop:=∀x k,env x=some (.str k)->k.length<=100
def ResL(r:Res):Prop:=∀k,r=.ok k->k.length<=100
theorem EnvL.put{env:En}{y k:Str}(h:EnvL env)(a:k.length<=100):EnvL (env.put y (.str k)):=λx k' e=>by
 unfold En.put at e;split at e
 ·cases e;exact a
 ·exact h x k' e
theorem xe7:(S "num").length<=100:=by walk_at"k"
theorem xhu{o:Option Nat}{k:Str}(h:k.length<=100):ResL (fin o k):=λk' e=>by
 cases o with
 |none=>cases e;exact h
 |some c=>cases e
theorem xfg{ks:List Kn}(h:KLn ks){x:Str}{a:Kn}(b:kAt ks x=some a):x.length<=100/\∀p∈a.parts,p.1.length<=100/\p.2.length<=100:=by
 have e:=zMF b
 have c:a.name=x:=by
  have:=List.find?_some b;exact zH this
 rw[<- c];exact h a e
theorem xet{ks:List Kn}(h:KLn ks){x f c:Str}{b:Kn}(g:kAt ks x=some b)(e:xch b f=some c):c.length<=100:=by
 unfold xch at e;obtain⟨p,a,rfl⟩:=zMS e;exact((xfg h g).2 p (zMF a)).2
theorem xla{ks:List Kn}(j:KLn ks):∀(n:Nat) (env:En) (d:D) (r:Res),EnvL env->Kt ks n env d r->ResL r
 | 0,env,d,r,l,h=>by
  rcases h with⟨i,_,_,_,rfl⟩ |⟨x,_,⟨k,e,rfl⟩ |⟨_,_,rfl⟩⟩
  ·intro k e;split at e
   ·cases e;exact xe7
   ·cases e
  ·intro k' I;cases I;exact l _ _ e
  ·intro k e;cases e
 | n+1,env,d,r,l,h=>by
  rcases h with h |⟨s,a,b,m,_,_,⟨c,_,rfl⟩ |⟨_,z,_,rfl⟩⟩ |⟨x,es,_,⟨c,_,_,rfl⟩ |⟨_,p,g,⟨_,rfl⟩ |⟨_,o,_,rfl⟩⟩⟩ |⟨a,f,m,_,w,⟨c,_,rfl⟩ |⟨k,p,_,g,rfl,_⟩⟩ |⟨x,t,a,_,⟨c,_,_,rfl⟩ |⟨_,p,g,⟨_,_,rfl⟩ |⟨C,m,_,_,rfl⟩⟩⟩ |⟨a,rs,m,_,_,w,⟨c,_,rfl⟩ |⟨C,p,_,g,⟨c,_,_,rfl⟩ |⟨_,M,rest,O,_,G,⟨c,_,rfl⟩ |⟨k,o,rfl,_,rfl⟩⟩⟩⟩ |⟨a,b,c,m,_,_,⟨e,_,rfl⟩ |⟨_,z,u,⟨e,_,rfl⟩ |⟨k,J,rfl,_,rfl⟩⟩⟩
  ·exact xla j 0 env d r l h
  ·intro k e;cases e
  ·exact xhu xe7
  ·intro k e;cases e
  ·intro k e;cases e
  ·exact xhu (xfg j g).1
  ·intro k e;cases e
  ·intro k' e
   unfold xh2 at e;split at e
   ·rename_i y;cases e;exact xet j g y
   ·cases e
  ·intro k e;cases e
  ·intro k e;cases e
  ·exact xhu (xfg j g).1
  ·intro k e;cases e
  ·intro k e;cases e
  ·intro k e;cases e
  ·refine xhu ?_
   rcases G with⟨_,_,e⟩ |⟨_,⟨_,_,e⟩ |⟨U,y,F⟩⟩
   ·cases e
   ·cases e
   ·exact xla j n _ _ _ (l.put (xet j g y)) F k rfl
  ·intro k e;cases e
  ·intro k e;cases e
  ·exact xhu (xla j n _ _ _ l u k rfl)
theorem nk_ok{k:Str}:nk k (.ok k)=none:=if_pos rfl
theorem xyo{k k':Str}(h:k'≠k):nk k (.ok k')=some 4:=if_neg h
theorem xi2{a:Kn}(h:a.rc=true):a.sort=S "rec":=by unfold Kn.sort;rw[if_pos h]
theorem xgr{a:Kn}(h:a.rc=false):a.sort=S "alt":=by unfold Kn.sort;rw[if_neg (by rw[h];decide)]
theorem xfn{ks:List Kn}{x a:Str}{b:Kn}(h:kAt ks x=some b)(hs:b.sort=a):xgm ks x a=none:=by unfold xgm;rw[h];simp only;rw[if_pos hs]
theorem xnh{ks:List Kn}{x a:Str}{b:Kn}(h:kAt ks x=some b)(hs:b.sort≠a):xgm ks x a=some 4:=by unfold xgm;rw[h];simp only;rw[if_neg hs]
theorem xia{ks:List Kn}{x a:Str}(h:kAt ks x=none):xgm ks x a=some 2:=by unfold xgm;rw[h]
theorem xnu{ks:List Kn}{x a:Str}{b:Kn}(h:kAt ks x=some b)(hs:b.sort=a):ksR ks a (.ok x)=.ok x:=by unfold ksR;simp only;rw[h];simp only;rw[if_pos hs]
theorem xyr{ks:List Kn}{x a:Str}{b:Kn}(h:kAt ks x=some b)(hs:b.sort≠a):ksR ks a (.ok x)=.error 4:=by unfold ksR;simp only;rw[h];simp only;rw[if_neg hs]
theorem xtm{ks:List Kn}{x a:Str}(h:kAt ks x=none):ksR ks a (.ok x)=.error 4:=by unfold ksR;simp only;rw[h]
theorem xm8{a:Kn}{rs:List Arm3}(c:∀r∈rs,r.1∈a.parts.map (·.1))(b:(rs.map (·.1)).Nodup)(e:rs.length=a.parts.length):xgi a rs=none:=by
 unfold xgi;rw[if_neg (λz=>z c),if_neg (λz=>z b),if_neg (by omega)]
theorem xzf{R:D->Res->Prop}:∀{es:List D} {ps:List (Str×Str)},All2 (λe (p:Str×Str)=>R e (.ok p.2)) es ps->AllN R es ps none
 |_,_,.nil=>rfl
 |_,_,.cons h t=>⟨_,h,.inr ⟨nk_ok,xzf t⟩⟩
theorem xsk{A:Arm3->Res->Prop}{k:Str}:∀{rs:List Arm3},(∀r∈rs,A r (.ok k))->xub A k rs none
 |[],_=>rfl
 |r::rs,h=>⟨_,h r (by simp),.inr ⟨nk_ok,xsk λr a=>h r (by simp[a])⟩⟩
theorem xv3{a:Kn}{f c:Str}(h:xch a f=some c):f∈a.parts.map (·.1):=by
 unfold xch at h;obtain⟨p,b,_⟩:=zMS h;have e:=List.find?_some b;rw[<- zH e];exact zQ (zMF b)
theorem xeu{a:Kn}{f b:Str}(h:xch a f=some b):xh2 a f=.ok b:=by unfold xh2;rw[h]
theorem fin_ok{k a:Str}:fin (nk k (.ok k)) a=.ok a:=by rw[nk_ok];rfl
theorem xto{ks:List Kn}(F:∀k∈ks,k.parts.length<=100):∀(n:Nat) (env:En) (d:D) (x:Str),Kd True ks n env d x->Kt ks n env d (.ok x)
 |0,env,d,x,h=>by
  rcases h with⟨i,hi,rfl,rfl⟩ |⟨y,M,rfl⟩
  ·exact .inl ⟨i,rfl,hi.1,by have:=hi.2;omega,by rw[if_pos hi.2]⟩
  ·exact .inr ⟨y,rfl,.inl ⟨x,M,rfl⟩⟩
 | n+1,env,d,x,h=>by
  have l:=xto F n;rcases h with h |⟨s,a,b,j,g,rfl,rfl⟩ |⟨es,o,j,g,m,rfl⟩ |⟨a,u,f,o,j,g,m,p,rfl⟩ |⟨t,a,o,u,j,g,m,p,rfl⟩ |⟨_,a,rs,u,o,j,g,m,p,Y,U,J,rfl⟩ |⟨a,b,c,j,g,m,rfl⟩
  ·exact .inl (xto F 0 env d x h)
  ·exact .inr (.inl ⟨s,a,b,_,rfl,l _ _ _ j,.inr ⟨nk_ok,_,l _ _ _ g,fin_ok.symm⟩⟩)
  ·exact .inr (.inr (.inl ⟨x,es,rfl,.inr ⟨xfn j (xi2 g),o,j,.inr ⟨m.length,none,xzf (m.imp λ_ _ h=>l _ _ _ h),rfl⟩⟩⟩))
  ·exact .inr (.inr (.inr (.inl ⟨a,f,_,rfl,l _ _ _ j,.inr ⟨u,o,xnu g (xi2 m),g,(xeu p).symm,λe=>by rw[p]at e;cases e⟩⟩)))
  ·exact .inr (.inr (.inr (.inr (.inl ⟨x,t,a,rfl,.inr ⟨xfn j (xgr g),o,j,.inr ⟨u,_,m,l _ _ _ p,fin_ok.symm⟩⟩⟩))))
  ·have z:∀r∈rs,ArmR o (Kt ks n) env r (.ok x):=λr w=>by
    obtain⟨g1,I,G,Z⟩:=J r w;exact .inr ⟨g1,.inr ⟨I,G,l _ _ _ Z⟩⟩
   have O:rs.length<=1000:=by
    have:=F o (zMF g);omega
   cases rs with
   |nil=>exact absurd rfl p
   |cons C rest=>
    refine .inr (.inr (.inr (.inr (.inr (.inl ⟨a,C::rest,_,rfl,O,l _ _ _ j,.inr ⟨u,o,xnu g (xgr m),g,.inr ⟨xm8 (λr w=>?_) U Y,C,rest,_,rfl,z C (by simp),.inr ⟨x,none,rfl,xsk λr w=>z r (by simp[w]),rfl⟩⟩⟩⟩)))));obtain⟨_,I,G,_⟩:=J r w;exact xv3 G
  ·exact .inr (.inr (.inr (.inr (.inr (.inr ⟨a,b,c,_,rfl,l _ _ _ j,.inr ⟨nk_ok,_,l _ _ _ g,.inr ⟨x,_,rfl,l _ _ _ m,fin_ok.symm⟩⟩⟩)))))
end M
end
section
namespace L2
open PySem PySem.Spec PyProof.Rows
section
variable {X:Cx}
def xvd(H0:Hp)(E:XS):XS:=λv d σ H=>∃a o,∃kvs:List (Key×V),H a=some (.frz o (.dK kvs))/\NoFz H0 a/\E v d σ (upd H a (.dK kvs))
theorem Thrown.thaw{E:XS}{e:Value}{s:Shared}(h:Thrown X (xvd X.H₀ E) e s):Thrown X E e s:=by
 obtain⟨x,C,d,T,p,n,b,σ,H,rfl,I,g,m,t,a,o,kvs,i,l,q⟩:=h
 have c:x≠a:=λz=>by
  rw[z,i]at g;cases g
 refine⟨x,C,d,T,p,n,b,σ,_,rfl,I.thaw i l,by rw[xa7 c];exact g,λr z=>?_,t,q⟩;obtain⟨j,f⟩:=m r z;refine⟨?_,f⟩;rw[xa7 (λz=>by rw[z,i]at j;cases j)];exact j
theorem xi9{E:XS}{st:Stmt}{t:TS}(h:PS (X.thr (xvd X.H₀ E)) st t):PS (X.thr E) st (λD σ H=>t {D with nx:=xzk X.H₀ D.nx} σ H):=by
 intro j s σ H D I n;refine wpAny_mono (h j s σ H _ (I.unwish.wish _) n) (λf l q=>?_) λe l z=>Thrown.thaw z
 cases f with
 |next=>
  obtain⟨b,i,g,a,o,kvs,e,m,c⟩:=q;exact⟨b,_,(g.unwish.thaw e m).wish _,c⟩
 |cont=>
  obtain⟨b,i,g,c⟩:=q;exact⟨b,i,g.unwish.wish _,c⟩
 |brk=>
  obtain⟨b,i,g,c⟩:=q;exact⟨b,i,g.unwish.wish _,c⟩
 |ret v=>
  obtain⟨v,b,i,g,c⟩:=q;exact⟨v,b,i,g.unwish.wish _,c⟩
def xx7:V->List V->Hp->VK->Prop:=λx vs H Q=>∃l xs y,x=.ref l/\vs=[y]/\H l=some (.lst xs)/\xs.all xem=true/\xem y=true/\Q (.int ((xs.countP λz=>eqV z y:Nat))) H
theorem xn0{z:V}:∀{xs:List V} {its:List Value},Vals xs its->xs.all xem=true->its.countP (eqU z)=xs.countP λy=>eqV y z
 |_,_,.nil,_=>rfl
 |_,_,.cons r t,f=>by
  rw[List.all_cons,Bool.and_eq_true]at f;rw[List.countP_cons,List.countP_cons,xn0 t f.2,xn2 r f.1]
theorem xtj:MtM X "list.count" xx7:=by
 intro a s σ H x vs v us Q I c f h;obtain⟨l,xs,y,rfl,rfl,j,fs,m,q⟩:=h;cases c;obtain⟨u,rfl,g⟩:=f.one;obtain⟨o,its,n,r,p,e⟩:=I.lstM j;refine call_meets F.slot_list_count ⟨_,e,rfl⟩ F.entry_list_count (F.args_list_count_2 _ _) (SeqAt.list_countAt l its.toArray n none #[] u (eqU y)) ⟨e,λb i=>xeg g m r fs b (by simpa using i),⟨.int _,H,I.tok _,⟨_,rfl⟩,?_⟩⟩;rw[List.toList_toArray,xn0 r fs];exact q
def xvx:V->List V->Hp->VK->Prop:=λx vs H Q=>∃l xs y j,x=.ref l/\vs=[y]/\H l=some (.lst xs)/\xs.all xem=true/\xem y=true/\xs.findIdx? (λz=>eqV z y)=some j/\Q (.int (j:Nat)) H
theorem xq8:MtM X "list.index" xvx:=by
 intro o s σ H x vs v us Q I z C h;obtain⟨l,xs,y,j,rfl,rfl,Y,fs,fy,O,q⟩:=h;cases z;obtain⟨u,rfl,G⟩:=C.one;obtain⟨p,its,n,r,hl,e⟩:=I.lstM Y;obtain⟨h1,h2,Z⟩:=List.findIdx?_eq_some_iff_getElem.mp O
 have a:∀i (hi:i<xs.length) (f:i<its.toArray.size),eqU y its.toArray[i]=eqV xs[i] y:=λi hi f=>by
  obtain⟨w,e',J⟩:=r.get (i:=i) (x:=xs[i]) (zGA hi)
  have g:its.toArray[i]=w:=by
   have:its[i]?=some its[i]:=zGA (by omega);rw[e']at this;simpa using (zM this).symm
  rw[g,xn2 J (List.all_eq_true.mp fs _ (zZ hi))]
 refine call_meets F.slot_list_index ⟨_,e,rfl⟩ F.entry_list_index (F.args_list_index_2 _ _) (SeqAt.list_indexAt l its.toArray n none #[] u (eqU y) j (by simp;omega) ?_ ?_ ?_) ⟨e,λb U=>xeg G fy r fs b (by simpa using U),⟨.int j,H,I.tok _,⟨_,rfl⟩,q⟩⟩
 ·rw[sizeLine_eq]at p
  omega
 ·rw[a j h1 (by simp;omega)]
  exact h2
 ·intro m M c
  rw[a m (by omega) M];have:=Z m c;simpa using this
end
section
variable {X:Cx}{K:Fg}{T:String}{name:Str}{id:String}{r:V->List V->Hp->VK->Prop}{o e:Expr}{es:List Expr}{to:TE}{t:TA}{apos cpos:Pos}
theorem xqp (hK:X.K=K) (pa:PlainAttrs T) (slot:Slot T name id) (hty:typeOf (.builtin id)=pure (.type "method_descriptor")) (hm:MtR X id r) (ho:PE X o to) (ha:PA X (e::es) t)
  (hbase:attributeBase o name X.env (eval o X.env)=eval o X.env:=by rfl)
  (hfew:((backTo cpos (starEach (e::es) X.env)).all (λx=>!x.1) && (backToKw cpos (keywordEach [] X.env)).all (λx=>x.1.isSome)
   && decide ((e::es).length+([]:List Keyword).length+(if ([]:List Keyword).isEmpty then 0 else 1)<30))=true:=by rfl)
  (hline:(apos.endLine == cpos.line)=true:=by rfl) (hs:starEach (e::es) X.env=(false,eval e X.env)::starEach es X.env:=by rfl) (hplain:(backTo cpos (starEach es X.env)).any (·.1)=false:=by rfl) :
  PE X (.Call (.Attribute o name apos) (e::es) [] cpos) (tBM K T r to t):=by
 subst hK;exact xgn pa slot hty hm ho ha hbase hfew hline hs hplain
end
theorem xcp {X:Cx} {K:Fg} (f:X.K=K):xec X (.builtin "isinstance") (λxs H Q=>∃a C e g y c b,xs=[.ref a,y]/\(∀u,RelV y u->u=c)/\H a=some (excF a C e g)/\(∀d,e=some d->∃fs,H d=some (.xd fs))/\XCl K C ∧
  PySem.W.kitOne K (.ref C) c=some b/\Q (.bl b) H):=by
 subst f;exact xlp
theorem xh5 {X:Cx} {K:Fg} (f:X.K=K):xec X (.builtin "isinstance") (λxs H Q=>∃(a C:Addr) (e:Option Addr) (g:Value) (c:Addr) (cs:List Addr) (b:Bool),xs=[.ref a,.ref c]/\H c=some (.tup (cs.map V.ref))/\H a=some (excF a C e g)/\(∀d,e=some d->∃fs,H d=some (.xd fs))/\XCl K C ∧
  PySem.W.kitAny K (.ref C) (cs.map Value.ref)=some b/\Q (.bl b) H):=by
 subst f;exact xjv
end L2
end
section
namespace M
open PySem L2
theorem xn9{α β:Type}{R:α->β->Prop}:∀{as:List α} {bs:List β},All2 R as bs->∀a∈as,∃b,R a b
 |_,_,.nil,a,h=>nomatch h
 |_,_,.cons h t,a,c=>by
  rcases zMC c with rfl |c
  ·exact⟨_,h⟩
  ·exact xn9 t a c
theorem xmn{cs:Prop}{ks:List Kn}:∀(n:Nat) (env:En) (d:D) (x:Str),Kd cs ks n env d x->d.deep<=3*n+1
 | n,env,d,x,h=>by
  have leaf:xlw env d x->d.deep<=3*n+1:=by
   rintro(⟨i,_,rfl,_⟩ |⟨y,_,rfl⟩)
   ·show(max 0 (max 0 0))+1<=_;omega
   ·show(max 0 (max 0 0))+1<=_;omega
  cases n with
  |zero=>exact leaf h
  | succ n=>
   rcases h with h |h
   ·exact leaf h
   ·have j:=λenv d x h=>xmn (cs:=cs) (ks:=ks) n env d x h
    rcases h with⟨s,a,b,l,m,rfl,_⟩ |⟨es,u,l,m,o,rfl⟩ |⟨a,C,f,u,l,m,o,z,rfl⟩ |⟨t,a,u,C,l,m,o,z,rfl⟩ |⟨M,a,rs,C,u,l,m,o,z,Y,U,I,rfl⟩ |⟨a,b,c,l,m,o,rfl⟩
    ·have:=j _ _ _ l
     have:=j _ _ _ m;show max 0 (max 0 (max a.deep (max b.deep 0)))+1<=_;omega
    ·have:=xd0 (ds:=es) (n:=3*n+1) λe w=>by
      obtain⟨p,G⟩:=xn9 o e w;exact j _ _ _ G
     show max 0 (max 0 (max (xdd es+1) 0))+1<=_;omega
    ·have:=j _ _ _ l
     show max 0 (max a.deep (max 0 0))+1<=_;omega
    ·have:=j _ _ _ z
     show max 0 (max 0 (max 0 (max a.deep 0)))+1<=_;omega
    ·have O:=j _ _ _ l
     have:=xd0 (ds:=rs.map dArm) (n:=3*n+2) λe w=>by
      obtain⟨r,F,rfl⟩:=zMP w;obtain⟨_,J,_,g⟩:=I r F;have:=j _ _ _ g;show max 0 (max 0 (max r.2.2.deep 0))+1<=_;omega
     show max 0 (max a.deep (max (xdd (rs.map dArm)+1) 0))+1<=_;omega
    ·have:=j _ _ _ l
     have:=j _ _ _ m;have:=j _ _ _ o;show max 0 (max a.deep (max b.deep (max c.deep 0)))+1<=_;omega
theorem xm7{ks:List Kn}{n:Nat}{bs:List (Str×Str)}{d:D}{x:Str}(nd:(bs.map (·.1)).Nodup)(h:TmK ks n bs d x):d.deep<=3*n+1:=by
 refine xmn n (λy=>(xd2 bs y).map D.str) d x (h _ ⟨λp b=>?_,λz _ hz=>?_⟩)
 ·show(xd2 bs p.1).map D.str=_
  rw[xur nd b];rfl
 ·cases a:xd2 bs z with
  |none=>show(xd2 bs z).map D.str=_;rw[a];rfl
  |some k=>exact absurd rfl (hz _ (xkh a))
theorem xfa{ks ks2:List Kn}(wf:KWf ks){ys:List Wy}{y:Wy}(h:xd1 ks ks2 ys y):(wyD y).deep<=100:=by
 obtain⟨k,l,_,b⟩:=h
 have r:y.2.2.deep<=80:=by
  rcases b with⟨_,a⟩ |⟨_,es,e,c,a⟩
  ·have:=xm7 (xed (wf.pnd k (zMF l))) a.2
   omega
  ·rw[e]
   have:=xd0 (ds:=es.map dPr) (n:=70) λf o=>by
    obtain⟨g,m,rfl⟩:=zMP o;obtain⟨i,hi,p⟩:=zMI m;have j:=congrArg List.length c;rw[zLM,zLM]at j;have:=xm7 (xed (by simp)) (a i g (k.parts[i]'(by omega)) (by rw[<- p];exact zGA hi) (zGA (by omega))).2;show max 0 (max g.2.deep 0)+1<=_;omega
   show xdd (es.map dPr)+1<=_;omega
 show max 0 (max y.2.2.deep 0)+1<=_;omega
end M
end
section
end
section
namespace L2
open PySem PySem.Spec PyProof.Rows
section
variable {X:Cx}
theorem xsi(hc:X.calm=true):xec X (.builtin "sum") (λxs H Q=>∃p,∃ns:List Int,xs=[.ref p]/\SqL X.K H p (ns.map V.int)/\Q (.int ns.sum) H):=by
 intro pins s σ H xs us Q I r h;obtain⟨p,ns,rfl,hq,q⟩:=h;obtain⟨u,rfl,ru⟩:=xfl r;cases ru;obtain⟨its,rv,pl,hz⟩:=I.list hq;have hi:=xgc rv;obtain⟨xs,e⟩:=hi.allInts.items;have hns:ns=xs.toList.map (·.1):=by rw[<- hi.numsOf,<- nums_intItems,<- e]
 have hl:=pl.isList;rw[e]at hl;have hsz:xs.size=ns.length:=by rw[hns,zLM,Array.length_toList]
 refine sum_intListG (I.ok.hd hc) hl λh' tk t' k=>⟨.int ns.sum,H,I.kept k,?_,q⟩;refine⟨t',?_⟩;rw[preSum_eq,<- hns,zTL (by omega)]
end
section
variable {P:Program}{w:World}{K:Fg}{mg:Str->Option Value}{base:Heap}{n m:Nat}{x:Str}{ps N:List Str}{sp sp':Sp}{st:Stmt}
theorem DefXs.calm(D:DefXs P w K mg base n x ps sp)(h:∀vs H Q E,sp' vs H Q E->sp vs H Q λ_ _ _=>False):DefIs P w K mg base n x ps sp':=by
 obtain⟨f,fd,F,r⟩:=D.ex;refine⟨f,fd,⟨λvs H Q E q=>F.len _ _ _ _ (h vs H Q E q),λA outer s H args us vs Q E hr he hb hv hs=>codeAny_mono (F.run A outer s H args us vs Q (λ_ _ _=>False) hr he hb hv (h _ _ _ _ hs)) λr s' q=>?_⟩,r⟩
 cases r with
 |error e=>
  obtain⟨_,_,_,_,_,_,_,_,_,_,_,_,_,_,_,z⟩:=q;exact False.elim z
 |ok fl=>cases fl <;> exact q
end
end L2
end
section
local macro_rules | `(tactic| obtain $p:rcasesPatMed:=$e:term)=>`(tactic| ((refine gcut λG hG=>?_;rcases $e:term with $p:rcasesPatMed) <;> refine hG ?_))
section
namespace L2
open PySem
abbrev qaa:List Str:=["kinds","term","boxes"]
abbrev qab:List Str:=["_law_kinds_here","_law_kind"]
abbrev qac:List Str:=["kinds","K"]
abbrev qad:List Str:=["_law_feed_here","_law_many"]
abbrev qae:List Str:=["kinds","kind"]
abbrev qaf:List Str:=["_law_feed_here","_law_kinds_here","_law_boxes","_law_kind","_law_room","_law_deep"]
abbrev qag:List Str:=["kinds","term","boxes","kind"]
abbrev qah:List Str:=["ways","kind"]
abbrev qai:List Str:=["kinds","ways","kind"]
abbrev qaj:List Str:=["_law_feed_here"]
abbrev qak:List Str:=["found","kind"]
abbrev qal:List Str:=["kinds","kind","name"]
abbrev qam:List Str:=["first","second","ways"]
abbrev qan:List Str:=["_law_feed_here","_law_kinds_here"]
abbrev qao:List Str:=["first","second","told"]
abbrev qap:List Str:=["_law_feed_here","_law_kinds_here","_law_sort","_law_names_here"]
abbrev qaq:List Str:=["_law_feed_here","_law_kinds_here","_law_boxes","_law_kind"]
abbrev qar:List Str:=["names","things"]
abbrev qas:List Str:=["x","boxes"]
abbrev qat:List Str:=["kinds","name","sort"]
abbrev qau:List Str:=["kinds","term","boxes","sort"]
abbrev qav:List Str:=["ways","parts"]
abbrev qaw:List Str:=["first","second","ways","K"]
abbrev qax:List Str:=["first","second","K","K2"]
abbrev qay:List Str:=["_law_feed_here","_law_some"]
abbrev qaz:List Str:=["_law_feed_here","_law_kinds_here","_law_names_here"]
abbrev qa0:List Str:=["_law_feed_here","_law_first","_law_kinds_here","_law_ways","_law_name"]
abbrev qa1:List Str:=["_law_feed_here","_law_first","_law_kinds_here"]
abbrev qa2:List Str:=["_law_sort","_law_how","_law_term_here"]
abbrev qa3:List Str:=["_law_feed_here","_law_first","_law_more","_law_ways","_law_gone"]
abbrev qa4:List Str:=["kinds","kind","arm","boxes"]
abbrev qa5:List Str:=["kinds","kind","arms"]
abbrev qa6:List Str:=["boxes","x","thing"]
abbrev qa7:List Str:=["first","K","how"]
abbrev qa8:List Str:=["kinds","ways","olds","news"]
abbrev qa9:List Str:=["_law_script","_law_k"]
abbrev qba:List Str:=["_law_cell","_law_many"]
abbrev qbb:List Str:=["_law_feed_here","_law_names_here"]
abbrev qbc:List Str:=["_law_feed_here","_law_kinds_here","_law_boxes","_law_parts_here","_law_kind","_law_room","_law_deep"]
abbrev qbd:List Str:=["_law_feed_here","_law_kinds_here","_law_sort","_law_parts_here","_law_names_here"]
abbrev qbe:List Str:=["_law_first","_law_second","_law_ways"]
abbrev qbf:List Str:=["_law_feed_here","_law_second","_law_goal","_law_form"]
abbrev qbg:List Str:=["_law_feed_here","_law_first","_law_second","_law_ways","_law_name"]
abbrev qbh:List Str:=["_law_name","_law_part","_law_kinds_here"]
end L2
namespace K42
open PySem L2 M
seal L2.PE L2.PA L2.PS L2.PSs L2.PT L2.PW L2.PI L2.PG L2.PJ L2.PTs
def top(i:Nat):Stmt:=PySem.Challenge.pw_swapstride_k42_ways_looked_at.main.body.getD i (.Pass ⟨0,0,0,0⟩)
abbrev s_need_once:Stmt:=top 14
theorem sc_need_once:FnScope qar qar (xae s_need_once):=by walk_at"q"
abbrev s_sort_of:Stmt:=top 15
theorem sc_sort_of:FnScope ["kinds","K","name","sort","parts"] qac (xae s_sort_of):=by walk_at"q"
abbrev s_parts_of:Stmt:=top 16
theorem sc_parts_of:FnScope ["kinds","K","name","sort","parts"] qac (xae s_parts_of):=by walk_at"q"
abbrev s_need_there:Stmt:=top 17
theorem sc_need_there:FnScope qae qae (xae s_need_there):=by walk_at"q"
abbrev s_kind_of:Stmt:=top 20
theorem sc_kind_of:FnScope ["kinds","term","boxes","head"] qaa (xae s_kind_of):=by walk_at"q"
abbrev s_num_kind:Stmt:=top 21
theorem sc_num_kind:FnScope ["n"] ["n"] (xae s_num_kind):=by walk_at"q"
abbrev s_box_kind:Stmt:=top 22
theorem sc_box_kind:FnScope qas qas (xae s_box_kind):=by walk_at"q"
abbrev s_op_kind:Stmt:=top 23
theorem sc_op_kind:FnScope qaa qaa (xae s_op_kind):=by walk_at"q"
abbrev s_rec_kind:Stmt:=top 24
theorem sc_rec_kind:FnScope ["kinds","term","boxes","name","parts","part","inner"] qaa (xae s_rec_kind):=by walk_at"q"
abbrev s_get_kind:Stmt:=top 25
theorem sc_get_kind:FnScope qag qaa (xae s_get_kind):=by walk_at"q"
abbrev s_tag_kind:Stmt:=top 26
theorem sc_tag_kind:FnScope ["kinds","term","boxes","name"] qaa (xae s_tag_kind):=by walk_at"q"
abbrev s_case_kind:Stmt:=top 27
theorem sc_case_kind:FnScope ["kinds","term","boxes","kind","arms","inner","arm"] qaa (xae s_case_kind):=by walk_at"q"
abbrev s_arm_kind:Stmt:=top 28
theorem sc_arm_kind:FnScope ["kinds","kind","arm","boxes","x"] qa4 (xae s_arm_kind):=by walk_at"q"
abbrev s_if_kind:Stmt:=top 29
theorem sc_if_kind:FnScope qag qaa (xae s_if_kind):=by walk_at"q"
abbrev s_need_kind:Stmt:=top 30
theorem sc_need_kind:FnScope qag qag (xae s_need_kind):=by walk_at"q"
abbrev s_need_same:Stmt:=top 31
theorem sc_need_same:FnScope qak qak (xae s_need_same):=by walk_at"q"
abbrev s_need_sort:Stmt:=top 32
theorem sc_need_sort:FnScope ["kinds","name","sort","found"] qat (xae s_need_sort):=by walk_at"q"
abbrev s_kind_of_sort:Stmt:=top 33
theorem sc_kind_of_sort:FnScope ["kinds","term","boxes","sort","kind"] qau (xae s_kind_of_sort):=by walk_at"q"
abbrev s_part_kind:Stmt:=top 34
theorem sc_part_kind:FnScope ["kinds","kind","name","part"] qal (xae s_part_kind):=by walk_at"q"
abbrev s_need_tags:Stmt:=top 35
theorem sc_need_tags:FnScope ["kinds","kind","arms","own","tags","tag"] qa5 (xae s_need_tags):=by walk_at"q"
abbrev s_with_box:Stmt:=top 36
theorem sc_with_box:FnScope ["boxes","x","thing","more"] qa6 (xae s_with_box):=by walk_at"q"
abbrev s_nought_term:Stmt:=top 37
theorem sc_nought_term:FnScope ["kinds","kind","parts"] qae (xae s_nought_term):=by walk_at"q"
abbrev s_goes_to:Stmt:=top 39
theorem sc_goes_to:FnScope qah qah (xae s_goes_to):=by walk_at"q"
abbrev s_boxes_over:Stmt:=top 40
theorem sc_boxes_over:FnScope qav qav (xae s_boxes_over):=by walk_at"q"
abbrev s_look_ways:Stmt:=top 41
theorem sc_look_ways:FnScope qaw qam (xae s_look_ways):=by walk_at"q"
abbrev s_look_ends:Stmt:=top 42
theorem sc_look_ends:FnScope qax qax (xae s_look_ends):=by walk_at"q"
abbrev s_look_form:Stmt:=top 43
theorem sc_look_form:FnScope ["first","K","how","right"] qa7 (xae s_look_form):=by walk_at"q"
abbrev s_is_term:Stmt:=top 44
theorem xog:FnScope ["how"] ["how"] (xae s_is_term):=by walk_at"q"
abbrev s_look_terms:Stmt:=top 45
theorem sc_look_terms:FnScope ["first","second","ways","K","K2","how","parts","part","tagged"] qaw (xae s_look_terms):=by walk_at"q"
abbrev s_made_ways:Stmt:=top 46
theorem sc_made_ways:FnScope ["first","second","told","ways","lacking","kind","K","how"] qao (xae s_made_ways):=by walk_at"q"
abbrev s_how_by_rules:Stmt:=top 47
theorem sc_how_by_rules:FnScope ["kinds","ways","kind","K","terms"] qai (xae s_how_by_rules):=by walk_at"q"
abbrev s_terms_by_rules:Stmt:=top 48
theorem sc_terms_by_rules:FnScope ["kinds","ways","olds","news","own","terms","x","kind"] qa8 (xae s_terms_by_rules):=by walk_at"q"
abbrev s_tags_by_rules:Stmt:=top 49
theorem sc_tags_by_rules:FnScope ["kinds","ways","kind","K","theirs","tag","inner"] qai (xae s_tags_by_rules):=by walk_at"q"
abbrev sl_feed:Stmt:=top 51
theorem scl_feed:FnScope ["_law_script","_law_k","_law_cell"] qa9 (xae sl_feed):=by walk_at"q"
abbrev sl_take:Stmt:=top 52
theorem scl_take:FnScope ["_law_feed_here","_law_many","_law_digit","_law_one"] qad (xae sl_take):=by walk_at"q"
abbrev sl_names:Stmt:=top 53
theorem scl_names:FnScope ["_law_cell","_law_many","_law_letters","_law_size_here","_law_at","_law_common","_law_found"] qba (xae sl_names):=by walk_at"q"
abbrev sl_number:Stmt:=top 54
theorem scl_number:FnScope ["_law_feed_here","_law_form"] qaj (xae sl_number):=by walk_at"q"
abbrev sl_sort_of:Stmt:=top 55
theorem scl_sort_of:FnScope ["_law_kinds_here","_law_kind","_law_name","_law_sort","_law_parts_here"] qab (xae sl_sort_of):=by walk_at"q"
abbrev sl_size:Stmt:=top 56
theorem scl_size:FnScope ["_law_kinds_here","_law_kind","_law_sort","_law_parts_here","_law_sizes"] qab (xae sl_size):=by walk_at"q"
abbrev sl_small:Stmt:=top 57
theorem scl_small:FnScope ["_law_kinds_here","_law_kind","_law_sort","_law_parts_here"] qab (xae sl_small):=by walk_at"q"
abbrev sl_parts:Stmt:=top 58
theorem scl_parts:FnScope ["_law_feed_here","_law_kinds_here","_law_sort","_law_names_here","_law_parts_here","_law_left","_law_j","_law_kind"] qap (xae sl_parts):=by walk_at"q"
abbrev sl_kinds:Stmt:=top 59
theorem scl_kinds:FnScope ["_law_feed_here","_law_names_here","_law_kinds_here","_law_k","_law_sort"] qbb (xae sl_kinds):=by walk_at"q"
abbrev sl_boxed:Stmt:=top 60
theorem xp4:FnScope qay qay (xae sl_boxed):=by walk_at"q"
abbrev sl_arms:Stmt:=top 61
theorem scl_arms:FnScope ["_law_feed_here","_law_kinds_here","_law_boxes","_law_parts_here","_law_kind","_law_room","_law_deep","_law_arms_here","_law_each","_law_t","_law_part","_law_x"] qbc (xae sl_arms):=by walk_at"q"
abbrev sl_whole_term:Stmt:=top 62
theorem scl_whole_term:FnScope ["_law_feed_here","_law_kinds_here","_law_boxes","_law_kind","_law_room","_law_deep","_law_sort","_law_parts_here","_law_one","_law_other","_law_some","_law_t","_law_part","_law_more","_law_terms","_law_f"] qaf (xae sl_whole_term):=by walk_at"q"
abbrev sl_term:Stmt:=top 63
theorem scl_term:FnScope ["_law_feed_here","_law_kinds_here","_law_boxes","_law_kind","_law_room","_law_deep","_law_some","_law_form","_law_small_here","_law_more","_law_one","_law_first","_law_held","_law_x","_law_told_here","_law_sort","_law_parts_here","_law_f","_law_tags"] qaf (xae sl_term):=by walk_at"q"
abbrev sl_new_term:Stmt:=top 64
theorem xkc:FnScope qaq qaq (xae sl_new_term):=by walk_at"q"
abbrev sl_any_kind:Stmt:=top 65
theorem scl_any_kind:FnScope qan qan (xae sl_any_kind):=by walk_at"q"
abbrev sl_beside_parts:Stmt:=top 66
theorem scl_beside_parts:FnScope ["_law_feed_here","_law_kinds_here","_law_sort","_law_parts_here","_law_names_here","_law_form","_law_k"] qbd (xae sl_beside_parts):=by walk_at"q"
abbrev sl_beside:Stmt:=top 67
theorem scl_beside:FnScope ["_law_feed_here","_law_kinds_here","_law_names_here","_law_found","_law_name","_law_sort","_law_parts_here","_law_form","_law_more"] qaz (xae sl_beside):=by walk_at"q"
abbrev sl_way:Stmt:=top 68
theorem scl_way:FnScope ["_law_feed_here","_law_first","_law_kinds_here","_law_ways","_law_name","_law_sort","_law_parts_here","_law_goal","_law_boxes","_law_arms_here","_law_t","_law_part"] qa0 (xae sl_way):=by walk_at"q"
abbrev sl_told:Stmt:=top 69
theorem scl_told:FnScope ["_law_feed_here","_law_first","_law_kinds_here","_law_told_here","_law_name","_law_sort","_law_parts_here","_law_ways","_law_lacking"] qa1 (xae sl_told):=by walk_at"q"
abbrev sl_class:Stmt:=top 70
theorem scl_class:FnScope ["_law_first","_law_second","_law_ways","_law_word","e","_law_sorts","_law_others"] qbe (xae sl_class):=by walk_at"q"
abbrev sl_all:Stmt:=top 71
theorem scl_all:FnScope qa2 qa2 (xae sl_all):=by walk_at"q"
abbrev sl_hidden:Stmt:=top 72
theorem scl_hidden:FnScope ["_law_feed_here","_law_first","_law_more","_law_ways","_law_gone","_law_names_here","_law_alts","_law_parts_here","_law_some","_law_x","_law_name","_law_ignored","_law_tags","_law_inner","_law_found"] qa3 (xae sl_hidden):=by walk_at"q"
abbrev sl_wrong_term:Stmt:=top 73
theorem scl_wrong_term:FnScope ["_law_feed_here","_law_second","_law_goal","_law_form","_law_recs","_law_ignored","_law_fields","_law_terms"] qbf (xae sl_wrong_term):=by walk_at"q"
abbrev sl_spoilt:Stmt:=top 74
theorem scl_spoilt:FnScope ["_law_feed_here","_law_first","_law_second","_law_ways","_law_name","_law_sort","_law_parts_here","_law_goal","_law_how","_law_some","_law_form","_law_other","_law_box","_law_lost","_law_term_here","_law_word"] qbg (xae sl_spoilt):=by walk_at"q"
abbrev s_law:Stmt:=top 75
theorem sc_law:FnScope ["_law_script","_law_names_here","_law_kinds_here","_law_first","_law_second","_law_ways","_law_other","_law_name","_law_gone","_law_some","_law_k","_law_feed_here","_law_due","_law_kept"] ["_law_script"] (xae s_law):=by walk_at"q"
abbrev s_init:Stmt:=xze (top 2) 0
structure Tx(K:Fg)(mg:Str->Option Value):Prop where
 jA:DefTx K mg "need_once" s_need_once qar
 jB:DefTx K mg "sort_of" s_sort_of qac
 jC:DefTx K mg "parts_of" s_parts_of qac
 jD:DefTx K mg "need_there" s_need_there qae
 jE:DefTx K mg "kind_of" s_kind_of qaa
 jF:DefTx K mg "num_kind" s_num_kind ["n"]
 jG:DefTx K mg "box_kind" s_box_kind qas
 jH:DefTx K mg "op_kind" s_op_kind qaa
 jI:DefTx K mg "rec_kind" s_rec_kind qaa
 jJ:DefTx K mg "get_kind" s_get_kind qaa
 jK:DefTx K mg "tag_kind" s_tag_kind qaa
 jL:DefTx K mg "case_kind" s_case_kind qaa
 jM:DefTx K mg "arm_kind" s_arm_kind qa4
 jN:DefTx K mg "if_kind" s_if_kind qaa
 jO:DefTx K mg "need_kind" s_need_kind qag
 jP:DefTx K mg "need_same" s_need_same qak
 jQ:DefTx K mg "need_sort" s_need_sort qat
 jR:DefTx K mg "kind_of_sort" s_kind_of_sort qau
 jS:DefTx K mg "part_kind" s_part_kind qal
 jT:DefTx K mg "need_tags" s_need_tags qa5
 jU:DefTx K mg "with_box" s_with_box qa6
 jV:DefTx K mg "nought_term" s_nought_term qae
 jW:DefTx K mg "goes_to" s_goes_to qah
 jX:DefTx K mg "boxes_over" s_boxes_over qav
 jY:DefTx K mg "look_ways" s_look_ways qam
 jZ:DefTx K mg "look_ends" s_look_ends qax
 j0:DefTx K mg "look_form" s_look_form qa7
 j1:DefTx K mg "is_term" s_is_term ["how"]
 j2:DefTx K mg "look_terms" s_look_terms qaw
 j3:DefTx K mg "made_ways" s_made_ways qao
 j4:DefTx K mg "how_by_rules" s_how_by_rules qai
 j5:DefTx K mg "terms_by_rules" s_terms_by_rules qa8
 j6:DefTx K mg "tags_by_rules" s_tags_by_rules qai
 j7:DefTx K mg "_law_feed" sl_feed qa9
 j8:DefTx K mg "_law_take" sl_take qad
 j9:DefTx K mg "_law_names" sl_names qba
 kA:DefTx K mg "_law_number" sl_number qaj
 kB:DefTx K mg "_law_sort_of" sl_sort_of qab
 kC:DefTx K mg "_law_size" sl_size qab
 kD:DefTx K mg "_law_small" sl_small qab
 kE:DefTx K mg "_law_parts" sl_parts qap
 kF:DefTx K mg "_law_kinds" sl_kinds qbb
 kG:DefTx K mg "_law_boxed" sl_boxed qay
 kH:DefTx K mg "_law_arms" sl_arms qbc
 kI:DefTx K mg "_law_whole_term" sl_whole_term qaf
 kJ:DefTx K mg "_law_term" sl_term qaf
 kK:DefTx K mg "_law_new_term" sl_new_term qaq
 kL:DefTx K mg "_law_any_kind" sl_any_kind qan
 kM:DefTx K mg "_law_beside_parts" sl_beside_parts qbd
 kN:DefTx K mg "_law_beside" sl_beside qaz
 kO:DefTx K mg "_law_way" sl_way qa0
 kP:DefTx K mg "_law_told" sl_told qa1
 kQ:DefTx K mg "_law_class" sl_class qbe
 kR:DefTx K mg "_law_all" sl_all qa2
 kT:DefTx K mg "_law_hidden" sl_hidden qa3
 kU:DefTx K mg "_law_wrong_term" sl_wrong_term qbf
 kW:DefTx K mg "_law_spoilt" sl_spoilt qbg
 kX:DefTx K mg "law" s_law ["_law_script"]
 kY:∃t,mg "WIDE"=some (.int 4294967296 t)
 kZ:mg "ValueError"=none
 k4:mg "dict"=none
 k6:mg "int"=none
 k7:mg "isinstance"=none
 k8:mg "len"=none
 uA:mg "list"=none
 uB:mg "max"=none
 uC:mg "range"=none
 uD:mg "reversed"=none
 uE:mg "set"=none
 uF:mg "str"=none
 uG:mg "sum"=none
 uH:mg "tuple"=none
 uI:mg "zip"=none
 uJ:mg "BadText"=some (.ref (cAt K 0))
 uK:mg "Twice"=some (.ref (cAt K 1))
 uL:mg "NoName"=some (.ref (cAt K 2))
 uM:mg "NoCount"=some (.ref (cAt K 3))
 uN:mg "WrongKind"=some (.ref (cAt K 4))
 uO:mg "Lacks"=some (.ref (cAt K 5))
 uP:mg "NotOwn"=some (.ref (cAt K 6))
 uQ:mg "Falls"=some (.ref (cAt K 7))
 uR:mg "TooBig"=some (.ref (cAt K 8))
 uS:mg "NoFit"=some (.ref (cAt K 9))
 uT:mg "NoCode"=some (.ref (cAt K 10))
 uU:mg "SwapError"=some (.ref (ad K "SwapError"))
 xt2:XTab2 K
 xt:XTab K
 it:InitTx K "BadText.__init__" (cAt K 0) s_init ["self","at"]
theorem fits{n:Nat}(h:n<=4000000):n<=sizeLine:=zF h (by decide)
theorem xaz{n:Nat}(h:n<=4000000):n<sizeLine:=Nat.lt_of_le_of_lt h (by decide)
theorem xw8:bootBuiltins "ValueError"=some (.type "ValueError"):=by walk_at"k"
def xuh(K:Fg):Sp:=λvs H Q _=>∃(a:Addr) (ns:List Int) (k:Int),vs=[.ref a,.int k]/\SqL K H a (ns.map V.int)/\ns.length<=63/\0<=k/\∀(r:Addr) (p q:Int),H r=none->Q (.ref r) (upd H r (.lst [.int p,.int q]))
def xc2:Sp:=λvs H Q _=>∃(a:Addr) (p q m:Int),vs=[.ref a,.int m]/\H a=some (.lst [.int p,.int q])/\0<m/\m<2 ^ 64/\∀(r:Int) (H':Hp),0<=r->r<m->Fed a H H'->Q (.int r) H'
section
variable {P:Program}{w:World}{K:Fg}{mg:Str->Option Value}{base:Heap}{n:Nat}
theorem xmw{ns:List Int}{k:Int}(h0:0<=k)(h:k<(ns.length:Int)):∃v:Int,atI (ns.map V.int) k=some (.int v):=by
 have a:k.toNat<ns.length:=by omega
 have b:k=((k.toNat:Nat):Int):=by omega
 refine⟨ns[k.toNat],?_⟩;have q:atI (ns.map V.int) ((k.toNat:Nat):Int)=some (.int ns[k.toNat]):=xar (by rw[zGM,zGA a] <;> rfl);rw[<- b]at q;exact q
theorem xdx:2<=sizeLine:=by decide
theorem xtd(T:Tx K z):DefIs P w K z base (n+1) "_law_feed" qa9 (xuh K):=by
 refine DefIs.of T.j7 scl_feed (λvs H Q E h=>?_) (λf G A outer s H vs Q E I h=>?_)
 ·obtain⟨a,ns,k,rfl,_⟩:=h
  rfl
 obtain⟨a,ns,k,rfl,M,F,C,q⟩:=h;have nd:=scl_feed.nd;have g:(ns.map V.int).length=ns.length:=zLM _
 refine⟨_,(zpn (psn 2 nd pI)
   (zpn (xa0 (pR xkj (pv 1) (xan (xad (K:=K) rfl) rfl T.k8 PySem.boot_len (v1 0)) (nM _)) (zpo (psn 2 nd (pxl K (pv 0) (pv 1)))) pQ)
   (zpn (xa0 (PW.pt (xcg (pR xee (xan (xad (K:=K) rfl) rfl T.k8 PySem.boot_len (v1 0)) pI (nM _)) (xby (pR xa9 (xat xdj (pxl K (pv 0) pI) pI) pI (nM _))))) (zpo (xaj (xbs (va 2 (zpc (xat xb2 (xat xdj (xat xb2 (xat xel (xat xdj (pv 2) pI) pI) (xat xel pI (pv 1))) pI) pI) pN xa8))))) pQ)
   (zpn (xa0 (PW.pt (xcg (pR xyi (pv 1) (xan (xad (K:=K) rfl) rfl T.k8 PySem.boot_len (v1 0)) (nM _)) (xby (pR xee (xan (xad (K:=K) rfl) rfl T.k8 PySem.boot_len (v1 0)) pI (nM _))))) (zpo (psn 2 nd (xat xb2 (pxl K (pv 0) (xat xdj (pv 1) (xan (xad (K:=K) rfl) rfl T.k8 PySem.boot_len (v1 0)))) (xat xel pI (pv 1))))) pQ)
   (zpo (xaj (xbs (zpc pI (zpc (xat xb2 (xat xdj (xat xb2 (xat xel (xat xdj (pv 2) pI) pI) (xat xel pI (pv 1))) pI) pI) pN xa8) zso)))))))),?_⟩
 have h0:0<ns.length->∃v:Int,atI (ns.map V.int) 0=some (.int v):=λh=>xmw (Int.le_refl 0) (by omega);walk_at"rd";refine ite2 (λc=>?_) (λc=>?_)
 ·have o:=zH c
  rw[g]at o;obtain⟨v,x⟩:=xmw (ns:=ns) C o;obtain⟨y,p⟩:=h0 (by omega);walk_at"rd";refine ite2 (λj=>?_) (λj=>?_)
  ·walk_at"rd"
   refine ite2 (λu=>?_) (λu=>?_)
   ·walk_at"rd"
    exact⟨xdx,λl b=>q l _ _ b⟩
   ·walk_at"rd"
    refine ite2 (λi=>?_) (λi=>?_)
    ·have r:=zH i
     rw[g]at r;omega
    ·refine iteF ?_
     walk_at"rd";exact⟨xdx,λl b=>q l _ _ b⟩
  ·have e:=of_decide_eq_false (Bool.eq_false_iff.mpr j)
   rw[g]at e;omega
 ·have o:=of_decide_eq_false (Bool.eq_false_iff.mpr c)
  rw[g]at o;walk_at"rd";refine ite2 (λj=>?_) (λj=>?_)
  ·have e:=zH j
   rw[g]at e;obtain⟨y,p⟩:=h0 (by omega);walk_at"rd";refine ite2 (λu=>?_) (λu=>?_)
   ·walk_at"rd"
    exact⟨xdx,λl b=>q l _ _ b⟩
   ·walk_at"rd"
    refine ite2 (λi=>?_) (λi=>?_)
    ·walk_at"rd"
     refine ite2 (λm=>?_) (λm=>?_)
     ·obtain⟨v,x⟩:=xmw (ns:=ns) (k:=k%(ns.length:Int)) (Int.emod_nonneg _ (by omega)) (Int.emod_lt_of_pos _ (by omega))
      rw[<- g]at x;have J:(0:Int)<((ns.map V.int).length:Nat):=by rw[g];omega
      walk_at"rd";exact⟨xdx,λl b=>q l _ _ b⟩
     ·walk_at"rd"
      exact⟨xdx,λl b=>q l _ _ b⟩
    ·refine iteF ?_
     walk_at"rd";exact⟨xdx,λl b=>q l _ _ b⟩
  ·refine iteF ?_
   walk_at"rd";refine ite2 (λi=>?_) (λi=>?_)
   ·walk_at"rd"
    refine ite2 (λm=>?_) (λm=>?_)
    ·have e:=of_decide_eq_false (Bool.eq_false_iff.mpr j)
     exact absurd (zH m) e
    ·walk_at"rd"
     exact⟨xdx,λl b=>q l _ _ b⟩
   ·refine iteF ?_
    walk_at"rd";exact⟨xdx,λl b=>q l _ _ b⟩
theorem xjc(T:Tx K e):DefIs P w K e base (n+1) "_law_take" qad xc2:=by
 refine DefIs.of T.j8 scl_take (λvs H Q E h=>?_) (λf i A outer s H vs Q E l h=>?_)
 ·obtain⟨a,p,q,m,rfl,_⟩:=h
  rfl
 obtain⟨a,p,q,m,rfl,g,b,j,k⟩:=h;have nd:=scl_take.nd;have o:SqL K H a [.int p,.int q]:=zD g
 refine⟨_,(zpn (xa0 (pR xee (pxl K (pv 0) pI) pI (nM _)) (zpn (psn 2 nd (xat xdj (pxl K (pv 0) pI) (pv 1)))
   (zpn (xdi (xat xcv (pxl K (pv 0) pI) (pv 1)) (xqk (pv 0) pI xi6))
   (zpo (xaj (pv 2))))) pQ)
   (zpn (psn 3 nd (xat xdj (xat xel (pxl K (pv 0) pI) pI) pI))
   (zpn (xdi (xat xb2 (xat xdj (xat xb2 (xat xel (pv 3) pI) pI) pI) pI) (xqk (pv 0) pI xi6))
   (zpo (xaj (xat xdj (xat xcv (xat xb2 (xat xel (pv 3) pI) (pxl K (pv 0) pI)) pI) (pv 1))))))),?_⟩
 walk_at"rd";refine ite2 (λc=>?_) (λc=>?_)
 ·walk_at"rd"
  refine k _ _ (Int.emod_nonneg _ (by omega)) (Int.emod_lt_of_pos _ b) Fed.of
 ·walk_at"rd"
  refine(xal _ _ _ _ rfl rfl (zD ups) rfl ?_);walk_at"rd";refine k _ _ (Int.emod_nonneg _ (by omega)) (Int.emod_lt_of_pos _ b) Fed.of
end
def xpq:Sp:=λvs H Q _=>∃c:Int,vs=[.int c,.int 26]/\∀(b:Addr) (H':Hp) (nms:List Str),Same H H'->H b=none->H' b=some (.lst (nms.map V.str))->xmz nms->(∀z∈nms,NoBy z/\NoMo z)->(∀z∈nms,NoAb z)->Q (.ref b) H'
section
variable {P:Program}{w:World}{K:Fg}{mg:Str->Option Value}{base:Heap}{n m:Nat}
theorem xqw(T:Tx K mg):DefIs P w K mg base (n+1) "_law_names" qba xpq:=by
 refine DefIs.of T.j9 scl_names (by walk_at"l") (λf a4 A outer s H vs Q E hr h=>?_);obtain⟨c,rfl,k⟩:=h;have nd:=scl_names.nd
 refine⟨_,(zpn (psn 2 nd pS)
   (zpn (psn 3 nd (xat xdj (pv 0) pI))
   (zpn (psn 4 nd (xat xdj (xat xcv (pv 0) pI) (xat xb2 (pv 3) pI)))
   (zpn (psn 5 nd (xgn PySem.F.plainAttrs_str PySem.F.slot_str_join PySem.F.type_str_join xwm pS (zpc (xb7 ["_law_j","_law_cell"] [none,some 0] rfl (by kernel_rfl) (xep rfl T.uC (v1 3)) (λ_ _ _ _=>(pgc 0)) (λ_ _ _ _=>xce) (λ_ _ _ _=>(xok xny pS (xat xdj (xat xb2 (xat xcv (pv 1) pI) (pv 0)) pI) (λ_ _=>rfl)))) pN xdh)))
   (zpn (psn 6 nd (xb7 ["_law_k","_law_common","_law_letters","_law_at","_law_cell"] [none,some 5,some 2,some 4,some 0] rfl (by kernel_rfl) (xep rfl T.uC (v1 1)) (λ_ _ _ _=>(pgc 0)) (λ_ _ _ _=>xce) (λ_ _ _ _=>(xat xev (xat xev (xcn xul (pv 1) xdp (xcy (pv 3))) (xok xny (pv 2) (xat xdj (xat xb2 (xat xcv (pv 4) pI) (xat xel pI (pv 0))) pI) (λ_ _=>rfl))) (xcn xul (pv 1) (xcy (pv 3)) xdp)))))
   (zpn (xa0 (pR xa9 (xat xdj (xat xcv (pv 0) pI) pI) pI (nM _)) (zpo (xaj (pv 6))) pQ)
   (zpo (xaj (xb7 ["_law_k","_law_found"] [none,some 6] rfl (by kernel_rfl) (xep rfl T.uC (v1 1)) (λ_ _ _ _=>(pgc 0)) (λ_ _ _ _=>xce) (λ_ _ _ _=>(xat xev (pxl K (pv 1) (xat xc8 (pv 0) (xat xdj (pv 0) pI))) (xat xv8 pS (xat xdj (pv 0) pI))))))))))))),?_⟩
 have m0:0<=c%5:=Int.emod_nonneg _ (by decide);have m5:c%5<5:=Int.emod_lt_of_pos _ (by decide);refine(xa3 _ rfl _ _ rfl rfl ⟨(by show(0:Int)<5;decide),?_⟩);have hp:0<(c%5)+1:=by omega
 refine(xa3 _ rfl _ _ rfl rfl (jAEA ⟨by decide,by decide⟩ _ rfl (xaq _ _ rfl rfl (xaw _ _ rfl rfl hp ?_))));have a0:0<=c / 5%((c%5)+1):=Int.emod_nonneg _ (by omega);have a1:c / 5%((c%5)+1)<(c%5)+1:=Int.emod_lt_of_pos _ hp;refine(jAEA rfl _ rfl (xdb _ rfl (by omega) (by omega) ?_));refine xge (j:=0) (λi ys I=>I=H/\∃cs:List Nat,ys=(cs.map xdz).map V.str/\∀c∈cs,c∈five) (by rfl) (jAEA rfl ([]) rfl (λ_ h=>nomatch h)) (xaz (by omega)) ?_ ?_
 ·rintro i ys I hi Y ⟨rfl,cs,rfl,a⟩
  refine(xa3 _ rfl _ _ rfl rfl (jAEA ⟨by decide,by decide⟩ _ rfl (xaq _ _ rfl rfl (xaw _ _ rfl rfl (by show(0:Int)<5;decide) ?_))));obtain⟨ch,Z,a2⟩:=xw1 (Int.emod_nonneg (c / 25+(0+(i:Int))) (by decide:(5:Int)≠0)) (Int.emod_lt_of_pos _ (by decide));refine(xa5 _ _ ch rfl rfl (by walk_at"k") a2 ?_)
  exact nxt hi Y ⟨rfl,cs++[ch],by simp[xdz],λx o=>by
   rcases zMA o with o |o
   ·exact a x o
   ·rw[zMO o];exact Z⟩
 ·rintro ys I Y ⟨rfl,cs,rfl,a⟩ D hD
  rw[zLM,zLM]at Y;refine(xa5 (S "") D (cs.map xdz) rfl rfl (zD ups) ?_ ?_)
  ·rw[xl1,show(S "").length=0 by walk_at"k"]
   omega
  rw[xld];have m:=zB hD (.lst ((cs.map xdz).map V.str));generalize upd I D (.lst ((cs.map xdz).map V.str))=H1 at m⊢;have b:(ofL cs).length=cs.length:=by rw[<- xf6,xej]
  have c4:cs.length<=4:=by omega
  refine(xay _ rfl _ rfl (by decide) ⟨by decide,?_⟩);refine xge (j:=0) (λi ys G=>G=H1/\ys=((List.range i).map λk=>ofL (nmA cs (c / 5%(c%5+1)).toNat (c / 125) k)).map V.str) (by rfl) ⟨rfl,rfl⟩ (xaz (by decide)) ?_ ?_
  ·rintro i ys G hi r ⟨rfl,rfl⟩
   have e0:(0+(i:Int))=(i:Int):=by omega
   have U:0<=(c / 125+5*(0+(i:Int)))%26:=Int.emod_nonneg _ (by decide);have O:(c / 125+5*(0+(i:Int)))%26<26:=Int.emod_lt_of_pos _ (by decide);refine(jEA _ rfl (xcx _ rfl _ rfl _ rfl (fits (by rw[b];omega)) ?_));refine(xbf _ rfl _ rfl _ _ rfl rfl (jAEA ⟨by decide,by decide⟩ _ rfl (xaw _ _ rfl rfl (.inl ⟨by decide,by decide⟩) (xaq _ _ rfl rfl (xaw _ _ rfl rfl (by show(0:Int)<26;decide) ?_)))));refine(xa5 _ _ _ rfl rfl (by walk_at"k") (xrh U O) ?_);rw[xs0 (ofL cs) a0 (by rw[b];omega)];refine(xaw _ _ rfl rfl ?_ ?_)
   ·refine fits ?_
    rw[show(ofL ((L (ofL cs)).take (c / 5%(c%5+1)).toNat)).length=(cs.take (c / 5%(c%5+1)).toNat).length by rw[<- xf6,xej,xej],List.length_take];show _+1<=_;omega
   refine(jEA _ rfl (xcx _ rfl _ rfl _ rfl (fits (by rw[b];omega)) ?_));rw[xof (ofL cs) a0 (by rw[b];omega),xej];refine(xaw _ _ rfl rfl ?_ ?_)
   ·refine fits ?_
    rw[Str.length_append,show(ofL (cs.take (c / 5%(c%5+1)).toNat)).length=(cs.take (c / 5%(c%5+1)).toNat).length by rw[<- xf6,xej],show(ofL (cs.drop (c / 5%(c%5+1)).toNat)).length=(cs.drop (c / 5%(c%5+1)).toNat).length by rw[<- xf6,xej],List.length_take,List.length_drop];show _+1+_<=_;omega
   rw[xq5];refine nxt hi r ⟨rfl,?_⟩;rw[List.range_succ,zAP,zAP,e0];rfl
  ·rintro ys G r ⟨rfl,rfl⟩ J y
   have g:=zB y (.lst (((List.range 26).map λk=>ofL (nmA cs (c / 5%(c%5+1)).toNat (c / 125) k)).map V.str));refine(xa3 _ rfl _ _ rfl rfl (jAE ⟨by decide,by decide⟩ _ (xbj _ rfl rfl (by show(0:Int)<3;decide) rfl (jEA _ rfl (ite2 (λcc=>?_) (λcc=>?_))))))
   ·exact(jEA _ rfl (k J _ _ (m.trans g) (xck m y) ups (nmsA c4 a) (λz hz=>⟨xwj a z hz,xwi a z hz⟩) (xwk a)))
   ·refine(xay _ rfl _ rfl (by decide) ⟨by decide,?_⟩)
    obtain⟨C,l⟩:∃C,C=upd G J (.lst (((List.range 26).map λk=>ofL (nmA cs (c / 5%(c%5+1)).toNat (c / 125) k)).map V.str)):=⟨_,rfl⟩;have hb:C J=some (.lst (((List.range 26).map λk=>ofL (nmA cs (c / 5%(c%5+1)).toNat (c / 125) k)).map V.str)):=by rw[l];exact ups
    rw[<- l]at g;refine xge (j:=0) (λi ys H4=>H4=C/\ys=((List.range i).map λk=>ofL (nmB cs (c / 5%(c%5+1)).toNat (c / 125) k)).map V.str) (by rfl) ⟨l.symm,rfl⟩ (xaz (by decide)) ?_ ?_
    ·rintro i ys H4 hi p ⟨rfl,rfl⟩
     have a3:i<26:=hi;have er:(0+(i:Int))%2=((i%2:Nat):Int):=by omega
     have es:(0+(i:Int))-(0+(i:Int))%2=((i-i%2:Nat):Int):=by omega
     refine(xbo _ rfl _ rfl _ rfl _ _ rfl rfl (jAE (by show(0:Int)<2;decide) _ (jEAA _ rfl rfl (xal J _ _ (.str (ofL (nmA cs (c / 5%(c%5+1)).toNat (c / 125) (i-i%2)))) rfl rfl (zD hb) ?_ ?_))))
     ·rw[es]
      refine xar ?_;rw[zGM,zGM,List.getElem?_range (by omega)];rfl
     refine(xa3 _ rfl _ _ rfl rfl (jAE (by show(0:Int)<2;decide) _ (xdb _ rfl rfl (by omega) ?_)));refine(xaw _ _ rfl rfl ?_ ?_)
     ·refine fits ?_
      rw[show(ofL (nmA cs (c / 5%(c%5+1)).toNat (c / 125) (i-i%2))).length=cs.length+1 by rw[<- xf6,xej,xhk]];have:(if (0+(i:Int))%2=1 then S "q" else Str.empty).length<=1:=by split <;> decide +kernel
      show _+(if (0+(i:Int))%2=1 then S "q" else Str.empty).length<=_;omega
     refine nxt hi p ⟨rfl,?_⟩;rw[List.range_succ,zAP,zAP];congr 1;show[V.str _]=[V.str _];congr 2;apply xso;rw[xe3,xej,xej];unfold nmB;congr 1;rw[er];rcases Nat.mod_two_eq_zero_or_one i with e |e
     ·rw[e];decide +kernel
     ·rw[e];decide +kernel
    ·rintro ys H4 p ⟨rfl,rfl⟩ D4 u
     have M:=zB u (.lst (((List.range 26).map λk=>ofL (nmB cs (c / 5%(c%5+1)).toNat (c / 125) k)).map V.str));exact k D4 _ _ (m.trans (g.trans M)) (xck (m.trans g) u) ups (nmsB c4 a) (λz hz=>⟨xwg a z hz,xwf a z hz⟩) (xwh a)
def xeo:Sp:=λvs H Q _=>∃v ks x,vs=[v,.str x]/\KsSeq H v ks/\∀t pv H',Same H H'->H' t=some (.tup [.str (xgl (kAt ks x)),pv])->RelD H' pv (xnn (kAt ks x))->Q (.ref t) H'
def xg5(m:Nat):Sp:=λvs H Q _=>∃v ks x,vs=[v,.str x]/\KsSeq H v ks/\KWf ks/\KIn ks m x/\∀H',Same H H'->Q (.int (szF (m+1) ks x)) H'
theorem xb8 (T:Tx K Y):DefIs P w K Y base (n+1) "_law_sort_of" qab xeo:=by
  refine DefIs.of T.kB scl_sort_of (by walk_at"l") (λf a0 A outer s H vs Q E hr h=>?_);obtain⟨v,ks,x,rfl,⟨a,us,rfl,I,M⟩,q⟩:=h;have nd:=scl_sort_of.nd
  refine⟨_,(zpn (xca PassesOwn.never rfl (xv0 (xcd (K:=K) rfl (pv 0)) (xap (K:=K) rfl (pv 0))) (xa2 (K:=K) rfl rfl (xab (pgn 2 nd) (xab (pgn 3 nd) (xab (pgn 4 nd) xa1))))
      (zpo (xa0 (pR xa9 (pv 2) (pv 1) (nM _)) (zpo (xaj (xak (va 3 (v1 4))))) pQ)))
      (zpo (xaj (xak (zpc pS (zpc (xak pN) pN sT) zso))))),?_⟩
  have Z:=M.length;rw[zLM]at Z
  have l:∀(i:Nat) (v:V),us[i]?=some v->(ks.take i).find? (λk=>decide (k.name=x))=none->∃k b pv,ks[i]?=some k/\v=.ref b/\H b=some (.tup [.str k.name,.str k.sort,pv])/\RelD H pv (xdv k.parts):=λi v C hn=>by
    obtain⟨d,J,rd⟩:=M.get C;rw[zGM]at J;obtain⟨k,g,rfl⟩:=zMS J;obtain⟨b,ws,rfl,G,_,_,rfl,rfl,_,_,rfl,rfl,O,_,rfl,y,rfl⟩:=rd;exact(xb3 k b O g rfl G y)
  rcases I with u |u
  case' inl=>
    refine .inl (xay _ rfl a rfl ⟨_,zD u⟩ ?_);refine xgv (xs:=us) (λi σ j=>∃r o m,σ=[some (.ref a),some (.str x),r,o,m]/\j=H/\(ks.take i).find? (λk=>decide (k.name=x))=none) (xdu none none none rfl rfl rfl) (λi σ j _ p=>by obtain⟨_,_,_,_,rfl,_⟩:=p;exact zD u) ?_ ?_
  case' inr=>
    refine .inr (xay _ rfl a rfl ⟨_,zC u⟩ ?_);refine xdc (xs:=us) (λi σ j=>∃r o m,σ=[some (.ref a),some (.str x),r,o,m]/\j=H/\(ks.take i).find? (λk=>decide (k.name=x))=none) (xdu none none none rfl rfl rfl) (λi σ j _ p=>by obtain⟨_,_,_,_,rfl,_⟩:=p;exact zC u) ?_ ?_
  all_goals first
    | (rintro i v σ j C ⟨r,o,m,rfl,rfl,hn⟩
       obtain⟨k,b,pv,g,rfl,G,y⟩:=l i v C hn;refine(xai b _ rfl (zC G) rfl _ _ rfl _ (xa3 _ rfl _ _ rfl rfl ?_));refine(xay _ rfl _ rfl rfl (jEA _ rfl (ite2 (λc=>?_) (λc=>?_))))
       · have e:k.name=x:=V.str.inj (zH c)
         have e2:kAt ks x=some k:=(xdk hn g).1 (zDT e);refine(xay _ rfl _ rfl (by walk_at"s") (λt F=>?_));have st:=zB F (.tup [.str k.sort,pv]);rw[e2]at q;exact q t pv _ st ups (y.same st _)
       · have e:¬k.name=x:=λz=>c (zDT (congrArg V.str z))
         exact(xdu _ _ _ rfl rfl ((xdk hn g).2 (zDF e))))
    | (rintro σ j ⟨r,o,m,rfl,rfl,hn⟩
       rw[zTL (by omega)]at hn;rw[show kAt ks x=none from hn]at q;refine⟨(by walk_at"s"),λe he=>⟨(by walk_at"s"),λt F=>?_⟩⟩;have U:=zB he (.tup []);have st:=zB F (.tup [.str (S "num"),.ref e]);exact q t (.ref e) _ (U.trans st) ups (xaq e ([]) rfl (st _ _ ups) rfl))
theorem xnq (T:Tx K mg) (C:Sp) (a:DefIs P w K mg base n "_law_sort_of" qab xeo) (g:DefIs P w K mg base n "_law_size" qab C) (I:∀j,m=j+1->C=xg5 j) (hm:m<=6) :
  DefIs P w K mg base (n+1) "_law_size" qab (xg5 m):=by
 refine DefIs.of T.kC scl_size (by walk_at"l") (λf a3 A outer s H vs Q E hr h=>?_);obtain⟨v,ks,x,rfl,hk,wf,a1,q⟩:=h;have nd:=scl_size.nd
 refine⟨_,(zpn (xdi (pd a hr (va 0 (v1 1))) (xa2 (K:=K) rfl rfl (xab (pgn 2 nd) (xab (pgn 3 nd) xa1))))
   (zpn (xbl (i:=4) qbh [none,none,some 0] rfl (by kernel_rfl) nd rfl (by walk_at"o") (xap (K:=K) rfl (pv 3)) (λ_ _ _ _=>(xa2 (K:=K) (n:=2) rfl rfl (xab (pgc 0) (xab (pgc 1) xa1)))) (λ_ _ _ _=>xce) (λ_ _ _ _=>(pd g hr (va 2 (v1 1)))))
   (zpn (xa0 (pR xa9 (pv 2) pS (nM _)) (zpo (xaj (xat xb2 pI (xan (xsj rfl) rfl T.uB PyProof.Rows.boot_max (v1 4))))) pQ)
   (zpo (xaj (xat xb2 pI (xan (xlm rfl) rfl T.uG PyProof.Rows.boot_sum (v1 4)))))))),?_⟩
 refine(xbd _ rfl _ rfl v ks x rfl hk (λt pv H1 s1 ht rp=>?_));refine(xai t _ rfl (zC ht) rfl _ _ rfl _ (jEAA _ rfl rfl ?_))
 have a0:∃ps:List (Str×Str),xnn (kAt ks x)=xdv ps/\ps.length<=5/\(∀p∈ps,∃j,m=j+1/\KIn ks j p.2)/\(xgl (kAt ks x)=S "alt"->ps≠[]/\szF (m+1) ks x=1+maxD (ps.map λp=>szF m ks p.2)) ∧
   (xgl (kAt ks x)≠S "alt"->szF (m+1) ks x=1+(ps.map λp=>szF m ks p.2).sum):=by
  cases y:kAt ks x with
  |none=>
   refine(xbj ([]) rfl (by decide) (λ_ h=>nomatch h) (λh=>absurd h (by walk_at"k")) (λ_=>?_));unfold szF;rw[y];rfl
  | some k=>
   have l:k∈ks:=zMF y
   have u:k.name=x:=by
    have:=List.find?_some y;simpa using this
   refine(xbj k.parts rfl (wf.pts k l) (λp hp=>?_) (λh=>?_) (λh=>?_))
   ·rcases a1 with rfl |⟨j,k',hj,Y,e⟩
    ·exact absurd u (xef (wf.nm k l))
    ·have e2:kAt ks k'.name=some k':=wf.at Y
     rw[e,y]at e2;cases e2;refine(jEA (m-1) (by omega) ?_);rcases wf.ref j k Y p hp with z |⟨i,k2,hi,z⟩
     ·exact .inl z
     ·exact .inr (jEEA i k2 (by omega) z)
   ·have o:k.rc=false:=by
     cases hc:k.rc with
     |false=>rfl
     |true=>
      have:k.sort=S "alt":=h;unfold Kn.sort at this;rw[hc,if_pos rfl]at this;exact absurd this (by walk_at"k")
    refine⟨wf.alt k l o,?_⟩
    conv=>lhs;unfold szF
    rw[y];show 1+(if k.rc=true then _ else _)=_;rw[if_neg (by rw[o];decide)]
   ·have o:k.rc=true:=by
     cases hc:k.rc with
     |true=>rfl
     |false=>
      refine absurd ?_ h;show k.sort=S "alt";unfold Kn.sort;rw[hc,if_neg (by decide)]
    conv=>lhs;unfold szF
    rw[y];show 1+(if k.rc=true then _ else _)=_;rw[if_pos o]
 obtain⟨ps,a2,h5,M,Z,J⟩:=a0;rw[a2]at rp;obtain⟨e,us,rfl,he,G⟩:=rp;have hl:=G.length;rw[zLM]at hl;refine(xay _ rfl e rfl ⟨_,zC he⟩ ?_);refine xbb (xs:=us) (λi ys H'=>Same H1 H'/\ys=((ps.take i).map λp=>szF m ks p.2).map V.int) ⟨Same.refl _,rfl⟩ (xaz (by omega)) (λi ys H' _ p=>zC (p.1 _ _ he)) ?_ ?_
 ·rintro i z ys H' hz hi U ⟨F,rfl⟩
  obtain⟨d,hd,rd⟩:=G.get hz;rw[zGM]at hd;obtain⟨p,hp,rfl⟩:=zMS hd;obtain⟨b,ws,rfl,hb,_,_,rfl,rfl,_,_,rfl,rfl,rfl⟩:=rd;obtain⟨j,rfl,hj⟩:=M p (zMG hp);have D':=I j rfl;subst D';refine(xai b _ rfl (zC (F _ _ hb)) rfl _ _ rfl _ (xdb _ rfl rfl (ext2 rfl rfl) (xgx ?_)));refine(xbz _ rfl _ rfl _ ks p.2 rfl (hk.same (s1.trans F)) wf ⟨hj,λH2 s2=>nxtG hi U ⟨F.trans s2,?_⟩⟩);rw[zTA,hp];simp
 ·rintro ys H' U ⟨F,rfl⟩ D hD
  rw[zTL (by omega)];have sD:=zB hD (.lst ((ps.map λp=>szF m ks p.2).map V.int));have r:=s1.trans (F.trans sD)
  have hb:∀n∈ps.map (λp=>szF m ks p.2),0<=n/\n<=1000000:=λn hn=>by
   obtain⟨p,_,rfl⟩:=zMP hn;have h1:=xg4 wf.pts m p.2
   have h2:(6:Int) ^ m<=6 ^ 6:=by
    rcases(show m=0\/m=1\/m=2\/m=3\/m=4\/m=5\/m=6 by omega) with h |h |h |h |h |h |h <;> subst h <;> decide
   have h3:(6:Int) ^ 6=46656:=by decide
   omega
  refine(xao _ rfl rfl _ rfl (ite2 (λc=>?_) (λc=>?_)))
  ·obtain⟨O,ez⟩:=Z (V.str.inj (zH c))
   refine(xa3 _ rfl D _ rfl (zD ups) ⟨(λz=>O (List.map_eq_nil_iff.mp z)),λmx h1 h2=>(xaq _ _ rfl rfl ?_)⟩);have:=q _ r;rw[ez,<- xwn (λz=>O (List.map_eq_nil_iff.mp z)) (λn hn=>(hb n hn).1) h1 h2]at this;exact this
  ·have ez:=J (λz=>c (zDT (congrArg V.str z)))
   refine(xa3 _ rfl D _ rfl (zD ups) (jAA hb (by rw[zLM];omega) (xaq _ _ rfl rfl ?_)));have:=q _ r;rw[ez]at this;exact this
theorem xp0(T:Tx K a):∀m,m<=6->DefIs P w K a base (m+2) "_law_size" qab (xg5 m)
 |0,h=>xnq (n:=1) T (λ_ _ _ _=>False) (xb8 T) (DefIs.none T.kC λ_ _ _ _ h=>h) (λj e=>by cases e) h
 |m+1,h=>xnq (n:=m+2) T (xg5 m) (xb8 T) (xp0 T m (by omega)) (λj e=>by cases e;rfl) h
def xi1:Sp:=λvs H Q _=>∃(f l nb:Addr) (srt:Str) (p q:Int) (ws:List V) (ks:List Kn) (n4:List Str),vs=[.ref f,.ref l,.str srt,.ref nb]/\H f=some (.lst [.int p,.int q])/\H l=some (.lst ws)/\RelDs H ws (ks.map Kn.d)/\KWf ks ∧
 H nb=some (.lst (n4.map V.str))/\n4.length=4/\(srt=S "rec"\/srt=S "alt")/\l≠f/\nb≠f ∧
 ∀v ps (H':Hp),Fed f H H'->RelD H' v (xdv ps)->ps.length<=4->ps.map (·.1)=n4.take ps.length->(srt=S "alt"->ps≠[])->(∀p∈ps,KIn ks ks.length p.2)->(ps.map λp=>sz ks p.2).sum<=29->Q v H'
theorem xy1{D:Ends}{σ:St}{H:Hp}{c:Bool}{B:Prop}{i:Nat}{v x:V}(a:V->St)(f:σ.set i (some v)=a v)(e:σ=a x)(b:D.nx σ H->B)(h:∀y,(y=v\/(y=x/\c=false))->D.nx (a y) H):if c=true then tAsg (tC v) (xhr i) D σ H else B:=by
 cases c with
 |false=>exact b (by rw[e];exact h x (.inr ⟨rfl,rfl⟩))
 |true=>
  show D.nx (σ.set i (some v)) H;rw[f];exact h v (.inl rfl)
theorem and2{a:TE}{σ:St}{H:Hp}{Q:VK}{c cA:Bool}(f:Q (.bl cA) H->a σ H Q)(h:∀b:Bool,(b=true->cA=true)->Q (.bl b) H):if c=true then a σ H Q else Q (.bl false) H:=by
 cases c with
 |false=>exact h false (λe=>by cases e)
 |true=>exact f (h cA id)
theorem xns:∀{ns:List Int},(∀n∈ns,0<=n)->maxD ns<=ns.sum/\0<=ns.sum
 |[],_=>⟨Int.le_refl _,Int.le_refl _⟩
 |n::ns,h=>by
  have c:=h n (by simp);have b:=xns (ns:=ns) λm a=>h m (by simp[a]);rw[List.sum_cons];show max n (maxD ns)<=_/\_;omega
theorem xts{ks:List Kn}(wf:KWf ks){x:Str}{b:Bool}{ps:List (Str×Str)}(h:(ps.map λp=>sz ks p.2).sum<=29):inSz (Kn.mk x b ps) (sz ks)<=29:=by
 have:=xns (ns:=ps.map λp=>sz ks p.2) λn hn=>by
  obtain⟨p,_,rfl⟩:=zMP hn;have:=xzu wf p.2;omega
 unfold inSz;show(if b=true then (ps.map λp=>sz ks p.2).sum else maxD (ps.map λp=>sz ks p.2))<=29;split <;> omega
theorem xqv (T:Tx K mg) (a:DefIs P w K mg base n "_law_take" qad xc2) (c:DefIs P w K mg base n "_law_size" qab (xg5 6)):DefIs P w K mg base (n+1) "_law_parts" qap xi1:=by
  refine DefIs.of T.kE scl_parts (by walk_at"l") (λf bg A outer s H vs Q E hr h=>?_);obtain⟨J,l,nb,C,p,q,ws,ks,n4,rfl,hf,hl,a4,wf,al,h4,hs,lf,nf,k⟩:=h;have nd:=scl_parts.nd
  refine⟨_,(zpn (psn 4 nd (xbs pN))
      (zpn (psn 5 nd pI)
      (zpn (xca PassesOwn.never rfl (xep rfl T.uC (zpc (xat xb2 (xat xb2 (pd a hr (va 0 (zpc pI pN zso))) (xau xdw rfl T.k6 PyProof.Rows.boot_int (zpc (xdt xa9 (pv 2) pS (nM _)) pN xfm))) (xau xdw rfl T.k6 PyProof.Rows.boot_int (zpc (xqq (xdt xa9 (pd a hr (va 0 (zpc pI pN zso))) pI (nM _)) (xqm (xdt xa9 (pv 2) pS (nM _)))) pN xpl))) pN xa8)) (pgn 6 nd)
      (zpn (psn 7 nd (pxl K (xat xhf (xbs (zpc pS pN zso)) (xb7 ["_law_row"] [none] rfl (by kernel_rfl) (xcd (K:=K) rfl (pv 1)) (λ_ _ _ _=>(pgc 0)) (λ_ _ _ _=>xce) (λ_ _ _ _=>(px K (pv 0) pI)))) (pd a hr (va 0 (zpc (xat xb2 pI (xan (xad (K:=K) rfl) rfl T.k8 PySem.boot_len (v1 1))) pN xa8)))))
      (zpn (xa0 (pR xee (pd c hr (va 1 (v1 7))) (pv 5) (nM _)) (zpo (psn 7 nd pS)) pQ)
      (zpn (psn 5 nd (xat xc8 (pv 5) (pd c hr (va 1 (v1 7)))))
      (zpo (xba (xgn PySem.F.plainAttrs_list PySem.F.slot_list_append PySem.F.type_list_append xct (pv 4) (zpc (xak (zpc (pxl K (pv 3) (pv 6)) (v1 7) zss)) pN sT))))))))
      (zpo (xaj (xau (xbi (K:=K) rfl) rfl T.uH PyProof.Rows.boot_tuple (zpc (xcn xg9 (pv 4) xdp (xcy pI)) pN zss))))))),?_⟩
  refine⟨(by walk_at"s"),λpl a8=>?_⟩;have s0:=zB a8 (.lst []);have M:pl≠J:=Ne.symm (neN hf a8);have a2:=wf.few;have ah:=a4.length;rw[zLM]at ah;refine(xaa _ rfl J p q 4 rfl (s0 _ _ hf) (by decide) (by decide) (λr1 H1 ba b9 f1=>?_));obtain⟨p1,q1,h1⟩:=f1.2;have F1:Fed J H H1:=⟨s0.but.trans f1.1,f1.2⟩;have as:H1 pl=some (.lst []):=f1.1 _ _ ups M
  have b5:∃cA cB:Bool,decide (V.str C=V.str (S "rec"))=cA/\decide (V.str C=V.str (S "alt"))=cB/\0<=(if cA=true then (1:Int) else 0)/\0<=(if cB=true then (1:Int) else 0)/\(if cA=true then (1:Int) else 0)+(if cB=true then (1:Int) else 0)<=1/\(C=S "alt"->(if cB=true then (1:Int) else 0)=1):=by
    rcases hs with rfl |rfl
    · exact(xaw true false (by walk_at"k") (by walk_at"k") (by decide) (jAA (by decide) (by decide) (λe=>absurd e (by walk_at"k"))))
    · exact(xaw false true (by walk_at"k") (by walk_at"k") (by decide) (jAA (by decide) (by decide) (λ_=>rfl)))
  obtain⟨cA,cB,eA,eB,b3,bf,be,b2⟩:=b5;refine(jEAA _ rfl rfl (.inr (xa3 cB (congrArg (λb=>[V.bl b]) eB) r1 (if cB=true then 1 else 0) rfl rfl ?_)));refine(xaa _ rfl J p1 q1 9 rfl h1 (by decide) (by decide) (λr2 H2 b8 b7 f2=>(jAEA rfl _ rfl (and2 (cA:=decide (V.str C=V.str (S "rec"))) (λz=>(jEAA _ rfl rfl z)) (λb hb=>?_)))));rw[eA]at hb
  have bd:0<=(if b=true then (1:Int) else 0)/\(if b=true then (1:Int) else 0)<=(if cA=true then (1:Int) else 0):=by
    cases b with
    |false=>exact⟨Int.le_refl _,b3⟩
    |true=>rw[hb rfl];exact⟨by decide,by decide⟩
  refine .inr (xbe b rfl _ (if b=true then 1 else 0) rfl rfl _ rfl (jAA (by omega) (by omega) ?_))
  all_goals
      have F2:Fed J H H2:=F1.trans f2;have ar:H2 pl=some (.lst []):=f2.1 _ _ as M
      refine xhs (λi σ H'=>∃us,∃ps:List (Str×Str),∃left o6 o7,σ=[some (.ref J),some (.ref l),some (.str _),some (.ref nb),some (.ref pl),some (.int left),o6,o7]/\Fed J H H'/\H' pl=some (.lst us)/\RelDs H' us (ps.map xe4)/\ps.length=i/\ps.map (·.1)=n4.take i/\(∀p∈ps,KIn ks ks.length p.2)/\(ps.map λp=>sz ks p.2).sum+left=25/\-(i:Int)<=left)
        (xag ([]) ([]) 25 none none rfl F2 ar rfl rfl (jAAA rfl (λ_ h=>nomatch h) rfl (by decide))) ?_ ?_
      · rintro i σ H3 hi ⟨us,ps,left,o6,o7,rfl,F,a6,I,g,a7,ab,aj,a9⟩
        have bc:i<4:=by omega
        obtain⟨p3,q3,h3⟩:=F.2;have aa:=F.1 l _ hl lf;have bb:=F.1 nb _ al nf;have ag:=a4.tups (xah (jEE p q hf) F) _;refine⟨(by walk_at"s"),λl1 aw=>?_⟩;have U:=zB aw (.lst [.str (S "num")]);refine(xay _ rfl l rfl ⟨_,zD (U _ _ aa)⟩ ?_);refine xhx (j:=0) (xs:=ws) (λi ys H'=>H'=upd H3 l1 (.lst [.str (S "num")])/\ys=((ks.take i).map Kn.name).map V.str) (by rfl) ⟨rfl,rfl⟩ (xaz (by omega)) (λi ys H' _ p=>by obtain⟨rfl,_⟩:=p;exact zD (U _ _ aa)) ?_ ?_
        · rintro i' x ys H' hx am ⟨rfl,rfl⟩
          obtain⟨d,hd,rd⟩:=(ag.same U _).get hx;rw[zGM]at hd;obtain⟨k',ay,rfl⟩:=zMS hd;obtain⟨b,b6,rfl,hb,_,_,rfl,rfl,_,_,rfl,rfl,v3,_,rfl,r3,rfl⟩:=rd;have az:i'<ws.length:=(zES hx).1;refine(xaa _ rfl b _ _ _ rfl rfl (zC hb) rfl (nxt az am ⟨rfl,?_⟩));rw[zTA,ay];simp
        rintro ys H' am ⟨rfl,rfl⟩ D2 b4;rw[zTL (by omega)];have s2:=zB b4 (.lst ((ks.map Kn.name).map V.str));refine(xbp l1 D2 _ _ rfl rfl (s2 _ _ ups) ups (fits (by rw[zLM,zLM];show 1+_<=_;omega)) (λl3 a0=>?_));have s3:=zB a0 (.lst ([.str (S "num")]++(ks.map Kn.name).map V.str));have u:=U.trans (s2.trans s3);have aq:l3≠J:=Ne.symm (neN (s2 _ _ (U _ _ h3)) a0);refine(xb4 _ rfl _ rfl l _ rfl (.inl (zD (u _ _ aa))) _ (jEAA _ rfl rfl ?_));refine(xal J p3 q3 _ rfl (u _ _ h3) (by omega) (by omega) (λr H4 r0 ac f4=>?_));rw[ah]at ac;obtain⟨x,hx,Z⟩:=xjh r0 ac;have an:H4 l3=some (.lst ([.str (S "num")]++(ks.map Kn.name).map V.str)):=f4.1 _ _ ups aq;refine(xal l3 _ _ _ rfl rfl (zD an) hx ?_);have F4:Fed J H H4:=(F.same u).trans f4;have m:=f4.1 _ _ (u _ _ a6) M;have ai:=(I.same u _).tups (xah (jEE p3 q3 (u _ _ h3)) f4) _;have av:=F4.1 l _ hl lf;have au:=F4.1 nb _ al nf;have af:=a4.tups (xah (jEE p q hf) F4) _;have O:KsSeq H4 (.ref l) ks:=(xaq l ws rfl (.inl av) af);refine(xbz _ rfl _ rfl _ ks x rfl O wf ⟨Z.mono a2,λH5 s5=>(xbe _ rfl _ _ rfl rfl _ rfl (xy1 (x:=.str x) (λy=>[some (.ref J),some (.ref l),some (.str C),some (.ref nb),some (.ref pl),some (.int left),some (.int (0+(i:Int))),some y]) rfl rfl id (λy hy=>?_)))⟩)
        obtain⟨Y,rfl,ae,ax⟩:∃Y,y=.str Y/\KIn ks ks.length Y/\-((i:Int)+1)<=left-sz ks Y:=by
          rcases hy with rfl |⟨rfl,b0⟩
          · exact ⟨S "num", rfl, .inl rfl, by have h1:sz ks (S "num") = 1 := xxs wf
                                              omega⟩
          · refine(jEAA _ rfl Z ?_)
            have h0:¬left<sz ks x:=of_decide_eq_false b0;omega
        · refine(xbg _ rfl _ rfl _ rfl _ ks (xbj Y rfl (O.same s5) wf (ae.mono a2) (λH6 s6=>(xaq _ _ rfl rfl ?_))))
          have a3:=s5.trans s6;have ak:=a3 _ _ m;have a1:i<n4.length:=by omega
          refine(xao _ rfl (.inl (jAE rfl _ (zD ak))) _ rfl (xaa _ rfl nb _ _ _ rfl rfl (zD (a3 _ _ au)) (xm9 a1) (jEAA _ rfl (by walk_at"s") (λt ht=>?_))));have G:∀o,Same H4 (upd H6 t o):=λo=>a3.trans (zB ht o);have a5:=I.length;rw[zLM]at a5;refine(xa5 pl us _ rfl rfl (G _ _ _ m) (xaz (by omega)) ?_);refine(xag _ (ps++[(n4[i],Y)]) _ _ _ rfl (Fed.put (F4.same (G _)) a8 M _) ups ?_ (by rw[zLA,List.length_singleton,g]) (jAAA ?_ (λz hz=>?_) ?_ (by push_cast;exact ax)))
          · rw[zAP]
            refine RelDs.append ((ai.same (G _) _).tups (xbk (G _ _ _ m) _) _) ?_;exact(xaq _ ([]) rfl (xac t _ rfl (xbk (G _ _ _ m) _ _ _ ups) _ _ rfl rfl _ (jEAA _ rfl rfl rfl)) rfl)
          · rw[zAP,a7,zTA,zGA a1]
            rfl
          · rcases zMA hz with hz |hz
            · exact ab z hz
            · rw[zMO hz];exact ae
          · show((ps++[(n4[i],Y)]).map λp=>sz ks p.2).sum+(left-sz ks Y)=25
            rw[zAP,List.sum_append];simp only[List.map_cons,List.map_nil,List.sum_cons,List.sum_nil];omega
      · rintro σ H3 ⟨us,ps,left,o6,o7,rfl,F,a6,I,g,a7,ab,aj,a9⟩
        have a5:=I.length;rw[zLM]at a5;refine(xbf _ rfl _ rfl pl us rfl (zD a6) (λc2 b1=>?_))
        have ao:cutV us none (some 4)=us:=by
          unfold cutV;rw[show HT.sIx us.length 0 none=0 from rfl,List.drop_zero,Nat.sub_zero];refine zTL ?_;unfold HT.sIx;simp;omega
        have U:=zB b1 (.lst (cutV us none (some 4)));refine(jEEA c2 _ rfl (.inl ⟨zD ups,λt ht=>?_⟩));have s2:=zB ht (.tup (cutV us none (some 4)));refine k _ ps _ (F.same (U.trans s2)) (xaq t us rfl (by rw[ao];exact ups) (I.same (U.trans s2) _)) (by omega) (by rw[g];exact a7) ?_ ab (by omega);intro ha e;have h9:=b2 ha;rw[e]at g;simp only[List.length_nil]at g;omega
def xps:Sp:=λvs H Q _=>∃(f nb:Addr) (p q:Int) (nms:List Str),vs=[.ref f,.ref nb]/\H f=some (.lst [.int p,.int q])/\H nb=some (.lst (nms.map V.str))/\xmz nms/\nb≠f/\∀v ks (H':Hp),Fed f H H'->RelD H' v (xbx ks)->xua nms ks->Fit ks->Q v H'
theorem xqx(T:Tx K mg)(a:DefIs P w K mg base n "_law_take" qad xc2)(g:DefIs P w K mg base n "_law_parts" qap xi1):DefIs P w K mg base (n+1) "_law_kinds" qbb xps:=by
 refine DefIs.of T.kF scl_kinds (by walk_at"l") (λf aq A outer s H vs Q E hr h=>?_);obtain⟨G,nb,p,q,j,rfl,hf,ag,J,nf,k⟩:=h;have nd:=scl_kinds.nd
 refine⟨_,(zpn (psn 2 nd (xbs pN))
   (zpn (xca PassesOwn.never rfl (xep rfl T.uC (zpc (pd a hr (va 0 (zpc pI pN zso))) pN zsc)) (pgn 3 nd)
   (zpn (psn 4 nd (pxl K (xbs (zpc pS (zpc pS pN zso) zso)) (pd a hr (va 0 (zpc pI pN zso)))))
   (zpo (xba (xgn PySem.F.plainAttrs_list PySem.F.slot_list_append PySem.F.type_list_append xct (pv 2) (zpc (xak (zpc (pxl K (pv 1) (pv 3)) (va 4 (zpc (pd g hr (va 0 (va 2 (va 4 (zpc (xcn xg9 (pv 1) (xcy pI) (xcy pI)) pN zss))))) pN zsc)) zss)) pN sT))))))
   (zpo (xaj (xau (xbi (K:=K) rfl) rfl T.uH PyProof.Rows.boot_tuple (v1 2)))))),?_⟩
 refine⟨(by walk_at"s"),λl hl=>?_⟩;have s0:=zB hl (.lst []);have lf:l≠G:=Ne.symm (neN hf hl);have a0:=J.1;refine(xaa _ rfl G p q 5 rfl (s0 _ _ hf) (by decide) (by decide) (λr1 H1 al ak f1=>(xdb _ rfl (by omega) (by omega) ?_)));have F1:Fed G H H1:=⟨s0.but.trans f1.1,f1.2⟩;have af:H1 l=some (.lst []):=f1.1 _ _ ups lf
 refine xhs (λi σ H'=>∃us,∃ks:List Kn,∃o3 o4,σ=[some (.ref G),some (.ref nb),some (.ref l),o3,o4]/\Fed G H H'/\H' l=some (.lst us)/\RelDs H' us (ks.map Kn.d)/\ks.length=i/\Fit ks/\xua j ks)
  (xbq ([]) ([]) none none rfl F1 af rfl rfl Fit.nil (jAAA KWf.nil (zY _) rfl (λ_ h=>nomatch h))) ?_ ?_
 ·rintro i σ H2 hi ⟨us,ks,o3,o4,rfl,F,a3,I,M,C,wf,an,ai,ah⟩
  have ao:i<4:=by omega
  have ac:=I.length;rw[zLM]at ac;obtain⟨p2,q2,h2⟩:=F.2;refine⟨(by walk_at"s"),λl1 a7=>?_⟩;have U:=zB a7 (.lst [.str (S "rec"),.str (S "alt")]);have aa:l1≠G:=Ne.symm (neN h2 a7);refine(xaa _ rfl G p2 q2 2 rfl (U _ _ h2) (by decide) (by decide) (λr H3 r0 am f3=>?_))
  have ab:∃b:Str,atI [V.str (S "rec"),V.str (S "alt")] r=some (.str b)/\(b=S "rec"\/b=S "alt"):=by
   rcases(show r=0\/r=1 by omega) with rfl |rfl
   ·exact(jEA (S "rec") rfl (.inl rfl))
   ·exact(jEA (S "alt") rfl (.inr rfl))
  obtain⟨b,aj,u⟩:=ab;refine(xal l1 _ _ _ rfl rfl (zD (f3.1 _ _ ups aa)) aj ?_);have F3:Fed G H H3:=(F.same U).trans f3;obtain⟨p3,q3,h3⟩:=f3.2;have y:=f3.1 _ _ (U _ _ a3) lf;have Y:=(I.same U _).tups (xah (jEE p2 q2 (U _ _ h2)) f3) _;have a6:=F3.1 nb _ ag nf;have O:i<j.length:=by omega
  refine(xao _ rfl (.inl (jAE rfl _ (zD y))) _ rfl (xaa _ rfl nb _ _ _ rfl rfl (zD a6) (xm9 O) (jEA _ rfl ?_)));refine(xa4 _ rfl _ rfl _ rfl _ rfl _ rfl (xa3 _ rfl nb _ rfl (zD a6) (λc hc=>?_)));rw[xu6 a0];have sc:=zB hc (.lst (((j.drop 8).take 4).map V.str));have cf:c≠G:=Ne.symm (neN h3 hc);refine(xas G l c b p3 (xbq q3 us ks ((j.drop 8).take 4) rfl (sc _ _ h3) (sc _ _ y) (Y.same sc _) wf ups (jAAA (by rw[List.length_take,List.length_drop,a0];rfl) u lf ⟨cf,λv ps H4 f4 rv h4 a2 a8 Z a5=>?_⟩)));have F4:Fed G H H4:=(F3.same sc).trans f4;have m:=f4.1 _ _ (sc _ _ y) lf;have a4:=(Y.same sc _).tups (xah (jEE p3 q3 (sc _ _ h3)) f4) _;refine⟨(by walk_at"s"),λt ht=>?_⟩;have s5:∀o,Same H4 (upd H4 t o):=λo=>zB ht o;refine(xa5 l us _ rfl rfl (s5 _ _ _ m) (xaz (by omega)) ?_);have a9:=xyf J ps.length
  have a1:(Kn.mk j[i] (decide (b=S "rec")) ps).sort=b:=by
   unfold Kn.sort;rcases u with rfl |rfl
   ·rfl
   ·show(if decide (S "alt"=S "rec")=true then _ else _)=_
    rw[if_neg (by walk_at"k")]
  have x:ks.map Kn.name=j.take i:=by rw[ai,M]
  have w2:KWf (ks++[Kn.mk j[i] (decide (b=S "rec")) ps]):=by
   refine wf.snoc ?_ (J.2.2 _ (zZ O)) Z ?_ (by omega) (by show ps.length<=5;omega) (by show(ps.map (·.1)).Nodup;rw[a2];exact a9.1) (λz hz=>a9.2 z.1 (by rw[<- a2];exact zQ hz))
   ·show j[i] ∉ks.map Kn.name
    rw[x];exact xq3 J.2.1 O
   ·intro ae
    refine a8 ?_;rcases u with e |e
    ·exact absurd ae (by show ¬decide (b=S "rec")=false;rw[e];decide +kernel)
    ·exact e
  refine(xbq _ (ks++[Kn.mk j[i] (decide (b=S "rec")) ps]) _ _ rfl (Fed.put (F4.same (s5 _)) hl lf _) ups ?_ (by rw[zLA,List.length_singleton,M]) (C.snoc wf w2 Z (xts wf a5)) ?_)
  ·rw[zAP]
   refine RelDs.append ((a4.same (s5 _) _).tups (xbk (s5 _ _ _ m) _) _) ?_;refine(xaq _ ([]) rfl (xac t _ rfl (xbk (s5 _ _ _ m) _ _ _ ups) _ _ rfl rfl _ (xbh _ rfl ?_ _ _ rfl ((rv.same (s5 _) _).tups (xbk (s5 _ _ _ m) _) _) rfl)) rfl);show V.str b=V.str _;rw[a1]
  ·refine(jAAA w2 (by rw[zLA,List.length_singleton];omega) ?_ ?_)
   ·rw[zAP,x,zLA,List.length_singleton,M,zTA,zGA O]
    rfl
   ·intro z hz
    rcases zMA hz with hz |hz
    ·exact ah z hz
    ·rw[zMO hz]
     exact⟨h4,a2⟩
 ·rintro σ H2 ⟨us,ks,o3,o4,rfl,F,a3,I,M,C,hK⟩
  refine(xe9 _ rfl l us rfl (.inl ⟨zD a3,λt ht=>?_⟩));have U:=zB ht (.tup us);exact k _ ks _ (F.same U) (xaq t us rfl ups (I.same U _)) hK C
def xh9:Sp:=λvs H Q _=>∃(a:Addr) (p q:Int),vs=[.ref a]/\H a=some (.lst [.int p,.int q])/\∀(i:Int) (H':Hp),Nm i->Fed a H H'->Q (.int i) H'
theorem xid(T:Tx K x)(b:DefIs P w K x base n "_law_take" qad xc2):DefIs P w K x base (n+1) "_law_number" qaj xh9:=by
 refine DefIs.of T.kA scl_number (λvs H Q E h=>?_) (λf G A outer s H vs Q E j h=>?_)
 ·obtain⟨a,p,q,rfl,_⟩:=h
  rfl
 obtain⟨a,p,q,rfl,F,k⟩:=h;have nd:=scl_number.nd;have J:(2:Int) ^ (32:Int).toNat=4294967296:=by decide
 refine⟨_,(zpn (psn 1 nd (pd b j (va 0 (zpc pI pN zso))))
   (zpn (xa0 (pR xkj (pv 1) pI (nM _)) (zpo (xaj (pd b j (va 0 (zpc pI pN zso))))) pQ)
   (zpn (xa0 (pR xa9 (pv 1) pI (nM _)) (zpo (xaj (xat xc8 (xat xc8 (xat xqu pI pI) pI) (pd b j (va 0 (zpc pI pN zso)))))) pQ)
   (zpo (xaj (pd b j (va 0 (zpc (xat xqu pI pI) pN xa8)))))))),?_⟩
 refine(xaa _ rfl a p q 4 rfl F (by decide) (by decide) (λI M C z l=>?_));obtain⟨o,m,r⟩:=l.2;refine(xbe _ rfl _ _ rfl rfl _ rfl ?_);refine ite2 (λc=>?_) (λc=>?_)
 ·exact(xaa _ rfl a o m 6 rfl r (by decide) (by decide) (λu y e g i=>k _ _ ⟨e,by omega⟩ (l.trans i)))
 refine(xao _ rfl rfl _ rfl ?_);refine ite2 (λc=>?_) (λc=>?_)
 ·refine(xaw _ _ rfl rfl (jAA (by decide) (by decide) (by decide)) (xaq _ _ rfl rfl (xaa _ rfl a o m 6 rfl r (by decide) (by decide) (λu y e g i=>(xaq _ _ rfl rfl (k _ _ ⟨by omega,by omega⟩ (l.trans i)))))))
 ·refine(xa3 _ rfl _ _ rfl rfl (jAE (jAA (by decide) (by decide) (by decide)) a (xa5 o m _ rfl r (by omega) (by omega) (λu y e g i=>k _ _ ⟨e,by omega⟩ (l.trans i)))))
def xc3:Sp:=λvs H Q _=>∃v ks x,vs=[v,.str x]/\KsAt H v ks/\Q (xvr (kAt ks x)) H
def xcj:Sp:=λvs H Q _=>∃v ks x,vs=[v,.str x]/\KsAt H v ks/\∀u H',Same H H'->RelD H' u (xnn (kAt ks x))->Q u H'
theorem xd6(T:Tx K C):DefIs P w K C base (n+1) "sort_of" qac xc3:=by
 refine DefIs.of T.jB sc_sort_of (by walk_at"l") (λf O A outer s H vs Q E Z h=>?_);obtain⟨v,ks,x,rfl,I,q⟩:=h;have nd:=sc_sort_of.nd
 refine⟨_,(zpn (xca PassesOwn.never rfl (xap (K:=K) rfl (pv 0)) (xa2 (K:=K) rfl rfl (xab (pgn 2 nd) (xab (pgn 3 nd) (xab (pgn 4 nd) xa1))))
   (zpo (xa0 (pR xa9 (pv 2) (pv 1) (nM _)) (zpo (xaj (pv 3))) pQ)))
   (zpo (xaj xc5))),?_⟩
 obtain⟨a,us,rfl,u,y⟩:=I.1;refine(xay _ rfl a rfl ⟨_,zC u⟩ ?_);have G:=y.length;rw[zLM]at G;refine xdc (xs:=us) (λi σ j=>∃o m l,σ=[some (.ref a),some (.str x),o,m,l]/\j=H/\(ks.take i).find? (λk=>decide (k.name=x))=none) (xdu none none none rfl rfl rfl) (λi σ j _ p=>?_) ?_ ?_
 ·obtain⟨_,_,_,_,rfl,_⟩:=p
  exact zC u
 ·rintro i v σ j F ⟨o,m,l,rfl,rfl,hn⟩
  obtain⟨d,r,rd⟩:=y.get F;rw[zGM]at r;obtain⟨k,g,rfl⟩:=zMS r;obtain⟨b,ws,rfl,J,_,_,rfl,rfl,_,_,rfl,rfl,U,_,rfl,Y,rfl⟩:=rd;refine(xai b _ rfl (zC J) rfl _ _ rfl _ (xa3 _ rfl _ _ rfl rfl ?_));refine(xay _ rfl _ rfl rfl (jEA _ rfl (ite2 (λc=>?_) (λc=>?_))))
  ·have e:k.name=x:=V.str.inj (zH c)
   have M:kAt ks x=some k:=(xdk hn g).1 (zDT e);refine(jEA _ rfl ?_);rw[M]at q;exact q
  ·have e:¬k.name=x:=λz=>c (zDT (congrArg V.str z))
   exact(xdu _ _ _ rfl rfl ((xdk hn g).2 (zDF e)))
 ·rintro σ j ⟨o,m,l,rfl,rfl,hn⟩
  rw[zTL (by omega)]at hn;rw[show kAt ks x=none from hn]at q;exact q
theorem xda(T:Tx K F):DefIs P w K F base (n+1) "parts_of" qac xcj:=by
 refine DefIs.of T.jC sc_parts_of (by walk_at"l") (λf Y A outer s H vs Q E hr h=>?_);obtain⟨v,ks,x,rfl,M,q⟩:=h;have nd:=sc_parts_of.nd
 refine⟨_,(zpn (xca PassesOwn.never rfl (xap (K:=K) rfl (pv 0)) (xa2 (K:=K) rfl rfl (xab (pgn 2 nd) (xab (pgn 3 nd) (xab (pgn 4 nd) xa1))))
   (zpo (xa0 (pR xa9 (pv 2) (pv 1) (nM _)) (zpo (xaj (pv 4))) pQ)))
   (zpo (xaj (xak pN)))),?_⟩
 obtain⟨a,us,rfl,u,y⟩:=M.1;refine(xay _ rfl a rfl ⟨_,zC u⟩ ?_);have J:=y.length;rw[zLM]at J;refine xdc (xs:=us) (λi σ j=>∃o m l,σ=[some (.ref a),some (.str x),o,m,l]/\j=H/\(ks.take i).find? (λk=>decide (k.name=x))=none) (xdu none none none rfl rfl rfl) (λi σ j _ p=>?_) ?_ ?_
 ·obtain⟨_,_,_,_,rfl,_⟩:=p
  exact zC u
 ·rintro i v σ j G ⟨o,m,l,rfl,rfl,hn⟩
  obtain⟨d,r,rd⟩:=y.get G;rw[zGM]at r;obtain⟨k,g,rfl⟩:=zMS r;obtain⟨b,ws,rfl,O,_,_,rfl,rfl,_,_,rfl,rfl,Z,_,rfl,C,rfl⟩:=rd;refine(xai b _ rfl (zC O) rfl _ _ rfl _ (xa3 _ rfl _ _ rfl rfl ?_));refine(xay _ rfl _ rfl rfl (jEA _ rfl (ite2 (λc=>?_) (λc=>?_))))
  ·have e:k.name=x:=V.str.inj (zH c)
   have U:kAt ks x=some k:=(xdk hn g).1 (zDT e);refine(jEA _ rfl ?_);rw[U]at q;exact q _ _ (Same.refl _) C
  ·have e:¬k.name=x:=λz=>c (zDT (congrArg V.str z))
   exact(xdu _ _ _ rfl rfl ((xdk hn g).2 (zDF e)))
 ·rintro σ j ⟨o,m,l,rfl,rfl,hn⟩
  rw[zTL (by omega)]at hn;rw[show kAt ks x=none from hn]at q;exact⟨(by walk_at"s"),λp I=>q _ _ (zB I _) (xaq p ([]) rfl ups rfl)⟩
theorem xaf{t u:TS}{D:Ends}{σ:St}{H:Hp}(h:∀R:St->Hp->Prop,(∀σ H,u D σ H->R σ H)->t {D with nx:=R} σ H):tSeq t u D σ H:=h (u D) λ_ _ h=>h
theorem xc4{k:Kn}(h:k.rc=true):k.sort=S "rec":=by unfold Kn.sort;rw[if_pos h]
theorem xc6{k:Kn}(h:k.rc=false):k.sort=S "alt":=by unfold Kn.sort;rw[if_neg (by rw[h];decide)]
theorem xtr{c:Bool}{A B:Prop}(h:c=true)(a:A):if c=true then A else B:=by rw[if_pos h];exact a
def spSm(F:List Kn->Str->Int)(m:Nat):Sp:=λvs H Q _=>∃v ks x,vs=[v,.str x]/\RelD H v (xbx ks)/\KWf ks/\KIn ks m x/\∀H',Same H H'->Q (.int (F ks x)) H'
theorem xkl (T:Tx K mg) (M:Sp) (g:DefIs P w K mg base n "_law_sort_of" qab xeo) (c:DefIs P w K mg base n "_law_small" qab M) (Y:∀j,m=j+1->M=spSm smK j) :
  DefIs P w K mg base (n+1) "_law_small" qab (spSm smK m):=by
 refine DefIs.of T.kD scl_small (by walk_at"l") (λf a3 A outer s H vs Q E hr h=>?_);obtain⟨v,ks,x,rfl,hk,wf,a0,q⟩:=h;have nd:=scl_small.nd
 refine⟨_,(zpn (xdi (pd g hr (va 0 (v1 1))) (xa2 (K:=K) rfl rfl (xab (pgn 2 nd) (xab (pgn 3 nd) xa1))))
   (zpn (xa0 (pR xa9 (pv 2) pS (nM _)) (zpo (xaj (xat xb2 pI (pd c hr (va 0 (zpc (px K (px K (pv 3) pI) pI) pN zss)))))) pQ)
   (zpo (xaj (xat xb2 pI (xan (xlm rfl) rfl T.uG PyProof.Rows.boot_sum (zpc (xb7 qbh [none,none,some 0] rfl (by kernel_rfl) (xap (K:=K) rfl (pv 3)) (λ_ _ _ _=>(xa2 (K:=K) (n:=2) rfl rfl (xab (pgc 0) (xab (pgc 1) xa1)))) (λ_ _ _ _=>xce) (λ_ _ _ _=>(pd c hr (va 2 (v1 1))))) pN xdh))))))),?_⟩
 refine(xbd _ rfl _ rfl v ks x rfl ((wf.ksAt hk).seq) (λt a2 H1 O ht I=>?_));refine(xai t _ rfl (zC ht) rfl _ _ rfl _ (jEAA _ rfl rfl ?_));rcases a0.look wf with⟨rfl,o⟩ |⟨j,k,rfl,o,hn,hm,hp⟩
 ·refine(xao _ rfl rfl _ rfl (iteKF (zDF (by rw[o];decide +kernel)) ?_))
  rw[o]at I;obtain⟨a,us,rfl,J,l⟩:=I;obtain rfl:us=[]:=l;refine(xay _ rfl a rfl ⟨_,zC J⟩ ?_);refine xbb (xs:=[]) (λi ys C=>C=H1/\ys=[]) ⟨rfl,rfl⟩ (xaz (by decide)) (λi ys C _ p=>by obtain⟨rfl,_⟩:=p;exact zC J) (λi y ys C hy=>by simp at hy) ?_;rintro ys C G ⟨rfl,rfl⟩ D hD;refine(xaw D ([]) rfl (zD ups) (λ_ h=>nomatch h) (jAE (by decide) _ (jEAA _ rfl rfl ?_)));have e:=(xpz wf).1;rw[e]at q;exact q _ (O.trans (zB hD _))
 ·have D':=Y j rfl
  subst D';rw[o]at I;obtain⟨a,us,rfl,J,l⟩:=I;have hl:=l.length;rw[zLM]at hl;have h5:=wf.pts k hm;have U:xgl (kAt ks x)=k.sort:=by rw[o];rfl
  have e:=(xxx wf o).1;unfold smS at e
  cases hc:k.rc with
  | false=>
   rw[if_neg (by rw[hc];decide)]at e;refine(xao _ rfl rfl _ rfl (iteKT (zDT (by rw[U,xc6 hc];rfl)) ?_))
   cases F:k.parts with
   |nil=>exact absurd F (wf.alt k hm hc)
   |cons p r=>
    rw[F]at l e;obtain⟨vp,rest,rfl,I,_⟩:=l;obtain⟨b,ws,rfl,hb,_,_,rfl,rfl,_,_,rfl,rfl,rfl⟩:=I;refine(xa6 _ rfl _ rfl a _ _ (xbj _ rfl rfl (zC J) (xar (j:=0) rfl) (xal b _ _ _ rfl rfl (zC hb) rfl ?_)));refine(xa5 v ks p.2 rfl (hk.same O _) wf (hp p (by rw[F];simp)) (λH2 s2=>(xaq _ _ rfl rfl ?_)));rw[e]at q;exact q _ (O.trans s2)
  | true=>
   rw[if_pos hc]at e;refine(xao _ rfl rfl _ rfl (iteKF (zDF (by rw[U,xc4 hc];decide +kernel)) ?_));refine(xay _ rfl a rfl ⟨_,zC J⟩ ?_);refine xbb (xs:=us) (λi ys C=>Same H1 C/\ys=((k.parts.take i).map λp=>smK ks p.2).map V.int) ⟨Same.refl _,rfl⟩ (xaz (by omega)) (λi ys C _ p=>zC (p.1 _ _ J)) ?_ ?_
   ·rintro i y ys C hy a1 G ⟨u,rfl⟩
    obtain⟨d,hd,rd⟩:=l.get hy;rw[zGM]at hd;obtain⟨pr,Z,rfl⟩:=zMS hd;obtain⟨b,ws,rfl,hb,_,_,rfl,rfl,_,_,rfl,rfl,rfl⟩:=rd;refine(xai b _ rfl (zC (u _ _ hb)) rfl _ _ rfl _ (xdb _ rfl rfl (ext2 rfl rfl) (xgx ?_)));refine(xbz _ rfl _ rfl v ks pr.2 rfl (hk.same (O.trans u) _) wf ⟨hp pr (zMG Z),λH2 s2=>nxtG a1 G ⟨u.trans s2,?_⟩⟩);rw[zTA,Z,zAP,zAP];rfl
   ·rintro ys C G ⟨u,rfl⟩ D hD
    rw[zTL (by omega)];refine(xaw D (k.parts.map λp=>smK ks p.2) rfl (zD ups) (λz hz=>?_) (jAE (by rw[zLM];omega) _ (jEAA _ rfl rfl ?_)))
    ·obtain⟨p,_,rfl⟩:=zMP hz
     have:=xni wf p.2;omega
    ·rw[e]at q
     exact q _ (O.trans (u.trans (zB hD _)))
theorem xi4(T:Tx K a):∀m,DefIs P w K a base (m+2) "_law_small" qab (spSm smK m)
 |0=>xkl (n:=1) T (λ_ _ _ _=>False) (xb8 T) (DefIs.none T.kD λ_ _ _ _ h=>h) (λj e=>by cases e)
 |m+1=>xkl (n:=m+2) T (spSm smK m) (xb8 T) (xi4 T m) (λj e=>by cases e;rfl)
def xsz:Sp:=λvs H Q _=>∃(f ka:Addr) (p q:Int) (us:List V) (ks:List Kn),vs=[.ref f,.ref ka]/\H f=some (.lst [.int p,.int q])/\(H ka=some (.lst us)\/H ka=some (.tup us))/\RelDs H us (ks.map Kn.d)/\ks.length<=6/\∀x H',KIn ks ks.length x->Fed f H H'->Q (.str x) H'
theorem xkn(T:Tx K mg)(c:DefIs P w K mg base n "_law_take" qad xc2):DefIs P w K mg base (n+1) "_law_any_kind" qan xsz:=by
 refine DefIs.of T.kL scl_any_kind (by walk_at"l") (λf a3 A outer s H vs Q E hr h=>?_);obtain⟨f',ka,p1,q1,us,ks,rfl,U,a,G,a2,q⟩:=h;have nd:=scl_any_kind.nd;refine(jEA _ (zpo (xaj (pxl K (xat xhf (xbs (zpc pS pN zso)) (xb7 ["_law_row"] [none] rfl (by kernel_rfl) (xv0 (xcd (K:=K) rfl (pv 1)) (xap (K:=K) rfl (pv 1))) (λ_ _ _ _=>(pgc 0)) (λ_ _ _ _=>xce) (λ_ _ _ _=>(px K (pv 0) pI)))) (pd c hr (va 0 (zpc (xat xb2 pI (xan (xad (K:=K) rfl) rfl T.k8 PySem.boot_len (v1 1))) pN xa8)))))) ?_);refine⟨(by walk_at"s"),λl2 a1=>?_⟩;have o:=zB a1 (.lst [.str (S "num")]);have I:=G.length;rw[zLM]at I;rcases a with a |a
 ·refine .inl (xay _ rfl ka rfl ⟨_,zD (o _ _ a)⟩ ?_)
  refine xhx (j:=0) (xs:=us) (λi ys u=>u=upd H l2 (.lst [.str (S "num")])/\ys=((ks.take i).map Kn.name).map V.str) (by rfl) ⟨rfl,rfl⟩ (xaz (by omega)) (λi ys u _ p=>by obtain⟨rfl,_⟩:=p;exact zD (o _ _ a)) ?_ ?_
  ·rintro i' x ys u r l ⟨rfl,rfl⟩
   obtain⟨d,Z,rd⟩:=(G.same o _).get r;rw[zGM]at Z;obtain⟨k',J,rfl⟩:=zMS Z;obtain⟨b,a0,rfl,hb,_,_,rfl,rfl,_,_,rfl,rfl,v3,_,rfl,r3,rfl⟩:=rd;have M:i'<us.length:=(zES r).1;refine(xaa _ rfl b _ _ _ rfl rfl (zC hb) rfl (nxt M l ⟨rfl,?_⟩));rw[zTA,J];simp
  rintro ys u l ⟨rfl,rfl⟩ D2 O;rw[zTL (by omega)];have y:=zB O (.lst ((ks.map Kn.name).map V.str));refine(xbp l2 D2 _ _ rfl rfl (y _ _ ups) ups (fits (by rw[zLM,zLM];show 1+_<=_;omega)) (λY m=>?_));have s4:=zB m (.lst ([.str (S "num")]++(ks.map Kn.name).map V.str));have e:=o.trans (y.trans s4);have F:Y≠f':=Ne.symm (neN ((o.trans y) _ _ U) m);refine(xb4 _ rfl _ rfl ka _ rfl (.inl (zD (e _ _ a))) _ (jEAA _ rfl rfl (xal f' p1 q1 _ rfl (e _ _ U) (by omega) (by omega) (λr5 H5 C z f5=>?_))));obtain⟨x,r,g⟩:=xjh (ks:=ks) C (by rw[<- I];exact z);exact(xal Y _ _ _ rfl rfl (zD (f5.1 _ _ ups F)) r (q x _ g (((Fed.refl U).same e).trans f5)))
 ·refine .inr (xay _ rfl ka rfl ⟨_,zC (o _ _ a)⟩ ?_)
  refine xe1 (j:=0) (xs:=us) (λi ys u=>u=upd H l2 (.lst [.str (S "num")])/\ys=((ks.take i).map Kn.name).map V.str) (by rfl) ⟨rfl,rfl⟩ (xaz (by omega)) (λi ys u _ p=>by obtain⟨rfl,_⟩:=p;exact zC (o _ _ a)) ?_ ?_
  ·rintro i' x ys u r l ⟨rfl,rfl⟩
   obtain⟨d,Z,rd⟩:=(G.same o _).get r;rw[zGM]at Z;obtain⟨k',J,rfl⟩:=zMS Z;obtain⟨b,a0,rfl,hb,_,_,rfl,rfl,_,_,rfl,rfl,v3,_,rfl,r3,rfl⟩:=rd;have M:i'<us.length:=(zES r).1;refine(xaa _ rfl b _ _ _ rfl rfl (zC hb) rfl (nxt M l ⟨rfl,?_⟩));rw[zTA,J];simp
  rintro ys u l ⟨rfl,rfl⟩ D2 O;rw[zTL (by omega)];have y:=zB O (.lst ((ks.map Kn.name).map V.str));refine(xbp l2 D2 _ _ rfl rfl (y _ _ ups) ups (fits (by rw[zLM,zLM];show 1+_<=_;omega)) (λY m=>?_));have s4:=zB m (.lst ([.str (S "num")]++(ks.map Kn.name).map V.str));have e:=o.trans (y.trans s4);have F:Y≠f':=Ne.symm (neN ((o.trans y) _ _ U) m);refine(xb4 _ rfl _ rfl ka _ rfl (.inr (zC (e _ _ a))) _ (jEAA _ rfl rfl (xal f' p1 q1 _ rfl (e _ _ U) (by omega) (by omega) (λr5 H5 C z f5=>?_))));obtain⟨x,r,g⟩:=xjh (ks:=ks) C (by rw[<- I];exact z);exact(xal Y _ _ _ rfl rfl (zD (f5.1 _ _ ups F)) r (q x _ g (((Fed.refl U).same e).trans f5)))
theorem RelDs.rev{H:Hp}:∀{vs:List V} {ds:List D},RelDs H vs ds->RelDs H vs.reverse ds.reverse
 |vs,[],h=>by rw[show vs=[] from h];rfl
 |vs,d::ds,⟨v,r,e,b,a⟩=>by
  subst e;rw[List.reverse_cons,List.reverse_cons];exact(RelDs.rev a).append (xaq v ([]) rfl b rfl)
theorem xkx{α:Type}{l:List α}(h:l.Nodup):l.reverse.Nodup:=List.pairwise_reverse.mpr (h.imp λh=>Ne.symm h)
theorem xqs{H a:Hp}{p:Addr}(s:Same H a)(c:H p=none)(o:HO):Same H (upd a p o):=λb u q=>by
 rw[xa7 (neN q c)];exact s b u q
def bKV(bs:List (Str×Str)):List (Key×V):=bs.map λb=>(Sum.inr b.1,.str b.2)
theorem xfr{H:Hp}:∀{us:List V} {bs:List (Str×Str)},RelDs H us (bs.map xe4)->PairsV H us (bKV bs)
 |us,[],h=>by rw[show us=[] from h];trivial
 |us,b::bs,⟨v,r,e,g,f⟩=>by
  subst e;obtain⟨a,ws,rfl,c,_,_,rfl,rfl,_,_,rfl,rfl,rfl⟩:=g;exact⟨(jEA a rfl c),xfr f⟩
theorem xo0{a b c d r:V}{i j:Int}(h:i=j):[a,b,c,d,r,V.int i]=[a,b,c,d,r,V.int j]:=by rw[h]
theorem xhn{ks:List Kn}(wf:KWf ks){k:Kn}(h:k∈ks){p:Str×Str}(a:p∈k.parts):KIn ks 6 p.2:=by
 obtain⟨i,hi,e⟩:=zMI h;have:=wf.few;exact KIn.mono (n:=i) (wf.ref i k (by rw[<- e];exact zGA hi) p a) (by omega)
def spTw(c:Nat):Sp:=λvs H Q _=>∃(f:Addr) (kv bv:V) (ks:List Kn) (bs:List (Str×Str)) (x:Str) (room:Int) (m j:Nat),vs=[.ref f,kv,bv,.str x,.int room,.int (m:Int)]/\c=7*m+j/\j<=6/\TIn H f kv bv ks bs (m+1)/\m<=7/\KIn ks j x/\smK ks x<=room/\∀a d H',Fed f H H'->RelD H' (.ref a) d->TmB ks (c+1) bs d x->Q (.ref a) H'
def xsy(c:Nat):Sp:=λvs H Q E=>∃c',c'<c/\spTw c' vs H Q E
def xpx:Sp:=λvs H Q _=>∃(f l:Addr) (p q:Int) (zs:List Str),vs=[.ref f,.ref l]/\H f=some (.lst [.int p,.int q])/\H l=some (.lst (zs.map V.str))/\zs≠[]/\zs.length<=100/\l≠f/\∀z t H',z∈zs->Fed f H H'->RelD H' (.ref t) (tBox z)->Q (.ref t) H'
def xl5(m:Nat):Sp:=λvs H Q _=>∃(f:Addr) (kv bv pvv:V) (ks:List Kn) (bs ps:List (Str×Str)) (x:Str) (room:Int),vs=[.ref f,kv,bv,pvv,.str x,.int room,.int ((m+1:Nat):Int)]/\TIn H f kv bv ks bs (m+2)/\m<7/\RelD H pvv (xdv ps)/\ps≠[]/\ps.length<=5/\(ps.map (·.1)).Nodup/\(∀p∈ps,KIn ks 6 p.2)/\KIn ks 6 x/\smK ks x*(ps.length:Int)<=room ∧
 ∀(u:V) (rs:List (Str×Str×D)) (H':Hp),Fed f H H'->RelD H' u (.tup (rs.map dArm))->rs.length=ps.length->(∀r∈rs,∃p∈ps,p.1=r.1)->(rs.map (·.1)).Nodup->(∀p∈ps,∃z e,(p.1,z,e)∈rs/\(∀q∈bs,q.1≠z)/\ArmN ks z/\TmB ks (7*m+7) (bs++[(z,p.2)]) e x)->Q u H'
theorem xqz(T:Tx K g)(a:DefIs P w K g base n "_law_take" qad xc2):DefIs P w K g base (n+1) "_law_boxed" qay xpx:=by
 refine DefIs.of T.kG xp4 (by walk_at"l") (λf J A outer s H vs Q E F h=>?_);obtain⟨I,l,p,x,zs,rfl,G,j,e,m,y,q⟩:=h;refine(jEA _ (zpo (xaj (xak (zpc pS (zpc (pxl K (pv 1) (pd a F (va 0 (zpc (xan (xad (K:=K) rfl) rfl T.k8 PySem.boot_len (v1 1)) pN zsc)))) pN zss) zso)))) ?_);have z:0<zs.length:=List.length_pos_iff.mpr e;have c:(zs.map V.str).length=zs.length:=zLM _;refine(xbo _ rfl _ rfl _ rfl l _ rfl (.inl (zD j)) (xal I p x _ rfl G (by rw[c];omega) (by rw[c];omega) (λr O M u o=>?_)));rw[c]at u;obtain⟨i,rfl⟩:∃i:Nat,r=(i:Int):=⟨r.toNat,by omega⟩;have b:i<zs.length:=by omega
 refine(xbp l _ _ (.str zs[i]) rfl rfl (zD (o.1 _ _ j y)) (xar (by rw[zGM,zGA b];rfl)) (by walk_at"s") (λt C=>?_));have st:=zB C (.tup [.str (S "box"),.str zs[i]]);exact q zs[i] t _ (zZ b) (o.same st) (xac t _ rfl ups _ _ rfl rfl _ (jEAA _ rfl rfl rfl))
theorem xte(T:Tx K mg){c:Nat}(hc:7*m+6<c)(l:DefIs P w K mg base n "_law_take" qad xc2)(g:DefIs P w K mg base n "_law_term" qaf (xsy c)):DefIs P w K mg base (n+1) "_law_arms" qbc (xl5 m):=by
 refine DefIs.of T.kH scl_arms (by walk_at"l") (λf bb A outer s H vs Q E hr h=>?_);obtain⟨f',kv,bv,b9,ks,bs,ps,x,y,rfl,U,m8,aw,az,h5,ag,ax,ab,a5,q⟩:=h;have nd:=scl_arms.nd;have hu:=xcs hr
 refine⟨_,(zpn (psn 7 nd (xbs pN))
   (zpn (psn 8 nd (xat xcv (pv 5) (xan (xad (K:=K) rfl) rfl T.k8 PySem.boot_len (v1 3))))
   (zpn (xca PassesOwn.never rfl (xap (K:=K) rfl (pv 3)) (xa2 (K:=K) rfl rfl (xab (pgn 9 nd) (xab (pgn 10 nd) xa1)))
   (zpn (psn 11 nd (xat xev pS (xok xny pS (pv 6) (λ_ _=>rfl))))
   (zpo (xba (xgn PySem.F.plainAttrs_list PySem.F.slot_list_append PySem.F.type_list_append xct (pv 7) (zpc (xak (va 9 (va 11 (zpc (pd g hr (va 0 (va 1 (zpc (xat xhf (pv 2) (xbs (zpc (xak (va 11 (v1 10))) pN sT))) (va 4 (va 8 (zpc (xat xc8 (pv 6) pI) pN xa8))) xa8)))) pN zsc)))) pN sT))))))
   (zpn (xa0 (pR xa9 (pd l hr (va 0 (zpc pI pN zso))) pI (nM _)) (zpo (xba (xuq PySem.F.plainAttrs_list PySem.F.slot_list_reverse PySem.F.type_list_reverse xif (pv 7)))) pQ)
   (zpo (xaj (xau (xbi (K:=K) rfl) rfl T.uH PyProof.Rows.boot_tuple (v1 7)))))))),xaf λR1 b6=>?_⟩
 refine⟨(by walk_at"s"),λal Z=>?_⟩;have s0:=zB Z (.lst []);obtain⟨p0,q0,hf⟩:=U.fd;have O:al≠f':=Ne.symm (neN hf Z);obtain⟨pa,us,rfl,a9,ae⟩:=aw;have hl:=ae.length;rw[zLM]at hl;have b7:0<ps.length:=List.length_pos_iff.mpr az;have a8:(0:Int)<(us.length:Int):=by omega
 have b1:(((m+1:Nat):Int))-1=(m:Int):=by omega
 have aa:smK ks x<=y / (us.length:Int):=by
  refine(Int.le_ediv_iff_mul_le a8).mpr ?_;rw[hl];exact a5
 refine b6 _ _ (xaf λR2 b5=>?_);refine(xb4 _ rfl _ rfl pa _ rfl (.inr (zC (s0 _ _ a9))) _ (xdb _ rfl rfl ⟨by omega,by omega⟩ ?_));refine b5 _ _ (xaf λR3 b4=>?_);refine(xay _ rfl pa rfl ⟨_,zC (s0 _ _ a9)⟩ ?_)
 refine xdc (xs:=us) (λi σ H'=>∃(ws:List V) (rs:List (Str×Str×D)) (o8 o9 a3:Option V),σ=[some (.ref f'),some kv,some bv,some (.ref pa),some (.str x),some (.int y),some (.int ((m+1:Nat):Int)),some (.ref al),some (.int (y / (us.length:Int))),o8,o9,a3]/\Fed f' H H'/\H' al=some (.lst ws)/\RelDs H' ws (rs.map dArm)/\rs.map (·.1)=(ps.take i).map (·.1)/\∀p∈ps.take i,∃z e,(p.1,z,e)∈rs/\(∀q∈bs,q.1≠z)/\ArmN ks z/\TmB ks (7*m+7) (bs++[(z,p.2)]) e x)
  (xag ([]) ([]) none none none rfl ((Fed.refl hf).same s0) ups rfl rfl (λp C=>by rw[List.take_zero]at C;exact nomatch C)) (λi σ H' _ p=>?_) ?_ ?_
 ·obtain⟨_,_,_,_,_,_,G,_⟩:=p
  exact zC (xah U.fd G _ _ a9)
 ·rintro i vv σ H1 ac ⟨ws,rs,o8,o9,a3,rfl,G,J,I,o,M⟩
  have tp:=xah U.fd G;obtain⟨d,hd,rd⟩:=ae.get ac;rw[zGM]at hd;obtain⟨pr,a7,rfl⟩:=zMS hd;obtain⟨b,wz,rfl,hb,_,_,rfl,rfl,_,_,rfl,rfl,rfl⟩:=rd;have ay:=zMG a7;have ba:i<us.length:=(zES ac).1;have ar:=I.length
  have a6:rs.length<=5:=by
   have:=congrArg List.length o;rw[zLM,zLM,List.length_take]at this;omega
  rw[zLM]at ar;refine(xai b _ rfl (zC (tp _ _ hb)) rfl _ _ rfl _ (jEAA _ rfl rfl (xaf λR4 b3=>?_)));have e2:(Str.ofString "by").length=2:=by walk_at"k"
  refine(xcc _ rfl _ _ _ rfl rfl (by walk_at"k") (xt1 (i:=m+1) (by omega)) (xaw _ _ rfl rfl (fits (by rw[e2];show 2+1<=_;decide)) ?_));rw[show Str.ofString "by"++(⟨#[97+(m+1)]⟩:Str)=byN (m+1) from xt8 (m+1)];have hy:∀b∈bs,b.1≠byN (m+1):=λb hb=>U.fr b hb (m+1) (by omega);have aq:∀j,j<m+1->byN (m+1)≠byN j:=λj hj e=>by have:=xw7 e;omega
  have t3:=U.fed G;obtain⟨bc,ak,e3,ai,a0,b8⟩:=t3.bx;cases e3;obtain⟨p3,q3,h3⟩:=G.2;refine b3 _ _ ?_;refine(xao _ rfl (.inl (jAE rfl _ (zD J))) _ rfl (xa4 _ rfl _ rfl _ rfl _ rfl _ rfl (jEAA _ rfl (by walk_at"s") (λt1 av=>⟨(by walk_at"s"),λl1 b0=>?_⟩))));have y1:=zB av (.tup [.str (byN (m+1)),.str pr.2]);have y2:=zB b0 (.lst [.ref t1]);have af:=a0.length;rw[zLM]at af;have b2:=U.bl;refine(xbp _ l1 _ _ rfl rfl ((y1.trans y2) _ _ ai) ups (fits (by show _+1<=_;omega)) (λl2 ah=>?_));have y3:=zB ah (.lst (ak++[.ref t1]));have a2:=y1.trans (y2.trans y3);have t4:=t3.same a2;have ao:l2≠f':=Ne.symm (neN ((y1.trans y2) _ _ h3) ah);refine(xbo _ rfl _ rfl _ rfl _ _ rfl rfl (xbm (7*m+6) hc f' kv (.ref l2) ks (xag (bs++[((byN (m+1)),pr.2)]) x (y / (us.length:Int)) m 6 (xo0 b1) rfl (by decide) ⟨t4.fd,t4.kd,t4.wf,t4.nb,(xaw l2 _ rfl ups ?_ ao),?_,?_,?_,?_⟩ (by omega) (jAA ab aa (λu dd H6 f6 ru as=>?_)))))
  ·rw[zAP]
   exact(a0.same a2 _).append (xaq _ ([]) rfl (xac t1 _ rfl ((y2.trans y3) _ _ ups) _ _ rfl rfl _ (jEAA _ rfl rfl rfl)) rfl)
  ·rw[zAP]
   exact xmi U.nd λhm=>by
    obtain⟨b',a,e'⟩:=zMP hm;exact hy b' a e'
  ·rw[zLA,List.length_singleton]
   omega
  ·intro b' a j hj
   rcases zMA a with a |a
   ·exact U.fr b' a j (by omega)
   ·rw[zMO a]
    exact aq j hj
  ·intro b' a
   rcases zMA a with a |a
   ·exact U.kn b' a
   ·rw[zMO a]
    exact ax pr ay
  refine⟨(by walk_at"s"),λt6 au=>?_⟩;have F6:Fed f' H1 H6:=((Fed.refl h3).same a2).trans f6;have st:=zB au (.tup [.str pr.1,.str (byN (m+1)),.ref u]);have Y:=st _ _ (F6.1 _ _ J O);have am:=(I.tups (xah G.2 F6) _).same st _;refine(xa5 al ws _ rfl rfl Y (xaz (by omega)) (xag _ (rs++[(pr.1,(byN (m+1)),dd)]) _ _ _ rfl (Fed.put ((G.trans F6).same st) Z O _) ups ?_ ?_ (λp C=>?_)))
  ·rw[zAP]
   exact(am.tups (xbk Y _) _).append (xaq _ ([]) rfl (xac t6 _ rfl (xbk Y _ _ _ ups) _ _ rfl rfl _ (xbh _ rfl rfl _ _ rfl ((ru.same st _).tups (xbk Y _) _) rfl)) rfl)
  ·rw[zAP,o,zTA,a7,zAP]
   rfl
  ·rw[zTA,a7]at C
   rcases zMA C with C |C
   ·obtain⟨z,e,g1,g2,g3⟩:=M p C
    exact(xaq z e (List.mem_append_left _ g1) g2 g3)
   ·have ep:p=pr:=by simpa using C
    rw[ep];exact(xaw (byN (m+1)) dd (List.mem_append_right _ (by simp)) hy (.inl ⟨m+1,rfl⟩) as)
 ·rintro σ H1 ⟨ws,rs,o8,o9,a3,rfl,G,J,I,o,M⟩
  rw[zTL (by omega)]at o M
  have a6:rs.length=ps.length:=by
   have:=congrArg List.length o
   rwa[zLM,zLM]at this
  have a1:∀r∈rs,∃p∈ps,p.1=r.1:=λr hr=>by
   have:r.1∈rs.map (·.1):=zQ hr;rw[o]at this;obtain⟨p,C,e⟩:=zMP this;exact(jEA p C e)
  obtain⟨p1,q1,h1⟩:=G.2;refine b4 _ _ (xaf λR5 aj=>?_);refine(xaa _ rfl f' p1 q1 _ rfl h1 (by decide) (by decide) (λr H2 r0 r1 f2=>(jAEA rfl _ rfl (ite2 (λc=>?_) (λc=>?_)))))
  ·have a4:=f2.1 _ _ J O
   have an:=I.tups (xah G.2 f2) _;refine(xbh _ rfl (.inl (jAE rfl _ (zD a4))) al ws rfl rfl ⟨a4,?_⟩);refine aj _ _ ?_;refine(xe9 _ rfl al _ rfl (.inl ⟨zD ups,λt ht=>?_⟩));have st:=zB ht (.tup ws.reverse);refine q _ rs.reverse _ ((Fed.put (G.trans f2) Z O _).same st) (xaq t _ rfl ups ?_) (by rw[List.length_reverse];exact a6) (λr hr=>a1 r (List.mem_reverse.mp hr)) ?_ λp C=>?_
   ·rw[List.map_reverse]
    exact(RelDs.rev (an.tups (xbk a4 _) _)).same st _
   ·rw[List.map_reverse]
    exact xkx (by rw[o];exact ag)
   ·obtain⟨z,e,h1,h2,h3⟩:=M p C
    exact(xaq z e (List.mem_reverse.mpr h1) h2 h3)
  ·refine aj _ _ ?_
   refine(xe9 _ rfl al _ rfl (.inl ⟨zD (f2.1 _ _ J O),λt ht=>?_⟩));have st:=zB ht (.tup ws);exact q _ rs _ ((G.trans f2).same st) (xaq t _ rfl ups ((I.tups (xah G.2 f2) _).same st _)) a6 a1 (by rw[o];exact ag) M
def PtAt(H:Hp)(ks:List Kn)(k:Kn)(room:Int)(w:V):Prop:=∃(b:Addr) (p:Str×Str),w=.ref b/\H b=some (.tup [.str p.1,.str p.2])/\p∈k.parts/\smK ks p.2<room
theorem PtAt.tups{H c:Hp}{ks:List Kn}{k:Kn}{a:Int}{w:V}(h:PtAt H ks k a w)(s:∀b us,H b=some (.tup us)->c b=some (.tup us)):PtAt c ks k a w:=by
 obtain⟨b,p,e,f,r⟩:=h;exact(xaq b p e (s _ _ f) r)
theorem xvt{r:Int}(h0:0<=r)(h:r<5):∃c,atI (S "+-*<=").cps.toList r=some c/\Sg ⟨#[c]⟩:=by
 obtain⟨i,rfl⟩:∃i:Nat,r=(i:Int):=⟨r.toNat,by omega⟩;have hi:i=0\/i=1\/i=2\/i=3\/i=4:=by omega
 rcases hi with rfl |rfl |rfl |rfl |rfl
 ·exact(jEA 43 (xar (by walk_at"k")) (.inl (by walk_at"k")))
 ·exact(jEA 45 (xar (by walk_at"k")) (.inr (.inl (by walk_at"k"))))
 ·exact(jEA 42 (xar (by walk_at"k")) (.inr (.inr (.inl (by walk_at"k")))))
 ·exact(jEA 60 (xar (by walk_at"k")) (.inr (.inr (.inr (.inl (by walk_at"k"))))))
 ·exact(jEA 61 (xar (by walk_at"k")) (.inr (.inr (.inr (.inr (by walk_at"k"))))))
theorem xlu{α β:Type}{R:α->β->Prop}:∀{as:List α} {bs:List β} {a:α} {b:β},All2 R as bs->R a b->All2 R (as++[a]) (bs++[b])
 |_,_,_,_,.nil,h=>.cons h .nil
 |_,_,_,_,.cons h t,k=>.cons h (xlu t k)
theorem xu2{ks:List Kn}:∀(n:Nat) (env:En) (d v:D),Evs ks n env d v->Evs ks (n+1) env d v
 |0,_,_,_,h=>.inl h
 |n+1,env,d,v,h=>by
  rcases h with h |⟨h,g⟩
  ·exact .inl h
  ·exact .inr ⟨h.mono (xu2 n),g⟩
theorem xy8{ks:List Kn}{n m:Nat}(l:n<=m){env:En}{d v:D}(h:Evs ks n env d v):Evs ks m env d v:=by
 obtain⟨k,rfl⟩:∃k,m=n+k:=⟨m-n,by omega⟩;clear l
 induction k with
 |zero=>exact h
 |succ k a=>exact xu2 _ _ _ _ a
theorem TmB.le{ks:List Kn}{n m:Nat}{bs:List (Str×Str)}{d:D}{x:Str}(h:TmB ks n bs d x)(l:n<=m):TmB ks m bs d x:=⟨λenv a=>by
 obtain⟨v,c,b⟩:=h.1 env a;exact(jEA v (xy8 l c) b),λenv a=>xyx l (h.2 env a)⟩
theorem xh4 (T:Tx K mg) {c:Nat} (G:DefIs P w K mg base n "_law_sort_of" qab xeo) (o:DefIs P w K mg base n "_law_take" qad xc2) (I:DefIs P w K mg base n "_law_number" qaj xh9) (l:DefIs P w K mg base n "_law_small" qab (spSm smK 6)) (g:DefIs P w K mg base n "_law_term" qaf (xsy c)) :
  DefIs P w K mg base (n+1) "_law_whole_term" qaf (spTw c):=by
 refine DefIs.of T.kI scl_whole_term (by walk_at"l") (λf bt A outer s H vs Q E hr h=>?_);obtain⟨Y,kv,bv,ks,bs,x,C,m,j,rfl,br,bc,ti,m8,am,ba,q⟩:=h;have nd:=scl_whole_term.nd;have wf:=ti.wf;have an:KIn ks 6 x:=am.mono bc
 refine⟨_,(zpn (xdi (pd G hr (va 1 (v1 3))) (xa2 (K:=K) rfl rfl (xab (pgn 6 nd) (xab (pgn 7 nd) xa1))))
   (zpn (xa0 (pR xa9 (pv 6) pS (nM _)) (zpn (xa0 (PW.pt (xi7 (pR xkj (pv 4) pI (nM _)) (xi7 (pR xa9 (pv 5) pI (nM _)) (xhb (pR xa9 (pd o hr (va 0 (zpc pI pN zso))) pI (nM _)))))) (zpo (xaj (xak (zpc pS (zpc (pd I hr (v1 0)) pN zsc) zso)))) pQ)
   (zpn (psn 8 nd (pd g hr (va 0 (va 1 (va 2 (zpc pS (zpc (xat xcv (xat xc8 (pv 4) pI) pI) (zpc (xat xc8 (pv 5) pI) pN xa8) xa8) zso))))))
   (zpn (psn 9 nd (pd g hr (va 0 (va 1 (va 2 (zpc pS (zpc (xat xcv (xat xc8 (pv 4) pI) pI) (zpc (xat xc8 (pv 5) pI) pN xa8) xa8) zso))))))
   (zpo (xaj (xak (zpc pS (zpc (xok xny pS (pd o hr (va 0 (zpc pI pN zso))) (λ_ _=>rfl)) (va 8 (v1 9)) zss) zso))))))) pQ)
   (zpn (xa0 (pR xa9 (pv 6) pS (nM _)) (zpn (xbl (i:=10) ["_law_part","_law_room","_law_kinds_here"] [none,some 4,some 1] rfl (by kernel_rfl) nd rfl (by walk_at"o") (xap (K:=K) rfl (pv 7)) (λ_ _ _ _=>(pgc 0)) (λ_ _ _ _=>(xcq (pR xkj (pd l hr (va 2 (zpc (px K (pv 0) pI) pN zss))) (pv 1) (nM _)))) (λ_ _ _ _=>(pv 0)))
   (zpn (xdi (pxl K (pv 10) (pd o hr (va 0 (zpc (xan (xad (K:=K) rfl) rfl T.k8 PySem.boot_len (v1 10)) pN zsc)))) (xa2 (K:=K) rfl rfl (xab (pgn 11 nd) (xab (pgn 12 nd) xa1))))
   (zpo (xaj (xak (zpc pS (va 3 (va 11 (zpc (pd g hr (va 0 (va 1 (va 2 (va 12 (zpc (xat xc8 (pv 4) pI) (v1 5) xa8)))))) pN zsc))) zso)))))) pQ)
   (zpn (psn 13 nd (xat xc8 (pv 4) (pd l hr (va 1 (v1 3)))))
   (zpn (psn 14 nd (xbs pN))
   (zpn (xca PassesOwn.never rfl (xap (K:=K) rfl (pv 7)) (xa2 (K:=K) rfl rfl (xab (pgn 15 nd) (xab (pgn 12 nd) xa1)))
   (zpo (xba (xgn PySem.F.plainAttrs_list PySem.F.slot_list_append PySem.F.type_list_append xct (pv 14) (zpc (pd g hr (va 0 (va 1 (va 2 (va 12 (zpc (xat xb2 (pd l hr (va 1 (v1 12))) (xat xcv (pv 13) (xan (xad (K:=K) rfl) rfl T.k8 PySem.boot_len (v1 7)))) (v1 5) xa8)))))) pN zsc)))))
   (zpo (xaj (xak (zpc pS (va 3 (zpc (xau (xbi (K:=K) rfl) rfl T.uH PyProof.Rows.boot_tuple (v1 14)) pN zsc)) zso)))))))))),xaf λR1 bj=>?_⟩
 refine(xbd _ rfl _ rfl kv ks x rfl ((wf.ksAt ti.kd).seq) (λt bl H1 s1 ht rp=>?_));refine(xai t _ rfl (zC ht) rfl _ _ rfl _ (jEAA _ rfl rfl ?_));refine bj _ _ (xaf λR2 ay=>?_);have t1:=ti.same s1;obtain⟨p1,q1,h1⟩:=t1.fd;obtain⟨p0,q0,hf⟩:=ti.fd;have F1:Fed Y H H1:=(Fed.refl hf).same s1;rcases am.look wf with⟨rfl,Z⟩ |⟨j',k,bb,Z,hn,a6,au⟩
 ·refine(xao _ rfl rfl _ rfl (iteKT (zDT (by rw[Z];rfl)) ?_))
  have RN:∀(H2:Hp) (f2:Fed Y H1 H2),∀(i:Int) (H3:Hp),Nm i->Fed Y H2 H3->∀t,H3 t=none->Q (.ref t) (upd H3 t (.tup [.str (S "num"),.int i])):=λH2 f2 i H3 hi f3 t ht=>by
   have st:=zB ht (.tup [.str (S "num"),.int i]);exact q _ (tNum i) _ (((F1.trans f2).trans f3).same st) (xac t _ rfl ups _ _ rfl rfl _ (jEAA _ rfl rfl rfl)) (xph hi)
  refine(xbe _ rfl _ _ rfl rfl _ rfl (ite2 (λc1=>?_) (λc1=>?_)))
  ·exact iteT (xci _ rfl Y p1 q1 rfl h1 (λi H3 hi f3=>⟨(by walk_at"s"),λt ht=>RN H1 (Fed.refl h1) i H3 hi f3 t ht⟩))
  refine(xao _ rfl rfl _ rfl (ite2 (λc2=>?_) (λc2=>?_)))
  ·exact iteT (xci _ rfl Y p1 q1 rfl h1 (λi H3 hi f3=>⟨(by walk_at"s"),λt ht=>RN H1 (Fed.refl h1) i H3 hi f3 t ht⟩))
  have bw:¬C<3:=λz=>c1 (zDT z);have bu:¬(m:Int)=0:=λz=>c2 (zDT (congrArg V.int z));obtain⟨m',rfl⟩:∃m',m=m'+1:=⟨m-1,by omega⟩;have av:(((m'+1:Nat):Int))-1=(m':Int):=by omega
  refine(xaa _ rfl Y p1 q1 _ rfl h1 (by decide) (by decide) (λr H2 r0 r1 f2=>(jAEA rfl _ rfl (ite2 (λc3=>?_) (λc3=>?_)))))
  ·obtain⟨p2,q2,h2⟩:=f2.2
   exact(xci _ rfl Y p2 q2 rfl h2 (λi H3 hi f3=>⟨(by walk_at"s"),λt ht=>RN H2 f2 i H3 hi f3 t ht⟩))
  have t2:=t1.fed f2;have b9:=(xpz wf).1;have ar:smK ks (S "num")<=(C-1) / 2:=by rw[b9];omega
  refine(xbw _ rfl _ rfl _ rfl _ rfl _ (xbh _ rfl rfl _ _ rfl rfl (jAEA ⟨by decide,by decide⟩ _ rfl (xaq _ _ rfl rfl ?_))));refine(xbm (7*m') (by omega) Y kv bv ks (xag bs (S "num") ((C-1) / 2) m' 0 (xo0 av) rfl (by decide) (t2.down (by omega)) (by omega) (jAA (.inl rfl) ar (λu1 d1 H3 f3 b3 b7=>?_))));have t3:=t2.fed f3;refine(xbw _ rfl _ rfl _ rfl _ rfl _ (xbh _ rfl rfl _ _ rfl rfl (jAEA ⟨by decide,by decide⟩ _ rfl (xaq _ _ rfl rfl ?_))));refine(xbm (7*m') (by omega) Y kv bv ks (xag bs (S "num") ((C-1) / 2) m' 0 (xo0 av) rfl (by decide) (t3.down (by omega)) (by omega) (jAA (.inl rfl) ar (λu2 d2 H4 f4 b2 af=>?_))));have t4:=t3.fed f4;obtain⟨p4,q4,h4⟩:=t4.fd;refine(xaa _ rfl Y p4 q4 _ rfl h4 (by decide) (by decide) (λr' H5 b5 b4 f5=>?_));obtain⟨ch,bd,b8⟩:=xvt b5 b4;refine(xa5 _ _ ch rfl rfl (by walk_at"k") bd (xay _ rfl _ rfl (by walk_at"s") (λt' ag=>?_)));have st:=zB ag (.tup [.str (S "op"),.str ⟨#[ch]⟩,.ref u1,.ref u2]);exact q _ (tOpD ⟨#[ch]⟩ d1 d2) _ (((((F1.trans f2).trans f3).trans f4).trans f5).same st) (xac t' _ rfl ups _ _ rfl rfl _ (xbh _ rfl rfl _ _ rfl (((b3.tups (xah t3.fd f4) _).tups (xah t4.fd f5) _).same st _) (xaq _ _ rfl ((b2.tups (xah t4.fd f5) _).same st _) rfl))) (TmB.le (xzl wf b8 b7 af) (by omega))
 ·subst bb
  rw[Z]at rp;obtain⟨a,us,rfl,ha,ac⟩:=rp;have hl:=ac.length;rw[zLM]at hl;have h5:=wf.pts k a6;have a5:xgl (kAt ks x)=k.sort:=by rw[Z];rfl
  have es:=(xxx wf Z).1;unfold smS at es
  cases hc:k.rc with
  | false=>
   rw[if_neg (by rw[hc];decide)]at es;refine(xao _ rfl rfl _ rfl (iteKF (zDF (by rw[a5,xc6 hc];decide +kernel)) ?_));refine ay _ _ (xaf λR3 ax=>?_);refine(xao _ rfl rfl _ rfl (iteKT (zDT (by rw[a5,xc6 hc];rfl)) ?_));refine(xay _ rfl a rfl ⟨_,zC ha⟩ ?_);refine xbb (xs:=us) (λi ys H'=>Same H1 H'/\(∀z∈ys,PtAt H' ks k C z)/\(1<=i->ys≠[])) (jAA (Same.refl _) (λ_ h=>nomatch h) (λh=>absurd h (by decide))) (xaz (by omega)) (λi ys H' _ p=>zC (p.1 _ _ ha)) ?_ ?_
   ·rintro i y ys H' hy aw ai ⟨M,a3,ah⟩
    obtain⟨d',a1,a8⟩:=ac.get hy;rw[zGM]at a1;obtain⟨pr,J,rfl⟩:=zMS a1;obtain⟨b,az,rfl,hb,_,_,rfl,rfl,_,_,rfl,rfl,rfl⟩:=a8;have O:=zMG J
    have first:i=0->smK ks pr.2<C:=λe0=>by
     subst e0
     cases as:k.parts with
     |nil=>rw[as]at J;simp at J
     |cons p r=>
      rw[as]at J es;simp at J;subst J;have es':smK ks x=1+smK ks p.2:=es;omega
    refine⟨xd3 rfl,?_⟩;refine(xa6 _ rfl _ rfl b _ _ (xbj _ rfl rfl (zC (M _ _ hb)) rfl (xa5 kv ks pr.2 rfl (t1.kd.same M _) wf (xhn wf a6 O) (λH3 s3=>(xbe _ rfl _ _ rfl rfl _ rfl (ite2 (λc1=>?_) (λc1=>?_)))))))
    ·refine(jEA _ rfl (nxtG aw ai (jAA (M.trans s3) (λz hz=>?_) (λ_=>by simp))))
     rcases zMA hz with hz |hz
     ·exact(a3 z hz).tups λb us q=>s3 _ _ q
     ·rw[zMO hz]
      exact(xaw b pr rfl (s3 _ _ (M _ _ hb)) O (zH c1))
    ·refine nxtN aw ai (jAA (M.trans s3) (λz hz=>(a3 z hz).tups λb us q=>s3 _ _ q) (λ_=>?_))
     by_cases e0:i=0
     ·exact absurd (zDT (first e0)) c1
     ·exact ah (by omega)
   ·rintro ys H2 ai ⟨M,a3,ah⟩ D hD
    have bp:k.parts.length≠0:=λe=>wf.alt k a6 hc (List.length_eq_zero_iff.mp e);have al:=ah (by omega);have bm:0<ys.length:=Nat.pos_of_ne_zero λe=>al (List.length_eq_zero_iff.mp e);have sD:=zB hD (.lst ys);have a0:=M.trans sD;have Df:D≠Y:=Ne.symm (neN (M _ _ h1) hD);refine(xbo _ rfl _ rfl _ rfl D _ rfl (.inl (zD ups)) (xal Y p1 q1 _ rfl (a0 _ _ h1) (by omega) (by omega) (λr H5 r0 r1 f5=>?_)));obtain⟨i,rfl⟩:∃i:Nat,r=(i:Int):=⟨r.toNat,by omega⟩;have aj:i<ys.length:=by omega
    have t2:=t1.same a0;have b0:=xah t2.fd f5;obtain⟨b,p,eb,hb,O,bo⟩:=((a3 ys[i] (zZ aj)).tups λb us q=>sD _ _ q).tups b0;have be:atI ys (i:Int)=some (.ref b):=xar (by rw[zGA aj,eb]);refine(xal D _ _ _ rfl rfl (zD (f5.1 _ _ ups Df)) be (xai b _ rfl (zC hb) rfl _ _ rfl _ (jEAA _ rfl rfl ?_)));have t5:=t2.fed f5;refine(xa4 _ rfl _ rfl _ rfl _ rfl _ rfl (xbc _ rfl _ rfl _ _ rfl rfl _ rfl ?_));refine(xbm (7*m+j') (by omega) Y kv bv ks (xag bs p.2 (C-1) m j' rfl rfl (by omega) t5 m8 (jAA (au p O) (by omega) (λu du H7 f7 ru ae=>⟨(by walk_at"s"),λt' ag=>?_⟩))));have st:=zB ag (.tup [.str (S "tag"),.str x,.str p.1,.ref u]);exact q _ (tTag x p.1 du) _ ((((F1.same a0).trans f5).trans f7).same st) (xac t' _ rfl ups _ _ rfl rfl _ (xbh _ rfl rfl _ _ rfl rfl (xaq _ _ rfl (ru.same st _) rfl))) (TmB.le (xpf wf Z hc O ae) (by omega))
  | true=>
   rw[if_pos hc]at es;refine(xao _ rfl rfl _ rfl (iteKF (zDF (by rw[a5,xc4 hc];decide +kernel)) ?_));refine ay _ _ (xaf λR3 ax=>?_);refine(xao _ rfl rfl _ rfl (iteKF (zDF (by rw[a5,xc4 hc];decide +kernel)) ?_));refine ax _ _ (xaf λR4 bi=>?_);refine(xbg _ rfl _ rfl _ rfl kv ks (xbj x rfl t1.kd wf an (λH2 s2=>(xaq _ _ rfl rfl ?_))));refine bi _ _ (xaf λR5 bh=>?_);refine⟨(by walk_at"s"),λtl aq=>?_⟩;refine bh _ _ (xaf λR6 bg=>?_);have a0:=s2.trans (zB aq (.lst []));have a7:=xck s2 aq;have ak:tl≠Y:=Ne.symm (neN h1 a7);refine(xay _ rfl a rfl ⟨_,zC (a0 _ _ ha)⟩ ?_);refine xdc (xs:=us) (λi σ H'=>∃(ws:List V) (ds:List D) (aa a9:Option V),σ=[some (.ref Y),some kv,some bv,some (.str x),some (.int C),some (.int (m:Int)),some (.str (xgl (kAt ks x))),some (.ref a),none,none,none,none,aa,some (.int (C-smK ks x)),some (.ref tl),a9]/\Fed Y H1 H'/\H' tl=some (.lst ws)/\RelDs H' ws ds/\All2 (λe (p:Str×Str)=>TmB ks (7*m+j'+1) bs e p.2) ds (k.parts.take i)) (xal ([]) ([]) none none rfl ((Fed.refl h1).same a0) ups rfl (by rw[List.take_zero];exact .nil)) (λi σ H' _ p=>?_) ?_ ?_
   ·obtain⟨_,_,_,_,_,fm,_⟩:=p
    exact zC (xah t1.fd fm _ _ ha)
   ·rintro i vv σ H3 ao ⟨ws,ds,aa,a9,rfl,fm,a4,a2,U⟩
    have tp:=xah t1.fd fm;obtain⟨d',a1,a8⟩:=ac.get ao;rw[zGM]at a1;obtain⟨pr,J,rfl⟩:=zMS a1;obtain⟨b,az,rfl,hb,_,_,rfl,rfl,_,_,rfl,rfl,rfl⟩:=a8;have O:=zMG J;have t3:=t1.fed fm;have bn:=a2.length;have bf:=U.length;rw[List.length_take]at bf;have aj:i<us.length:=(zES ao).1;refine(xai b _ rfl (zC (tp _ _ hb)) rfl _ _ rfl _ (jEAA _ rfl rfl ?_));refine(xao _ rfl (.inl (jAE rfl _ (zD a4))) _ rfl (xa4 _ rfl _ rfl _ rfl _ rfl _ rfl (xa5 kv ks pr.2 rfl t3.kd wf (xhn wf a6 O) (λH4 s4=>?_))));have bq:0<=(C-smK ks x) / (us.length:Int):=Int.ediv_nonneg (by omega) (by omega);refine(xb4 _ rfl _ rfl a _ rfl (.inr (zC (s4 _ _ (tp _ _ ha)))) _ (xdb _ rfl rfl ⟨by omega,by omega⟩ (xaq _ _ rfl rfl (jEA _ rfl ?_))));have t4:=t3.same s4;refine(xbm (7*m+j') (by omega) Y kv bv ks (xag bs pr.2 (smK ks pr.2+(C-smK ks x) / (us.length:Int)) m j' rfl rfl (by omega) t4 m8 (jAA (au pr O) (by omega) (λu du H5 f5 ru ae=>?_))));have ab:=f5.1 _ _ (s4 _ _ a4) ak;have b1:=(a2.same s4 _).tups (xah t4.fd f5) _;refine(xa5 tl ws _ rfl rfl ab (xaz (by omega)) (xal _ (ds++[du]) _ _ rfl (Fed.put ((fm.same s4).trans f5) a7 ak _) ups ((b1.tups (xbk ab _) _).append (xaq (.ref u) ([]) rfl (ru.tups (xbk ab _) _) rfl)) ?_));rw[zTA,J];exact xlu U ae
   ·rintro σ H3 ⟨ws,ds,aa,a9,rfl,fm,a4,a2,U⟩
    rw[zTL (by omega)]at U;refine bg _ _ ?_;refine(jEA _ rfl (xe9 _ rfl tl ws rfl (.inl ⟨zD a4,λt2 af=>⟨(by walk_at"s"),λt3 b6=>?_⟩⟩)));have y2:=zB af (.tup ws);have y3:=zB b6 (.tup [.str (S "rec"),.str x,.ref t2]);exact q _ (tRec x ds) _ ((F1.trans fm).same (y2.trans y3)) (xac t3 _ rfl ups _ _ rfl rfl _ (xbh _ rfl rfl _ _ rfl (xaq t2 ws rfl (y3 _ _ ups) (a2.same (y2.trans y3) _)) rfl)) (TmB.le (xpg Z hc (by omega) U) (by omega))
structure Hold(R:Prop):Prop where
 go:R
theorem xnr{R A:Prop}(h:Hold R->A)(r:R):A:=h ⟨r⟩
theorem DefIs.anyP{P:Program}{w:World}{K:Fg}{e:Str->Option Value}{base:Heap}{n:Nat}{x:Str}{st:Stmt}{ps:List Str}{Pr:Nat->Prop}{sps:Nat->Sp}(T:DefTx K e x st ps)(D:∀m,Pr m->DefIs P w K e base n x ps (sps m)):DefIs P w K e base n x ps (λvs H Q E=>∃m,Pr m/\sps m vs H Q E):=by
 by_cases p:∃m,Pr m
 ·obtain⟨u,h0⟩:=p
  obtain⟨f,I,F,b,k,o,l⟩:=(D u h0).ex;refine⟨f,(xbj I ⟨?_,?_⟩ b k o l)⟩
  ·rintro vs H Q E ⟨m,g,h⟩
   obtain⟨J,i,j,_⟩:=(D m g).ex;exact j.1 vs H Q E h
  ·rintro A outer s H args us vs Q E G C z y ⟨m,g,h⟩
   obtain⟨J,i,j,U,O,a,c⟩:=(D m g).ex;rw[o]at a;cases a;obtain⟨M,od,r,l⟩:=l;obtain⟨_,_,_,c⟩:=c;rw[l]at c;cases c;exact j.2 A outer s H args us vs Q E G C z y h
 ·exact DefIs.none T λvs H Q E h=>p ⟨h.choose,h.choose_spec.1⟩
def xvq(c:Nat):Sp:=λvs H Q E=>∃m,7*m+6<c/\xl5 m vs H Q E
theorem xit{z:Str}:∀{bs:List (Str×Str)},(∀b∈bs,b.1≠z)->∀acc,valV (xb5 acc (bKV bs)) (Sum.inr z)=valV acc (Sum.inr z)
 |[],_,acc=>rfl
 |b::bs,h,acc=>by
  have:=xit (bs:=bs) (λc a=>h c (by simp[a])) (putK acc (Sum.inr b.1) (.str b.2));show valV (xb5 (putK acc (Sum.inr b.1) (.str b.2)) (bKV bs)) (Sum.inr z)=_;rw[this,xiu,if_neg];intro e;exact h b (by simp) (Sum.inr.inj e).symm
theorem xm5{z k:Str}:∀{bs:List (Str×Str)},(bs.map (·.1)).Nodup->(z,k)∈bs->∀acc,valV (xb5 acc (bKV bs)) (Sum.inr z)=some (.str k)
 | b::bs,nd,h,acc=>by
  rw[List.map_cons,List.nodup_cons]at nd;show valV (xb5 (putK acc (Sum.inr b.1) (.str b.2)) (bKV bs)) (Sum.inr z)=_;rcases zMC h with h |h
  ·subst h
   rw[xit (bs:=bs) (λc a e=>nd.1 (List.mem_map.mpr (jEA c a e))),xiu,if_pos rfl]
  ·exact xm5 nd.2 h _
theorem xre{ks:List Kn}(wf:KWf ks){y:Str}(h:KIn ks 6 y){H:Hp}{v:V}(b:RelD H v (xnn (kAt ks y))):∃ps,RelD H v (xdv ps)/\ps.length<=5/\(xgl (kAt ks y)=S "rec"->∃k,kAt ks y=some k/\k.rc=true/\k.parts=ps)/\(xgl (kAt ks y)=S "alt"->∃k,kAt ks y=some k/\k.rc=false/\k.parts=ps):=by
 rcases h.look wf with⟨rfl,e⟩ |⟨j,k,i,e,hn,f,g⟩
 ·rw[e]at b⊢
  exact(xdb ([]) b (by decide) (λz=>absurd z (by walk_at"k")) (λz=>absurd z (by walk_at"k")))
 ·rw[e]at b⊢
  refine(xdb k.parts b (by have:=wf.pts k f;omega) (λz=>(jEAA k rfl ?_ rfl)) (λz=>(jEAA k rfl ?_ rfl)))
  ·cases c:k.rc with
   |true=>rfl
   |false=>
    have a:k.sort=S "rec":=z;rw[xc6 c]at a;exact absurd a (by walk_at"k")
  ·cases c:k.rc with
   |false=>rfl
   |true=>
    have a:k.sort=S "alt":=z;rw[xc4 c]at a;exact absurd a (by walk_at"k")
def HdAt(H:Hp)(ks:List Kn)(bs:List (Str×Str))(x:Str)(w:V):Prop:=∃(b:Addr) (z g y:Str) (k:Kn),w=.ref b/\H b=some (.tup [.str z,.str g])/\(z,y)∈bs/\kAt ks y=some k/\k.rc=true/\(g,x)∈k.parts
theorem HdAt.tups{H a:Hp}{ks:List Kn}{bs:List (Str×Str)}{x:Str}{w:V}(h:HdAt H ks bs x w)(s:∀b us,H b=some (.tup us)->a b=some (.tup us)):HdAt a ks bs x w:=by
 obtain⟨b,z,g,y,k,e,c,r⟩:=h;exact(xas b z g y k (jAA e (s _ _ c) r))
def TgOk(ks:List Kn)(bs:List (Str×Str))(z:Str):Prop:=∃(y:Str) (k:Kn),(z,y)∈bs/\kAt ks y=some k/\k.rc=false
theorem xtc (T:Tx K mg) {c:Nat} (C:DefIs P w K mg base n "_law_take" qad xc2) (a2:DefIs P w K mg base n "_law_boxed" qay xpx) (a1:DefIs P w K mg base n "_law_small" qab (spSm smK 6)) (e:DefIs P w K mg base n "_law_sort_of" qab xeo) (o:DefIs P w K mg base n "_law_term" qaf (xsy c)) (a5:DefIs P w K mg base n "_law_arms" qbc (xvq c)) (J:DefIs P w K mg base n "_law_whole_term" qaf (spTw c)) :
  DefIs P w K mg base (n+1) "_law_term" qaf (spTw c):=by
 refine DefIs.of T.kJ scl_term (by walk_at"l") (λf d6 A outer s H vs Q E hr h=>?_);obtain⟨f',kv,bv,ks,bs,x,l,m,j,rfl,ab,Z,ti,m8,Y,I,q⟩:=h;have nd:=scl_term.nd;have hu:=xcs hr;have wf:=ti.wf;have av:KIn ks 6 x:=Y.mono Z;have d4:=xni wf x
 refine⟨_,(zpn (xbl (i:=6) ["_law_x","_law_told_here","_law_kind"] [none,none,some 3] rfl (by kernel_rfl) nd rfl (by walk_at"o") (xcd (K:=K) rfl (pv 2)) (λ_ _ _ _=>(xa2 (K:=K) (n:=2) rfl rfl (xab (pgc 0) (xab (pgc 1) xa1)))) (λ_ _ _ _=>(xcq (pR xa9 (pv 1) (pv 2) (nM _)))) (λ_ _ _ _=>(pv 0)))
   (zpn (psn 7 nd (pd C hr (va 0 (zpc pI pN zso))))
   (zpn (xa0 (PW.pt (xcg (pR xee (xan (xad (K:=K) rfl) rfl T.k8 PySem.boot_len (v1 6)) pI (nM _)) (xby (pR xkj (pv 7) pI (nM _))))) (zpo (xaj (pd a2 hr (va 0 (v1 6))))) pQ)
   (zpn (psn 8 nd (pd a1 hr (va 1 (v1 3))))
   (zpn (xa0 (PW.pt (xcg (pR xa9 (pv 7) pI (nM _)) (xcg (pR xee (pv 5) pI (nM _)) (xby (pR xee (pv 4) (xat xb2 (xat xel pI (pv 8)) pI) (nM _)))))) (zpn (psn 9 nd (xat xcv (xat xc8 (xat xc8 (pv 4) pI) (xat xel pI (pv 8))) pI))
   (zpn (psn 10 nd (pd o hr (va 0 (va 1 (va 2 (zpc pS (zpc (xat xb2 pI (pv 9)) (zpc (xat xc8 (pv 5) pI) pN xa8) xa8) zso))))))
   (zpn (psn 11 nd (pd o hr (va 0 (va 1 (va 2 (va 3 (zpc (xat xb2 (pv 8) (pv 9)) (zpc (xat xc8 (pv 5) pI) pN xa8) xa8)))))))
   (zpo (xaj (xak (zpc pS (va 10 (va 11 (zpc (pd o hr (va 0 (va 1 (va 2 (va 3 (zpc (xat xb2 (pv 8) (pv 9)) (zpc (xat xc8 (pv 5) pI) pN xa8) xa8)))))) pN zsc))) zso))))))) pQ)
   (zpn (xa0 (PW.pt (xcg (pR xa9 (pv 7) pI (nM _)) (xby (pR xee (pv 4) pI (nM _))))) (zpn (psn 12 nd (xbs pN))
   (zpn (xca PassesOwn.never rfl (xcd (K:=K) rfl (pv 2)) (xa2 (K:=K) rfl rfl (xab (pgn 13 nd) (xab (pgn 14 nd) xa1)))
   (zpn (xdi (pd e hr (va 1 (v1 14))) (xa2 (K:=K) rfl rfl (xab (pgn 15 nd) (xab (pgn 16 nd) xa1))))
   (zpo (psn 12 nd (xat xhf (pv 12) (xb7 ["_law_f","_law_part","_law_x","_law_sort","_law_kind"] [none,none,some 13,some 15,some 3] rfl (by kernel_rfl) (xap (K:=K) rfl (pv 16)) (λ_ _ _ _=>(xa2 (K:=K) (n:=2) rfl rfl (xab (pgc 0) (xab (pgc 1) xa1)))) (λ_ _ _ _=>(xcq (PW.pt (xcg (pR xa9 (pv 3) pS (nM _)) (xby (pR xa9 (pv 1) (pv 4) (nM _))))))) (λ_ _ _ _=>(xak (va 2 (v1 0))))))))))
   (zpo (xa0 (pR xee (xan (xad (K:=K) rfl) rfl T.k8 PySem.boot_len (v1 12)) pI (nM _)) (zpn (xdi (pxl K (pv 12) (pd C hr (va 0 (zpc (xan (xad (K:=K) rfl) rfl T.k8 PySem.boot_len (v1 12)) pN zsc)))) (xa2 (K:=K) rfl rfl (xab (pgn 13 nd) (xab (pgn 17 nd) xa1))))
   (zpo (xaj (xak (zpc pS (zpc (xak (zpc pS (v1 13) zso)) (v1 17) sT) zso))))) pQ)))) pQ)
   (zpn (xa0 (PW.pt (xcg (pR xa9 (pv 7) pI (nM _)) (xby (pR xee (pv 5) pI (nM _))))) (zpn (xbl (i:=18) ["_law_x","_law_told_here","_law_kinds_here"] [none,none,some 1] rfl (by kernel_rfl) nd rfl (by walk_at"o") (xcd (K:=K) rfl (pv 2)) (λ_ _ _ _=>(xa2 (K:=K) (n:=2) rfl rfl (xab (pgc 0) (xab (pgc 1) xa1)))) (λ_ _ _ _=>(xcq (pR xa9 (px K (pd e hr (va 2 (v1 1))) pI) pS (nM _)))) (λ_ _ _ _=>(pv 0)))
   (zpo (xa0 (pR xee (xan (xad (K:=K) rfl) rfl T.k8 PySem.boot_len (v1 18)) pI (nM _)) (zpn (psn 13 nd (pxl K (pv 18) (pd C hr (va 0 (zpc (xan (xad (K:=K) rfl) rfl T.k8 PySem.boot_len (v1 18)) pN zsc)))))
   (zpn (psn 16 nd (px K (pd e hr (va 1 (zpc (xds hu (xau (xip rfl) rfl T.k4 PyProof.Rows.boot_dict (v1 2)) (pv 13) (λ_ _=>rfl)) pN zss))) pI))
   (zpo (xa0 (pR xyi (xat xc8 (pv 4) pI) (xat xel (pv 8) (xan (xad (K:=K) rfl) rfl T.k8 PySem.boot_len (v1 16))) (nM _)) (zpo (xaj (xak (zpc pS (zpc (xak (zpc pS (v1 13) zso)) (zpc (pd a5 hr (va 0 (va 1 (va 2 (va 16 (va 3 (zpc (xat xc8 (pv 4) pI) (v1 5) xa8))))))) pN zsc) sT) zso)))) pQ)))) pQ))) pQ)
   (zpo (xaj (pd J hr (va 0 (va 1 (va 2 (va 3 (va 4 (v1 5)))))))))))))))),?_⟩
 refine xaf λR1 cr=>?_;obtain⟨p0,q0,hf⟩:=ti.fd;have cj:=ti.bx;obtain⟨bl,ub,rfl,bp,be,d8⟩:=cj;have cb:=be.length;rw[zLM]at cb;have ck:=ti.bl;refine(xay _ rfl bl rfl ⟨_,zD bp⟩ ?_);refine xe2 (xs:=ub) (λi ys F=>F=H/\∃zs:List Str,ys=zs.map V.str/\(∀z∈zs,(z,x)∈bs)/\zs.length<=i) (xfh rfl ([]) rfl (λ_ h=>nomatch h) (zG _)) (xaz (by omega)) (λi ys F _ p=>by obtain⟨rfl,_⟩:=p;exact zD bp) ?_ ?_
 ·rintro i y ys F hy a4 M ⟨rfl,zs,rfl,a9,ba⟩
  obtain⟨d',O,a8⟩:=be.get hy;rw[zGM]at O;obtain⟨pr,al,rfl⟩:=zMS O;obtain⟨b,b5,rfl,hb,_,_,rfl,rfl,_,_,rfl,rfl,rfl⟩:=a8;refine(xai b _ rfl (zC hb) rfl _ _ rfl _ (xdb _ rfl rfl (ext2 rfl rfl) ?_));refine(xay _ rfl _ rfl rfl (jEA _ rfl ?_));by_cases aa:pr.2=x
  ·refine iteKT (zDT (by rw[aa])) (jEA _ rfl (nxtG a4 M (xfh rfl (zs++[pr.1]) (by rw[zAP];rfl) (λz hz=>?_) (by rw[zLA,List.length_singleton];omega))))
   rcases zMA hz with hz |hz
   ·exact a9 z hz
   ·rw[zMO hz,<- aa]
    exact zMG al
  ·exact iteKF (zDF λz=>aa (V.str.inj z)) (nxtN a4 M (xfh rfl zs rfl a9 (by omega)))
 rintro ys H2 M ⟨rfl,zs,rfl,a9,ba⟩ D hD;have sD:=zB hD (.lst (zs.map V.str));have t1:=ti.same sD;have F1:=(Fed.refl hf).same sD;have Df:D≠f':=Ne.symm (neN hf hD);refine cr _ _ (xaf λR2 cq=>?_);refine(xaa _ rfl f' p0 q0 _ rfl (sD _ _ hf) (by decide) (by decide) (λfm H1 m0 m1 f1=>?_));have t2:=t1.fed f1;have F2:=F1.trans f1;obtain⟨p2,q2,h2⟩:=t2.fd;have bu:=f1.1 _ _ ups Df;have zl:(zs.map V.str).length=zs.length:=zLM _;refine cq _ _ (xaf λR3 cp=>?_);apply xnr
 ·intro ag
  refine(xbn _ rfl D _ rfl (.inl (zD bu)) _ _ rfl rfl (jEA _ rfl (ite2 (λc1=>?_) (λc1=>?_))))
  ·refine(xbe _ rfl _ _ rfl rfl _ rfl (ite2 (λc2=>?_) (λc2=>?_)))
   ·have c8:=zH c1
    rw[zl]at c8;exact(xa6 _ rfl _ rfl f' D p2 (xaw q2 zs rfl h2 bu (jAAA (List.length_pos_iff.mp (by omega)) (by omega) Df (λz t F hz fz rz=>q t (tBox z) F (F2.trans fz) rz (xj2 (a9 z hz))))))
   ·exact ag.go
  ·exact iteF ag.go
 refine cp _ _ (xaf λR4 co=>?_);refine(xbz _ rfl _ rfl kv ks x rfl t2.kd wf ⟨av,λH3 s3=>?_⟩);have t3:=t2.same s3;have F3:=F2.same s3;obtain⟨p3,q3,h3⟩:=t3.fd;have bn:=t3.bx;obtain⟨da,ay,cu,ac,aj,cx⟩:=bn;cases cu;have bc:=aj.length;rw[zLM]at bc;refine co _ _ (xaf λR5 br=>?_);by_cases e3:fm=3
 ·refine(xao _ rfl rfl _ rfl (iteKT (zDT (by rw[e3])) ?_))
  apply xnr
  ·intro ag
   refine(xbe _ rfl _ _ rfl rfl _ rfl (ite2 (λc2=>?_) (λc2=>iteF ag.go)));refine(xbf _ rfl _ rfl _ _ rfl rfl (jAE (.inr ⟨by omega,by omega⟩) _ (xbh _ rfl rfl _ _ rfl rfl (jEA _ rfl (ite2 (λc3=>?_) (λc3=>ag.go))))));have cv:(0:Int)<(m:Int):=zH c2;have d7:2*smK ks x+1<l:=zH c3;obtain⟨m',rfl⟩:∃m',m=m'+1:=⟨m-1,by omega⟩;have b4:(((m'+1:Nat):Int))-1=(m':Int):=by omega
   refine(xbe _ rfl _ _ rfl rfl _ rfl (xaw _ _ rfl rfl (.inr ⟨by omega,by omega⟩) (xaq _ _ rfl rfl (xaw _ _ rfl rfl ⟨by decide,by decide⟩ ?_))));have d5:0<=(l-2-2*smK ks x) / 3:=Int.ediv_nonneg (by omega) (by decide);refine(xbw _ rfl _ rfl _ rfl _ rfl _ (xao _ rfl rfl _ rfl (xaq _ _ rfl rfl ?_)));refine(xbm (7*m') (by omega) f' kv (.ref bl) ks (xag bs (S "num") (1+(l-2-2*smK ks x) / 3) m' 0 (xo0 b4) rfl (by decide) (t3.down (by omega)) (by omega) (jAA (.inl rfl) (by rw[(xpz wf).1];omega) (λu1 d1 H5 f5 c6 ak=>?_))));have t5:=t3.fed f5;refine(xa4 _ rfl _ rfl _ rfl _ rfl _ rfl (xbe _ rfl _ _ rfl rfl _ rfl (xaq _ _ rfl rfl ?_)));refine(xbm (7*m'+j) (by omega) f' kv (.ref bl) ks (xag bs x (smK ks x+(l-2-2*smK ks x) / 3) m' j (xo0 b4) rfl Z (t5.down (by omega)) (by omega) (jAA Y (by omega) (λu2 d2 H6 f6 c5 a6=>?_))));have t6:=t5.fed f6;refine(xa4 _ rfl _ rfl _ rfl _ rfl _ rfl (xbo _ rfl _ rfl _ rfl _ _ rfl rfl (xa3 _ rfl _ _ rfl rfl ?_)));refine(xbm (7*m'+j) (by omega) f' kv (.ref bl) ks (xag bs x (smK ks x+(l-2-2*smK ks x) / 3) m' j (xo0 b4) rfl Z (t6.down (by omega)) (by omega) (jAA Y (by omega) (λu3 d3 H7 f7 c0 cd=>⟨(by walk_at"s"),λt ht=>?_⟩))));have st:=zB ht (.tup [.str (S "if"),.ref u1,.ref u2,.ref u3])
   exact q _ (tIfD d1 d2 d3) _ ((((F3.trans f5).trans f6).trans f7).same st) (xac t _ rfl ups _ _ rfl rfl _ (xbh _ rfl (((c6.tups (xah t5.fd f6) _).tups (xah t6.fd f7) _).same st _) _ _ rfl ((c5.tups (xah t6.fd f7) _).same st _) (xaq _ _ rfl (c0.same st _) rfl))) (TmB.le (xzm wf (TmB.le ak (by omega)) a6 cd) (by omega))
  refine br _ _ (xaf λR6 ao=>?_);refine(xao _ rfl rfl _ rfl (iteKF (zDF λz=>absurd (V.int.inj z) (by omega)) (iteF ?_)));refine ao _ _ (xaf λR7 a0=>?_);refine(xao _ rfl rfl _ rfl (iteKF (zDF λz=>absurd (V.int.inj z) (by omega)) (iteF ?_)));refine a0 _ _ ?_;exact(xa4 _ rfl _ rfl _ rfl _ rfl _ rfl (xbm _ rfl f' kv (.ref bl) ks (xag bs x l m j rfl ab Z t3 m8 (jAA Y I (λa d F fd ra U=>q a d F (F3.trans fd) ra U)))))
 refine(xao _ rfl rfl _ rfl (iteKF (zDF λz=>e3 (V.int.inj z)) (iteF ?_)));refine br _ _ (xaf λR6 ao=>?_);by_cases e4:fm=4
 ·refine(xao _ rfl rfl _ rfl (iteKT (zDT (by rw[e4])) ?_))
  refine(xbe _ rfl _ _ rfl rfl _ rfl (ite2 (λc2=>?_) (λc2=>?_)))
  ·refine⟨(by walk_at"s"),λhd bi=>?_⟩
   have s4:=zB bi (.lst []);refine(xay _ rfl bl rfl ⟨_,zD (s4 _ _ ac)⟩ ?_)
   refine xgv (xs:=ay) (λi σ F=>∃(U:Addr) (ws:List V) (b3 b1 b0 az:Option V),σ=[some (.ref f'),some kv,some (.ref bl),some (.str x),some (.int l),some (.int (m:Int)),some (.ref D),some (.int fm),some (.int (smK ks x)),none,none,none,some (.ref U),b3,b1,b0,az,none,none]/\Same H3 F/\F U=some (.lst ws)/\U≠f'/\(∀w∈ws,HdAt F ks bs x w)/\ws.length<=5*i)
    (xas hd ([]) none none none (xcl none rfl s4 ups (Ne.symm (neN h3 bi)) (λ_ h=>nomatch h) (zY _))) (λi σ F _ p=>?_) ?_ ?_
   ·obtain⟨_,_,_,_,_,_,_,sm,_⟩:=p
    exact zD (sm _ _ ac)
   ·rintro i vv σ H4 bb ⟨U,ws,b3,b1,b0,az,rfl,sm,ai,bq,an,ca⟩
    obtain⟨d',O,a8⟩:=aj.get bb;rw[zGM]at O;obtain⟨pr,al,rfl⟩:=zMS O;obtain⟨b,b5,rfl,hb,_,_,rfl,rfl,_,_,rfl,rfl,rfl⟩:=a8;have am:=zMG al;have af:i<ay.length:=(zES bb).1;refine(xai b _ rfl (zC (sm _ _ hb)) rfl _ _ rfl _ (jEAA _ rfl rfl ?_));refine(xbd _ rfl _ rfl kv ks pr.2 rfl ((wf.ksAt (t3.kd.same sm _)).seq) (λt b8 H5 s5 ht rp=>?_));refine(xai t _ rfl (zC ht) rfl _ _ rfl _ (jEAA _ rfl rfl ?_));obtain⟨ps,b7,h5,aw,ax⟩:=xre wf (t3.kn pr am) rp;obtain⟨a,us,rfl,as,ar⟩:=b7;have hl:=ar.length;rw[zLM]at hl;refine(xcx _ rfl _ rfl a rfl ⟨_,zC as⟩ ?_);refine xbb (xs:=us) (λi ys F=>Same H5 F/\(∀w∈ys,HdAt F ks bs x w)/\ys.length<=i) (jAA (Same.refl _) (λ_ h=>nomatch h) (zG _)) (xaz (by omega)) (λi ys F _ p=>zC (p.1 _ _ as)) ?_ ?_
    ·rintro i2 y ys F hy a4 M ⟨ae,ah,c9⟩
     obtain⟨d',O,a8⟩:=ar.get hy;rw[zGM]at O;obtain⟨pt,cf,rfl⟩:=zMS O;obtain⟨b2,cy,rfl,cm,_,_,rfl,rfl,_,_,rfl,rfl,rfl⟩:=a8;refine(xai b2 _ rfl (zC (ae _ _ cm)) rfl _ _ rfl _ (xdb _ rfl rfl (ext2 rfl rfl) ?_));refine(xao _ rfl rfl _ rfl ?_);by_cases hs:xgl (kAt ks pr.2)=S "rec"
     ·refine iteKT (zDT (congrArg V.str hs)) ?_
      refine(xay _ rfl _ rfl rfl (jEA _ rfl ?_));by_cases aa:pt.2=x
      ·refine iteKT (zDT (by rw[aa])) (xay _ rfl _ rfl (by walk_at"s") (λt2 a6=>nxtG a4 M (jAA (ae.trans (zB a6 _)) (λz hz=>?_) (by rw[zLA,List.length_singleton];omega))))
       rcases zMA hz with hz |hz
       ·exact(ah z hz).tups λb us q=>zB a6 _ _ _ q
       ·obtain⟨k,hk,a7,ch⟩:=aw hs
        rw[zMO hz];exact(xag t2 pr.1 pt.1 pr.2 k rfl ups am hk a7 (by rw[ch,<- aa];exact zMG cf))
      ·exact iteKF (zDF λz=>aa (V.str.inj z)) (nxtN a4 M (jAA ae ah (by omega)))
     ·exact iteKF (zDF λz=>hs (V.str.inj z)) (iteF (nxtN a4 M (jAA ae ah (by omega))))
    ·rintro ys H6 M ⟨ae,ah,c9⟩ D2 bt
     have b6:=zB bt (.lst ys);have aq:=s5.trans (ae.trans b6);refine(xbp U D2 _ _ rfl rfl (aq _ _ ai) ups (fits (by omega)) (λl3 bh=>?_));have sl:=zB bh (.lst (ws++ys));refine(xas l3 (ws++ys) _ _ _ (xcl _ rfl (sm.trans (aq.trans sl)) ups (Ne.symm (neN ((sm.trans aq) _ _ h3) bh)) (λz hz=>?_) (by rw[zLA];omega)));rcases zMA hz with hz |hz
     ·exact(an z hz).tups λb us q=>(aq.trans sl) _ _ q
     ·exact(ah z hz).tups λb us q=>(b6.trans sl) _ _ q
   ·rintro σ H4 ⟨U,ws,b3,b1,b0,az,rfl,sm,ai,bq,an,ca⟩
    have t4:=t3.same sm;have F4:=F3.same sm;refine(xbn _ rfl U _ rfl (.inl (zD ai)) _ _ rfl rfl (jEA _ rfl (ite2 (λc3=>?_) (λc3=>?_))))
    ·have cz:=zH c3
     refine(xbo _ rfl _ rfl _ rfl U _ rfl (.inl (zD ai)) (xal f' p3 q3 _ rfl (sm _ _ h3) (by omega) (by omega) (λr H6 r0 r1 f6=>?_)));obtain⟨i,rfl⟩:∃i:Nat,r=(i:Int):=⟨r.toNat,by omega⟩;have af:i<ws.length:=by omega
     obtain⟨b,z,g,y,k,eb,hb,hz,hk,a7,hg⟩:=(an ws[i] (zZ af)).tups (xah t4.fd f6);have cn:atI ws (i:Int)=some (.ref b):=xar (by rw[zGA af,eb]);refine(xal U _ _ _ rfl rfl (zD (f6.1 _ _ ai bq)) cn (xai b _ rfl (zC hb) rfl _ _ rfl _ (jEAA _ rfl rfl ?_)));refine(jEAA _ rfl (by walk_at"s") (λt1 ak=>(jEAA _ rfl (by walk_at"s") (λt2 a6=>?_))));have y1:=zB ak (.tup [.str (S "box"),.str z]);have y2:=zB a6 (.tup [.str (S "get"),.ref t1,.str g]);exact q _ (tGet (tBox z) g) _ ((F4.trans f6).same (y1.trans y2)) (xac t2 _ rfl ups _ _ rfl rfl _ (xbh _ rfl (xac t1 _ rfl (y2 _ _ ups) _ _ rfl rfl _ (jEAA _ rfl rfl rfl)) _ _ rfl rfl rfl)) (xxl (p:=(g,x)) wf hk a7 hg (xj2 hz))
    ·refine ao _ _ (xaf λR7 a0=>?_)
     refine(xao _ rfl rfl _ rfl (iteKF (zDF λz=>absurd (V.int.inj z) (by omega)) (iteF ?_)));refine a0 _ _ ?_;exact(xa4 _ rfl _ rfl _ rfl _ rfl _ rfl (xbm _ rfl f' kv (.ref bl) ks (xag bs x l m j rfl ab Z t4 m8 (jAA Y I (λa d F fd ra U=>q a d F (F4.trans fd) ra U)))))
  ·refine ao _ _ (xaf λR7 a0=>?_)
   refine(xao _ rfl rfl _ rfl (iteKF (zDF λz=>absurd (V.int.inj z) (by omega)) (iteF ?_)));refine a0 _ _ ?_;exact(xa4 _ rfl _ rfl _ rfl _ rfl _ rfl (xbm _ rfl f' kv (.ref bl) ks (xag bs x l m j rfl ab Z t3 m8 (jAA Y I (λa d F fd ra U=>q a d F (F3.trans fd) ra U)))))
 refine(xao _ rfl rfl _ rfl (iteKF (zDF λz=>e4 (V.int.inj z)) (iteF ?_)));refine ao _ _ (xaf λR7 a0=>?_);by_cases e5:fm=5
 ·refine(xao _ rfl rfl _ rfl (iteKT (zDT (by rw[e5])) ?_))
  refine(xbe _ rfl _ _ rfl rfl _ rfl (ite2 (λc2=>?_) (λc2=>?_)))
  ·have cv:(0:Int)<(m:Int):=zH c2
   refine(xay _ rfl bl rfl ⟨_,zD ac⟩ ?_);refine xe2 (xs:=ay) (λi ys F=>Same H3 F/\∃zs:List Str,ys=zs.map V.str/\(∀z∈zs,TgOk ks bs z)/\zs.length<=i) (xfh (Same.refl _) ([]) rfl (λ_ h=>nomatch h) (zG _)) (xaz (by omega)) (λi ys F _ p=>zD (p.1 _ _ ac)) ?_ ?_
   ·rintro i y ys F hy a4 M ⟨sm,zs,rfl,a9,ba⟩
    obtain⟨d',O,a8⟩:=aj.get hy;rw[zGM]at O;obtain⟨pr,al,rfl⟩:=zMS O;obtain⟨b,b5,rfl,hb,_,_,rfl,rfl,_,_,rfl,rfl,rfl⟩:=a8;have am:=zMG al;refine(xai b _ rfl (zC (sm _ _ hb)) rfl _ _ rfl _ (xdb _ rfl rfl (ext2 rfl rfl) ?_));refine(xbd _ rfl _ rfl kv ks pr.2 rfl ((wf.ksAt (t3.kd.same sm _)).seq) (λt b8 H5 s5 ht rp=>(xbp t _ _ _ rfl rfl (zC ht) rfl rfl (jEA _ rfl ?_))));obtain⟨ps,b7,h5,aw,ax⟩:=xre wf (t3.kn pr am) rp;by_cases hs:xgl (kAt ks pr.2)=S "alt"
    ·refine iteKT (zDT (congrArg V.str hs)) (jEA _ rfl (nxtG a4 M (xfh (sm.trans s5) (zs++[pr.1]) (by rw[zAP];rfl) (λz hz=>?_) (by rw[zLA,List.length_singleton];omega))))
     rcases zMA hz with hz |hz
     ·exact a9 z hz
     ·obtain⟨k,hk,a7,_⟩:=ax hs
      rw[zMO hz];exact(xaq pr.2 k am hk a7)
    ·exact iteKF (zDF λz=>hs (V.str.inj z)) (nxtN a4 M (xfh (sm.trans s5) zs rfl a9 (by omega)))
   rintro ys H4 M ⟨sm,a3,rfl,cc,d0⟩ G hG;have sG:=zB hG (.lst (a3.map V.str));have s4:=sm.trans sG;have t4:=t3.same s4;have F4:=F3.same s4;have Gf:G≠f':=Ne.symm (neN (sm _ _ h3) hG);have gl:(a3.map V.str).length=a3.length:=zLM _;refine(xbn _ rfl G _ rfl (.inl (zD ups)) _ _ rfl rfl (jEA _ rfl (ite2 (λc3=>?_) (λc3=>?_))))
   ·have ci:=zH c3
    rw[gl]at ci;refine(xbo _ rfl _ rfl _ rfl G _ rfl (.inl (zD ups)) (xal f' p3 q3 _ rfl (s4 _ _ h3) (by rw[gl];omega) (by rw[gl];omega) (λr H6 r0 r1 f6=>?_)));rw[gl]at r1;obtain⟨i,rfl⟩:∃i:Nat,r=(i:Int):=⟨r.toNat,by omega⟩;have af:i<a3.length:=by omega
    obtain⟨y,k,b9,hk,a7⟩:=cc a3[i] (zZ af);have au:=zMF hk;have t6:=t4.fed f6;have F6:=F4.trans f6;have bm:=t6.bx;obtain⟨d9,bz,ct,bo,bd,cw⟩:=bm;cases ct;refine(xal G _ _ (.str a3[i]) rfl rfl (zD (f6.1 _ _ ups Gf)) (xar (by rw[zGM,zGA af];rfl)) ?_);refine(xbz _ rfl _ rfl bl bz (bKV bs) rfl bo (xfr bd) (λp hp=>?_));have sp:=zB hp (.dK (xb5 [] (bKV bs)));have bj:=DGet.rd (H:=upd H6 p (.dK (xb5 [] (bKV bs)))) (a:=p) (kvs:=xb5 [] (bKV bs)) (k:=(Sum.inr a3[i]:Key)) (Or.inl ups);rw[xm5 ti.nd b9]at bj;refine(xa3 _ rfl p (.str y) rfl bj ?_);have t7:=t6.same sp;refine(xdu kv ks y rfl ((wf.ksAt t7.kd).seq) (λt b8 H8 s8 ht rp=>(xal t _ _ _ rfl rfl (zC ht) rfl ?_)));have t8:=t7.same s8;have F8:=F6.same (sp.trans s8);rw[hk]at rp;have c7:=rp;obtain⟨a,us,rfl,as,ar⟩:=rp;have hl:=ar.length;rw[zLM]at hl;have h5:=wf.pts k au;refine(xbe _ rfl _ _ rfl rfl _ rfl (xbn _ rfl a _ rfl (.inr (zC as)) _ _ rfl rfl (jAE (.inl ⟨by omega,by omega⟩) _ (xao _ rfl rfl _ rfl (ite2 (λc4=>?_) (λc4=>?_))))))
    ·have bw:smK ks x*(us.length:Int)<=l-2:=zH c4
     rw[hl]at bw;obtain⟨m',rfl⟩:∃m',m=m'+1:=⟨m-1,by omega⟩;refine(jEAA _ rfl (by walk_at"s") (λt1 ak=>?_));have y1:=zB ak (.tup [.str (S "box"),.str a3[i]]);refine(xa4 _ rfl _ rfl _ rfl _ rfl _ rfl (xbe _ rfl _ _ rfl rfl _ rfl (xbm m' (by omega) f' kv (.ref bl) (.ref a) (xag ks bs k.parts x (l-2) rfl (t8.same y1) (by omega) (c7.same y1 _) (wf.alt k au a7) (jAAA h5 (wf.pnd k au) (λp hp=>xhn wf au hp) (jAA av bw (λu rs H9 f9 ru bg bf cg ce=>⟨(by walk_at"s"),λt2 a6=>?_⟩)))))));have y2:=zB a6 (.tup [.str (S "case"),.ref t1,u]);have cl:=xah (t8.same y1).fd f9 _ _ ups;exact q _ (xgj (tBox a3[i]) rs) _ (((F8.same y1).trans f9).same y2) (xac t2 _ rfl ups _ _ rfl rfl _ (xbh _ rfl (xac t1 _ rfl (y2 _ _ cl) _ _ rfl rfl _ (jEAA _ rfl rfl rfl)) _ _ rfl (ru.same y2 _) rfl)) (TmB.le (xvg wf hk a7 (xj2 b9) (by omega) cg bg bf ce) (by omega))
    ·refine a0 _ _ ?_
     exact(xa4 _ rfl _ rfl _ rfl _ rfl _ rfl (xbm _ rfl f' kv (.ref bl) ks (xag bs x l m j rfl ab Z t8 m8 (jAA Y I (λa d F fd ra U=>q a d F (F8.trans fd) ra U)))))
   ·refine a0 _ _ ?_
    exact(xa4 _ rfl _ rfl _ rfl _ rfl _ rfl (xbm _ rfl f' kv (.ref bl) ks (xag bs x l m j rfl ab Z t4 m8 (jAA Y I (λa d F fd ra U=>q a d F (F4.trans fd) ra U)))))
  ·refine a0 _ _ ?_
   exact(xa4 _ rfl _ rfl _ rfl _ rfl _ rfl (xbm _ rfl f' kv (.ref bl) ks (xag bs x l m j rfl ab Z t3 m8 (jAA Y I (λa d F fd ra U=>q a d F (F3.trans fd) ra U)))))
 refine(xao _ rfl rfl _ rfl (iteKF (zDF λz=>e5 (V.int.inj z)) (iteF ?_)));refine a0 _ _ ?_;exact(xa4 _ rfl _ rfl _ rfl _ rfl _ rfl (xbm _ rfl f' kv (.ref bl) ks (xag bs x l m j rfl ab Z t3 m8 (jAA Y I (λa d F fd ra U=>q a d F (F3.trans fd) ra U)))))
theorem xve(T:Tx K e):∀c,DefIs P w K e base (3*c+10) "_law_term" qaf (spTw c):=by
 intro c
 induction c using Nat.strongRecOn with
 |_ c g=>
  have take:∀k,DefIs P w K e base (k+1) "_law_take" qad xc2:=λk=>xjc T;have b:∀k,8<=k->DefIs P w K e base k "_law_small" qab (spSm smK 6):=λk j=>(xi4 T 6).mono j;have a:DefIs P w K e base (3*c+7) "_law_term" qaf (xsy c):=DefIs.anyP (Pr:=λf=>f<c) (sps:=spTw) T.kJ λf h=>(g f h).mono (by omega);exact xtc (n:=3*c+9) T (take _) (xqz (n:=3*c+8) T (take _)) (b _ (by omega)) (xb8 T) (a.mono (by omega)) (DefIs.anyP (Pr:=λm=>7*m+6<c) (sps:=xl5) T.kH λm i=>xte (n:=3*c+8) T i (take _) (a.mono (by omega))) (xh4 (n:=3*c+8) T (xb8 T) (take _) (xid T (take _)) (b _ (by omega)) (a.mono (by omega)))
def xpp:Sp:=λvs H Q _=>∃(f:Addr) (kv bv:V) (ks:List Kn) (bs:List (Str×Str)) (x:Str),vs=[.ref f,kv,bv,.str x]/\TIn H f kv bv ks bs 3/\KIn ks 6 x/\∀a d H',Fed f H H'->RelD H' (.ref a) d->TmB ks 21 bs d x->Q (.ref a) H'
def spTC:Sp:=λvs H Q E=>∃c,c<=20/\spTw c vs H Q E
theorem xkm (T:Tx K j) (e:DefIs P w K j base n "_law_take" qad xc2) (b:DefIs P w K j base n "_law_small" qab (spSm smK 6)) (c:DefIs P w K j base n "_law_term" qaf spTC) :
  DefIs P w K j base (n+1) "_law_new_term" qaq xpp:=by
 refine DefIs.of T.kK xkc (by walk_at"l") (λf M A outer s H vs Q E l h=>?_);obtain⟨u,kv,O,ks,bs,x,rfl,i,g,q⟩:=h;refine(jEA _ (zpo (xaj (pd c l (va 0 (va 1 (va 2 (va 3 (zpc (xat xb2 (pd b l (va 1 (v1 3))) (pd e l (va 0 (zpc pI pN zso)))) (zpc pI pN zso) xa8)))))))) ?_);refine(xa4 _ rfl _ rfl _ rfl _ rfl _ rfl (xcc _ rfl kv ks x rfl i.kd i.wf g (λH1 o=>?_)));have m:=i.same o;obtain⟨p0,q0,F⟩:=i.fd;obtain⟨C,z,I⟩:=m.fd;refine(xaa _ rfl u C z _ rfl I (by decide) (by decide) (λr H2 Z Y p=>?_));refine(xaq _ _ rfl rfl (xbm 20 (zG _) u kv O ks (xag bs x _ 2 6 rfl rfl (by decide) (m.fed p) (by decide) (jAA g (by omega) (λa d U J y G=>q a d U ((((Fed.refl F).same o).trans p).trans J) y G)))))
theorem xmh(T:Tx K a):DefIs P w K a base 80 "_law_new_term" qaq xpp:=
 xkm (n:=79) T (xjc T) ((xi4 T 6).mono (by omega)) (DefIs.anyP (Pr:=λc=>c<=20) (sps:=spTw) T.kJ λc b=>(xve T c).mono (by omega))
def xj7(m:Nat):Sp:=λvs H Q _=>∃p x v d env,vs=[.ref p,.str x,v]/\EnAt H p m env/\RelD H v d/\m<=1000/\∀p' H',Same H H'->EnAt H' p' (m+1) (env.put x d)->Q (.ref p') H'
theorem xl9(T:Tx K g):DefIs P w K g base (n+1) "with_box" qa6 (xj7 m):=by
 refine DefIs.of T.jU sc_with_box (by walk_at"l") (λf u A outer s H vs Q E l h=>?_);obtain⟨p,x,v,d,env,rfl,⟨kvs,b,o,r⟩,i,z,q⟩:=h;have nd:=sc_with_box.nd;have j:=xcs l
 refine⟨_,(zpn (psn 3 nd (xau xeb rfl T.k4 PyProof.Rows.boot_dict (v1 0)))
   (zpn (xc9 j (pv 3) (pv 1) (pv 2) rfl)
   (zpo (xaj (pv 3))))),?_⟩
 refine(xa3 _ rfl p kvs rfl b (λc e=>?_));have y:=zB e (.dK kvs);refine(xbo _ rfl _ rfl _ rfl c _ rfl (DPut.k (k:=Sum.inr x) ups (xaz (by omega))) (jEA _ rfl ?_));have a:=Same.new2 e (.dK kvs) (.dK (putK kvs (Sum.inr x) v));exact q c _ a (EnAt.put b o r a (i.same a _) ups)
def Rz(K:Fg)(H:Hp)(v:Value)(d:Option Addr)(c:Nat):Prop:=∃x,v=.ref x/\d=none/\H x=some (excF x (cAt K c) none .none)
theorem xdl{H:Hp}{e C:Addr}(a:H e=none):Same H (upd (upd H e (excO e C none)) e (excF e C none .none)):=λb u q=>by
 rw[xa7 (neN q a),xa7 (neN q a)];exact q
theorem xcb{a b:Str}{m n:Nat}(e:a.length<=m)(c:b.length<=n):(a++b).length<=m+n:=by
 rw[Str.length_append];omega
theorem xk4{i:Int}(h:i.natAbs<2 ^ 64):i.natAbs.log2<1920:=by
 by_cases h0:i.natAbs=0
 ·rw[h0];decide
 ·have:=(Nat.log2_lt h0).mpr h
  omega
theorem xri{i:Int}(h0:0<=i)(h:i<10 ^ 18):(Str.ofString (toString i)).length<=18:=by
 obtain⟨m,rfl⟩:=Int.eq_ofNat_of_zero_le h0;have e:=congrArg List.length (xq1 m);rw[zLM]at e;show(numS (m:Int)).cps.size<=18;rw[<- Array.length_toList,e];exact(Nat.length_toDigits_le_iff (b:=10) (k:=18) (by decide) (by decide)).mpr (by omega)
def Fails(K:Fg)(H:Hp)(E:XK)(c:Nat):Prop:=∀v d H',Same H H'->Rz K H' v d c->E v d H'
theorem Fails.on{K:Fg}{H a:Hp}{E:XK}{c:Nat}(h:Fails K H E c)(s:Same H a):Fails K a E c:=λv d e b r=>h v d e (s.trans b) r
theorem xuy{c:Bool}{A B:Prop}(h:c=true)(a:A):if c=true then A else B:=by rw[if_pos h];exact a
def xo2(K:Fg)(H:Hp)(Q:VK)(E:XK)(r:Res):Prop:=(∀k,r=.ok k->∀H',Same H H'->Q (.str k) H')/\∀c,r=.error c->Fails K H E c
def xlx(K:Fg)(H:Hp)(Q:VK)(E:XK)(o:Option Nat):Prop:=(o=none->∀H',Same H H'->Q .non H')/\∀c,o=some c->Fails K H E c
abbrev RK:=List Kn->RKt
structure In3(H:Hp)(kv tv:V)(p:Addr)(ks:List Kn)(d:D)(env:En)(m:Nat):Prop where
 kd:KsAt H kv ks
 kl:KLn ks
 el:EnvL env
 tm:RelD H tv d
 en:EnAt H p m env
theorem In3.sub{H b:Hp}{kv c:V}{p:Addr}{ks:List Kn}{d:D}{env:En}{m:Nat}(h:In3 H kv c p ks d env m)(s:Same H b){a:V}{d':D}(t:RelD H a d'):In3 b kv a p ks d' env m:=⟨h.kd.same s,h.kl,h.el,t.same s _,h.en.same s⟩
def spKt(K:Fg)(R:RK)(m:Nat):Sp:=λvs H Q E=>∃kv tv p ks d env r,vs=[kv,tv,.ref p]/\In3 H kv tv p ks d env m/\R ks env d r/\xo2 K H Q E r
def xer(K:Fg)(R:RK)(m:Nat):Sp:=λvs H Q E=>∃kv tv p ks d env r k,vs=[kv,tv,.ref p,.str k]/\In3 H kv tv p ks d env m/\k.length<=100/\R ks env d r/\xlx K H Q E (nk k r)
def xi0(K:Fg):Sp:=λvs H Q E=>∃a b:Str,vs=[.str a,.str b]/\a.length<=100/\b.length<=100/\xlx K H Q E (nk b (.ok a))
def xl3(K:Fg):Sp:=λvs H Q E=>∃kv ks,∃x so:Str,vs=[kv,.str x,.str so]/\KsAt H kv ks/\(∀c,xgm ks x so=some c->x.length<=100)/\so.length<=100/\xlx K H Q E (xgm ks x so)
def xfd(K:Fg)(R:RK)(m:Nat):Sp:=λvs H Q E=>∃kv tv p ks d env r,∃so:Str,vs=[kv,tv,.ref p,.str so]/\In3 H kv tv p ks d env m/\so.length<=100/\R ks env d r/\xo2 K H Q E (ksR ks so r)
def xg6(K:Fg):Sp:=λvs H Q E=>∃kv ks kn,∃k f:Str,vs=[kv,.str k,.str f]/\KsAt H kv ks/\KLn ks/\kAt ks k=some kn/\(xch kn f=none->f.length<=100)/\xo2 K H Q E (xh2 kn f)
def xug(K:Fg):Sp:=λvs H Q E=>∃i:Int,vs=[.int i]/\0<=i/\i<10 ^ 18/\xo2 K H Q E (if i<4294967296 then .ok (S "num") else .error 4)
def xui(K:Fg)(m:Nat):Sp:=λvs H Q E=>∃(x:Str) (p:Addr) (env:En) (r:Res),vs=[.str x,.ref p]/\EnAt H p m env/\((∃k,env x=some (.str k)/\r=.ok k)\/(env x=none/\x.length<=100/\r=.error 2))/\xo2 K H Q E r
def RLen(R:RK):Prop:=∀ks env d r,KLn ks->EnvL env->R ks env d r->ResL r
theorem xgg(T:Tx K C):DefXs P w K C base (n+1) "need_same" qak (xi0 K):=by
 refine DefXs.of T.jP sc_need_same (by walk_at"l") (λf M A outer s H vs Q E F h=>?_);obtain⟨a,b,rfl,r,p,q,x⟩:=h;have nd:=sc_need_same.nd;have O:=xcs F;refine(jEA _ (zpo (xa0 (pR xft (pv 0) (pv 1) (nM _)) (zpo (xb6 rfl (xdr (T.xt.cl 4 (by decide)) (T.xt.ini 4 (by decide) (by decide)) rfl T.uN (zpc (xcr (xb0 (xcz (pv 0) (xb0 (xcz (pv 1) (xb0 xdm)))))) pN xbr)))) pQ)) ?_);refine(xay _ rfl _ rfl rfl (jEA _ rfl (ite2 (λc=>?_) (λc=>?_))))
 ·have g:a≠b:=λz=>by rw[z]at c;simp at c
  have G:=x 4 (xyo g);have u:(Str.empty++Str.ofString "a term of the kind ").length<=19:=by walk_at"k"
  have o:=xcb u r;have J:(Str.ofString " where ").length<=7:=by walk_at"k"
  have m:=xcb o J;have l:=xcb m p;have I:(Str.ofString " is asked for").length<=13:=by walk_at"k"
  have j:=xcb l I;refine(jAEA (fits (zF u (by decide))) _ rfl (xbj _ rfl (fits (zF r (by decide))) (fits (zF o (by decide))) (fits (zF m (by decide))) (xay _ rfl _ rfl (fits (zF p (by decide))) (jAAA (fits (zF l (by decide))) (fits (zF j (by decide))) (fits (zF j (by decide))) ⟨(by walk_at"s"),λe i=>?_⟩))));exact(xb3 e (cAt K 4) none rfl ups (T.xt.cl 4 (by decide)) (G _ _ _ (xdl i) (jEAA e rfl rfl ups)))
 ·have i:a=b:=by
   by_cases z:a=b
   ·exact z
   ·exact absurd (show(!decide (V.str a=V.str b))=true by rw[zDF λy=>z (V.str.inj y)];rfl) c
  exact q (by rw[i];exact nk_ok) _ (Same.refl _)
theorem xgh(T:Tx K g)(R:RK)(j:RLen R)(b:DefXs P w K g base n "kind_of" qaa (spKt K R m))(a:DefXs P w K g base n "need_same" qak (xi0 K)):DefXs P w K g base (n+1) "need_kind" qag (xer K R m):=by
 refine DefXs.of T.jO sc_need_kind (by walk_at"l") (λf F A outer s H vs Q E i h=>?_);obtain⟨kv,x,p,ks,d,env,r,k,rfl,hi,C,u,q,o⟩:=h;have nd:=sc_need_kind.nd;have G:=xcs i;refine(jEA _ (zpo (xba (xav a i (zpc (xav b i (va 0 (va 1 (v1 2)))) (v1 3) zsc)))) ?_);refine(xbg _ rfl _ rfl _ rfl kv x (xas p ks d env r (jAAA rfl hi u ⟨λk' e J l=>?_,λc e=>o c (by rw[e];rfl)⟩)));subst e;exact(xa3 _ rfl k' k rfl (j _ _ _ _ hi.kl hi.el u k' rfl) (jAA C (λz I y=>q z _ (l.trans y)) (λc z=>(o c z).on l)))
theorem xkq(T:Tx K F)(a:DefIs P w K F base n "sort_of" qac xc3):DefXs P w K F base (n+1) "need_sort" qat (xl3 K):=by
 refine DefXs.of T.jQ sc_need_sort (by walk_at"l") (λf Y A outer s H vs Q E M h=>?_);obtain⟨kv,ks,x,i,rfl,O,J,m,q,C⟩:=h;have nd:=sc_need_sort.nd;have Z:=xcs M
 refine⟨_,(zpn (psn 3 nd (pd a M (va 0 (v1 1))))
   (zpn (xa0 (pR xhe (pv 3) xc5 (nM _)) (zpo (xb6 rfl (xdr (T.xt.cl 2 (by decide)) (T.xt.ini 2 (by decide) (by decide)) rfl T.uL (zpc (xcr (xb0 (xcz (pv 1) xdm))) pN xbr)))) pQ)
   (zpo (xa0 (pR xft (pv 3) (pv 2) (nM _)) (zpo (xb6 rfl (xdr (T.xt.cl 4 (by decide)) (T.xt.ini 4 (by decide) (by decide)) rfl T.uN (zpc (xcr (xb0 (xcz (pv 1) (xb0 (xcz (pv 2) xdm))))) pN xbr)))) pQ)))),?_⟩
 refine(xbd _ rfl _ rfl kv ks x rfl O ?_)
 cases g:kAt ks x with
 |none=>
  have b:=J 2 (xia g);have u:=C 2 (xia g);refine(xao _ rfl rfl _ rfl (iteKT (zDT rfl) ?_));have r:(Str.empty++Str.ofString "no kind ").length<=8:=by walk_at"k"
  have j:=xcb r b;refine(jAEA (fits (zF r (by decide))) _ rfl (xcl _ rfl (fits (zF b (by decide))) (fits (zF j (by decide))) (fits (zF j (by decide))) (by walk_at"s") (λe p=>?_)));exact(xb3 e (cAt K 2) none rfl ups (T.xt.cl 2 (by decide)) (u _ _ _ (xdl p) (jEAA e rfl rfl ups)))
 | some l=>
  refine(xao _ rfl rfl _ rfl (iteKF (zDF (λz=>by cases z)) ?_));refine(xay _ rfl _ rfl rfl (jEA _ rfl (ite2 (λc=>?_) (λc=>?_))))
  ·have o:l.sort≠i:=λz=>by rw[show xvr (some l)=V.str i by rw[<- z];rfl]at c;simp at c
   have b:=J 4 (xnh g o);have u:=C 4 (xnh g o);have r:(Str.empty++Str.ofString "the kind ").length<=9:=by walk_at"k"
   have j:=xcb r b;have U:(Str.ofString " is no ").length<=7:=by walk_at"k"
   have I:=xcb j U;have G:=xcb I m;refine(jAEA (fits (zF r (by decide))) _ rfl (xbj _ rfl (fits (zF b (by decide))) (fits (zF j (by decide))) (fits (zF I (by decide))) (xay _ rfl _ rfl (fits (zF m (by decide))) (jAAA (fits (zF G (by decide))) (fits (zF G (by decide))) (by walk_at"s") (λe p=>?_)))));exact(xb3 e (cAt K 4) none rfl ups (T.xt.cl 4 (by decide)) (u _ _ _ (xdl p) (jEAA e rfl rfl ups)))
  ·have p:l.sort=i:=by
    by_cases z:l.sort=i
    ·exact z
    ·exact absurd (show(!decide (V.str l.sort=V.str i))=true by rw[zDF λy=>z (V.str.inj y)];rfl) c
   exact q (xfn g p) _ (Same.refl _)
theorem xhg(T:Tx K O)(R:RK)(a0:RLen R)(g:DefXs P w K O base n "kind_of" qaa (spKt K R m))(b:DefIs P w K O base n "sort_of" qac xc3):DefXs P w K O base (n+1) "kind_of_sort" qau (xfd K R m):=by
 refine DefXs.of T.jR sc_kind_of_sort (by walk_at"l") (λf a1 A outer s H vs Q E U h=>?_);obtain⟨kv,tv,p,ks,d,env,r,o,rfl,hi,i,hR,q,M⟩:=h;have nd:=sc_kind_of_sort.nd;have hu:=xcs U
 refine⟨_,(zpn (psn 4 nd (xav g U (va 0 (va 1 (v1 2)))))
   (zpn (xa0 (pR xft (pd b U (va 0 (v1 4))) (pv 3) (nM _)) (zpo (xb6 rfl (xdr (T.xt.cl 4 (by decide)) (T.xt.ini 4 (by decide) (by decide)) rfl T.uN (zpc (xcr (xb0 (xcz (pv 4) (xb0 (xcz (pv 3) xdm))))) pN xbr)))) pQ)
   (zpo (xaj (pv 4))))),?_⟩
 refine(xbg _ rfl _ rfl _ rfl kv tv (xas p ks d env r (jAAA rfl hi hR ⟨λk e H1 J=>?_,λc e=>M c (by rw[e];rfl)⟩)));subst e;have j:=a0 _ _ _ _ hi.kl hi.el hR k rfl;refine(xbd _ rfl _ rfl kv ks k rfl (hi.kd.same J) ?_)
 cases l:kAt ks k with
 |none=>
  have Z:=M 4 (xtm l);refine(xao _ rfl rfl _ rfl (xuy (by show(!decide (V.non=V.str o))=true;rw[zDF (λz=>by cases z)];rfl) ?_));have I:(Str.empty++Str.ofString "a term of the kind ").length<=19:=by walk_at"k"
  have C:=xcb I j;have e3:(Str.ofString ", which is no ").length<=14:=by walk_at"k"
  have x:=xcb C e3;have u:=xcb x i;refine(jAEA (fits (zF I (by decide))) _ rfl (xbj _ rfl (fits (zF j (by decide))) (fits (zF C (by decide))) (fits (zF x (by decide))) (xay _ rfl _ rfl (fits (zF i (by decide))) (jAAA (fits (zF u (by decide))) (fits (zF u (by decide))) (by walk_at"s") (λe G=>?_)))));exact(xb3 e (cAt K 4) none rfl ups (T.xt.cl 4 (by decide)) (Z _ _ _ (J.trans (xdl G)) (jEAA e rfl rfl ups)))
 | some F=>
  refine(xao _ rfl rfl _ rfl (ite2 (λc=>?_) (λc=>?_)))
  ·have Y:F.sort≠o:=λz=>by rw[show xvr (some F)=V.str o by rw[<- z];rfl]at c;simp at c
   have Z:=M 4 (xyr l Y);have I:(Str.empty++Str.ofString "a term of the kind ").length<=19:=by walk_at"k"
   have C:=xcb I j;have e3:(Str.ofString ", which is no ").length<=14:=by walk_at"k"
   have x:=xcb C e3;have u:=xcb x i;refine(jAEA (fits (zF I (by decide))) _ rfl (xbj _ rfl (fits (zF j (by decide))) (fits (zF C (by decide))) (fits (zF x (by decide))) (xay _ rfl _ rfl (fits (zF i (by decide))) (jAAA (fits (zF u (by decide))) (fits (zF u (by decide))) (by walk_at"s") (λe G=>?_)))));exact(xb3 e (cAt K 4) none rfl ups (T.xt.cl 4 (by decide)) (Z _ _ _ (J.trans (xdl G)) (jEAA e rfl rfl ups)))
  ·have G:F.sort=o:=by
    by_cases z:F.sort=o
    ·exact z
    ·exact absurd (show(!decide (V.str F.sort=V.str o))=true by rw[zDF λy=>z (V.str.inj y)];rfl) c
   exact(jEA _ rfl (q k (xnu l G) _ J))
theorem xko(T:Tx K Y)(a:DefIs P w K Y base n "parts_of" qac xcj):DefXs P w K Y base (n+1) "part_kind" qal (xg6 K):=by
 refine DefXs.of T.jS sc_part_kind (by walk_at"l") (λf a0 A outer s H vs Q E hr h=>?_);obtain⟨kv,ks,G,k,j,rfl,hk,I,x,J,q,qf⟩:=h;have nd:=sc_part_kind.nd;have hu:=xcs hr
 refine⟨_,(zpn (xca (xdy rfl rfl) rfl (xap (K:=K) rfl (pd a hr (va 0 (v1 1)))) (pgn 3 nd)
   (zpo (xa0 (pR xa9 (px K (pv 3) pI) (pv 2) (nM _)) (zpo (xaj (px K (pv 3) pI))) pQ)))
   (zpo (xb6 rfl (xdr (T.xt.cl 2 (by decide)) (T.xt.ini 2 (by decide) (by decide)) rfl T.uL (zpc (xcr (xb0 (xcz (pv 2) (xb0 (xcz (pv 1) xdm))))) pN xbr))))),?_⟩
 refine(xbd _ rfl _ rfl _ ks k rfl hk (λu H1 O U=>?_));rw[x]at U;obtain⟨e,ps,rfl,y,m⟩:=U;have hl:=m.length;rw[zLM]at hl;refine(jEAA e rfl ⟨_,zC y⟩ ?_);refine xdc (xs:=ps) (λi σ C=>∃F,σ=[some kv,some (.str k),some (.str j),F]/\C=H1/\(G.parts.take i).find? (λp=>decide (p.1=j))=none) (jEAA none rfl rfl rfl) (λi σ C _ p=>?_) ?_ ?_
 ·obtain⟨_,_,rfl,_⟩:=p
  exact zC y
 ·rintro i v σ C hv ⟨F,rfl,rfl,hn⟩
  obtain⟨d,hd,rd⟩:=m.get hv;rw[zGM]at hd;obtain⟨p,o,rfl⟩:=zMS hd;obtain⟨b,ws,rfl,hb,_,_,rfl,rfl,_,_,rfl,rfl,rfl⟩:=rd;refine(xaa _ rfl b _ _ _ rfl rfl (zC hb) rfl (xao _ rfl rfl _ rfl (ite2 (λc=>?_) (λc=>?_))))
  ·have M:p.1=j:=V.str.inj (zH c)
   have e2:=(xdk hn o).1 (zDT M);have l:xch G j=some p.2:=by unfold xch;rw[e2];rfl
   exact(xaa _ rfl b _ _ _ rfl rfl (zC hb) rfl (q p.2 (xeu l) _ O))
  ·have M:¬p.1=j:=λz=>c (zDT (congrArg V.str z))
   exact(jEAA _ rfl rfl ((xdk hn o).2 (zDF M)))
 ·rintro σ C ⟨F,rfl,rfl,hn⟩
  rw[zTL (by omega)]at hn;have l:xch G j=none:=by unfold xch;rw[hn];rfl
  have hf:=qf 2 (by unfold xh2;rw[l]);have r:=(xfg I x).1;have g:=J l;have e1:(Str.empty++Str.ofString "no part ").length<=8:=by walk_at"k"
  have l2:=xcb e1 g;have l:(Str.ofString " in the kind ").length<=13:=by walk_at"k"
  have l3:=xcb l2 l;have Z:=xcb l3 r;refine(jAEA (fits (zF e1 (by decide))) _ rfl (xbj _ rfl (fits (zF g (by decide))) (fits (zF l2 (by decide))) (fits (zF l3 (by decide))) (xay _ rfl _ rfl (fits (zF r (by decide))) (jAAA (fits (zF Z (by decide))) (fits (zF Z (by decide))) (by walk_at"s") (λe y=>?_)))));exact(xb3 e (cAt K 2) none rfl ups (T.xt.cl 2 (by decide)) (hf _ _ _ (O.trans (xdl y)) (jEAA e rfl rfl ups)))
theorem xmc(T:Tx K p):DefXs P w K p base (n+1) "num_kind" ["n"] (xug K):=by
 refine DefXs.of T.jF sc_num_kind (by walk_at"l") (λf F A outer s H vs Q E x h=>?_);obtain⟨i,rfl,h0,c,q,g⟩:=h;have nd:=sc_num_kind.nd;have G:=xcs x
 refine⟨_,(zpn (xa0 (xqg (xs6 xz4 xkj pI (pv 0) (xqo T.kY))) (zpo (xb6 rfl (xdr (T.xt.cl 4 (by decide)) (T.xt.ini 4 (by decide) (by decide)) rfl T.uN (zpc (xcr (xum (pv 0) (xb0 (xum (xqo T.kY) xdm)))) pN xbr)))) pQ)
   (zpo (xaj pS))),?_⟩
 refine(xbe _ rfl _ _ rfl rfl _ rfl (iteKT (zDT h0) (xaq _ _ rfl rfl (jEA _ rfl ?_))));by_cases b:i<4294967296
 ·rw[if_pos b]at q
  rw[zDT b];exact q _ rfl _ (Same.refl _)
 ·rw[if_neg b]at g
  rw[zDF b];have y:=g 4 rfl;have u:=xri (i:=i) (h0) (c);have o:=xcb (a:=Str.empty) (m:=0) (by walk_at"k") u;have C:(Str.ofString " is no number below ").length<=20:=by walk_at"k"
  have l:=xcb o C;have r:=xri (i:=4294967296) (by decide) (by decide);have j:=xcb l r;refine(xay _ rfl _ rfl (xk4 (by omega)) (jAA (fits (zF o (by decide))) (fits (zF l (by decide))) (xcl _ rfl (xk4 (by decide)) (fits (zF j (by decide))) (fits (zF j (by decide))) (by walk_at"s") (λe z=>?_))));exact(xb3 e (cAt K 4) none rfl ups (T.xt.cl 4 (by decide)) (y _ _ _ (xdl z) (jEAA e rfl rfl ups)))
theorem xme(T:Tx K C):DefXs P w K C base (n+1) "box_kind" qas (xui K m):=by
 refine DefXs.of T.jG sc_box_kind (by walk_at"l") (λf O A outer s H vs Q E G h=>?_);obtain⟨x,p,env,r,rfl,⟨kvs,l,U,o⟩,b,q,z⟩:=h;have nd:=sc_box_kind.nd;have j:=xcs G
 refine⟨_,(zpn (xa0 (xfp (xfq j (pv 0) (pv 1))) (zpo (xb6 rfl (xdr (T.xt.cl 2 (by decide)) (T.xt.ini 2 (by decide) (by decide)) rfl T.uL (zpc (xcr (xb0 (xcz (pv 0) (xb0 xdm)))) pN xbr)))) pQ)
   (zpo (xaj (xds j (pv 1) (pv 0) (λ_ _=>rfl))))),?_⟩
 rcases b with⟨k,b,rfl⟩ |⟨b,a,rfl⟩
 ·obtain⟨v,F,y⟩:=(o x).2 _ b
  obtain rfl:v=.str k:=y;have g:DGet H p (.str x) (some (.str k)):=F ▸ DGet.k (k:=Sum.inr x) l;refine(xbc _ rfl _ rfl p _ rfl g _ rfl (iteF ?_));exact(xbf _ rfl _ rfl p _ rfl g (q k rfl _ (Same.refl _)))
 ·have g:DGet H p (.str x) none:=(o x).1 b ▸ DGet.k (k:=Sum.inr x) l
  refine(xbc _ rfl _ rfl p _ rfl g _ rfl (iteT ?_));have I:=z 2 rfl;have u:(Str.empty++Str.ofString "no box ").length<=7:=by walk_at"k"
  have i:=xcb u a;have M:(Str.ofString " at hand").length<=8:=by walk_at"k"
  have c:=xcb i M;refine(jAEA (fits (zF u (by decide))) _ rfl (xcl _ rfl (fits (zF a (by decide))) (fits (zF i (by decide))) (fits (zF c (by decide))) (fits (zF c (by decide))) ⟨(by walk_at"s"),λe J=>?_⟩));exact(xb3 e (cAt K 2) none rfl ups (T.xt.cl 2 (by decide)) (I _ _ _ (xdl J) (jEAA e rfl rfl ups)))
theorem xop(T:Tx K F)(R:RK)(g:DefXs P w K F base n "need_kind" qag (xer K R m)):DefXs P w K F base (n+1) "op_kind" qaa (spKt K (λks=>OpKt (R ks)) m):=by
 refine DefXs.of T.jH sc_op_kind (by walk_at"l") (λf Z A outer s H vs Q E y h=>?_);obtain⟨kv,tv,p,ks,d,env,r,rfl,hi,⟨sg,a,b,O,rfl,Y,i⟩,q,C⟩:=h;have nd:=sc_op_kind.nd;have hu:=xcs y
 refine⟨_,(zpn (xba (xav g y (va 0 (zpc (px K (pv 1) pI) (va 2 (zpc pS pN zso)) zss))))
   (zpn (xba (xav g y (va 0 (zpc (px K (pv 1) pI) (va 2 (zpc pS pN zso)) zss))))
   (zpo (xaj pS)))),?_⟩
 obtain⟨l,us,rfl,G,_,_,rfl,rfl,_,_,rfl,rfl,va,_,rfl,x,I,_,rfl,u,rfl⟩:=hi.tm;refine(xa6 _ rfl _ rfl l _ _ (xbj _ rfl rfl (zC G) rfl (jEA _ rfl ?_)));refine(xas kv va p ks a (xax env O (S "num") rfl (hi.sub (Same.refl _) x) xe7 Y (λz H1 j=>?_) (λc z=>?_)))
 ·rcases i with⟨c,e,_⟩ |⟨_,M,U,rfl⟩
  ·rw[z]at e;cases e
  refine(xa6 _ rfl _ rfl l _ _ (xbj _ rfl rfl (zC (j _ _ G)) rfl (jEA _ rfl ?_)));exact(xas kv I p ks b (xax env M (S "num") rfl (hi.sub j u) xe7 U (λo H2 J=>q _ (by rw[o];rfl) _ (j.trans J)) (λc o=>(C c (by rw[o];rfl)).on j)))
 ·rcases i with⟨c',e,rfl⟩ |⟨e,_⟩
  ·rw[z]at e;cases e;exact C c rfl
  ·rw[z]at e;cases e
theorem xos(T:Tx K U)(R:RK)(Z:RLen R)(i:DefXs P w K U base n "kind_of" qaa (spKt K R m))(g:DefXs P w K U base n "need_kind" qag (xer K R m)):DefXs P w K U base (n+1) "if_kind" qaa (spKt K (λks=>IfKt (R ks)) m):=by
 refine DefXs.of T.jN sc_if_kind (by walk_at"l") (λf a0 A outer s H vs Q E F h=>?_);obtain⟨kv,tv,p,ks,d,env,r,rfl,hi,⟨a,b,c,ra,rfl,ha,y⟩,q,O⟩:=h;have nd:=sc_if_kind.nd;have hu:=xcs F
 refine⟨_,(zpn (xba (xav g F (va 0 (zpc (px K (pv 1) pI) (va 2 (zpc pS pN zso)) zss))))
   (zpn (psn 3 nd (xav i F (va 0 (zpc (px K (pv 1) pI) (v1 2) zss))))
   (zpn (xba (xav g F (va 0 (zpc (px K (pv 1) pI) (va 2 (v1 3)) zss))))
   (zpo (xaj (pv 3)))))),?_⟩
 obtain⟨l,us,rfl,Y,_,_,rfl,rfl,va,_,rfl,M,vb,_,rfl,J,vc,_,rfl,I,rfl⟩:=hi.tm;refine(xa6 _ rfl _ rfl l _ _ (xbj _ rfl rfl (zC Y) rfl (jEA _ rfl ?_)));refine(xas kv va p ks a (xax env ra (S "num") rfl (hi.sub (Same.refl _) M) xe7 ha (λz H1 C=>?_) (λc z=>?_)))
 ·rcases y with⟨e,e1,_⟩ |⟨_,rb,hb,x⟩
  ·rw[z]at e1;cases e1
  refine(xa6 _ rfl _ rfl l _ _ (xbj _ rfl rfl (zC (C _ _ Y)) rfl (jEA _ rfl ?_)));refine(xas kv vb p ks b (xaw env rb rfl (hi.sub C J) hb ⟨λk u H2 s2=>?_,λe u=>?_⟩))
  ·rcases x with⟨e,j,_⟩ |⟨k',rc,j,hc,rfl⟩
   ·rw[u]at j;cases j
   rw[u]at j;cases j;have o:=C.trans s2;refine(xa6 _ rfl _ rfl l _ _ (xbj _ rfl rfl (zC (o _ _ Y)) rfl (jEA _ rfl (jEA _ rfl ?_))));exact(xas kv vc p ks c (xax env rc k rfl (hi.sub o I) (Z _ _ _ _ hi.kl hi.el hb k u) hc (λG H3 s3=>(jEA _ rfl (q k (by rw[G];rfl) _ (o.trans s3)))) (λc G=>(O c (by rw[G];rfl)).on o)))
  ·rcases x with⟨e',j,rfl⟩ |⟨k',rc,j,_⟩
   ·rw[u]at j;cases j;exact(O e rfl).on C
   ·rw[u]at j;cases j
 ·rcases y with⟨c',e,rfl⟩ |⟨e,_⟩
  ·rw[z]at e;cases e;exact O c rfl
  ·rw[z]at e;cases e
theorem xmd(T:Tx K x)(R:RK)(b:DefXs P w K x base n "kind_of_sort" qau (xfd K R m))(g:DefXs P w K x base n "part_kind" qal (xg6 K)):DefXs P w K x base (n+1) "get_kind" qaa (spKt K (λks=>xxb ks (R ks)) m):=by
 refine DefXs.of T.jJ sc_get_kind (by walk_at"l") (λf a0 A outer s H vs Q E y h=>?_);obtain⟨kv,tv,p,ks,d,env,r,rfl,hi,⟨a,Z,O,rfl,Y,i⟩,q,G⟩:=h;have nd:=sc_get_kind.nd;have hu:=xcs y
 refine⟨_,(zpn (psn 3 nd (xav b y (va 0 (zpc (px K (pv 1) pI) (va 2 (zpc pS pN zso)) zss))))
   (zpo (xaj (xav g y (va 0 (va 3 (zpc (px K (pv 1) pI) pN zss))))))),?_⟩
 obtain⟨l,us,rfl,J,_,_,rfl,rfl,va,_,rfl,u,_,_,rfl,rfl,rfl⟩:=hi.tm;refine(xa6 _ rfl _ rfl l _ _ (xbj _ rfl rfl (zC J) rfl (jEA _ rfl ?_)));refine(xas kv va p ks a (xax env O (S "rec") rfl (hi.sub (Same.refl _) u) (by walk_at"k") Y (λk z H1 j=>?_) (λc z=>?_)))
 ·rcases i with⟨c,e,_⟩ |⟨k',I,e,C,rfl,F⟩
  ·rw[z]at e;cases e
  rw[z]at e;cases e;refine(xbg _ rfl _ rfl _ rfl l _ (xaw _ _ rfl rfl (zC (j _ _ J)) ⟨rfl,?_⟩));exact(xag kv ks I k Z rfl (hi.kd.same j) hi.kl C F ⟨λU o H2 M=>q U o _ (j.trans M),λc o=>(G c o).on j⟩)
 ·rcases i with⟨c',e,rfl⟩ |⟨k',I,e,_⟩
  ·rw[z]at e;cases e;exact G c rfl
  ·rw[z]at e;cases e
theorem xma(T:Tx K I)(R:RK)(g:DefXs P w K I base n "need_sort" qat (xl3 K))(i:DefXs P w K I base n "need_kind" qag (xer K R m))(b:DefXs P w K I base n "part_kind" qal (xg6 K)):DefXs P w K I base (n+1) "tag_kind" qaa (spKt K (λks=>xw9 ks (R ks)) m):=by
 refine DefXs.of T.jK sc_tag_kind (by walk_at"l") (λf a0 A outer s H vs Q E J h=>?_);obtain⟨kv,tv,p,ks,d,env,r,rfl,hi,⟨x,t,a,rfl,y⟩,q,Y⟩:=h;have nd:=sc_tag_kind.nd;have hu:=xcs J
 refine⟨_,(zpn (psn 3 nd (px K (pv 1) pI))
   (zpn (xba (xav g J (va 0 (va 3 (zpc pS pN zso)))))
   (zpn (xba (xav i J (va 0 (zpc (px K (pv 1) pI) (va 2 (zpc (xav b J (va 0 (va 3 (zpc (px K (pv 1) pI) pN zss)))) pN zsc)) zss))))
   (zpo (xaj (pv 3)))))),?_⟩
 obtain⟨l,us,rfl,hl,_,_,rfl,rfl,_,_,rfl,rfl,_,_,rfl,rfl,va,_,rfl,O,rfl⟩:=hi.tm;have hS:SqT K H l [.str (S "tag"),.str x,.str t,va]:=zC hl;refine(xaa _ rfl l _ _ _ rfl rfl hS rfl ?_);refine(xa6 _ rfl _ rfl kv ks x (xcl (S "alt") rfl hi.kd (λc z=>?_) (by walk_at"k") (λz H1 G=>?_) (λc z=>?_)))
 ·rcases y with⟨c',e,hx,_⟩ |⟨e,_⟩
  ·exact hx
  ·rw[z]at e;cases e
 ·rcases y with⟨c,e,_⟩ |⟨_,kn,C,u⟩
  ·rw[z]at e;cases e
  have F:SqT K H1 l [.str (S "tag"),.str x,.str t,va]:=zC (G _ _ hl);refine(xa6 _ rfl _ rfl l _ _ (xbj _ rfl rfl F rfl (xbw _ rfl _ rfl _ rfl _ rfl l (xa5 _ _ _ rfl rfl F rfl ?_))));refine(xag kv ks kn x t rfl (hi.kd.same G) hi.kl C (λj=>?_) ⟨λk1 j H2 s2=>?_,λc j=>?_⟩)
  ·rcases u with⟨_,ht,_⟩ |⟨k1,U,e,_⟩
   ·exact ht
   ·rw[j]at e;cases e
  ·rcases u with⟨e,_⟩ |⟨Z,U,e,ha,rfl⟩
   ·unfold xh2 at j;rw[e]at j;cases j
   rw[xeu e]at j;cases j;have o:=G.trans s2;exact(xas kv va p ks a (xax env U k1 rfl (hi.sub o O) (xet hi.kl C e) ha (λM H3 s3=>(jEA _ rfl (q x (by rw[M];rfl) _ (o.trans s3)))) (λc M=>(Y c (by rw[M];rfl)).on o)))
  ·rcases u with⟨e,_,rfl⟩ |⟨Z,U,e,_⟩
   ·unfold xh2 at j;rw[e]at j;cases j;exact(Y 2 rfl).on G
   ·rw[xeu e]at j;cases j
 ·rcases y with⟨c',e,_,rfl⟩ |⟨e,_⟩
  ·rw[z]at e;cases e;exact Y c rfl
  ·rw[z]at e;cases e
theorem xjl(x:Str):∀ys:List Str,inV (.str x) (ys.map V.str)=decide (x∈ys)
 |[]=>rfl
 | y::ys=>by
  show((y == x) || inV (.str x) (ys.map V.str))=_;rw[xjl x ys];by_cases h:y=x
  ·subst h;simp
  ·have h':¬x=y:=λe=>h e.symm
   simp[h,h']
theorem xd9:∀ys:List Str,(ys.map V.str).all xem=true
 |[]=>rfl
 |y::ys=>by
  show(xem (.str y) && (ys.map V.str).all xem)=true;rw[xd9 ys];rfl
theorem xhv{α:Type}{l:List α}{i:Nat}{a:α}(h:l[i]?=some a):l.drop i=a::l.drop (i+1):=by
 obtain⟨hi,e⟩:=zES h;rw[List.drop_eq_getElem_cons hi,e]
def xuf(K:Fg):Sp:=λvs H Q E=>∃(p:Addr) (ns:List Str) (t:Str),vs=[.ref p,.str t]/\H p=some (.lst (ns.map V.str))/\ns.length<=1000/\t.length<=200/\(ns.Nodup->Q .non H)/\(¬ns.Nodup->Fails K H E 1)
def xpo(K:Fg):Sp:=λvs H Q E=>∃(kv:V) (c:Addr) (ws:List V) (ks:List Kn) (k:Str) (kn:Kn) (rs:List Arm3),vs=[kv,.str k,.ref c]/\KsAt H kv ks/\KLn ks/\kAt ks k=some kn/\H c=some (.tup ws)/\RelDs H ws (rs.map dArm)/\rs.length<=1000/\(∀e,xgi kn rs=some e->∀z∈rs,z.1.length<=100)/\xlx K H Q E (xgi kn rs)
def xuj(K:Fg)(R:RK)(m:Nat):Sp:=λvs H Q E=>∃(kv av:V) (p:Addr) (ks:List Kn) (env:En) (k1:Str) (kn:Kn) (z:Arm3) (r:Res),vs=[kv,.str k1,av,.ref p]/\In3 H kv av p ks (dArm z) env m/\kAt ks k1=some kn/\ArmR kn (R ks) env z r/\m<=1000/\xo2 K H Q E r
theorem xkr(T:Tx K x):DefXs P w K x base (n+1) "need_once" qar (xuf K):=by
 refine DefXs.of T.jA sc_need_once (by walk_at"l") (λf I A outer s H vs Q E y h=>?_);obtain⟨p,ns,t,rfl,o,b,l,q,u⟩:=h;have nd:=sc_need_once.nd;have J:=xcs y;refine(jEA _ (zpo (xa0 (pR xkj (xoj rfl rfl T.k8 rfl T.uE (pv 0)) (xan (xad (K:=K) rfl) rfl T.k8 PySem.boot_len (v1 0)) (nM _)) (zpo (xb6 rfl (xdr (T.xt.cl 1 (by decide)) (T.xt.ini 1 (by decide) (by decide)) rfl T.uK (zpc (xcr (xb0 (xcz (pv 1) (xb0 xdm)))) pN xbr)))) pQ)) ?_);refine(xa3 _ rfl p ns rfl o ⟨b,λm M a=>?_⟩);refine(xa3 _ rfl p _ rfl (.inl (zD o)) ?_);refine(xaq _ _ rfl rfl (jEA _ rfl (ite2 (λc=>?_) (λc=>?_))))
 ·have g:=zH c
  rw[zLM]at g;have C:=u (λhn=>by have:=a.mpr hn;omega);have r:(Str.empty++Str.ofString "two ").length<=4:=by walk_at"k"
  have j:=xcb r l;have G:(Str.ofString " of one name").length<=12:=by walk_at"k"
  have i:=xcb j G;refine(jAEA (fits (zF r (by decide))) _ rfl (xcl _ rfl (fits (zF l (by decide))) (fits (zF j (by decide))) (fits (zF i (by decide))) (fits (zF i (by decide))) ⟨(by walk_at"s"),λe F=>?_⟩));exact(xb3 e (cAt K 1) none rfl ups (T.xt.cl 1 (by decide)) (C _ _ _ (xdl F) (jEAA e rfl rfl ups)))
 ·have g:¬((m:Int)<((ns.map V.str).length:Nat)):=λz=>c (zDT z)
  rw[zLM]at g;exact q (a.mp (by omega))
theorem xkp(T:Tx K mg)(o:DefIs P w K mg base n "parts_of" qac xcj)(l:DefXs P w K mg base n "need_once" qar (xuf K)):DefXs P w K mg base (n+1) "need_tags" qa5 (xpo K):=by
 refine DefXs.of T.jT sc_need_tags (by walk_at"l") (λf ah A outer s H vs Q E hr h=>?_);obtain⟨kv,c,ws,ks,k,M,rs,rfl,hk,aa,Z,hc,a3,ag,a6,q,qf⟩:=h;have nd:=sc_need_tags.nd;have hu:=xcs hr
 refine⟨_,(zpn (xbl (i:=3) ["part"] [none] rfl (by kernel_rfl) nd rfl (by walk_at"o") (xap (K:=K) rfl (pd o hr (va 0 (v1 1)))) (λ_ _ _ _=>(pgc 0)) (λ_ _ _ _=>xce) (λ_ _ _ _=>(px K (pv 0) pI)))
   (zpn (xbl (i:=4) ["arm"] [none] rfl (by kernel_rfl) nd rfl (by walk_at"o") (xap (K:=K) rfl (pv 2)) (λ_ _ _ _=>(pgc 0)) (λ_ _ _ _=>xce) (λ_ _ _ _=>(px K (pv 0) pI)))
   (zpn (xca (xdy rfl rfl) rfl (xcd (K:=K) rfl (pv 4)) (pgn 5 nd)
   (zpo (xa0 (pR xki (pv 5) (pv 3) (by with_unfolding_all rfl)) (zpo (xb6 rfl (xdr (T.xt.cl 2 (by decide)) (T.xt.ini 2 (by decide) (by decide)) rfl T.uL (zpc (xcr (xb0 (xcz (pv 5) (xb0 (xcz (pv 1) xdm))))) pN xbr)))) pQ)))
   (zpn (xba (xav l hr (va 4 (zpc (xcr (xb0 (xcz (pv 1) xdm))) pN xbr))))
   (zpo (xa0 (pR xkj (xan (xad (K:=K) rfl) rfl T.k8 PySem.boot_len (v1 4)) (xan (xad (K:=K) rfl) rfl T.k8 PySem.boot_len (v1 3)) (nM _)) (zpo (xb6 rfl (xdr (T.xt.cl 5 (by decide)) (T.xt.ini 5 (by decide) (by decide)) rfl T.uO (zpc (xcr (xb0 (xcz (pv 1) xdm))) pN xbr)))) pQ)))))),?_⟩
 have a9:=zMF Z;have m:=(xfg aa Z).1;have a8:=hk.2.2 M a9;refine(xbd _ rfl _ rfl kv ks k rfl hk (λu H1 s1 r1=>?_));rw[Z]at r1;obtain⟨e,ps,rfl,he,a4⟩:=r1;have hl:=a4.length;rw[zLM]at hl;refine(jEAA e rfl ⟨_,zC he⟩ ?_);refine xe1 (j:=0) (xs:=ps) (λi ys I=>I=H1/\ys=((M.parts.take i).map (·.1)).map V.str) (by rfl) ⟨rfl,rfl⟩ (xaz (by omega)) (λi ys I _ p=>by obtain⟨rfl,_⟩:=p;exact zC he) ?_ ?_
 ·rintro i x ys I hx G ⟨rfl,rfl⟩
  obtain⟨d,hd,rd⟩:=a4.get hx;rw[zGM]at hd;obtain⟨p,hp,rfl⟩:=zMS hd;obtain⟨b,wz,rfl,hb,_,_,rfl,rfl,_,_,rfl,rfl,rfl⟩:=rd;have a0:i<ps.length:=(zES hx).1;refine(xaa _ rfl b _ _ _ rfl rfl (zC hb) rfl (nxt a0 G ⟨rfl,?_⟩));rw[zTA,hp];simp
 rintro ys I G ⟨rfl,rfl⟩ D1 af;rw[zTL (by omega)];have t1:=zB af (.lst ((M.parts.map (·.1)).map V.str));have s2:=s1.trans t1;have a7:=a3.length;rw[zLM]at a7;generalize ac:upd I D1 (.lst ((M.parts.map (·.1)).map V.str))=H2 at t1 s2⊢;have a5:H2 D1=some (.lst ((M.parts.map (·.1)).map V.str)):=by rw[<- ac];exact ups
 refine(xay _ rfl c rfl ⟨_,zC (s2 _ _ hc)⟩ ?_);refine xe1 (j:=0) (xs:=ws) (λi ys I=>I=H2/\ys=((rs.take i).map (·.1)).map V.str) (by rfl) ⟨rfl,rfl⟩ (xaz (by omega)) (λi ys I _ p=>by obtain⟨rfl,_⟩:=p;exact zC (s2 _ _ hc)) ?_ ?_
 ·rintro i x ys H3 hx G ⟨rfl,rfl⟩
  obtain⟨d,hd,rd⟩:=(a3.same s2 _).get hx;rw[zGM]at hd;obtain⟨p,hp,rfl⟩:=zMS hd;obtain⟨b,wz,rfl,hb,_,_,rfl,rfl,_,_,rfl,rfl,v3,_,rfl,r3,rfl⟩:=rd;have a0:i<ws.length:=(zES hx).1;refine(xaa _ rfl b _ _ _ rfl rfl (zC hb) rfl (nxt a0 G ⟨rfl,?_⟩));rw[zTA,hp];simp
 rintro ys H3 G ⟨rfl,rfl⟩ D2 ae;rw[zTL (by omega)];have t2:=zB ae (.lst ((rs.map (·.1)).map V.str));have s3:=s2.trans t2;have C:=t2 _ _ a5;generalize ab:upd H3 D2 (.lst ((rs.map (·.1)).map V.str))=H4 at t2 s3 C⊢;have F:H4 D2=some (.lst ((rs.map (·.1)).map V.str)):=by rw[<- ab];exact ups
 refine(xay _ rfl D2 rfl ⟨_,zD F⟩ ?_);refine xgv (xs:=(rs.map (·.1)).map V.str) (λi σ I=>∃o5,σ=[some kv,some (.str k),some (.ref c),some (.ref D1),some (.ref D2),o5]/\I=H4/\∀r∈rs.take i,r.1∈M.parts.map (·.1)) (jEAA none rfl rfl (λ_ h=>nomatch h)) (λi σ I _ p=>?_) ?_ ?_
 ·obtain⟨_,_,rfl,_⟩:=p
  exact zD F
 ·rintro i z σ H5 hz ⟨o5,rfl,rfl,g⟩
  rw[zGM]at hz;obtain⟨y,hy,rfl⟩:=zMS hz;rw[zGM]at hy;obtain⟨r,Y,rfl⟩:=zMS hy;refine(xbf _ rfl _ rfl D1 _ rfl (.inl (zD C)) (jAA rfl (xd9 _) (jEA _ rfl ?_)));rw[if_pos rfl,xjl];by_cases U:r.1∈M.parts.map (·.1)
  ·rw[zDT U]
   refine iteF (jEAA _ rfl rfl (λz hz=>?_));rw[zTA,Y]at hz;rcases zMA hz with hz |hz
   ·exact g z hz
   ·rw[show z=r by simpa using hz];exact U
  ·rw[zDF U]
   have e2:xgi M rs=some 2:=by unfold xgi;rw[if_pos λz=>U (z r (zMG Y))]
   have hf:=qf 2 e2;have a2:=a6 2 e2 r (zMG Y);refine iteT ?_;have e1:(Str.empty++Str.ofString "no tag ").length<=7:=by walk_at"k"
   have J:=xcb e1 a2;have e3:(Str.ofString " in the kind ").length<=13:=by walk_at"k"
   have l3:=xcb J e3;have l4:=xcb l3 m;refine(jAEA (fits (zF e1 (by decide))) _ rfl (xbj _ rfl (fits (zF a2 (by decide))) (fits (zF J (by decide))) (fits (zF l3 (by decide))) (xay _ rfl _ rfl (fits (zF m (by decide))) (jAAA (fits (zF l4 (by decide))) (fits (zF l4 (by decide))) (by walk_at"s") (λe he=>?_)))));exact(xb3 e (cAt K 2) none rfl ups (T.xt.cl 2 (by decide)) (hf _ _ _ (s3.trans (xdl he)) (jEAA e rfl rfl ups)))
 ·rintro σ H5 ⟨o5,rfl,rfl,g⟩
  rw[zTL (by rw[zLM,zLM];omega)]at g;have l1:(Str.empty++Str.ofString "arms in a case of the kind ").length<=27:=by walk_at"k"
  have J:=xcb l1 m;refine(xao _ rfl (fits (zF l1 (by decide))) _ rfl (xbj _ rfl (fits (by omega)) (fits (zF J (by decide))) (fits (zF J (by decide))) ?_));refine(xax D2 (rs.map (·.1)) _ rfl F (by rw[zLM];omega) (zF J (by decide)) (λO=>?_) (λO=>(qf 1 (by unfold xgi;rw[if_neg λz=>z g,if_pos O])).on s3));refine(xbe _ rfl D2 _ rfl (.inl (zD F)) _ rfl (xac D1 _ rfl (.inl (zD C)) _ _ rfl rfl _ ⟨rfl,ite2 (λcc=>?_) (λcc=>?_)⟩))
  ·have a1:=zH cc
   rw[zLM,zLM,zLM,zLM]at a1;have hf:=qf 5 (by unfold xgi;rw[if_neg λz=>z g,if_neg λz=>z O,if_pos (by omega)]);have e1:(Str.empty++Str.ofString "no arm for some tag of the kind ").length<=32:=by walk_at"k"
   have J:=xcb e1 m;refine(jAEA (fits (zF e1 (by decide))) _ rfl (xcl _ rfl (fits (zF m (by decide))) (fits (zF J (by decide))) (fits (zF J (by decide))) (by walk_at"s") (λe he=>?_)));exact(xb3 e (cAt K 5) none rfl ups (T.xt.cl 5 (by decide)) (hf _ _ _ (s3.trans (xdl he)) (jEAA e rfl rfl ups)))
  ·have a1:¬((((rs.map (·.1)).map V.str).length:Nat):Int)<((((M.parts.map (·.1)).map V.str).length:Nat):Int):=λz=>cc (zDT z)
   rw[zLM,zLM,zLM,zLM]at a1;exact q (by unfold xgi;rw[if_neg λz=>z g,if_neg λz=>z O,if_neg (by omega)]) _ s3
theorem xmf(T:Tx K I)(R:RK)(j:DefXs P w K I base n "kind_of" qaa (spKt K R (m+1)))(i:DefIs P w K I base n "with_box" qa6 (xj7 m))(b:DefXs P w K I base n "part_kind" qal (xg6 K)):DefXs P w K I base (n+1) "arm_kind" qa4 (xuj K R m):=by
 refine DefXs.of T.jM sc_arm_kind (by walk_at"l") (λf a3 A outer s H vs Q E J h=>?_);obtain⟨kv,av,p,ks,env,k1,kn,z,r,rfl,hi,C,F,hm,q,M⟩:=h;have nd:=sc_arm_kind.nd;have hu:=xcs J
 refine⟨_,(zpn (psn 4 nd (px K (pv 2) pI))
   (zpn (xa0 (xfp (xkg hu (pv 4) (pv 3))) (zpo (xb6 rfl (xdr (T.xt.cl 1 (by decide)) (T.xt.ini 1 (by decide) (by decide)) rfl T.uK (zpc (xcr (xb0 (xcz (pv 4) (xb0 xdm)))) pN xbr)))) pQ)
   (zpo (xaj (xav j J (va 0 (zpc (px K (pv 2) pI) (zpc (pd i J (va 3 (va 4 (zpc (xav b J (va 0 (va 1 (zpc (px K (pv 2) pI) pN zss)))) pN zsc)))) pN zsc) zss))))))),?_⟩
 obtain⟨a,us,rfl,ha,_,_,rfl,rfl,_,_,rfl,rfl,ve,_,rfl,re,rfl⟩:=hi.tm;have hS:SqT K H a [.str z.1,.str z.2.1,ve]:=zC ha;refine(xaa _ rfl a _ _ _ rfl rfl hS rfl ?_);obtain⟨kvs,y,a2,hh⟩:=hi.en;rcases F with⟨Y,u,rfl⟩ |⟨Y,F⟩
 ·obtain⟨d0,a1⟩:=Option.ne_none_iff_exists'.mp Y
  obtain⟨v0,Z,_⟩:=(hh z.2.1).2 d0 a1;have g:DGet H p (.str z.2.1) (some v0):=Z ▸ DGet.k (k:=Sum.inr z.2.1) y;refine(xbc _ rfl _ rfl p _ rfl g _ rfl (iteT ?_));have hf:=M 1 rfl;have e1:(Str.empty++Str.ofString "the box ").length<=8:=by walk_at"k"
  have l2:=xcb e1 u;have G:(Str.ofString " of an arm is at hand already").length<=29:=by walk_at"k"
  have l3:=xcb l2 G;refine(jAEA (fits (zF e1 (by decide))) _ rfl (xcl _ rfl (fits (zF u (by decide))) (fits (zF l2 (by decide))) (fits (zF l3 (by decide))) (fits (zF l3 (by decide))) ⟨(by walk_at"s"),λe he=>?_⟩));exact(xb3 e (cAt K 1) none rfl ups (T.xt.cl 1 (by decide)) (hf _ _ _ (xdl he) (jEAA e rfl rfl ups)))
 ·have g:DGet H p (.str z.2.1) none:=(hh z.2.1).1 Y ▸ DGet.k (k:=Sum.inr z.2.1) y
  refine(xbc _ rfl _ rfl p _ rfl g _ rfl (iteF ?_));refine(xa6 _ rfl _ rfl a _ _ (xbj _ rfl rfl hS rfl (xa4 _ rfl _ rfl _ rfl _ rfl _ rfl (xal a _ _ _ rfl rfl hS rfl ?_))));refine(xag kv ks kn k1 z.1 rfl hi.kd hi.kl C (λl=>?_) ⟨λU l H1 s1=>?_,λc l=>?_⟩)
  ·rcases F with⟨_,h,_⟩ |⟨U,e,_⟩
   ·exact h
   ·rw[l]at e;cases e
  ·rcases F with⟨e,_⟩ |⟨O,e,hR⟩
   ·unfold xh2 at l;rw[e]at l;cases l
   rw[xeu e]at l;cases l;refine(xas p z.2.1 (.str U) (.str U) env (jAAA rfl (hi.en.same s1) rfl ⟨hm,λp' H2 s2 a0=>?_⟩));have o:=s1.trans s2;exact(xas kv ve p' ks z.2.2 (xaw _ r rfl ⟨hi.kd.same o,hi.kl,hi.el.put (xet hi.kl C e),re.same o _,a0⟩ hR ⟨λk G H3 s3=>q k G _ (o.trans s3),λc G=>(M c G).on o⟩))
  ·rcases F with⟨e,_,rfl⟩ |⟨O,e,_⟩
   ·unfold xh2 at l;rw[e]at l;cases l;exact M 2 rfl
   ·rw[xeu e]at l;cases l
theorem xmb(T:Tx K mg)(R:RK)(a:DefXs P w K mg base n "need_sort" qat (xl3 K))(g:DefXs P w K mg base n "need_kind" qag (xer K R m))(j:DefIs P w K mg base n "parts_of" qac xcj):DefXs P w K mg base (n+1) "rec_kind" qaa (spKt K (λks=>xxa ks (R ks)) m):=by
 refine DefXs.of T.jI sc_rec_kind (by walk_at"l") (λf ag A outer s H vs Q E hr h=>?_);obtain⟨kv,tv,p,ks,d,env,r,rfl,hi,⟨x,es,rfl,I⟩,q,qf⟩:=h;have nd:=sc_rec_kind.nd;have hu:=xcs hr
 refine⟨_,(zpn (psn 3 nd (px K (pv 1) pI))
   (zpn (xba (xav a hr (va 0 (va 3 (zpc pS pN zso)))))
   (zpn (psn 4 nd (pd j hr (va 0 (v1 3))))
   (zpn (xa0 (pR xft (xan (xad (K:=K) rfl) rfl T.k8 PySem.boot_len (zpc (px K (pv 1) pI) pN zss)) (xan (xad (K:=K) rfl) rfl T.k8 PySem.boot_len (v1 4)) (nM _)) (zpo (xb6 rfl (xdr (T.xt.cl 3 (by decide)) (T.xt.ini 3 (by decide) (by decide)) rfl T.uM (zpc (xcr (xb0 (xcz (pv 3) (xb0 xdm)))) pN xbr)))) pQ)
   (zpn (xca (xdy rfl rfl) rfl (xun rfl T.uI (va 4 (zpc (px K (pv 1) pI) pN zss))) (xa2 (K:=K) rfl rfl (xab (pgn 5 nd) (xab (pgn 6 nd) xa1)))
   (zpo (xba (xav g hr (va 0 (va 6 (va 2 (zpc (px K (pv 5) pI) pN zss))))))))
   (zpo (xaj (pv 3)))))))),?_⟩
 obtain⟨l,us,rfl,hl,_,_,rfl,rfl,_,_,rfl,rfl,va,_,rfl,a6,rfl⟩:=hi.tm;obtain⟨c,U,rfl,hc,Z⟩:=a6;have hS:SqT K H l [.str (S "rec"),.str x,.ref c]:=zC hl;refine(xaa _ rfl l _ _ _ rfl rfl hS rfl ?_);refine(xa6 _ rfl _ rfl kv ks x (xcl (S "rec") rfl hi.kd (λc z=>?_) (by walk_at"k") (λz H1 s1=>?_) (λc z=>?_)))
 ·rcases I with⟨c',e,hx,_⟩ |⟨e,_⟩
  ·exact hx
  ·rw[z]at e;cases e
 ·rcases I with⟨c,e,_⟩ |⟨_,kn,M,aa⟩
  ·rw[z]at e;cases e
  refine(xbd _ rfl _ rfl kv ks x rfl (hi.kd.same s1) (λu H2 s2 r2=>?_));rw[M]at r2;obtain⟨e,ps,rfl,J,a0⟩:=r2;have y:=s1.trans s2;have l1:=a0.length;rw[zLM]at l1;have l2:=Z.length;have hx:=(xfg hi.kl M).1;have a5:SqT K H2 l [.str (S "rec"),.str x,.ref c]:=zC (y _ _ hl);refine(xaa _ rfl l _ _ _ rfl rfl a5 rfl (xaq c _ rfl (.inr (zC (y _ _ hc))) (xa3 _ rfl e _ rfl (.inr (zC J)) (jAEA rfl _ rfl ?_))));rcases aa with⟨ae,rfl⟩ |⟨af,o,a4,rfl⟩
  ·refine xuy (by show(!decide (V.int _=V.int _))=true;rw[zDF (λz=>by have:=V.int.inj z;omega)];rfl) ?_
   have hf:=qf 3 rfl;have e1:(Str.empty++Str.ofString "as many terms as the rec ").length<=25:=by walk_at"k"
   have l2:=xcb e1 hx;have e3:(Str.ofString " has fields are asked for").length<=25:=by walk_at"k"
   have l3:=xcb l2 e3;refine(jAEA (fits (zF e1 (by decide))) _ rfl (xcl _ rfl (fits (zF hx (by decide))) (fits (zF l2 (by decide))) (fits (zF l3 (by decide))) (fits (zF l3 (by decide))) ⟨(by walk_at"s"),λe he=>?_⟩));exact(xb3 e (cAt K 3) none rfl ups (T.xt.cl 3 (by decide)) (hf _ _ _ (y.trans (xdl he)) (jEAA e rfl rfl ups)))
  ·refine xwt (by rw[show U.length=ps.length by omega]) ?_
   refine(xa6 _ rfl _ rfl l _ _ (xbj _ rfl rfl a5 rfl (xaw e c rfl ⟨_,zC J⟩ ⟨_,zC (y _ _ hc)⟩ ?_)));refine xry (xs:=ps) (ys:=U) (by omega) (λi σ H'=>∃o5 o6,σ=[some kv,some (.ref l),some (.ref p),some (.str x),some (.ref e),o5,o6]/\Same H2 H'/\AllN (R ks env) (es.drop i) (kn.parts.drop i) o) (xaq none none rfl (Same.refl _) a4) (λi σ H' _ p=>?_) ?_ ?_
   ·obtain⟨_,_,_,O,_⟩:=p
    exact⟨zC (O _ _ J),zC ((y.trans O) _ _ hc)⟩
   ·rintro i vx vy σ H' pt a9 hy ⟨o5,o6,rfl,O,C⟩ ab
    obtain⟨dp,a3,a7⟩:=a0.get a9;rw[zGM]at a3;obtain⟨pr,a1,rfl⟩:=zMS a3;obtain⟨de,ac,a8⟩:=Z.get hy;obtain⟨b,ws,rfl,hb,_,_,rfl,rfl,_,_,rfl,rfl,rfl⟩:=a7;rw[xhv ac,xhv a1]at C;obtain⟨rr,hR,a2⟩:=C;have sn:=zB ab (.tup [.ref b,vy]);have s3:=O.trans sn;have Y:=y.trans s3;refine(xai pt _ rfl (zC ups) rfl _ _ rfl _ (jEAA _ rfl rfl ?_));refine(xbw _ rfl _ rfl _ rfl _ rfl b (xa5 _ _ _ rfl rfl (zC (s3 _ _ hb)) rfl ?_));refine(xas kv vy p ks de (xax env rr pr.2 rfl (hi.sub Y a8) (((xfg hi.kl M).2 pr (zMG a1)).2) hR (λz2 H3 s4=>?_) (λc z2=>?_)))
    ·rcases a2 with⟨c,F,_⟩ |⟨_,G⟩
     ·rw[z2]at F;cases F
     ·exact(xaq _ _ rfl (s3.trans s4) G)
    ·rcases a2 with⟨c',F,rfl⟩ |⟨F,_⟩
     ·rw[z2]at F;cases F;exact(qf c rfl).on Y
     ·rw[z2]at F;cases F
   ·rintro σ H' ⟨o5,o6,rfl,O,C⟩
    rw[List.drop_eq_nil_of_le (by omega),List.drop_eq_nil_of_le (by omega)]at C;have ho:o=none:=C;exact(jEA _ rfl (q x (by rw[ho];rfl) _ (y.trans O)))
 ·rcases I with⟨c',e,_,rfl⟩ |⟨e,_⟩
  ·rw[z]at e;cases e;exact qf c rfl
  ·rw[z]at e;cases e
theorem xkw(T:Tx K mg)(R:RK)(a9:RLen R)(hm:m<=1000)(g:DefXs P w K mg base n "kind_of_sort" qau (xfd K R m))(x:DefXs P w K mg base n "need_tags" qa5 (xpo K))(b:DefXs P w K mg base n "arm_kind" qa4 (xuj K R m))(y:DefXs P w K mg base n "need_same" qak (xi0 K)):DefXs P w K mg base (n+1) "case_kind" qaa (spKt K (λks=>xsp ks (R ks)) m):=by
 refine DefXs.of T.jL sc_case_kind (by walk_at"l") (λf am A outer s H vs Q E hr h=>?_);obtain⟨kv,tv,p,ks,d,env,r,rfl,hi,⟨a,rs,ra,rfl,ah,ha,a6⟩,q,qf⟩:=h;have nd:=sc_case_kind.nd;have hu:=xcs hr
 refine⟨_,(zpn (psn 3 nd (xav g hr (va 0 (zpc (px K (pv 1) pI) (va 2 (zpc pS pN zso)) zss))))
   (zpn (psn 4 nd (px K (pv 1) pI))
   (zpn (xba (xav x hr (va 0 (va 3 (v1 4)))))
   (zpn (psn 5 nd (xav b hr (va 0 (va 3 (zpc (px K (pv 4) pI) (v1 2) zss)))))
   (zpn (xca (xdy rfl rfl) rfl (xap (K:=K) rfl (xcn (xy3 (K:=K) rfl) (pv 4) (xcy pI) xdp)) (pgn 6 nd)
   (zpo (xba (xav y hr (zpc (xav b hr (va 0 (va 3 (va 6 (v1 2))))) (v1 5) zsc)))))
   (zpo (xaj (pv 5)))))))),?_⟩
 obtain⟨l,us,rfl,hl,_,_,rfl,rfl,va,_,rfl,ac,vr,_,rfl,rr,rfl⟩:=hi.tm;obtain⟨c,ws,rfl,hc,a3⟩:=rr;refine(xa6 _ rfl _ rfl l _ _ (xbj _ rfl rfl (zC hl) rfl (jEA _ rfl ?_)));refine(xas kv va p ks a (xax env ra (S "alt") rfl (hi.sub (Same.refl _) ac) (by walk_at"k") ha (λk1 z H1 s1=>?_) (λc z=>?_)))
 ·rcases a6 with⟨O,e,_⟩ |⟨al,kn,e,F,a0⟩
  ·rw[z]at e;cases e
  rw[z]at e;cases e;refine(xaa _ rfl l _ _ _ rfl rfl (zC (s1 _ _ hl)) rfl ?_);refine(xbg _ rfl _ rfl _ rfl kv c (xag ws ks k1 kn rs rfl (hi.kd.same s1) hi.kl F (s1 _ _ hc) (jAAA (a3.same s1 _) ah (λe z2=>?_) ⟨λz2 H2 s2=>?_,λc z2=>?_⟩)))
  ·rcases a0 with⟨O,u,h,_⟩ |⟨u,_⟩
   ·exact h
   ·rw[z2]at u;cases u
  ·rcases a0 with⟨O,u,_⟩ |⟨_,r0,rest,q0,rfl,aa,a5⟩
   ·rw[z2]at u;cases u
   have J:=s1.trans s2;obtain⟨w0,I,rfl,ag,a4⟩:=a3;refine(xbg _ rfl _ rfl _ rfl c _ (xaw _ w0 rfl rfl (zC (J _ _ hc)) (jAEA (xar (j:=0) rfl) _ rfl ?_)));refine(xas kv w0 p ks env (xbq k1 kn r0 q0 rfl (hi.sub J ag) F aa hm (λk M H3 s3=>?_) (λc M=>?_)))
   ·rcases a5 with⟨O,u,_⟩ |⟨k',o,u,hN,rfl⟩
    ·rw[M]at u;cases u
    rw[M]at u;cases u
    have aj:k.length<=100:=by
     rcases aa with⟨_,_,e⟩ |⟨_,⟨_,_,e⟩ |⟨k2,hp,hq⟩⟩
     ·rw[M]at e;cases e
     ·rw[M]at e;cases e
     ·exact a9 _ _ _ _ hi.kl (hi.el.put (xet hi.kl F hp)) hq k M
    have a2:=J.trans s3
    refine⟨_,rfl,_,rfl,c,w0::I,rfl,zC (a2 _ _ hc),(by
     rw[show((1:Int))=((1:Nat):Int) from rfl,HT.sIx_nat];rw[List.length_cons];omega),λcp ak=>?_⟩
    have t3:=zB ak (.tup (cutV (w0::I) (some 1) none));have Y:=a2.trans t3
    have a8:cutV (w0::I) (some 1) none=I:=by
     unfold cutV;rw[show((1:Int))=((1:Nat):Int) from rfl,HT.sIx_nat,HT.sIx_none,List.length_cons];rw[show min 1 (I.length+1)=1 by omega];show List.take _ I=I;exact zTL (by omega)
    refine(jEAA cp rfl ⟨_,zC ups⟩ ?_);rw[a8]at t3 Y⊢;have af:=a4.length;rw[zLM]at af;refine xdc (xs:=I) (λi σ H'=>∃o6,σ=[some kv,some (.ref l),some (.ref p),some (.str k1),some (.ref c),some (.str k),o6]/\Same (upd H3 cp (.tup I)) H'/\xub (ArmR kn (R ks) env) k (rest.drop i) o) (jEAA none rfl (Same.refl _) hN) (λi σ H' _ p=>?_) ?_ ?_
    ·obtain⟨_,_,sm,_⟩:=p
     exact zC (sm _ _ ups)
    ·rintro i v σ H5 hv ⟨o6,rfl,sm,G⟩
     obtain⟨d0,a7,ae⟩:=a4.get hv;rw[zGM]at a7;obtain⟨z,hz,rfl⟩:=zMS a7;rw[xhv hz]at G;obtain⟨qz,hA,a1⟩:=G;have U:=Y.trans sm;refine(jEA _ rfl (jEA _ rfl (jEA _ rfl (jEA _ rfl ?_))));refine(xas kv v p ks env (xbq k1 kn z qz rfl (hi.sub U ae) F hA hm (λkz z4 H6 s6=>?_) (λc z4=>?_)))
     ·have ab:=U.trans s6
      have ai:kz.length<=100:=by
       rcases hA with⟨_,_,e⟩ |⟨_,⟨_,_,e⟩ |⟨k2,hp,hq⟩⟩
       ·rw[z4]at e;cases e
       ·rw[z4]at e;cases e
       ·exact a9 _ _ _ _ hi.kl (hi.el.put (xet hi.kl F hp)) hq kz z4
      subst z4;refine(xa3 _ rfl kz k rfl ai (jAA aj (λz5 H7 s7=>?_) (λc z5=>?_)))
      ·rcases a1 with⟨c,C,_⟩ |⟨_,Z⟩
       ·rw[z5]at C;cases C
       ·exact(jEAA _ rfl (sm.trans (s6.trans s7)) Z)
      ·rcases a1 with⟨O,C,rfl⟩ |⟨C,_⟩
       ·rw[z5]at C;cases C;exact(qf c rfl).on ab
       ·rw[z5]at C;cases C
     ·subst z4
      rcases a1 with⟨O,C,rfl⟩ |⟨C,_⟩
      ·cases C;exact(qf c rfl).on U
      ·cases C
    ·rintro σ H5 ⟨o6,rfl,sm,G⟩
     rw[List.drop_eq_nil_of_le (by omega)]at G;have ho:o=none:=G;exact(jEA _ rfl (q k (by rw[ho];rfl) _ (Y.trans sm)))
   ·rcases a5 with⟨O,u,rfl⟩ |⟨k',o,u,_⟩
    ·rw[M]at u;cases u;exact(qf c rfl).on J
    ·rw[M]at u;cases u
  ·rcases a0 with⟨O,u,_,rfl⟩ |⟨u,_⟩
   ·rw[z2]at u;cases u;exact(qf c rfl).on s1
   ·rw[z2]at u;cases u
 ·rcases a6 with⟨O,e,rfl⟩ |⟨k',kn,e,_⟩
  ·rw[z]at e;cases e;exact qf c rfl
  ·rw[z]at e;cases e
theorem xoq(T:Tx K I)(R:RK)(u:DefXs P w K I base n "num_kind" ["n"] (xug K))(z:DefXs P w K I base n "box_kind" qas (xui K m))(F:DefXs P w K I base n "op_kind" qaa (spKt K (λks=>OpKt (R ks)) m))(o:DefXs P w K I base n "rec_kind" qaa (spKt K (λks=>xxa ks (R ks)) m))(y:DefXs P w K I base n "get_kind" qaa (spKt K (λks=>xxb ks (R ks)) m))(j:DefXs P w K I base n "tag_kind" qaa (spKt K (λks=>xw9 ks (R ks)) m))(e:DefXs P w K I base n "case_kind" qaa (spKt K (λks=>xsp ks (R ks)) m))(G:DefXs P w K I base n "if_kind" qaa (spKt K (λks=>IfKt (R ks)) m)):DefXs P w K I base (n+1) "kind_of" qaa (spKt K (λks env d r=>xlv env d r\/xsm ks (R ks) env d r) m):=by
 refine DefXs.of T.jE sc_kind_of (by walk_at"l") (λf a0 A outer s H vs Q E J h=>?_);obtain⟨kv,tv,p,ks,d,env,r,rfl,hi,hR,q⟩:=h;have nd:=sc_kind_of.nd;have hu:=xcs J
 refine⟨_,(zpn (psn 3 nd (px K (pv 1) pI))
   (zpn (xa0 (pR xa9 (pv 3) pS (nM _)) (zpo (xaj (xav u J (zpc (px K (pv 1) pI) pN zss)))) pQ)
   (zpn (xa0 (pR xa9 (pv 3) pS (nM _)) (zpo (xaj (xav z J (zpc (px K (pv 1) pI) (v1 2) zss)))) pQ)
   (zpn (xa0 (pR xa9 (pv 3) pS (nM _)) (zpo (xaj (xav F J (va 0 (va 1 (v1 2)))))) pQ)
   (zpn (xa0 (pR xa9 (pv 3) pS (nM _)) (zpo (xaj (xav o J (va 0 (va 1 (v1 2)))))) pQ)
   (zpn (xa0 (pR xa9 (pv 3) pS (nM _)) (zpo (xaj (xav y J (va 0 (va 1 (v1 2)))))) pQ)
   (zpn (xa0 (pR xa9 (pv 3) pS (nM _)) (zpo (xaj (xav j J (va 0 (va 1 (v1 2)))))) pQ)
   (zpn (xa0 (pR xa9 (pv 3) pS (nM _)) (zpo (xaj (xav e J (va 0 (va 1 (v1 2)))))) pQ)
   (zpo (xaj (xav G J (va 0 (va 1 (v1 2)))))))))))))),?_⟩
 rcases hR with(⟨i,rfl,h0,Y,rfl⟩ |⟨x,rfl,hx⟩) |g |g |g |g |g |g
 ·obtain⟨a,us,rfl,C,_,_,rfl,rfl,_,_,rfl,rfl,rfl⟩:=hi.tm
  have M:SqT K H a [.str (S "num"),.int i]:=zC C;walk_at"rd";exact(jAA h0 Y q)
 ·obtain⟨a,us,rfl,C,_,_,rfl,rfl,_,_,rfl,rfl,rfl⟩:=hi.tm
  have M:SqT K H a [.str (S "box"),.str x]:=zC C;walk_at"rd";exact(jEE x p (xaw env r rfl hi.en hx q))
 ·obtain⟨sg,a,b,_,rfl,_⟩:=id g
  obtain⟨l,us,rfl,C,_,_,rfl,rfl,_,_,rfl,rfl,va,_,rfl,O,U,_,rfl,rb,rfl⟩:=hi.tm;have M:SqT K H l [.str (S "op"),.str sg,va,U]:=zC C;walk_at"rd";exact(xas kv _ p ks _ (xaw env r rfl hi g q))
 ·obtain⟨x,es,rfl,_⟩:=id g
  obtain⟨l,us,rfl,C,_,_,rfl,rfl,_,_,rfl,rfl,va,_,rfl,O,rfl⟩:=hi.tm;have M:SqT K H l [.str (S "rec"),.str x,va]:=zC C;walk_at"rd";exact(xas kv _ p ks _ (xaw env r rfl hi g q))
 ·obtain⟨a,f',_,rfl,_⟩:=id g
  obtain⟨l,us,rfl,C,_,_,rfl,rfl,va,_,rfl,O,_,_,rfl,rfl,rfl⟩:=hi.tm;have M:SqT K H l [.str (S "get"),va,.str f']:=zC C;walk_at"rd";exact(xas kv _ p ks _ (xaw env r rfl hi g q))
 ·obtain⟨x,t,a,rfl,_⟩:=id g
  obtain⟨l,us,rfl,C,_,_,rfl,rfl,_,_,rfl,rfl,_,_,rfl,rfl,va,_,rfl,O,rfl⟩:=hi.tm;have M:SqT K H l [.str (S "tag"),.str x,.str t,va]:=zC C;walk_at"rd";exact(xas kv _ p ks _ (xaw env r rfl hi g q))
 ·obtain⟨a,rs,_,rfl,_⟩:=id g
  obtain⟨l,us,rfl,C,_,_,rfl,rfl,va,_,rfl,O,Z,_,rfl,rr,rfl⟩:=hi.tm;have M:SqT K H l [.str (S "case"),va,Z]:=zC C;walk_at"rd";exact(xas kv _ p ks _ (xaw env r rfl hi g q))
 ·obtain⟨a,b,c,_,rfl,_⟩:=id g
  obtain⟨l,us,rfl,C,_,_,rfl,rfl,va,_,rfl,O,U,_,rfl,rb,vc,_,rfl,rc,rfl⟩:=hi.tm;have M:SqT K H l [.str (S "if"),va,U,vc]:=zC C;walk_at"rd";exact(xas kv _ p ks _ (xaw env r rfl hi g q))
theorem xwq{R:RK}(D:DefXs P w K c base n "kind_of" qaa (spKt K R (m+1))):DefXs P w K c base n "kind_of" qaa (spKt K R m):=D.imp λvs H Q E h=>by
 obtain⟨kv,b,p,ks,d,env,r,f,a,e⟩:=h;exact(xas kv b p ks d (xaq env r f ⟨a.kd,a.kl,a.el,a.tm,a.en.mono (by omega)⟩ e))
theorem xlb (T:Tx K c) (R:RK) (b:RLen R) (i:m<=1000) (g:DefXs P w K c base (n+2) "kind_of" qaa (spKt K R (m+1))) :
  DefXs P w K c base (n+5) "kind_of" qaa (spKt K (λks env d r=>xlv env d r\/xsm ks (R ks) env d r) m):=by
 have D:=xwq g;have same:∀k,DefXs P w K c base (k+1) "need_same" qak (xi0 K):=λk=>xgg T;have sort:∀k,DefIs P w K c base (k+1) "sort_of" qac xc3:=λk=>xd6 T;have a:∀k,DefIs P w K c base (k+1) "parts_of" qac xcj:=λk=>xda T;have e:∀k,DefXs P w K c base (k+2) "part_kind" qal (xg6 K):=λk=>xko (n:=k+1) T (a k);have nk:=xgh (n:=n+2) T R b D (same (n+1));have ns:=xkq (P:=P) (w:=w) (base:=base) (n:=n+2) T (sort (n+1));have f:=xhg (n:=n+2) T R b D (sort (n+1));have l:=xmf (n:=n+2) T R g (xl9 T) (e n);have h:=xkp (P:=P) (w:=w) (base:=base) (n:=n+2) T (a (n+1)) (xkr T);have j:=xkw (n:=n+3) T R b i f h l (same (n+2));exact xoq (n:=n+4) T R (xmc T) (xme T) (xop (n:=n+3) T R nk) (xmb (n:=n+3) T R ns nk (a (n+2))) (xmd (n:=n+3) T R f (e (n+1))) (xma (n:=n+3) T R ns nk (e (n+1))) j (xos (n:=n+3) T R b (D.mono (by omega)) nk)
theorem xyp(T:Tx K f):∀n m,n+m<=999->DefXs P w K f base (3*n+5) "kind_of" qaa (spKt K (λks=>Kt ks n) m)
 | 0,m,h=>by
  refine(xlb (P:=P) (w:=w) (base:=base) (n:=0) (m:=m) T (λ_ _ _ _=>False) (λ_ _ _ _ _ _ h=>h.elim) (by omega) (DefXs.none T.jE ?_)).imp ?_
  ·rintro vs H Q E ⟨_,_,_,_,_,_,_,_,_,h,_⟩
   exact h
  ·rintro vs H Q E ⟨kv,e,p,ks,d,env,r,c,b,a,i⟩
   exact(xas kv e p ks d (xaw env r c b (.inl a) i))
 |n+1,m,h=>by
  have g:=xyp T n (m+1) (by omega);exact xlb (n:=3*n+3) (m:=m) T (λks=>Kt ks n) (λks env d r c b a=>xla c n env d r b a) (by omega) g
theorem xol{X:Cx}{K:Fg}(a:X.K=K):OpR X (compareOp .In) (rIn K false):=by subst a;exact xkk
theorem xnk{H:Hp}:∀{vs:List V} {ds:List D} (n:Nat),RelDs H vs ds->RelDs H (vs.take n) (ds.take n)
 |vs,[],n,h=>by
  rw[show vs=[] from h,List.take_nil,List.take_nil];rfl
 |vs,d::ds,0,_=>by
  rw[List.take_zero,List.take_zero];rfl
 |vs,d::ds,n+1,⟨v,r,e,b,a⟩=>by
  subst e;exact(xaq v _ rfl b (xnk n a))
theorem xqb{H:Hp}{w:V}{e:D}(c:RelD H w e):∀{vs:List V} {ds:List D} (n:Nat),RelDs H vs ds->RelDs H (vs.set n w) (ds.set n e)
 |vs,[],n,h=>by
  rw[show vs=[] from h];rfl
 |vs,d::ds,0,⟨v,r,b,f,a⟩=>by
  subst b;exact(xaq w r rfl c a)
 |vs,d::ds,n+1,⟨v,r,b,f,a⟩=>by
  subst b;exact(xaq v _ rfl f (xqb c n a))
theorem xke{H:Hp}:∀{vs:List V} {ds:List D} (n:Nat),RelDs H vs ds->RelDs H (vs.eraseIdx n) (ds.eraseIdx n)
 |vs,[],n,h=>by
  rw[show vs=[] from h];rfl
 |vs,d::ds,0,⟨v,r,b,c,a⟩=>by
  subst b;exact a
 |vs,d::ds,n+1,⟨v,r,b,c,a⟩=>by
  subst b;exact(xaq v _ rfl c (xke n a))
theorem xml{α β:Type}(f:α->β):∀(l:List α) (n:Nat) (a:α),(l.set n a).map f=(l.map f).set n (f a)
 |[],_,_=>rfl
 |b::l,0,a=>rfl
 |b::l,n+1,a=>by
  show f b::(l.set n a).map f=f b::(l.map f).set n (f a);rw[xml f l n a]
theorem xk2{α β:Type}(f:α->β):∀(l:List α) (n:Nat),(l.eraseIdx n).map f=(l.map f).eraseIdx n
 |[],_=>rfl
 |b::l,0=>rfl
 |b::l,n+1=>by
  show f b::(l.eraseIdx n).map f=f b::(l.map f).eraseIdx n;rw[xk2 f l n]
theorem cut0(us:List V)(k:Nat):cutV us none (some (k:Int))=us.take k:=by
 unfold cutV;rw[show HT.sIx us.length 0 none=0 from rfl,List.drop_zero,Nat.sub_zero,HT.sIx_nat];by_cases h:k<=us.length
 ·rw[Nat.min_eq_left h]
 ·rw[Nat.min_eq_right (by omega),List.take_length,zTL (by omega)]
theorem xs9{X:Cx}{K:Fg}{b:Expr}(e:X.K=K){l:Expr}{a:TE}(c:PE X l a):PI X b l (xww K a):=by subst e;exact xqj c
theorem xuw(b:Addr->Hp->Prop){R:Addr->Hp->Prop}{A:Prop}(h:(∀a H,b a H->R a H)->A)(r:∀a H,b a H->R a H):A:=h r
structure BP(ks:List Kn)(ns:List Str)(n7:Str)(qs:List (Str×Str)):Prop where
 len:qs.length<=4
 nd:(qs.map (·.1)).Nodup
 nm:∀p∈qs,p.1∈ns\/p.1=n7
 kn:∀p∈qs,KIn ks ks.length p.2
def spBP:Sp:=λvs H Q _=>∃(f l nb:Addr) (srt:Str) (pv:V) (p q:Int) (ws:List V) (ks:List Kn) (ps:List (Str×Str)) (nms:List Str) (n7:Str),vs=[.ref f,.ref l,.str srt,pv,.ref nb]/\H f=some (.lst [.int p,.int q])/\H l=some (.lst ws)/\RelDs H ws (ks.map Kn.d)/\KWf ks ∧
 RelD H pv (xdv ps)/\ps.length<=4/\(ps.map (·.1)).Nodup/\H nb=some (.lst (nms.map V.str))/\nms[7]?=some n7/\n7 ∉ps.map (·.1)/\l≠f/\nb≠f ∧
 ∀v qs (H':Hp),Fed f H H'->RelD H' v (xdv qs)->BP ks (ps.map (·.1)) n7 qs->(srt=S "alt"->qs≠[])->Q v H'
def StA(H:Hp)(f:Addr)(qok:List (Str×Str)->Prop)(pl:Addr)(H':Hp):Prop:=Fed f H H'/\pl≠f/\H pl=none/\∃us qs,H' pl=some (.lst us)/\RelDs H' us (qs.map xe4)/\qok qs
def okA(ks:List Kn)(ps:List (Str×Str))(qs:List (Str×Str)):Prop:=qs.length<=4/\(qs.map (·.1)).Sublist (ps.map (·.1))/\∀p∈qs,KIn ks ks.length p.2
theorem xgo(T:Tx K mg)(u:DefIs P w K mg base n "_law_take" qad xc2)(m:DefIs P w K mg base n "_law_any_kind" qan xsz):DefIs P w K mg base (n+1) "_law_beside_parts" qbd spBP:=by
 refine DefIs.of T.kM scl_beside_parts (by walk_at"l") (λf ca A outer s H vs Q E hr h=>?_);obtain⟨f',l,nb,ac,c9,p0,q0,ws,ks,ps,bh,n7,rfl,hf,hl,af,wf,bm,b4,ai,bp,bq,b8,lf,nf,q⟩:=h;have nd:=scl_beside_parts.nd;have am:=wf.few;have bi:=af.length;rw[zLM]at bi
 refine⟨_,(zpn (psn 5 nd (pd u hr (va 0 (zpc pI pN zso))))
   (zpn (xbl (i:=3) qbh [none,none,some 1] rfl (by kernel_rfl) nd rfl (by walk_at"o") (xap (K:=K) rfl (pv 3)) (λ_ _ _ _=>(xa2 (K:=K) (n:=2) rfl rfl (xab (pgc 0) (xab (pgc 1) xa1)))) (λ_ _ _ _=>(xcq (PW.pt (xi7 (pR xa9 (pv 1) pS (nM _)) (xhb (pR (xol (K:=K) rfl) (pv 1) (xb7 ["_law_row"] [none] rfl (by kernel_rfl) (xs9 (K:=K) rfl (pv 2)) (λ_ _ _ _=>(pgc 0)) (λ_ _ _ _=>xce) (λ_ _ _ _=>(px K (pv 0) pI))) (by with_unfolding_all rfl))))))) (λ_ _ _ _=>(xak (va 0 (v1 1)))))
   (zpn (xa0 (PW.pt (xcg (pR xa9 (pv 5) pI (nM _)) (xby (pR xee (xan (xad (K:=K) rfl) rfl T.k8 PySem.boot_len (v1 3)) pI (nM _))))) (zpo (xba (xgn PySem.F.plainAttrs_list PySem.F.slot_list_pop PySem.F.type_list_pop xti (pv 3) (zpc (pd u hr (va 0 (zpc (xan (xad (K:=K) rfl) rfl T.k8 PySem.boot_len (v1 3)) pN zsc))) pN zsc)))) pQ)
   (zpn (xa0 (PW.pt (xi7 (pR xa9 (pv 5) pI (nM _)) (xhb (PW.pt (xcg (pR xa9 (xan (xad (K:=K) rfl) rfl T.k8 PySem.boot_len (v1 3)) pI (nM _)) (xby (pR xa9 (pv 2) pS (nM _)))))))) (zpo (psn 3 nd (xat xhf (xcn xg9 (pv 3) xdp (xcy pI)) (xbs (zpc (xak (zpc (pxl K (pv 4) pI) (zpc (pd m hr (va 0 (v1 1))) pN zsc) zss)) pN sT))))) pQ)
   (zpn (xa0 (pR xa9 (pv 5) pI (nM _)) (zpo (xba (xuq PySem.F.plainAttrs_list PySem.F.slot_list_reverse PySem.F.type_list_reverse xif (pv 3)))) pQ)
   (zpn (xa0 (PW.pt (xcg (pR xa9 (pv 5) pI (nM _)) (xby (pR xee (xan (xad (K:=K) rfl) rfl T.k8 PySem.boot_len (v1 3)) pI (nM _))))) (zpn (psn 6 nd (pd u hr (va 0 (zpc (xan (xad (K:=K) rfl) rfl T.k8 PySem.boot_len (v1 3)) pN zsc))))
   (zpo (xdi (xak (zpc (px K (pxl K (pv 3) (pv 6)) pI) (zpc (pd m hr (va 0 (v1 1))) pN zsc) zss)) (xqk (pv 3) (pv 6) xi6)))) pQ)
   (zpo (xaj (xau (xbi (K:=K) rfl) rfl T.uH PyProof.Rows.boot_tuple (v1 3)))))))))),?_⟩
 refine(xaa _ rfl f' p0 q0 _ rfl hf (by decide) (by decide) (λfm H1 m0 m1 f1=>?_));have ao:=xah (jEE p0 q0 hf) f1;obtain⟨p1,q1,h1⟩:=f1.2;have ah:=f1.1 _ _ hl lf;have b0:=af.tups ao _;obtain⟨pa,us,rfl,bo,b2⟩:=bm;have ak:=ao _ _ bo;have b1:=b2.tups ao _;have bj:=b2.length;rw[zLM]at bj;apply xuw (StA H f' (okA ks ps))
 ·intro O
  refine(xay _ rfl pa rfl ⟨_,zC ak⟩ ?_);refine xbb (xs:=us) (λi ys H'=>Same H1 H'/\∃G:List (Str×Str),G.Sublist (ps.take i)/\RelDs H' ys (G.map xe4)/\∀p∈G,KIn ks ks.length p.2) (xfh (Same.refl _) ([]) (List.nil_sublist _) rfl (λ_ h=>nomatch h)) (xaz (by omega)) (λi ys H' _ p=>zC (p.1 _ _ ak)) ?_ ?_
  ·rintro i y ys H' hy au a9 ⟨sm,G,a0,C,U⟩
   obtain⟨d',bb,bg⟩:=b1.get hy;rw[zGM]at bb;obtain⟨pr,bn,rfl⟩:=zMS bb;obtain⟨b,be,rfl,hb,_,_,rfl,rfl,_,_,rfl,rfl,rfl⟩:=bg;have bd:ps.take (i+1)=ps.take i++[pr]:=by rw[zTA,bn];rfl
   have keep:∀(H2:Hp) (t:Addr),Same H' H2->H2 t=none->KIn ks ks.length pr.2->Same H1 (upd H2 t (.tup [.str pr.1,.str pr.2]))/\∃ar:List (Str×Str),ar.Sublist (ps.take (i+1))/\RelDs (upd H2 t (.tup [.str pr.1,.str pr.2])) (ys++[.ref t]) (ar.map xe4)/\∀p∈ar,KIn ks ks.length p.2:=λH2 t s2 ht hk=>by
    have st:=zB ht (.tup [.str pr.1,.str pr.2]);refine(xfh (sm.trans (s2.trans st)) (G++[pr]) (by rw[bd];exact a0.append (List.Sublist.refl _)) ?_ (λz hz=>?_))
    ·rw[zAP]
     exact(C.same (s2.trans st) _).append (xaq _ ([]) rfl (xac t _ rfl ups _ _ rfl rfl _ (jEAA _ rfl rfl rfl)) rfl)
    ·rcases zMA hz with hz |hz
     ·exact U z hz
     ·rw[zMO hz];exact hk
   refine(xai b _ rfl (zC (sm _ _ hb)) rfl _ _ rfl _ (xdb _ rfl rfl (ext2 rfl rfl) ?_));refine(xao _ rfl rfl _ rfl ?_);by_cases a8:pr.2=S "num"
   ·exact iteKT (zDT (congrArg V.str a8)) (iteT (xay _ rfl _ rfl (by walk_at"s") (λt ht=>nxtG au a9 (keep _ t (Same.refl _) ht (.inl a8)))))
   ·refine iteKF (zDF λz=>a8 (V.str.inj z)) ?_
    refine(xcx _ rfl _ rfl l rfl ⟨_,zD (sm _ _ ah)⟩ ?_);refine xhx (j:=0) (xs:=ws) (λi2 ab H2=>Same H' H2/\ab=((ks.take i2).map Kn.name).map V.str) (by rfl) ⟨Same.refl _,rfl⟩ (xaz (by omega)) (λi2 ab H2 _ p=>zD (p.1 _ _ (sm _ _ ah))) ?_ ?_
    ·rintro i' x ab H2 hx al ⟨s2,rfl⟩
     obtain⟨d,hd,rd⟩:=(b0.same (sm.trans s2) _).get hx;rw[zGM]at hd;obtain⟨k',bu,rfl⟩:=zMS hd;obtain⟨b3,c8,rfl,bx,_,_,rfl,rfl,_,_,rfl,rfl,v3,_,rfl,r3,rfl⟩:=rd;have a6:i'<ws.length:=(zES hx).1;refine(xaa _ rfl b3 _ _ _ rfl rfl (zC bx) rfl (nxt a6 al ⟨s2,?_⟩));rw[zTA,bu];simp
    rintro ab H2 al ⟨s2,rfl⟩ D2 c0;rw[zTL (by omega)];have sD:=zB c0 (.lst ((ks.map Kn.name).map V.str));refine(xaw D2 _ rfl (.inl (zD ups)) rfl (jAEA (xd9 _) _ rfl ?_));rw[if_neg (by decide),xjl];by_cases as:pr.2∈ks.map Kn.name
    ·refine xtr (zDT as) (xay _ rfl _ rfl (by walk_at"s") (λt ht=>nxtG au a9 (keep _ t (s2.trans sD) ht (KIn.of (.inr ?_)))))
     obtain⟨k',c5,c4⟩:=zMP as;exact(jEA k' c5 c4)
    ·exact xrq (zDF as) (nxtN au a9 (xfh (sm.trans (s2.trans sD)) G (by rw[bd];exact a0.trans (List.sublist_append_left _ _)) (C.same (s2.trans sD) _) U))
  rintro ys H2 a9 ⟨sm,G,a0,C,U⟩ pl ag;have sP:=zB ag (.lst ys);have a2:G.Sublist ps:=a0.trans (List.take_sublist _ _);have J:pl≠f':=Ne.symm (neN (sm _ _ h1) ag)
  have I:H pl=none:=by
   cases h:H pl with
   |none=>rfl
   |some o=>
    have:=(f1.same sm).1 _ _ h J;rw[ag]at this;cases this
  have Z:StA H f' (okA ks ps) pl (upd H2 pl (.lst ys)):=(jAAA (f1.same (sm.trans sP)) J I (xaw ys G ups (C.same sP _) (zF a2.length_le b4) ⟨a2.map _,U⟩));clear a0 a2 C U a9;generalize upd H2 pl (.lst ys)=H3 at Z⊢;clear sP sm ag J I ys G;refine(xao _ rfl rfl _ rfl (ite2 (λc1=>?_) (λc1=>iteF (O _ _ Z))));obtain⟨F,J,I,c,G,g,C,a5,a4,U⟩:=id Z;refine(xbn _ rfl pl _ rfl (.inl (zD g)) _ _ rfl rfl (jEA _ rfl (ite2 (λc2=>?_) (λc2=>O _ _ Z))));obtain⟨p3,q3,h3⟩:=F.2;have a3:=C.length;rw[zLM]at a3;refine(xao _ rfl (.inl (jAE rfl _ (zD g))) _ rfl (xa3 _ rfl pl _ rfl (.inl (zD g)) (xal f' p3 q3 _ rfl h3 (by have:=zH c2;omega) (by omega) (λr H4 r0 r1 f4=>?_))));have a1:=f4.1 _ _ g J;obtain⟨i,rfl⟩:∃i:Nat,r=(i:Int):=⟨r.toNat,by omega⟩;have a6:i<c.length:=by omega
  refine(xag pl c _ i (c[i]) rfl rfl a1 (by omega) (by omega) (jAA ?_ (zGA a6) ?_))
  ·exact PySem.StrLaws.seqIndex_nonneg (by omega) (by omega)
  have ae:=C.tups (xah F.2 f4) _
  have a7:StA H f' (okA ks ps) pl (upd H4 pl (.lst (c.eraseIdx i))):=by
   refine(jAAA (Fed.put (F.trans f4) I J _) J I (xaw (c.eraseIdx i) (G.eraseIdx i) ups ?_ (zF (List.eraseIdx_sublist _ _).length_le a5) ⟨((List.eraseIdx_sublist _ _).map _).trans a4,λp M=>U p ((List.eraseIdx_sublist _ _).subset M)⟩));rw[xk2];exact(xke i ae).tups (xbk a1 _) _
  generalize upd H4 pl (.lst (c.eraseIdx i))=H5 at a7⊢;exact O _ _ a7
 apply xuw (StA H f' (λG=>BP ks (ps.map (·.1)) n7 G/\(ac=S "alt"->G≠[])))
 ·intro O pl H3 Z
  obtain⟨F,J,I,c,G,g,C,a5,a4,U⟩:=id Z;have a3:=C.length;rw[zLM]at a3;obtain⟨p3,q3,h3⟩:=F.2;have stay:(ac=S "alt"->G≠[])->StA H f' (λG=>BP ks (ps.map (·.1)) n7 G/\(ac=S "alt"->G≠[])) pl H3:=λha=>(jAAA F J I (xaw c G g C ⟨a5,ai.sublist a4,λp M=>.inl (a4.subset (zQ M)),U⟩ ha));apply xnr
  ·intro an
   refine(xao _ rfl rfl _ rfl (ite2 (λc1=>iteT an.go) (λc1=>?_)));refine(xa3 _ rfl pl _ rfl (.inl (zD g)) (jAEA rfl _ rfl (ite2 (λc2=>?_) (λc2=>iteF (O _ _ (stay λ_ e=>?_))))))
   ·refine(xao _ rfl rfl _ rfl (ite2 (λc3=>an.go) (λc3=>O _ _ (stay λe=>?_))))
    exact absurd (zDT (by rw[e];rfl)) c3
   ·refine c2 (zDT ?_)
    rw[e]at a3;rw[a3];rfl
  have bt:=F.1 _ _ hl lf;have az:=af.tups (xah (jEE p0 q0 hf) F) _;have b7:=F.1 _ _ bp nf;refine(xbf _ rfl _ rfl pl c rfl (zD g) (λc2 bc=>?_));rw[show((3:Int))=((3:Nat):Int) from rfl,cut0];have sc:=zB bc (.lst (c.take 3));have c6:c2≠f':=Ne.symm (neN h3 bc);have av:atI (bh.map V.str) 7=some (.str n7):=xar (j:=7) (by rw[zGM,bq];rfl);refine(xaa _ rfl nb _ _ _ rfl rfl (zD (sc _ _ b7)) av (xa6 _ rfl _ rfl f' l p3 (xax q3 ws ks rfl (sc _ _ h3) (.inl (sc _ _ bt)) (az.same sc _) am (λx H5 hx f5=>?_))));refine⟨(by walk_at"s"),λt ht=>⟨(by walk_at"s"),λl1 ah=>?_⟩⟩;have y1:=zB ht (.tup [.str n7,.str x]);have y2:=zB ah (.lst [.ref t]);have bw:=f5.1 _ _ ups c6;refine(xbp c2 l1 _ _ rfl rfl ((y1.trans y2) _ _ bw) ups (fits (by rw[List.length_take];show _+1<=_;omega)) (λl3 aa=>?_));have y3:=zB aa (.lst (c.take 3++[.ref t]));have aw:=y1.trans (y2.trans y3);have F5:Fed f' H H5:=(F.same sc).trans f5;have aq:=((C.same sc _).tups (xah (jEE p3 q3 (sc _ _ h3)) f5) _).same aw _;obtain⟨p5,q5,h5⟩:=F5.2;have ax:l3≠f':=Ne.symm (neN ((y1.trans y2) _ _ h5) aa)
  have a7:StA H f' (λG=>BP ks (ps.map (·.1)) n7 G/\(ac=S "alt"->G≠[])) l3 (upd (upd (upd H5 t (.tup [.str n7,.str x])) l1 (.lst [.ref t])) l3 (.lst (c.take 3++[.ref t]))):=by
   refine(jAAA (F5.same aw) ax ?_ (xaw (c.take 3++[.ref t]) (G.take 3++[(n7,x)]) ups ?_ ⟨?_,?_,λp M=>?_,λp M=>?_⟩ (λ_=>by simp)))
   ·cases h:H l3 with
    |none=>rfl
    |some o=>
     have:=(F5.same (y1.trans y2)).1 _ _ h ax;rw[aa]at this;cases this
   ·rw[zAP,List.map_take]
    exact(xnk 3 aq).append (xaq _ ([]) rfl (xac t _ rfl ((y2.trans y3) _ _ ups) _ _ rfl rfl _ (jEAA _ rfl rfl rfl)) rfl)
   ·rw[zLA,List.length_take,List.length_singleton]
    omega
   ·rw[zAP]
    refine List.nodup_append.mpr (jAA ((ai.sublist a4).sublist ((List.take_sublist _ _).map _)) (by simp) (λa ha b hb e=>?_));have bz:b=n7:=by simpa using hb
    rw[e,bz]at ha;exact b8 (a4.subset (((List.take_sublist _ _).map _).subset ha))
   ·rcases zMA M with M |M
    ·exact .inl (a4.subset (zQ (zX M)))
    ·rw[zMO M];exact .inr rfl
   ·rcases zMA M with M |M
    ·exact U p (zX M)
    ·rw[zMO M];exact hx
  generalize upd (upd (upd H5 t (.tup [.str n7,.str x])) l1 (.lst [.ref t])) l3 (.lst (c.take 3++[.ref t]))=H7 at a7⊢;exact O _ _ a7
 intro pl H3 Z;obtain⟨F,J,I,c,G,g,C,Y,b6⟩:=Z;have a3:=C.length;rw[zLM]at a3;have a5:=Y.len;obtain⟨p3,q3,h3⟩:=F.2;by_cases e3:fm=3
 ·refine(xao _ rfl rfl _ rfl (iteKT (zDT (by rw[e3])) ?_))
  refine(xbh _ rfl (.inl (jAE rfl _ (zD g))) pl c rfl rfl ⟨g,?_⟩);refine(xao _ rfl rfl _ rfl (iteKF (zDF λz=>absurd (V.int.inj z) (by omega)) (iteF ?_)));refine(xe9 _ rfl pl _ rfl (.inl ⟨zD ups,λt ht=>?_⟩));have st:=zB ht (.tup c.reverse);refine q _ G.reverse _ ((Fed.put F I J _).same st) (xaq t _ rfl ups ?_) ⟨by rw[List.length_reverse];exact a5,by rw[List.map_reverse];exact xkx Y.nd,λp M=>Y.nm p (List.mem_reverse.mp M),λp M=>Y.kn p (List.mem_reverse.mp M)⟩ λha e=>b6 ha (List.reverse_eq_nil_iff.mp e);rw[List.map_reverse];exact((RelDs.rev C).tups (xbk g _) _).same st _
 refine(xao _ rfl rfl _ rfl (iteKF (zDF λz=>e3 (V.int.inj z)) ?_));apply xnr
 ·intro O
  refine(xao _ rfl rfl _ rfl (ite2 (λc1=>?_) (λc1=>iteF O.go)));refine(xbn _ rfl pl _ rfl (.inl (zD g)) _ _ rfl rfl (jEA _ rfl (ite2 (λc2=>?_) (λc2=>O.go))));refine(xb4 _ rfl _ rfl pl _ rfl (.inl (zD g)) f' (xa5 p3 q3 _ rfl h3 (by have:=zH c2;omega) (by omega) (λr H4 r0 r1 f4=>?_)));have a1:=f4.1 _ _ g J;have F4:=F.trans f4;obtain⟨p4,q4,h4⟩:=F4.2;obtain⟨i,rfl⟩:∃i:Nat,r=(i:Int):=⟨r.toNat,by omega⟩;have a6:i<c.length:=by omega
  have ae:=C.tups (xah F.2 f4) _;obtain⟨di,ba,bf⟩:=ae.get (zGA a6);rw[zGM]at ba;obtain⟨pi,b5,rfl⟩:=zMS ba;obtain⟨b,be,eb,hb,_,_,rfl,rfl,_,_,rfl,rfl,rfl⟩:=bf;have br:=F4.1 _ _ hl lf;have ay:=af.tups (xah (jEE p0 q0 hf) F4) _;have av:atI c (i:Int)=some (.ref b):=xar (by rw[zGA a6,eb]);refine(xa6 _ rfl _ rfl pl _ _ (xbj _ rfl rfl (zD a1) av (xal b _ _ _ rfl rfl (zC hb) rfl ?_)));refine(xa6 _ rfl _ rfl f' l p4 (xax q4 ws ks rfl h4 (.inl br) ay am (λx H5 hx f5=>⟨(by walk_at"s"),λt ht=>?_⟩)));have y1:=zB ht (.tup [.str pi.1,.str x]);have aj:=y1 _ _ (f5.1 _ _ a1 J);have aq:=(ae.tups (xah (jEE p4 q4 h4) f5) _).same y1 _
  have bv:ixN c.length (i:Int)=some i:=by
   unfold ixN;rw[if_pos (by omega),if_pos (by omega)];simp
  refine(xa6 _ rfl _ rfl pl c _ (xbj i rfl rfl aj bv ?_));have c7:(c.set i (V.ref t)).length=c.length:=List.length_set;refine(xe9 _ rfl pl _ rfl (.inl ⟨zD ups,λt2 bl=>?_⟩));have st:=zB bl (.tup (c.set i (.ref t)));refine q _ (G.set i (pi.1,x)) _ ((Fed.put ((F4.trans f5).same y1) I J _).same st) (xaq t2 _ rfl ups ?_) ⟨by rw[List.length_set];exact a5,?_,λp M=>?_,λp M=>?_⟩ λha e=>?_
  ·rw[xml]
   exact((xqb (e:=xe4 (pi.1,x)) (xac t _ rfl ups _ _ rfl rfl _ (jEAA _ rfl rfl rfl)) i aq).tups (xbk aj _) _).same st _
  ·rw[xml]
   have:(G.map (·.1)).set i pi.1=G.map (·.1):=by
    refine List.ext_getElem? λj=>?_;rw[List.getElem?_set];by_cases b9:i=j
    ·subst b9
     rw[if_pos rfl,zGM,b5,if_pos (by rw[zLM];omega)];rfl
    ·rw[if_neg b9]
   rw[this];exact Y.nd
  ·rcases List.mem_or_eq_of_mem_set M with M |rfl
   ·exact Y.nm p M
   ·exact Y.nm pi (zMG b5)
  ·rcases List.mem_or_eq_of_mem_set M with M |rfl
   ·exact Y.kn p M
   ·exact hx
  ·have h0:G.length=0:=by
    have:=congrArg List.length e
    rwa[List.length_set]at this
   omega
 refine(xe9 _ rfl pl _ rfl (.inl ⟨zD g,λt ht=>?_⟩));have st:=zB ht (.tup c);exact q _ G _ (F.same st) (xaq t _ rfl ups (C.same st _)) Y b6
theorem xuv(c:V->V->Hp->Prop){R:V->V->Hp->Prop}{A:Prop}(h:(∀a b H,c a b H->R a b H)->A)(r:∀a b H,c a b H->R a b H):A:=h r
theorem xq7{ks:List Kn}(nd:(ks.map Kn.name).Nodup){i j:Nat}{k k':Kn}(hi:ks[i]?=some k)(b:ks[j]?=some k')(e:k.name=k'.name):i=j:=by
 have f:(ks.map Kn.name)[i]?=some k.name:=by rw[zGM,hi];rfl
 have c:(ks.map Kn.name)[j]?=some k.name:=by rw[zGM,b,e];rfl
 have a:=(zES hi).1;exact(List.getElem?_inj (by rw[zLM];exact a) nd).mp (f.trans c.symm)
theorem xq2{a:List Str}(nd:a.Nodup){c:7<a.length}(h:a[7]∈a.drop 8):False:=by
 obtain⟨j,b,e⟩:=zMI h;rw[List.getElem_drop]at e;rw[List.length_drop]at b;have f:a[8+j]?=a[7]?:=by rw[zGA (by omega),zGA c,e]
 have:=(List.getElem?_inj (by omega) nd).mp f;omega
structure QOk(ks2:List Kn)(nms:List Str)(srt:Str)(qs:List (Str×Str)):Prop where
 len:qs.length<=4
 nd:(qs.map (·.1)).Nodup
 nm:∀p∈qs,p.1∈nms
 kn:∀p∈qs,KIn ks2 ks2.length p.2
 ne:srt=S "alt"->qs≠[]
 st:srt=S "rec"\/srt=S "alt"
def KBes(nms:List Str)(ks2:List Kn):Prop:=KWf ks2/\ks2.length<=4/\∀k∈ks2,∀p∈k.parts,p.1∈nms
theorem xpy{x a:Str}{ps:List (Str×Str)}(h:a=S "rec"\/a=S "alt"):(Kn.mk x (decide (a=S "rec")) ps).sort=a:=by
 unfold Kn.sort;rcases h with rfl |rfl
 ·rfl
 ·show(if decide (S "alt"=S "rec")=true then _ else _)=_
  rw[if_neg (by walk_at"k")]
theorem QOk.wf{ks2:List Kn}{b:List Str}{a x:Str}{f:List (Str×Str)}(h:QOk ks2 b a f)(w:KWf ks2)(l:ks2.length<6)(c:xmz b)(i:x∈b)(hn:x ∉ks2.map Kn.name):KWf (ks2++[Kn.mk x (decide (a=S "rec")) f]):=by
 refine w.snoc hn (c.2.2 _ i) h.kn (λg=>h.ne ?_) l (by show f.length<=5;have:=h.len;omega) h.nd (λz hz=>c.2.2 _ (h.nm z hz));rcases h.st with e |e
 ·exact absurd g (by show ¬decide (a=S "rec")=false;rw[e];decide +kernel)
 ·exact e
theorem QOk.nums{ks2:List Kn}{b:List Str}{a:Str}{g:List (Str×Str)}(h:QOk ks2 b a g):QOk ks2 b a (g.map λp=>(p.1,S "num")):=by
 refine⟨by rw[zLM];exact h.len,by rw[List.map_map];exact h.nd,λp f=>?_,λp f=>?_,λe z=>h.ne e (List.map_eq_nil_iff.mp z),h.st⟩
 ·obtain⟨i,c,rfl⟩:=zMP f
  exact h.nm i c
 ·obtain⟨i,c,rfl⟩:=zMP f
  exact .inl rfl
def xvp:Sp:=λvs H Q _=>∃(f nb:Addr) (kv:V) (p q:Int) (ks:List Kn) (nms:List Str),vs=[.ref f,kv,.ref nb]/\H f=some (.lst [.int p,.int q])/\RelD H kv (xbx ks)/\xua nms ks/\H nb=some (.lst (nms.map V.str))/\xmz nms/\nb≠f ∧
 ∀v ks2 (H':Hp),Fed f H H'->RelD H' v (xbx ks2)->KBes nms ks2->(∀k∈ks2,∃k0∈ks,k0.name=k.name)->Q v H'
theorem xoo(T:Tx K mg)(G:DefIs P w K mg base n "_law_take" qad xc2)(o:DefIs P w K mg base n "_law_beside_parts" qbd spBP)(u:DefIs P w K mg base n "_law_parts" qap xi1)(I:DefIs P w K mg base n "_law_size" qab (xg5 6)):DefIs P w K mg base (n+1) "_law_beside" qaz xvp:=by
 refine DefIs.of T.kN scl_beside (by walk_at"l") (λf ce A outer s H vs Q E hr h=>?_);obtain⟨f',nb,kv,p0,q0,ks,l,rfl,hf,bx,c6,b4,a1,nf,q⟩:=h;obtain⟨wf,cd,c0,bz⟩:=c6;have nd:=scl_beside.nd;have ae:=a1.1;obtain⟨ka,bm,rfl,b8,b7⟩:=bx;have c2:=b7.length;rw[zLM]at c2;have h7:7<l.length:=by omega
 have bt:l[7]?=some l[7]:=zGA h7
 refine⟨_,(zpn (psn 3 nd (xbs pN))
   (zpn (xca PassesOwn.never rfl (xap (K:=K) rfl (pv 1)) (xa2 (K:=K) rfl rfl (xab (pgn 4 nd) (xab (pgn 5 nd) (xab (pgn 6 nd) xa1))))
   (zpn (psn 7 nd (pd G hr (va 0 (zpc pI pN zso))))
   (zpn (psn 8 nd (pd o hr (va 0 (va 3 (va 5 (va 6 (v1 2)))))))
   (zpn (xa0 (pR xa9 (pv 7) pI (nM _)) (zpn (psn 8 nd (pd u hr (va 0 (va 3 (zpc (pxl K (xbs (zpc pS (zpc pS pN zso) zso)) (xau xdw rfl T.k6 PyProof.Rows.boot_int (zpc (xdt xa9 (pv 5) pS (nM _)) pN xfm))) (zpc (xcn xg9 (pv 2) (xcy pI) (xcy pI)) pN zss) zss)))))
   (zpo (psn 5 nd (pxl K (xbs (zpc pS (zpc pS pN zso) zso)) (xau xdw rfl T.k6 PyProof.Rows.boot_int (zpc (xdt xa9 (pv 5) pS (nM _)) pN xfm)))))) pQ)
   (zpn (xa0 (pR xee (pd I hr (zpc (xat xhf (pv 3) (xbs (zpc (xak (va 4 (va 5 (v1 8)))) pN sT))) (v1 4) xa8)) pI (nM _)) (zpo (psn 8 nd (xau (xbi (K:=K) rfl) rfl T.uH PyProof.Rows.boot_tuple (zpc (xb7 ["_law_part","_law_kind"] [none,none] rfl (by kernel_rfl) (xap (K:=K) rfl (pv 8)) (λ_ _ _ _=>(xa2 (K:=K) (n:=2) rfl rfl (xab (pgc 0) (xab (pgc 1) xa1)))) (λ_ _ _ _=>xce) (λ_ _ _ _=>(xak (va 0 (zpc pS pN zso))))) pN xdh)))) pQ)
   (zpo (xa0 (pR xft (pv 7) pI (nM _)) (zpo (xba (xgn PySem.F.plainAttrs_list PySem.F.slot_list_append PySem.F.type_list_append xct (pv 3) (zpc (xak (va 4 (va 5 (v1 8)))) pN sT)))) pQ)))))))
   (zpo (xaj (xau (xbi (K:=K) rfl) rfl T.uH PyProof.Rows.boot_tuple (v1 3)))))),?_⟩
 refine⟨(by walk_at"s"),λfl an=>?_⟩;have s0:=zB an (.lst []);have Z:fl≠f':=Ne.symm (neN hf an);refine(xay _ rfl ka rfl ⟨_,zC (s0 _ _ b8)⟩ ?_)
 refine xdc (xs:=bm) (λi σ C=>∃(ws:List V) (ks2:List Kn) (o4 o5 o6 o7 o8:Option V),σ=[some (.ref f'),some (.ref ka),some (.ref nb),some (.ref fl),o4,o5,o6,o7,o8]/\Fed f' H C/\C fl=some (.lst ws)/\RelDs C ws (ks2.map Kn.d)/\KWf ks2/\ks2.length<=i/\(∀k∈ks2,∃j k0,j<i/\ks[j]?=some k0/\k0.name=k.name)/\∀k∈ks2,∀p∈k.parts,p.1∈l)
  (xas ([]) ([]) none none none (xaw none none rfl ((Fed.refl hf).same s0) ups (jAAA rfl KWf.nil (zG _) ⟨(λ_ h=>nomatch h),(λ_ h=>nomatch h)⟩))) (λi σ C _ p=>?_) ?_ ?_
 ·obtain⟨_,_,_,_,_,_,_,_,F,_⟩:=p
  exact zC (xah (jEE p0 q0 hf) F _ _ b8)
 ·rintro i vv σ H1 bo ⟨ws,ks2,o4,o5,o6,o7,o8,rfl,F,ai,a5,U,ak,J,a8⟩
  have tp:=xah (jEE p0 q0 hf) F;obtain⟨d,hd,rd⟩:=(b7.tups tp _).get bo;rw[zGM]at hd;obtain⟨k,hk,rfl⟩:=zMS hd;obtain⟨b,_,rfl,hb,_,_,rfl,rfl,v2,_,rfl,e2,v3,_,rfl,r3,rfl⟩:=rd;have c7:v2=.str k.sort:=e2;have hi:i<ks.length:=(zES hk).1;have am:=zMG hk;obtain⟨br,b0⟩:=bz k am;have bn:=a5.length;rw[zLM]at bn
  have ay:k.sort=S "rec"\/k.sort=S "alt":=by
   unfold Kn.sort;cases k.rc
   ·exact .inr rfl
   ·exact .inl rfl
  have af:k.name∈l:=by
   have h1:k.name∈ks.map Kn.name:=zQ am;rw[c0]at h1;exact zX h1
  have a2:k.name ∉ks2.map Kn.name:=λhm=>by
   obtain⟨k',Y,e'⟩:=zMP hm;obtain⟨j,k0,hj,c3,e0⟩:=J k' Y;have:=xq7 wf.nd c3 hk (e0.trans e');omega
  have aj:∀z∈k.parts.map (·.1),z∈l.drop 8:=λz hz=>by
   rw[b0]at hz;exact zX (zX hz)
  have b5:l[7] ∉k.parts.map (·.1):=λhm=>xq2 a1.2.1 (aj _ hm);have c9:∀p∈k.parts,p.1∈l:=λp hp=>List.mem_of_mem_drop (aj _ (zQ hp));obtain⟨p1,q1,h1⟩:=F.2;refine(xai b _ rfl (zC hb) rfl _ _ rfl _ (xa3 _ rfl _ _ rfl rfl ?_));refine(xaa _ rfl f' p1 q1 _ rfl h1 (by decide) (by decide) (λfm H2 m0 m1 f2=>?_));have F2:=F.trans f2;have aq:=xah F.2 f2;obtain⟨p2,q2,h2⟩:=F2.2;have ab:=f2.1 _ _ ai Z;have aa:=a5.tups aq _;have bh:=r3.tups aq _;apply xuv (λv s C=>∃(g:Str) (x:List (Str×Str)),s=.str g/\Fed f' H C/\C fl=some (.lst ws)/\RelDs C ws (ks2.map Kn.d)/\RelD C v (xdv x)/\QOk ks2 l g x)
  ·intro a0
   generalize ew:v2=w2;have a3:w2=.str k.sort:=ew.symm.trans c7;refine(xa4 _ rfl _ rfl _ rfl _ rfl _ rfl (xas f' fl nb k.sort v3 (xas p2 q2 ws ks2 k.parts (xaw l (l[7]) (by rw[a3];rfl) h2 ab (jAAA aa U bh (jAAA br (wf.pnd k am) (F2.1 _ _ b4 nf) (jAAA bt b5 Z ⟨nf,λv1 au H3 f3 bf a9 b3=>?_⟩)))))));have F3:=F2.trans f3;have be:=xah F2.2 f3;obtain⟨p3,q3,h3⟩:=F3.2;have m:=f3.1 _ _ ab Z;have r:=aa.tups be _
   have bj:QOk ks2 l k.sort au:=⟨a9.len,a9.nd,λp hp=>by
    rcases a9.nm p hp with z |z
    ·exact List.mem_of_mem_drop (aj _ z)
    ·rw[z];exact zZ h7,a9.kn,b3,ay⟩
   refine(xao _ rfl rfl _ rfl (ite2 (λc1=>?_) (λc1=>a0 _ _ _ (xaw k.sort au a3 F3 m (jAA r bf bj)))))
   have bd:∃so:Str,∃cB:Bool,decide (w2=V.str (S "rec"))=cB/\atI [V.str (S "rec"),V.str (S "alt")] (if cB=true then 1 else 0)=some (.str so)/\(so=S "rec"\/so=S "alt"):=by
    rw[a3];rcases ay with e |e
    ·exact(xaq (S "alt") true (by rw[e];decide +kernel) rfl (.inr rfl))
    ·exact(xaq (S "rec") false (by rw[e];decide +kernel) rfl (.inl rfl))
   obtain⟨so,cB,eB,ba,az⟩:=bd;have bv:=F3.1 _ _ b4 nf;refine(xay _ rfl _ rfl (by walk_at"s") (λl1 al=>?_));have y1:=zB al (.lst [.str (S "rec"),.str (S "alt")]);refine(jEAA _ rfl (by rw[a3];rfl) (.inr (xaa cB (congrArg (λb=>[V.bl b]) eB) l1 _ _ _ rfl rfl (zD ups) ba ?_)));refine(xbo _ rfl _ rfl _ rfl nb _ rfl (zD (y1 _ _ bv)) (λc hc=>?_));rw[xu6 ae];have sc:=zB hc (.lst (((l.drop 8).take 4).map V.str));have M:=y1.trans sc;have cf:c≠f':=Ne.symm (neN (y1 _ _ h3) hc);refine(xas f' fl c so p3 (xbq q3 ws ks2 ((l.drop 8).take 4) rfl (M _ _ h3) (M _ _ m) (r.same M _) U ups (jAAA (by rw[List.length_take,List.length_drop,ae];rfl) az Z ⟨cf,λv ps H4 f4 rv h4 ac bb b1 c8=>?_⟩)));have F4:=(F3.same M).trans f4;have av:=f4.1 _ _ (M _ _ m) Z;have as:=(r.same M _).tups (xah (jEE p3 q3 (M _ _ h3)) f4) _;refine⟨(by walk_at"s"),λl2 ak=>?_⟩;have y2:=zB ak (.lst [.str (S "rec"),.str (S "alt")]);refine(jEAA _ rfl (by rw[a3];rfl) (.inr (xaa cB (congrArg (λb=>[V.bl b]) eB) l2 _ _ _ rfl rfl (zD ups) ba ?_)))
   have bu:∀z∈ps.map (·.1),z∈l:=λz hz=>by
    rw[ac]at hz;exact List.mem_of_mem_drop (zX (zX hz))
   have bi:QOk ks2 l so ps:=⟨h4,by rw[ac];exact(xyf a1 ps.length).1,λp hp=>bu _ (zQ hp),b1,bb,az⟩;have hP:∃(g:Str) (x:List (Str×Str)),V.str so=.str g/\Fed f' H (upd H4 l2 (.lst [.str (Str.ofString "rec"),.str (Str.ofString "alt")]))/\upd H4 l2 (.lst [.str (Str.ofString "rec"),.str (Str.ofString "alt")]) fl=some (.lst ws)/\RelDs (upd H4 l2 (.lst [.str (Str.ofString "rec"),.str (Str.ofString "alt")])) ws (ks2.map Kn.d)/\RelD (upd H4 l2 (.lst [.str (Str.ofString "rec"),.str (Str.ofString "alt")])) v (xdv x)/\QOk ks2 l g x:=(xaw so ps rfl (F4.same y2) (y2 _ _ av) (jAA (as.same y2 _) (rv.same y2 _) bi));generalize upd H4 l2 (.lst [.str (Str.ofString "rec"),.str (Str.ofString "alt")])=H5 at hP⊢;generalize V.str so=cb at hP⊢;exact a0 _ _ _ hP
  apply xuv (λv s C=>∃(g:Str) (x:List (Str×Str)),s=.str g/\Fed f' H C/\C fl=some (.lst ws)/\RelDs C ws (ks2.map Kn.d)/\RelD C v (xdv x)/\QOk ks2 l g x)
  ·intro a0 v s H3 hP
   obtain⟨g,x,es,F3,m,r,rv,hq⟩:=id hP;have ah:=hq.wf U (by omega) a1 af a2;refine(jEA _ rfl (xcx _ rfl _ rfl _ rfl (by walk_at"s") (λt ht=>⟨(by walk_at"s"),λl1 al=>?_⟩)));have y1:=zB ht (.tup [.str k.name,s,v]);have y2:=zB al (.lst [.ref t]);refine(xbp fl l1 _ _ rfl rfl ((y1.trans y2) _ _ m) ups (fits (by show _+1<=_;omega)) (λl3 bw=>?_));have y3:=zB bw (.lst (ws++[.ref t]));have O:=y1.trans (y2.trans y3)
   have ar:KsSeq (upd (upd (upd H3 t (.tup [.str k.name,s,v])) l1 (.lst [.ref t])) l3 (.lst (ws++[.ref t]))) (.ref l3) (ks2++[Kn.mk k.name (decide (g=S "rec")) x]):=by
    refine(xaq l3 _ rfl (.inl ups) ?_);rw[zAP];refine(r.same O _).append (xaq _ ([]) rfl (xac t _ rfl ((y2.trans y3) _ _ ups) _ _ rfl rfl _ (xbh _ rfl ?_ _ _ rfl (rv.same O _) rfl)) rfl);rw[es];show V.str g=V.str _;rw[xpy hq.st]
   refine(xcc _ rfl (.ref l3) _ k.name rfl ar ah ?_ (λH5 s5=>(xaq _ _ rfl rfl (jEA _ rfl (ite2 (λc1=>?_) (λc1=>a0 _ _ _ (xaw g x es (F3.same (O.trans s5)) ((O.trans s5) _ _ m) (jAA (r.same (O.trans s5) _) (rv.same (O.trans s5) _) hq))))))))
   ·refine(KIn.of (.inr (jEA (Kn.mk k.name (decide (g=S "rec")) x) (by simp) rfl))).mono ?_
    rw[zLA,List.length_singleton];omega
   ·have ag:=O.trans s5
    obtain⟨a,us,rfl,ha,ax⟩:=rv;have bp:=ax.length;rw[zLM]at bp;have cc:=hq.len;have bc:=ag _ _ ha;have aw:=ax.same ag _;refine(xay _ rfl a rfl ⟨_,zC bc⟩ ?_);refine xbb (xs:=us) (λi ys C=>Same H5 C/\RelDs C ys ((x.take i).map λp=>xe4 (p.1,S "num"))) ⟨Same.refl _,rfl⟩ (xaz (by omega)) (λi ys C _ p=>zC (p.1 _ _ bc)) ?_ ?_
    ·rintro i2 y ys C hy c4 b6 ⟨sm,a4⟩
     obtain⟨d',b9,bg⟩:=aw.get hy;rw[zGM]at b9;obtain⟨pr,bq,rfl⟩:=zMS b9;obtain⟨b2,ca,rfl,c5,_,_,rfl,rfl,_,_,rfl,rfl,rfl⟩:=bg;refine(xai b2 _ rfl (zC (sm _ _ c5)) rfl _ _ rfl _ (xdb _ rfl rfl (ext2 rfl rfl) (xgx ?_)));refine(jEAA _ rfl (by walk_at"s") (λt2 a7=>nxtG c4 b6 ⟨sm.trans (zB a7 _),?_⟩));rw[zTA,bq];show RelDs _ _ ((x.take i2++[pr]).map _);rw[zAP];exact(a4.same (zB a7 _) _).append (xaq _ ([]) rfl (xac t2 _ rfl ups _ _ rfl rfl _ (jEAA _ rfl rfl rfl)) rfl)
    ·rintro ys H6 b6 ⟨sm,a4⟩ D hD
     rw[zTL (by omega)]at a4;have z1:=zB hD (.lst ys);refine(jEEA D ys rfl (.inl ⟨zD ups,λt2 a7=>?_⟩));have z2:=zB a7 (.tup ys);have z:=ag.trans (sm.trans (z1.trans z2))
     have ao:∃(g:Str) (x:List (Str×Str)),s=.str g/\Fed f' H (upd (upd H6 D (.lst ys)) t2 (.tup ys))/\upd (upd H6 D (.lst ys)) t2 (.tup ys) fl=some (.lst ws)/\RelDs (upd (upd H6 D (.lst ys)) t2 (.tup ys)) ws (ks2.map Kn.d)/\RelD (upd (upd H6 D (.lst ys)) t2 (.tup ys)) (.ref t2) (xdv x)/\QOk ks2 l g x:=by
      refine(xaw g (x.map λp=>(p.1,S "num")) es (F3.same z) (z _ _ m) (jAA (r.same z _) (xaq t2 ys rfl ups ?_) hq.nums));rw[List.map_map];exact a4.same (z1.trans z2) _
     generalize upd (upd H6 D (.lst ys)) t2 (.tup ys)=H7 at ao⊢;generalize V.ref t2=v7 at ao⊢;exact a0 _ _ _ ao
  intro v s H3 hP;obtain⟨g,x,rfl,F3,m,r,rv,hq⟩:=hP;have ah:=hq.wf U (by omega) a1 af a2;refine(xao _ rfl rfl _ rfl (ite2 (λc1=>?_) (λc1=>?_)))
  ·refine(xao _ rfl (.inl (jAE rfl _ (zD m))) _ rfl (xay _ rfl _ rfl (by walk_at"s") (λt ht=>?_)))
   have y1:=zB ht (.tup [.str k.name,.str g,v]);have a6:=y1 _ _ m;refine(xa5 fl ws _ rfl rfl a6 (xaz (by omega)) ?_);refine(xas _ (ks2++[Kn.mk k.name (decide (g=S "rec")) x]) _ _ _ (xaw _ _ rfl (Fed.put (F3.same y1) an Z _) ups (jAAA ?_ ah (by rw[zLA,List.length_singleton];omega) ⟨λk' Y=>?_,λk' Y=>?_⟩)))
   ·rw[zAP]
    refine RelDs.append ((r.same y1 _).tups (xbk a6 _) _) (xaq _ ([]) rfl (xac t _ rfl (xbk a6 _ _ _ ups) _ _ rfl rfl _ (xbh _ rfl ?_ _ _ rfl ((rv.same y1 _).tups (xbk a6 _) _) rfl)) rfl);show V.str g=V.str _;rw[xpy hq.st]
   ·rcases zMA Y with h |h
    ·obtain⟨j,k0,hj,h'⟩:=J k' h
     exact(jEEA j k0 (by omega) h')
    ·rw[zMO h]
     exact(xaq i k (by omega) hk rfl)
   ·rcases zMA Y with h |h
    ·exact a8 k' h
    ·rw[zMO h]
     exact hq.nm
  ·refine(xas ws ks2 _ _ _ (xaw _ _ rfl F3 m (jAAA r U (by omega) ⟨λk' Y=>?_,a8⟩)))
   obtain⟨j,k0,hj,h'⟩:=J k' Y;exact(jEEA j k0 (by omega) h')
 ·rintro σ H1 ⟨ws,ks2,o4,o5,o6,o7,o8,rfl,F,ai,a5,U,ak,J,a8⟩
  refine(xe9 _ rfl fl ws rfl (.inl ⟨zD ai,λt ht=>?_⟩));have st:=zB ht (.tup ws);exact q _ ks2 _ (F.same st) (xaq t ws rfl ups (a5.same st _)) (jAA U (by omega) a8) (λk hk=>by obtain⟨j,k0,_,h1,h2⟩:=J k hk;exact(jEA k0 (zMG h1) h2))
theorem xo8{a:List (Str×Str)}(nd:(a.map (·.1)).Nodup)(x:Str):valV (xb5 [] (bKV a)) (Sum.inr x)=(xd2 a x).map V.str:=by
 cases h:xd2 a x with
 |some k=>exact xm5 nd (xkh h) []
 | none=>
  rw[xit]
  ·rfl
  ·intro b c e
   have:=xur nd c;rw[e,h]at this;cases this
theorem xfv{H a:Hp}{c:Addr}(s:Same H a)(n:a c=none):H c=none:=xck s n
theorem xgt{H a:Hp}{c:Addr}(s:Same H a)(n:H c=none)(o:HO):Same H (upd a c o):=xqs s n o
theorem xei{H:Hp}{p:Addr}{kvs:List (Key×V)}(h:H p=some (.dK kvs))(o:HO):∀b vs,H b=some (.tup vs)->upd H p o b=some (.tup vs):=λb vs a=>by
 rw[xa7 λe=>by rw[e,h]at a;cases a];exact a
theorem xqd{k:Key}{v:V}:∀{kvs:List (Key×V)},valV kvs k=none->putK kvs k v=kvs++[(k,v)]:=λ{kvs} h=>by
 unfold putK;rw[if_neg λz=>?_];obtain⟨e,a,b⟩:=List.any_eq_true.mp z;unfold valV at h;have:=List.find?_eq_none.mp (Option.map_eq_none_iff.mp h) e a;exact this b
theorem xs2(o:Option Str)(x:Str):scal (optV o) (.str x)=true:=by cases o <;> rfl
theorem xp5(o:Option Str)(x:Str):scal (.str x) (optV o)=true:=by cases o <;> rfl
theorem optV_eq{o:Option Str}{x:Str}:(optV o=V.str x) ↔ o=some x:=by
 cases o with
 |none=>exact⟨(λh=>by cases h),(λh=>by cases h)⟩
 |some z=>exact⟨(λh=>by rw[V.str.inj h]),(λh=>by rw[Option.some.inj h];rfl)⟩
theorem xtq{c:Prop}[Decidable c]{A B:Prop}(h:¬c)(a:A):if (!decide c)=true then A else B:=by
 rw[zDF h];exact a
theorem xwu{c:Prop}[Decidable c]{A B:Prop}(h:c)(b:B):if (!decide c)=true then A else B:=by
 rw[zDT h];exact b
theorem xlz{H:Hp}{u:V}{ds:List D}(h:RelD H u (.tup ds)):∃b,u=.ref b:=by
 obtain⟨b,_,e,_⟩:=h;exact⟨b,e⟩
theorem xwx{H:Hp}{u:V}{ks2:List Kn}{ys:List Wy}{k:Kn}{d:D}(h:xd7 ks2 ys k=some d)(r:RelD H u d):∃b,u=.ref b:=by
 unfold xd7 at h;split at h
 ·cases h
 ·split at h
  ·split at h
   ·split at h
    ·cases h
     exact xlz r
    ·cases h
   ·split at h
    ·cases h
     exact xlz r
    ·cases h
  ·cases h
theorem xyn{H:Hp}{u:V}{ks:List Kn}(wf:KWf ks){m:Nat}{x:Str}(h:KIn ks m x)(r:RelD H u (nuT (m+1) ks x)):∃b,u=.ref b:=by
 rcases h.nu wf with⟨rfl,_,e,_⟩ |⟨j,k,n,i,hn,g,f,_,⟨a,e,_⟩ |⟨a,p,c,l,e,_⟩⟩ <;> (rw[e]at r;exact xlz r)
def optD(H:Hp)(u:V):Option D->Prop
 |none=>u=.non
 |some d=>RelD H u d
def xg7:Sp:=λvs H Q _=>∃(a:Addr) (ys:List Wy) (x:Str),vs=[.ref a,.str x]/\WaysAt H a ys/\Q (optV (xam ys x)) H
def spNu(F:Nat->List Kn->Str->D)(m:Nat):Sp:=λvs H Q _=>∃v ks x,vs=[v,.str x]/\RelD H v (xbx ks)/\KWf ks/\KIn ks m x/\∀u H',Same H H'->RelD H' u (F (m+1) ks x)->Q u H'
def xiw(ks2:List Kn)(ys:List Wy)(olds news:List (Str×Str)):Option D:=if news.all (okQ ys olds)=true then some (.tup (news.map (tmQ ks2 olds))) else none
def xpj(ys:List Wy)(k k2:Kn):Option D:=if k.parts.all (okT ys k2.parts)=true then some (xvh k) else none
def xj8:Sp:=λvs H Q _=>∃(kv:V) (wa:Addr) (ov nv:V) (ks2:List Kn) (ys:List Wy) (os ps:List (Str×Str)),vs=[kv,.ref wa,ov,nv]/\RelD H kv (xbx ks2)/\KWf ks2/\WaysAt H wa ys/\RelD H ov (xdv os)/\RelD H nv (xdv ps)/\(os.map (·.1)).Nodup/\os.length<=100/\ps.length<=100/\(∀p∈ps,KIn ks2 6 p.2)/\∀u H',Same H H'->optD H' u (xiw ks2 ys os ps)->Q u H'
def xnd:Sp:=λvs H Q _=>∃(kv:V) (wa:Addr) (dv:V) (ks2:List Kn) (ys:List Wy) (k k2:Kn),vs=[kv,.ref wa,dv]/\KsAt H kv ks2/\WaysAt H wa ys/\RelD H dv k.d/\kAt ks2 k.name=some k2/\(k2.parts.map (·.1)).Nodup/\k2.parts.length<=100/\k.parts.length<=100 ∧
 ∀u H',Same H H'->optD H' u (xpj ys k k2)->Q u H'
def xxu:Sp:=λvs H Q _=>∃(kv:V) (wa:Addr) (dv:V) (ks2:List Kn) (ys:List Wy) (k:Kn),vs=[kv,.ref wa,dv]/\RelD H kv (xbx ks2)/\KWf ks2/\WaysAt H wa ys/\RelD H dv k.d/\(k.parts.map (·.1)).Nodup/\k.parts.length<=100/\∀u H',Same H H'->optD H' u (xd7 ks2 ys k)->Q u H'
def xnf:Sp:=λvs H Q _=>∃(fa sa ta:Addr) (kv1 kv2:V) (r1 r2:List V) (ks ks2:List Kn) (tkv:List (Key×V)) (told:List Wy),vs=[.ref fa,.ref sa,.ref ta]/\H fa=some (.tup (kv1::r1))/\H sa=some (.tup (kv2::r2))/\H ta=some (.dK tkv)/\WAll H tkv told/\told.length<=100/\RelD H kv1 (xbx ks)/\KWf ks/\RelD H kv2 (xbx ks2)/\KWf ks2 ∧
 ∀r wa la kvs (ls:List Str) H',Same H H'->H r=none->H wa=none->H la=none->H' r=some (.tup [.ref wa,.ref la])->H' wa=some (.dK kvs)->WAll H' kvs (xb1 ks2 ks told)->H' la=some (.lst (ls.map V.str))->ls.length<=100->Q (.ref r) H'
theorem xdo(T:Tx K u):DefIs P w K u base (n+1) "goes_to" qah xg7:=by
 refine DefIs.of T.jW sc_goes_to (by walk_at"l") (λf J A outer s H vs Q E F h=>?_);obtain⟨a,ys,x,rfl,⟨kvs,j,C⟩,q⟩:=h;have nd:=sc_goes_to.nd;have m:=xcs F
 refine⟨_,(zpn (xa0 (pR xa9 (pv 1) pS (nM _)) (zpo (xaj pS)) pQ)
   (zpn (xa0 (xfp (xkg m (pv 1) (pv 0))) (zpo (xaj (px K (xds m (pv 0) (pv 1) (λ_ _=>rfl)) pI))) pQ)
   (zpo (xaj xc5)))),?_⟩
 unfold xam at q;refine(xao _ rfl rfl _ rfl (ite2 (λc=>?_) (λc=>?_)))
 ·have e:x=S "num":=V.str.inj (zH c)
  rw[if_pos e]at q;exact q
 ·have e:¬x=S "num":=λz=>c (zDT (congrArg V.str z))
  rw[if_neg e]at q;have l:=C.val (x:=x)
  cases i:wyAt ys x with
  |none=>
   rw[i]at q;have h0:=l.1 i;refine(xbc _ rfl _ rfl a _ rfl (DGet.rd (k:=Sum.inr x) j) _ rfl (xrq (by rw[h0];rfl) ?_));exact q
  | some y=>
   rw[i]at q;obtain⟨v,o,I⟩:=l.2 y i;refine(xbc _ rfl _ rfl a _ rfl (DGet.rd (k:=Sum.inr x) j) _ rfl (xtr (by rw[o];rfl) ?_));obtain⟨b,us,rfl,G,p,_,rfl,r,v1,_,rfl,M,rfl⟩:=I;obtain rfl:p=.str y.2.1:=r
   have g:DGet H a (.str x) (some (.ref b)):=by
    have:=DGet.rd (k:=Sum.inr x) j;rw[o]at this;exact this
   exact(xb4 _ rfl _ rfl a _ rfl g b (xa5 _ _ _ rfl rfl (zC G) rfl q))
theorem xe6 (T:Tx K mg) (I:Sp) (g:DefIs P w K mg base n "parts_of" qac xcj) (l:DefIs P w K mg base n "sort_of" qac xc3) (c:DefIs P w K mg base n "nought_term" qae I) (Y:∀j,m=j+1->I=spNu nuT j) :
  DefIs P w K mg base (n+1) "nought_term" qae (spNu nuT m):=by
 refine DefIs.of T.jV sc_nought_term (by walk_at"l") (λf a7 A outer s H vs Q E hr h=>?_);obtain⟨v,ks,x,rfl,hk,wf,a6,q⟩:=h;have nd:=sc_nought_term.nd
 refine⟨_,(zpn (xa0 (pR xa9 (pv 1) pS (nM _)) (zpo (xaj (xak (zpc pS (zpc pI pN zso) zso)))) pQ)
   (zpn (psn 2 nd (pd g hr (va 0 (v1 1))))
   (zpn (xa0 (pR xa9 (pd l hr (va 0 (v1 1))) pS (nM _)) (zpo (xaj (xak (zpc pS (va 1 (zpc (xau (xbi (K:=K) rfl) rfl T.uH PyProof.Rows.boot_tuple (zpc (xb7 ["part","kinds"] [none,some 0] rfl (by kernel_rfl) (xap (K:=K) rfl (pv 2)) (λ_ _ _ _=>(pgc 0)) (λ_ _ _ _=>xce) (λ_ _ _ _=>(pd c hr (va 1 (zpc (px K (pv 0) pI) pN zss))))) pN xdh)) pN zsc)) zso)))) pQ)
   (zpo (xaj (xak (zpc pS (va 1 (zpc (px K (px K (pv 2) pI) pI) (zpc (pd c hr (va 0 (zpc (px K (px K (pv 2) pI) pI) pN zss))) pN zsc) zss)) zso))))))),?_⟩
 rcases a6.nu wf with⟨rfl,_,e,_⟩ |⟨j,k,rfl,a1,hn,hm,hp,a4,G⟩
 ·refine(xao _ rfl rfl _ rfl (iteKT (by walk_at"k") ?_))
  refine⟨(by walk_at"s"),λt U=>?_⟩;rw[e]at q;exact q _ _ (zB U _) (xac t _ rfl ups _ _ rfl rfl _ (jEAA _ rfl rfl rfl))
 ·have D':=Y j rfl
  subst D';refine(xao _ rfl rfl _ rfl (iteKF (zDF λz=>a4 (V.str.inj z)) ?_));refine(xbd _ rfl _ rfl v ks x rfl (wf.ksAt hk) (λu H1 O r1=>?_));rw[a1]at r1;obtain⟨a,us,rfl,ha,C⟩:=r1;have hl:=C.length;rw[zLM]at hl;have h5:=wf.pts k hm;refine(xbd _ rfl _ rfl v ks x rfl (wf.ksAt (hk.same O _)) ?_);rw[a1];rcases G with⟨hc,e,_⟩ |⟨hc,p,r,er,e,_⟩
  ·refine(jAEA rfl _ rfl (iteKT (zDT (by show V.str k.sort=_;rw[xc4 hc];rfl)) ?_))
   refine(xcx _ rfl _ rfl a rfl ⟨_,zC ha⟩ ?_);refine xe1 (j:=0) (xs:=us) (λi ys H'=>Same H1 H'/\RelDs H' ys ((k.parts.take i).map λp=>nuT (j+1) ks p.2)) (by rfl) ⟨Same.refl _,rfl⟩ (xaz (by omega)) (λi ys H' _ p=>zC (p.1 _ _ ha)) ?_ ?_
   ·rintro i y ys H' hy a0 ⟨J,o⟩
    obtain⟨d,hd,rd⟩:=C.get hy;rw[zGM]at hd;obtain⟨p,Z,rfl⟩:=zMS hd;obtain⟨b,ws,rfl,hb,_,_,rfl,rfl,_,_,rfl,rfl,rfl⟩:=rd;have hi:i<us.length:=(zES hy).1;refine(xa6 _ rfl _ rfl b _ _ (xbj _ rfl rfl (zC (J _ _ hb)) rfl (xa5 _ ks p.2 rfl (hk.same (O.trans J) _) wf (hp p (zMG Z)) (λu H2 F r2=>nxt hi a0 ⟨J.trans F,?_⟩))));rw[zTA,Z,zAP];exact(o.same F _).append (xaq u ([]) rfl r2 rfl)
   ·rintro ys H' a0 ⟨J,o⟩ D hD
    rw[zTL (by omega)]at o;refine(jEEA D ys rfl (.inl ⟨zD ups,λl' a5=>⟨(by walk_at"s"),λt U=>?_⟩⟩));have F:=zB hD (.lst ys);have M:=zB a5 (.tup ys);have s4:=zB U (.tup [.str (S "rec"),.str x,.ref l']);rw[e]at q;exact q _ _ (O.trans (J.trans (F.trans (M.trans s4)))) (xac t _ rfl ups _ _ rfl rfl _ (xbh _ rfl rfl _ _ rfl (xaq l' ys rfl (s4 _ _ ups) (o.same (F.trans (M.trans s4)) _)) rfl))
  ·refine(jAEA rfl _ rfl (iteKF (zDF (by show ¬V.str k.sort=_;rw[xc6 hc];decide +kernel)) ?_))
   rw[er]at C;obtain⟨vp,rest,rfl,rp,_⟩:=C;obtain⟨b,ws,rfl,hb,_,_,rfl,rfl,_,_,rfl,rfl,rfl⟩:=rp;have a2:SqT K H1 a (.ref b::rest):=zC ha;have a3:atI (V.ref b::rest) 0=some (.ref b):=xar (j:=0) rfl;refine(xa6 _ rfl _ rfl a _ _ (xbj _ rfl rfl a2 a3 (xal b _ _ _ rfl rfl (zC hb) rfl ?_)));refine(xa6 _ rfl _ rfl a _ _ (xbj _ rfl rfl a2 a3 (xal b _ _ _ rfl rfl (zC hb) rfl ?_)));refine(xa5 _ ks p.2 rfl (hk.same O _) wf (hp p (by rw[er];simp)) (λu H2 F r2=>⟨(by walk_at"s"),λt U=>?_⟩));have M:=zB U (.tup [.str (S "tag"),.str x,.str p.1,u]);rw[e]at q;exact q _ _ (O.trans (F.trans M)) (xac t _ rfl ups _ _ rfl rfl _ (xbh _ rfl rfl _ _ rfl rfl (xaq _ _ rfl (r2.same M _) rfl)))
theorem xhi(T:Tx K a):∀m,DefIs P w K a base (m+2) "nought_term" qae (spNu nuT m)
 |0=>xe6 (n:=1) T (λ_ _ _ _=>False) (xda T) (xd6 T) (DefIs.none T.jV λ_ _ _ _ h=>h) (λj e=>by cases e)
 |m+1=>xe6 (n:=m+2) T (spNu nuT m) (xda T) (xd6 T) (xhi T m) (λj e=>by cases e;rfl)
theorem xf9(T:Tx K mg)(o:DefIs P w K mg base n "goes_to" qah xg7)(e:DefIs P w K mg base n "nought_term" qae (spNu nuT 6)):DefIs P w K mg base (n+1) "terms_by_rules" qa8 xj8:=by
 refine DefIs.of T.j5 sc_terms_by_rules (by walk_at"l") (λf ak A outer s H vs Q E hr h=>?_);obtain⟨kv,wa,ov,nv,ks2,ys,x,ps,rfl,ag,Y,hw,ho,hv,af,hl,aj,a4,q⟩:=h;have nd:=sc_terms_by_rules.nd;have hu:=xcs hr;obtain⟨oa,a6,rfl,ac,aa⟩:=ho;obtain⟨na,a7,rfl,a2,a1⟩:=hv;have ae:=a1.length;rw[zLM]at ae
 refine⟨_,(zpn (psn 4 nd (xau (xio rfl) rfl T.k4 PyProof.Rows.boot_dict (v1 2)))
   (zpn (psn 5 nd (xbs pN))
   (zpn (xca PassesOwn.never rfl (xap (K:=K) rfl (pv 3)) (xa2 (K:=K) rfl rfl (xab (pgn 6 nd) (xab (pgn 7 nd) xa1)))
   (zpo (xa0 (xfp (xfq hu (pv 6) (pv 4))) (zpo (xba (xgn PySem.F.plainAttrs_list PySem.F.slot_list_append PySem.F.type_list_append xct (pv 5) (zpc (pd e hr (va 0 (v1 7))) pN zsc)))) (zpo (xa0 (pR xa9 (pd o hr (va 1 (zpc (xds hu (pv 4) (pv 6) (λ_ _=>rfl)) pN zss))) (pv 7) (nM _)) (zpo (xba (xgn PySem.F.plainAttrs_list PySem.F.slot_list_append PySem.F.type_list_append xct (pv 5) (zpc (xak (zpc pS (v1 6) zso)) pN sT)))) (zpo (xaj xc5)))))))
   (zpo (xaj (xau (xbi (K:=K) rfl) rfl T.uH PyProof.Rows.boot_tuple (v1 5))))))),?_⟩
 refine(xci _ rfl oa a6 (bKV x) rfl ac ⟨xfr aa,λdp ah=>?_⟩);have y1:=zB ah (.dK (xb5 [] (bKV x)));refine⟨(by walk_at"s"),λl U=>?_⟩;have y2:=zB U (.lst []);have a8:dp≠l:=neN ups U;have nl:H l=none:=xfv (y1) U;refine(xay _ rfl na rfl ⟨_,zC (y2 _ _ (y1 _ _ a2))⟩ ?_);refine xdc (xs:=a7) (λi σ G=>∃o6 o7 us,σ=[some kv,some (.ref wa),some (.ref oa),some (.ref na),some (.ref dp),some (.ref l),o6,o7]/\Same H G/\G dp=some (.dK (xb5 [] (bKV x)))/\G l=some (.lst us)/\RelDs G us ((ps.take i).map (tmQ ks2 x))/\(ps.take i).all (okQ ys x)=true) (xax none none ([]) rfl (y1.trans y2) (y2 _ _ ups) ups rfl rfl) (λi σ G _ p=>?_) ?_ ?_
 ·obtain⟨_,_,_,_,I,_⟩:=p
  exact zC (I _ _ a2)
 ·rintro i v σ G hv ⟨o6,o7,us,rfl,I,hd,m,y,r⟩
  obtain⟨d,a5,rd⟩:=(a1.same I _).get hv;rw[zGM]at a5;obtain⟨j,M,rfl⟩:=zMS a5;obtain⟨b,ws,rfl,hb,_,_,rfl,rfl,_,_,rfl,rfl,rfl⟩:=rd;have O:=zMG M;have a0:=xo8 af j.1;have a3:=y.length;rw[zLM,List.length_take]at a3
  have g:DGet G dp (.str j.1) ((xd2 x j.1).map V.str):=by
   have:=DGet.k (H:=G) (a:=dp) (k:=Sum.inr j.1) hd;rw[a0]at this;exact this
  have fin:∀(z:Addr) (dz:D) (C:Hp),Same G C->RelD C (.ref z) dz->okQ ys x j=true->tmQ ks2 x j=dz->∃o6 o7 Z,[some kv,some (.ref wa),some (.ref oa),some (.ref na),some (.ref dp),some (.ref l),some (.str j.1),some (.str j.2)]=[some kv,some (.ref wa),some (.ref oa),some (.ref na),some (.ref dp),some (.ref l),o6,o7]/\Same H (upd C l (.lst (us++[.ref z])))/\upd C l (.lst (us++[.ref z])) dp=some (.dK (xb5 [] (bKV x)))/\upd C l (.lst (us++[.ref z])) l=some (.lst Z)/\RelDs (upd C l (.lst (us++[.ref z]))) Z ((ps.take (i+1)).map (tmQ ks2 x))/\(ps.take (i+1)).all (okQ ys x)=true:=by
   intro z dz C J rz ab a9;have tp:=xbk (J _ _ m) (.lst (us++[.ref z]));refine(xax _ _ (us++[.ref z]) rfl (xgt (I.trans J) nl _) (by rw[xa7 a8];exact J _ _ hd) ups ?_ ?_)
   ·rw[zTA,M]
    show RelDs _ _ ((ps.take i++[j]).map _);rw[zAP];have ai:RelDs C [.ref z] [tmQ ks2 x j]:=(xaq _ ([]) rfl (by rw[a9];exact rz) rfl);exact((y.same J _).append ai).tups tp _
   ·rw[zTA,M]
    show(ps.take i++[j]).all _=true;rw[List.all_append,r,List.all_cons,ab];rfl
  refine(xai b _ rfl (zC hb) rfl _ _ rfl _ (jEAA _ rfl rfl ?_))
  cases c:xd2 x j.1 with
  |none=>
   rw[c]at g;refine(xbc _ rfl _ rfl dp _ rfl g _ rfl (iteT ?_));refine(xao _ rfl (.inl (jAE rfl _ (zD m))) _ rfl (xcc _ rfl kv ks2 j.2 rfl (ag.same I _) Y (a4 j O) (λu C J ru=>?_)));obtain⟨z,rfl⟩:∃z,u=.ref z:=xyn Y (a4 j O) ru;refine(xa5 l us _ rfl rfl (J _ _ m) (xaz (by omega)) ?_);exact fin z _ C J ru (by unfold okQ;rw[c]) (by unfold tmQ;rw[c])
  | some k=>
   rw[c]at g;refine(xbc _ rfl _ rfl dp _ rfl g _ rfl (iteF ?_));refine(xbo _ rfl _ rfl _ rfl dp _ rfl g (xdu wa ys k rfl (hw.same I) ?_));refine(xao _ rfl (xs2 _ _) _ rfl ?_);by_cases hg:xam ys k=some j.2
   ·refine iteKT (zDT (optV_eq.mpr hg)) ?_
    refine(xao _ rfl (.inl (jAE rfl _ (zD m))) _ rfl ⟨(by walk_at"s"),λt ht=>(xa5 l us _ rfl rfl ((zB ht _) _ _ m) (xaz (by omega)) ?_)⟩);exact fin t (tBox j.1) _ (zB ht _) (xac t _ rfl ups _ _ rfl rfl _ (jEAA _ rfl rfl rfl)) (by unfold okQ;rw[c];exact zDT hg) (by unfold tmQ;rw[c])
   ·refine iteKF (zDF λz=>hg (optV_eq.mp z)) ?_
    refine q _ _ I ?_;unfold xiw;rw[if_neg]
    ·rfl
    ·intro z
     have:=List.all_eq_true.mp z j O;unfold okQ at this;rw[c]at this;exact hg (zH this)
 ·rintro σ G ⟨o6,o7,us,rfl,I,hd,m,y,r⟩
  rw[zTL (by omega)]at y r;refine(xe9 _ rfl l us rfl (.inl ⟨zD m,λt ht=>?_⟩));have y3:=zB ht (.tup us);refine q _ _ (I.trans y3) ?_;unfold xiw;rw[if_pos r];exact(xaq t us rfl ups (y.same y3 _))
theorem xgp(T:Tx K mg)(m:DefIs P w K mg base n "goes_to" qah xg7)(j:DefIs P w K mg base n "parts_of" qac xcj):DefIs P w K mg base (n+1) "tags_by_rules" qai xnd:=by
 refine DefIs.of T.j6 sc_tags_by_rules (by walk_at"l") (λf ao A outer s H vs Q E hr h=>?_);obtain⟨kv,wa,dv,ks2,ys,k,F,rfl,hk,hw,aj,ai,ah,an,hl,q⟩:=h;have nd:=sc_tags_by_rules.nd;have hu:=xcs hr;obtain⟨da,_,rfl,a4,_,_,rfl,rfl,_,_,rfl,rfl,am,_,rfl,⟨pa,Y,rfl,ag,a2⟩,rfl⟩:=aj;have af:=a2.length;rw[zLM]at af
 refine⟨_,(zpn (psn 3 nd (px K (pv 2) pI))
   (zpn (psn 4 nd (xau (xio rfl) rfl T.k4 PyProof.Rows.boot_dict (zpc (pd j hr (va 0 (v1 3))) pN zsc)))
   (zpn (xca PassesOwn.never rfl (xap (K:=K) rfl (px K (pv 2) pI)) (xa2 (K:=K) rfl rfl (xab (pgn 5 nd) (xab (pgn 6 nd) xa1)))
   (zpo (xa0 (PW.pt (xi7 (xfp (xfq hu (pv 5) (pv 4))) (xhb (pR xft (xds hu (pv 4) (pv 5) (λ_ _=>rfl)) (pd m hr (va 1 (v1 6))) (nM _))))) (zpo (xaj xc5)) pQ)))
   (zpo (xaj (xau (xbi (K:=K) rfl) rfl T.uH PyProof.Rows.boot_tuple (zpc (xb7 ["tag","inner","K"] [none,none,some 3] rfl (by kernel_rfl) (xap (K:=K) rfl (px K (pv 2) pI)) (λ_ _ _ _=>(xa2 (K:=K) (n:=2) rfl rfl (xab (pgc 0) (xab (pgc 1) xa1)))) (λ_ _ _ _=>xce) (λ_ _ _ _=>(xak (va 0 (zpc (xak (zpc pS (va 2 (va 0 (zpc (xak (zpc pS (zpc pS pN zso) zso)) pN sT))) zso)) pN sT))))) pN xdh))))))),?_⟩
 refine(xaa _ rfl da _ _ _ rfl rfl (zC a4) rfl ?_);refine(xbd _ rfl _ rfl kv ks2 k.name rfl hk (λu H1 s1 ru=>?_));rw[ai]at ru;obtain⟨ta,a7,rfl,a9,a8⟩:=ru;refine(xb3 ta a7 (bKV F.parts) rfl a9 (xfr a8) (λdp ak=>?_));have U:=zB ak (.dK (xb5 [] (bKV F.parts)));have M:=s1.trans U;have x:=M _ _ a4;have c:=M _ _ ag;have a5:upd H1 dp (.dK (xb5 [] (bKV F.parts))) dp=some (.dK (xb5 [] (bKV F.parts))):=ups;have r:=a2.same M _;have a0:=hw.same M;generalize upd H1 dp (.dK (xb5 [] (bKV F.parts)))=H2 at M x c a5 r a0⊢;refine(xaa _ rfl da _ _ _ rfl rfl (zC x) rfl (jEAA pa rfl ⟨_,zC c⟩ ?_));refine xdc (xs:=Y) (λi σ J=>∃o5 o6,σ=[some kv,some (.ref wa),some (.ref da),some (.str k.name),some (.ref dp),o5,o6]/\J=H2/\(k.parts.take i).all (okT ys F.parts)=true) (xaq none none rfl rfl rfl) (λi σ J _ p=>by obtain⟨_,_,_,rfl,_⟩:=p;exact zC c) ?_ ?_
 ·rintro i v σ J hv ⟨o5,o6,rfl,rfl,o⟩
  obtain⟨d,C,rd⟩:=r.get hv;rw[zGM]at C;obtain⟨l,I,rfl⟩:=zMS C;obtain⟨b,ws,rfl,hb,_,_,rfl,rfl,_,_,rfl,rfl,rfl⟩:=rd;have ae:=zMG I;have a1:=xo8 ah l.1
  have g:DGet J dp (.str l.1) ((xd2 F.parts l.1).map V.str):=by
   have:=DGet.k (H:=J) (a:=dp) (k:=Sum.inr l.1) a5;rw[a1]at this;exact this
  have a6:okT ys F.parts l=false->Q .non J:=λal=>by
   refine q _ _ M ?_;unfold xpj;rw[if_neg]
   ·rfl
   ·intro z
    have:=List.all_eq_true.mp z l ae;rw[al]at this;cases this
  refine(xai b _ rfl (zC hb) rfl _ _ rfl _ (jEAA _ rfl rfl ?_))
  cases e:xd2 F.parts l.1 with
  |none=>
   rw[e]at g;refine(xbc _ rfl _ rfl dp _ rfl g _ rfl (iteT ?_));exact iteT (a6 (by unfold okT;rw[e]))
  | some gk=>
   rw[e]at g;refine(xbc _ rfl _ rfl dp _ rfl g _ rfl (iteF ?_));refine(xbc _ rfl _ rfl dp _ rfl g _ rfl (xci _ rfl wa ys l.2 rfl a0 ?_));refine(jAEA (xp5 _ _) _ rfl ?_);by_cases hg:xam ys l.2=some gk
   ·refine xwu (by rw[hg];rfl) (xaq _ _ rfl rfl ?_)
    rw[zTA,I];show(k.parts.take i++[l]).all _=true;rw[List.all_append,o,List.all_cons];have:okT ys F.parts l=true:=by unfold okT;rw[e];exact zDT hg
    rw[this];rfl
   ·refine xtq (λz=>hg (optV_eq.mp z.symm)) (a6 ?_)
    unfold okT;rw[e];exact zDF hg
 ·rintro σ J ⟨o5,o6,rfl,rfl,o⟩
  rw[zTL (by omega)]at o;refine(xaa _ rfl da _ _ _ rfl rfl (zC x) rfl (jEAA pa rfl ⟨_,zC c⟩ ?_));refine xbb (xs:=Y) (λi zs H3=>Same J H3/\zs.length=i/\RelDs H3 zs ((k.parts.take i).map λp=>.tup [.str p.1,tTag k.name p.1 (tBox (S "it"))])) (jAA (Same.refl _) rfl rfl) (xaz (by omega)) (λi zs H3 _ p=>zC (p.1 _ _ c)) ?_ ?_
  ·rintro i y zs H3 hy hi a3 ⟨sm,Z,G⟩
   obtain⟨d,C,rd⟩:=(r.same sm _).get hy;rw[zGM]at C;obtain⟨l,I,rfl⟩:=zMS C;obtain⟨b,ws,rfl,hb,_,_,rfl,rfl,_,_,rfl,rfl,rfl⟩:=rd;refine(xai b _ rfl (zC hb) rfl _ _ rfl _ (xdb _ rfl rfl (ext2 rfl rfl) (xgx ?_)));refine(xcx _ rfl _ rfl _ rfl (by walk_at"s") (λt1 ac=>⟨(by walk_at"s"),λt2 ab=>⟨(by walk_at"s"),λt3 aa=>?_⟩⟩));have U:=zB ac (.tup [.str (S "box"),.str (S "it")]);have y2:=zB ab (.tup [.str (S "tag"),.str k.name,.str l.1,.ref t1]);have y3:=zB aa (.tup [.str l.1,.ref t2]);have O:=y2.trans y3;have y:=U.trans O;refine nxtG hi a3 (jAA (sm.trans y) (by rw[zLA,List.length_singleton,Z]) ?_);rw[zTA,I];show RelDs _ _ ((k.parts.take i++[l]).map _);rw[zAP];exact(G.same y _).append (xaq _ ([]) rfl (xac t3 _ rfl ups _ _ rfl rfl _ (jEAA _ rfl (xac t2 _ rfl (y3 _ _ ups) _ _ rfl rfl _ (xbh _ rfl rfl _ _ rfl rfl (xaq _ _ rfl (xac t1 _ rfl (O _ _ ups) _ _ rfl rfl _ (jEAA _ rfl rfl rfl)) rfl))) rfl)) rfl)
  ·rintro zs H3 a3 ⟨sm,Z,G⟩ D hD
   rw[zTL (by omega)]at G;have U:=zB hD (.lst zs);refine(jEEA D zs rfl (.inl ⟨zD ups,λt ht=>?_⟩));have y2:=zB ht (.tup zs);have y:=U.trans y2;refine q _ _ (M.trans (sm.trans y)) ?_;unfold xpj;rw[if_pos o];exact(xaq t zs rfl ups (G.same y _))
theorem xhh(T:Tx K J)(i:DefIs P w K J base n "sort_of" qac xc3)(e:DefIs P w K J base n "parts_of" qac xcj)(c:DefIs P w K J base n "tags_by_rules" qai xnd)(a:DefIs P w K J base n "terms_by_rules" qa8 xj8):DefIs P w K J base (n+1) "how_by_rules" qai xxu:=by
 refine DefIs.of T.j4 sc_how_by_rules (by walk_at"l") (λf a5 A outer s H vs Q E Y h=>?_);obtain⟨kv,wa,dv,ks2,ys,k,rfl,M,m,hw,U,a1,hl,q⟩:=h;have nd:=sc_how_by_rules.nd;have hk:=m.ksAt M;have O:=U;obtain⟨F,_,rfl,g,_,_,rfl,rfl,_,_,rfl,rfl,a2,_,rfl,a0,rfl⟩:=O
 refine⟨_,(zpn (psn 3 nd (px K (pv 2) pI))
   (zpn (xa0 (pR xft (pd i Y (va 0 (v1 3))) (px K (pv 2) pI) (nM _)) (zpo (xaj xc5)) pQ)
   (zpn (xa0 (pR xa9 (px K (pv 2) pI) pS (nM _)) (zpo (xaj (pd c Y (va 0 (va 1 (v1 2)))))) pQ)
   (zpn (psn 4 nd (pd a Y (va 0 (va 1 (zpc (px K (pv 2) pI) (zpc (pd e Y (va 0 (v1 3))) pN zsc) zss)))))
   (zpn (xa0 (pR xhe (pv 4) xc5 (nM _)) (zpo (xaj xc5)) pQ)
   (zpo (xaj (xak (zpc pS (va 3 (v1 4)) zso))))))))),?_⟩
 refine(xaa _ rfl F _ _ _ rfl rfl (zC g) rfl ?_);refine(xbd _ rfl _ rfl kv ks2 k.name rfl hk ?_);unfold xd7 at q
 cases o:kAt ks2 k.name with
 |none=>
  rw[o]at q;exact(xaa _ rfl F _ _ _ rfl rfl (zC g) rfl (jAEA rfl _ rfl (xtq (λz=>by cases z) (q _ _ (Same.refl _) rfl))))
 | some l=>
  rw[o]at q;have C:=zMF o;have a4:=m.pts l C;by_cases r:l.rc=k.rc
  ·have x:l.sort=k.sort:=by unfold Kn.sort;rw[r]
   refine(xaa _ rfl F _ _ _ rfl rfl (zC g) rfl (jAEA rfl _ rfl (xwu (by show V.str l.sort=V.str k.sort;rw[x]) ?_)));change ∀u G,Same H G->optD G u (if l.rc=k.rc then _ else _)->Q u G at q;rw[if_pos r]at q
   cases Z:k.rc with
   |false=>
    rw[if_neg (by rw[Z];decide)]at q;refine(xaa _ rfl F _ _ _ rfl rfl (zC g) rfl (jAEA rfl _ rfl (iteKT (zDT (by rw[xc6 Z];rfl)) ?_)));exact(xbg _ rfl _ rfl _ rfl kv wa (xag _ ks2 ys k l rfl hk hw U o (jAAA (m.pnd l C) (by omega) hl q)))
   | true=>
    rw[if_pos Z]at q;refine(xaa _ rfl F _ _ _ rfl rfl (zC g) rfl (jAEA rfl _ rfl (iteKF (zDF (by rw[xc4 Z];decide +kernel)) ?_)));refine(xbg _ rfl _ rfl _ rfl F _ (xaw _ _ rfl rfl (zC g) (jAEA rfl _ rfl (xci _ rfl kv ks2 k.name rfl hk (λu H1 I ru=>?_)))));rw[o]at ru;refine(xas kv wa _ u ks2 (xax ys k.parts l.parts rfl (M.same I _) m (hw.same I) (a0.same I _) (jAAA ru a1 hl (jAA (by omega) (λp hp=>xnx m C hp) (λu2 H2 s2 j=>?_)))));unfold xiw at j;by_cases ha:l.parts.all (okQ ys k.parts)=true
    ·rw[if_pos ha]at q j
     obtain⟨b,us,rfl,hb,a3⟩:=id j;refine(xao _ rfl rfl _ rfl (iteF ?_));refine(xay _ rfl _ rfl (by walk_at"s") (λt ht=>?_));have y:=zB ht (.tup [.str (S "rec"),.str k.name,.ref b]);exact q _ _ (I.trans (s2.trans y)) (xac t _ rfl ups _ _ rfl rfl _ (xbh _ rfl rfl _ _ rfl ((show RelD H2 _ (D.tup (l.parts.map (tmQ ks2 k.parts))) from j).same y _) rfl))
    ·rw[if_neg ha]at q j
     obtain rfl:u2=.non:=j;exact(xao _ rfl rfl _ rfl (iteT (q _ _ (I.trans s2) rfl)))
  ·have x:¬l.sort=k.sort:=λz=>r (by
    unfold Kn.sort at z;cases h1:l.rc <;> cases h2:k.rc
    ·rfl
    ·rw[h1,h2]at z;exact absurd z (by walk_at"k")
    ·rw[h1,h2]at z;exact absurd z (by walk_at"k")
    ·rfl)
   change ∀u G,Same H G->optD G u (if l.rc=k.rc then _ else _)->Q u G at q;rw[if_neg r]at q;exact(xaa _ rfl F _ _ _ rfl rfl (zC g) rfl (jAEA rfl _ rfl (xtq (λz=>x (V.str.inj z)) (q _ _ (Same.refl _) rfl))))
theorem xks(T:Tx K mg)(c:DefIs P w K mg base n "how_by_rules" qai xxu):DefIs P w K mg base (n+1) "made_ways" qao xnf:=by
 refine DefIs.of T.j3 sc_made_ways (by walk_at"l") (λf b1 A outer s H vs Q E hr h=>?_);obtain⟨fa,sa,ta,aw,ah,r1,r2,ks,ks2,J,told,rfl,aq,al,ak,aj,ay,ao,wf,an,af,q⟩:=h;have nd:=sc_made_ways.nd;have hu:=xcs hr;have ab:=ao;obtain⟨ka,ai,rfl,aa,a8⟩:=ab;have am:=a8.length;rw[zLM]at am;have au:=wf.few
 refine⟨_,(zpn (psn 3 nd (xau xeb rfl T.k4 PyProof.Rows.boot_dict (v1 2)))
   (zpn (psn 4 nd (xbs pN))
   (zpn (xca PassesOwn.never rfl (xap (K:=K) rfl (px K (pv 0) pI)) (pgn 5 nd)
   (zpn (psn 6 nd (px K (pv 5) pI))
   (zpo (xa0 (xfp (xfq hu (pv 6) (pv 3))) (zpn (psn 7 nd (pd c hr (zpc (px K (pv 1) pI) (va 3 (v1 5)) zss)))
   (zpo (xa0 (pR xhe (pv 7) xc5 (nM _)) (zpo (xba (xgn PySem.F.plainAttrs_list PySem.F.slot_list_append PySem.F.type_list_append xct (pv 4) (v1 6)))) (zpo (xc9 hu (pv 3) (pv 6) (xak (va 6 (v1 7))) rfl))))) pQ))))
   (zpo (xaj (xak (va 3 (v1 4)))))))),?_⟩
 refine(xa3 _ rfl ta J rfl ak (λl O=>?_));have y1:=zB O (.dK J);refine⟨(by walk_at"s"),λM U=>?_⟩;have y2:=zB U (.lst []);have wl:l≠M:=neN ups U;have a0:H M=none:=xfv y1 U;have G:=y1.trans y2;refine(xaa _ rfl fa _ _ _ rfl rfl (zC (G _ _ aq)) (xar (j:=0) rfl) (jEAA ka rfl ⟨_,zC (G _ _ aa)⟩ ?_))
 refine xdc (xs:=ai) (λi σ C=>∃o5 o6 o7 kvs,∃ls:List Str,σ=[some (.ref fa),some (.ref sa),some (.ref ta),some (.ref l),some (.ref M),o5,o6,o7]/\Same H C/\C l=some (.dK kvs)/\WAll C kvs (xb1 ks2 (ks.take i) told)/\C M=some (.lst (ls.map V.str))/\ls.length<=i)
  (xag none none none J ([]) rfl G (y2 _ _ ups) (aj.tups λb us e=>G _ _ e) ups (zG _)) (λi σ C _ p=>?_) ?_ ?_
 ·obtain⟨_,_,_,_,_,_,m,_⟩:=p
  exact zC (m _ _ aa)
 ·rintro i v σ C hv ⟨o5,o6,o7,kvs,ls,rfl,m,I,g,z,a7⟩
  obtain⟨d,ac,rd⟩:=(a8.same m _).get hv;rw[zGM]at ac;obtain⟨k,hk,rfl⟩:=zMS ac;have a9:=zMG hk;have ag:=rd;obtain⟨da,_,rfl,ar,_,_,rfl,rfl,_,_,rfl,rfl,av,_,rfl,az,rfl⟩:=ag;have b0:i<ks.length:=(zES hk).1;have as:=g.len
  have ax:kvs.length<=200:=by
   have h1:=xjj (ks2:=ks2) (ks:=ks.take i) (ys:=told);rw[List.length_take]at h1;omega
  rw[xj3 hk,xf7];refine(xaa _ rfl da _ _ _ rfl rfl (zC ar) rfl ?_);have a3:=g.val (x:=k.name);unfold xfb
  cases a5:wyAt (xb1 ks2 (ks.take i) told) k.name with
  | some y=>
   obtain⟨v,h1,h2⟩:=a3.2 y a5
   have g0:DGet C l (.str k.name) (some v):=by
    have:=DGet.k (H:=C) (a:=l) (k:=Sum.inr k.name) I;rw[h1]at this;exact this
   exact(xbc _ rfl _ rfl l _ rfl g0 _ rfl (iteF (xag _ _ _ kvs ls rfl m I g z (by omega))))
  | none=>
   have a6:valV kvs (Sum.inr k.name:Key)=none:=a3.1 a5
   have g0:DGet C l (.str k.name) none:=by
    have:=DGet.k (H:=C) (a:=l) (k:=Sum.inr k.name) I;rw[a6]at this;exact this
   refine(xbc _ rfl _ rfl l _ rfl g0 _ rfl (iteT ?_));refine(xaa _ rfl sa _ _ _ rfl rfl (zC (m _ _ al)) (xar (j:=0) rfl) (xa6 _ rfl _ rfl ah l _ (xax ks2 _ k rfl (an.same m _) af (jEA kvs (.inl I) g) rd (jAA (wf.pnd k a9) (by have:=wf.pts k a9;omega) (λu H1 Y ru=>?_)))))
   cases hb:xd7 ks2 (xb1 ks2 (ks.take i) told) k with
   |none=>
    rw[hb]at ru;obtain rfl:u=.non:=ru;refine(xao _ rfl rfl _ rfl (iteT ?_));have o:=Y _ _ z;refine(xao _ rfl (.inl (jAE rfl _ (zD o))) _ rfl (xa5 M _ _ rfl rfl o (xaz (by rw[zLM];omega)) ?_));have tp:=xbk o (.lst (ls.map V.str++[.str k.name]));refine(xag _ _ _ kvs (ls++[k.name]) rfl (xgt (m.trans Y) a0 _) (by rw[xa7 wl];exact Y _ _ I) ((g.tups λb us e=>Y _ _ e).tups tp) (by rw[zAP];exact ups) (by rw[zLA,List.length_singleton];omega))
   |some d=>
    rw[hb]at ru;have Z:RelD H1 u d:=ru;obtain⟨ae,rfl⟩:∃b,u=.ref b:=xwx hb Z;refine(xao _ rfl rfl _ rfl (iteF ?_));refine(xay _ rfl _ rfl (by walk_at"s") (λt ht=>?_));have y:=zB ht (.tup [.str k.name,.ref ae]);have s3:=Y.trans y;have a2:=s3 _ _ I;refine(xbf _ rfl _ rfl l _ rfl (DPut.k (k:=Sum.inr k.name) a2 (xaz (by omega))) ?_);rw[xqd a6];have tp:=xei a2 (.dK (kvs++[(Sum.inr k.name,.ref t)]));have a1:RelD (upd H1 t (.tup [.str k.name,.ref ae])) (.ref t) (wyD (k.name,k.name,d)):=(xac t _ rfl ups _ _ rfl rfl _ (jEAA _ rfl (Z.same y _) rfl));refine(xag _ _ _ _ ls rfl (xgt (m.trans s3) O _) ups (((g.tups λb us e=>s3 _ _ e).snoc (kv:=(Sum.inr k.name,.ref t)) (y:=(k.name,k.name,d)) ⟨rfl,a1⟩).tups tp) ?_ (by omega));rw[xa7 (Ne.symm wl)];exact s3 _ _ z
 ·rintro σ C ⟨o5,o6,o7,kvs,ls,rfl,m,I,g,z,a7⟩
  rw[zTL (by omega)]at g;refine(xay _ rfl _ rfl (by walk_at"s") (λr a4=>?_));have y:=zB a4 (.tup [.ref l,.ref M]);exact q r l M kvs ls _ (m.trans y) (xfv m a4) O a0 ups (y _ _ I) (g.tups λb us e=>y _ _ e) (y _ _ z) (by omega)
theorem xwo(T:Tx K a):DefIs P w K a base 30 "made_ways" qao xnf:=
 xks (n:=29) T (xhh (n:=28) T (xd6 T) (xda T) (xgp (n:=27) T (xdo T) (xda T)) (xf9 (n:=27) T (xdo T) ((xhi T 6).mono (by omega))))
theorem xx5{H c:Hp}{f a:Addr}{p q:Int}{u:List (Key×V)}(b:H f=some (.lst [.int p,.int q]))(h:Rd H a (.dK u))(F:Fed f H c):Rd c a (.dK u):=by
 rcases h with h |⟨o,h⟩
 ·exact .inl (F.1 _ _ h λe=>by rw[e,b]at h;cases h)
 ·exact .inr ⟨o,F.1 _ _ h λe=>by rw[e,b]at h;cases h⟩
theorem xm1{H c:Hp}{f a:Addr}{p q:Int}{ys:List Wy}(b:H f=some (.lst [.int p,.int q]))(h:WaysAt H a ys)(F:Fed f H c):WaysAt c a ys:=by
 obtain⟨kvs,g,e⟩:=h;exact(jEA kvs (xx5 b g F) (e.tups (xah (jEE p q b) F)))
theorem xhd{ys:List Wy}{ps:List (Str×Str)}{p:Str×Str}:xbv ys (ps++[p])=xbv ys ps++(match xam ys p.2 with |some g=>[(p.1,g)] |none=>[]):=by
 unfold xbv;rw[List.filterMap_append];congr 1;rw[List.filterMap_cons];cases xam ys p.2 <;> rfl
theorem xz8(j:Nat):S "it"≠byN j:=λe=>by
 have:=congrArg L e;unfold byN at this;rw[xej,show L (S "it")=[105,116] by walk_at"k"]at this;simp at this
theorem xu7{H:Hp}{f:Addr}{p q:Int}{kv:V}{g:Addr}{us:List V}{ks2:List Kn}{bs:List (Str×Str)}(h:H f=some (.lst [.int p,.int q]))(m:RelD H kv (xbx ks2))(wf:KWf ks2)(l:PNB ks2)(c:H g=some (.lst us))(a:RelDs H us (bs.map xe4))(nd:(bs.map (·.1)).Nodup)(z:bs.length<=20)(hn:∀b∈bs,NoBy b.1)(n:∀b∈bs,KIn ks2 6 b.2):TIn H f kv (.ref g) ks2 bs 3:=
 ⟨(jEE p q h),m,wf,l,⟨g,us,rfl,c,a,λe=>by
  rw[e,h]at c;have y:=zM c;injection y with x;rw[<- x]at a
  cases bs with
  |nil=>
   have:[V.int p,V.int q]=[]:=a;cases this
  |cons b bs=>
   obtain⟨v,r,w,i,_⟩:=a;injection w with u _;rw[<- u]at i;obtain⟨_,_,s,_⟩:=i;cases s⟩,nd,by omega,λb o j _=>hn b o j,n⟩
def xvn:Sp:=λvs H Q _=>∃(f fa wa:Addr) (kv1 kv2:V) (r1:List V) (p q:Int) (ks ks2:List Kn) (ys:List Wy) (k:Kn),vs=[.ref f,.ref fa,kv2,.ref wa,.str k.name]/\H f=some (.lst [.int p,.int q])/\H fa=some (.tup (kv1::r1))/\RelD H kv1 (xbx ks)/\KWf ks/\RelD H kv2 (xbx ks2)/\KWf ks2/\PNB ks2/\WaysAt H wa ys/\kAt ks k.name=some k/\(∀p∈k.parts,NoBy p.1)/\(∀x g,xam ys x=some g->KIn ks2 6 g) ∧
 ∀t g d H',Fed f H H'->RelD H' (.ref t) (.tup [.str g,d])->KIn ks2 6 g->HowOk ks2 ys k g d->Q (.ref t) H'
theorem xwc(T:Tx K mg)(o:DefIs P w K mg base n "_law_sort_of" qab xeo)(m:DefIs P w K mg base n "_law_any_kind" qan xsz)(l:DefIs P w K mg base n "goes_to" qah xg7)(c:DefIs P w K mg base n "_law_new_term" qaq xpp):DefIs P w K mg base (n+1) "_law_way" qa0 xvn:=by
 refine DefIs.of T.kO scl_way (by walk_at"l") (λf bv A outer s H vs Q E hr h=>?_);obtain⟨f',fa,wa,b6,bu,r1,p0,q0,ks,ks2,ys,k,rfl,hf,bh,bg,wf,b3,a4,aq,hw,ai,be,b4,q⟩:=h;have nd:=scl_way.nd;have b0:=zMF ai;have h5:=wf.pts k b0;have ax:=wf.pnd k b0
 refine⟨_,(zpn (xdi (pd o hr (zpc (px K (pv 1) pI) (v1 4) zss)) (xa2 (K:=K) rfl rfl (xab (pgn 5 nd) (xab (pgn 6 nd) xa1))))
   (zpn (psn 7 nd (pd m hr (va 0 (v1 2))))
   (zpn (xa0 (pR xa9 (pv 5) pS (nM _)) (zpn (xbl (i:=8) ["_law_f","_law_part","_law_ways"] [none,none,some 3] rfl (by kernel_rfl) nd rfl (by walk_at"o") (xap (K:=K) rfl (pv 6)) (λ_ _ _ _=>(xa2 (K:=K) (n:=2) rfl rfl (xab (pgc 0) (xab (pgc 1) xa1)))) (λ_ _ _ _=>(xcq (pR xjb (pd l hr (va 2 (v1 1))) xc5 (nM _)))) (λ_ _ _ _=>(xak (va 0 (zpc (pd l hr (va 2 (v1 1))) pN zsc)))))
   (zpo (xaj (xak (va 7 (zpc (pd c hr (va 0 (va 2 (va 8 (v1 7))))) pN zsc)))))) pQ)
   (zpn (psn 9 nd (xbs pN))
   (zpn (xca PassesOwn.never rfl (xap (K:=K) rfl (pv 6)) (xa2 (K:=K) rfl rfl (xab (pgn 10 nd) (xab (pgn 11 nd) xa1)))
   (zpn (xbl (i:=8) ["_law_goes"] [none] rfl (by kernel_rfl) nd rfl (by walk_at"o") (xcd (K:=K) rfl (xbs (zpc (pd l hr (va 3 (v1 11))) pN zsc))) (λ_ _ _ _=>(pgc 0)) (λ_ _ _ _=>(xcq (pR xjb (pv 0) xc5 (nM _)))) (λ_ _ _ _=>(xak (zpc pS (v1 0) zso))))
   (zpo (xba (xgn PySem.F.plainAttrs_list PySem.F.slot_list_append PySem.F.type_list_append xct (pv 9) (zpc (xak (va 10 (zpc (pd c hr (va 0 (va 2 (va 8 (v1 7))))) pN zsc))) pN sT))))))
   (zpo (xaj (xak (va 7 (zpc (xau (xbi (K:=K) rfl) rfl T.uH PyProof.Rows.boot_tuple (v1 9)) pN zsc)))))))))),xaf λR1 bq=>?_⟩
 refine(xaa _ rfl fa _ _ _ rfl rfl (zC bh) (xar (j:=0) rfl) (xci _ rfl b6 ks k.name rfl ((wf.ksAt bg).seq) (λt bt H1 s1 ht rp=>?_)));refine(xai t _ rfl (zC ht) rfl _ _ rfl _ (jEAA _ rfl rfl ?_));refine bq _ _ (xaf λR2 bp=>?_);rw[ai]at rp;obtain⟨pa,ao,rfl,bd,aw⟩:=rp;have bc:=aw.length;rw[zLM]at bc;obtain⟨a6,ar,rfl,b1,az⟩:=id b3;have au:xgl (kAt ks k.name)=k.sort:=by rw[ai];rfl
 refine(xa6 _ rfl _ rfl f' a6 p0 (xax q0 ar ks2 rfl (s1 _ _ hf) (.inr (s1 _ _ b1)) (az.same s1 _) a4.few (λg H2 hg f2=>?_)));have a9:=hg.mono a4.few;have F2:Fed f' H H2:=((Fed.refl hf).same s1).trans f2;have ae:=xah (jEE p0 q0 (s1 _ _ hf)) f2;have I:=ae _ _ bd;have Y:=aw.tups ae _;have a8:=xm1 (s1 _ _ hf) (hw.same s1) f2;have a0:=(b3.same s1 _).tups ae _;obtain⟨p2,q2,h2⟩:=F2.2;refine bp _ _ (xaf λR3 bo=>?_)
 cases hc:k.rc with
 | true=>
  refine(xao _ rfl rfl _ rfl (iteKT (zDT (by rw[au,xc4 hc];rfl)) ?_));refine xaf λR4 bn=>?_;refine(xay _ rfl pa rfl ⟨_,zC I⟩ ?_);refine xbb (xs:=ao) (λi zs H3=>Same H2 H3/\RelDs H3 zs ((xbv ys (k.parts.take i)).map xe4)) ⟨Same.refl _,rfl⟩ (xaz (by omega)) (λi zs H3 _ p=>zC (p.1 _ _ I)) ?_ ?_
  ·rintro i y zs H3 hy hi z ⟨M,u⟩
   obtain⟨d,a2,rd⟩:=(Y.same M _).get hy;rw[zGM]at a2;obtain⟨r,Z,rfl⟩:=zMS a2;obtain⟨b,ws,rfl,C,_,_,rfl,rfl,_,_,rfl,rfl,rfl⟩:=rd
   have x:xbv ys (k.parts.take (i+1))=xbv ys (k.parts.take i)++(match xam ys r.2 with |some g=>[(r.1,g)] |none=>[]):=by
    rw[zTA,Z];exact xhd
   refine(xai b _ rfl (zC C) rfl _ _ rfl _ (xdb _ rfl rfl (ext2 rfl rfl) ?_));refine(xbd _ rfl _ rfl wa ys r.2 rfl (a8.same M) ?_)
   cases J:xam ys r.2 with
   |none=>
    rw[J]at x;refine(jAEA rfl _ rfl (iteF (nxtN hi z ⟨M,?_⟩)));rw[x,List.append_nil];exact u
   |some g'=>
    rw[J]at x;refine(jAEA rfl _ rfl (iteT ?_));refine(xbg _ rfl _ rfl _ rfl wa ys (jEAA r.2 rfl (a8.same M) ?_));rw[J];refine⟨(by walk_at"s"),λt2 ah=>?_⟩;have y1:=zB ah (.tup [.str r.1,.str g']);refine nxtG hi z ⟨M.trans y1,?_⟩;rw[x,zAP];exact(u.same y1 _).append (xaq _ ([]) rfl (xac t2 _ rfl ups _ _ rfl rfl _ (jEAA _ rfl rfl rfl)) rfl)
  rintro zs H3 z ⟨M,u⟩ D hD;rw[zTL (by omega)]at u;have sD:=zB hD (.lst zs);have O:=M.trans sD;have ay:=xfs (ys:=ys) (ps:=k.parts);refine bn _ _ ?_;refine(xa4 _ rfl _ rfl _ rfl _ rfl _ rfl (xas f' (.ref a6) (.ref D) ks2 (xbv ys k.parts) (xdb g rfl (xu7 (O _ _ h2) (a0.same O _) a4 aq ups (u.same sD _) (xed ax) (by omega) (λb C=>?_) (λb C=>?_)) a9 (λa d H4 f4 ra C=>⟨(by walk_at"s"),λt4 U=>?_⟩))))
  ·obtain⟨p,hp,e,_⟩:=xff C
   rw[<- e];exact be p hp
  ·obtain⟨p,hp,_,e⟩:=xff C
   exact b4 _ _ e
  have st:=zB U (.tup [.str g,.ref a]);exact q _ g d _ (((F2.same O).trans f4).same st) (xac t4 _ rfl ups _ _ rfl rfl _ (jEAA _ rfl (ra.same st _) rfl)) a9 (.inl ⟨hc,C.up (by omega)⟩)
 | false=>
  refine(xao _ rfl rfl _ rfl (iteKF (zDF (by rw[au,xc6 hc];decide +kernel)) ?_));refine bo _ _ (xaf λR5 bm=>?_);refine⟨(by walk_at"s"),λal ak=>?_⟩;refine bm _ _ (xaf λR6 bl=>?_);have O:=zB ak (.lst []);have b5:al≠f':=Ne.symm (neN h2 ak);have aa:=O _ _ I;have F3:=F2.same O;have b9:=a8.same O;have b2:=a0.same O _;have h3:=O _ _ h2;have av:=Y.same O _;have ac:upd H2 al (.lst []) al=some (.lst []):=ups;generalize upd H2 al (.lst [])=H3 at O aa F3 b9 b2 h3 av ac⊢;refine(xay _ rfl pa rfl ⟨_,zC aa⟩ ?_)
  refine xdc (xs:=ao) (λi σ H'=>∃(ws:List V) (es:List (Str×D)) (o8 ag af:Option V),σ=[some (.ref f'),some (.ref fa),some (.ref a6),some (.ref wa),some (.str k.name),some (.str (xgl (kAt ks k.name))),some (.ref pa),some (.str g),o8,some (.ref al),ag,af]/\Fed f' H2 H'/\H' al=some (.lst ws)/\RelDs H' ws (es.map dPr)/\es.map (·.1)=(k.parts.take i).map (·.1)/\∀(j:Nat) e p,es[j]?=some e->k.parts[j]?=some p->TmB ks2 22 (xbv ys [(S "it",p.2)]) e.2 g)
   (xag ([]) ([]) none none none rfl ((Fed.refl h2).same O) ac rfl rfl (λj e p he=>by simp at he)) (λi σ H' _ p=>?_) ?_ ?_
  ·obtain⟨_,_,_,_,_,_,F,_⟩:=p
   exact zC (xah (jEE p2 q2 h2) F _ _ I)
  ·rintro i vv σ H4 ba ⟨ws,es,o8,ag,af,rfl,F4,a7,a5,a1,a3⟩
   have am:=xah (jEE p2 q2 h2) F4;obtain⟨d,a2,rd⟩:=(Y.tups am _).get ba;rw[zGM]at a2;obtain⟨r,Z,rfl⟩:=zMS a2;obtain⟨b,wz,rfl,C,_,_,rfl,rfl,_,_,rfl,rfl,rfl⟩:=rd;have hi:i<k.parts.length:=(zES Z).1
   have bi:es.length=i:=by
    have:=congrArg List.length a1;rw[zLM,zLM,List.length_take]at this;omega
   have b7:=a5.length;rw[zLM]at b7;have b8:=xm1 h2 a8 F4;obtain⟨p4,q4,h4⟩:=F4.2;refine(xai b _ rfl (zC C) rfl _ _ rfl _ (jEAA _ rfl rfl (xaf λR7 bj=>?_)));refine(xbz _ rfl _ rfl wa ys r.2 rfl b8 (by walk_at"s") (λl0 bf=>?_));have y0:=zB bf (.lst [optV (xam ys r.2)]);refine(jEAA l0 rfl ⟨_,zD ups⟩ ?_);have ab:upd H4 l0 (.lst [optV (xam ys r.2)]) l0=some (.lst [optV (xam ys r.2)]):=ups;generalize upd H4 l0 (.lst [optV (xam ys r.2)])=br at y0 ab⊢;refine xe2 (xs:=[optV (xam ys r.2)]) (λi2 zs H5=>Same br H5/\RelDs H5 zs ((xbv ys ([(S "it",r.2)].take i2)).map xe4)) ⟨Same.refl _,rfl⟩ (xaz (by show 1<=4000000;decide)) (λi2 zs H5 _ p=>zD (p.1 _ _ ab)) ?_ ?_
   ·rintro i2 y zs H5 hy aj z ⟨M,u⟩
    have h0:i2=0:=by
     have:i2<1:=aj;omega
    subst h0
    have ey:y=optV (xam ys r.2):=by
     simp at hy;exact hy.symm
    subst ey;obtain rfl:zs=[]:=u;refine⟨xd3 rfl,?_⟩
    have x:xbv ys ([(S "it",r.2)].take (0+1))=(match xam ys r.2 with |some g=>[(S "it",g)] |none=>[]):=by
     have:=xhd (ys:=ys) (ps:=[]) (p:=(S "it",r.2));rw[List.nil_append]at this;exact this
    cases J:xam ys r.2 with
    |none=>
     rw[J]at x;refine(xao _ rfl rfl _ rfl (iteF (nxtN aj z ⟨M,?_⟩)));rw[x];rfl
    |some g'=>
     rw[J]at x;refine(xao _ rfl rfl _ rfl (iteT ?_));refine(jEAA _ rfl (by walk_at"s") (λt2 ah=>?_));have y1:=zB ah (.tup [.str (S "it"),.str g']);refine nxtG aj z ⟨M.trans y1,?_⟩;rw[x];exact(xaq _ ([]) rfl (xac t2 _ rfl ups _ _ rfl rfl _ (jEAA _ rfl rfl rfl)) rfl)
   rintro zs H5 z ⟨M,u⟩ D hD;have as:RelDs H5 zs ((xbv ys [(S "it",r.2)]).map xe4):=u;have sD:=zB hD (.lst zs);have s5:=y0.trans (M.trans sD);have ay:=xfs (ys:=ys) (ps:=[(S "it",r.2)]);refine bj _ _ ?_;refine(xao _ rfl (.inl (jAE rfl _ (zD (s5 _ _ a7)))) _ rfl (xbw _ rfl _ rfl _ rfl _ rfl f' (xas (.ref a6) (.ref D) ks2 (xbv ys [(S "it",r.2)]) g (jAAA rfl (xu7 (s5 _ _ h4) ((a0.tups am _).same s5 _) a4 aq ups (as.same sD _) (xed (by simp)) (by simp at ay;omega) (λb C=>?_) (λb C=>?_)) a9 (λa d H6 f6 ra C=>⟨(by walk_at"s"),λt4 U=>?_⟩)))))
   ·obtain⟨p,hp,e,_⟩:=xff C
    rw[<- e,zMO hp];exact xz8
   ·obtain⟨p,hp,_,e⟩:=xff C
    exact b4 _ _ e
   have st:=zB U (.tup [.str r.1,.ref a]);have G:=st _ _ (f6.1 _ _ (s5 _ _ a7) b5);have an:=((a5.same s5 _).tups (xah (jEE p4 q4 (s5 _ _ h4)) f6) _).same st _;refine(xa5 al ws _ rfl rfl G (xaz (by omega)) ?_);refine(xag _ (es++[(r.1,d)]) _ _ _ rfl ?_ ups ?_ ?_ (λj e p he hp=>?_))
   ·exact Fed.put ((F4.same s5).trans (f6.same st)) ak b5 _
   ·rw[zAP]
    exact(an.tups (xbk G _) _).append (xaq _ ([]) rfl (xac t4 _ rfl (xbk G _ _ _ ups) _ _ rfl rfl _ (jEAA _ rfl ((ra.same st _).tups (xbk G _) _) rfl)) rfl)
   ·rw[zAP,a1,zTA,Z,zAP]
    rfl
   ·rw[List.getElem?_append]at he
    split at he
    ·exact a3 j e p he hp
    ·have hj:j=i:=by
      have:=(zES he).1;simp at this;omega
     subst hj;rw[bi,Nat.sub_self]at he;cases he;rw[Z]at hp;cases hp;exact C.up (by omega)
  ·rintro σ H4 ⟨ws,es,o8,ag,af,rfl,F4,a7,a5,a1,a3⟩
   rw[zTL (by omega)]at a1;refine bl _ _ ?_;refine(jEA _ rfl (xe9 _ rfl al ws rfl (.inl ⟨zD a7,λt4 U=>⟨(by walk_at"s"),λt5 bb=>?_⟩⟩)));have y1:=zB U (.tup ws);have y2:=zB bb (.tup [.str g,.ref t4]);exact q _ g (.tup (es.map dPr)) _ ((F2.trans F4).same (y1.trans y2)) (xac t5 _ rfl ups _ _ rfl rfl _ (jEAA _ rfl (xaq t4 ws rfl (y2 _ _ ups) (a5.same (y1.trans y2) _)) rfl)) a9 (.inr (xfh hc es rfl a1 a3))
theorem xux(a:Hp->Prop){R:Hp->Prop}{A:Prop}(h:(∀H,a H->R H)->A)(r:∀H,a H->R H):A:=h r
def xpn:Sp:=λvs H Q _=>∃(f fa:Addr) (kv1 kv2:V) (r1:List V) (p q:Int) (ks ks2:List Kn),vs=[.ref f,.ref fa,kv2]/\H f=some (.lst [.int p,.int q])/\H fa=some (.tup (kv1::r1))/\RelD H kv1 (xbx ks)/\KWf ks/\PNB ks/\RelD H kv2 (xbx ks2)/\KWf ks2/\PNB ks2 ∧
 ∀r ta wa tkv kvs told H',Fed f H H'->H' r=some (.tup [.ref ta,.ref wa])->H' ta=some (.dK tkv)->WAll H' tkv told->H' wa=some (.dK kvs)->WAll H' kvs (xb1 ks2 ks told)->xir ks ks2 told->(told.map (·.1)).Nodup->told.length<=6->Q (.ref r) H'
theorem xtb(T:Tx K mg)(m:DefIs P w K mg base n "_law_take" qad xc2)(l:DefIs P w K mg base n "made_ways" qao xnf)(M:DefIs P w K mg base n "_law_way" qa0 xvn):DefIs P w K mg base (n+1) "_law_told" qa1 xpn:=by
 refine DefIs.of T.kP scl_told (by walk_at"l") (λf bj A outer s H vs Q E hr h=>?_);obtain⟨O,fa,bi,U,r1,p0,q0,ks,ks2,rfl,hf,a4,a3,wf,ak,ag,a1,aj,q⟩:=h;have nd:=scl_told.nd;have hu:=xcs hr;have bh:=wf.few;obtain⟨ka,b5,rfl,aw,au⟩:=id a3;have ba:=au.length;rw[zLM]at ba
 refine⟨_,(zpn (psn 3 nd xnm)
   (zpn (xca PassesOwn.never rfl (xap (K:=K) rfl (px K (pv 1) pI)) (xa2 (K:=K) rfl rfl (xab (pgn 4 nd) (xab (pgn 5 nd) (xab (pgn 6 nd) xa1))))
   (zpn (xdi (pd l hr (va 1 (zpc (xak (va 2 (zpc (xak pN) (zpc (xak pN) pN sT) sT))) (v1 3) sT))) (xa2 (K:=K) rfl rfl (xab (pgn 7 nd) (xab (pgn 8 nd) xa1))))
   (zpo (xa0 (PW.pt (xi7 (PW.pt (xcg (pR (xy4 (K:=K) rfl) (pv 4) (pv 8) (by with_unfolding_all rfl)) (xby (pR xa9 (pd m hr (va 0 (zpc pI pN zso))) pI (nM _))))) (xhb (pR xa9 (pd m hr (va 0 (zpc pI pN zso))) pI (nM _))))) (zpo (xc9 hu (pv 3) (pv 4) (pd M hr (va 0 (va 1 (va 2 (va 7 (v1 4)))))) rfl)) pQ))))
   (zpo (xaj (xak (va 3 (zpc (px K (pd l hr (va 1 (zpc (xak (va 2 (zpc (xak pN) (zpc (xak pN) pN sT) sT))) (v1 3) sT))) pI) pN zss))))))),xaf λR1 bf=>?_⟩
 refine λta ac=>?_;refine bf _ _ (xaf λR2 be=>?_);have s0:=zB ac (.dK []);have aa:ta≠O:=Ne.symm (neN hf ac);refine(xaa _ rfl fa _ _ _ rfl rfl (zC (s0 _ _ a4)) (xar (j:=0) rfl) (jEAA ka rfl ⟨_,zC (s0 _ _ aw)⟩ ?_))
 refine xdc (xs:=b5) (λi σ H'=>∃(o:List (Key×V)) (told:List Wy) (o4 o5 o6 o7 o8:Option V),σ=[some (.ref O),some (.ref fa),some U,some (.ref ta),o4,o5,o6,o7,o8]/\Fed O H H'/\H' ta=some (.dK o)/\WAll H' o told/\xir ks ks2 told/\(∀z∈told,∃j k,j<i/\ks[j]?=some k/\k.name=z.1)/\(told.map (·.1)).Nodup/\told.length<=i)
  (xas ([]) ([]) none none none (xaw none none rfl ((Fed.refl hf).same s0) ups (jAAA trivial (λ_ h=>nomatch h) (λ_ h=>nomatch h) ⟨List.nodup_nil,zG _⟩))) (λi σ H' _ p=>?_) ?_ ?_
 ·obtain⟨_,_,_,_,_,_,_,_,F,_⟩:=p
  exact zC (xah (jEE p0 q0 hf) F _ _ aw)
 ·rintro i vv σ H1 b6 ⟨o,told,o4,o5,o6,o7,o8,rfl,F,I,Y,G,J,a2,b7⟩
  have tp:=xah (jEE p0 q0 hf) F;obtain⟨d,hd,rd⟩:=(au.tups tp _).get b6;rw[zGM]at hd;obtain⟨k,hk,rfl⟩:=zMS hd;obtain⟨b,_,rfl,hb,_,_,rfl,rfl,v2,_,rfl,e2,v3,_,rfl,r3,rfl⟩:=rd;have hi:i<ks.length:=(zES hk).1;have av:=zMG hk;refine(xai b _ rfl (zC hb) rfl _ _ rfl _ (xa3 _ rfl _ _ rfl rfl (xaf λR3 bd=>?_)));obtain⟨p1,q1,h1⟩:=F.2;have az:=tp _ _ a4;have ay:=a3.tups tp _;have ax:=ag.tups tp _;refine(xay _ rfl _ rfl (by walk_at"s") (λe1 ai=>⟨(by walk_at"s"),λa0 ah=>⟨(by walk_at"s"),λsa ae=>?_⟩⟩));have y:=(zB ai (.tup [])).trans ((zB ah (.tup [])).trans (zB ae (.tup [U,.ref e1,.ref a0])));refine(xbm _ rfl fa sa ta (.ref ka) (xas U r1 ([.ref e1,.ref a0]) ks ks2 (xaw o told rfl (y _ _ az) ups (jAAA (y _ _ I) (Y.tups λb us e=>y _ _ e) (by omega) (jAAA (ay.same y _) wf (ax.same y _) ⟨a1,λr wa la kvs ls H3 s3 nr b3 b4 af C ab a8 b9=>?_⟩)))));refine(xai r _ rfl (zC af) rfl _ _ rfl _ (jEAA _ rfl rfl ?_));refine bd _ _ ?_;have u:=y.trans s3;have F3:=F.same u;have as:=u _ _ I;have aq:=Y.tups λb us e=>u _ _ e;have h3:=u _ _ h1;have right:=xig wf a1 G
  have stay:∀H',Fed O H3 H'->Fed O H H'/\H' ta=some (.dK o)/\WAll H' o told/\xir ks ks2 told/\(∀z∈told,∃j k,j<i+1/\ks[j]?=some k/\k.name=z.1)/\(told.map (·.1)).Nodup/\told.length<=i+1:=λH' O=>⟨F3.trans O,O.1 _ _ as aa,aq.tups (xah (jEE p1 q1 h3) O),G,λz hz=>by
   obtain⟨j,k,hj,h'⟩:=J z hz;exact(jEEA j k (by omega) h'),a2,by omega⟩
  apply xux (Fed O H3)
  ·intro al
   apply xux (Fed O H3)
   ·intro a5
    refine(xbf _ rfl _ rfl la _ rfl (.inl (zD a8)) (jAA rfl (xd9 _) (jEA _ rfl ?_)));rw[if_neg (by decide)];refine ite2 (λc1=>?_) (λc1=>iteF ?_)
    ·refine(xaa _ rfl O p1 q1 _ rfl h3 (by decide) (by decide) (λra H4 b2 b1 f4=>(jAEA rfl _ rfl (ite2 (λc2=>iteT (al H4 f4)) (λc2=>a5 H4 f4)))))
    ·generalize eH:H3=H4
     exact a5 H4 (by rw[<- eH];exact Fed.refl h3)
   intro H4 f4;obtain⟨p4,q4,h4⟩:=f4.2;refine(xaa _ rfl O p4 q4 _ rfl h4 (by decide) (by decide) (λra H5 b2 b1 f5=>(jAEA rfl _ rfl (ite2 (λc2=>al H5 (f4.trans f5)) (λc2=>?_)))));obtain⟨g1,g2,g3,g4,g5,g6,g7⟩:=stay H5 (f4.trans f5);exact(xas o told _ _ _ (xaw _ _ rfl g1 g2 (jAAA g3 g4 g5 ⟨g6,g7⟩)))
  intro H4 f4;obtain⟨p4,q4,h4⟩:=f4.2;obtain⟨F4,ar,ao,_,_,_,_⟩:=stay H4 f4;have a9:=xah (jEE p0 q0 hf) F4;have an:H4 wa=some (.dK kvs):=f4.1 _ _ C λe=>by rw[e,h3]at C;cases C
  have am:=ab.tups (xah (jEE p1 q1 h3) f4);refine(xa4 _ rfl _ rfl _ rfl _ rfl _ rfl (xas O fa wa (.ref ka) U (xas r1 p4 q4 ks ks2 (xaw (xb1 ks2 ks told) k rfl h4 (a9 _ _ a4) (jAAA (a3.tups a9 _) wf (ag.tups a9 _) (jAAA a1 aj (jEA kvs (.inl an) am) (jAAA (xcw wf.nd av) (ak k av) (λx g hg=>xoz right hg) (λt g d' H5 f5 rt hg hh=>?_))))))));have a7:=f5.1 _ _ ar aa;have a6:=ao.tups (xah (jEE p4 q4 h4) f5);have bg:=Y.len
  have Z:wyAt told k.name=none:=by
   unfold wyAt;refine List.find?_eq_none.mpr λz hz c=>?_;obtain⟨j,k',hj,bb,e⟩:=J z hz;have:=xew wf.nd bb hk (e.trans (zH c));omega
  have b8:valV o (Sum.inr k.name:Key)=none:=(a6.val (x:=k.name)).1 Z;refine(xbf _ rfl _ rfl ta _ rfl (DPut.k (k:=Sum.inr k.name) a7 (xaz (by omega))) ?_);rw[xqd b8];have b0:=xei a7 (.dK (o++[(Sum.inr k.name,.ref t)]));refine(xas _ (told++[(k.name,g,d')]) _ _ _ (xaw _ _ rfl (Fed.put (F4.trans f5) ac aa _) ups (jAAA ?_ (xj0 wf hk rfl G J ⟨hg,hh⟩) (λz hz=>?_) ⟨?_,by rw[zLA,List.length_singleton];omega⟩)))
  ·exact(a6.snoc (kv:=(Sum.inr k.name,.ref t)) (y:=(k.name,g,d')) ⟨rfl,rt⟩).tups b0
  ·rcases zMA hz with hz |hz
   ·obtain⟨j,k',hj,h'⟩:=J z hz
    exact(jEEA j k' (by omega) h')
   ·rw[zMO hz]
    exact(xaq i k (by omega) hk rfl)
  ·rw[zAP]
   refine List.nodup_append.mpr (jAA a2 (by simp) (λa ha b hb e=>?_));obtain⟨z,hz,rfl⟩:=zMP ha;have bc:b=k.name:=by simpa using hb
   exact xen Z z hz (by rw[e,bc])
 ·rintro σ H1 ⟨o,told,o4,o5,o6,o7,o8,rfl,F,I,Y,G,J,a2,b7⟩
  have tp:=xah (jEE p0 q0 hf) F;refine be _ _ ?_;refine(xcx _ rfl _ rfl _ rfl (by walk_at"s") (λe1 ai=>⟨(by walk_at"s"),λa0 ah=>⟨(by walk_at"s"),λsa ae=>?_⟩⟩));have y:=(zB ai (.tup [])).trans ((zB ah (.tup [])).trans (zB ae (.tup [U,.ref e1,.ref a0])));refine(xbm _ rfl fa sa ta (.ref ka) (xas U r1 ([.ref e1,.ref a0]) ks ks2 (xaw o told rfl (y _ _ (tp _ _ a4)) ups (jAAA (y _ _ I) (Y.tups λb us e=>y _ _ e) (by omega) (jAAA ((a3.tups tp _).same y _) wf ((ag.tups tp _).same y _) ⟨a1,λr wa la kvs ls H3 s3 nr b3 b4 af C ab a8 b9=>?_⟩)))));refine(xbp r _ _ _ rfl rfl (zC af) (xar (j:=0) rfl) (by walk_at"s") (λt ht=>?_));have z:=zB ht (.tup [.ref ta,.ref wa]);have u:=y.trans (s3.trans z);exact q t ta wa o kvs told _ (F.same u) ups (u _ _ I) (Y.tups λb us e=>u _ _ e) (z _ _ C) (ab.tups λb us e=>z _ _ e) G a2 (by omega)
def envB(bs:List (Str×Str)):En:=λy=>(bs.find? λb=>decide (b.1=y)).map λb=>D.str b.2
theorem xr6{bs:List (Str×Str)}(nd:(bs.map (·.1)).Nodup){p:Str×Str}(b:p∈bs):envB bs p.1=some (.str p.2):=by
 unfold envB;obtain⟨i,hi,e⟩:=zMI b;rw[xco (f:=λr:Str×Str=>r.1) (xs:=bs) (i:=i) (a:=p) nd (by rw[<- e];exact zGA hi)];rfl
theorem xf3{bs:List (Str×Str)}{y:Str}(h:∀b∈bs,b.1≠y):envB bs y=none:=by
 unfold envB;rw[List.find?_eq_none.mpr λb a=>by simpa using h b a];rfl
theorem xw3{H:Hp}{p:Addr}{bs:List (Str×Str)}(nd:(bs.map (·.1)).Nodup)(c:H p=some (.dK (xb5 [] (bKV bs)))):EnAt H p bs.length (envB bs):=by
 refine(jEAA _ c ?_ (λy=>⟨λe=>?_,λd e=>?_⟩))
 ·have:=xdn (bKV bs) []
  unfold bKV at this⊢;rw[zLM]at this;simpa using this
 ·unfold envB at e
  have h:=List.find?_eq_none.mp (Option.map_eq_none_iff.mp e);rw[xit (bs:=bs) λb a=>by simpa using h b a];rfl
 ·unfold envB at e
  obtain⟨b,a,rfl⟩:=zMS e
  have f:b.1=y:=by
   have:=List.find?_some a;exact zH this
  refine(jEA (.str b.2) ?_ rfl);rw[<- f];exact xm5 nd (zMF a) []
theorem xjt{ks:List Kn}{bs:List (Str×Str)}(nd:(bs.map (·.1)).Nodup):FitK ks bs (envB bs):=⟨λp a=>xr6 nd a,λz _ h=>xf3 h⟩
theorem xva{ks:List Kn}{n:Nat}{bs:List (Str×Str)}{d:D}{x:Str}(nd:(bs.map (·.1)).Nodup)(h:TmB ks n bs d x):∃b r,d=.tup (.str b::r):=by
 rcases xwr (h.2 _ (xjt nd)) with⟨a,rs,e⟩ |⟨b,r,e,_⟩
 ·exact(jEE _ _ e)
 ·exact(jEE b r e)
def HowB(H:Hp)(hv:V)(b:Bool):Prop:=(b=true/\∃hd r,RelD H hv (.tup (.str hd::r)))\/(b=false/\∃es:List (Str×D),RelD H hv (.tup (es.map dPr)))
def xpw:Sp:=λvs H Q _=>∃(wa a:Addr) (us:List V) (ys:List Wy) (ps:List (Str×Str)),vs=[.ref wa,.ref a]/\WaysAt H wa ys/\(H a=some (.lst us)\/H a=some (.tup us))/\RelDs H us (ps.map xe4)/\(ps.map (·.1)).Nodup/\ps.length<=100 ∧
 ∀dp H',Same H H'->H dp=none->EnAt H' dp (xbv ys ps).length (envB (xbv ys ps))->Q (.ref dp) H'
def xng:Sp:=λvs H Q _=>∃(hv:V) (b:Bool),vs=[hv]/\HowB H hv b/\Q (.bl b) H
def xc7(ks:List Kn)(x:Str):Option Nat:=if x=S "num" then none else match kAt ks x with
 |none=>some 2
 |some _=>none
def xea(ks ks2:List Kn)(x x2:Str):Option Nat:=match kAt ks x with
 |none=>some 2
 |some _=>xc7 ks2 x2
def xgq(k:Kn)(d:D)(o:Option Nat):Prop:=
 ((∃hd r,d=.tup (.str hd::r))/\o=if k.rc=true then none else some 5)\/∃es:List (Str×D),d=.tup (es.map dPr)/\es.length<=100/\o=if k.rc=true then some 5 else if es.map (·.1)=k.parts.map (·.1) then none else some 5
def ArmZ(ks2:List Kn)(ys:List Wy)(g:Str):List (Str×D)->List (Str×Str)->Option Nat->Prop
 |[],[],o=>o=none
 |e::es,p::ps,o=>∃r,Kt ks2 22 (envB (xbv ys [(S "it",p.2)])) e.2 r/\((∃c,nk g r=some c/\o=some c)\/(nk g r=none/\ArmZ ks2 ys g es ps o))
 |_,_,_=>False
def TermR(ks2:List Kn)(ys:List Wy)(k:Kn)(g:Str)(d:D)(o:Option Nat):Prop:=
 (k.rc=true/\∃r,Kt ks2 22 (envB (xbv ys k.parts)) d r/\o=nk g r) ∨
 (k.rc=false/\∃es:List (Str×D),d=.tup (es.map dPr)/\es.length=k.parts.length/\ArmZ ks2 ys g es k.parts o)
def GL(ys:List Wy):Prop:=∀y∈ys,y.1.length<=100/\y.2.1.length<=100
def xnb(K:Fg):Sp:=λvs H Q E=>∃(kv:V) (ks:List Kn) (x:Str),vs=[kv,.str x]/\KsAt H kv ks/\x.length<=100/\xlx K H Q E (xc7 ks x)
def xpu(K:Fg):Sp:=λvs H Q E=>∃(fa sa:Addr) (kv1 kv2:V) (r1 r2:List V) (ks ks2:List Kn) (x x2:Str),vs=[.ref fa,.ref sa,.str x,.str x2]/\H fa=some (.tup (kv1::r1))/\H sa=some (.tup (kv2::r2))/\KsAt H kv1 ks/\KsAt H kv2 ks2/\x.length<=100/\x2.length<=100/\xlx K H Q E (xea ks ks2 x x2)
def xpt(K:Fg):Sp:=λvs H Q E=>∃(fa:Addr) (kv1:V) (r1:List V) (ks:List Kn) (hv:V) (k:Kn) (d:D) (o:Option Nat),vs=[.ref fa,.str k.name,hv]/\H fa=some (.tup (kv1::r1))/\KsAt H kv1 ks/\kAt ks k.name=some k/\k.parts.length<=100/\k.name.length<=100/\RelD H hv d/\xgq k d o/\xlx K H Q E o
def xnc(K:Fg):Sp:=λvs H Q E=>∃(fa sa wa:Addr) (kv1 kv2:V) (r1 r2:List V) (ks ks2:List Kn) (ys:List Wy) (k:Kn) (g:Str) (d:D) (o:Option Nat),vs=[.ref fa,.ref sa,.ref wa,.str k.name]/\H fa=some (.tup (kv1::r1))/\H sa=some (.tup (kv2::r2))/\KsAt H kv1 ks/\KsAt H kv2 ks2/\KLn ks2/\GL ys/\kAt ks k.name=some k/\WaysAt H wa ys/\wyAt ys k.name=some (k.name,g,d) ∧
 (k.parts.map (·.1)).Nodup/\k.parts.length<=100/\TermR ks2 ys k g d o/\xlx K H Q E o
theorem xtv{ys:List Wy}(h:GL ys){x g:Str}(e:xam ys x=some g):g.length<=100:=by
 unfold xam at e;split at e
 ·cases e;exact xe7
 ·obtain⟨y,a,rfl⟩:=zMS e
  exact(h y (zMF a)).2
theorem xn3{ys:List Wy}(h:GL ys)(ps:List (Str×Str)):EnvL (envB (xbv ys ps)):=λx k e=>by
 unfold envB at e;obtain⟨b,i,l⟩:=zMS e;cases l;have a:=zMF i;unfold xbv at a;obtain⟨p,_,c⟩:=List.mem_filterMap.mp a;obtain⟨g,f,j⟩:=zMS c;rw[<- j];exact xtv h f
theorem xr5:∀ys zs:List Str,eqVs (ys.map V.str) (zs.map V.str)=decide (ys=zs)
 |[],[]=>rfl
 |[],_::_=>rfl
 |_::_,[]=>rfl
 |y::ys,z::zs=>by
  show(eqV (.str y) (.str z) && eqVs (ys.map V.str) (zs.map V.str))=_;rw[xr5 ys zs];show(decide (y=z) && decide (ys=zs))=_;rw[Bool.eq_iff_iff];simp
theorem xtw{H:Hp}{a:Addr}{kvs:List (Key×V)}(o:HO)(ha:H a=some (.dK kvs)):∀b vs,H b=some (.tup vs)->upd H a o b=some (.tup vs):=xei ha o
theorem xjf (T:Tx K Z) (c:DefIs P w K Z base n "goes_to" qah xg7):DefIs P w K Z base (n+1) "boxes_over" qav xpw:=by
  refine DefIs.of T.jX sc_boxes_over (by walk_at"l") (λf a1 A outer s H vs Q E hr h=>?_);obtain⟨Y,a,us,ys,ps,rfl,hw,u,F,U,hl,q⟩:=h;have nd:=sc_boxes_over.nd;have M:=F.length;rw[zLM]at M;have G:=xed (ys:=ys) U;have a0:=xfs (ys:=ys) (ps:=ps);refine(jEA _ (zpo (xaj (xau (xip rfl) rfl T.k4 PyProof.Rows.boot_dict (zpc (xb7 ["x","kind","ways"] [none,none,some 0] rfl (by kernel_rfl) (xv0 (xcd (K:=K) rfl (pv 1)) (xap (K:=K) rfl (pv 1))) (λ_ _ _ _=>(xa2 (K:=K) (n:=2) rfl rfl (xab (pgc 0) (xab (pgc 1) xa1)))) (λ_ _ _ _=>(xcq (pR xjb (pd c hr (va 2 (v1 1))) xc5 (nM _)))) (λ_ _ _ _=>(xak (va 0 (zpc (pd c hr (va 2 (v1 1))) pN zsc))))) pN xdh)))) ?_);rcases u with u |u
  case' inl=>
    refine .inl (xay _ rfl a rfl ⟨_,zD u⟩ ?_);refine xe2 (xs:=us) (λi zs l=>Same H l/\RelDs l zs ((xbv ys (ps.take i)).map xe4)) ⟨Same.refl _,rfl⟩ (xaz (by omega)) (λi zs l _ p=>zD (p.1 _ _ u)) ?_ ?_
  case' inr=>
    refine .inr (xay _ rfl a rfl ⟨_,zC u⟩ ?_);refine xbb (xs:=us) (λi zs l=>Same H l/\RelDs l zs ((xbv ys (ps.take i)).map xe4)) ⟨Same.refl _,rfl⟩ (xaz (by omega)) (λi zs l _ p=>zC (p.1 _ _ u)) ?_ ?_
  all_goals first
    | (rintro i y zs l hy hi o ⟨m,e⟩
       obtain⟨d,J,rd⟩:=(F.same m _).get hy;rw[zGM]at J;obtain⟨C,O,rfl⟩:=zMS J;obtain⟨b,ws,rfl,hb,_,_,rfl,rfl,_,_,rfl,rfl,rfl⟩:=rd
       have j:xbv ys (ps.take (i+1))=xbv ys (ps.take i)++(match xam ys C.2 with |some g=>[(C.1,g)] |none=>[]):=by
         rw[zTA,O];exact xhd
       refine(xai b _ rfl (zC hb) rfl _ _ rfl _ (xdb _ rfl rfl (ext2 rfl rfl) ?_));refine(xbd _ rfl _ rfl Y ys C.2 rfl (hw.same m) ?_)
       cases r:xam ys C.2 with
       | none=>
         rw[r]at j;refine(jAEA rfl _ rfl (iteF (nxtN hi o ⟨m,?_⟩)));rw[j,List.append_nil];exact e
       | some g=>
         rw[r]at j;refine(jAEA rfl _ rfl (iteT ?_));refine(xbg _ rfl _ rfl _ rfl Y ys (jEAA C.2 rfl (hw.same m) ?_));rw[r];refine⟨(by walk_at"s"),λt ht=>?_⟩;have z:=zB ht (.tup [.str C.1,.str g]);refine nxtG hi o ⟨m.trans z,?_⟩;rw[j,zAP];exact(e.same z _).append (xaq _ ([]) rfl (xac t _ rfl ups _ _ rfl rfl _ (jEAA _ rfl rfl rfl)) rfl))
    | (rintro zs l o ⟨m,e⟩ D hD
       rw[zTL (by omega)]at e;have z:=zB hD (.lst zs);refine(xb3 D zs (bKV (xbv ys ps)) rfl ups (xfr (e.same z _)) (λdp I=>?_));have y2:=zB I (.dK (xb5 [] (bKV (xbv ys ps))));exact q dp _ (m.trans (z.trans y2)) (xfv (m.trans z) I) (xw3 G ups))
theorem xjd(T:Tx K c)(a:DefIs P w K c base n "sort_of" qac xc3):DefXs P w K c base (n+1) "need_there" qae (xnb K):=by
 refine DefXs.of T.jD sc_need_there (by walk_at"l") (λf u A outer s H vs Q E o h=>?_);obtain⟨kv,ks,x,rfl,p,i,q,m⟩:=h;have nd:=sc_need_there.nd;refine(jEA _ (zpo (xa0 (PW.pt (xcg (pR xft (pv 1) pS (nM _)) (xby (pR xhe (pd a o (va 0 (v1 1))) xc5 (nM _))))) (zpo (xb6 rfl (xdr (T.xt.cl 2 (by decide)) (T.xt.ini 2 (by decide) (by decide)) rfl T.uL (zpc (xcr (xb0 (xcz (pv 1) xdm))) pN xbr)))) pQ)) ?_);refine(xao _ rfl rfl _ rfl ?_);by_cases hn:x=S "num"
 ·have e:xc7 ks x=none:=if_pos hn
  exact xwu (by rw[hn];rfl) (iteF (q e _ (Same.refl _)))
 ·refine xtq (λz=>hn (V.str.inj z)) ?_
  refine(xbd _ rfl _ rfl kv ks x rfl p ?_)
  cases b:kAt ks x with
  |some k=>
   have e:xc7 ks x=none:=by unfold xc7;rw[if_neg hn,b]
   exact(jAEA rfl _ rfl (iteF (q e _ (Same.refl _))))
  |none=>
   have e:xc7 ks x=some 2:=by unfold xc7;rw[if_neg hn,b]
   refine(jAEA rfl _ rfl (iteT ?_));have j:(Str.empty++Str.ofString "no kind ").length<=8:=by walk_at"k"
   have g:=xcb j i;refine(jAEA (fits (zF j (by decide))) _ rfl (xcl _ rfl (fits (zF i (by decide))) (fits (zF g (by decide))) (fits (zF g (by decide))) (by walk_at"s") (λl r=>?_)));exact(xb3 l (cAt K 2) none rfl ups (T.xt.cl 2 (by decide)) (m 2 e _ _ _ (xdl r) (jEAA l rfl rfl ups)))
theorem xkv(T:Tx K i)(b:DefIs P w K i base n "sort_of" qac xc3)(a:DefXs P w K i base n "need_there" qae (xnb K)):DefXs P w K i base (n+1) "look_ends" qax (xpu K):=by
 refine DefXs.of T.jZ sc_look_ends (by walk_at"l") (λf Z A outer s H vs Q E G h=>?_);obtain⟨U,M,m,l,r1,r2,ks,ks2,x,J,rfl,y,p,u,r,F,o,q,c⟩:=h;have nd:=sc_look_ends.nd
 refine⟨_,(zpn (xa0 (pR xhe (pd b G (zpc (px K (pv 0) pI) (v1 2) zss)) xc5 (nM _)) (zpo (xb6 rfl (xdr (T.xt.cl 2 (by decide)) (T.xt.ini 2 (by decide) (by decide)) rfl T.uL (zpc (xcr (xb0 (xcz (pv 2) (xb0 xdm)))) pN xbr)))) pQ)
   (zpo (xba (xav a G (zpc (px K (pv 1) pI) (v1 3) zss))))),?_⟩
 refine(xaa _ rfl U _ _ _ rfl rfl (zC y) (xar (j:=0) rfl) (xci _ rfl m ks x rfl u ?_));unfold xea at q c
 cases g:kAt ks x with
 |some k=>
  rw[g]at q c;refine(jAEA rfl _ rfl (iteF ?_));exact(xaa _ rfl M _ _ _ rfl rfl (zC p) (xar (j:=0) rfl) (xcc _ rfl l ks2 J rfl r o q c))
 |none=>
  rw[g]at c;refine(jAEA rfl _ rfl (iteT ?_));have I:(Str.empty++Str.ofString "no kind ").length<=8:=by walk_at"k"
  have C:=xcb I F;have Y:(Str.ofString " in the first make").length<=18:=by walk_at"k"
  have z:=xcb C Y;refine(jAEA (fits (zF I (by decide))) _ rfl (xcl _ rfl (fits (zF F (by decide))) (fits (zF C (by decide))) (fits (zF z (by decide))) (fits (zF z (by decide))) ⟨(by walk_at"s"),λe O=>?_⟩));exact(xb3 e (cAt K 2) none rfl ups (T.xt.cl 2 (by decide)) (c 2 rfl _ _ _ (xdl O) (jEAA e rfl rfl ups)))
theorem xor(T:Tx K O):DefIs P w K O base (n+1) "is_term" ["how"] xng:=by
 refine DefIs.of T.j1 xog (by walk_at"l") (λf Y A outer s H vs Q E hr h=>?_);obtain⟨hv,b,rfl,p,q⟩:=h;refine(jEA _ (zpo (xaj (xqq (xdt xee (xan (xad (K:=K) rfl) rfl T.k8 PySem.boot_len (v1 0)) pI (nM _)) (xqm (xan xmv rfl T.k7 PyProof.Rows.boot_isinstance (zpc (px K (pv 0) pI) (zpc (xup T.uF PyProof.Rows.boot_str) pN zsn) zss)))))) ?_);rcases p with⟨rfl,F,r,p⟩ |⟨rfl,es,p⟩
 ·obtain⟨a,us,rfl,i,J,I,rfl,M,_⟩:=p
  obtain rfl:J=.str F:=M;have g:decide (((V.str F::I).length:Int) > 0)=true:=zDT (by rw[List.length_cons];omega);refine(xbn _ rfl a _ rfl (.inr (zC i)) _ _ rfl rfl (jEA _ rfl (xtr g ?_)));exact(xaa _ rfl a _ _ _ rfl rfl (zC i) (xar (j:=0) rfl) (xas _ _ _ _ _ (jAAA rfl (λu e=>e) (TyOf.str _) ⟨rfl,q⟩)))
 ·obtain⟨a,us,rfl,i,l⟩:=p
  have c:=l.length;rw[zLM]at c
  cases es with
  |nil=>
   obtain rfl:=List.length_eq_zero_iff.mp c;exact(xbn _ rfl a _ rfl (.inr (zC i)) _ _ rfl rfl (jEA _ rfl (iteF q)))
  | cons e0 es=>
   have o:0<us.length:=by
    rw[c,List.length_cons];omega
   obtain⟨C,m⟩:∃C,us[0]?=some C:=⟨us[0],zGA o⟩;obtain⟨d0,x,y⟩:=l.get m;rw[zGM]at x;obtain⟨Z,U,rfl⟩:=zMS x;obtain⟨b0,G,rfl,z,_⟩:=y;have g:decide ((us.length:Int) > 0)=true:=zDT (by omega);refine(xbn _ rfl a _ rfl (.inr (zC i)) _ _ rfl rfl (jEA _ rfl (xtr g ?_)));exact(xaa _ rfl a _ _ _ rfl rfl (zC i) (xar (j:=0) m) (xas _ _ _ _ _ (jAAA rfl (λu e=>e) (TyOf.tup z) ⟨rfl,q⟩)))
theorem xku(T:Tx K mg)(g:DefIs P w K mg base n "is_term" ["how"] xng)(m:DefIs P w K mg base n "sort_of" qac xc3)(l:DefIs P w K mg base n "parts_of" qac xcj):DefXs P w K mg base (n+1) "look_form" qa7 (xpt K):=by
 refine DefXs.of T.j0 sc_look_form (by walk_at"l") (λf ae A outer s H vs Q E Y h=>?_);obtain⟨fa,M,r1,ks,hv,k,d,o,rfl,a3,a2,a0,hl,a1,hh,Z,q,qf⟩:=h;have nd:=sc_look_form.nd;have hu:=xcs Y
 refine⟨_,(zpn (xa0 (pR xa9 (pd m Y (zpc (px K (pv 0) pI) (v1 1) zss)) pS (nM _)) (zpo (psn 3 nd (pd g Y (v1 2)))) (zpo (psn 3 nd (xqq (xye (pd g Y (v1 2))) (xqm (xdt (xyj (Nat.lt_of_succ_lt hu)) (xb7 ["each"] [none] rfl (by kernel_rfl) (xap (K:=K) rfl (pv 2)) (λ_ _ _ _=>(pgc 0)) (λ_ _ _ _=>xce) (λ_ _ _ _=>(px K (pv 0) pI))) (xb7 ["part"] [none] rfl (by kernel_rfl) (xap (K:=K) rfl (pd l Y (zpc (px K (pv 0) pI) (v1 1) zss))) (λ_ _ _ _=>(pgc 0)) (λ_ _ _ _=>xce) (λ_ _ _ _=>(px K (pv 0) pI))) (nM _)))))))
   (zpo (xa0 (xqg (xqf (pv 3))) (zpo (xb6 rfl (xdr (T.xt.cl 5 (by decide)) (T.xt.ini 5 (by decide) (by decide)) rfl T.uO (zpc (xcr (xb0 (xcz (pv 1) (xb0 xdm)))) pN xbr)))) pQ))),xaf λR1 a9=>?_⟩
 have C:∀b y,Same H y->o=(if b=true then none else some 5)->R1 [some (.ref fa),some (.str k.name),some hv,some (.bl b)] y:=λb y s' e=>by
  refine a9 _ _ ?_
  cases b with
  |true=>exact(jEA _ rfl (jEA _ rfl (iteF (q e _ s'))))
  |false=>
   refine(jEA _ rfl (jEA _ rfl (iteT ?_)));have e1:(Str.empty++Str.ofString "the way of ").length<=11:=by walk_at"k"
   have l2:=xcb e1 a1;have e3:(Str.ofString " hasn't the form for its sort, or not just its tags").length<=51:=by walk_at"k"
   have l3:=xcb l2 e3;refine(jAEA (fits (zF e1 (by decide))) _ rfl (xcl _ rfl (fits (zF a1 (by decide))) (fits (zF l2 (by decide))) (fits (zF l3 (by decide))) (fits (zF l3 (by decide))) ⟨(by walk_at"s"),λe' I=>?_⟩));exact(xb3 e' (cAt K 5) none rfl ups (T.xt.cl 5 (by decide)) (qf 5 e _ _ _ (s'.trans (xdl I)) (jEAA e' rfl rfl ups)))
 refine(xaa _ rfl fa _ _ _ rfl rfl (zC a3) (xar (j:=0) rfl) (xci _ rfl M ks k.name rfl a2 ?_));rw[a0]
 cases J:k.rc with
 |true=>
  refine(jAEA rfl _ rfl (iteKT (zDT (by show V.str k.sort=_;rw[xc4 J];rfl)) ?_));rcases Z with⟨⟨F,r,rfl⟩,rfl⟩ |⟨es,rfl,_,rfl⟩
  ·exact(xa3 _ rfl hv true rfl (.inl (jAE rfl F ⟨r,hh⟩)) (C true _ (Same.refl _) (by rw[if_pos J];rfl)))
  ·exact(xa3 _ rfl hv false rfl (.inr (jAE rfl es hh)) (C false _ (Same.refl _) (by rw[if_pos J];rfl)))
 | false=>
  refine(jAEA rfl _ rfl (iteKF (zDF (by show ¬V.str k.sort=_;rw[xc6 J];decide +kernel)) ?_));rcases Z with⟨⟨F,r,rfl⟩,rfl⟩ |⟨es,rfl,ac,rfl⟩
  ·exact(xbe _ rfl hv true rfl (.inl (jAE rfl F ⟨r,hh⟩)) _ rfl (jEA _ rfl (iteF (C false _ (Same.refl _) (by rw[if_neg (by rw[J];decide)];rfl)))))
  have a7:=hh;obtain⟨a,us,rfl,ha,U⟩:=hh;have a6:=U.length;rw[zLM]at a6;refine(xa3 _ rfl _ false rfl (.inr (jAE rfl es a7)) ?_);refine(jEA _ rfl (jEA _ rfl (iteT ?_)));refine(xay _ rfl a rfl ⟨_,zC ha⟩ ?_);refine xe1 (j:=0) (xs:=us) (λi zs y=>y=H/\zs=((es.take i).map (·.1)).map V.str) (by rfl) ⟨rfl,rfl⟩ (xaz (by omega)) (λi zs y _ p=>by obtain⟨rfl,_⟩:=p;exact zC ha) ?_ ?_
  ·rintro i x zs y O z ⟨rfl,rfl⟩
   obtain⟨d,F,rd⟩:=U.get O;rw[zGM]at F;obtain⟨pr,G,rfl⟩:=zMS F;obtain⟨b,_,rfl,hb,v0,_,rfl,r0,v1,_,rfl,_,rfl⟩:=rd;obtain rfl:v0=.str pr.1:=r0;have hi:i<us.length:=(zES O).1;refine(xaa _ rfl b _ _ _ rfl rfl (zC hb) rfl (nxt hi z ⟨rfl,?_⟩));rw[zTA,G];simp
  rintro zs y z ⟨rfl,rfl⟩ D1 ab;rw[zTL (by omega)];have y1:=zB ab (.lst ((es.map (·.1)).map V.str));refine(xaa _ rfl fa _ _ _ rfl rfl (zC (y1 _ _ a3)) (xar (j:=0) rfl) (xci _ rfl M ks k.name rfl (a2.same y1) (λu H2 s2 ru=>?_)));rw[a0]at ru;obtain⟨c,cs,rfl,a5,a4⟩:=ru;have a8:=a4.length;rw[zLM]at a8;refine(jEAA c rfl ⟨_,zC a5⟩ ?_);refine xe1 (j:=0) (xs:=cs) (λi zs y=>y=H2/\zs=((k.parts.take i).map (·.1)).map V.str) (by rfl) ⟨rfl,rfl⟩ (xaz (by omega)) (λi zs y _ p=>by obtain⟨rfl,_⟩:=p;exact zC a5) ?_ ?_
  ·rintro i x zs y O z ⟨rfl,rfl⟩
   obtain⟨d,F,rd⟩:=a4.get O;rw[zGM]at F;obtain⟨pr,G,rfl⟩:=zMS F;obtain⟨b,_,rfl,hb,v0,_,rfl,r0,v1,_,rfl,_,rfl⟩:=rd;obtain rfl:v0=.str pr.1:=r0;have hi:i<cs.length:=(zES O).1;refine(xaa _ rfl b _ _ _ rfl rfl (zC hb) rfl (nxt hi z ⟨rfl,?_⟩));rw[zTA,G];simp
  rintro zs y z ⟨rfl,rfl⟩ D2 aa;rw[zTL (by omega)];have y2:=zB aa (.lst ((k.parts.map (·.1)).map V.str));refine(xbq D1 D2 _ _ rfl rfl (zD ((s2.trans y2) _ _ ups)) (zD ups) (xd9 _) (xd9 _) ?_);rw[xr5];refine C _ _ (y1.trans (s2.trans y2)) ?_;rw[if_neg (by rw[J];decide)];by_cases I:es.map (·.1)=k.parts.map (·.1)
  ·rw[if_pos I,if_pos (zDT I)]
  ·rw[if_neg I,if_neg (by rw[zDF I];decide)]
theorem xje(T:Tx K mg)(C:DefIs P w K mg base n "sort_of" qac xc3)(r:DefIs P w K mg base n "parts_of" qac xcj)(a:DefIs P w K mg base n "boxes_over" qav xpw)(m:DefXs P w K mg base n "need_kind" qag (xer K (λks=>Kt ks 22) 100)):DefXs P w K mg base (n+1) "look_terms" qaw (xnc K):=by
 refine DefXs.of T.j2 sc_look_terms (by walk_at"l") (λf b1 A outer s H vs Q E O h=>?_);obtain⟨fa,sa,Z,a1,a0,r1,r2,ks,ks2,ys,k,gg,d,o,rfl,af,a5,a9,a8,ai,Y,a7,hw,a2,as,hl,ar,q,qf⟩:=h;have nd:=sc_look_terms.nd;have hu:=xcs O;have ae:gg.length<=100:=(Y _ (zMF a2)).2;obtain⟨kvs,hd,al⟩:=id hw;obtain⟨v,h1,h2⟩:=(al.val (x:=k.name)).2 _ a2;obtain⟨b,_,rfl,hb,v0,_,rfl,r0,hv,_,rfl,hh,rfl⟩:=h2;obtain rfl:v0=.str gg:=r0;have ac:RelD H hv d:=hh
 have g:DGet H Z (.str k.name) (some (.ref b)):=by
  have:=DGet.rd (k:=Sum.inr k.name) hd;rw[h1]at this;exact this
 refine⟨_,(zpn (psn 4 nd (px K (xds hu (pv 2) (pv 3) (λ_ _=>rfl)) pI))
   (zpn (psn 5 nd (px K (xds hu (pv 2) (pv 3) (λ_ _=>rfl)) pI))
   (zpn (psn 6 nd (pd r O (zpc (px K (pv 0) pI) (v1 3) zss)))
   (zpo (xa0 (pR xa9 (pd C O (zpc (px K (pv 0) pI) (v1 3) zss)) pS (nM _)) (zpo (xba (xav m O (zpc (px K (pv 1) pI) (va 5 (zpc (pd a O (va 2 (v1 6))) (v1 4) zsc)) zss)))) (zpo (xca (xdy rfl rfl) rfl (xun rfl T.uI (va 6 (v1 5))) (xa2 (K:=K) rfl rfl (xab (pgn 7 nd) (xab (pgn 8 nd) xa1)))
   (zpo (xba (xav m O (zpc (px K (pv 1) pI) (zpc (px K (pv 8) pI) (zpc (pd a O (va 2 (zpc (xbs (zpc (xak (zpc pS (zpc (px K (pv 7) pI) pN zss) zso)) pN sT)) pN xsx))) (v1 4) zsc) zss) zss))))))))))),?_⟩
 refine(xb4 _ rfl _ rfl Z _ rfl g b (xa5 _ _ _ rfl rfl (zC hb) rfl ?_));refine(xb4 _ rfl _ rfl Z _ rfl g b (xa5 _ _ _ rfl rfl (zC hb) rfl ?_));refine(xaa _ rfl fa _ _ _ rfl rfl (zC af) (xar (j:=0) rfl) (xci _ rfl a1 ks k.name rfl a9 (λu H1 F ru=>?_)));rw[a7]at ru;obtain⟨c,cs,rfl,hc,U⟩:=ru;have ax:=U.length;rw[zLM]at ax;refine(xaa _ rfl fa _ _ _ rfl rfl (zC (F _ _ af)) (xar (j:=0) rfl) (xci _ rfl a1 ks k.name rfl (a9.same F) ?_));rw[a7];have az:=xfs (ys:=ys) (ps:=k.parts);rcases ar with⟨M,rr,J,rfl⟩ |⟨M,es,rfl,b0,J⟩
 ·refine(jAEA rfl _ rfl (iteKT (zDT (by show V.str k.sort=_;rw[xc4 M];rfl)) ?_))
  refine(xaa _ rfl sa _ _ _ rfl rfl (zC (F _ _ a5)) (xar (j:=0) rfl) (xbg _ rfl _ rfl _ rfl Z c (xax cs ys k.parts rfl (hw.same F) (.inr hc) U as ⟨hl,λdp H2 G _ en=>?_⟩)));exact(xbm _ rfl a0 hv dp ks2 (xbp d _ rr gg rfl ⟨a8.same (F.trans G),ai,xn3 Y _,ac.same (F.trans G) _,en.mono (by omega)⟩ ae J (λz H3 s3=>q z _ (F.trans (G.trans s3))) (λc z=>(qf c z).on (F.trans G))))
 ·refine(jAEA rfl _ rfl (iteKF (zDF (by show ¬V.str k.sort=_;rw[xc6 M];decide +kernel)) ?_))
  obtain⟨ha,hs,rfl,ab,aa⟩:=ac;have av:=aa.length;rw[zLM]at av;refine(xbf _ rfl _ rfl c ha rfl ⟨_,zC hc⟩ ⟨⟨_,zC (F _ _ ab)⟩,?_⟩);refine xry (xs:=cs) (ys:=hs) (by omega) (λi σ H'=>∃o7 o8,σ=[some (.ref fa),some (.ref sa),some (.ref Z),some (.str k.name),some (.str gg),some (.ref ha),some (.ref c),o7,o8]/\Same H1 H'/\ArmZ ks2 ys gg (es.drop i) (k.parts.drop i) o) (xaq none none rfl (Same.refl _) J) (λi σ H' _ p=>?_) ?_ ?_
  ·obtain⟨_,_,_,sm,_⟩:=p
   exact⟨zC (sm _ _ hc),zC ((F.trans sm) _ _ ab)⟩
  ·rintro i x y σ H' pt hx hy ⟨o7,o8,rfl,sm,hz⟩ ao
   obtain⟨dp,ag,aj⟩:=U.get hx;rw[zGM]at ag;obtain⟨pr,aq,rfl⟩:=zMS ag;obtain⟨de,ah,ak⟩:=aa.get hy;rw[zGM]at ah;obtain⟨er,aw,rfl⟩:=zMS ah;obtain⟨b2,_,rfl,ay,_,_,rfl,rfl,_,_,rfl,rfl,rfl⟩:=aj;obtain⟨tb,_,rfl,am,t0,_,rfl,_,t1,_,rfl,an,rfl⟩:=ak;rw[xhv aw,xhv aq]at hz;obtain⟨rr,a3,hz⟩:=hz;have sn:=zB ao (.tup [.ref b2,.ref tb]);have G:=sm.trans sn;have I:=F.trans G;refine(xai pt _ rfl (zC ups) rfl _ _ rfl _ (jEAA _ rfl rfl ?_));refine(xaa _ rfl sa _ _ _ rfl rfl (zC (I _ _ a5)) (xar (j:=0) rfl) (xaa _ rfl tb _ _ _ rfl rfl (zC (I _ _ am)) rfl ?_));refine(xa6 _ rfl _ rfl b2 _ _ (xcl _ rfl rfl (zC (G _ _ ay)) rfl (by walk_at"s") (λt ht=>⟨(by walk_at"s"),λl au=>?_⟩)));have y1:=zB ht (.tup [.str (S "it"),.str pr.2]);have y2:=zB au (.lst [.ref t]);have y:=y1.trans y2;have s3:=I.trans y;have a6:=xfs (ys:=ys) (ps:=[(S "it",pr.2)]);refine(xag Z l _ ys ([(S "it",pr.2)]) rfl (hw.same s3) (.inl ups) (xaq _ ([]) rfl (xac t _ rfl (y2 _ _ ups) _ _ rfl rfl _ (jEAA _ rfl rfl rfl)) rfl) (by simp) ⟨by simp,λdp H4 s4 _ en=>?_⟩);have a4:RelD H t1 er.2:=an;refine(xbm _ rfl a0 _ dp ks2 (xbp _ _ rr gg rfl ⟨a8.same (s3.trans s4),ai,xn3 Y _,a4.same (s3.trans s4) _,en.mono (by simp at a6;omega)⟩ ae a3 (λz H5 s5=>(xaq _ _ rfl (G.trans (y.trans (s4.trans s5))) ?_)) (λc z=>?_)))
   ·rcases hz with⟨c,e,_⟩ |⟨_,hz⟩
    ·rw[e]at z;cases z
    ·exact hz
   ·rcases hz with⟨c',e,e2⟩ |⟨e,hz⟩
    ·rw[e]at z
     cases z;exact(qf _ e2).on (s3.trans s4)
    ·rw[e]at z;cases z
  ·rintro σ H' ⟨o7,o8,rfl,sm,hz⟩
   rw[List.drop_of_length_le (by omega),List.drop_of_length_le (by omega)]at hz;exact q hz _ (F.trans sm)
def xm0 (ks ks2:List Kn) (ys:List Wy) (o:Option Nat):Prop:=
  ((∃y∈ys,xea ks ks2 y.1 y.2.1≠none)/\o=some 2) ∨
  ((∀y∈ys,xea ks ks2 y.1 y.2.1=none)/\∃fF:Wy->Option Nat,(∀y∈ys,∀k,kAt ks y.1=some k->xgq k y.2.2 (fF y)) ∧
    (((∃y∈ys,fF y≠none)/\o=some 5) ∨
     ((∀y∈ys,fF y=none)/\∃fT:Wy->Option Nat,(∀y∈ys,∀k,kAt ks y.1=some k->TermR ks2 ys k y.2.1 y.2.2 (fT y))/\(∀y∈ys,fT y=none\/fT y=o)/\(o≠none->∃y∈ys,fT y≠none))))
theorem xt0{ks ks2:List Kn}{x a:Str}{c:Nat}(h:xea ks ks2 x a=some c):c=2:=by
 unfold xea xc7 at h;split at h
 ·cases h;rfl
 ·split at h
  ·cases h
  ·split at h
   ·cases h;rfl
   ·cases h
theorem xrx{k:Kn}{d:D}{c:Nat}(h:xgq k d (some c)):c=5:=by
 rcases h with⟨_,e⟩ |⟨es,_,_,e⟩
 ·split at e
  ·cases e
  ·cases e;rfl
 ·split at e
  ·cases e;rfl
  ·split at e
   ·cases e
   ·cases e;rfl
theorem xr7{ks ks2:List Kn}{x a:Str}(h:xea ks ks2 x a=none):∃k,kAt ks x=some k:=by
 unfold xea at h;split at h
 ·cases h
 ·rename_i k b;exact⟨k,b⟩
def xl4(K:Fg):Sp:=λvs H Q E=>∃(fa sa wa:Addr) (kv1 kv2:V) (r1 r2:List V) (kvs:List (Key×V)) (ks ks2:List Kn) (ys:List Wy) (o:Option Nat),vs=[.ref fa,.ref sa,.ref wa]/\H fa=some (.tup (kv1::r1))/\H sa=some (.tup (kv2::r2))/\RelD H kv1 (xbx ks)/\KWf ks/\RelD H kv2 (xbx ks2)/\KWf ks2/\KLn ks2/\GL ys/\H wa=some (.dK kvs)/\WAll H kvs ys/\(ys.map (·.1)).Nodup/\xm0 ks ks2 ys o/\(o=none->∀H',Same H H'->Q (.bl true) H')/\∀c,o=some c->Fails K H E c
theorem xkt(T:Tx K mg)(M:DefXs P w K mg base n "look_ends" qax (xpu K))(J:DefXs P w K mg base n "look_form" qa7 (xpt K))(G:DefXs P w K mg base n "look_terms" qaw (xnc K)):DefXs P w K mg base (n+1) "look_ways" qam (xl4 K):=by
 refine DefXs.of T.jY sc_look_ways (by walk_at"l") (λf b8 A outer s H vs Q E hr h=>?_);obtain⟨fa,sa,r,a5,a8,r1,r2,kvs,ks,ks2,ys,oo,rfl,b0,av,ax,wf,aw,ar,b4,ac,a7,ao,am,look,q,qf⟩:=h;have nd:=sc_look_ways.nd;have hu:=xcs hr
 have a2:∀(I l:Hp) (o:Obj),Same H I->Same (upd I r (.frz o (.dK kvs))) l->∀(i:Nat) (kv:Key×V),kvs[i]?=some kv->∃(y:Wy) (b:Addr) (hv:V),ys[i]?=some y/\kv.1=Sum.inr y.1/\l b=some (.tup [.str y.2.1,hv])/\RelD l hv y.2.2/\DGet l r (.str y.1) (some (.ref b))/\l fa=some (.tup (a5::r1))/\l sa=some (.tup (a8::r2))/\KsAt l a5 ks/\KsAt l a8 ks2/\WaysAt l r ys/\wyAt ys y.1=some y:=by
  intro I l o sB C i kv hi;have a3:∀b vs,H b=some (.tup vs)->l b=some (.tup vs):=λb vs e=>C _ _ (xtw (.frz o (.dK kvs)) (sB _ _ a7) b vs (sB _ _ e));have hf:=C _ _ (ups (H:=I) (a:=r) (o:=.frz o (.dK kvs)));have a6:=ao.tups a3;obtain⟨y,F,e1,e2⟩:=a6.get hi;have m:=zMG F;have aq:Rd l r (.dK kvs):=.inr ⟨o,hf⟩;have an:=xfk am m;obtain⟨v,h1,h2⟩:=(a6.val (x:=y.1)).2 _ an;obtain⟨b,_,rfl,hb,v0,_,rfl,r0,hv,_,rfl,hh,rfl⟩:=h2;obtain rfl:v0=.str y.2.1:=r0;refine(xax y b hv F e1 hb hh ?_ (jAAA (a3 _ _ b0) (a3 _ _ av) (wf.ksAt (ax.tups a3 _)) (jAA (ar.ksAt (aw.tups a3 _)) (jEA kvs aq a6) an)));have:=DGet.rd (k:=Sum.inr y.1) aq;rw[h1]at this;exact this
 have back:∀(I l:Hp) (o:Obj),Same H I->Same (upd I r (.frz o (.dK kvs))) l->Same H (upd l r (.dK kvs)):=λI l o sB C b u hb=>by
  by_cases e:b=r
  ·subst e
   rw[a7]at hb;cases hb;exact ups
  ·rw[xa7 e]
   exact C _ _ (by rw[xa7 e];exact sB _ _ hb)
 have ai:∀(H0 I l:Hp) (ob:Obj) (c:Nat) (σ:St),NoFz H0 r->Same H I->Same (upd I r (.frz ob (.dK kvs))) l->oo=some c->Fails K l (λv d a1=>xvd H0 (λv d _ H3=>E v d H3) v d σ a1) c:=by
  rintro H0 I l ob c σ nz sB C ho v d a1 s' ⟨x,rfl,rfl,hx⟩;have hz:=(C.trans s') _ _ (ups (H:=I) (a:=r) (o:=.frz ob (.dK kvs)));refine(xdu r ob kvs hz nz (qf c ho _ _ _ (back I a1 ob sB (C.trans s')) (jEAA x rfl rfl ?_)));rw[xa7 (λz=>by rw[z,hz]at hx;cases hx)];exact hx
 have b6:kvs.length=ys.length:=ao.len
 have ae:∀{f:Wy->Option Nat},(∀(j:Nat) y,j<kvs.length->ys[j]?=some y->f y=none)->∀y∈ys,f y=none:=λ{f} h y F=>by
  obtain⟨j,hj,e⟩:=zMI F;exact h j y (by omega) (by rw[<- e];exact zGA hj)
 have a4:∀{f:Wy->Option Nat} {i:Nat} {y:Wy},(∀(j:Nat) y,j<i->ys[j]?=some y->f y=none)->ys[i]?=some y->f y=none->∀(j:Nat) y,j<i+1->ys[j]?=some y->f y=none:=λ{f i y} h F e j y' hj af=>by
  by_cases z:j=i
  ·rw[z,F]at af
   cases af;exact e
  ·exact h j y' (by omega) af
 refine⟨_,(zpn (xi9 (xca (xdy rfl rfl) rfl (xl6 (pv 2)) (pgn 3 nd)
   (zpo (xba (xav M hr (va 0 (va 1 (va 3 (zpc (px K (xds hu (pv 2) (pv 3) (λ_ _=>rfl)) pI) pN zss)))))))))
   (zpn (xi9 (xca (xdy rfl rfl) rfl (xl6 (pv 2)) (pgn 3 nd)
   (zpo (xba (xav J hr (va 0 (va 3 (zpc (px K (xds hu (pv 2) (pv 3) (λ_ _=>rfl)) pI) pN zss))))))))
   (zpn (xi9 (xca (xdy rfl rfl) rfl (xl6 (pv 2)) (pgn 3 nd)
   (zpo (xba (xav G hr (va 0 (va 1 (va 2 (v1 3)))))))))
   (zpo (xaj xh1))))),xaf λR1 b3=>?_⟩
 refine(xa3 _ rfl r kvs rfl a7 (λo nz=>?_));refine xjo (λi σ l=>∃o3,σ=[some (.ref fa),some (.ref sa),some (.ref r),o3]/\Same (upd H r (.frz o (.dK kvs))) l/\∀(j:Nat) y,j<i->ys[j]?=some y->xea ks ks2 y.1 y.2.1=none) (jEAA none rfl (Same.refl _) (λj y z=>absurd z (by omega))) (λi σ l _ p=>by obtain⟨_,_,C,_⟩:=p;exact C _ _ ups) ?_ ?_
 ·rintro i kv σ l hi ⟨o3,rfl,C,hj⟩
  obtain⟨y,b,hv,F,e1,hb,hh,g,U,Z,O,a0,ah,ag⟩:=a2 H l o (Same.refl _) C i kv hi;have m:=zMG F;rw[e1];refine(xa4 _ rfl _ rfl _ rfl _ rfl _ rfl (xaq r _ rfl g (xal b _ _ _ rfl rfl (zC hb) rfl ?_)));refine(xas fa sa a5 a8 r1 (xag r2 ks ks2 y.1 y.2.1 rfl U Z O a0 (jAAA ((ac y m).1) ((ac y m).2) (λz a1 s'=>(jEAA _ rfl (C.trans s') (a4 (f:=λy=>xea ks ks2 y.1 y.2.1) hj F z))) (λc z=>?_))));refine ai _ H l o c _ nz (Same.refl _) C ?_;rcases look with⟨_,e⟩ |⟨e,_⟩
  ·rw[e,xt0 z]
  ·rw[e y m]at z;cases z
 rintro σ H1 ⟨o3,rfl,al,hj⟩;refine(xdu r o kvs (al _ _ ups) nz ?_);have Y:=ae (f:=λy=>xea ks ks2 y.1 y.2.1) hj;have sB:=back H H1 o (Same.refl _) al;generalize upd H1 r (.dK kvs)=I at sB⊢;refine b3 _ _ (xaf λR2 b2=>?_);rcases look with⟨⟨y,F,e⟩,_⟩ |⟨_,fF,hF,look⟩
 ·exact absurd (Y y F) e
 refine(xa3 _ rfl r kvs rfl (sB _ _ a7) (λo nz=>?_));refine xjo (λi σ l=>∃o3,σ=[some (.ref fa),some (.ref sa),some (.ref r),o3]/\Same (upd I r (.frz o (.dK kvs))) l/\∀(j:Nat) y,j<i->ys[j]?=some y->fF y=none) (jEAA _ rfl (Same.refl _) (λj y z=>absurd z (by omega))) (λi σ l _ p=>by obtain⟨_,_,C,_⟩:=p;exact C _ _ ups) ?_ ?_
 ·rintro i kv σ l hi ⟨o3,rfl,C,hj⟩
  obtain⟨y,b,hv,F,e1,hb,hh,g,U,Z,O,a0,ah,ag⟩:=a2 I l o sB C i kv hi;have m:=zMG F;obtain⟨k,hk⟩:=xr7 (Y y m);have hn:=xhm hk;have aa:=zMF hk;rw[e1];refine(xbw _ rfl _ rfl _ rfl _ rfl r (jEAA _ rfl g (xal b _ _ _ rfl rfl (zC hb) rfl ?_)));refine(xas fa a5 r1 ks hv (xax k y.2.2 (fF y) (by rw[hn];rfl) U O (by rw[hn];exact hk) (by have:=wf.pts k aa;omega) (jAAA (by rw[hn];exact(ac y m).1) hh (hF y m k hk) ⟨λz a1 s'=>(jEAA _ rfl (C.trans s') (a4 hj F z)),λc z=>?_⟩)));refine ai _ I l o c _ nz sB C ?_;have h5:=hF y m k hk;rw[z]at h5;rcases look with⟨_,e⟩ |⟨e,_⟩
  ·rw[e,xrx h5]
  ·rw[e y m]at z;cases z
 rintro σ H2 ⟨b7,rfl,ak,az⟩;refine(xdu r o kvs (ak _ _ ups) nz ?_);have ab:=ae az;have sC:=back I H2 o sB ak;generalize upd H2 r (.dK kvs)=HC at sC⊢;refine b2 _ _ (xaf λR3 b1=>?_);rcases look with⟨⟨y,F,e⟩,_⟩ |⟨_,fT,hT,au,as⟩
 ·exact absurd (ab y F) e
 refine(xa3 _ rfl r kvs rfl (sC _ _ a7) (λo nz=>?_));refine xjo (λi σ l=>∃o3,σ=[some (.ref fa),some (.ref sa),some (.ref r),o3]/\Same (upd HC r (.frz o (.dK kvs))) l/\∀(j:Nat) y,j<i->ys[j]?=some y->fT y=none) (jEAA _ rfl (Same.refl _) (λj y z=>absurd z (by omega))) (λi σ l _ p=>by obtain⟨_,_,C,_⟩:=p;exact C _ _ ups) ?_ ?_
 ·rintro i kv σ l hi ⟨o3,rfl,C,hj⟩
  obtain⟨y,b,hv,F,e1,hb,hh,g,U,Z,O,a0,ah,ag⟩:=a2 HC l o sC C i kv hi;have m:=zMG F;obtain⟨k,hk⟩:=xr7 (Y y m);have hn:=xhm hk;have aa:=zMF hk;rw[e1];refine(xbw _ rfl _ rfl _ rfl _ rfl fa (xas sa r a5 a8 r1 (xas r2 ks ks2 ys k (xax y.2.1 y.2.2 (fT y) (by rw[hn];rfl) U Z O a0 (jAAA b4 ac (by rw[hn];exact hk) (jAAA ah (by rw[hn];exact ag) (wf.pnd k aa) (jAAA (by have:=wf.pts k aa;omega) (hT y m k hk) (λz a1 s'=>(jEAA _ rfl (C.trans s') (a4 hj F z))) (λc z=>?_))))))));refine ai _ HC l o c _ nz sC C ?_;rcases au y m with e |e
  ·rw[e]at z;cases z
  ·rw[<- e,z]
 rintro σ H3 ⟨b5,rfl,aj,ay⟩;refine(xdu r o kvs (aj _ _ ups) nz ?_);have a9:=ae ay;refine b1 _ _ ?_;refine q ?_ _ (back HC H3 o sC aj)
 cases ho:oo with
 |none=>rfl
 |some c=>
  obtain⟨y,F,e⟩:=as (by rw[ho];exact λz=>nomatch z);exact absurd (a9 y F) e
def xgz:Option Nat->Str
 |none=>S "let by"
 |some 1=>S "twice"
 |some 2=>S "no name"
 |some 3=>S "no count"
 |some 4=>S "wrong kind"
 |some _=>S "lacks"
def dueB(c:Nat):List V:=[.bl (decide (c=5)),.bl (decide (c=2)),.bl (decide (c=4)),.bl (decide (c=3)),.bl (decide (c=1))]
def dueI:Nat->Nat
 |5=>0
 |2=>1
 |4=>2
 |3=>3
 |_=>4
theorem xw4{c:Nat}(b:1<=c)(a:c<=5):((dueB c).countP λz=>eqV z (.bl true))=1/\((dueB c).findIdx? λz=>eqV z (.bl true))=some (dueI c)/\([S "lacks",S "no name",S "wrong kind",S "no count",S "twice"].map V.str)[dueI c]?=some (.str (xgz (some c))):=by
 have h:c=1\/c=2\/c=3\/c=4\/c=5:=by omega
 rcases h with rfl |rfl |rfl |rfl |rfl <;> exact(jAA rfl rfl rfl)
def xpv(K:Fg):Sp:=λvs H Q _=>∃(fa sa wa:Addr) (kv1 kv2:V) (r1 r2:List V) (kvs:List (Key×V)) (ks ks2:List Kn) (ys:List Wy) (o:Option Nat),vs=[.ref fa,.ref sa,.ref wa]/\H fa=some (.tup (kv1::r1))/\H sa=some (.tup (kv2::r2))/\RelD H kv1 (xbx ks)/\KWf ks/\RelD H kv2 (xbx ks2)/\KWf ks2/\KLn ks2/\GL ys/\H wa=some (.dK kvs)/\WAll H kvs ys/\(ys.map (·.1)).Nodup/\xm0 ks ks2 ys o/\(∀c,o=some c->1<=c/\c<=5)/\∀H',Same H H'->Q (.str (xgz o)) H'
theorem only(a:Addr):∀u,RelV (.ref a) u->u=Value.ref a:=λ_ h=>h
theorem xnj{H a:Hp}{p:Addr}(s:Same H a)(c:H p=none)(o:HO):Same H (upd a p o):=λb u q=>by
 rw[xa7 (neN q c)];exact s b u q
theorem kit6(T:Tx K g){c:Nat}(b:1<=c)(i:c<=5):PySem.W.kitAny K (.ref (cAt K c)) ([cAt K 0,cAt K 7,cAt K 10,cAt K 9,cAt K 6,cAt K 8].map Value.ref)=some false:=by
 refine xnw λv a=>?_
 have e:∃j,j<11/\v=.ref (cAt K j)/\c≠j:=by
  simp only[List.map_cons,List.map_nil,List.mem_cons,List.not_mem_nil,or_false]at a;rcases a with h |h |h |h |h |h
  ·exact(jEAA 0 (by decide) h (by omega))
  ·exact(jEAA 7 (by decide) h (by omega))
  ·exact(jEAA 10 (by decide) h (by omega))
  ·exact(jEAA 9 (by decide) h (by omega))
  ·exact(jEAA 6 (by decide) h (by omega))
  ·exact(jEAA 8 (by decide) h (by omega))
 obtain⟨j,b,rfl,f⟩:=e;rw[T.xt.kit c j (by omega) b,zDF f]
theorem xqy(T:Tx K mg)(a:DefXs P w K mg base n "look_ways" qam (xl4 K)):DefIs P w K mg base (n+1) "_law_class" qbe (xpv K):=by
 refine DefIs.of T.kQ scl_class (by walk_at"l") (λf ag A outer s H vs Q E hr h=>?_);obtain⟨fa,sa,wa,a1,a0,r1,r2,kvs,ks,ks2,ys,oo,rfl,ab,a7,aa,wf,a9,Z,ae,af,a5,a4,y,look,ac,q⟩:=h;have nd:=scl_class.nd;have hu:=xcs hr
 refine⟨_,(zpn (psn 3 nd pS)
   (zpn (xs7 (i:=4) rfl rfl nd rfl rfl T.uU T.xt2.obj (λpn Es=>(zpo (xba (xav a hr (va 0 (va 1 (v1 2))))))) (λe=>(zpn (psn 5 nd (xbs (zpc (xan (xcp (K:=K) rfl) rfl T.k7 PyProof.Rows.boot_isinstance (va 4 (zpc (xdq T.uO) pN zsn))) (zpc (xan (xcp (K:=K) rfl) rfl T.k7 PyProof.Rows.boot_isinstance (va 4 (zpc (xdq T.uL) pN zsn))) (zpc (xan (xcp (K:=K) rfl) rfl T.k7 PyProof.Rows.boot_isinstance (va 4 (zpc (xdq T.uN) pN zsn))) (zpc (xan (xcp (K:=K) rfl) rfl T.k7 PyProof.Rows.boot_isinstance (va 4 (zpc (xdq T.uM) pN zsn))) pN zsc) zsc) zsc) zsc)))
   (zpn (xba (xqp (K:=K) rfl PySem.F.plainAttrs_list PySem.F.slot_list_append PySem.F.type_list_append xct (pv 5) (zpc (xan (xcp (K:=K) rfl) rfl T.k7 PyProof.Rows.boot_isinstance (va 4 (zpc (xdq T.uK) pN zsn))) pN zsc)))
   (zpn (psn 6 nd (xan (xh5 (K:=K) rfl) rfl T.k7 PyProof.Rows.boot_isinstance (va 4 (zpc (xak (zpc (xdq T.uJ) (zpc (xdq T.uQ) (zpc (xdq T.uT) (zpc (xdq T.uS) (zpc (xdq T.uP) (zpc (xdq T.uR) pN zsn) zsn) zsn) zsn) zsn) zsn)) pN sT))))
   (zpn (psn 3 nd pS)
   (zpo (xa0 (PW.pt (xcg (xqf (xan (xcp (K:=K) rfl) rfl T.k7 PyProof.Rows.boot_isinstance (va 4 (zpc (xup T.kZ xw8) pN zsn)))) (xcg (xqg (xqf (pv 6))) (xby (pR xa9 (xqp (K:=K) rfl PySem.F.plainAttrs_list PySem.F.slot_list_count PySem.F.type_list_count xtj (pv 5) (zpc xh1 pN zso)) pI (nM _)))))) (zpo (psn 3 nd (pxl K (xbs (xqr [Str.ofString "lacks",Str.ofString "no name",Str.ofString "wrong kind",Str.ofString "no count",Str.ofString "twice"] rfl)) (xqp (K:=K) rfl PySem.F.plainAttrs_list PySem.F.slot_list_index PySem.F.type_list_index xq8 (pv 5) (zpc xh1 pN zso))))) pQ))))))))
   (zpo (xaj (pv 3))))),?_⟩
 refine(jEA (λv d σ' U=>∃c,oo=some c/\σ'=[some (.ref fa),some (.ref sa),some (.ref wa),some (.str (S "let by")),none,none,none]/\Same H U/\Rz K U v d c) ?_ ?_)
 ·refine(xbg _ rfl _ rfl _ rfl fa sa (xas wa a1 a0 r1 r2 (xag kvs ks ks2 ys oo rfl ab a7 aa wf (jAAA a9 Z ae (jAAA af a5 a4 (jAAA y look (λe U s'=>(jEA _ rfl ?_)) (λc e v d U s' r=>(xdb c e rfl s' r))))))))
  have:=q U s';rw[e]at this;exact this
 ·rintro x C d c2 σ' H1 ⟨c,e0,rfl,s1,x',ex,rfl,o⟩ g
  cases ex;obtain⟨O,J⟩:=ac c e0;have b:c<11:=by omega
  rw[o]at g;obtain⟨rfl,-⟩:=xtz (zM g);clear g;refine(jAA (T.xt.cl c b) (T.xt2.mro c b) ?_);have M:=T.xt.cl c b;have u:∀j,j<11->PySem.W.kitOne K (.ref (cAt K c)) (.ref (cAt K j))=some (decide (c=j)):=λj hj=>T.xt.kit c j b hj;refine(xbm _ rfl x (cAt K c) none (.none) (xax _ _ _ rfl (only _) o (λ_ z=>nomatch z) M ⟨u 5 (by decide),?_⟩));refine(xbm _ rfl x (cAt K c) none (.none) (xax _ _ _ rfl (only _) o (λ_ z=>nomatch z) M ⟨u 2 (by decide),?_⟩));refine(xbm _ rfl x (cAt K c) none (.none) (xax _ _ _ rfl (only _) o (λ_ z=>nomatch z) M ⟨u 4 (by decide),?_⟩));refine(xbm _ rfl x (cAt K c) none (.none) (xax _ _ _ rfl (only _) o (λ_ z=>nomatch z) M ⟨u 3 (by decide),?_⟩));refine⟨(by walk_at"s"),λl hl=>?_⟩;have y1:=zB hl (.lst [.bl (decide (c=5)),.bl (decide (c=2)),.bl (decide (c=4)),.bl (decide (c=3))]);have I:=xck s1 hl;have a3:=y1 _ _ o;refine(xao _ rfl (.inl (jAE rfl _ (zD ups))) _ rfl (xas x (cAt K c) none (.none) _ (xaw _ _ rfl (only _) a3 (jAAA (λ_ z=>nomatch z) M (u 1 (by decide)) ?_))));refine(xa5 l _ _ rfl rfl ups (xaz (by show 4<=_;decide)) ?_);have xl:x≠l:=neN o hl;generalize p:upd (upd H1 l _) l _=H2;have a8:H2 l=some (.lst (dueB c)):=by rw[<- p];exact ups
  have g:H2 x=some (excF x (cAt K c) none .none):=by rw[<- p,xa7 xl,xa7 xl];exact o
  have s2:Same H H2:=by
   rw[<- p];exact xnj (xnj s1 I _) I _
  refine(jEAA _ rfl (by walk_at"s") (λtp a6=>?_));have Y:=zB a6 (.tup ([cAt K 0,cAt K 7,cAt K 10,cAt K 9,cAt K 6,cAt K 8].map V.ref));refine(xas x (cAt K c) none (.none) tp (xaw _ _ rfl ups (Y _ _ g) (jAAA (λ_ z=>nomatch z) M (kit6 T O J) ?_)));have a2:=Y _ _ g;have m:=Y _ _ a8;obtain⟨d1,d2,d3⟩:=xw4 O J;refine(xbm _ rfl x (cAt K c) none (.none) (xax _ _ _ rfl (λ_ h=>h) a2 (λ_ z=>nomatch z) M (jAEA (T.xt.kV c b) _ rfl (iteT ?_))));refine(jEA _ rfl (jEA _ rfl (iteT ?_)));refine(jEAA _ rfl (.inl (jAE rfl _ (zD m))) (xax l (dueB c) (.bl true) rfl rfl m rfl rfl ?_));rw[d1];refine(jAEA rfl _ rfl (iteT ?_));refine⟨(by walk_at"s"),λl2 G=>?_⟩;have t2:=zB G (.lst ([S "lacks",S "no name",S "wrong kind",S "no count",S "twice"].map V.str));refine(jEAA _ rfl (.inl (jAE rfl _ (zD (t2 _ _ m)))) (xbq l (dueB c) (.bl true) (dueI c) rfl rfl (t2 _ _ m) rfl rfl d2 ?_));refine(xal l2 _ _ _ rfl rfl (zD ups) (xar d3) ?_);refine(jEA _ rfl ?_);rw[e0]at q;exact q _ (s2.trans (Y.trans t2))
theorem xij{ks2:List Kn}{ys:List Wy}{k:Kn}{g:Str}{d:D}(c:(k.parts.map (·.1)).Nodup)(i:k.parts.length<=100)(h:HowOk ks2 ys k g d):xgq k d none:=by
 rcases h with⟨e,b⟩ |⟨e,es,rfl,a,_⟩
 ·obtain⟨f,r,rfl⟩:=xva (xed c) b
  exact .inl ⟨(jEE f r rfl),by rw[if_pos e]⟩
 ·refine .inr (jEAA es rfl ?_ (by rw[if_neg (by rw[e];decide),if_pos a]))
  have:=congrArg List.length a;rw[zLM,zLM]at this;omega
theorem xiq{ks2:List Kn}{ys:List Wy}{g:Str}:∀{es:List (Str×D)} {ps:List (Str×Str)},es.length=ps.length->(∀(i:Nat) e p,es[i]?=some e->ps[i]?=some p->Kt ks2 22 (envB (xbv ys [(S "it",p.2)])) e.2 (.ok g))->ArmZ ks2 ys g es ps none
 |[],[],_,_=>rfl
 |e::es,p::ps,a,h=>(jEA _ (h 0 e p rfl rfl) (.inr ⟨nk_ok,xiq (by simpa using a) λi j b f c=>h (i+1) j b (by simpa using f) (by simpa using c)⟩))
 |[],_::_,a,_=>by simp at a
 |_::_,[],a,_=>by simp at a
theorem xh7{ks2:List Kn}(c:KWf ks2){ys:List Wy}{k:Kn}{g:Str}{d:D}(f:(k.parts.map (·.1)).Nodup)(h:HowOk ks2 ys k g d):TermR ks2 ys k g d none:=by
 have m:∀k∈ks2,k.parts.length<=100:=λk o=>zF (c.pts k o) (by decide);rcases h with⟨l,a⟩ |⟨l,es,rfl,j,a⟩
 ·exact .inl (jAEA l (.ok g) (xto m 22 _ _ _ (a.2 _ (xjt (xed f)))) nk_ok.symm)
 ·have b:es.length=k.parts.length:=by
   have:=congrArg List.length j
   rwa[zLM,zLM]at this
  exact .inr (xfh l es rfl b (xiq b λi e p r n=>xto m 22 _ _ _ ((a i e p r n).2 _ (xjt (xed (by simp))))))
theorem xiv{ks2:List Kn}(a:KWf ks2){g:Str}(h:KIn ks2 6 g):xc7 ks2 g=none:=by
 unfold xc7;rcases h.look a with⟨e,_⟩ |⟨_,k,_,e,_⟩
 ·rw[if_pos e]
 ·by_cases c:g=S "num"
  ·rw[if_pos c]
  ·rw[if_neg c,e]
theorem xil{ks ks2:List Kn}(a:KWf ks2){ys:List Wy}{y:Wy}(h:xd1 ks ks2 ys y):xea ks ks2 y.1 y.2.1=none:=by
 obtain⟨k,b,c,_⟩:=h;unfold xea;rw[b];exact xiv a c
theorem xgb{ks ks2:List Kn}(wf:KWf ks)(c:KWf ks2){ys:List Wy}(right:∀y∈ys,xd1 ks ks2 ys y):xm0 ks ks2 ys none:=by
 refine .inr (jAEA (λy e=>xil c (right y e)) (λ_=>none) (λy e k f=>?_) (.inr (xfh (λ_ _=>rfl) (λ_=>none) (λy e k f=>?_) (λ_ _=>.inl rfl) (λz=>absurd rfl z))))
 ·obtain⟨k',a,_,b⟩:=right y e
  rw[f]at a;cases a;have g:=zMF f;exact xij (wf.pnd k g) (zF (wf.pts k g) (by decide)) b
 ·obtain⟨k',a,_,b⟩:=right y e
  rw[f]at a;cases a;exact xh7 c (wf.pnd k (zMF f)) b
def ExR(ks2:List Kn)(ys:List Wy)(k:Kn)(g:Str)(d:D)(o:Option Nat):Prop:=
 (xc7 ks2 g=some 2/\o=some 2)\/(xc7 ks2 g=none/\((xgq k d (some 5)/\o=some 5)\/(xgq k d none/\TermR ks2 ys k g d o)))
theorem TermR.congr{ks2:List Kn}{ys ys':List Wy}{k:Kn}{g:Str}{d:D}{o:Option Nat}(h:TermR ks2 ys k g d o)(c:∀p∈k.parts,xam ys p.2=xam ys' p.2):TermR ks2 ys' k g d o:=by
 rcases h with⟨i,r,h,e⟩ |⟨i,es,e,m,h⟩
 ·exact .inl (jAEA i r (by rw[<- xd5 c];exact h) e)
 ·refine .inr (xfh i es e m ?_)
  have b:∀(ps:List (Str×Str)) (es:List (Str×D)),(∀p∈ps,xam ys p.2=xam ys' p.2)->ArmZ ks2 ys g es ps o->ArmZ ks2 ys' g es ps o:=by
   intro ps
   induction ps with
   |nil=>
    intro es _ h
    cases es with
    |nil=>exact h
    |cons _ _=>exact h
   | cons p ps l=>
    intro es c h
    cases es with
    |nil=>exact h
    |cons e es=>
     obtain⟨r,j,a⟩:=h;rw[xd5 (ys:=ys) (ys':=ys') (ps:=[(S "it",p.2)]) λq f=>by rw[zMO f];exact c p (by simp)]at j;refine(jEA r j ?_);rcases a with a |⟨a,n⟩
     ·exact .inl a
     ·exact .inr ⟨a,l es (λq f=>c q (by simp[f])) n⟩
  exact b _ _ c h
theorem xrf{ks ks2:List Kn}(wf:KWf ks)(s:KWf ks2){ys:List Wy}(right:∀y∈ys,xd1 ks ks2 ys y){x g:Str}{d:D}{k:Kn}{J:Wy}{o:Option Nat}(u:wyAt ys x=some J)(r:kAt ks x=some k)(free:∀y∈ys,∀b,kAt ks y.1=some b->∀p∈b.parts,xam ys p.2=xam (exW ys x g d) p.2)(h:ExR ks2 ys k g d o):xm0 ks ks2 (exW ys x g d) o:=by
 have l:=xx8 (g:=g) (d:=d) u
 have j:∀p∈k.parts,xam ys p.2=xam (exW ys x g d) p.2:=λp M=>by
  obtain⟨U,O⟩:=xgy u;exact free J O k (by rw[U];exact r) p M
 rcases h with⟨I,n⟩ |⟨I,n⟩
 ·refine .inl ⟨(jEA _ l ?_),n⟩
  show xea ks ks2 x g≠none;unfold xea;rw[r];show xc7 ks2 g≠none;rw[I];exact λz=>nomatch z
 ·have m:∀y∈exW ys x g d,xea ks ks2 y.1 y.2.1=none:=λy f=>by
   rcases xf8 f with rfl |⟨f,_⟩
   ·show xea ks ks2 x g=none
    unfold xea;rw[r];exact I
   ·exact xil s (right y f)
  have e:∀y∈ys,∀b,kAt ks y.1=some b->xgq b y.2.2 none/\TermR ks2 (exW ys x g d) b y.2.1 y.2.2 none:=λy f b a=>by
   obtain⟨k',C,_,w⟩:=right y f;rw[a]at C;cases C;have F:=zMF a;exact⟨xij (wf.pnd b F) (zF (wf.pts b F) (by decide)) w,(xh7 s (wf.pnd b F) w).congr (free y f b a)⟩
  refine .inr ⟨m,?_⟩;rcases n with⟨n,G⟩ |⟨n,G⟩
  ·refine(jEA (λy=>if y.1=x then some 5 else none) (λy f b a=>?_) (.inl ⟨(jEA _ l (by show(if x=x then some 5 else none)≠none;rw[if_pos rfl];exact λz=>nomatch z)),G⟩))
   rcases xf8 f with rfl |⟨f,i⟩
   ·show xgq b d (if x=x then some 5 else none)
    rw[if_pos rfl];rw[show kAt ks (x,g,d).1=some k from r]at a;cases a;exact n
   ·show xgq b y.2.2 (if y.1=x then some 5 else none)
    rw[if_neg i];exact(e y f b a).1
  ·refine(jEA (λ_=>none) (λy f b a=>?_) (.inr (xfh (λ_ _=>rfl) (λy=>if y.1=x then o else none) (λy f b a=>?_) (λy f=>?_) (λi=>(jEA _ l (by show(if x=x then o else none)≠none;rw[if_pos rfl];exact i))))))
   ·rcases xf8 f with rfl |⟨f,i⟩
    ·rw[show kAt ks (x,g,d).1=some k from r]at a
     cases a;exact n
    ·exact(e y f b a).1
   ·rcases xf8 f with rfl |⟨f,i⟩
    ·show TermR ks2 _ b g d (if x=x then o else none)
     rw[if_pos rfl];rw[show kAt ks (x,g,d).1=some k from r]at a;cases a;exact G.congr j
    ·show TermR ks2 _ b y.2.1 y.2.2 (if y.1=x then o else none)
     rw[if_neg i];exact(e y f b a).2
   ·show(if y.1=x then o else none)=none\/(if y.1=x then o else none)=o
    by_cases c:y.1=x
    ·rw[if_pos c];exact .inr rfl
    ·rw[if_neg c];exact .inl rfl
theorem xtk{ks ks2:List Kn}{ys:List Wy}{x g:Str}{d:D}(h:kAt ks x=none):xm0 ks ks2 (ys++[(x,g,d)]) (some 2):=by
 refine .inl ⟨(jEA (x,g,d) (by simp) ?_),rfl⟩;show xea ks ks2 x g≠none;unfold xea;rw[h];exact λz=>nomatch z
theorem xmm{ks:List Kn}{n:Nat}{env:En}{d:D}{r:Res}(h:xlv env d r):Kt ks n env d r:=by
 cases n with
 |zero=>exact h
 |succ n=>exact .inl h
theorem xrj{ks:List Kn}{n:Nat}{env:En}{i:Int}(h0:0<=i)(a:i<10 ^ 18):Kt ks n env (tNum i) (if i<4294967296 then .ok (S "num") else .error 4):=xmm (.inl (xdb i rfl h0 a rfl))
theorem xnt{ks:List Kn}{n:Nat}{env:En}{x:Str}(h:env x=none)(a:x.length<=100):Kt ks n env (tBox x) (.error 2):=xmm (.inr (jEA x rfl (.inr (jAA h a rfl))))
theorem xwp{ks:List Kn}{n:Nat}{env:En}{k:Kn}(b:kAt ks k.name=some k)(c:k.rc=true){es:List D}(a:es.length≠k.parts.length):Kt ks (n+1) env (tRec k.name es) (.error 3):=
 .inr (.inr (.inl (jEEA k.name es rfl (.inr (jAEA (xfn b (xi2 c)) k b (.inl ⟨a,rfl⟩))))))
def allD(k:Kn)(es:List (Str×D))(t:D):D:=if k.rc=true then t else .tup ((es.map λe=>(e.1,t)).map dPr)
theorem xix{ks2:List Kn}{ys:List Wy}{k:Kn}{g:Str}{es:List (Str×D)}{t:D}{r:Res}{c:Nat}(i:k.rc=false->k.parts≠[])(a:k.rc=false->es.map (·.1)=k.parts.map (·.1))(j:∀ps,(k.rc=true->ps=k.parts)->(k.rc=false->∃p∈k.parts,ps=[(S "it",p.2)])->Kt ks2 22 (envB (xbv ys ps)) t r)(l:nk g r=some c):TermR ks2 ys k g (allD k es t) (some c):=by
 unfold allD
 cases f:k.rc with
 |true=>
  rw[if_pos rfl];exact .inl (jAEA f r (j _ (λ_=>rfl) (λz=>by rw[f]at z;cases z)) l.symm)
 | false=>
  rw[if_neg (by decide)];have a:=a f
  have b:es.length=k.parts.length:=by
   have:=congrArg List.length a
   rwa[zLM,zLM]at this
  refine .inr (xfh f _ rfl (by rw[zLM];exact b) ?_)
  cases h:k.parts with
  |nil=>exact absurd h (i f)
  |cons p ps=>
   rw[h]at b
   cases es with
   |nil=>simp at b
   |cons e es=>exact(jEA r (j _ (λz=>by rw[f]at z;cases z) (λ_=>(jEA p (by rw[h];simp) rfl))) (.inl (jEA c l rfl)))
theorem xjn{k:Kn}{es:List (Str×D)}{t:D}(g:k.parts.length<=100)(a:k.rc=false->es.map (·.1)=k.parts.map (·.1))(c:∃f r,t=.tup (.str f::r)):xgq k (allD k es t) none:=by
 unfold allD
 cases b:k.rc with
 |true=>
  rw[if_pos rfl];exact .inl ⟨c,by rw[if_pos b]⟩
 | false=>
  rw[if_neg (by decide)];have a:=a b
  have e:es.length=k.parts.length:=by
   have:=congrArg List.length a
   rwa[zLM,zLM]at this
  refine .inr (jEAA _ rfl (by rw[zLM];omega) ?_);rw[if_neg (by rw[b];decide),if_pos];rw[List.map_map,<- a];rfl
theorem xyq{ks:List Kn}{env:En}{k:Kn}(wf:KWf ks)(w:k∈ks)(F:k.rc=false)(s:∀p∈k.parts,p.2=S "num"){p:Str×Str}(M:p∈k.parts){i:Int}(hi:Nm i){x:Str}(J:x.length<=100):Kt ks 22 env (xgj (tTag k.name p.1 (tNum i)) (k.parts.map λq=>(q.1,x,tBox x))) (if env x=none then .ok (S "num") else .error 1):=by
 have y:=xcw wf.nd w;have U:=wf.pts k w;have nd:=wf.pnd k w
 have g:∀q∈k.parts,xch k q.1=some (S "num"):=λq h=>by
  unfold xch;obtain⟨j,O,e⟩:=zMI h;rw[xco (f:=λr:Str×Str=>r.1) (xs:=k.parts) (i:=j) (a:=q) nd (by rw[<- e];exact zGA O)];show some q.2=_;rw[s q h]
 have u:i<4294967296:=hi.2
 have I:∀n env,Kt ks n env (tNum i) (.ok (S "num")):=λn env=>by
  have:=xrj (ks:=ks) (n:=n) (env:=env) (i:=i) hi.1 (by omega);rw[if_pos u]at this;exact this
 have m:Kt ks 21 env (tTag k.name p.1 (tNum i)) (.ok k.name):=.inr (.inr (.inr (.inr (.inl (jEE k.name p.1 (jEA (tNum i) rfl (.inr (jAEA (xfn y (xgr F)) k y (.inr (xaq (S "num") _ (g p M) (I 20 env) fin_ok.symm))))))))))
 have b:xgi k (k.parts.map λq=>(q.1,x,tBox x))=none:=by
  refine xm8 (λz hz=>?_) ?_ (zLM _)
  ·obtain⟨q,h,rfl⟩:=zMP hz
   exact zQ h
  ·rw[List.map_map]
   exact nd
 have l:∀q∈k.parts,ArmR k (Kt ks 21) env (q.1,x,tBox x) (if env x=none then .ok (S "num") else .error 1):=λq h=>by
  by_cases c:env x=none
  ·rw[if_pos c]
   refine .inr ⟨c,.inr (jEA (S "num") (g q h) (xmm (.inr (jEA x rfl (.inl (jEA (S "num") ?_ rfl))))))⟩;unfold En.put;rw[if_pos rfl]
  ·rw[if_neg c]
   exact .inl (jAA c J rfl)
 cases o:k.parts with
 |nil=>exact absurd o (wf.alt k w F)
 | cons G Y=>
  rw[o]at b l U;refine .inr (.inr (.inr (.inr (.inr (.inl (xb3 _ _ (.ok k.name) rfl (by rw[zLM];omega) m (.inr (xaq k.name k (xnu y (xgr F)) y (.inr (jAE b _ (xaq _ _ rfl (l G (by simp)) ?_)))))))))));by_cases c:env x=none
  ·rw[if_pos c]
   refine .inr (xaq (S "num") none rfl (xsk λr C=>?_) rfl);obtain⟨q,h,rfl⟩:=zMP C;have:=l q (by simp[h]);rw[if_pos c]at this;exact this
  ·rw[if_neg c]
   exact .inl (jEA 1 rfl rfl)
theorem xdf{x:Str}(h:Name x):x.length<=100:=by
 have a:=h.le;rw[Array.length_toList]at a;exact zF a (by decide)
theorem xrk{ks:List Kn}(wf:KWf ks){x:Str}{m:Nat}(h:KIn ks m x):x.length<=100:=by
 rcases h with rfl |⟨j,k,_,a,rfl⟩
 ·exact xe7
 ·exact xdf (wf.nm k (zMG a))
theorem xf1{ks ks2:List Kn}(wf:KWf ks)(a:KWf ks2){ys:List Wy}(right:∀y∈ys,xd1 ks ks2 ys y):GL ys:=λy c=>by
 obtain⟨k,b,e,_⟩:=right y c;refine⟨?_,xrk a e⟩;rw[<- xhm b];exact xdf (wf.nm k (zMF b))
theorem kl_n{ks:List Kn}(wf:KWf ks):KLn ks:=λk b=>⟨xdf (wf.nm k b),λp c=>⟨xdf (wf.pnm k b p c),by
 obtain⟨i,hi,e⟩:=zMI b;rcases wf.ref i k (by rw[<- e];exact zGA hi) p c with h |⟨_,k',_,a,f⟩
 ·rw[h];exact xe7
 ·rw[<- f];exact xdf (wf.nm k' (zMG a))⟩⟩
theorem xy2{ys:List Wy}{x g:Str}{d:D}(h:GL ys)(b:x.length<=100)(c:g.length<=100):GL (exW ys x g d):=λy a=>by
 rcases xf8 a with rfl |⟨a,_⟩
 ·exact⟨b,c⟩
 ·exact h y a
def xxv:Sp:=λvs H Q _=>∃(hv tv:V) (k:Kn) (d t:D) (es:List (Str×D)),vs=[.str k.sort,hv,tv]/\RelD H hv d/\(k.rc=false->d=.tup (es.map dPr)/\es.length<=100)/\RelD H tv t/\∀v H',Same H H'->RelD H' v (allD k es t)->Q v H'
def xpm:Sp:=λvs H Q _=>∃(f sa:Addr) (kv2:V) (r2:List V) (p q fm:Int) (ks2:List Kn) (g:Str),vs=[.ref f,.ref sa,.str g,.int fm]/\H f=some (.lst [.int p,.int q])/\H sa=some (.tup (kv2::r2))/\RelD H kv2 (xbx ks2)/\KWf ks2/\∀(r:Addr) (H':Hp) (g':Str) (tv:V) (t:D) (c:Nat),Fed f H H'->H' r=some (.tup [.str g',tv,.str (xgz (some c))])->RelD H' tv t->t.deep<=60->(∃hd r,t=.tup (.str hd::r))->(c=3\/c=4)->(∀env,Kt ks2 22 env t (.error c))->(g'=g\/(fm=6/\KIn ks2 6 g'))->Q (.ref r) H'
theorem xcm{α:Type}(f:α->Bool){l:List α}{i:Nat}{a:α}(h:l[i]?=some a):(l.take (i+1)).filter f=(l.take i).filter f++(if f a=true then [a] else []):=by
 rw[zTA,h];show(l.take i++[a]).filter f=_;rw[List.filter_append,List.filter_cons];cases f a <;> rfl
theorem xjm{t:TT}{a b:TS}{D:Ends}{σ:St}{H:Hp}(c:Bool)(e:∀Q:Bool->Hp->Prop,Q c H->t σ H Q)(h:if c=true then a D σ H else b D σ H):tIfS t a b D σ H:=e _ h
def recB(k:Kn):Bool:=k.rc
theorem xwd(T:Tx K mg):DefIs P w K mg base (n+1) "_law_all" qa2 xxv:=by
 refine DefIs.of T.kR scl_all (by walk_at"l") (λf a0 A outer s H vs Q E hr h=>?_);obtain⟨hv,Y,k,d,t,es,rfl,hh,C,M,q⟩:=h;have nd:=scl_all.nd
 refine⟨_,(zpn (xa0 (pR xa9 (pv 0) pS (nM _)) (zpo (xaj (pv 2))) pQ)
   (zpo (xaj (xau (xbi (K:=K) rfl) rfl T.uH PyProof.Rows.boot_tuple (zpc (xb7 ["_law_t","_law_one","_law_term_here"] [none,none,some 2] rfl (by kernel_rfl) (xap (K:=K) rfl (pv 1)) (λ_ _ _ _=>(xa2 (K:=K) (n:=2) rfl rfl (xab (pgc 0) (xab (pgc 1) xa1)))) (λ_ _ _ _=>xce) (λ_ _ _ _=>(xak (va 0 (v1 2))))) pN xdh))))),?_⟩
 refine(xao _ rfl rfl _ rfl ?_)
 cases o:k.rc with
 |true=>
  refine iteKT (zDT (by show V.str k.sort=_;rw[xc4 o];rfl)) (jEA _ rfl (q _ _ (Same.refl _) ?_));unfold allD;rw[if_pos o];exact M
 | false=>
  refine iteKF (zDF (by show ¬V.str k.sort=_;rw[xc6 o];decide +kernel)) ?_;obtain⟨rfl,hl⟩:=C o;obtain⟨a,us,rfl,O,j⟩:=hh;have x:=j.length;rw[zLM]at x;refine(xay _ rfl a rfl ⟨_,zC O⟩ ?_);refine xbb (xs:=us) (λi zs r=>Same H r/\RelDs r zs (((es.take i).map λe=>(e.1,t)).map dPr)) ⟨Same.refl _,rfl⟩ (xaz (by omega)) (λi zs r _ p=>zC (p.1 _ _ O)) ?_ ?_
  ·rintro i y zs r hy hi l ⟨g,c⟩
   obtain⟨d,m,rd⟩:=(j.same g _).get hy;rw[zGM]at m;obtain⟨G,F,rfl⟩:=zMS m;obtain⟨b,_,rfl,hb,U,_,rfl,Z,v1,_,rfl,r1,rfl⟩:=rd;obtain rfl:U=.str G.1:=Z;refine(xai b _ rfl (zC hb) rfl _ _ rfl _ (xdb _ rfl rfl (ext2 rfl rfl) (xgx ?_)));refine(xay _ rfl _ rfl (by walk_at"s") (λp z=>?_));have u:=zB z (.tup [.str G.1,Y]);refine nxtG hi l ⟨g.trans u,?_⟩;rw[zTA,F];show RelDs _ _ (((es.take i++[G]).map λe=>(e.1,t)).map dPr);rw[zAP,zAP];exact(c.same u _).append (xaq _ ([]) rfl (xac p _ rfl ups _ _ rfl rfl _ (jEAA _ rfl (M.same (g.trans u) _) rfl)) rfl)
  rintro zs r l ⟨g,c⟩ D hD;rw[zTL (by omega)]at c;have J:=zB hD (.lst zs);refine(jEEA D _ rfl (.inl ⟨zD ups,λp z=>?_⟩));have I:=zB z (.tup zs);refine q _ _ (g.trans (J.trans I)) ?_;unfold allD;rw[if_neg (by rw[o];decide)];exact(xaq p _ rfl ups (c.same (J.trans I) _))
theorem xh3(T:Tx K mg)(l:DefIs P w K mg base n "_law_take" qad xc2)(c:DefIs P w K mg base n "_law_number" qaj xh9)(a:DefIs P w K mg base n "nought_term" qae (spNu nuT 6)):DefIs P w K mg base (n+1) "_law_wrong_term" qbf xpm:=by
 refine DefIs.of T.kU scl_wrong_term (by walk_at"l") (λf bh A outer s H vs Q E hr h=>?_);obtain⟨f',sa,bd,r2,p0,q0,fm,ks2,g,rfl,hf,J,ac,m,q⟩:=h;have nd:=scl_wrong_term.nd;have hu:=xcs hr;obtain⟨ka,al,rfl,a9,a7⟩:=id ac;have aw:=a7.length;rw[zLM]at aw;have b8:=m.few
 refine⟨_,(zpn (xbl (i:=4) ["_law_row"] [none] rfl (by kernel_rfl) nd rfl (by walk_at"o") (xap (K:=K) rfl (px K (pv 1) pI)) (λ_ _ _ _=>(pgc 0)) (λ_ _ _ _=>(xcq (pR xa9 (px K (pv 0) pI) pS (nM _)))) (λ_ _ _ _=>(pv 0)))
   (zpn (xa0 (PW.pt (xcg (pR xa9 (pv 3) pI (nM _)) (xby (pR xee (xan (xad (K:=K) rfl) rfl T.k8 PySem.boot_len (v1 4)) pI (nM _))))) (zpn (xdi (pxl K (pv 4) (pd l hr (va 0 (zpc (xan (xad (K:=K) rfl) rfl T.k8 PySem.boot_len (v1 4)) pN zsc)))) (xa2 (K:=K) rfl rfl (xab (pgn 2 nd) (xab (pgn 5 nd) (xab (pgn 6 nd) xa1)))))
   (zpn (xbl (i:=7) ["_law_f","_law_part","_law_second"] [none,none,some 1] rfl (by kernel_rfl) nd rfl (by walk_at"o") (xap (K:=K) rfl (pv 6)) (λ_ _ _ _=>(xa2 (K:=K) (n:=2) rfl rfl (xab (pgc 0) (xab (pgc 1) xa1)))) (λ_ _ _ _=>xce) (λ_ _ _ _=>(pd a hr (zpc (px K (pv 2) pI) (v1 1) zss))))
   (zpo (xaj (xak (va 2 (zpc (xak (zpc pS (va 2 (zpc (xau (xbi (K:=K) rfl) rfl T.uH PyProof.Rows.boot_tuple (zpc (xat xhf (pv 7) (xbs (zpc (xak (zpc pS (zpc pI pN zso) zso)) pN sT))) pN xa8)) pN zsc)) zso)) (zpc pS pN zso) sT))))))) pQ)
   (zpo (xaj (xak (va 2 (zpc (xak (zpc pS (zpc (xat xb2 (xat xqu pI pI) (pd c hr (v1 0))) pN xa8) zso)) (zpc pS pN zso) sT))))))),xaf λR1 b4=>?_⟩
 refine(xaa _ rfl sa _ _ _ rfl rfl (zC J) (xar (j:=0) rfl) (jEAA ka rfl ⟨_,zC a9⟩ ?_));refine xbb (xs:=al) (λi zs Y=>Y=H/\RelDs H zs (((ks2.take i).filter recB).map Kn.d)) ⟨rfl,rfl⟩ (xaz (by omega)) (λi zs Y _ p=>by obtain⟨rfl,_⟩:=p;exact zC a9) ?_ ?_
 ·rintro i y zs Y hy hi F ⟨rfl,r⟩
  obtain⟨d,G,rd⟩:=a7.get hy;rw[zGM]at G;obtain⟨k,hk,rfl⟩:=zMS G;have aj:=rd;obtain⟨b,_,rfl,hb,_,_,rfl,rfl,_,_,rfl,rfl,v3,_,rfl,r3,rfl⟩:=rd;have O:=xcm recB hk;refine⟨xd3 rfl,?_⟩;refine(xaa _ rfl b _ _ _ rfl rfl (zC hb) rfl (jAEA rfl _ rfl ?_))
  cases hc:recB k with
  |false=>
   rw[hc]at O;refine iteKF (zDF (by show ¬V.str k.sort=_;rw[xc6 hc];decide +kernel)) (nxtN hi F ⟨rfl,?_⟩);rw[O];show RelDs _ _ ((_++[]).map _);rw[List.append_nil];exact r
  |true=>
   rw[hc]at O;refine iteKT (zDT (by show V.str k.sort=_;rw[xc4 hc];rfl)) (jEA _ rfl (nxtG hi F ⟨rfl,?_⟩));rw[O];show RelDs _ _ ((_++[k]).map _);rw[zAP];exact r.append (xaq _ ([]) rfl aj rfl)
 rintro zs Y F ⟨rfl,r⟩ L4 h4;rw[zTL (by omega)]at r;have I:=zB h4 (.lst zs);have M:upd Y L4 (.lst zs) L4=some (.lst zs):=ups;have ak:L4≠f':=λe=>by rw[e,hf]at h4;cases h4
 have U:=r.same I _;have am:=r.length;rw[zLM]at am;have b6:=List.length_filter_le recB ks2;refine b4 _ _ (xaf λR2 b3=>?_);generalize upd Y L4 (.lst zs)=H1 at I M U⊢;have ax:=ac.same I _;have ba:=I;refine xjm (decide (fm=6) && decide (0<zs.length)) (λQ hQ=>?_) ?_
 ·refine(xao _ rfl rfl _ rfl ?_)
  by_cases h6:fm=6
  ·rw[zDT h6,Bool.true_and]at hQ
   refine iteKT (zDT (by rw[h6])) ?_;refine(xbn _ rfl L4 _ rfl (.inl (zD M)) _ _ rfl rfl (jEA _ rfl ?_));rw[show decide ((zs.length:Int) > 0)=decide (0<zs.length) by rw[decide_eq_decide];omega];exact hQ
  ·rw[zDF h6,Bool.false_and]at hQ
   exact iteKF (zDF λz=>h6 (V.int.inj z)) hQ
 cases hc:(decide (fm=6) && decide (0<zs.length)) with
 |false=>
  refine iteF (b3 _ _ ?_);refine(xa3 _ rfl _ _ rfl rfl (jAEA ⟨by decide,by decide⟩ _ rfl (xdu f' p0 q0 rfl (I _ _ hf) (λi H2 hN f2=>?_))));have F2:Fed f' Y H2:=((Fed.refl hf).same I).trans f2;refine(xaw _ _ rfl rfl (by walk_at"s") (λo a0=>⟨(by walk_at"s"),λr1 a1=>?_⟩));have w1:=zB a0 (.tup [.str (S "num"),.int (2 ^ 32+i)]);have w2:=zB a1 (.tup [.str g,.ref o,.str (S "wrong kind")]);have bg:=hN.1;have bf:i<4294967296:=hN.2;refine q r1 _ g (.ref o) (tNum (2 ^ 32+i)) 4 (F2.same (w1.trans w2)) ups (xac o _ rfl (w2 _ _ ups) _ _ rfl rfl _ (jEAA _ rfl rfl rfl)) (zF (show(tNum (2 ^ 32+i)).deep<=1 from zG _) (by decide)) (jEE _ _ rfl) (.inr rfl) (λenv=>?_) (.inl rfl);have:=xrj (ks:=ks2) (n:=22) (env:=env) (i:=2 ^ 32+i) (by omega) (by omega);rw[if_neg (by omega)]at this;exact this
 | true=>
  obtain⟨h6,h0⟩:fm=6/\0<zs.length:=by simpa using hc
  refine iteT (xaf λR3 b2=>?_);refine(xbo _ rfl _ rfl _ rfl L4 _ rfl (.inl (zD M)) (xal f' p0 q0 _ rfl (I _ _ hf) (by omega) (by omega) (λra H2 bc bb f2=>?_)));obtain⟨ia,rfl⟩:∃i:Nat,ra=(i:Int):=⟨ra.toNat,by omega⟩;have ae:ia<zs.length:=by omega
  have F2:Fed f' Y H2:=((Fed.refl hf).same I).trans f2;have a2:=xah (jEE p0 q0 (I _ _ hf)) f2;obtain⟨dk,af,ai⟩:=(U.tups a2 _).get (zGA ae);rw[zGM]at af;obtain⟨k,hk,rfl⟩:=zMS af;have x:=List.mem_filter.mp (zMG hk);have au:k.rc=true:=x.2;have g1:atI zs (ia:Int)=some zs[ia]:=xar (zGA ae);obtain⟨ab,_,eu,b0,_,_,rfl,rfl,v2,_,rfl,e2,v3,_,rfl,⟨tc,ah,rfl,a4,a3⟩,rfl⟩:=ai;rw[eu]at g1;refine(xal L4 _ _ _ rfl rfl (zD (f2.1 _ _ M ak)) g1 ?_);refine(xai ab _ rfl (zC b0) rfl _ _ rfl _ (xa3 _ rfl _ _ rfl rfl (b2 _ _ (xaf λR4 b1=>?_))));have ao:=a3.length;rw[zLM]at ao;have be:=m.pts k x.1;have a5:=f2.1 _ _ (I _ _ J) (λe=>by rw[e,hf]at J;cases J);have aa:=ax.tups a2 _;refine(xay _ rfl tc rfl ⟨_,zC a4⟩ ?_);refine xbb (xs:=ah) (λi ws H3=>Same H2 H3/\RelDs H3 ws ((k.parts.take i).map λp=>nuT 7 ks2 p.2)) ⟨Same.refl _,rfl⟩ (xaz (by omega)) (λi ws H3 _ p=>zC (p.1 _ _ a4)) ?_ ?_
  ·rintro i y ws H3 hy hi F ⟨sm,C⟩
   obtain⟨d,G,rd⟩:=(a3.same sm _).get hy;rw[zGM]at G;obtain⟨pr,a6,rfl⟩:=zMS G;obtain⟨b9,_,rfl,az,_,_,rfl,rfl,_,_,rfl,rfl,rfl⟩:=rd;refine(xai b9 _ rfl (zC az) rfl _ _ rfl _ (xdb _ rfl rfl (ext2 rfl rfl) (xgx ?_)));refine(xaa _ rfl sa _ _ _ rfl rfl (zC (sm _ _ a5)) (xar (j:=0) rfl) (xcc _ rfl (.ref ka) ks2 pr.2 rfl (aa.same sm _) m (xnx m x.1 (zMG a6)) (λu H4 s4 ru=>?_)));refine nxtG hi F ⟨sm.trans s4,?_⟩;rw[zTA,a6];show RelDs _ _ ((k.parts.take i++[pr]).map _);rw[zAP];exact(C.same s4 _).append (xaq _ ([]) rfl ru rfl)
  rintro ws H3 b7 ⟨sm,C⟩ L7 h7;rw[zTL (by omega)]at C;have y7:=zB h7 (.lst ws);have an:=C.length;rw[zLM]at an;refine b1 _ _ ?_;refine(xcx _ rfl _ rfl _ rfl (by walk_at"s") (λo a0=>⟨(by walk_at"s"),λl1 as=>?_⟩));have z1:=zB a0 (.tup [.str (S "num"),.int 2]);have z2:=zB as (.lst [.ref o]);refine(xbp L7 l1 _ _ rfl rfl (z2 _ _ (z1 _ _ ups)) ups (by show ws.length+1<=_;exact fits (by omega)) (λp hp=>?_));have z3:=zB hp (.lst (ws++[.ref o]));refine(jEEA p _ rfl (.inl ⟨zD ups,λt2 ar=>?_⟩));have z4:=zB ar (.tup (ws++[.ref o]));refine⟨(by walk_at"s"),λt3 aq=>⟨(by walk_at"s"),λr1 a1=>?_⟩⟩;have z5:=zB aq (.tup [.str (S "rec"),.str k.name,.ref t2]);have z6:=zB a1 (.tup [.str k.name,.ref t3,.str (S "no count")]);have Z:=z3.trans z4;have ag:=(((y7.trans z1).trans z2).trans Z).trans (z5.trans z6);have b5:RelDs (upd (upd (upd (upd (upd H3 L7 (.lst ws)) o (.tup [.str (S "num"),.int 2])) l1 (.lst [.ref o])) p (.lst (ws++[.ref o]))) t2 (.tup (ws++[.ref o]))) [.ref o] [tNum 2]:=(xaq _ ([]) rfl (xac o _ rfl ((z2.trans Z) _ _ ups) _ _ rfl rfl _ (jEAA _ rfl rfl rfl)) rfl);have ay:=((C.same (((y7.trans z1).trans z2).trans Z) _).append b5).same (z5.trans z6) _;have av:=xcw m.nd x.1
  have a8:KIn ks2 6 k.name:=by
   obtain⟨j,hj,e⟩:=zMI x.1;exact .inr (xaq j k (by omega) (by rw[<- e];exact zGA hj) rfl)
  refine q r1 _ k.name (.ref t3) (tRec k.name ((k.parts.map λp=>nuT 7 ks2 p.2)++[tNum 2])) 3 (F2.same (sm.trans ag)) ups (xac t3 _ rfl (z6 _ _ ups) _ _ rfl rfl _ (xbh _ rfl rfl _ _ rfl (xaq t2 _ rfl ((z5.trans z6) _ _ ups) ay) rfl)) ?_ (jEE _ _ rfl) (.inl rfl) (λenv=>xwp av au (by rw[zLA,zLM];simp)) (.inr ⟨h6,a8⟩)
  have:xdd ((k.parts.map λp=>nuT 7 ks2 p.2)++[tNum 2])<=22:=xd0 λd hd=>by
   rcases zMA hd with hd |hd
   ·obtain⟨p,hp,rfl⟩:=zMP hd
    have:(nuT 7 ks2 p.2).deep<=3*6+1:=xmn 6 (λ_=>none) _ _ (xmg m 6 p.2 (xnx m x.1 hp) _);omega
   ·rw[zMO hd]
    exact zF (show(tNum 2).deep<=1 from zG _) (by decide)
  show max 0 (max 0 (max (xdd _+1) 0))+1<=60;omega
def xvo:Sp:=λvs H Q _=>∃(f fa wa:Addr) (kv1 kv2:V) (r1:List V) (p q:Int) (ks ks2:List Kn) (kvs:List (Key×V)) (ys:List Wy) (gn:Bool),vs=[.ref f,.ref fa,kv2,.ref wa,.bl gn]/\H f=some (.lst [.int p,.int q])/\H fa=some (.tup (kv1::r1))/\RelD H kv1 (xbx ks)/\KWf ks/\RelD H kv2 (xbx ks2)/\KWf ks2/\H wa=some (.dK kvs)/\WAll H kvs ys/\ys.length<=20/\(∀y∈ys,xd1 ks ks2 ys y)/\(∀H',Fed f H H'->Q .non H') ∧
 ∀a kvs' ys' H',Fed f H H'->H' a=some (.dK kvs')->WAll H' kvs' ys'->xm0 ks ks2 ys' (if gn=true then none else some 1)->GL ys'->ys'.map (·.1)=ys.map (·.1)->Q (.ref a) H'
theorem xno{ys:List Wy}{ps:List (Str×Str)}(nd:(ps.map (·.1)).Nodup){p:Str×Str}(m:p∈ps)(o:xam ys p.2=none):∀b∈xbv ys ps,b.1≠p.1:=λb r e=>by
 obtain⟨l,a,s,h⟩:=xff r
 have:l=p:=by
  obtain⟨i,hi,g⟩:=zMI a;obtain⟨j,n,f⟩:=zMI m
  have c:i=j:=by
   refine(List.getElem_inj (xs:=ps.map (·.1)) (i:=i) (j:=j) (h₀:=by rw[zLM];exact hi) (h₁:=by rw[zLM];exact n) nd).mp ?_;rw[List.getElem_map,List.getElem_map,g,f,s,e]
  subst c;rw[<- g,f]
 rw[this,o]at h;cases h
def inW(ys:List Wy)(k:Kn):Bool:=(wyAt ys k.name).isSome
theorem din{H:Hp}{a:Addr}{kvs:List (Key×V)}{ys:List Wy}(e:H a=some (.dK kvs))(h:WAll H kvs ys)(x:Str):∃o,DGet H a (.str x) o/\o.isSome=(wyAt ys x).isSome:=by
 have c:=h.val (x:=x);refine(jEA _ (DGet.rd (k:=Sum.inr x) (.inl e)) ?_)
 cases b:wyAt ys x with
 |none=>rw[c.1 b];rfl
 |some y=>
  obtain⟨v,f,_⟩:=c.2 y b;rw[f];rfl
theorem xvz{X:Cx}{K:Fg}{b:Expr}(e:X.K=K){l:Expr}{a:TE}(c:PE X l a):PI X b l (iTup K a):=by subst e;exact xuo c
theorem xv9{X:Cx}{K:Fg}(b:X.K=K)(a:X.A.units<cLine):OpR X (compareOp .Eq) (rEqE K):=by subst b;exact xnp a
theorem xst{t:TT}{σ:St}{H:Hp}{Q:Bool->Hp->Prop}(c:Bool)(a:∀Q:Bool->Hp->Prop,Q c H->t σ H Q)(h:Q c H):t σ H Q:=a _ h
theorem xf0{t:TT}{a b:TS}{D:Ends}{σ:St}{H:Hp}(c:Bool)(f:∀Q:Bool->Hp->Prop,(∀e,Same H e->Q c e)->t σ H Q)(h:∀e,Same H e->if c=true then a D σ e else b D σ e):tIfS t a b D σ H:=f _ h
theorem xpe{t:TT}{σ:St}{H:Hp}{Q:Bool->Hp->Prop}(c:Bool)(b:∀Q:Bool->Hp->Prop,(∀a,Same H a->Q c a)->t σ H Q)(h:∀a,Same H a->Q c a):t σ H Q:=b _ h
theorem xi3{k:Kn}:decide (V.str k.sort=V.str (Str.ofString "rec"))=k.rc:=by
 unfold Kn.sort;cases k.rc
 ·exact zDF (by walk_at"k")
 ·exact zDT rfl
theorem xg8{k:Kn}:decide (V.str k.sort=V.str (Str.ofString "alt"))=!k.rc:=by
 unfold Kn.sort;cases k.rc
 ·exact zDT rfl
 ·exact zDF (by walk_at"k")
def xfu(k:Kn):Bool:=!k.rc && (k.parts.filter λp=>!decide (V.str p.2=V.str (Str.ofString "num"))).isEmpty
theorem xon(T:Tx K mg)(F:DefIs P w K mg base n "_law_sort_of" qab xeo)(m:DefIs P w K mg base n "_law_take" qad xc2)(J:DefIs P w K mg base n "_law_number" qaj xh9)(a1:DefIs P w K mg base n "goes_to" qah xg7):DefIs P w K mg base (n+1) "_law_hidden" qa3 xvo:=by
 refine DefIs.of T.kT scl_hidden (by walk_at"l") (λf eb A outer s H vs Q E hr h=>?_);obtain⟨f',fa,wa,e4,e3,r1,p0,q0,ks,ks2,kvs,ys,gn,rfl,hf,bc,c0,wf,d8,Z,a2,a3,e5,rt,qn,qs⟩:=h;have nd:=scl_hidden.nd;have hu:=xcs hr;obtain⟨ka,bn,rfl,am,b8⟩:=id c0;have d5:=b8.length;rw[zLM]at d5;have dv:=wf.few
 refine⟨_,(zpn (xbl (i:=5) ["_law_row","_law_ways"] [none,some 3] rfl (by kernel_rfl) nd rfl (by walk_at"o") (xap (K:=K) rfl (px K (pv 1) pI)) (λ_ _ _ _=>(pgc 0)) (λ_ _ _ _=>(xcq (PW.pt (xcg (xfp (xkg hu (px K (pv 0) pI) (pv 1))) (xby (pR xa9 (px K (pv 0) pI) pS (nM _))))))) (λ_ _ _ _=>(px K (pv 0) pI)))
   (zpn (xbl (i:=6) ["_law_row"] [none] rfl (by kernel_rfl) nd rfl (by walk_at"o") (xap (K:=K) rfl (pv 2)) (λ_ _ _ _=>(pgc 0)) (λ_ _ _ _=>(xcq (PW.pt (xcg (pR xa9 (px K (pv 0) pI) pS (nM _)) (xby (pR (xv9 (K:=K) rfl (Nat.lt_of_succ_lt hu)) (xb7 ["_law_t","_law_part"] [none,none] rfl (by kernel_rfl) (xvz (K:=K) rfl (px K (pv 0) pI)) (λ_ _ _ _=>(xa2 (K:=K) (n:=2) rfl rfl (xab (pgc 0) (xab (pgc 1) xa1)))) (λ_ _ _ _=>(xcq (pR xft (pv 1) pS (nM _)))) (λ_ _ _ _=>(pv 1))) (xbs pN) (nM _))))))) (λ_ _ _ _=>(pv 0)))
   (zpn (xa0 (PW.pt (xi7 (pR (xnp (Nat.lt_of_succ_lt hu)) (pv 5) (xbs pN) (nM _)) (xi7 (pR (xnp (Nat.lt_of_succ_lt hu)) (pv 6) (xbs pN) (nM _)) (xhb (pR xft (pxl K (pv 5) (xl7 xg1 pI)) (pxl K (xb7 ["_law_row","_law_ways"] [none,some 3] rfl (by kernel_rfl) (xap (K:=K) rfl (px K (pv 1) pI)) (λ_ _ _ _=>(pgc 0)) (λ_ _ _ _=>(xcq (xfp (xkg hu (px K (pv 0) pI) (pv 1))))) (λ_ _ _ _=>(px K (pv 0) pI))) (xl7 xg1 pI)) (nM _)))))) (zpo (xaj xc5)) pQ)
   (zpn (psn 7 nd (px K (pd F hr (zpc (px K (pv 1) pI) (zpc (pxl K (pv 5) (xl7 xg1 pI)) pN zss) zss)) pI))
   (zpn (xbl (i:=8) ["_law_f","_law_part","_law_gone","_law_ways"] [none,none,some 4,some 3] rfl (by kernel_rfl) nd rfl (by walk_at"o") (xap (K:=K) rfl (pv 7)) (λ_ _ _ _=>(xa2 (K:=K) (n:=2) rfl rfl (xab (pgc 0) (xab (pgc 1) xa1)))) (λ_ _ _ _=>(xcq (pR xa9 (xdt xhe (pd a1 hr (va 3 (v1 1))) xc5 (nM _)) (pv 2) (nM _)))) (λ_ _ _ _=>(pv 0)))
   (zpn (xa0 (pR (xnp (Nat.lt_of_succ_lt hu)) (pv 8) (xbs pN) (nM _)) (zpo (xaj xc5)) pQ)
   (zpn (psn 9 nd (pxl K (pv 8) (pd m hr (va 0 (zpc (xan (xad (K:=K) rfl) rfl T.k8 PySem.boot_len (v1 8)) pN zsc)))))
   (zpn (xdi (pxl K (pv 6) (pd m hr (va 0 (zpc (xan (xad (K:=K) rfl) rfl T.k8 PySem.boot_len (v1 6)) pN zsc)))) (xa2 (K:=K) rfl rfl (xab (pgn 10 nd) (xab (pgn 11 nd) (xab (pgn 12 nd) xa1)))))
   (zpn (psn 13 nd (xak (zpc pS (va 10 (zpc (px K (px K (pv 12) (pd m hr (va 0 (zpc (xan (xad (K:=K) rfl) rfl T.k8 PySem.boot_len (v1 12)) pN zsc)))) pI) (zpc (xak (zpc pS (zpc (pd J hr (v1 0)) pN zsc) zso)) pN sT) zss)) zso)))
   (zpn (psn 14 nd (xau xeb rfl T.k4 PyProof.Rows.boot_dict (v1 3)))
   (zpn (xc9 hu (pv 14) (pxl K (pv 5) (xl7 xg1 pI)) (xak (zpc pS (zpc (xak (zpc pS (va 13 (zpc (xau (xbi (K:=K) rfl) rfl T.uH PyProof.Rows.boot_tuple (zpc (xb7 ["_law_t","_law_part","_law_x"] [none,none,some 9] rfl (by kernel_rfl) (xap (K:=K) rfl (pv 12)) (λ_ _ _ _=>(xa2 (K:=K) (n:=2) rfl rfl (xab (pgc 0) (xab (pgc 1) xa1)))) (λ_ _ _ _=>xce) (λ_ _ _ _=>(xak (va 0 (va 2 (zpc (xak (zpc pS (v1 2) zso)) pN sT)))))) pN xdh)) pN zsc)) zso)) pN sT) zso)) rfl)
   (zpo (xaj (pv 14)))))))))))))),xaf λR1 dq=>?_⟩
 refine(xaa _ rfl fa _ _ _ rfl rfl (zC bc) (xar (j:=0) rfl) (jEAA ka rfl ⟨_,zC am⟩ ?_));refine xbb (xs:=bn) (λi zs H'=>H'=H/\zs=((ks.take i).filter λk=>inW ys k && k.rc).map λk=>V.str k.name) ⟨rfl,rfl⟩ (xaz (by omega)) (λi zs H' _ p=>by obtain⟨rfl,_⟩:=p;exact zC am) ?_ ?_
 ·rintro i y zs H' hy hi l ⟨rfl,rfl⟩
  obtain⟨d,r,rd⟩:=b8.get hy;rw[zGM]at r;obtain⟨k,hk,rfl⟩:=zMS r;obtain⟨b,_,rfl,hb,_,_,rfl,rfl,_,_,rfl,rfl,v3,_,rfl,r3,rfl⟩:=rd;have a:=xcm (λk:Kn=>inW ys k && k.rc) hk;obtain⟨o,ho,eo⟩:=din a2 a3 k.name;refine⟨xd3 rfl,xst (inW ys k && k.rc) (λQ U=>?_) ?_⟩
  ·refine(xaa _ rfl b _ _ _ rfl rfl (zC hb) rfl (xbe _ rfl wa o rfl ho _ rfl ?_))
   rw[eo]
   cases M:(wyAt ys k.name).isSome with
   |false=>
    unfold inW at U;rw[M]at U;exact U
   |true=>
    unfold inW at U;rw[M]at U;refine iteT (xaa _ rfl b _ _ _ rfl rfl (zC hb) rfl (jAEA rfl _ rfl ?_));rw[xi3];exact U
  cases M:(inW ys k && k.rc) with
  |false=>
   rw[M]at a;refine iteF (nxtN hi l ⟨rfl,?_⟩);rw[a];show _=(_++[]).map _;rw[List.append_nil]
  |true=>
   rw[M]at a;refine iteT (xaa _ rfl b _ _ _ rfl rfl (zC hb) rfl (nxtG hi l ⟨rfl,?_⟩));rw[a];show _=(_++[k]).map _;rw[zAP];rfl
 rintro zs H' l ⟨rfl,rfl⟩ L5 h5;rw[zTL (by omega)];have y5:=zB h5 (.lst ((ks.filter λk=>inW ys k && k.rc).map λk=>V.str k.name));refine dq _ _ (xaf λR2 dn=>?_);have cf:upd H' L5 (.lst ((ks.filter λk=>inW ys k && k.rc).map λk=>V.str k.name)) L5=some (.lst ((ks.filter λk=>inW ys k && k.rc).map λk=>V.str k.name)):=ups;have al:L5≠f':=λe=>by rw[e,hf]at h5;cases h5
 generalize upd H' L5 (.lst ((ks.filter λk=>inW ys k && k.rc).map λk=>V.str k.name))=H1 at y5 cf⊢;obtain⟨kb,cp,rfl,bz,bx⟩:=id d8;have d2:=bx.length;rw[zLM]at d2;have dc:=Z.few;refine(xay _ rfl kb rfl ⟨_,zC (y5 _ _ bz)⟩ ?_);refine xbb (xs:=cp) (λi zs H2=>Same H1 H2/\RelDs H2 zs (((ks2.take i).filter xfu).map Kn.d)) ⟨Same.refl _,rfl⟩ (xaz (by omega)) (λi zs H2 _ p=>zC (p.1 _ _ (y5 _ _ bz))) ?_ ?_
 ·rintro i y zs H2 hy hi l ⟨sm,a0⟩
  have s2:=y5.trans sm;obtain⟨d,r,rd⟩:=(bx.same s2 _).get hy;rw[zGM]at r;obtain⟨k,hk,rfl⟩:=zMS r;have cl:=rd;obtain⟨b,_,rfl,hb,_,_,rfl,rfl,_,_,rfl,rfl,v3,_,rfl,⟨pc,b1,rfl,bu,a6⟩,rfl⟩:=rd;have a:=xcm xfu hk;have b5:=a6.length;rw[zLM]at b5;have d7:=Z.pts k (zMG hk);refine⟨xd3 rfl,xpe (xfu k) (λQ U=>?_) (λH3 s3=>?_)⟩
  ·refine(xaa _ rfl b _ _ _ rfl rfl (zC hb) rfl (jAEA rfl _ rfl ?_))
   show if decide (V.str k.sort=V.str (Str.ofString "alt"))=true then _ else _;rw[xg8];unfold xfu at U
   cases M:k.rc with
   |true=>
    rw[M]at U;exact U H2 (Same.refl _)
   | false=>
    rw[M]at U;refine iteT (xaa _ rfl b _ _ _ rfl rfl (zC hb) rfl (jEAA pc rfl ⟨_,zC bu⟩ ?_));refine xbb (xs:=b1) (λi zs H3=>H3=H2/\zs=((k.parts.take i).filter λp=>!decide (V.str p.2=V.str (Str.ofString "num"))).map λp=>V.str p.2) ⟨rfl,rfl⟩ (xaz (by omega)) (λi zs H3 _ p=>by obtain⟨rfl,_⟩:=p;exact zC bu) ?_ ?_
    ·rintro i y zs H3 hy hi l ⟨rfl,rfl⟩
     obtain⟨d,r,rd⟩:=a6.get hy;rw[zGM]at r;obtain⟨O,a7,rfl⟩:=zMS r;obtain⟨b9,_,rfl,aa,_,_,rfl,rfl,_,_,rfl,rfl,rfl⟩:=rd;have a:=xcm (λp:Str×Str=>!decide (V.str p.2=V.str (Str.ofString "num"))) a7;refine(xai b9 _ rfl (zC aa) rfl _ _ rfl _ (xdb _ rfl rfl (ext2 rfl rfl) ?_));refine(xao _ rfl rfl _ rfl ?_)
     cases hd:(!decide (V.str O.2=V.str (Str.ofString "num"))) with
     |false=>
      rw[hd]at a;refine iteF (nxtN hi l ⟨rfl,?_⟩);rw[a];show _=(_++[]).map _;rw[List.append_nil]
     |true=>
      rw[hd]at a;refine iteT (jEA _ rfl (nxtG hi l ⟨rfl,?_⟩));rw[a];show _=(_++[O]).map _;rw[zAP];rfl
    rintro zs H3 l ⟨rfl,rfl⟩ D hD;rw[zTL (by omega)];have z1:=zB hD (.lst ((k.parts.filter λp=>!decide (V.str p.2=V.str (Str.ofString "num"))).map λp=>V.str p.2));refine⟨(by walk_at"s"),λD2 af=>?_⟩;have z2:=zB af (.lst []);refine(xa5 D D2 _ rfl rfl (zD (z2 _ _ ups)) (zD ups) (jEA _ rfl ?_));rw[List.isEmpty_map];exact U _ (z1.trans z2)
  ·cases M:xfu k with
   |false=>
    rw[M]at a;refine iteF (nxtN hi l ⟨sm.trans s3,?_⟩);rw[a];show RelDs _ _ ((_++[]).map _);rw[List.append_nil];exact a0.same s3 _
   |true=>
    rw[M]at a;refine iteT (jEA _ rfl (nxtG hi l ⟨sm.trans s3,?_⟩));rw[a];show RelDs _ _ ((_++[k]).map _);rw[zAP];exact(a0.same s3 _).append (xaq _ ([]) rfl (cl.same s3 _) rfl)
 rintro az H2 l ⟨sm,be⟩ L6 h6;rw[zTL (by omega)]at be;have y6:=zB h6 (.lst az);have ac:=be.length;rw[zLM]at ac;have ao:upd H2 L6 (.lst az) L6=some (.lst az):=ups;have s3:=sm.trans y6;have as:=be.same y6 _;have bm:L6≠f':=Ne.symm (neN ((y5.trans sm) _ _ hf) h6);refine dn _ _ (xaf λR3 dm=>?_);generalize upd H2 L6 (.lst az)=H3 at y6 ao s3 as⊢;have b0:=y5.trans s3;have I:=s3 _ _ cf;have a5:∀H4,Same H3 H4->Fed f' H' H4:=λH4 Y=>(Fed.refl hf).same (b0.trans Y);by_cases hN:(ks.filter λk=>inW ys k && k.rc)=[]
 ·rw[hN]at I
  refine xf0 true (λQ U=>?_) (λH4 Y=>iteT (qn _ (a5 _ Y)));refine(jEAA _ rfl (by walk_at"s") (λD hD=>?_));have z:=zB hD (.lst []);exact(xa5 L5 D _ rfl rfl (zD (z _ _ I)) (zD ups) (jEA _ rfl (iteT (U _ z))))
 obtain⟨N',u,eN⟩:∃N' u,(ks.filter λk=>inW ys k && k.rc)=N'++[u]:=(jEE _ _ ((List.dropLast_concat_getLast hN).symm));rw[eN,zAP]at I;have d9:u∈ks.filter λk=>inW ys k && k.rc:=by rw[eN];simp
 obtain⟨C,c1⟩:=List.mem_filter.mp d9;obtain⟨a9,ar⟩:inW ys u=true/\u.rc=true:=by simpa using c1
 have c7:((N'.map λk=>V.str k.name)++[u].map λk=>V.str k.name).isEmpty=false:=by simp
 by_cases hA:ks2.filter xfu=[]
 ·obtain rfl:az=[]:=List.eq_nil_of_length_eq_zero (by rw[ac,hA];rfl)
  refine xf0 true (λQ U=>?_) (λH4 Y=>iteT (qn _ (a5 _ Y)));refine(jEAA _ rfl (by walk_at"s") (λD hD=>?_));have z:=zB hD (.lst []);refine(xa5 L5 D _ rfl rfl (zD (z _ _ I)) (zD ups) (jEA _ rfl (xrq c7 ?_)));refine(jEAA _ rfl (by walk_at"s") (λD2 af=>?_));have z2:=zB af (.lst []);exact(xa5 L6 D2 _ rfl rfl (zD (z2 _ _ (z _ _ ao))) (zD ups) (jEA _ rfl (iteT (U _ (z.trans z2)))))
 have cb:az.isEmpty=false:=by
  cases az with
  |nil=>exact absurd (List.eq_nil_of_length_eq_zero ac.symm) hA
  |cons _ _=>rfl
 have hW:ks.filter (inW ys)≠[]:=λe=>by
  have:u∈ks.filter (inW ys):=List.mem_filter.mpr ⟨C,a9⟩;rw[e]at this;cases this
 obtain⟨W',k1,eW⟩:∃W' k1,ks.filter (inW ys)=W'++[k1]:=(jEE _ _ ((List.dropLast_concat_getLast hW).symm));refine xf0 (!decide (V.str u.name=V.str k1.name)) (λQ U=>?_) (λH4 Y=>?_)
 ·refine(jEAA _ rfl (by walk_at"s") (λD hD=>?_))
  have z:=zB hD (.lst []);refine(xa5 L5 D _ rfl rfl (zD (z _ _ I)) (zD ups) (jEA _ rfl (xrq c7 ?_)));refine(jEAA _ rfl (by walk_at"s") (λD2 af=>?_));have z2:=zB af (.lst []);refine(xa5 L6 D2 _ rfl rfl (zD (z2 _ _ (z _ _ ao))) (zD ups) (jEA _ rfl (xrq cb ?_)));have Y:=z.trans z2;have G:=b0.trans Y;generalize upd (upd H3 D (.lst [])) D2 (.lst [])=H4 at Y G⊢;refine(xa6 _ rfl _ rfl L5 _ _ (xbj _ rfl rfl (zD (Y _ _ I)) (xf5 _ _) ?_));refine(xaa _ rfl fa _ _ _ rfl rfl (zC (G _ _ bc)) (xar (j:=0) rfl) (jEAA ka rfl ⟨_,zC (G _ _ am)⟩ ?_));refine xbb (xs:=bn) (λi zs H5=>H5=H4/\zs=((ks.take i).filter (inW ys)).map λk=>V.str k.name) ⟨rfl,rfl⟩ (xaz (by omega)) (λi zs H5 _ p=>by obtain⟨rfl,_⟩:=p;exact zC (G _ _ am)) ?_ ?_
  ·rintro i y zs H5 hy hi l ⟨rfl,rfl⟩
   obtain⟨d,r,rd⟩:=(b8.same G _).get hy;rw[zGM]at r;obtain⟨k,hk,rfl⟩:=zMS r;obtain⟨b,_,rfl,hb,_,_,rfl,rfl,_,_,rfl,rfl,v3,_,rfl,r3,rfl⟩:=rd;have a:=xcm (inW ys) hk;obtain⟨o,ho,eo⟩:=din (G _ _ a2) (a3.tups λb us e=>G _ _ e) k.name;refine⟨xd3 rfl,?_⟩;refine(xaa _ rfl b _ _ _ rfl rfl (zC hb) rfl (xbe _ rfl wa o rfl ho _ rfl ?_));rw[eo]
   cases M:(wyAt ys k.name).isSome with
   |false=>
    rw[show inW ys k=false from M]at a;refine iteF (nxtN hi l ⟨rfl,?_⟩);rw[a];show _=(_++[]).map _;rw[List.append_nil]
   |true=>
    rw[show inW ys k=true from M]at a;refine iteT (xaa _ rfl b _ _ _ rfl rfl (zC hb) rfl (nxtG hi l ⟨rfl,?_⟩));rw[a];show _=(_++[k]).map _;rw[zAP];rfl
  rintro zs H5 l ⟨rfl,rfl⟩ D3 ds;rw[zTL (by omega),eW,zAP];have z3:=zB ds (.lst ((W'.map λk=>V.str k.name)++[k1].map λk=>V.str k.name));refine(xaa _ rfl D3 _ _ _ rfl rfl (zD ups) (xf5 _ _) (jAEA rfl _ rfl (U _ (Y.trans z3))))
 cases M:(!decide (V.str u.name=V.str k1.name)) with
 |true=>exact iteT (qn _ (a5 _ Y))
 | false=>
  refine iteF ?_;have d6:u.name=k1.name:=by simpa using M
  obtain⟨i0,c6,_,b7⟩:=xfi eW
  have dt:u=k1:=by
   have h1:=xcw wf.nd C;have h2:=xcw wf.nd (zMG c6);rw[d6,h2]at h1;exact(zM h1).symm
  subst dt;have bb:=xk9 wf (ys:=ys) c6 b7;refine dm _ _ (xaf λR4 dl=>?_);have G:=b0.trans Y;have ax:=Y _ _ I;refine(xaa _ rfl fa _ _ _ rfl rfl (zC (G _ _ bc)) (xar (j:=0) rfl) ?_);refine(xa6 _ rfl _ rfl L5 _ _ (xbj _ rfl rfl (zD ax) (xf5 _ _) (xdu (.ref ka) ks u.name rfl ((wf.ksAt (c0.same G _)).seq) (λt e1 H5 s5 ht rp=>?_))));rw[xcw wf.nd C]at rp ht;obtain⟨pa,b1,rfl,bv,a6⟩:=rp;have b5:=a6.length;rw[zLM]at b5;have e7:=wf.pts u C;have ak:=G.trans s5;refine(xal t _ _ _ rfl rfl (zC ht) rfl (dl _ _ (xaf λR5 dj=>?_)));refine(xay _ rfl pa rfl ⟨_,zC bv⟩ ?_);refine xbb (xs:=b1) (λi zs H6=>H6=H5/\zs=((u.parts.take i).filter λp=>((xam ys p.2).isNone == gn)).map λp=>V.str p.1) ⟨rfl,rfl⟩ (xaz (by omega)) (λi zs H6 _ p=>by obtain⟨rfl,_⟩:=p;exact zC bv) ?_ ?_
  ·rintro i y zs H6 hy hi l ⟨rfl,rfl⟩
   obtain⟨d,r,rd⟩:=a6.get hy;rw[zGM]at r;obtain⟨O,a7,rfl⟩:=zMS r;obtain⟨b9,_,rfl,aa,_,_,rfl,rfl,_,_,rfl,rfl,rfl⟩:=rd;have a:=xcm (λp:Str×Str=>((xam ys p.2).isNone == gn)) a7;refine(xai b9 _ rfl (zC aa) rfl _ _ rfl _ (xdb _ rfl rfl (ext2 rfl rfl) ?_));refine(xbz _ rfl _ rfl wa ys O.2 rfl (jEA kvs (.inl (ak _ _ a2)) (a3.tups λb us e=>ak _ _ e)) rfl (xao _ rfl rfl _ rfl ?_));rw[show decide (optV (xam ys O.2)=V.non)=(xam ys O.2).isNone by cases xam ys O.2 <;> rfl];rw[show decide (V.bl (xam ys O.2).isNone=V.bl gn)=((xam ys O.2).isNone == gn) by cases (xam ys O.2).isNone <;> cases gn <;> rfl]
   cases hg:((xam ys O.2).isNone == gn) with
   |false=>
    rw[hg]at a;refine iteF (nxtN hi l ⟨rfl,?_⟩);rw[a];show _=(_++[]).map _;rw[List.append_nil]
   |true=>
    rw[hg]at a;refine iteT (jEA _ rfl (nxtG hi l ⟨rfl,?_⟩));rw[a];show _=(_++[O]).map _;rw[zAP];rfl
  rintro zs H6 l ⟨rfl,rfl⟩ L8 h8;rw[zTL (by omega)];have cz:=List.length_filter_le (λp:Str×Str=>((xam ys p.2).isNone == gn)) u.parts;have bq:∀p∈u.parts.filter (λp=>((xam ys p.2).isNone == gn)),p∈u.parts/\((xam ys p.2).isNone == gn)=true:=λp hp=>List.mem_filter.mp hp;generalize (u.parts.filter λp=>((xam ys p.2).isNone == gn))=ss at cz bq⊢;have y8:=zB h8 (.lst (ss.map λp=>V.str p.1));have bf:upd H6 L8 (.lst (ss.map λp=>V.str p.1)) L8=some (.lst (ss.map λp=>V.str p.1)):=ups;have co:L8≠f':=Ne.symm (neN (ak _ _ hf) h8);have bi:=ak.trans y8;have ai:=s5.trans y8;refine dj _ _ (xaf λR6 di=>?_);generalize upd H6 L8 (.lst (ss.map λp=>V.str p.1))=H7 at bf bi ai⊢;refine xf0 ss.isEmpty (λQ U=>?_) (λH8 s8=>?_)
  ·refine(jEAA _ rfl (by walk_at"s") (λD hD=>?_))
   have z:=zB hD (.lst []);refine(xa5 L8 D _ rfl rfl (zD (z _ _ bf)) (zD ups) (jEA _ rfl ?_));rw[List.isEmpty_map];exact U _ z
  have aj:=bi.trans s8
  cases br:ss.isEmpty with
  |true=>exact iteT (qn _ ((Fed.refl hf).same aj))
  | false=>
   refine iteF ?_;have e6:0<ss.length:=List.length_pos_iff.mpr λe=>by rw[e]at br;cases br
   refine di _ _ (xaf λR7 dh=>?_);have au:=s8 _ _ bf;refine(xbo _ rfl _ rfl _ rfl L8 _ rfl (.inl (zD au)) (xal f' p0 q0 _ rfl (aj _ _ hf) (by rw[zLM];omega) (by rw[zLM];omega) (λr9 H9 e0 cm f9=>?_)));rw[zLM]at cm;obtain⟨i9,rfl⟩:∃i:Nat,r9=(i:Int):=⟨r9.toNat,by omega⟩;have c5:i9<ss.length:=by omega
   have F9:Fed f' H' H9:=((Fed.refl hf).same aj).trans f9;refine(xal L8 _ _ _ rfl rfl (zD (f9.1 _ _ au co)) (xar (v:=.str ss[i9].1) (by rw[zGM,zGA c5];rfl)) ?_);refine dh _ _ (xaf λR8 dg=>?_);obtain⟨an,ae⟩:=bq _ (zZ c5);generalize ss[i9]=X at an ae⊢;obtain⟨p9,q9,h9⟩:=F9.2;have e9:=List.length_filter_le xfu ks2
   have ea:0<az.length:=by
    cases az with
    |nil=>cases cb
    |cons _ _=>simp
   have av:=f9.1 _ _ (s8 _ _ (ai _ _ (Y _ _ ao))) bm;have ca:=(as.same (Y.trans (ai.trans s8)) _).tups (xah (jEE p0 q0 (aj _ _ hf)) f9) _;have ce:=f9.1 _ _ (s8 _ _ (ai _ _ ax)) al;refine(xbo _ rfl _ rfl _ rfl L6 _ rfl (.inl (zD av)) (xal f' p9 q9 _ rfl h9 (by omega) (by omega) (λra HA dz dy fA=>?_)));obtain⟨ia,rfl⟩:∃i:Nat,ra=(i:Int):=⟨ra.toNat,by omega⟩;have c4:ia<az.length:=by omega
   obtain⟨dk,c9,ck⟩:=ca.get (zGA c4);rw[zGM]at c9;obtain⟨k,hk,rfl⟩:=zMS c9;have a8:=List.mem_filter.mp (zMG hk)
   have ba:k.rc=false:=by
    have:=a8.2;unfold xfu at this
    cases M:k.rc with
    |false=>rfl
    |true=>rw[M]at this;cases this
   have ci:=xah (jEE p9 q9 h9) fA;have FA:=F9.trans fA;have g1:atI az (ia:Int)=some az[ia]:=xar (zGA c4);obtain⟨ab,_,eu,dd,_,_,rfl,rfl,v2,_,rfl,e2,v3,_,rfl,⟨tc,ag,rfl,b4,b2⟩,rfl⟩:=ck.tups ci _;rw[eu]at g1;refine(xal L6 _ _ _ rfl rfl (zD (fA.1 _ _ av bm)) g1 ?_);refine(xai ab _ rfl (zC dd) rfl _ _ rfl _ (xa3 _ rfl _ _ rfl rfl (dg _ _ (xaf λR9 df=>?_))));have cr:=b2.length;rw[zLM]at cr;have d7:=Z.pts k a8.1;have e8:k.parts.length≠0:=λe=>Z.alt k a8.1 ba (List.length_eq_zero_iff.mp e);obtain⟨pA,qA,ch⟩:=FA.2;refine(xbw _ rfl _ rfl _ rfl _ rfl tc (jEAA _ rfl (.inr (zC b4)) (xal f' pA qA _ rfl ch (by omega) (by omega) (λrb HB dx dw fB=>?_))));obtain⟨ib,rfl⟩:∃i:Nat,rb=(i:Int):=⟨rb.toNat,by omega⟩;have c3:ib<ag.length:=by omega
   have ah:=xah (jEE pA qA ch) fB;have FB:=FA.trans fB;obtain⟨pB,qB,cg⟩:=FB.2;have g2:atI ag (ib:Int)=some ag[ib]:=xar (zGA c3);obtain⟨dp,c8,cj⟩:=(b2.tups ah _).get (zGA c3);rw[zGM]at c8;obtain⟨O,a7,rfl⟩:=zMS c8;obtain⟨pb,_,ep,d1,_,_,rfl,rfl,_,_,rfl,rfl,rfl⟩:=cj;rw[ep]at g2;refine(xal tc _ _ _ rfl rfl (zC (ah _ _ b4)) g2 (xal pb _ _ _ rfl rfl (zC d1) rfl ?_));refine(xci _ rfl f' pB qB rfl cg (λiN HC dr fC=>?_));have FC:=FB.trans fC;refine⟨(by walk_at"s"),λt1 cy=>⟨(by walk_at"s"),λt2 cx=>?_⟩⟩;have w1:=zB cy (.tup [.str (Str.ofString "num"),.int iN]);have w2:=zB cx (.tup [.str (Str.ofString "tag"),.str k.name,.str O.1,.ref t1]);have wD:=w1.trans w2;have rIn:RelD (upd (upd HC t1 (.tup [.str (Str.ofString "num"),.int iN])) t2 (.tup [.str (Str.ofString "tag"),.str k.name,.str O.1,.ref t1])) (.ref t2) (tTag k.name O.1 (tNum iN)):=(xac t2 _ rfl ups _ _ rfl rfl _ (xbh _ rfl rfl _ _ rfl rfl (xaq _ _ rfl (xac t1 _ rfl (w2 _ _ ups) _ _ rfl rfl _ (jEAA _ rfl rfl rfl)) rfl)));have FD:=FC.same wD;have bh:=xah (jEE pB qB cg) fC;have a4:=wD _ _ (bh _ _ (ah _ _ b4));have aq:=((b2.tups ah _).tups bh _).same wD _;have aw:=wD _ _ (fC.1 _ _ (fB.1 _ _ (fA.1 _ _ ce al) al) al);refine df _ _ (xaf λed cd=>?_);generalize upd (upd HC t1 (.tup [.str (Str.ofString "num"),.int iN])) t2 (.tup [.str (Str.ofString "tag"),.str k.name,.str O.1,.ref t1])=HD at rIn FD a4 aq aw⊢;have cn:wa≠f':=λe=>by rw[e,hf]at a2;cases a2
   have bp:=FD.1 _ _ a2 cn;have bo:=a3.tups (xah (jEE p0 q0 hf) FD);refine(xa3 _ rfl wa kvs rfl bp (λc M=>cd _ _ (xaf λec cc=>?_)));have yc:=zB M (.dK kvs);refine(xcx _ rfl _ rfl tc rfl ⟨_,zC (yc _ _ a4)⟩ ?_);refine xbb (xs:=ag) (λi zs HE=>Same (upd HD c (.dK kvs)) HE/\RelDs HE zs (((k.parts.take i).map λp=>(p.1,X.1,tBox X.1)).map dArm)) ⟨Same.refl _,rfl⟩ (xaz (by omega)) (λi zs HE _ p=>zC (p.1 _ _ (yc _ _ a4))) ?_ ?_
   ·rintro i y zs HE hy hi l ⟨sm,a0⟩
    obtain⟨d,r,rd⟩:=(aq.same (yc.trans sm) _).get hy;rw[zGM]at r;obtain⟨pt,d0,rfl⟩:=zMS r;obtain⟨b9,_,rfl,aa,_,_,rfl,rfl,_,_,rfl,rfl,rfl⟩:=rd;refine(xai b9 _ rfl (zC aa) rfl _ _ rfl _ (xdb _ rfl rfl (ext2 rfl rfl) (xgx ?_)));refine(xcx _ rfl _ rfl _ rfl (by walk_at"s") (λt3 cw=>⟨(by walk_at"s"),λt4 cv=>?_⟩));have x1:=zB cw (.tup [.str (Str.ofString "box"),.str X.1]);have x2:=zB cv (.tup [.str pt.1,.str X.1,.ref t3]);refine nxtG hi l ⟨sm.trans (x1.trans x2),?_⟩;rw[zTA,d0];show RelDs _ _ (((k.parts.take i++[pt]).map _).map _);rw[zAP,zAP];exact(a0.same (x1.trans x2) _).append (xaq _ ([]) rfl (xac t4 _ rfl ups _ _ rfl rfl _ (xbh _ rfl rfl _ _ rfl (xac t3 _ rfl (x2 _ _ ups) _ _ rfl rfl _ (jEAA _ rfl rfl rfl)) rfl)) rfl)
   rintro zs HE l ⟨sm,a0⟩ LD hD;rw[zTL (by omega)]at a0;have x1:=zB hD (.lst zs);refine(jEEA LD zs rfl (.inl ⟨zD ups,λl' d3=>⟨(by walk_at"s"),λt5 cu=>⟨(by walk_at"s"),λt6 ct=>?_⟩⟩⟩));have x2:=zB d3 (.tup zs);have x3:=zB cu (.tup [.str (Str.ofString "case"),.ref t2,.ref l']);have x4:=zB ct (.tup [.str (Str.ofString "num"),.ref t5]);have ay:=x2.trans (x3.trans x4);have sF:=(yc.trans sm).trans (x1.trans ay)
   have rW:RelD (upd (upd (upd (upd HE LD (.lst zs)) l' (.tup zs)) t5 (.tup [.str (Str.ofString "case"),.ref t2,.ref l'])) t6 (.tup [.str (Str.ofString "num"),.ref t5])) (.ref t6) (wyD (u.name,S "num",xgj (tTag k.name O.1 (tNum iN)) (k.parts.map λp=>(p.1,X.1,tBox X.1)))):=
    (xac t6 _ rfl ups _ _ rfl rfl _ (jEAA _ rfl (xac t5 _ rfl (x4 _ _ ups) _ _ rfl rfl _ (xbh _ rfl (rIn.same sF _) _ _ rfl (xaq l' zs rfl ((x3.trans x4) _ _ ups) (a0.same (x1.trans ay) _)) rfl)) rfl))
   have bd:=(sm.trans (x1.trans ay)) _ _ (show upd HD c (.dK kvs) c=some (.dK kvs) from ups);generalize upd (upd (upd (upd HE LD (.lst zs)) l' (.tup zs)) t5 (.tup [.str (Str.ofString "case"),.ref t2,.ref l'])) t6 (.tup [.str (Str.ofString "num"),.ref t5])=HF at sF rW bd⊢;have du:=a3.len;refine(xbg _ rfl _ rfl _ rfl L5 _ (xaw _ _ rfl rfl (zD (sF _ _ aw)) (jAE (xf5 _ _) c (jEAA _ rfl (DPut.k (k:=Sum.inr u.name) bd (xaz (by omega))) ?_))));have bg:=xei bd (.dK (putK kvs (Sum.inr u.name) (.ref t6)));have bj:c≠f':=Ne.symm (neN (FD.2.choose_spec.choose_spec) M);have c2:=xcw wf.nd C;obtain⟨y0,cq⟩:=Option.isSome_iff_exists.mp a9
   have bw:∀p∈k.parts,p.2=S "num":=λp hp=>by
    have h1:=a8.2;unfold xfu at h1;rw[ba,Bool.not_false,Bool.true_and,List.isEmpty_iff]at h1;have h2:=List.filter_eq_nil_iff.mp h1 p hp;have h3:p.2=Str.ofString "num":=by simpa using h2
    exact h3
   have de:X.1.length<=100:=xdf (wf.pnm u C X an);have b3:=xyq (env:=envB (xbv ys u.parts)) Z a8.1 ba bw (zMG a7) dr de
   have bt:nk (S "num") (if envB (xbv ys u.parts) X.1=none then Except.ok (S "num") else .error 1)=(if gn=true then none else some 1):=by
    cases hg:xam ys X.2 with
    |none=>
     rw[hg]at ae;obtain rfl:gn=true:=by simpa using ae
     rw[if_pos (xf3 (xno (wf.pnd u C) an hg))];exact nk_ok
    |some g=>
     rw[hg]at ae;obtain rfl:gn=false:=by simpa using ae
     have da:(X.1,g)∈xbv ys u.parts:=List.mem_filterMap.mpr (jEA X an (by rw[hg];rfl));rw[if_neg (by rw[xr6 (xed (wf.pnd u C)) da];exact λz=>nomatch z)];rfl
   have b6:=xrf (g:=S "num") (d:=xgj (tTag k.name O.1 (tNum iN)) (k.parts.map λp=>(p.1,X.1,tBox X.1))) (o:=if gn=true then none else some 1) wf Z rt cq c2 (λy hy ky d4 p hp=>(xfo (bb y hy ky d4 p hp)).symm) (.inr ⟨if_pos rfl,.inr ⟨.inl ⟨(jEE _ _ rfl),by rw[if_pos ar]⟩,.inl (jAEA ar _ b3 bt.symm)⟩⟩);have db:=xy2 (x:=u.name) (g:=S "num") (d:=xgj (tTag k.name O.1 (tNum iN)) (k.parts.map λp=>(p.1,X.1,tBox X.1))) (xf1 wf Z rt) (xdf (wf.nm u C)) xe7;refine cc _ _ (jEA _ rfl (qs c _ (exW ys u.name (S "num") _) _ ?_ ups (xm3 (rW.tups bg _) ((bo.tups λb us e=>sF _ _ e).tups bg) a9) b6 db xqe));refine Fed.put (FD.same sF) ?_ bj _
   cases h:H' c with
   |none=>rfl
   |some o=>
    have:=FD.1 _ _ h bj;rw[M]at this;cases this
theorem xsg{xs:List V}{a hi:Option Int}(h:HT.sIx xs.length 0 a=0/\HT.sIx xs.length xs.length hi=xs.length):cutV xs a hi=xs:=by
 unfold cutV;rw[h.1,h.2];simp
theorem slW{K:Fg}{H:Hp}{a:Addr}{xs:List V}{c hi:Option Int}{Q:VK}(e:H a=some (.tup xs))(q:∀p b,Same H b->b p=some (.tup (cutV xs c hi))->Q (.ref p) b):xvv K (.ref a) c hi H Q:=by
 refine(xaw a xs rfl (zC e) (λh=>q a H (Same.refl _) (by rw[xsg h];exact e)) (λ_ p f=>q p _ (zB f _) ups))
theorem catW{K:Fg}{H:Hp}{a b:Addr}{xs zs:List V}{Q:VK}(g:H a=some (.tup xs))(f:H b=some (.tup zs))(i:xs.length+zs.length<=sizeLine)(q:∀p c,Same H c->c p=some (.tup (xs++zs))->Q (.ref p) c):xqc K (.ref a) (.ref b) H Q:=by
 refine(xbq a b xs zs rfl rfl (zC g) (zC f) i (λe=>q b H (Same.refl _) (by rw[e];exact f)) ⟨λ_ e=>q a H (Same.refl _) (by rw[e,List.append_nil];exact g),λ_ _ p h=>q p _ (zB h _) ups⟩)
theorem repW{K:Fg}{H:Hp}{a:Addr}{xs:List V}{k:Int}{Q:VK}(f:H a=some (.tup xs))(b:xs≠[])(j:1<=k)(i:k<2 ^ 62)(h:xs.length*k.toNat<=sizeLine)(q:∀p c,Same H c->c p=some (.tup (List.replicate k.toNat xs).flatten)->Q (.ref p) c):xvw K (.ref a) (.int k) H Q:=by
 refine(xax a k xs rfl rfl f b j (jAAA i h (λe=>q a H (Same.refl _) (by rw[e];show H a=some (.tup (List.replicate 1 xs).flatten);simpa using f)) (λ_ p g=>q p _ (zB g _) ups)))
theorem xp2(n d:Nat):HT.sIx n d (some (-1))=n-1:=by
 unfold HT.sIx;simp;omega
theorem xp1(n d:Nat):HT.sIx n d (some 1)=min 1 n:=by
 unfold HT.sIx;simp
theorem xs1(n d:Nat):HT.sIx n d (some 4)=min 4 n:=by
 unfold HT.sIx;simp
theorem xzd(xs:List V):cutV xs (some 1) none=xs.drop 1:=by
 unfold cutV;rw[HT.sIx_none,xp1]
 cases xs with
 |nil=>rfl
 |cons a r=>simp
theorem xzc(xs:List V):cutV xs none (some 1)=xs.take 1:=by
 unfold cutV;rw[HT.sIx_none,xp1]
 cases xs with
 |nil=>rfl
 |cons a r=>simp
theorem xzb(xs:List V):cutV xs none (some 4)=xs.take 4:=by
 unfold cutV;rw[HT.sIx_none,xs1,List.drop_zero,Nat.sub_zero,<- List.take_eq_take_min]
theorem xt6(xs:List V):cutV xs none (some (-1))=xs.take (xs.length-1):=by
 unfold cutV;rw[HT.sIx_none,xp2];simp
theorem xt5(xs:List V):cutV xs (some (-1)) none=xs.drop (xs.length-1):=by
 unfold cutV;rw[HT.sIx_none,xp2,zTL (by rw[List.length_drop];omega)]
theorem xha{H:Hp}{vs:List V}{ds:List D}(h:RelDs H vs ds)(i:Nat):RelDs H (vs.take i) (ds.take i):=by
 induction ds generalizing vs i with
 |nil=>
  obtain rfl:vs=[]:=h;simp only[List.take_nil];exact rfl
 |cons d ds a=>
  obtain⟨v,r,rfl,c,b⟩:=h
  cases i with
  |zero=>exact rfl
  |succ i=>exact(xaq v _ rfl c (a b i))
theorem xkd{H:Hp}{vs:List V}{ds:List D}(h:RelDs H vs ds)(i:Nat):RelDs H (vs.drop i) (ds.drop i):=by
 induction ds generalizing vs i with
 |nil=>
  obtain rfl:vs=[]:=h;simp only[List.drop_nil];exact rfl
 |cons d ds b=>
  obtain⟨v,r,rfl,c,a⟩:=h
  cases i with
  |zero=>exact(xaq v r rfl c a)
  |succ i=>exact b a i
theorem xx3{α:Type}:∀{l:List α},l.Nodup->l.drop 1++l.take 1=l->l.length<=1
 |[],_,_=>zY _
 |[_],_,_=>zG _
 |a::b::r,nd,h=>by
  have:b=a:=(List.cons.inj h).1;rw[List.nodup_cons]at nd;exact absurd (by rw[this];simp) nd.1
theorem xp6{α:Type}:∀{l:List α},l.length<=1->l.drop 1++l.take 1=l
 |[],_=>rfl
 |[_],_=>rfl
 |_::_::_,h=>by simp at h
theorem xou{x:Str}(h:Name x):x≠S "it":=λe=>by
 rw[e]at h;exact absurd (show xov (S "it").cps.toList=true from h) (by walk_at"k")
theorem xjk{ks:List Kn}(h:∀k∈ks,NoAb k.name):kAt ks (S "ababab")=none:=by
 unfold kAt;rw[List.find?_eq_none];intro k a;have:¬k.name=S "ababab":=h k a;simpa using this
theorem xod{ks:List Kn}(h:∀k∈ks,NoAb k.name):xc7 ks (S "ababab")=some 2:=by
 unfold xc7;rw[if_neg (by walk_at"k"),xjk h]
theorem xl2{k:Kn}(hr:k.rc=false)(hne:k.parts≠[]){es es':List (Str×D)}(hl:es'.length<=100)(h:es'.map (·.1)≠k.parts.map (·.1)):xgq k (.tup (es'.map dPr)) (some 5):=.inr (jEAA es' rfl hl (by rw[if_neg (by rw[hr];decide),if_neg h]))
theorem xp8{H:Hp}{v:V}{e:Str×D}(h:RelD H v (dPr e)):∀m:Nat,RelDs H (List.replicate m [v]).flatten ((List.replicate m e).map dPr)
 |0=>rfl
 |m+1=>(xaq v _ rfl h (xp8 h m))
theorem xjw{k:Kn}{es:List (Str×D)}{t:D}{n:Nat}(h:t.deep<=n):(allD k es t).deep<=n+2:=by
 unfold allD;split
 ·omega
 ·have:xdd ((es.map λe=>(e.1,t)).map dPr)<=n+1:=xd0 λd b=>by
   obtain⟨e,a,rfl⟩:=zMP b;obtain⟨c,_,rfl⟩:=zMP a;show max 0 (max t.deep 0)+1<=n+1;omega
  show xdd _+1<=n+2;omega
theorem xtt{ks2:List Kn}{ys:List Wy}{k:Kn}{g:Str}{d:D}(h:HowOk ks2 ys k g d)(e:k.parts.length<=5):∃es:List (Str×D),(k.rc=false->d=.tup (es.map dPr)/\es.length<=100)/\(k.rc=false->es.map (·.1)=k.parts.map (·.1)):=by
 rcases h with⟨a,_⟩ |⟨a,es,c,b,_⟩
 ·exact(jEA ([]) (λz=>(by rw[a]at z;cases z)) (λz=>(by rw[a]at z;cases z)))
 ·refine(jEA es (λ_=>⟨c,?_⟩) (λ_=>b))
  have:=congrArg List.length b;rw[zLM,zLM]at this;omega
theorem xv5{ys:List Wy}{p:Str×Str}:∀b∈xbv ys [(S "it",p.2)],b.1≠S "ababab":=λb e=>by
 obtain⟨f,a,c,_⟩:=xff e;rw[zMO a]at c;rw[<- c];show S "it"≠S "ababab";decide +kernel
theorem xv4{ys:List Wy}{ks:List Kn}{k:Kn}(wf:KWf ks)(e:k∈ks):∀b∈xbv ys k.parts,b.1≠S "it":=λb f=>by
 obtain⟨c,a,g,_⟩:=xff f;rw[<- g];exact xou (wf.pnm k e c a)
def xne:Sp:=λvs H Q _=>∃(f fa sa wa:Addr) (kv1 kv2:V) (r1 r2:List V) (p q:Int) (ks ks2:List Kn) (kvs:List (Key×V)) (ys:List Wy) (x:Str) (y0:Wy),vs=[.ref f,.ref fa,.ref sa,.ref wa,.str x]/\H f=some (.lst [.int p,.int q])/\H fa=some (.tup (kv1::r1))/\H sa=some (.tup (kv2::r2))/\RelD H kv1 (xbx ks)/\KWf ks/\RelD H kv2 (xbx ks2)/\KWf ks2/\(∀k∈ks,NoAb k.name)/\(∀k∈ks2,NoAb k.name)/\H wa=some (.dK kvs)/\WAll H kvs ys/\ys.length<=20/\(ys.map (·.1)).Nodup/\(∀y∈ys,xd1 ks ks2 ys y)/\wyAt ys x=some y0 ∧
 ∀(r a:Addr) (kvs':List (Key×V)) (ys':List Wy) (c:Nat) (H':Hp),Fed f H H'->H' r=some (.tup [.ref a,.str (xgz (some c))])->H' a=some (.dK kvs')->WAll H' kvs' ys'->(ys'.map (·.1)).Nodup->ys'.length<=21->xm0 ks ks2 ys' (some c)->1<=c->c<=5->GL ys'->(∀y∈ys',(wyD y).deep<=190)->Q (.ref r) H'
theorem xom(T:Tx K mg)(l:DefIs P w K mg base n "_law_take" qad xc2)(a0:DefIs P w K mg base n "_law_number" qaj xh9)(O:DefIs P w K mg base n "_law_sort_of" qab xeo)(an:DefIs P w K mg base n "goes_to" qah xg7)(u:DefIs P w K mg base n "_law_all" qa2 xxv)(F:DefIs P w K mg base n "_law_wrong_term" qbf xpm):DefIs P w K mg base (n+1) "_law_spoilt" qbg xne:=by
 refine DefIs.of T.kW scl_spoilt (by walk_at"l") (λf i1 A outer s H vs Q E hr h=>?_);obtain⟨f',fa,sa,wa,hj,ej,r1,r2,p0,q0,ks,ks2,kvs,ys,x,J,rfl,hf,cc,f7,df,wf,fn,a1,dz,dy,a9,as,hk,bj,right,ar,q⟩:=h;have nd:=scl_spoilt.nd;have hu:=xcs hr;have ew:=xuz hr;obtain⟨gu,ay⟩:=xgy ar;obtain⟨k,b2,fv,d4⟩:=right J ay;rw[gu]at b2;have db:=xhm b2;have ae:=zMF b2;have fl:=wf.pts k ae;have el:x.length<=100:=by rw[<- db];exact xdf (wf.nm k ae)
 have ca:=xf1 wf a1 right;have af:J.2.1.length<=100:=(ca J ay).2;have gb:(wyD J).deep<=100:=xfa wf (right J ay);obtain⟨ka,ek,rfl,dd,dc⟩:=id df;have fj:=dc.length;rw[zLM]at fj;have gy:=wf.few
 refine⟨_,(zpn (xdi (pd O hr (zpc (px K (pv 1) pI) (v1 4) zss)) (xa2 (K:=K) rfl rfl (xab (pgn 5 nd) (xab (pgn 6 nd) xa1))))
   (zpn (xdi (xds hu (pv 3) (pv 4) (λ_ _=>rfl)) (xa2 (K:=K) rfl rfl (xab (pgn 7 nd) (xab (pgn 8 nd) xa1))))
   (zpn (psn 9 nd (xau xeb rfl T.k4 PyProof.Rows.boot_dict (v1 3)))
   (zpn (psn 10 nd (pd l hr (va 0 (zpc pI pN zso))))
   (zpn (xa0 (PW.pt (xcg (pR (xy4 (K:=K) rfl) (pv 10) (xak (zpc pI (zpc pI (zpc pI pN zso) zso) zso)) (by with_unfolding_all rfl)) (xby (pR xft (pv 4) (pxl K (xb7 ["_law_row","_law_ways"] [none,some 3] rfl (by kernel_rfl) (xap (K:=K) rfl (px K (pv 1) pI)) (λ_ _ _ _=>(pgc 0)) (λ_ _ _ _=>(xcq (xfp (xkg hu (px K (pv 0) pI) (pv 1))))) (λ_ _ _ _=>(px K (pv 0) pI))) (xl7 xg1 pI)) (nM _))))) (zpo (psn 10 nd pI)) pQ)
   (zpn (xa0 (pR xa9 (pv 10) pI (nM _)) (zpn (xc9 hu (pv 9) pS (xak (zpc pS (zpc (xak (zpc pS (zpc pI pN zso) zso)) pN sT) zso)) rfl)
   (zpo (xaj (xak (va 9 (zpc pS pN zso)))))) pQ)
   (zpn (xa0 (pR xa9 (pv 10) pI (nM _)) (zpn (xc9 hu (pv 9) (pv 4) (xak (zpc pS (v1 8) zso)) rfl)
   (zpo (xaj (xak (va 9 (zpc pS pN zso)))))) pQ)
   (zpn (xa0 (PW.pt (xcg (pR xa9 (pv 10) pI (nM _)) (xby (pR xa9 (pv 5) pS (nM _))))) (zpn (psn 11 nd (pxl K (xbs (zpc (xat (xnz (K:=K) rfl) (xcn (xhq (K:=K) rfl) (pv 8) (xcy pI) xdp) (xcn (xhq (K:=K) rfl) (pv 8) xdp (xcy pI))) (zpc (xcn (xhq (K:=K) rfl) (pv 8) xdp (xcy (xl7 xg1 pI))) (zpc (xat (xnz (K:=K) rfl) (pv 8) (xcn (xhq (K:=K) rfl) (pv 8) (xcy (xl7 xg1 pI)) xdp)) pN xa8) zss) xa8)) (pd l hr (va 0 (zpc pI pN zso)))))
   (zpn (xa0 (pR (xwa ew) (pv 11) (pv 8) (nM _)) (zpo (psn 11 nd (xak pN))) pQ)
   (zpn (xc9 hu (pv 9) (pv 4) (xak (va 7 (v1 11))) rfl)
   (zpo (xaj (xak (va 9 (zpc pS pN zso)))))))) pQ)
   (zpn (xa0 (pR xa9 (pv 10) pI (nM _)) (zpn (xc9 hu (pv 9) (pv 4) (xak (va 7 (zpc (pxl K (xbs (zpc (xak (zpc pS (zpc pI pN zso) zso)) (zpc (xcn (xhq (K:=K) rfl) (xat (xwy (K:=K) rfl) (xak (zpc (xak (zpc pS (zpc (xak (zpc pS (zpc pI pN zso) zso)) pN sT) zso)) pN sT)) (xat xb2 pI (xan (xad (K:=K) rfl) rfl T.k8 PySem.boot_len (v1 6)))) xdp (xcy pI)) pN zss) sT)) (xau xdw rfl T.k6 PyProof.Rows.boot_int (zpc (xdt xa9 (pv 5) pS (nM _)) pN xfm))) pN zss))) rfl)
   (zpo (xaj (xak (va 9 (zpc pS pN zso)))))) pQ)
   (zpn (xa0 (pR xa9 (pv 10) pI (nM _)) (zpn (psn 12 nd (pxl K (xbs (zpc pS (zpc pS pN zso) zso)) (xau xdw rfl T.k6 PyProof.Rows.boot_int (zpc (xdt xa9 (pv 5) pS (nM _)) pN xfm))))
   (zpn (xc9 hu (pv 9) (pv 4) (xak (va 7 (zpc (pd u hr (va 5 (va 8 (zpc (xak (zpc pS (v1 12) zso)) pN sT)))) pN zsc))) rfl)
   (zpo (xaj (xak (va 9 (zpc pS pN zso))))))) pQ)
   (zpn (xa0 (PW.pt (xcg (pR xa9 (pv 10) pI (nM _)) (xby (pR xee (xan (xad (K:=K) rfl) rfl T.k8 PySem.boot_len (zpc (px K (pv 2) pI) pN zss)) pI (nM _))))) (zpn (psn 7 nd (px K (px K (px K (pv 2) pI) (pd l hr (va 0 (zpc (xan (xad (K:=K) rfl) rfl T.k8 PySem.boot_len (zpc (px K (pv 2) pI) pN zss)) pN zsc)))) pI))
   (zpn (xc9 hu (pv 9) (pv 4) (xak (va 7 (zpc (pd u hr (va 5 (va 8 (zpc (xak (zpc pS (zpc (pd a0 hr (v1 0)) pN zsc) zso)) pN sT)))) pN zsc))) rfl)
   (zpo (xaj (xak (va 9 (zpc pS pN zso))))))) pQ)
   (zpn (xbl (i:=13) ["_law_f","_law_part","_law_ways"] [none,none,some 3] rfl (by kernel_rfl) nd rfl (by walk_at"o") (xap (K:=K) rfl (pv 6)) (λ_ _ _ _=>(xa2 (K:=K) (n:=2) rfl rfl (xab (pgc 0) (xab (pgc 1) xa1)))) (λ_ _ _ _=>(xcq (pR xhe (pd an hr (va 2 (v1 1))) xc5 (nM _)))) (λ_ _ _ _=>(pv 0)))
   (zpn (xa0 (PW.pt (xcg (pR xa9 (pv 10) pI (nM _)) (xcg (pR xa9 (pv 5) pS (nM _)) (xby (pR xee (xan (xad (K:=K) rfl) rfl T.k8 PySem.boot_len (v1 13)) pI (nM _)))))) (zpn (xc9 hu (pv 9) (pv 4) (xak (va 7 (zpc (xak (zpc pS (zpc (pxl K (pv 13) (pd l hr (va 0 (zpc (xan (xad (K:=K) rfl) rfl T.k8 PySem.boot_len (v1 13)) pN zsc)))) pN zss) zso)) pN sT))) rfl)
   (zpo (xaj (xak (va 9 (zpc pS pN zso)))))) pQ)
   (zpn (xdi (pd F hr (va 0 (va 2 (va 7 (v1 10))))) (xa2 (K:=K) rfl rfl (xab (pgn 7 nd) (xab (pgn 14 nd) (xab (pgn 15 nd) xa1)))))
   (zpn (xc9 hu (pv 9) (pv 4) (xak (va 7 (zpc (pd u hr (va 5 (va 8 (v1 14)))) pN zsc))) rfl)
   (zpo (xaj (xak (va 9 (v1 15)))))))))))))))))))),xaf λR1 gr=>?_⟩
 refine(xaa _ rfl fa _ _ _ rfl rfl (zC cc) (xar (j:=0) rfl) (xci _ rfl (.ref ka) ks x rfl ((wf.ksAt df).seq) (λt h9 H1 s1 ht rp=>?_)));rw[b2]at rp ht;obtain⟨pa,bb,rfl,fe,d2⟩:=rp;have fd:=d2.length;rw[zLM]at fd;refine(xai t _ rfl (zC ht) rfl _ _ rfl _ (jEAA _ rfl rfl (gr _ _ (xaf λR2 gq=>?_))));obtain⟨v,ev,et⟩:=(as.val (x:=x)).2 _ ar;obtain⟨b,_,rfl,hb,v0,_,rfl,eg,hv,_,rfl,hh,rfl⟩:=et;obtain rfl:v0=.str J.2.1:=eg
 have gd:DGet H1 wa (.str x) (some (.ref b)):=by
  have:=DGet.rd (k:=Sum.inr x) (.inl (s1 _ _ a9));rw[ev]at this;exact this
 refine(xb4 _ rfl _ rfl wa _ rfl gd b (xdb _ rfl (zC (s1 _ _ hb)) rfl (jEEA _ _ rfl (xaq _ _ rfl rfl (gq _ _ (xaf λR3 gp=>?_))))));refine(xa3 _ rfl wa kvs rfl (s1 _ _ a9) (λZ ce=>gp _ _ (xaf λR4 go=>?_)));have yS:=zB ce (.dK kvs);have s2:=s1.trans yS;have bt:=xck s1 ce;have a7:Z≠f':=Ne.symm (neN (s1 _ _ hf) ce);have br:upd H1 Z (.dK kvs) Z=some (.dK kvs):=ups;generalize upd H1 Z (.dK kvs)=H2 at s2 yS br⊢;refine(xaa _ rfl f' p0 q0 _ rfl (s2 _ _ hf) (by decide) (by decide) (λC H3 e9 gt f3=>go _ _ (xaf λR5 gn=>?_)));have F3:Fed f' H H3:=((Fed.refl hf).same s2).trans f3;have ba:=xah (jEE p0 q0 hf) F3;have bh:=xah (jEE p0 q0 (s2 _ _ hf)) f3;have dt:=f3.1 _ _ br a7;have d3:=bh _ _ (yS _ _ fe);have d1:=(d2.same yS _).tups bh _
 have fin:∀(H5:Hp) (t5:Addr) (g5:Str) (dv:V) (d5:D) (c:Nat),Fed f' H H5->H5 Z=some (.dK kvs)->H5 t5=some (.tup [.str g5,dv])->RelD H5 dv d5->d5.deep<=150->g5.length<=100->(∀y∈ys,∀ky,kAt ks y.1=some ky->∀p∈ky.parts,xam ys p.2=xam (exW ys x g5 d5) p.2)->ExR ks2 ys k g5 d5 (some c)->1<=c->c<=5->∀r,upd H5 Z (.dK (putK kvs (Sum.inr x) (.ref t5))) r=none->Q (.ref r) (upd (upd H5 Z (.dK (putK kvs (Sum.inr x) (.ref t5)))) r (.tup [.ref Z,.str (xgz (some c))])):=by
  intro H5 t5 g5 dv d5 c F5 ge f0 ga g7 fu free fy c1 c5 r m;have aw:=xei ge (.dK (putK kvs (Sum.inr x) (.ref t5)));have yr:=zB m (.tup [.ref Z,.str (xgz (some c))]);have FP:Fed f' H (upd H5 Z (.dK (putK kvs (Sum.inr x) (.ref t5)))):=Fed.put F5 bt a7 _;have eq:=as.tups (xah (jEE p0 q0 hf) F5);have rW:RelD H5 (.ref t5) (wyD (x,g5,d5)):=(xac t5 _ rfl f0 _ _ rfl rfl _ (jEAA _ rfl ga rfl));have en:(wyAt ys x).isSome=true:=by rw[ar];rfl
  refine q r Z _ (exW ys x g5 d5) c _ (FP.same yr) ups (yr _ _ ups) ((xm3 (rW.tups aw _) (eq.tups aw) en).tups λb us e=>yr _ _ e) (by rw[xqe];exact bj) (by unfold exW;rw[zLM];omega) (xrf wf a1 right ar b2 free fy) c1 c5 (xy2 ca el fu) (λy G=>?_);rcases xf8 G with rfl |⟨G,_⟩
  ·show max 0 (max d5.deep 0)+1<=190
   omega
  ·have:=xfa wf (right y G)
   omega
 have ds:J.2.2.deep<=100:=by
  have:max 0 (max J.2.2.deep 0)+1<=100:=gb;omega
 have gx:kvs.length<=20:=by have:=as.len;omega
 have U:∀d5,∀y∈ys,∀ky,kAt ks y.1=some ky->∀p∈ky.parts,xam ys p.2=xam (exW ys x J.2.1 d5) p.2:=λd5 y _ ky _ p _=>(xi8 ar rfl p.2).symm;have aa:=xiv a1 fv;have aq:k.rc=false->k.parts≠[]:=wf.alt k ae
 have ct:∀(C:Int) (H4:Hp),Same H3 H4->0<=C->C<9->((C=1\/C=4\/C=6)->∀y∈ys,∀ky,kAt ks y.1=some ky->∀p∈ky.parts,p.2≠x)->R5 [some (.ref f'),some (.ref fa),some (.ref sa),some (.ref wa),some (.str x),some (.str k.sort),some (.ref pa),some (.str J.2.1),some hv,some (.ref Z),some (.int C),none,none,none,none,none] H4:=by
  intro C H4 s4 e9 hx am;have F4:=F3.same s4;have ax:=xah (jEE p0 q0 hf) F4;have M:=s4 _ _ dt;have al:RelD H4 hv J.2.2:=RelD.tups ax _ hh;have b1:=s4 _ _ d3;have d0:=d1.same s4 _;have gz:=ax _ _ cc;have ao:=ax _ _ f7;have bq:RelD H4 ej (xbx ks2):=RelD.tups ax _ fn;obtain⟨p4,aj,a5⟩:=F4.2;refine gn _ _ (xaf λR6 gm=>?_);refine(xao _ rfl rfl _ rfl ?_);by_cases h0:C=0
  ·refine iteKT (zDT (by rw[h0])) ?_
   refine⟨(by walk_at"s"),λt1 c3=>⟨(by walk_at"s"),λt2 I=>?_⟩⟩;have z1:=zB c3 (.tup [.str (S "num"),.int 0]);have z2:=zB I (.tup [.str (S "num"),.ref t1]);have z:=z1.trans z2
   have d6:wyAt ys (S "ababab")=none:=by
    unfold wyAt;rw[List.find?_eq_none];intro y G e;obtain⟨ky,ac,_⟩:=right y G;rw[of_decide_eq_true e,xjk dz]at ac;cases ac
   refine(xa3 _ rfl Z _ rfl (DPut.k (k:=Sum.inr (S "ababab")) (z _ _ M) (xaz (by omega))) ?_);refine(jEAA _ rfl (by walk_at"s") (λr m=>?_));have aw:=xei (z _ _ M) (.dK (putK kvs (Sum.inr (S "ababab")) (.ref t2)));have yr:=zB m (.tup [.ref Z,.str (S "no name")]);have rW:RelD (upd (upd H4 t1 (.tup [.str (S "num"),.int 0])) t2 (.tup [.str (S "num"),.ref t1])) (.ref t2) (wyD (S "ababab",S "num",tNum 0)):=(xac t2 _ rfl ups _ _ rfl rfl _ (jEAA _ rfl (xac t1 _ rfl (z2 _ _ ups) _ _ rfl rfl _ (jEAA _ rfl rfl rfl)) rfl));refine q r Z _ (ys++[(S "ababab",S "num",tNum 0)]) 2 _ ((Fed.put (F4.same z) bt a7 _).same yr) ups (yr _ _ ups) ((xm2 (rW.tups aw _) ((as.tups (xah (jEE p0 q0 hf) (F4.same z))).tups aw) d6).tups λb us e=>yr _ _ e) ?_ (by rw[zLA];show _+1<=_;omega) (xtk (xjk dz)) (by decide) (by decide) (λy G=>?_) (λy G=>?_)
   ·rw[zAP,List.nodup_append]
    refine(jAA bj (by simp) (λa ha b hb=>?_));obtain⟨y,G,rfl⟩:=zMP ha;have gi:b=S "ababab":=by simpa using hb
    rw[gi];exact xen d6 y G
   ·rcases zMA G with G |G
    ·exact ca y G
    ·rw[zMO G]
     exact⟨by walk_at"k",xe7⟩
   ·rcases zMA G with G |G
    ·have:=xfa wf (right y G)
     omega
    ·rw[zMO G]
     show(wyD (S "ababab",S "num",tNum 0)).deep<=190;exact zF (show(wyD (S "ababab",S "num",tNum 0)).deep<=2 from zG _) (by decide)
  refine iteKF (zDF λz=>h0 (V.int.inj z)) (gm _ _ (xaf λR7 gl=>?_));refine(xao _ rfl rfl _ rfl ?_);by_cases h1:C=1
  ·refine iteKT (zDT (by rw[h1])) ?_
   refine(jEAA _ rfl (by walk_at"s") (λt2 I=>?_));have z:=zB I (.tup [.str (S "ababab"),hv]);refine(xbf _ rfl _ rfl Z _ rfl (DPut.k (k:=Sum.inr x) (z _ _ M) (xaz (by omega))) ?_);refine(jEAA _ rfl (by walk_at"s") (λr m=>?_));exact fin _ t2 (S "ababab") hv J.2.2 2 (F4.same z) (z _ _ M) ups (al.same z _) (by omega) (by walk_at"k") (λy G ky ac p hp=>(xfo (am (.inl h1) y G ky ac p hp)).symm) (.inl ⟨xod dy,rfl⟩) (by decide) (by decide) r m
  refine iteKF (zDF λz=>h1 (V.int.inj z)) (gl _ _ (xaf λR8 gk=>?_));refine xjm (decide (C=2) && !k.rc) (λQ hQ=>?_) ?_
  ·refine(xao _ rfl rfl _ rfl ?_)
   by_cases h2:C=2
   ·rw[zDT h2,Bool.true_and]at hQ
    refine iteKT (zDT (by rw[h2])) ?_;refine(xao _ rfl rfl _ rfl ?_);rw[xg8];exact hQ
   ·rw[zDF h2,Bool.false_and]at hQ
    exact iteKF (zDF λz=>h2 (V.int.inj z)) hQ
  cases gf:(decide (C=2) && !k.rc) with
  | true=>
   refine iteT (xaf λR9 ck=>?_);obtain⟨h2,au⟩:C=2/\k.rc=false:=by simpa using gf
   rcases d4 with⟨z,_⟩ |⟨_,es,ed,cd,_⟩
   ·rw[au]at z;cases z
   rw[ed]at al ds
   have hs:es.length=k.parts.length:=by
    have:=congrArg List.length cd
    rwa[zLM,zLM]at this
   have g8:xdd (es.map dPr)<=99:=by
    have:xdd (es.map dPr)+1<=100:=ds;omega
   have hq:=al;obtain⟨ha,us,rfl,av,cw⟩:=al;have c0:=cw.length;rw[zLM]at c0;refine(jEA _ rfl (jEA 1 rfl ?_));dsimp only[xiy];refine slW av λq1 G1 g1 e1=>?_;refine(jEA _ rfl (jEA 1 rfl (slW (g1 _ _ av) λq2 G2 g2 e2=>?_)));rw[xzd]at e1;rw[xzc]at e2;refine catW (g2 _ _ e1) e2 (by rw[List.length_drop,List.length_take];exact fits (by omega)) λq3 G3 g3 e3=>?_;have cp:=g1.trans (g2.trans g3);refine(jEA _ rfl (jEA 1 rfl (jEA _ rfl (slW (cp _ _ av) λq4 G4 g4 e4=>?_))));rw[show(-1:Int)=-1 from rfl,xt6]at e4;have bz:=cp.trans g4;refine(jEA _ rfl (jEA _ rfl (jEA 1 rfl (jEA _ rfl ?_))));dsimp only[xiy];refine slW (bz _ _ av) λq5 G5 g5 e5=>?_;rw[xt5]at e5;refine catW ((bz.trans g5) _ _ av) e5 (by rw[List.length_drop];exact fits (by omega)) λq6 G6 g6 e6=>?_;have co:=bz.trans (g5.trans g6);refine⟨(by walk_at"s"),λl7 bd=>?_⟩;have z7:=zB bd (.lst [.ref q3,.ref q4,.ref q6]);have ai:=co.trans z7;have n7:l7≠f':=Ne.symm (neN (co _ _ a5) bd);have bo:upd G6 l7 (.lst [.ref q3,.ref q4,.ref q6]) l7=some (.lst [.ref q3,.ref q4,.ref q6]):=ups;have ec:=((g4.trans (g5.trans g6)).trans z7) _ _ e3;have eb:=((g5.trans g6).trans z7) _ _ e4;have ea:=z7 _ _ e6;generalize upd G6 l7 (.lst [.ref q3,.ref q4,.ref q6])=G7 at ai bo ec eb ea⊢;refine(xaa _ rfl f' p4 aj _ rfl (ai _ _ a5) (by decide) (by decide) (λri G8 cr h5 f8=>?_));have F8:Fed f' H G8:=(F4.same ai).trans f8;have ah:=xah (jEE p4 aj (ai _ _ a5)) f8;have cv:=cw.same ai _;have a3:=cv.tups ah _
   have ag:=f8.1 _ _ (ai _ _ M) a7;have b0:=aq au;have hm:0<k.parts.length:=List.length_pos_iff.mpr b0;have ff:=wf.pnd k ae
   obtain⟨w,bv,es',b7,bc,bl,dn,dg,g0⟩:∃(w:Addr) (bv:List V) (es':List (Str×D)),atI [V.ref q3,V.ref q4,V.ref q6] ri=some (.ref w)/\G8 w=some (.tup bv)/\RelDs G8 bv (es'.map dPr)/\es'.length<=100/\(es'.map (·.1)=k.parts.map (·.1)->es'=es)/\∀e∈es',e∈es:=by
    have f9:ri=0\/ri=1\/ri=2:=by omega
    rcases f9 with rfl |rfl |rfl
    ·refine(xax q3 _ (es.drop 1++es.take 1) rfl (ah _ _ ec) ?_ (by rw[zLA,List.length_drop,List.length_take];omega) (λe=>?_) (λe he=>?_))
     ·rw[zAP,List.map_drop,List.map_take]
      exact(xkd a3 1).append (xha a3 1)
     ·rw[<- cd,zAP,List.map_drop,List.map_take]at e
      have:=xx3 (by rw[cd];exact ff) e;rw[zLM]at this;exact xp6 this
     ·rcases zMA he with he |he
      ·exact List.mem_of_mem_drop he
      ·exact zX he
    ·refine(xax q4 _ (es.take (es.length-1)) rfl (ah _ _ eb) ?_ (by rw[List.length_take];omega) (λe=>?_) (λe he=>zX he))
     ·rw[List.map_take,c0]
      exact xha a3 _
     ·have:=congrArg List.length e
      rw[zLM,zLM,List.length_take]at this;omega
    ·refine(xax q6 _ (es++es.drop (es.length-1)) rfl (ah _ _ ea) ?_ (by rw[zLA,List.length_drop];omega) (λe=>?_) (λe he=>?_))
     ·rw[zAP,List.map_drop,c0]
      exact a3.append (xkd a3 _)
     ·have:=congrArg List.length e
      rw[zLM,zLM,zLA,List.length_drop]at this;omega
     ·rcases zMA he with he |he
      ·exact he
      ·exact List.mem_of_mem_drop he
   have dq:xdd (es'.map dPr)<=99:=xd0 λd hd=>by
    obtain⟨e,he,rfl⟩:=zMP hd;exact zF (xcu (zQ (g0 e he))) g8
   refine(xal l7 _ _ _ rfl rfl (zD (f8.1 _ _ bo n7)) b7 (ck _ _ (xaf λgw e7=>?_)));have dh:=ah _ _ (ai _ _ av)
   have bi:∀(w:Addr) (Y:List (Str×D)) (G9:Hp),Same G8 G9->RelD G9 (.ref w) (.tup (Y.map dPr))->Y.length<=100->xdd (Y.map dPr)<=99->Y.map (·.1)≠k.parts.map (·.1)->gw [some (.ref f'),some (.ref fa),some (.ref sa),some (.ref wa),some (.str x),some (.str k.sort),some (.ref pa),some (.str J.2.1),some (.ref ha),some (.ref Z),some (.int C),some (.ref w),none,none,none,none] G9:=by
    intro w Y G9 s9 ep fh hw d7;refine e7 _ _ ?_;refine(xay _ rfl _ rfl (by walk_at"s") (λt2 I=>?_));have z:=zB I (.tup [.str J.2.1,.ref w]);refine(xbf _ rfl _ rfl Z _ rfl (DPut.k (k:=Sum.inr x) ((s9.trans z) _ _ ag) (xaz (by omega))) ?_);refine(jEAA _ rfl (by walk_at"s") (λr m=>?_));refine fin _ t2 J.2.1 (.ref w) (.tup (Y.map dPr)) 5 (F8.same (s9.trans z)) ((s9.trans z) _ _ ag) ups (ep.same z _) ?_ af (U _) (.inr ⟨aa,.inl ⟨xl2 au b0 (es:=es) fh d7,rfl⟩⟩) (by decide) (by decide) r m;show xdd (Y.map dPr)+1<=150;omega
   refine(xbf _ rfl _ rfl (es'.map dPr) (es.map dPr) (xaq w _ rfl bc bl) (xaq ha _ rfl dh a3) (jAA (by omega) (by omega) (jEA _ rfl ?_)))
   cases dm:eqL (eqN 190) (es'.map dPr) (es.map dPr) with
   |true=>
    refine iteT ⟨(by walk_at"s"),λw0 er=>?_⟩;have z:=zB er (.tup []);exact bi w0 [] _ z (xaq w0 ([]) rfl ups rfl) (by decide) (by show 0<=99;decide) (λe=>b0 (List.map_eq_nil_iff.mp (show k.parts.map (·.1)=[] from e.symm)))
   |false=>
    refine iteF (bi w es' _ (Same.refl _) (xaq w _ rfl bc bl) dn dq λe=>?_);have:=dg e;subst this;rw[xjs λd hd=>xjr 190 d (by have:=xcu hd;omega)]at dm;cases dm
  | false=>
   refine iteF (gk _ _ (xaf λR9 ck=>?_));refine(xao _ rfl rfl _ rfl ?_);by_cases h8:C=8
   ·refine iteKT (zDT (by rw[h8])) (xaf λRA cj=>?_)
    refine(jEAA _ rfl (by walk_at"s") (λt1 c3=>⟨(by walk_at"s"),λt2 I=>⟨(by walk_at"s"),λt3 f2=>⟨(by walk_at"s"),λt4 f1=>?_⟩⟩⟩));have z1:=zB c3 (.tup [.str (S "num"),.int 1]);have z2:=zB I (.tup [.str (S "num"),.int 1]);have z3:=zB f2 (.tup [.str (S "it"),.ref t2]);have z4:=zB f1 (.tup [.ref t3]);have cl:=z2.trans (z3.trans z4);have cm:=z1.trans cl;have e1:=cl _ _ (show upd H4 t1 (.tup [.str (S "num"),.int 1]) t1=some (.tup [.str (S "num"),.int 1]) from ups);have e2:=(z3.trans z4) _ _ (show upd (upd H4 t1 (.tup [.str (S "num"),.int 1])) t2 (.tup [.str (S "num"),.int 1]) t2=some (.tup [.str (S "num"),.int 1]) from ups);have e3:=z4 _ _ (show upd (upd (upd H4 t1 (.tup [.str (S "num"),.int 1])) t2 (.tup [.str (S "num"),.int 1])) t3 (.tup [.str (S "it"),.ref t2]) t3=some (.tup [.str (S "it"),.ref t2]) from ups);have e4:upd (upd (upd (upd H4 t1 (.tup [.str (S "num"),.int 1])) t2 (.tup [.str (S "num"),.int 1])) t3 (.tup [.str (S "it"),.ref t2])) t4 (.tup [.ref t3]) t4=some (.tup [.ref t3]):=ups;refine(xbn _ rfl pa _ rfl (.inr (zC (cm _ _ b1))) _ _ rfl rfl ?_);refine repW e4 (by simp) (by omega) (by omega) ?_ λq5 G5 g5 e5=>?_
    ·show 1*(1+(bb.length:Int)).toNat<=sizeLine
     exact fits (by omega)
    dsimp only[xiy];refine(jEA 4 rfl (slW e5 λq6 G6 g6 e6=>?_));rw[xzb]at e6;have ee:=g5.trans g6;refine⟨(by walk_at"s"),λl7 bd=>?_⟩;have z7:=zB bd (.lst [.ref t1,.ref q6]);have zA:=ee.trans z7;have sA:=cm.trans zA;have gv:=zA _ _ e1;have fo:RelD (upd G6 l7 (.lst [.ref t1,.ref q6])) (.ref t3) (dPr (S "it",tNum 1)):=(xac t3 _ rfl (zA _ _ e3) _ _ rfl rfl _ (jEAA _ rfl (xac t2 _ rfl (zA _ _ e2) _ _ rfl rfl _ (jEAA _ rfl rfl rfl)) rfl));have cz:RelD (upd G6 l7 (.lst [.ref t1,.ref q6])) (.ref q6) (.tup (((List.replicate (1+(bb.length:Int)).toNat (S "it",tNum 1)).take 4).map dPr)):=(xaq q6 _ rfl (z7 _ _ e6) (by rw[List.map_take];exact xha (xp8 fo _) 4));have bm:RelD (upd G6 l7 (.lst [.ref t1,.ref q6])) (.ref t1) (tNum 1):=(xac t1 _ rfl gv _ _ rfl rfl _ (jEAA _ rfl rfl rfl));have bn:upd G6 l7 (.lst [.ref t1,.ref q6]) l7=some (.lst [.ref t1,.ref q6]):=ups;generalize upd G6 l7 (.lst [.ref t1,.ref q6])=GA at sA cz bm bn⊢
    obtain⟨w,d8,b7,bc,g9,fx⟩:∃(w:Addr) (d8:D),atI [V.ref t1,V.ref q6] (if decide (V.str k.sort=V.str (Str.ofString "rec"))=true then 1 else 0)=some (.ref w)/\RelD GA (.ref w) d8/\d8.deep<=150/\xgq k d8 (some 5):=by
     rw[xi3]
     cases hc:k.rc with
     | true=>
      refine(xaw q6 _ rfl cz ?_ (.inr (jEAA _ rfl (by rw[List.length_take];omega) (by rw[if_pos hc]))))
      have:xdd (((List.replicate (1+(bb.length:Int)).toNat (S "it",tNum 1)).take 4).map dPr)<=3:=xd0 λd hd=>by
       obtain⟨e,he,rfl⟩:=zMP hd;rw[List.eq_of_mem_replicate (zX he)];exact zF (show(dPr (S "it",tNum 1)).deep<=2 from zG _) (by decide)
      show xdd _+1<=150;omega
     |false=>
      exact(xaw t1 _ rfl bm (zF (show(tNum 1).deep<=1 from zG _) (by decide)) (.inl ⟨(jEE _ _ rfl),by rw[if_neg (by rw[hc];decide)]⟩))
    refine(jEAA _ rfl rfl (.inr (xaa _ rfl l7 _ _ _ rfl rfl (zD bn) b7 ?_)));refine⟨(by walk_at"s"),λt8 a2=>?_⟩;have z:=zB a2 (.tup [.str J.2.1,.ref w]);have sB:=sA.trans z;refine(xbf _ rfl _ rfl Z _ rfl (DPut.k (k:=Sum.inr x) (sB _ _ M) (xaz (by omega))) (cj _ _ ?_));refine(jEAA _ rfl (by walk_at"s") (λr m=>?_));exact fin _ t8 J.2.1 (.ref w) d8 5 (F4.same sB) (sB _ _ M) ups (bc.same z _) g9 af (U _) (.inr ⟨aa,.inl ⟨fx,rfl⟩⟩) (by decide) (by decide) r m
   refine iteKF (zDF λz=>h8 (V.int.inj z)) (ck _ _ (xaf λRA cj=>?_));obtain⟨es,b5,a4⟩:=xtt d4 fl;refine(xao _ rfl rfl _ rfl ?_);by_cases h3:C=3
   ·refine iteKT (zDT (by rw[h3])) (xaf λRB ci=>?_)
    refine⟨(by walk_at"s"),λl1 fi=>?_⟩;have z1:=zB fi (.lst [.str (S "it"),.str (S "ababab")])
    obtain⟨bx,b7,gh,gg⟩:∃bx:Str,atI [V.str (S "it"),V.str (S "ababab")] (if decide (V.str k.sort=V.str (Str.ofString "alt"))=true then 1 else 0)=some (.str bx)/\bx.length<=100/\∀ps,(k.rc=true->ps=k.parts)->(k.rc=false->∃p∈k.parts,ps=[(S "it",p.2)])->envB (xbv ys ps) bx=none:=by
     rw[xg8]
     cases hc:k.rc with
     |true=>exact(jEAA (S "it") rfl (by walk_at"k") (λps h1 _=>by rw[h1 rfl];exact xf3 (xv4 wf ae)))
     |false=>exact(jEAA (S "ababab") rfl (by walk_at"k") (λps _ h2=>by obtain⟨p,_,rfl⟩:=h2 rfl;exact xf3 xv5))
    refine(jEAA _ rfl rfl (.inr (xaa _ rfl l1 _ _ _ rfl rfl (zD ups) b7 (ci _ _ (xaf λRC b8=>?_)))));refine(jEA _ rfl (xcx _ rfl _ rfl _ rfl (by walk_at"s") (λt2 I=>?_)));have z2:=zB I (.tup [.str (S "box"),.str bx]);have cn:=z1.trans z2;refine(xas hv (.ref t2) k J.2.2 (tBox bx) (xbj es rfl (al.same cn _) b5 (xac t2 _ rfl ups _ _ rfl rfl _ (jEAA _ rfl rfl rfl)) (λv5 H5 s5 az=>?_)));refine⟨(by walk_at"s"),λt8 a2=>?_⟩;have z:=zB a2 (.tup [.str J.2.1,v5]);have sB:=cn.trans (s5.trans z);refine(xbf _ rfl _ rfl Z _ rfl (DPut.k (k:=Sum.inr x) (sB _ _ M) (xaz (by omega))) (b8 _ _ ?_));refine(jEAA _ rfl (by walk_at"s") (λr m=>?_));exact fin _ t8 J.2.1 v5 _ 2 (F4.same sB) (sB _ _ M) ups (az.same z _) (zF (xjw (show(tBox bx).deep<=1 from zG _)) (by decide)) af (U _) (.inr ⟨aa,.inr ⟨xjn (by omega) a4 (jEE _ _ rfl),xix aq a4 (λps h1 h2=>xnt (gg ps h1 h2) gh) rfl⟩⟩) (by decide) (by decide) r m
   refine iteKF (zDF λz=>h3 (V.int.inj z)) (cj _ _ (xaf λRB ci=>?_));obtain⟨kb,a8,rfl,c8,da⟩:=id bq;have fg:=da.length;rw[zLM]at fg;have fw:=a1.few;refine xjm (decide (C=4) && decide (0<a8.length)) (λQ hQ=>?_) ?_
   ·refine(xao _ rfl rfl _ rfl ?_)
    by_cases h4:C=4
    ·rw[zDT h4,Bool.true_and]at hQ
     refine iteKT (zDT (by rw[h4])) ?_;refine(xaa _ rfl sa _ _ _ rfl rfl (zC ao) (xar (j:=0) rfl) (xac kb _ rfl (.inr (zC c8)) _ _ rfl rfl _ ⟨rfl,?_⟩));rw[show decide ((a8.length:Int) > 0)=decide (0<a8.length) by rw[decide_eq_decide];omega];exact hQ
    ·rw[zDF h4,Bool.false_and]at hQ
     exact iteKF (zDF λz=>h4 (V.int.inj z)) hQ
   cases dw:(decide (C=4) && decide (0<a8.length)) with
   | true=>
    refine iteT (xaf λRC b8=>?_);obtain⟨h4,hn⟩:C=4/\0<a8.length:=by simpa using dw
    refine(xaa _ rfl sa _ _ _ rfl rfl (zC ao) (xar (j:=0) rfl) (xa6 _ rfl _ rfl sa _ _ (xbj _ rfl rfl (zC ao) (xar (j:=0) rfl) (xaq kb _ rfl (.inr (zC c8)) (xal f' p4 aj _ rfl a5 (by omega) (by omega) (λri H5 cr cq f5=>?_))))));obtain⟨ii,rfl⟩:∃i:Nat,ri=(i:Int):=⟨ri.toNat,by omega⟩;have b4:ii<a8.length:=by omega
    have F5:=F4.trans f5;have bw:=xah (jEE p4 aj a5) f5;obtain⟨dk,dr,eh⟩:=(da.tups bw _).get (zGA b4);rw[zGM]at dr;obtain⟨k2,de,rfl⟩:=zMS dr;have b3:=zMG de;have g1:atI a8 (ii:Int)=some a8[ii]:=xar (zGA b4);obtain⟨ab,_,eu,dx,_,_,rfl,rfl,v2,_,rfl,e2,v3,_,rfl,_,rfl⟩:=eh;rw[eu]at g1;refine(xal kb _ _ _ rfl rfl (zC (bw _ _ c8)) g1 (xal ab _ _ _ rfl rfl (zC dx) rfl (b8 _ _ (xaf λRD ch=>?_))));obtain⟨p5,q5,dl⟩:=F5.2;refine(xbw _ rfl _ rfl _ rfl _ rfl f' (xaq p5 q5 rfl dl (λiN H6 hN f6=>⟨(by walk_at"s"),λt2 I=>?_⟩)));have F6:=F5.trans f6;have ef:=xah (jEE p5 q5 dl) f6;have z2:=zB I (.tup [.str (S "num"),.int iN]);have ft:RelD H6 hv J.2.2:=RelD.tups (λb us e=>ef _ _ (bw _ _ e)) _ al;have du:=f6.1 _ _ (f5.1 _ _ M a7) a7;refine(xas hv (.ref t2) k J.2.2 (tNum iN) (xbj es rfl (ft.same z2 _) b5 (xac t2 _ rfl ups _ _ rfl rfl _ (jEAA _ rfl rfl rfl)) (λv5 H7 s7 az=>?_)));refine⟨(by walk_at"s"),λt8 a2=>?_⟩;have z:=zB a2 (.tup [.str k2.name,v5]);have sB:=z2.trans (s7.trans z);refine(xbf _ rfl _ rfl Z _ rfl (DPut.k (k:=Sum.inr x) (sB _ _ du) (xaz (by omega))) (ch _ _ ?_));refine(jEAA _ rfl (by walk_at"s") (λr m=>?_));have d9:S "num"≠k2.name:=Ne.symm (xef (a1.nm k2 b3))
    have c2:xc7 ks2 k2.name=none:=by
     unfold xc7;rw[if_neg (Ne.symm d9),xcw a1.nd b3]
    have c7:∀env,Kt ks2 22 env (tNum iN) (.ok (S "num")):=λenv=>by
     have:=xrj (ks:=ks2) (n:=22) (env:=env) (i:=iN) hN.1 (by have:=hN.2;omega);rw[if_pos hN.2]at this;exact this
    exact fin _ t8 k2.name v5 _ 4 (F6.same sB) (sB _ _ du) ups (az.same z _) (zF (xjw (show(tNum iN).deep<=1 from zG _)) (by decide)) (xdf (a1.nm k2 b3)) (λy G ky ac p hp=>(xfo (am (.inr (.inl h4)) y G ky ac p hp)).symm) (.inr ⟨c2,.inr ⟨xjn (by omega) a4 (jEE _ _ rfl),xix aq a4 (λps _ _=>c7 _) (xyo d9)⟩⟩) (by decide) (by decide) r m
   | false=>
    refine iteF (ci _ _ (xaf λRC b8=>?_));refine(xay _ rfl pa rfl ⟨_,zC b1⟩ ?_);refine xbb (xs:=bb) (λi zs H6=>H6=H4/\zs=((k.parts.take i).filter λp=>(xam ys p.2).isNone).map λp=>V.str p.1) ⟨rfl,rfl⟩ (xaz (by omega)) (λi zs H6 _ p=>by obtain⟨rfl,_⟩:=p;exact zC b1) ?_ ?_
    ·rintro i y zs H6 G hi ak ⟨rfl,rfl⟩
     obtain⟨d,b6,rd⟩:=d0.get G;rw[zGM]at b6;obtain⟨pr,fc,rfl⟩:=zMS b6;obtain⟨b9,_,rfl,bf,_,_,rfl,rfl,_,_,rfl,rfl,rfl⟩:=rd;have a6:=xcm (λp:Str×Str=>(xam ys p.2).isNone) fc;refine(xai b9 _ rfl (zC bf) rfl _ _ rfl _ (xdb _ rfl rfl (ext2 rfl rfl) ?_));refine(xbz _ rfl _ rfl wa ys pr.2 rfl (jEA kvs (.inl (F4.1 _ _ a9 (λe=>by rw[e,hf]at a9;cases a9))) (as.tups ax)) rfl (jEA _ rfl ?_))
     cases hg:xam ys pr.2 with
     |some g=>
      rw[hg]at a6;refine iteF (nxtN hi ak ⟨rfl,?_⟩);rw[a6];show _=(_++[]).map _;rw[List.append_nil]
     |none=>
      rw[hg]at a6;refine iteT (jEA _ rfl (nxtG hi ak ⟨rfl,?_⟩));rw[a6];show _=(_++[pr]).map _;rw[zAP];rfl
    rintro zs H6 ak ⟨rfl,rfl⟩ L8 e8;rw[zTL (by omega)];have f4:=List.length_filter_le (λp:Str×Str=>(xam ys p.2).isNone) k.parts;have cx:∀p∈k.parts.filter (λp=>(xam ys p.2).isNone),p∈k.parts/\(xam ys p.2).isNone=true:=λp hp=>List.mem_filter.mp hp;generalize (k.parts.filter λp=>(xam ys p.2).isNone)=ss at f4 cx⊢;have y8:=zB e8 (.lst (ss.map λp=>V.str p.1));have bg:upd H6 L8 (.lst (ss.map λp=>V.str p.1)) L8=some (.lst (ss.map λp=>V.str p.1)):=ups;have ei:L8≠f':=Ne.symm (neN a5 e8);refine b8 _ _ (xaf λRD ch=>?_);generalize upd H6 L8 (.lst (ss.map λp=>V.str p.1))=H7 at bg y8⊢;have F7:=F4.same y8;refine xjm (decide (C=7) && (k.rc && decide (0<ss.length))) (λQ hQ=>?_) ?_
    ·refine(xao _ rfl rfl _ rfl ?_)
     by_cases h7:C=7
     ·rw[zDT h7,Bool.true_and]at hQ
      refine iteKT (zDT (by rw[h7])) ?_;refine(xao _ rfl rfl _ rfl ?_);rw[xi3]
      cases hc:k.rc with
      |false=>
       rw[hc,Bool.false_and]at hQ;exact iteF hQ
      |true=>
       rw[hc,Bool.true_and]at hQ;refine iteT (xbn _ rfl L8 _ rfl (.inl (zD bg)) _ _ rfl rfl (jEA _ rfl ?_));rw[zLM,show decide ((ss.length:Int) > 0)=decide (0<ss.length) by rw[decide_eq_decide];omega];exact hQ
     ·rw[zDF h7,Bool.false_and]at hQ
      exact iteKF (zDF λz=>h7 (V.int.inj z)) hQ
    cases gc:(decide (C=7) && (k.rc && decide (0<ss.length))) with
    |true=>
     refine iteT (xaf λRE cg=>?_);obtain⟨h7,au,hl⟩:C=7/\k.rc=true/\0<ss.length:=by simpa using gc
     refine(xbw _ rfl _ rfl _ rfl _ rfl L8 (jEAA _ rfl (.inl (zD bg)) (xal f' p4 aj _ rfl (y8 _ _ a5) (by rw[zLM];omega) (by rw[zLM];omega) (λri H8 cr cq f8=>?_))));rw[zLM]at cq;obtain⟨ii,rfl⟩:∃i:Nat,ri=(i:Int):=⟨ri.toNat,by omega⟩;have b4:ii<ss.length:=by omega
     have F8:=F7.trans f8;obtain⟨cf,e0⟩:=cx _ (zZ b4);refine(xbp L8 _ _ _ rfl rfl (zD (f8.1 _ _ bg ei)) (xar (v:=.str ss[ii].1) (by rw[zGM,zGA b4];rfl)) (by walk_at"s") (λt2 I=>⟨(by walk_at"s"),λt8 a2=>?_⟩));generalize ss[ii]=X at cf e0 I a2⊢;have z2:=zB I (.tup [.str (S "box"),.str X.1]);have z8:=zB a2 (.tup [.str J.2.1,.ref t2]);have sB:=z2.trans z8;have ag:=f8.1 _ _ (y8 _ _ M) a7;refine(xbf _ rfl _ rfl Z _ rfl (DPut.k (k:=Sum.inr x) (sB _ _ ag) (xaz (by omega))) (cg _ _ ?_));refine(jEAA _ rfl (by walk_at"s") (λr m=>?_));have c4:xam ys X.2=none:=Option.isNone_iff_eq_none.mp e0;exact fin _ t8 J.2.1 (.ref t2) (tBox X.1) 2 (F8.same sB) (sB _ _ ag) ups (xac t2 _ rfl (z8 _ _ ups) _ _ rfl rfl _ (jEAA _ rfl rfl rfl)) (zF (show(tBox X.1).deep<=1 from zG _) (by decide)) af (U _) (.inr ⟨aa,.inr ⟨.inl ⟨(jEE _ _ rfl),by rw[if_pos au]⟩,.inl (jAEA au _ (xnt (xf3 (xno (wf.pnd k ae) cf c4)) (xdf (wf.pnm k ae X cf))) rfl)⟩⟩) (by decide) (by decide) r m
    | false=>
     refine iteF (ch _ _ (xaf λRE cg=>?_));have cy:=y8 _ _ ao;refine(xbw _ rfl _ rfl _ rfl _ rfl f' (xas sa (.ref kb) r2 p4 aj (xax C ks2 J.2.1 rfl (y8 _ _ a5) cy (bq.same y8 _) a1 (λr9 H8 g' tv t9 c9 f8 fb ex fz ez bu c7 cb=>?_))));refine(xai r9 _ rfl (zC fb) rfl _ _ rfl _ (xa3 _ rfl _ _ rfl rfl (cg _ _ (xaf λRF gj=>?_))));have F8:=F7.trans f8;have ah:=xah (jEE p4 aj (y8 _ _ a5)) f8;have fq:RelD H8 hv J.2.2:=RelD.tups ah _ (al.same y8 _);have ag:=f8.1 _ _ (y8 _ _ M) a7;refine(xbw _ rfl _ rfl _ rfl _ rfl hv (xas tv k J.2.2 t9 es (jAAA rfl fq b5 ⟨ex,λv5 H9 s9 az=>?_⟩)));refine⟨(by walk_at"s"),λt8 a2=>?_⟩;have z:=zB a2 (.tup [.str g',v5]);have sB:=s9.trans z;refine(xbf _ rfl _ rfl Z _ rfl (DPut.k (k:=Sum.inr x) (sB _ _ ag) (xaz (by omega))) (gj _ _ ?_));refine(xay _ rfl _ rfl (by walk_at"s") (λr m=>?_))
     have c2:xc7 ks2 g'=none:=by
      rcases cb with rfl |⟨_,h⟩
      ·exact aa
      ·exact xiv a1 h
     have di:g'.length<=100:=by
      rcases cb with rfl |⟨_,h⟩
      ·exact af
      ·exact xrk a1 h
     refine fin _ t8 g' v5 _ c9 (F8.same sB) (sB _ _ ag) ups (az.same z _) (zF (xjw fz) (by decide)) di ?_ (.inr ⟨c2,.inr ⟨xjn (by omega) a4 ez,xix aq a4 (λps _ _=>c7 _) rfl⟩⟩) (by rcases bu with e |e <;> rw[e] <;> decide) (by rcases bu with e |e <;> rw[e] <;> decide) r m;rcases cb with rfl |⟨h6,_⟩
     ·exact U _
     ·exact λy G ky ac p hp=>(xfo (am (.inr (.inr h6)) y G ky ac p hp)).symm
 have hW:ks.filter (inW ys)≠[]:=λe=>by
  have:k∈ks.filter (inW ys):=List.mem_filter.mpr ⟨ae,by unfold inW;rw[db,ar];rfl⟩;rw[e]at this;cases this
 obtain⟨W',k1,eW⟩:∃W' k1,ks.filter (inW ys)=W'++[k1]:=(jEE _ _ ((List.dropLast_concat_getLast hW).symm));have cu:=F3.1 _ _ a9 (λe=>by rw[e,hf]at a9;cases a9);have bp:=ba _ _ dd;have dj:=ba _ _ cc;refine xf0 (inV (.int C) [.int 1,.int 4,.int 6] && !decide (V.str x=V.str k1.name)) (λQ hQ=>?_) (λH4 s4=>?_)
 ·refine(jEAA _ rfl (by walk_at"s") (λtt ey=>?_))
  have z:=zB ey (.tup [.int 1,.int 4,.int 6]);refine(xaw tt _ rfl (.inr (zC ups)) rfl (jAEA rfl _ rfl ?_))
  cases be:inV (.int C) [.int 1,.int 4,.int 6] with
  |false=>
   rw[be]at hQ;exact hQ _ z
  | true=>
   rw[be,Bool.true_and]at hQ;refine iteT ?_;refine(xa6 _ rfl _ rfl fa _ _ (xbj _ rfl rfl (zC (z _ _ dj)) (xar (j:=0) rfl) (jEAA ka rfl ⟨_,zC (z _ _ bp)⟩ ?_)));refine xbb (xs:=ek) (λi zs H5=>H5=upd H3 tt (.tup [.int 1,.int 4,.int 6])/\zs=((ks.take i).filter (inW ys)).map λk=>V.str k.name) ⟨rfl,rfl⟩ (xaz (by omega)) (λi zs H5 _ p=>by obtain⟨rfl,_⟩:=p;exact zC (z _ _ bp)) ?_ ?_
   ·rintro i y zs H5 G hi ak ⟨rfl,rfl⟩
    obtain⟨d,b6,rd⟩:=((dc.tups ba _).same z _).get G;rw[zGM]at b6;obtain⟨k9,fk,rfl⟩:=zMS b6;obtain⟨b9,_,rfl,bf,_,_,rfl,rfl,_,_,rfl,rfl,v3,_,rfl,r3,rfl⟩:=rd;have a6:=xcm (inW ys) fk;obtain⟨o,ho,eo⟩:=din (z _ _ cu) ((as.tups ba).tups λb us e=>z _ _ e) k9.name;refine⟨xd3 rfl,?_⟩;refine(xaa _ rfl b9 _ _ _ rfl rfl (zC bf) rfl (xbe _ rfl wa o rfl ho _ rfl ?_));rw[eo]
    cases hc:(wyAt ys k9.name).isSome with
    |false=>
     rw[show inW ys k9=false from hc]at a6;refine iteF (nxtN hi ak ⟨rfl,?_⟩);rw[a6];show _=(_++[]).map _;rw[List.append_nil]
    |true=>
     rw[show inW ys k9=true from hc]at a6;refine iteT (xaa _ rfl b9 _ _ _ rfl rfl (zC bf) rfl (nxtG hi ak ⟨rfl,?_⟩));rw[a6];show _=(_++[k9]).map _;rw[zAP];rfl
   rintro zs H5 ak ⟨rfl,rfl⟩ D3 gs;rw[zTL (by omega),eW,zAP];have z3:=zB gs (.lst ((W'.map λk=>V.str k.name)++[k1].map λk=>V.str k.name));exact(xaa _ rfl D3 _ _ _ rfl rfl (zD ups) (xf5 _ _) (jAEA rfl _ rfl (hQ _ (z.trans z3))))
 cases hc:(inV (.int C) [.int 1,.int 4,.int 6] && !decide (V.str x=V.str k1.name)) with
 |true=>exact iteT (ct 5 H4 s4 (by decide) (by decide) (λz=>by rcases z with z |z |z <;> cases z))
 | false=>
  refine iteF (ct C H4 s4 e9 gt λhz=>?_)
  have be:inV (.int C) [.int 1,.int 4,.int 6]=true:=by
   rcases hz with rfl |rfl |rfl <;> rfl
  rw[be,Bool.true_and]at hc;have em:x=k1.name:=by simpa using hc
  obtain⟨i0,fp,_,c6⟩:=xfi eW;rw[em];exact xk9 wf (ys:=ys) fp c6
theorem yag(ns:List Int):cutV (ns.map V.int) none (some 1)=(ns.take 1).map V.int:=by
 unfold cutV;rw[HT.sIx_none,show((1:Int))=((1:Nat):Int) from rfl,HT.sIx_nat]
 cases ns with
 |nil=>rfl
 |cons n ns=>simp
theorem xg0{H:Hp}:∀{kvs:List (Key×V)} {ys:List Wy},WAll H kvs ys->(kvs.map λkv=>kV kv.1)=ys.map λy=>V.str y.1
 |[],[],_=>rfl
 |kv::kvs,y::ys,h=>by
  rw[List.map_cons,List.map_cons,xg0 h.2,h.1.1];rfl
theorem xro{a:List Str}{ks:List Kn}(h:xua a ks):KBes a ks:=⟨h.1,h.2.1,λk e p c=>by
 have f:=(h.2.2.2 k e).2;have b:p.1∈k.parts.map (·.1):=zQ c;rw[f]at b;exact List.mem_of_mem_drop (zX (zX b))⟩
theorem xxd{ys:List Wy}(nd:(ys.map (·.1)).Nodup)(x:Str):wyAt ys.reverse x=wyAt ys x:=by
 have a:(ys.reverse.map (·.1)).Nodup:=by
  rw[List.map_reverse];exact List.pairwise_reverse.mpr (nd.imp λh=>Ne.symm h)
 cases h:wyAt ys x with
 |none=>
  unfold wyAt;rw[List.find?_eq_none];intro y b e;exact xen h y (List.mem_reverse.mp b) (zH e)
 |some y=>
  obtain⟨f,c⟩:=xgy h;rw[<- f];exact xfk a (List.mem_reverse.mpr c)
theorem xpi{ys:List Wy}(nd:(ys.map (·.1)).Nodup){i:Nat}{y:Wy}(h:ys[i]?=some y):wyAt (ys.take i) y.1=none:=by
 unfold wyAt;rw[List.find?_eq_none];intro l a e;obtain⟨j,c,b⟩:=zMI a;rw[List.length_take]at c;obtain⟨hi,g⟩:=zES h;rw[List.getElem_take]at b
 have f:j=i:=by
  refine(List.getElem_inj (xs:=ys.map (·.1)) (i:=j) (j:=i) (h₀:=by rw[zLM];omega) (h₁:=by rw[zLM];exact hi) nd).mp ?_;rw[List.getElem_map,List.getElem_map,b,g];exact zH e
 omega
theorem xo4{H:Hp}{kvs:List (Key×V)}{ys:List Wy}(h:WAll H kvs ys)(c:∀y∈ys,(wyD y).deep<=190):∀p∈kvs,∃d:D,RelD H p.2 d/\d.deep<=190:=λp b=>by
 obtain⟨i,hi,e⟩:=zMI b;obtain⟨y,a,_,r⟩:=h.get (i:=i) (kv:=p) (by rw[<- e];exact zGA hi);exact(jEA _ r (c y (zMG a)))
theorem xp7{ks ks2:List Kn}{ys:List Wy}(nd:(ys.map (·.1)).Nodup)(h:∀y∈ys,xd1 ks ks2 ys y):∀y∈ys.reverse,xd1 ks ks2 ys.reverse y:=λy a=>by
 obtain⟨k,e,c,b⟩:=h y (List.mem_reverse.mp a);exact(jEAA k e c (b.congr λp _=>(xd8 (xxd nd p.2)).symm))
def xpr:Sp:=λvs H Q _=>∃(fa sa wa:Addr) (kv1 kv2:V) (r1 r2:List V) (kvs:List (Key×V)) (ks ks2:List Kn) (ys:List Wy),vs=[.ref fa,.ref sa,.ref wa]/\H fa=some (.tup (kv1::r1))/\H sa=some (.tup (kv2::r2))/\RelD H kv1 (xbx ks)/\KWf ks/\RelD H kv2 (xbx ks2)/\KWf ks2/\H wa=some (.dK kvs)/\WAll H kvs ys/\(ys.map (·.1)).Nodup/\(∀y∈ys,xd1 ks ks2 ys y)/\∀H',Same H H'->Q (.bl true) H'
def spLaw(K:Fg):Sp:=λvs H Q _=>∃(a:Addr) (ns:List Int),vs=[.ref a]/\SqL K H a (ns.map V.int)/\ns.length<=63/\∀H',Q (.bl true) H'
theorem xrg(D:DefXs P w K y base n "look_ways" qam (xl4 K)):DefIs P w K y base n "look_ways" qam xpr:=D.calm λvs H Q E h=>by
 obtain⟨z,s,r,g,f,x,u,kvs,ks,ks2,ys,rfl,p,l,o,wf,m,a,j,i,b,right,q⟩:=h;exact(xas z s r g f (xas x u kvs ks ks2 (xaw ys none rfl p l (jAAA o wf m (jAAA a (kl_n a) (xf1 wf a right) (jAAA j i b (jAA (xgb wf a right) (λ_=>q) (λc e=>by cases e))))))))
theorem xyl (T:Tx K mg) (m:DefIs P w K mg base n "_law_feed" qa9 (xuh K)) (a6:DefIs P w K mg base n "_law_take" qad xc2) (U:DefIs P w K mg base n "_law_names" qba xpq) (Y:DefIs P w K mg base n "_law_kinds" qbb xps) (O:DefIs P w K mg base n "_law_beside" qaz xvp) (a5:DefIs P w K mg base n "_law_told" qa1 xpn) (a4:DefIs P w K mg base n "look_ways" qam xpr) (o:DefIs P w K mg base n "_law_class" qbe (xpv K)) (M:DefIs P w K mg base n "_law_hidden" qa3 xvo) (J:DefIs P w K mg base n "_law_spoilt" qbg xne) :
  DefIs P w K mg base (n+1) "law" ["_law_script"] (spLaw K):=by
 refine DefIs.of T.kX sc_law (by walk_at"l") (λf e6 A outer s H vs Q E hr h=>?_);obtain⟨a,ns,rfl,hS,aj,k⟩:=h;have nd:=sc_law.nd;have hu:=xcs hr;have cr:=xuz hr
 refine⟨_,(zpn (psn 1 nd (pd U hr (zpc (xat xcv (xan (xsi rfl) rfl T.uG PyProof.Rows.boot_sum (zpc (xcn xg9 (pv 0) xdp (xcy pI)) pN zss)) pI) (zpc pI pN zso) xa8)))
   (zpn (psn 2 nd (pd Y hr (zpc (pd m hr (va 0 (zpc pI pN zso))) (v1 1) zsc)))
   (zpn (psn 3 nd (xak (va 2 (zpc (xak pN) (zpc (xak pN) pN sT) sT))))
   (zpn (psn 4 nd (xak (zpc (pd O hr (zpc (pd m hr (va 0 (zpc pI pN zso))) (va 2 (v1 1)) zsc)) (zpc (xak pN) (zpc (xak pN) pN sT) sT) zsc)))
   (zpn (psn 5 nd (px K (pd a5 hr (zpc (pd m hr (va 0 (zpc pI pN zso))) (va 3 (zpc (px K (pv 4) pI) pN zss)) zsc)) pI))
   (zpn (xa0 (pR xv7 (pd a4 hr (va 3 (va 4 (v1 5)))) xh1 (nM _)) (zpo (xaj xh1)) pQ)
   (zpn (psn 6 nd xnm)
   (zpn (xca PassesOwn.never rfl (xyb rfl T.uD (xau (xin rfl) rfl T.uA PyProof.Rows.boot_list (v1 5))) (pgn 7 nd)
   (zpo (xc9 hu (pv 6) (pv 7) (xds hu (pv 5) (pv 7) (λ_ _=>rfl)) rfl)))
   (zpn (xa0 (pR xft (pd o hr (va 3 (va 4 (v1 6)))) pS (nM _)) (zpo (xaj xh1)) pQ)
   (zpn (xca PassesOwn.never rfl (xcd (K:=K) rfl (xbs (zpc xh1 (zpc xh1 pN zso) zso))) (pgn 8 nd)
   (zpn (psn 9 nd (pd M hr (zpc (pd m hr (va 0 (zpc pI pN zso))) (va 3 (zpc (px K (pv 4) pI) (va 5 (v1 8)) zss)) zsc)))
   (zpo (xa0 (PW.pt (xcg (pR xjb (pv 9) xc5 (nM _)) (xby (pR xft (pd o hr (va 3 (va 4 (v1 9)))) (pxl K (xbs (zpc pS (zpc pS pN zso) zso)) (xau xdw rfl T.k6 PyProof.Rows.boot_int (v1 8))) (nM _))))) (zpo (xaj xh1)) pQ))))
   (zpn (xca PassesOwn.never rfl (xqi rfl T.uC (zpc pI (zpc pI pN zso) zso)) (pgn 10 nd)
   (zpn (psn 11 nd (pd m hr (va 0 (v1 10))))
   (zpo (xa0 (pR xee (xan xlo rfl T.k8 PySem.boot_len (v1 5)) pI (nM _)) (zpn (psn 7 nd (pxl K (xau (xin rfl) rfl T.uA PyProof.Rows.boot_list (v1 5)) (pd a6 hr (va 11 (zpc (xan xlo rfl T.k8 PySem.boot_len (v1 5)) pN zsc)))))
   (zpn (xdi (pd J hr (va 11 (va 3 (va 4 (va 5 (v1 7)))))) (xa2 (K:=K) rfl rfl (xab (pgn 9 nd) (xab (pgn 12 nd) xa1))))
   (zpn (psn 13 nd (xau xeb rfl T.k4 PyProof.Rows.boot_dict (v1 9)))
   (zpo (xa0 (PW.pt (xi7 (pR xft (pd o hr (va 3 (va 4 (v1 9)))) (pv 12) (nM _)) (xhb (pR (xyh cr) (pv 9) (pv 13) (nM _))))) (zpo (xaj xh1)) pQ))))) pQ))))
   (zpo (xaj (xdt xa9 (pd o hr (va 3 (va 4 (v1 5)))) pS (nM _))))))))))))))),xaf λR1 dj=>?_⟩
 refine(xbf _ rfl _ rfl a _ rfl hS (λc0 d5=>?_));rw[yag];have s0:=zB d5 (.lst ((ns.take 1).map V.int));refine(xaq c0 (ns.take 1) rfl (zD ups) (xaw _ _ rfl rfl ⟨by decide,by decide⟩ (jEA _ rfl (λb H1 bp s1 e0 hb bx cd d7=>?_))));have bj:=s0.trans s1;refine dj _ _ (xaf λR2 di=>?_);refine(xcc _ rfl a ns 1 rfl (bj.seq hS) aj (by decide) (λr p q nr=>?_));have sr:=zB nr (.lst [.int p,.int q]);have br:b≠r:=neN hb nr;refine(xbm _ rfl r b p q (xcl bp rfl ups (sr _ _ hb) bx br (λkv ks H2 f2 hk hK ca=>?_)));have ch:=hK;obtain⟨wf,h4,cv,e5⟩:=hK;have bg:Same H1 H2:=Fed.back nr sr f2;have d6:=bg _ _ hb;have cl:=bj.trans bg;obtain⟨ka,ds,rfl,dy,dx⟩:=id hk;refine di _ _ (xaf λR3 dh=>?_);refine(jEAA _ rfl (by walk_at"s") (λe1 d1=>⟨(by walk_at"s"),λe2 d0=>⟨(by walk_at"s"),λfa cx=>?_⟩⟩));have sF:=(zB d1 (.tup [])).trans ((zB d0 (.tup [])).trans (zB cx (.tup [.ref ka,.ref e1,.ref e2])));have ax:upd (upd (upd H2 e1 (.tup [])) e2 (.tup [])) fa (.tup [.ref ka,.ref e1,.ref e2]) fa=some (.tup [.ref ka,.ref e1,.ref e2]):=ups;have an:=cl.trans sF;have be:=sF _ _ d6;have bc:=hk.same sF _;clear sr f2 ca;generalize upd (upd (upd H2 e1 (.tup [])) e2 (.tup [])) fa (.tup [.ref ka,.ref e1,.ref e2])=H3 at sF ax an be bc⊢;refine dh _ _ (xaf λR4 dg=>?_);refine(xcc _ rfl a ns 2 rfl (an.seq hS) aj (by decide) (λr2 p2 q2 b7=>?_));have ak:=zB b7 (.lst [.int p2,.int q2]);have dk:b≠r2:=neN be b7
 refine(xa6 _ rfl _ rfl r2 b (.ref ka) (xbq p2 q2 ks bp rfl ups (bc.same ak _) ch (ak _ _ be) bx ⟨dk,λmv ks2 H4 f4 cm ce c3=>?_⟩));have ck:Same H3 H4:=Fed.back b7 ak f4;obtain⟨z,c7,bw⟩:=ce;refine⟨(by walk_at"s"),λe3 cz=>⟨(by walk_at"s"),λe4 cy=>⟨(by walk_at"s"),λsa ct=>?_⟩⟩⟩;have sS:=(zB cz (.tup [])).trans ((zB cy (.tup [])).trans (zB ct (.tup [mv,.ref e3,.ref e4])));have ag:upd (upd (upd H4 e3 (.tup [])) e4 (.tup [])) sa (.tup [mv,.ref e3,.ref e4]) sa=some (.tup [mv,.ref e3,.ref e4]):=ups;have ae:=ck.trans sS;have ah:=cm.same sS _;clear ak;generalize upd (upd (upd H4 e3 (.tup [])) e4 (.tup [])) sa (.tup [mv,.ref e3,.ref e4])=H5 at sS ag ae ah⊢;have aw:=ae _ _ ax;have av:=bc.same ae _;have bn:PNB ks:=λkk ba p hp=>(cd _ ((xro ch).2.2 kk ba p hp)).1;have bm:PNB ks2:=λkk ba p hp=>(cd _ (bw kk ba p hp)).1;refine dg _ _ (xaf λR5 df=>?_);refine(xcc _ rfl a ns 3 rfl ((an.trans ae).seq hS) aj (by decide) (λr3 p3 q3 bo=>?_));have aa:=zB bo (.lst [.int p3,.int q3]);refine(xa6 _ rfl _ rfl sa _ _ (xbj _ rfl rfl (zC (aa _ _ ag)) (xar (j:=0) rfl) (xas r3 fa (.ref ka) mv _ (xbq p3 q3 ks ks2 rfl ups (aa _ _ aw) (av.same aa _) wf bn (jAAA (ah.same aa _) z bm (λrr ta wa dn kvs told H6 f6 b8 dv dt a2 a1 bu bv du=>?_))))));have ac:Same H5 H6:=Fed.back bo aa f6;refine(xal rr _ _ _ rfl rfl (zC b8) (xar (j:=1) rfl) ?_);have right:∀y∈xb1 ks2 ks told,xd1 ks ks2 (xb1 ks2 ks told) y:=xig wf z bu;have u:=xrd (ks2:=ks2) (ks:=ks) bv
 have co:=xjj (ks2:=ks2) (ks:=ks) (ys:=told);generalize xb1 ks2 ks told=ys at a1 right u co;have dm:=wf.few;have bi:=(an.trans ae).trans ac;have cw:=xf1 wf z right;have a7:=kl_n z
 have au:∀k∈ks,NoAb k.name:=λk hk=>d7 _ (by
  have h1:k.name∈ks.map Kn.name:=zQ hk;rw[cv]at h1;exact zX h1)
 have bb:∀k∈ks2,NoAb k.name:=λk hk=>by
  obtain⟨k0,h0,e⟩:=c3 k hk;rw[<- e];exact au k0 h0
 have I:=ac _ _ aw;have C:=ac _ _ ag;have G:=av.same ac _;have F:=ah.same ac _;have dl:=a1.len;refine df _ _ (xaf λR6 de=>?_);refine(xbg _ rfl _ rfl _ rfl fa sa (xas wa (.ref ka) mv _ _ (xbq kvs ks ks2 ys rfl I C G wf F (jAAA z a2 a1 (jAA u right (λH7 s7=>?_))))));refine(jAEA rfl _ rfl (jEA _ rfl (iteF (de _ _ (xaf λR7 dd=>?_)))));refine λoD c2=>dd _ _ (xaf λR8 dc=>?_);have yo:=zB c2 (.dK []);have bh:=s7.trans yo;have bz:=xck s7 c2;refine(xa3 _ rfl wa kvs rfl (bh _ _ a2) (λl hl=>?_));rw[xg0 a1];have yl:=zB hl (.lst (ys.map λy=>V.str y.1));have cn:l≠oD:=λe=>by rw[e,ups]at hl;cases hl
 refine(xaq l _ rfl ups ?_);refine xw0 (xs:=ys.map λy=>V.str y.1) (λi σ HX=>∃(o7:Option V) (a0:List (Key×V)),σ=[some (.ref a),some (.ref b),some (.ref ka),some (.ref fa),some (.ref sa),some (.ref wa),some (.ref oD),o7,none,none,none,none,none,none]/\Same H6 HX/\HX l=some (.lst (ys.map λy=>V.str y.1))/\HX oD=some (.dK a0)/\WAll HX a0 (ys.reverse.take i)) (xaw none ([]) rfl (bh.trans yl) ups ⟨yl _ _ ups,trivial⟩) (λi σ HX _ p=>by obtain⟨_,_,_,_,h,_⟩:=p;exact h) ?_ ?_
 ·rintro i v σ HX hi hv ⟨o7,a0,rfl,sX,c6,ar,af⟩
  rw[zLM]at hi hv;rw[zGM]at hv;obtain⟨y,hy,rfl⟩:=zMS hv;have ao:=zMG hy;have bq:ys.reverse[i]?=some y:=by rw[List.getElem?_reverse hi];exact hy
  have bt:=a1.tups λb us e=>sX _ _ e;obtain⟨v,cq,cp⟩:=(bt.val (x:=y.1)).2 _ (xfk u ao)
  have gd:DGet HX wa (.str y.1) (some v):=by
   have:=DGet.rd (k:=Sum.inr y.1) (.inl (sX _ _ a2));rw[cq]at this;exact this
  have c8:=af.len;rw[List.length_take]at c8;refine(xbc _ rfl _ rfl wa _ rfl gd _ rfl (xa3 _ rfl oD _ rfl (DPut.k (k:=Sum.inr y.1) ar (xaz (by omega))) ?_));have bf:=xei ar (.dK (putK a0 (Sum.inr y.1) v));refine(xaw _ _ rfl (xgt sX bz _) (by rw[xa7 cn];exact c6) ⟨ups,?_⟩);rw[zTA,bq];exact xm2 (x:=y.1) (g:=y.2.1) (d:=y.2.2) (cp.tups bf _) (af.tups bf) (xpi (by rw[List.map_reverse];exact List.pairwise_reverse.mpr (u.imp λh=>Ne.symm h)) bq)
 rintro σ HX ⟨o7,a0,rfl,sX,c6,ar,af⟩;rw[zLM,zTL (by rw[List.length_reverse];omega)]at af;have rr:=xp7 u right;refine dc _ _ (xaf λR9 db=>?_);refine(xbg _ rfl _ rfl _ rfl fa sa (xas oD (.ref ka) mv _ _ (xag a0 ks ks2 ys.reverse none rfl (sX _ _ I) (sX _ _ C) (G.same sX _) wf (jAAA (F.same sX _) z a7 (jAAA (xf1 wf z rr) ar af (jAAA (by rw[List.map_reverse];exact List.pairwise_reverse.mpr (u.imp λh=>Ne.symm h)) (xgb wf z rr) (λc e=>by cases e) (λH8 s8=>?_)))))));refine(jAEA rfl _ rfl (iteF (db _ _ (xaf λe8 cg=>?_))));have cj:=sX.trans s8;refine⟨(by walk_at"s"),λl2 c7=>(jEAA l2 rfl ⟨_,zD ups⟩ ?_)⟩;have ci:=zB c7 (.lst [.bl true,.bl false]);refine xgv (xs:=[.bl true,.bl false]) (λi σ HY=>∃o8 o9,σ=[some (.ref a),some (.ref b),some (.ref ka),some (.ref fa),some (.ref sa),some (.ref wa),some (.ref oD),o7,o8,o9,none,none,none,none]/\Same H6 HY/\HY l2=some (.lst [.bl true,.bl false])) (xaq none none rfl (cj.trans ci) ups) (λi σ HY _ p=>by obtain⟨_,_,_,_,h⟩:=p;exact zD h) ?_ ?_
 ·rintro i v σ HY hv ⟨o8,o9,rfl,sY,c5⟩
  obtain⟨gn,rfl⟩:∃gn,v=.bl gn:=by
   have:=zMG hv;simp at this;rcases this with h |h
   ·exact⟨true,h⟩
   ·exact⟨false,h⟩
  refine xaf λS1 as=>?_;refine(xcc _ rfl a ns 10 rfl ((bi.trans sY).seq hS) aj (by decide) (λr4 p4 q4 b6=>?_));have b0:=zB b6 (.lst [.int p4,.int q4]);have a8:=sY.trans b0;refine(xa6 _ rfl _ rfl sa _ _ (xbj _ rfl rfl (zC (a8 _ _ C)) (xar (j:=0) rfl) (xa6 _ rfl _ rfl r4 fa wa (xas (.ref ka) mv _ p4 q4 (xag ks ks2 kvs ys gn rfl ups (a8 _ _ I) (G.same a8 _) wf (jAAA (F.same a8 _) z (a8 _ _ a2) (jAAA (a1.tups λb us e=>a8 _ _ e) (by omega) right ⟨λH9 f9=>?_,λc Z ay H9 f9 hc aq a3 ai en=>?_⟩)))))))
  ·have s9:Same HY H9:=Fed.back b6 b0 f9
   refine as _ _ ?_;exact(xao _ rfl rfl _ rfl (iteF (xaq _ _ rfl (sY.trans s9) (s9 _ _ c5))))
  ·have s9:Same HY H9:=Fed.back b6 b0 f9
   have am:=sY.trans s9;refine as _ _ ?_;refine(xao _ rfl rfl _ rfl (iteT ?_));refine(xbg _ rfl _ rfl _ rfl fa sa (xas c (.ref ka) mv _ _ (xag Z ks ks2 ay _ rfl (am _ _ I) (am _ _ C) (G.same am _) wf (jAAA (F.same am _) z a7 (jAAA ai hc aq (jAAA (by rw[en];exact u) a3 (λc' e=>by cases gn <;> cases e;decide) (λHA sA=>?_)))))));refine⟨(by walk_at"s"),λl3 cu=>?_⟩;have y3:=zB cu (.lst [.str (Str.ofString "twice"),.str (Str.ofString "let by")]);refine(jEA _ rfl (.inr (xaa _ rfl l3 _ _ (.str (xgz (if gn=true then none else some 1))) rfl rfl (zD ups) (by cases gn <;> rfl) (jAEA rfl _ rfl ?_))));have sF:=(s9.trans sA).trans y3;exact xwt rfl (xaq _ _ rfl (sY.trans sF) (sF _ _ c5))
 rintro σ HY ⟨o8,o9,rfl,sY,_⟩;refine cg _ _ (xaf λe7 cf=>?_);refine(xaq _ _ rfl (jAAA (by decide) (by decide) (by decide) (by decide)) ?_);refine xhs (λi σ HZ=>∃o7 o9 b4 b3 b2 b1,σ=[some (.ref a),some (.ref b),some (.ref ka),some (.ref fa),some (.ref sa),some (.ref wa),some (.ref oD),o7,o8,o9,b4,b3,b2,b1]/\Same H6 HZ) (xas _ _ none none none (jEA none rfl sY)) ?_ ?_
 ·rintro i σ HZ hi ⟨o7,o9,b4,b3,b2,b1,rfl,sZ⟩
  refine xaf λS1 as=>?_;refine(xbz _ rfl _ rfl a ns _ rfl ((bi.trans sZ).seq hS) aj ⟨by omega,λr5 p5 q5 b5=>?_⟩);have az:=zB b5 (.lst [.int p5,.int q5]);have al:=sZ.trans az;refine as _ _ ?_;refine(xbn _ rfl wa kvs rfl (al _ _ a2) _ _ rfl rfl (jEA _ rfl (ite2 (λc1=>?_) (λc1=>?_))))
  ·have dz:0<kvs.length:=by have:=zH c1;omega
   refine xaf λS2 da=>?_;refine(xa3 _ rfl wa kvs rfl (al _ _ a2) (λl6 b9=>?_));rw[xg0 a1];have y6:=zB b9 (.lst (ys.map λy=>V.str y.1));have n6:l6≠r5:=λe=>by rw[e,ups]at b9;cases b9
   refine(xb4 _ rfl _ rfl wa kvs rfl ((al.trans y6) _ _ a2) r5 (xa5 p5 q5 _ rfl (y6 _ _ ups) (by omega) (by omega) (λri HB dr dq fB=>?_)));obtain⟨ii,rfl⟩:∃i:Nat,ri=(i:Int):=⟨ri.toNat,by omega⟩;have c9:ii<ys.length:=by omega
   have sB:Same HZ HB:=Fed.back b5 (az.trans y6) fB;refine(xal l6 _ _ _ rfl rfl (zD (fB.1 _ _ ups n6)) (xar (v:=.str ys[ii].1) (by rw[zGM,zGA c9];rfl)) (da _ _ (xaf λS3 d9=>?_)));have ao:=zZ c9;generalize ys[ii]=y0 at ao⊢;obtain⟨pB,qB,hB⟩:=fB.2;have a9:=sZ.trans sB;refine(xa4 _ rfl _ rfl _ rfl _ rfl _ rfl (xas r5 fa sa wa (.ref ka) (xas mv _ _ pB qB (xas ks ks2 kvs ys y0.1 (xcl y0 rfl hB (a9 _ _ I) (a9 _ _ C) (G.same a9 _) (jAAA wf (F.same a9 _) z (jAAA au bb (a9 _ _ a2) (jAAA (a1.tups λb us e=>a9 _ _ e) (by omega) u (jAA right (xfk u ao) (λrr c Z ay cc HC fC b8 bd aq c4 dw a3 d4 d3 ai cb=>?_))))))))));have sC:Same HZ HC:=Fed.back b5 (az.trans y6) (fB.trans fC);refine(xai rr _ rfl (zC b8) rfl _ _ rfl _ (jEAA _ rfl rfl (d9 _ _ (xaf λS4 d8=>?_))));refine(xa3 _ rfl c Z rfl bd (λcK d2=>d8 _ _ ?_));have yK:=zB d2 (.dK Z);have ab:=sZ.trans (sC.trans yK);refine(xbg _ rfl _ rfl _ rfl fa sa (xas c (.ref ka) mv _ _ (xag Z ks ks2 ay (some cc) rfl (ab _ _ I) (ab _ _ C) (G.same ab _) wf (jAAA (F.same ab _) z a7 (jAAA ai (yK _ _ bd) (aq.tups λb us e=>yK _ _ e) (jAAA c4 a3 (λc' e=>by cases e;exact⟨d4,d3⟩) (λHD sD=>?_)))))));refine(xao _ rfl rfl _ rfl (xwt rfl ?_));refine(xbz _ rfl _ rfl c cK Z rfl rfl (sD _ _ (yK _ _ bd)) (jAA (sD _ _ ups) (xo4 (aq.tups λb us e=>(yK.trans sD) _ _ e) cb) (jEA _ rfl (iteF ?_))));exact(xas _ _ _ _ _ (jEA _ rfl (ab.trans sD)))
  ·exact(xas _ _ _ _ _ (jEA _ rfl al))
 ·rintro σ HZ ⟨o7,o9,b4,b3,b2,b1,rfl,sZ⟩
  refine cf _ _ ?_;refine(xbg _ rfl _ rfl _ rfl fa sa (xas wa (.ref ka) mv _ _ (xag kvs ks ks2 ys none rfl (sZ _ _ I) (sZ _ _ C) (G.same sZ _) wf (jAAA (F.same sZ _) z a7 (jAAA cw (sZ _ _ a2) (a1.tups λb us e=>sZ _ _ e) (jAAA u (xgb wf z right) (λc e=>by cases e) (λH8 s8=>?_)))))));exact⟨rfl,k _⟩
theorem law_is(T:Tx K a):DefIs P w K a base 100 "law" ["_law_script"] (spLaw K):=by
 have take:∀k,DefIs P w K a base (k+1) "_law_take" qad xc2:=λk=>xjc T;have size:DefIs P w K a base 28 "_law_size" qab (xg5 6):=(xp0 T 6 (by omega)).mono (by omega);have b:DefIs P w K a base 30 "_law_parts" qap xi1:=xqv T (take 28) (size.mono (by omega));have made:DefIs P w K a base 90 "made_ways" qao xnf:=(xwo T).mono (by omega);have c:∀k,DefIs P w K a base (k+2) "_law_any_kind" qan xsz:=λk=>xkn T (take k);have j:DefIs P w K a base 90 "_law_way" qa0 xvn:=xwc (n:=89) T (xb8 T) (c 87) (xdo T) ((xmh T).mono (by omega));have told:DefIs P w K a base 91 "_law_told" qa1 xpn:=xtb (n:=90) T (take 89) made j;have o:DefIs P w K a base 40 "_law_beside" qaz xvp:=xoo (n:=39) T (take 38) (xgo (n:=38) T (take 37) (c 36)) (b.mono (by omega)) (size.mono (by omega));have num:DefIs P w K a base 40 "_law_number" qaj xh9:=xid (n:=39) T (take 38);have m:DefIs P w K a base 41 "_law_hidden" qa3 xvo:=xon (n:=40) T (xb8 T) (take 39) num (xdo T);have sort:∀k,DefIs P w K a base (k+1) "sort_of" qac xc3:=λk=>xd6 T;have g:∀k,DefIs P w K a base (k+1) "parts_of" qac xcj:=λk=>xda T;have s:=xyp (P:=P) (w:=w) (base:=base) T 22 100 (by omega);have nk:=xgh (n:=71) T (λks=>Kt ks 22) (λks env d r y x u=>xla y 22 env d r x u) s (xgg T);have f:=xje (n:=72) T (sort 71) (g 71) (xjf (n:=71) T (xdo T)) nk;have i:=xkv (n:=72) T (sort 71) (xjd (n:=71) T (sort 70));have h:=xku (n:=72) T (xor T) (sort 71) (g 71);have look:=xkt (n:=73) T i h f;have cls:=xqy (n:=74) T look
 have p:DefIs P w K a base 40 "nought_term" qae (spNu nuT 6):=(xhi T 6).mono (by omega);have e:=xh3 (n:=40) T (take 39) num p;have l:=xom (n:=41) T (take 40) (num.mono (by omega)) (xb8 T) (xdo T) (xwd T) e;exact xyl (n:=99) T (xtd T) (take 98) (xqw T) ((xqx T (take 29) b).mono (by omega)) (o.mono (by omega)) (told.mono (by omega)) ((xrg look).mono (by omega)) (cls.mono (by omega)) (m.mono (by omega)) (l.mono (by omega))
end
end K42
end
end
namespace PySem.W.Fast
theorem tw635794166336664009:0=0:=rfl
theorem tw10505646706762451896:0=0:=rfl
theorem tw12850236965146677896:0=0:=rfl
theorem tw16506931073350026653:0=0:=rfl
theorem tw9549741828948118079:0=0:=rfl
theorem tw16904793601023514195:0=0:=rfl
theorem tw8159743240046794093:0=0:=rfl
theorem tw5207041760873217239:0=0:=rfl
theorem tw10433550853755411:0=0:=rfl
theorem tw3864571869956431489:0=0:=rfl
theorem tw1212098245944213553:0=0:=rfl
theorem tw3051301084033732522:0=0:=rfl
theorem tw12806243858561724550:0=0:=rfl
theorem tw2891330263668532281:0=0:=rfl
theorem tw14651851202237590008:0=0:=rfl
theorem tw8101029575491725692:0=0:=rfl
theorem tw14374358826627697456:0=0:=rfl
theorem tw1731447516322952102:0=0:=rfl
theorem tw4590360238569472268:0=0:=rfl
theorem tw3139608009449440020:0=0:=rfl
theorem tw4153008448335599750:0=0:=rfl
theorem tw274710325901907361:0=0:=rfl
theorem tw8291701512889189189:0=0:=rfl
theorem tw12013604046431086667:0=0:=rfl
theorem tw6641346659303396718:0=0:=rfl
theorem tw8595139395416465787:0=0:=rfl
theorem tw14977696733488446033:0=0:=rfl
theorem tw8502255121165221475:0=0:=rfl
theorem tw2430564096479209659:0=0:=rfl
theorem tw18244823398817636922:0=0:=rfl
theorem tw17959418797284370572:0=0:=rfl
theorem tw6718632544230838450:0=0:=rfl
theorem tw16167655596960326453:0=0:=rfl
theorem tw5574353348645311518:0=0:=rfl
theorem tw6739305547836975396:0=0:=rfl
theorem tw2922837320937950733:0=0:=rfl
theorem tw13605997190979745968:0=0:=rfl
theorem tw9546114691805433802:0=0:=rfl
theorem tw17236310090400634920:0=0:=rfl
theorem tw17432248002823993850:0=0:=rfl
theorem tw10891224630941475892:0=0:=rfl
theorem tw15673790929050971861:0=0:=rfl
theorem tw16191652161378610136:0=0:=rfl
theorem tw14935437838173281980:0=0:=rfl
theorem tw13157677184838730275:0=0:=rfl
theorem tw10106978339884287636:0=0:=rfl
theorem tw7599586868656555091:0=0:=rfl
theorem tw4974890842940674814:0=0:=rfl
theorem tw14719233851436878387:0=0:=rfl
theorem tw1209564383581146652:0=0:=rfl
theorem tw17764749106622614505:0=0:=rfl
theorem tw1121559131759762181:0=0:=rfl
theorem tw8165430487340085059:0=0:=rfl
theorem tw15281507311619116281:0=0:=rfl
theorem tw4822578470797157638:0=0:=rfl
theorem tw10345978812552898604:0=0:=rfl
theorem tw1478527897840517727:0=0:=rfl
theorem tw11680833990993203474:0=0:=rfl
theorem tw12195242304565246354:0=0:=rfl
theorem tw13423948322451464954:0=0:=rfl
theorem tw18005594417650844850:0=0:=rfl
theorem tw2227780324100479514:0=0:=rfl
theorem tw3392173979195583808:0=0:=rfl
theorem tw10743751916858476914:0=0:=rfl
theorem tw12443339523108259152:0=0:=rfl
theorem tw8505717101315277394:0=0:=rfl
theorem tw8616740536462689847:0=0:=rfl
theorem tw3526276671692531481:0=0:=rfl
theorem tw15292727727935107352:0=0:=rfl
theorem tw11405918754478056354:0=0:=rfl
theorem tw5927525025847643395:0=0:=rfl
theorem tw18234903133115918362:0=0:=rfl
theorem tw6822854172538581942:0=0:=rfl
theorem tw11663543542252190561:0=0:=rfl
theorem tw6910918472346482565:0=0:=rfl
theorem tw7480002409821460681:0=0:=rfl
theorem tw13730190831653859212:0=0:=rfl
theorem tw889205841520987568:0=0:=rfl
theorem tw15395701665369967005:0=0:=rfl
theorem tw17243015816393280478:0=0:=rfl
theorem tw3180443254795810621:0=0:=rfl
theorem tw7655549038350614478:0=0:=rfl
theorem tw6692055686711997834:0=0:=rfl
theorem tw8959119529651155957:0=0:=rfl
theorem tw17305709273700173748:0=0:=rfl
theorem tw6633732304966159105:0=0:=rfl
theorem tw4643917199602534646:0=0:=rfl
theorem tw4544041823778973143:0=0:=rfl
theorem tw6875381377599014042:0=0:=rfl
theorem tw6341180619873520671:0=0:=rfl
theorem tw13659024225417479452:0=0:=rfl
theorem tw8407712260438474769:0=0:=rfl
theorem tw13379414681762327784:0=0:=rfl
theorem tw17345666726507418977:0=0:=rfl
theorem tw4150047856179820830:0=0:=rfl
theorem tw4915998802360276893:0=0:=rfl
theorem tw11792944286797278884:0=0:=rfl
theorem tw9858345770431911344:0=0:=rfl
theorem tw4377137991433406956:0=0:=rfl
theorem tw2317995309918513173:0=0:=rfl
theorem tw13128795497900489158:0=0:=rfl
theorem tw16218853656608404687:0=0:=rfl
theorem tw8316474695970658371:0=0:=rfl
theorem tw14023318383528468531:0=0:=rfl
theorem tw9221916502316899375:0=0:=rfl
theorem tw6821509821102210602:0=0:=rfl
theorem tw12683429736718397613:0=0:=rfl
theorem tw9334953820294943540:0=0:=rfl
theorem tw675586238768669953:0=0:=rfl
theorem tw17387923748661851231:0=0:=rfl
theorem tw10318082890636300230:0=0:=rfl
theorem tw9022027472021029885:0=0:=rfl
theorem tw14332301821764823998:0=0:=rfl
theorem tw15660841846412898714:0=0:=rfl
theorem tw11629654995646079351:0=0:=rfl
theorem tw6555530634361424284:0=0:=rfl
theorem tw3823280254525823841:0=0:=rfl
theorem tw9524832731830557006:0=0:=rfl
theorem tw15469367314352970995:0=0:=rfl
theorem tw8537375898164013459:0=0:=rfl
theorem tw12119192774110449343:0=0:=rfl
theorem tw7286783218871454526:0=0:=rfl
theorem tw5132850501121547340:0=0:=rfl
theorem tw8634434572141703732:0=0:=rfl
theorem tw8692089666654424325:0=0:=rfl
theorem tw7966614761949192458:0=0:=rfl
theorem tw16159108673958497260:0=0:=rfl
theorem tw8904881706928804092:0=0:=rfl
theorem tw16758431436715845789:0=0:=rfl
theorem tw8206401686814864386:0=0:=rfl
theorem tw741069692005417659:0=0:=rfl
theorem tw16489328961181261396:0=0:=rfl
theorem tw15577092777080047754:0=0:=rfl
theorem tw5615109345400154406:0=0:=rfl
theorem tw7378482845978551119:0=0:=rfl
theorem tw8309395375980865119:0=0:=rfl
theorem tw10137378143635726180:0=0:=rfl
theorem tw15779110154024976188:0=0:=rfl
theorem tw34547047875023323:0=0:=rfl
theorem tw12430372894959950616:0=0:=rfl
theorem tw14416520154510943439:0=0:=rfl
theorem tw10153886799378034258:0=0:=rfl
theorem tw15732978975262729953:0=0:=rfl
theorem tw12423472057963208868:0=0:=rfl
theorem tw5802192184153675117:0=0:=rfl
theorem tw10328702938269397595:0=0:=rfl
theorem tw5084779384431655026:0=0:=rfl
theorem tw6390886488970020640:0=0:=rfl
theorem tw3502228036808715848:0=0:=rfl
theorem tw15879069757011553005:0=0:=rfl
theorem tw1290601146905649917:0=0:=rfl
theorem tw15458345270367925386:0=0:=rfl
theorem tw5363171491781796329:0=0:=rfl
theorem tw11800030082467314812:0=0:=rfl
theorem tw6686063694523848451:0=0:=rfl
theorem tw14344785750233630520:0=0:=rfl
theorem tw14258696407944964749:0=0:=rfl
theorem tw10816089065282725299:0=0:=rfl
theorem tw14306333860033381699:0=0:=rfl
theorem tw18244574119512835018:0=0:=rfl
theorem tw4924160422819878832:0=0:=rfl
theorem tw14183290509721456531:0=0:=rfl
theorem tw17204284496895465655:0=0:=rfl
theorem tw9429254664845933066:0=0:=rfl
theorem tw15003041459260036986:0=0:=rfl
theorem tw14711236001273541868:0=0:=rfl
theorem tw1690833993222179582:0=0:=rfl
theorem tw1193829351808597048:0=0:=rfl
theorem tw1052222910065575909:0=0:=rfl
theorem tw10937853557449307565:0=0:=rfl
theorem tw3940266376421402252:0=0:=rfl
theorem tw10161291234938194795:0=0:=rfl
theorem tw12233407583541359723:0=0:=rfl
theorem tw2804499074578431469:0=0:=rfl
theorem tw2032784393435759969:0=0:=rfl
theorem tw13855290708173915869:0=0:=rfl
theorem tw741465417219562072:0=0:=rfl
theorem tw10205350042739214568:0=0:=rfl
theorem tw17003252535007889821:0=0:=rfl
theorem tw14777438180170130340:0=0:=rfl
theorem tw290516745675862094:0=0:=rfl
theorem tw10972791574158938829:0=0:=rfl
theorem tw9103030157893225394:0=0:=rfl
theorem tw5770940821763450123:0=0:=rfl
theorem tw13897391343853885330:0=0:=rfl
theorem tw15620688360767606787:0=0:=rfl
theorem tw10095171582152387685:0=0:=rfl
theorem tw5041774557817344021:0=0:=rfl
theorem tw4637225887333005665:0=0:=rfl
theorem tw13938716215094225424:0=0:=rfl
theorem tw11479514728584720700:0=0:=rfl
theorem tw7332889464085946403:0=0:=rfl
theorem tw1080694437462136163:0=0:=rfl
theorem tw12764356420174180481:0=0:=rfl
theorem tw18237906867275803641:0=0:=rfl
theorem tw10355206405358498190:0=0:=rfl
theorem tw14092988434564865763:0=0:=rfl
theorem tw7337747360620488179:0=0:=rfl
theorem tw6473909779120663283:0=0:=rfl
theorem tw16154456862621171494:0=0:=rfl
theorem tw9894652629631261688:0=0:=rfl
theorem tw17507331803441988116:0=0:=rfl
theorem tw7075227767972206478:0=0:=rfl
theorem tw16132838815476618448:0=0:=rfl
theorem tw2684267636774096595:0=0:=rfl
theorem tw1813602663145777671:0=0:=rfl
theorem tw11287159681267985165:0=0:=rfl
theorem tw2868318121439169533:0=0:=rfl
theorem tw7235707845016734150:0=0:=rfl
theorem tw13530018438313476250:0=0:=rfl
theorem tw13207884017372990675:0=0:=rfl
theorem tw13256815190774096011:0=0:=rfl
theorem tw10849243568496549591:0=0:=rfl
theorem tw2071948054777203724:0=0:=rfl
theorem tw16457995117269354599:0=0:=rfl
theorem tw6978172172773346406:0=0:=rfl
theorem tw17995378053574362732:0=0:=rfl
theorem tw14656554948315662301:0=0:=rfl
theorem tw3147771556347171332:0=0:=rfl
theorem tw15200332949785391000:0=0:=rfl
theorem tw16818467326911705827:0=0:=rfl
theorem tw11124101312799798433:0=0:=rfl
theorem tw6791251347572153915:0=0:=rfl
theorem tw11729030944101616593:0=0:=rfl
theorem tw819643807351183828:0=0:=rfl
theorem tw6907599780963731262:0=0:=rfl
theorem tw14824895495891289503:0=0:=rfl
theorem tw9838878903191146908:0=0:=rfl
theorem tw14826552345899614459:0=0:=rfl
theorem tw8972067926822593536:0=0:=rfl
theorem tw16266656496400887536:0=0:=rfl
theorem tw11618437556958587537:0=0:=rfl
theorem tw11903947744214001931:0=0:=rfl
theorem tw8166097473499511016:0=0:=rfl
theorem tw14298713728053758204:0=0:=rfl
theorem tw16681492154446056536:0=0:=rfl
theorem tw15772431620160120333:0=0:=rfl
theorem tw11539015923591870917:0=0:=rfl
theorem tw13874107210644394150:0=0:=rfl
theorem tw2405524643945510485:0=0:=rfl
theorem tw10201526900798966686:0=0:=rfl
theorem tw7547742354548531989:0=0:=rfl
theorem tw1922432823087554042:0=0:=rfl
theorem tw14273186656589031643:0=0:=rfl
theorem tw17709731390319717567:0=0:=rfl
theorem tw6241508069409139832:0=0:=rfl
theorem tw6860133705224588095:0=0:=rfl
theorem tw13004172937112226763:0=0:=rfl
theorem tw3760816009621842996:0=0:=rfl
theorem tw7415813892338013879:0=0:=rfl
theorem tw16537030735308420517:0=0:=rfl
theorem tw16219802101015205300:0=0:=rfl
theorem tw9937323414812417674:0=0:=rfl
theorem tw13382203865713450477:0=0:=rfl
theorem tw10753969874556965164:0=0:=rfl
theorem tw14293104745439827681:0=0:=rfl
theorem tw3724419248601451970:0=0:=rfl
theorem tw12458238556658568628:0=0:=rfl
theorem tw8765715284615163483:0=0:=rfl
theorem tw16573071941525167693:0=0:=rfl
theorem tw5131512869117766584:0=0:=rfl
theorem tw7958383313466603228:0=0:=rfl
theorem tw3015499222114414672:0=0:=rfl
theorem tw13353335784555113280:0=0:=rfl
theorem tw7001881517430852311:0=0:=rfl
theorem tw16155387620321010164:0=0:=rfl
theorem tw1456913053408101784:0=0:=rfl
theorem tw10021690386827201555:0=0:=rfl
theorem tw9862661724116186392:0=0:=rfl
theorem tw15242510785568485716:0=0:=rfl
theorem tw4650915311851228243:0=0:=rfl
theorem tw5674778970203100377:0=0:=rfl
theorem tw13391548717987794515:0=0:=rfl
theorem tw4300774495418994534:0=0:=rfl
theorem tw11337353186557899134:0=0:=rfl
theorem tw12510376529071206710:0=0:=rfl
theorem tw3810310517104552744:0=0:=rfl
theorem tw1408242807897248358:0=0:=rfl
theorem tw14344635305683579138:0=0:=rfl
theorem tw4929757787028641004:0=0:=rfl
theorem tw7285802769283747870:0=0:=rfl
theorem tw6751953838184525121:0=0:=rfl
theorem tw9475132320601691799:0=0:=rfl
theorem tw10492195906745475846:0=0:=rfl
theorem tw9559223436210421838:0=0:=rfl
theorem tw17761681223359119492:0=0:=rfl
theorem tw7548689793064080597:0=0:=rfl
theorem tw6828497275160252590:0=0:=rfl
theorem tw7555189680561680205:0=0:=rfl
theorem tw3608602541978115994:0=0:=rfl
theorem tw3033992056332527992:0=0:=rfl
theorem tw18252894872810149473:0=0:=rfl
theorem tw2734288018834292065:0=0:=rfl
theorem tw16021779739073608297:0=0:=rfl
theorem tw13531805703441748556:0=0:=rfl
theorem tw4496518298574320329:0=0:=rfl
theorem tw7663684233839187222:0=0:=rfl
theorem tw14258773215212986038:0=0:=rfl
theorem tw8618554231943891615:0=0:=rfl
theorem tw12028342427211338367:0=0:=rfl
theorem tw9029544363048898207:0=0:=rfl
theorem tw16457447226757599407:0=0:=rfl
theorem tw5210117140162496296:0=0:=rfl
theorem tw16960987817643342335:0=0:=rfl
theorem tw335838204754931285:0=0:=rfl
theorem tw10570739899695651696:0=0:=rfl
theorem tw11901201332470634879:0=0:=rfl
theorem tw8776636887309676075:0=0:=rfl
theorem tw11720200659368441637:0=0:=rfl
theorem tw17029013922781221882:0=0:=rfl
theorem tw3642138614612389665:0=0:=rfl
theorem tw7215744735511845291:0=0:=rfl
theorem tw10505780763428340376:0=0:=rfl
theorem tw15676951019478389096:0=0:=rfl
theorem tw13860885504645892211:0=0:=rfl
theorem tw11374152833598216832:0=0:=rfl
theorem tw5717174295832076845:0=0:=rfl
theorem tw6409419029268997581:0=0:=rfl
theorem tw16264054390994282652:0=0:=rfl
theorem tw9719567026775540788:0=0:=rfl
theorem tw17214602067319238779:0=0:=rfl
theorem tw6897166045710596853:0=0:=rfl
theorem tw8122465694301740290:0=0:=rfl
theorem tw6496555551060198898:0=0:=rfl
theorem tw9370022108679276699:0=0:=rfl
end PySem.W.Fast
open PySem PySem.W PyProof.Rows
set_option maxRecDepth 100000 in
set_option maxHeartbeats 0 in
theorem PySem.Challenge.cw_swapstride_k42_ways_looked_at_holds : PySem.Challenge.rw_swapstride_k42_ways_looked_at.Holds := by
 w_on;o_law;k_head;(case hw=>w_witness2)
 k_fill
 refine L2.walk_of (l:=PySem.Challenge.rw_swapstride_k42_ways_looked_at) (n:=63) (k:=100) (x:="_law_script") (CX:=λ_=>L2.CX0) (sp:=λ_=>K42.spLaw _) rfl (by decide) rfl ⟨rfl,by decide,by decide⟩ (λw h Y=>PySem.W.kIn_of Y) ?F (λ_ _ a ns hl _ hS=>⟨a,ns,rfl,hS,hl,λ_=>rfl⟩) λ_ _ _ _ _ z=>z
 case F=>
  intro w mg fa h KX G hmg
  have jA:L2.DefTx (L2.KOf KX) mg "need_once" K42.s_need_once L2.qar:=by
   walk_at"d"
  have jB:L2.DefTx (L2.KOf KX) mg "sort_of" K42.s_sort_of L2.qac:=by
   walk_at"d"
  have jC:L2.DefTx (L2.KOf KX) mg "parts_of" K42.s_parts_of L2.qac:=by
   walk_at"d"
  have jD:L2.DefTx (L2.KOf KX) mg "need_there" K42.s_need_there L2.qae:=by
   walk_at"d"
  have jE:L2.DefTx (L2.KOf KX) mg "kind_of" K42.s_kind_of L2.qaa:=by
   walk_at"d"
  have jF:L2.DefTx (L2.KOf KX) mg "num_kind" K42.s_num_kind ["n"]:=by
   walk_at"d"
  have jG:L2.DefTx (L2.KOf KX) mg "box_kind" K42.s_box_kind L2.qas:=by
   walk_at"d"
  have jH:L2.DefTx (L2.KOf KX) mg "op_kind" K42.s_op_kind L2.qaa:=by
   walk_at"d"
  have jI:L2.DefTx (L2.KOf KX) mg "rec_kind" K42.s_rec_kind L2.qaa:=by
   walk_at"d"
  have jJ:L2.DefTx (L2.KOf KX) mg "get_kind" K42.s_get_kind L2.qaa:=by
   walk_at"d"
  have jK:L2.DefTx (L2.KOf KX) mg "tag_kind" K42.s_tag_kind L2.qaa:=by
   walk_at"d"
  have jL:L2.DefTx (L2.KOf KX) mg "case_kind" K42.s_case_kind L2.qaa:=by
   walk_at"d"
  have jM:L2.DefTx (L2.KOf KX) mg "arm_kind" K42.s_arm_kind L2.qa4:=by
   walk_at"d"
  have jN:L2.DefTx (L2.KOf KX) mg "if_kind" K42.s_if_kind L2.qaa:=by
   walk_at"d"
  have jO:L2.DefTx (L2.KOf KX) mg "need_kind" K42.s_need_kind L2.qag:=by
   walk_at"d"
  have jP:L2.DefTx (L2.KOf KX) mg "need_same" K42.s_need_same L2.qak:=by
   walk_at"d"
  have jQ:L2.DefTx (L2.KOf KX) mg "need_sort" K42.s_need_sort L2.qat:=by
   walk_at"d"
  have jR:L2.DefTx (L2.KOf KX) mg "kind_of_sort" K42.s_kind_of_sort L2.qau:=by
   walk_at"d"
  have jS:L2.DefTx (L2.KOf KX) mg "part_kind" K42.s_part_kind L2.qal:=by
   walk_at"d"
  have jT:L2.DefTx (L2.KOf KX) mg "need_tags" K42.s_need_tags L2.qa5:=by
   walk_at"d"
  have jU:L2.DefTx (L2.KOf KX) mg "with_box" K42.s_with_box L2.qa6:=by
   walk_at"d"
  have jV:L2.DefTx (L2.KOf KX) mg "nought_term" K42.s_nought_term L2.qae:=by
   walk_at"d"
  have jW:L2.DefTx (L2.KOf KX) mg "goes_to" K42.s_goes_to L2.qah:=by
   walk_at"d"
  have jX:L2.DefTx (L2.KOf KX) mg "boxes_over" K42.s_boxes_over L2.qav:=by
   walk_at"d"
  have jY:L2.DefTx (L2.KOf KX) mg "look_ways" K42.s_look_ways L2.qam:=by
   walk_at"d"
  have jZ:L2.DefTx (L2.KOf KX) mg "look_ends" K42.s_look_ends L2.qax:=by
   walk_at"d"
  have j0:L2.DefTx (L2.KOf KX) mg "look_form" K42.s_look_form L2.qa7:=by
   walk_at"d"
  have j1:L2.DefTx (L2.KOf KX) mg "is_term" K42.s_is_term ["how"]:=by
   walk_at"d"
  have j2:L2.DefTx (L2.KOf KX) mg "look_terms" K42.s_look_terms L2.qaw:=by
   walk_at"d"
  have j3:L2.DefTx (L2.KOf KX) mg "made_ways" K42.s_made_ways L2.qao:=by
   walk_at"d"
  have j4:L2.DefTx (L2.KOf KX) mg "how_by_rules" K42.s_how_by_rules L2.qai:=by
   walk_at"d"
  have j5:L2.DefTx (L2.KOf KX) mg "terms_by_rules" K42.s_terms_by_rules L2.qa8:=by
   walk_at"d"
  have j6:L2.DefTx (L2.KOf KX) mg "tags_by_rules" K42.s_tags_by_rules L2.qai:=by
   walk_at"d"
  have j7:L2.DefTx (L2.KOf KX) mg "_law_feed" K42.sl_feed L2.qa9:=by
   walk_at"d"
  have j8:L2.DefTx (L2.KOf KX) mg "_law_take" K42.sl_take L2.qad:=by
   walk_at"d"
  have j9:L2.DefTx (L2.KOf KX) mg "_law_names" K42.sl_names L2.qba:=by
   walk_at"d"
  have kA:L2.DefTx (L2.KOf KX) mg "_law_number" K42.sl_number L2.qaj:=by
   walk_at"d"
  have kB:L2.DefTx (L2.KOf KX) mg "_law_sort_of" K42.sl_sort_of L2.qab:=by
   walk_at"d"
  have kC:L2.DefTx (L2.KOf KX) mg "_law_size" K42.sl_size L2.qab:=by
   walk_at"d"
  have kD:L2.DefTx (L2.KOf KX) mg "_law_small" K42.sl_small L2.qab:=by
   walk_at"d"
  have kE:L2.DefTx (L2.KOf KX) mg "_law_parts" K42.sl_parts L2.qap:=by
   walk_at"d"
  have kF:L2.DefTx (L2.KOf KX) mg "_law_kinds" K42.sl_kinds L2.qbb:=by
   walk_at"d"
  have kG:L2.DefTx (L2.KOf KX) mg "_law_boxed" K42.sl_boxed L2.qay:=by
   walk_at"d"
  have kH:L2.DefTx (L2.KOf KX) mg "_law_arms" K42.sl_arms L2.qbc:=by
   walk_at"d"
  have kI:L2.DefTx (L2.KOf KX) mg "_law_whole_term" K42.sl_whole_term L2.qaf:=by
   walk_at"d"
  have kJ:L2.DefTx (L2.KOf KX) mg "_law_term" K42.sl_term L2.qaf:=by
   walk_at"d"
  have kK:L2.DefTx (L2.KOf KX) mg "_law_new_term" K42.sl_new_term L2.qaq:=by
   walk_at"d"
  have kL:L2.DefTx (L2.KOf KX) mg "_law_any_kind" K42.sl_any_kind L2.qan:=by
   walk_at"d"
  have kM:L2.DefTx (L2.KOf KX) mg "_law_beside_parts" K42.sl_beside_parts L2.qbd:=by
   walk_at"d"
  have kN:L2.DefTx (L2.KOf KX) mg "_law_beside" K42.sl_beside L2.qaz:=by
   walk_at"d"
  have kO:L2.DefTx (L2.KOf KX) mg "_law_way" K42.sl_way L2.qa0:=by
   walk_at"d"
  have kP:L2.DefTx (L2.KOf KX) mg "_law_told" K42.sl_told L2.qa1:=by
   walk_at"d"
  have kQ:L2.DefTx (L2.KOf KX) mg "_law_class" K42.sl_class L2.qbe:=by
   walk_at"d"
  have kR:L2.DefTx (L2.KOf KX) mg "_law_all" K42.sl_all L2.qa2:=by
   walk_at"d"
  have kT:L2.DefTx (L2.KOf KX) mg "_law_hidden" K42.sl_hidden L2.qa3:=by
   walk_at"d"
  have kU:L2.DefTx (L2.KOf KX) mg "_law_wrong_term" K42.sl_wrong_term L2.qbf:=by
   walk_at"d"
  have kW:L2.DefTx (L2.KOf KX) mg "_law_spoilt" K42.sl_spoilt L2.qbg:=by
   walk_at"d"
  have kX:L2.DefTx (L2.KOf KX) mg "law" K42.s_law ["_law_script"]:=by
   walk_at"d"
  have kY:∃t,mg "WIDE"=some (.int 4294967296 t):=by
   refine' L2.gint_mk KX G ?a
   (case a=>k_is)
  have kZ:mg "ValueError"=none:=by
   refine' PySem.W.mg_none_of KX G ?a
   (case a=>k_is)
  have k4:mg "dict"=none:=by
   refine' PySem.W.mg_none_of KX G ?a
   (case a=>k_is)
  have k6:mg "int"=none:=by
   refine' PySem.W.mg_none_of KX G ?a
   (case a=>k_is)
  have k7:mg "isinstance"=none:=by
   refine' PySem.W.mg_none_of KX G ?a
   (case a=>k_is)
  have k8:mg "len"=none:=by
   refine' PySem.W.mg_none_of KX G ?a
   (case a=>k_is)
  have uA:mg "list"=none:=by
   refine' PySem.W.mg_none_of KX G ?a
   (case a=>k_is)
  have uB:mg "max"=none:=by
   refine' PySem.W.mg_none_of KX G ?a
   (case a=>k_is)
  have uC:mg "range"=none:=by
   refine' PySem.W.mg_none_of KX G ?a
   (case a=>k_is)
  have uD:mg "reversed"=none:=by
   refine' PySem.W.mg_none_of KX G ?a
   (case a=>k_is)
  have uE:mg "set"=none:=by
   refine' PySem.W.mg_none_of KX G ?a
   (case a=>k_is)
  have uF:mg "str"=none:=by
   refine' PySem.W.mg_none_of KX G ?a
   (case a=>k_is)
  have uG:mg "sum"=none:=by
   refine' PySem.W.mg_none_of KX G ?a
   (case a=>k_is)
  have uH:mg "tuple"=none:=by
   refine' PySem.W.mg_none_of KX G ?a
   (case a=>k_is)
  have uI:mg "zip"=none:=by
   refine' PySem.W.mg_none_of KX G ?a
   (case a=>k_is)
  have uJ:mg "BadText"=some (.ref (L2.cAt (L2.KOf KX) 0)):=by
   refine' PySem.W.mg_of KX G ?a
   (case a=>kernel_rfl)
  have uK:mg "Twice"=some (.ref (L2.cAt (L2.KOf KX) 1)):=by
   refine' PySem.W.mg_of KX G ?a
   (case a=>kernel_rfl)
  have uL:mg "NoName"=some (.ref (L2.cAt (L2.KOf KX) 2)):=by
   refine' PySem.W.mg_of KX G ?a
   (case a=>kernel_rfl)
  have uM:mg "NoCount"=some (.ref (L2.cAt (L2.KOf KX) 3)):=by
   refine' PySem.W.mg_of KX G ?a
   (case a=>kernel_rfl)
  have uN:mg "WrongKind"=some (.ref (L2.cAt (L2.KOf KX) 4)):=by
   refine' PySem.W.mg_of KX G ?a
   (case a=>kernel_rfl)
  have uO:mg "Lacks"=some (.ref (L2.cAt (L2.KOf KX) 5)):=by
   refine' PySem.W.mg_of KX G ?a
   (case a=>kernel_rfl)
  have uP:mg "NotOwn"=some (.ref (L2.cAt (L2.KOf KX) 6)):=by
   refine' PySem.W.mg_of KX G ?a
   (case a=>kernel_rfl)
  have uQ:mg "Falls"=some (.ref (L2.cAt (L2.KOf KX) 7)):=by
   refine' PySem.W.mg_of KX G ?a
   (case a=>kernel_rfl)
  have uR:mg "TooBig"=some (.ref (L2.cAt (L2.KOf KX) 8)):=by
   refine' PySem.W.mg_of KX G ?a
   (case a=>kernel_rfl)
  have uS:mg "NoFit"=some (.ref (L2.cAt (L2.KOf KX) 9)):=by
   refine' PySem.W.mg_of KX G ?a
   (case a=>kernel_rfl)
  have uT:mg "NoCode"=some (.ref (L2.cAt (L2.KOf KX) 10)):=by
   refine' PySem.W.mg_of KX G ?a
   (case a=>kernel_rfl)
  have uU:mg "SwapError"=some (.ref (L2.ad (L2.KOf KX) "SwapError")):=by
   refine' PySem.W.mg_of KX G ?a
   (case a=>kernel_rfl)
  have xt2:L2.XTab2 (L2.KOf KX):=by
   refine' L2.xtab2_of ?a
   (case a=>kernel_rfl)
  have xt:L2.XTab (L2.KOf KX):=by
   refine' L2.xtab_of ?a
   (case a=>kernel_rfl)
  have it:L2.InitTx (L2.KOf KX) "BadText.__init__" (L2.ad (L2.KOf KX) "BadText") K42.s_init ["self","at"]:=by
   dsimp only[L2.KOf];refine' L2.init_mk ?a ?i ?n ?l ?c ?k ?b
   (case a=>k_is);(case i=>k_is);(case n=>k_is);(case l=>k_is);(case c=>k_is);(case k=>k_is)
   (case b=>exact λ_ _ _ _ _ _ us hl=>match us,hl with |[_,_],_=>rfl)
  have T:K42.Tx (L2.KOf KX) mg:=⟨jA,jB,jC,jD,jE,jF,jG,jH,jI,jJ,jK,jL,jM,jN,jO,jP,jQ,jR,jS,jT,jU,jV,jW,jX,jY,jZ,j0,j1,j2,j3,j4,j5,j6,j7,j8,j9,kA,kB,kC,kD,kE,kF,kG,kH,kI,kJ,kK,kL,kM,kN,kO,kP,kQ,kR,kT,kU,kW,kX,kY,kZ,k4,k6,k7,k8,uA,uB,uC,uD,uE,uF,uG,uH,uI,uJ,uK,uL,uM,uN,uO,uP,uQ,uR,uS,uT,uU,xt2,xt,it⟩;exact L2.law_top kX hmg λbase=>K42.law_is T
