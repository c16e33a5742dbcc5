import PyProof.Rows.All
import Wide.All
import OpenK.AllK
import Wide.FinOn
import Lean
import PyProof.EqAt
import PyProof.EqKinds
import PyProof.TupleCall
import PyProof.ZipIter
import PyProof.ListNew
import PyProof.TupleIter
import PyProof.WalksMore
import KE.KIntText
import PyProof.Rows.EqBoolInt
import PyProof.Rows.ZipGen
import PySem.Str
import PyProof.StrLawsTight
import PyProof.StrLawsIdx
import PyProof.StrLawsIn
import PyProof.Rows.SetFrom
import KE.KDictSum
import PyProof.Rows.SortWalk
import PyProof.NeKinds
import KE.KDictList
import KE.KRevIter
import PyProof.EnumMake
import PyProof.Rows.EnumRows
import PyProof.ExcInit
import PyProof.InstStoreFacts
import PyProof.ExcArgsOwn
import PyProof.ExcAttrAll.ValueError
import PyProof.ExcBaseAll.ValueError
import PyProof.ConsumeWalk
import PyProof.AttrMissHeap
import KE.KItemsList
import KE.KEqDict
import PyProof.StationsW
import PyProof.RulesAs
import PyProof.NsDelKeeps
import PyProof.ListMulRoad
import PyProof.FactsAll.tuple
import OpenK.KMore
import PyProof.DictWalks
import KE.KPairComp
import PyProof.DictValues
import PyProof.AutoListH
import PySem.Challenge.RW_swapstride_k37_whole_two_weavings
set_option Elab.async false
set_option linter.all false
set_option maxRecDepth 100000
set_option maxHeartbeats 4000000
abbrev Fg:=PySem.W.Frag
local macro_rules | `(tactic| walk_at"o")=>`(tactic| first |exact Or.inl rfl |exact Or.inr rfl)
local macro_rules | `(tactic| walk_at"q")=>`(tactic| exact⟨rfl,rfl,rfl,by decide +kernel,rfl,by decide +kernel,by decide +kernel⟩)
local macro_rules | `(tactic| walk_at"k")=>`(tactic| decide +kernel)
local macro_rules | `(tactic| walk_at"c")=>`(tactic| ((case a=>k_is);(case l=>k_is);(case c=>k_is);(case k=>k_is)))
set_option hygiene false in
local macro_rules | `(tactic| walk_at"d")=>`(tactic| (dsimp only[L2.KOf];refine' L2.deftx_mk KX G ?a ?l ?c ?k ?b;(case a=>k_is);(case l=>k_is);(case c=>k_is);(case k=>k_is);(case b=>(intro _ _ _ _ _ _ us hl;first |(obtain⟨_,rfl⟩:=L2.ln1 hl;rfl) |(obtain⟨_,_,rfl⟩:=L2.ln2 hl;rfl) |(obtain⟨_,_,_,rfl⟩:=L2.ln3 hl;rfl) |(obtain⟨_,_,_,_,rfl⟩:=L2.ln4 hl;rfl) |(obtain⟨_,_,_,_,_,rfl⟩:=L2.ln5 hl;rfl) |(obtain⟨_,_,_,_,_,_,rfl⟩:=L2.ln6 hl;rfl) |(obtain⟨_,_,_,_,_,_,_,rfl⟩:=L2.ln7 hl;rfl)))))
set_option hygiene false in
local macro_rules | `(tactic| walk_at"i")=>`(tactic| first |intro f cdv A outer s H vs Q E hr h |intro vs H Q E h)
local macro_rules | `(tactic| walk_at"s")=>`(tactic| first |(show 2 ≤ PySem.sizeLine;decide) |(show 3 ≤ PySem.sizeLine;decide) |(show 1 ≤ PySem.sizeLine;decide) |(show 0 ≤ PySem.sizeLine;decide) |(show 4 ≤ PySem.sizeLine;decide) |(show 5 ≤ PySem.sizeLine;decide) |(show 6 ≤ PySem.sizeLine;decide) |(show 8 ≤ PySem.sizeLine;decide))
theorem zGA{α:Type _}{l:List α}{i:Nat}(h:i<l.length):l[i]?=some l[i]:=List.getElem?_eq_getElem h
theorem zMS{α β:Type _}{f:α→β}{x:Option α}{b:β}(h:x.map f=some b):∃a,x=some a∧f a=b:=Option.map_eq_some_iff.mp h
theorem zLM{α β:Type _}{as:List α}(f:α→β):(as.map f).length=as.length:=List.length_map f
theorem zGM{α β:Type _}{f:α→β}{l:List α}{i:Nat}:(l.map f)[i]?=l[i]?.map f:=List.getElem?_map
theorem zES{α:Type _}{l:List α}{i:Nat}{a:α}(h:l[i]?=some a):∃h:i<l.length,l[i]=a:=List.getElem?_eq_some_iff.mp h
theorem zMG{α:Type _}{l:List α}{i:Nat}{a:α}(e:l[i]?=some a):a∈l:=List.mem_of_getElem? e
theorem zTL{α:Type _}{i:Nat}{l:List α}(h:l.length ≤ i):l.take i=l:=List.take_of_length_le h
theorem zMA{α:Type _}{a:α}{s t:List α}(h:a∈s++t):a∈s∨a∈t:=List.mem_append.mp h
theorem zMO{α:Type _}{a b:α}(h:a∈[b]):a=b:=List.mem_singleton.mp h
theorem zDT{p:Prop}[Decidable p](h:p):decide p=true:=decide_eq_true h
theorem zDF{p:Prop}[Decidable p](h:¬p):decide p=false:=decide_eq_false h
local macro_rules | `(tactic| walk_at"l")=>`(tactic| (intro vs H Q E h;(repeat (rcases h with⟨_,h⟩)) <;> (subst_vars;rfl)))
local macro_rules | `(tactic| walk_at"rd1")=>`(tactic| first
 |refine⟨_,rfl,?_⟩
 |refine⟨_,_,rfl,rfl,?_⟩
 |refine⟨_,_,_,_,rfl,rfl,(by assumption),(by first |rfl |assumption),?_⟩
 |refine⟨rfl,?_⟩
 |refine M.iteKF (by walk_at"k") ?_
 |refine M.iteKT (by walk_at"k") ?_)
local macro_rules | `(tactic| walk_at"rd")=>`(tactic| repeat walk_at"rd1")
local macro_rules | `(tactic| walk_at"rd1")=>`(tactic| first
 |refine⟨_,rfl,?_⟩
 |refine⟨_,_,rfl,rfl,?_⟩
 |refine⟨_,_,_,_,rfl,rfl,(by assumption),(by first |rfl |assumption),?_⟩
 |refine⟨_,_,rfl,.inl (by assumption),?_⟩
 |refine⟨(by first |exact .inr ⟨by decide,by decide⟩ |exact .inl ⟨by decide,by decide⟩ |exact⟨by decide,by decide,by decide⟩ |exact⟨by decide,by decide⟩ |exact⟨by assumption,by assumption⟩ |(show(0:Int)<_;first |decide |assumption)),?_⟩
 |refine⟨rfl,?_⟩)
section
open PySem
theorem zPO{h:Heap}{a:Addr}{u:Obj}(o:Obj)(e:h.get? a=some u):(h.push o).get? a=some u:=Heap.get?_push_of_some o e
theorem zLA{α:Type _}{as bs:List α}:(as++bs).length=as.length+bs.length:=List.length_append
theorem zMF{α:Type _}{p:α→Bool}{a:α}{l:List α}(h:l.find? p=some a):a∈l:=List.mem_of_find?_eq_some h
theorem zTA{α:Type _}{l:List α}{i:Nat}:l.take (i+1)=l.take i++l[i]?.toList:=List.take_add_one
theorem zMI{α:Type _}{a:α}{l:List α}(h:a∈l):∃(i:Nat) (h:i<l.length),l[i]=a:=List.mem_iff_getElem.mp h
theorem zMC{α:Type _}{a b:α}{l:List α}(h:a∈b::l):a=b∨a∈l:=List.mem_cons.mp h
theorem zMP{α β:Type _}{b:β}{f:α→β}{l:List α}(h:b∈l.map f):∃a,a∈l∧f a=b:=List.mem_map.mp h
theorem zAP{α β:Type _}{f:α→β}{as bs:List α}:(as++bs).map f=as.map f++bs.map f:=List.map_append
end
namespace L2
theorem ln1{α:Type}{l:List α}(h:l.length=1):∃a,l=[a]:=match l,h with |[a],_=>⟨a,rfl⟩
theorem ln2{α:Type}{l:List α}(h:l.length=2):∃a b,l=[a,b]:=match l,h with |[a,b],_=>⟨a,b,rfl⟩
theorem ln3{α:Type}{l:List α}(h:l.length=3):∃a b c,l=[a,b,c]:=match l,h with |[a,b,c],_=>⟨a,b,c,rfl⟩
theorem ln4{α:Type}{l:List α}(h:l.length=4):∃a b c d,l=[a,b,c,d]:=match l,h with |[a,b,c,d],_=>⟨a,b,c,d,rfl⟩
theorem ln5{α:Type}{l:List α}(h:l.length=5):∃a b c d e,l=[a,b,c,d,e]:=match l,h with |[a,b,c,d,e],_=>⟨a,b,c,d,e,rfl⟩
theorem ln6{α:Type}{l:List α}(h:l.length=6):∃a b c d e f,l=[a,b,c,d,e,f]:=match l,h with |[a,b,c,d,e,f],_=>⟨a,b,c,d,e,f,rfl⟩
theorem ln7{α:Type}{l:List α}(h:l.length=7):∃a b c d e f g,l=[a,b,c,d,e,f,g]:=match l,h with |[a,b,c,d,e,f,g],_=>⟨a,b,c,d,e,f,g,rfl⟩
end L2
section
theorem gcut{A:Prop}(h:∀G:Prop,(A->G)->G):A:=h A id
theorem jAA{p:Prop}{q:Prop}{F:Prop}(H0:p)(H1:q)(k:F):p/\q/\F:=⟨H0,H1,k⟩
theorem jAAA{p:Prop}{q:Prop}{r:Prop}{F:Prop}(H0:p)(H1:q)(H2:r)(k:F):p/\q/\r/\F:=⟨H0,H1,H2,k⟩
theorem jAE{p:Prop}{a:Sort _}{F:a->Prop}(H0:p)(u:a)(k:F u):p/\∃u,F u:=⟨H0,u,k⟩
theorem jAEA{p:Prop}{a:Sort _}{q:a->Prop}{F:a->Prop}(H0:p)(u:a)(H1:q u)(k:F u):p/\∃u,q u/\F u:=⟨H0,u,H1,k⟩
theorem xga{p:Prop}{a:Sort _}{q:a->Prop}{r:a->Prop}{F:a->Prop}(H0:p)(u:a)(H1:q u)(H2:r u)(k:F u):p/\∃u,q u/\r u/\F u:=⟨H0,u,H1,H2,k⟩
theorem jEA{a:Sort _}{p:a->Prop}{F:a->Prop}(u:a)(H0:p u)(k:F u):∃u,p u/\F u:=⟨u,H0,k⟩
theorem jEAA{a:Sort _}{p:a->Prop}{q:a->Prop}{F:a->Prop}(u:a)(H0:p u)(H1:q u)(k:F u):∃u,p u/\q u/\F u:=⟨u,H0,H1,k⟩
theorem xbt{a:Sort _}{p:a->Prop}{q:a->Prop}{r:a->Prop}{F:a->Prop}(u:a)(H0:p u)(H1:q u)(H2:r u)(k:F u):∃u,p u/\q u/\r u/\F u:=⟨u,H0,H1,H2,k⟩
theorem xbi{a:Sort _}{p:a->Prop}{q:a->Prop}{r:a->Prop}{i:a->Prop}{F:a->Prop}(u:a)(H0:p u)(H1:q u)(H2:r u)(H3:i u)(k:F u):∃u,p u/\q u/\r u/\i u/\F u:=⟨u,H0,H1,H2,H3,k⟩
theorem xbx{a:Sort _}{p:a->Prop}{q:a->Prop}{r:a->Prop}{i:a->Prop}{j:a->Prop}{F:a->Prop}(u:a)(H0:p u)(H1:q u)(H2:r u)(H3:i u)(H4:j u)(k:F u):∃u,p u/\q u/\r u/\i u/\j u/\F u:=⟨u,H0,H1,H2,H3,H4,k⟩
theorem xa4{a:Sort _}{p:a->Prop}{q:a->Prop}{b:Sort _}{r:a->b->Prop}{F:a->b->Prop}(u:a)(H0:p u)(H1:q u)(v:b)(H2:r u v)(k:F u v):∃u,p u/\q u/\∃v,r u v/\F u v:=⟨u,H0,H1,v,H2,k⟩
theorem xbj{a:Sort _}{p:a->Prop}{q:a->Prop}{b:Sort _}{c:Sort _}{r:a->b->c->Prop}{i:a->b->c->Prop}{F:a->b->c->Prop}(u:a)(H0:p u)(H1:q u)(v:b)(w:c)(H2:r u v w)(H3:i u v w)(k:F u v w):∃u,p u/\q u/\∃v,∃w,r u v w/\i u v w/\F u v w:=⟨u,H0,H1,v,w,H2,H3,k⟩
theorem xa3{a:Sort _}{p:a->Prop}{b:Sort _}{q:a->b->Prop}{r:a->b->Prop}{F:a->b->Prop}(u:a)(H0:p u)(v:b)(H1:q u v)(H2:r u v)(k:F u v):∃u,p u/\∃v,q u v/\r u v/\F u v:=⟨u,H0,v,H1,H2,k⟩
theorem xcv{a:Sort _}{p:a->Prop}{b:Sort _}{q:a->b->Prop}{r:a->b->Prop}{c:Sort _}{i:a->b->c->Prop}{F:a->b->c->Prop}(u:a)(H0:p u)(v:b)(H1:q u v)(H2:r u v)(w:c)(H3:i u v w)(k:F u v w):∃u,p u/\∃v,q u v/\r u v/\∃w,i u v w/\F u v w:=⟨u,H0,v,H1,H2,w,H3,k⟩
theorem xax{a:Sort _}{p:a->Prop}{b:Sort _}{q:a->b->Prop}{c:Sort _}{r:a->b->c->Prop}{d:Sort _}{i:a->b->c->d->Prop}{e:Sort _}{j:a->b->c->d->e->Prop}{F:a->b->c->d->e->Prop}(u:a)(H0:p u)(v:b)(H1:q u v)(w:c)(H2:r u v w)(x:d)(H3:i u v w x)(y:e)(H4:j u v w x y)(k:F u v w x y):∃u,p u/\∃v,q u v/\∃w,r u v w/\∃x,i u v w x/\∃y,j u v w x y/\F u v w x y:=⟨u,H0,v,H1,w,H2,x,H3,y,H4,k⟩
theorem xbp{a:Sort _}{p:a->Prop}{b:Sort _}{q:a->b->Prop}{c:Sort _}{r:a->b->c->Prop}{d:Sort _}{e:Sort _}{F:a->b->c->d->e->Prop}(u:a)(H0:p u)(v:b)(H1:q u v)(w:c)(H2:r u v w)(x:d)(y:e)(k:F u v w x y):∃u,p u/\∃v,q u v/\∃w,r u v w/\∃x,∃y,F u v w x y:=⟨u,H0,v,H1,w,H2,x,y,k⟩
theorem xap{a:Sort _}{p:a->Prop}{b:Sort _}{q:a->b->Prop}{c:Sort _}{r:a->b->c->Prop}{d:Sort _}{e:Sort _}{i:a->b->c->d->e->Prop}{j:a->b->c->d->e->Prop}{F:a->b->c->d->e->Prop}(u:a)(H0:p u)(v:b)(H1:q u v)(w:c)(H2:r u v w)(x:d)(y:e)(H3:i u v w x y)(H4:j u v w x y)(k:F u v w x y):∃u,p u/\∃v,q u v/\∃w,r u v w/\∃x,∃y,i u v w x y/\j u v w x y/\F u v w x y:=⟨u,H0,v,H1,w,H2,x,y,H3,H4,k⟩
theorem xbb{a:Sort _}{p:a->Prop}{b:Sort _}{q:a->b->Prop}{c:Sort _}{d:Sort _}{r:a->b->c->d->Prop}{i:a->b->c->d->Prop}{e:Sort _}{F:a->b->c->d->e->Prop}(u:a)(H0:p u)(v:b)(H1:q u v)(w:c)(x:d)(H2:r u v w x)(H3:i u v w x)(y:e)(k:F u v w x y):∃u,p u/\∃v,q u v/\∃w,∃x,r u v w x/\i u v w x/\∃y,F u v w x y:=⟨u,H0,v,H1,w,x,H2,H3,y,k⟩
theorem xam{a:Sort _}{p:a->Prop}{b:Sort _}{q:a->b->Prop}{c:Sort _}{d:Sort _}{e:Sort _}{F:a->b->c->d->e->Prop}(u:a)(H0:p u)(v:b)(H1:q u v)(w:c)(x:d)(y:e)(k:F u v w x y):∃u,p u/\∃v,q u v/\∃w,∃x,∃y,F u v w x y:=⟨u,H0,v,H1,w,x,y,k⟩
theorem xb5{a:Sort _}{p:a->Prop}{b:Sort _}{q:a->b->Prop}{c:Sort _}{d:Sort _}{e:Sort _}{r:a->b->c->d->e->Prop}{i:a->b->c->d->e->Prop}{j:a->b->c->d->e->Prop}{F:a->b->c->d->e->Prop}(u:a)(H0:p u)(v:b)(H1:q u v)(w:c)(x:d)(y:e)(H2:r u v w x y)(H3:i u v w x y)(H4:j u v w x y)(k:F u v w x y):∃u,p u/\∃v,q u v/\∃w,∃x,∃y,r u v w x y/\i u v w x y/\j u v w x y/\F u v w x y:=⟨u,H0,v,H1,w,x,y,H2,H3,H4,k⟩
theorem xat{a:Sort _}{p:a->Prop}{b:Sort _}{c:Sort _}{q:a->b->c->Prop}{r:a->b->c->Prop}{F:a->b->c->Prop}(u:a)(H0:p u)(v:b)(w:c)(H1:q u v w)(H2:r u v w)(k:F u v w):∃u,p u/\∃v,∃w,q u v w/\r u v w/\F u v w:=⟨u,H0,v,w,H1,H2,k⟩
theorem xbg{a:Sort _}{p:a->Prop}{b:Sort _}{c:Sort _}{q:a->b->c->Prop}{r:a->b->c->Prop}{d:Sort _}{i:a->b->c->d->Prop}{F:a->b->c->d->Prop}(u:a)(H0:p u)(v:b)(w:c)(H1:q u v w)(H2:r u v w)(x:d)(H3:i u v w x)(k:F u v w x):∃u,p u/\∃v,∃w,q u v w/\r u v w/\∃x,i u v w x/\F u v w x:=⟨u,H0,v,w,H1,H2,x,H3,k⟩
theorem xbf{a:Sort _}{p:a->Prop}{b:Sort _}{c:Sort _}{q:a->b->c->Prop}{r:a->b->c->Prop}{d:Sort _}{e:Sort _}{i:a->b->c->d->e->Prop}{j:a->b->c->d->e->Prop}{F:a->b->c->d->e->Prop}(u:a)(H0:p u)(v:b)(w:c)(H1:q u v w)(H2:r u v w)(x:d)(y:e)(H3:i u v w x y)(H4:j u v w x y)(k:F u v w x y):∃u,p u/\∃v,∃w,q u v w/\r u v w/\∃x,∃y,i u v w x y/\j u v w x y/\F u v w x y:=⟨u,H0,v,w,H1,H2,x,y,H3,H4,k⟩
theorem xbc{a:Sort _}{p:a->Prop}{b:Sort _}{c:Sort _}{d:Sort _}{q:a->b->c->d->Prop}{r:a->b->c->d->Prop}{i:a->b->c->d->Prop}{e:Sort _}{j:a->b->c->d->e->Prop}{F:a->b->c->d->e->Prop}(u:a)(H0:p u)(v:b)(w:c)(x:d)(H1:q u v w x)(H2:r u v w x)(H3:i u v w x)(y:e)(H4:j u v w x y)(k:F u v w x y):∃u,p u/\∃v,∃w,∃x,q u v w x/\r u v w x/\i u v w x/\∃y,j u v w x y/\F u v w x y:=⟨u,H0,v,w,x,H1,H2,H3,y,H4,k⟩
theorem xa7{a:Sort _}{p:a->Prop}{b:Sort _}{c:Sort _}{d:Sort _}{e:Sort _}{F:a->b->c->d->e->Prop}(u:a)(H0:p u)(v:b)(w:c)(x:d)(y:e)(k:F u v w x y):∃u,p u/\∃v,∃w,∃x,∃y,F u v w x y:=⟨u,H0,v,w,x,y,k⟩
theorem xaa{a:Sort _}{p:a->Prop}{b:Sort _}{c:Sort _}{d:Sort _}{e:Sort _}{q:a->b->c->d->e->Prop}{r:a->b->c->d->e->Prop}{i:a->b->c->d->e->Prop}{j:a->b->c->d->e->Prop}{F:a->b->c->d->e->Prop}(u:a)(H0:p u)(v:b)(w:c)(x:d)(y:e)(H1:q u v w x y)(H2:r u v w x y)(H3:i u v w x y)(H4:j u v w x y)(k:F u v w x y):∃u,p u/\∃v,∃w,∃x,∃y,q u v w x y/\r u v w x y/\i u v w x y/\j u v w x y/\F u v w x y:=⟨u,H0,v,w,x,y,H1,H2,H3,H4,k⟩
theorem jEE{a:Sort _}{b:Sort _}{F:a->b->Prop}(u:a)(v:b)(k:F u v):∃u,∃v,F u v:=⟨u,v,k⟩
theorem jEEA{a:Sort _}{b:Sort _}{p:a->b->Prop}{F:a->b->Prop}(u:a)(v:b)(H0:p u v)(k:F u v):∃u,∃v,p u v/\F u v:=⟨u,v,H0,k⟩
theorem xaw{a:Sort _}{b:Sort _}{p:a->b->Prop}{q:a->b->Prop}{F:a->b->Prop}(u:a)(v:b)(H0:p u v)(H1:q u v)(k:F u v):∃u,∃v,p u v/\q u v/\F u v:=⟨u,v,H0,H1,k⟩
theorem xb0{a:Sort _}{b:Sort _}{p:a->b->Prop}{q:a->b->Prop}{r:a->b->Prop}{F:a->b->Prop}(u:a)(v:b)(H0:p u v)(H1:q u v)(H2:r u v)(k:F u v):∃u,∃v,p u v/\q u v/\r u v/\F u v:=⟨u,v,H0,H1,H2,k⟩
theorem xcp{a:Sort _}{b:Sort _}{p:a->b->Prop}{q:a->b->Prop}{r:a->b->Prop}{i:a->b->Prop}{F:a->b->Prop}(u:a)(v:b)(H0:p u v)(H1:q u v)(H2:r u v)(H3:i u v)(k:F u v):∃u,∃v,p u v/\q u v/\r u v/\i u v/\F u v:=⟨u,v,H0,H1,H2,H3,k⟩
theorem xa6{a:Sort _}{b:Sort _}{p:a->b->Prop}{q:a->b->Prop}{r:a->b->Prop}{i:a->b->Prop}{j:a->b->Prop}{F:a->b->Prop}(u:a)(v:b)(H0:p u v)(H1:q u v)(H2:r u v)(H3:i u v)(H4:j u v)(k:F u v):∃u,∃v,p u v/\q u v/\r u v/\i u v/\j u v/\F u v:=⟨u,v,H0,H1,H2,H3,H4,k⟩
theorem xa2{a:Sort _}{b:Sort _}{p:a->b->Prop}{q:a->b->Prop}{r:a->b->Prop}{c:Sort _}{d:Sort _}{i:a->b->c->d->Prop}{e:Sort _}{F:a->b->c->d->e->Prop}(u:a)(v:b)(H0:p u v)(H1:q u v)(H2:r u v)(w:c)(x:d)(H3:i u v w x)(y:e)(k:F u v w x y):∃u,∃v,p u v/\q u v/\r u v/\∃w,∃x,i u v w x/\∃y,F u v w x y:=⟨u,v,H0,H1,H2,w,x,H3,y,k⟩
theorem xao{a:Sort _}{b:Sort _}{p:a->b->Prop}{q:a->b->Prop}{c:Sort _}{d:Sort _}{r:a->b->c->d->Prop}{i:a->b->c->d->Prop}{e:Sort _}{F:a->b->c->d->e->Prop}(u:a)(v:b)(H0:p u v)(H1:q u v)(w:c)(x:d)(H2:r u v w x)(H3:i u v w x)(y:e)(k:F u v w x y):∃u,∃v,p u v/\q u v/\∃w,∃x,r u v w x/\i u v w x/\∃y,F u v w x y:=⟨u,v,H0,H1,w,x,H2,H3,y,k⟩
theorem jEEE{a:Sort _}{b:Sort _}{c:Sort _}{F:a->b->c->Prop}(u:a)(v:b)(w:c)(k:F u v w):∃u,∃v,∃w,F u v w:=⟨u,v,w,k⟩
theorem xb7{a:Sort _}{b:Sort _}{c:Sort _}{p:a->b->c->Prop}{q:a->b->c->Prop}{F:a->b->c->Prop}(u:a)(v:b)(w:c)(H0:p u v w)(H1:q u v w)(k:F u v w):∃u,∃v,∃w,p u v w/\q u v w/\F u v w:=⟨u,v,w,H0,H1,k⟩
theorem xcd{a:Sort _}{b:Sort _}{c:Sort _}{p:a->b->c->Prop}{q:a->b->c->Prop}{r:a->b->c->Prop}{F:a->b->c->Prop}(u:a)(v:b)(w:c)(H0:p u v w)(H1:q u v w)(H2:r u v w)(k:F u v w):∃u,∃v,∃w,p u v w/\q u v w/\r u v w/\F u v w:=⟨u,v,w,H0,H1,H2,k⟩
theorem xal{a:Sort _}{b:Sort _}{c:Sort _}{p:a->b->c->Prop}{q:a->b->c->Prop}{r:a->b->c->Prop}{i:a->b->c->Prop}{F:a->b->c->Prop}(u:a)(v:b)(w:c)(H0:p u v w)(H1:q u v w)(H2:r u v w)(H3:i u v w)(k:F u v w):∃u,∃v,∃w,p u v w/\q u v w/\r u v w/\i u v w/\F u v w:=⟨u,v,w,H0,H1,H2,H3,k⟩
theorem xah{a:Sort _}{b:Sort _}{c:Sort _}{d:Sort _}{p:a->b->c->d->Prop}{q:a->b->c->d->Prop}{r:a->b->c->d->Prop}{i:a->b->c->d->Prop}{F:a->b->c->d->Prop}(u:a)(v:b)(w:c)(x:d)(H0:p u v w x)(H1:q u v w x)(H2:r u v w x)(H3:i u v w x)(k:F u v w x):∃u,∃v,∃w,∃x,p u v w x/\q u v w x/\r u v w x/\i u v w x/\F u v w x:=⟨u,v,w,x,H0,H1,H2,H3,k⟩
theorem xas{a:Sort _}{b:Sort _}{c:Sort _}{d:Sort _}{p:a->b->c->d->Prop}{q:a->b->c->d->Prop}{r:a->b->c->d->Prop}{i:a->b->c->d->Prop}{j:a->b->c->d->Prop}{F:a->b->c->d->Prop}(u:a)(v:b)(w:c)(x:d)(H0:p u v w x)(H1:q u v w x)(H2:r u v w x)(H3:i u v w x)(H4:j u v w x)(k:F u v w x):∃u,∃v,∃w,∃x,p u v w x/\q u v w x/\r u v w x/\i u v w x/\j u v w x/\F u v w x:=⟨u,v,w,x,H0,H1,H2,H3,H4,k⟩
theorem xbm{a:Sort _}{b:Sort _}{c:Sort _}{d:Sort _}{p:a->b->c->d->Prop}{q:a->b->c->d->Prop}{r:a->b->c->d->Prop}{i:a->b->c->d->Prop}{e:Sort _}{F:a->b->c->d->e->Prop}(u:a)(v:b)(w:c)(x:d)(H0:p u v w x)(H1:q u v w x)(H2:r u v w x)(H3:i u v w x)(y:e)(k:F u v w x y):∃u,∃v,∃w,∃x,p u v w x/\q u v w x/\r u v w x/\i u v w x/\∃y,F u v w x y:=⟨u,v,w,x,H0,H1,H2,H3,y,k⟩
theorem xan{a:Sort _}{b:Sort _}{c:Sort _}{d:Sort _}{e:Sort _}{F:a->b->c->d->e->Prop}(u:a)(v:b)(w:c)(x:d)(y:e)(k:F u v w x y):∃u,∃v,∃w,∃x,∃y,F u v w x y:=⟨u,v,w,x,y,k⟩
theorem xag{a:Sort _}{b:Sort _}{c:Sort _}{d:Sort _}{e:Sort _}{p:a->b->c->d->e->Prop}{q:a->b->c->d->e->Prop}{r:a->b->c->d->e->Prop}{i:a->b->c->d->e->Prop}{j:a->b->c->d->e->Prop}{F:a->b->c->d->e->Prop}(u:a)(v:b)(w:c)(x:d)(y:e)(H0:p u v w x y)(H1:q u v w x y)(H2:r u v w x y)(H3:i u v w x y)(H4:j u v w x y)(k:F u v w x y):∃u,∃v,∃w,∃x,∃y,p u v w x y/\q u v w x y/\r u v w x y/\i u v w x y/\j u v w x y/\F u v w x y:=⟨u,v,w,x,y,H0,H1,H2,H3,H4,k⟩
end
section
namespace L2
open PySem PySem.Spec PyProof.Rows
abbrev Key:=Sum Int Str
def xlz:Key->Value->Bool
 |.inl k,v=>Value.isInt k v
 |.inr x,v=>Value.isStrOf x v
def keyH(w:World):Key->Int
 |.inl k=>hashInt k
 |.inr x=>hashStr w x
theorem xb4:∀{k:Key} {v:Value},xlz k v=true->(∃i t,k=Sum.inl i/\v=Value.int i t)\/(∃x t,k=Sum.inr x/\v=Value.str x t)
 |.inl i,v,h=>by
  obtain⟨t,e⟩:=Value.isInt_shape (k:=i) (v:=v) h;exact .inl ⟨i,t,rfl,e⟩
 |.inr x,v,h=>by
  obtain⟨t,e⟩:=Value.isStrOf_shape (x:=x) (v:=v) h;exact .inr ⟨x,t,rfl,e⟩
theorem xnz(i:Int)(t:Tok):xlz (.inl i) (.int i t)=true:=by simp[xlz,Value.isInt]
theorem xny(x:Str)(t:Tok):xlz (.inr x) (.str x t)=true:=by simp[xlz,Value.isStrOf]
theorem xt3(a b:Int):decide ((Sum.inl a:Key)=Sum.inl b)=(a == b):=by
 by_cases e:a=b
 ·subst e;simp
 ·have h:¬(Sum.inl a:Key)=Sum.inl b:=λq=>e (Sum.inl.inj q)
  rw[zDF h];exact(beq_eq_false_iff_ne.mpr e).symm
theorem xt0(a b:Str):decide ((Sum.inr a:Key)=Sum.inr b)=decide (a=b):=by
 by_cases e:a=b
 ·subst e;simp
 ·have h:¬(Sum.inr a:Key)=Sum.inr b:=λq=>e (Sum.inr.inj q)
  rw[zDF h,zDF e]
theorem xt2(a:Int)(b:Str):decide ((Sum.inl a:Key)=Sum.inr b)=false:=zDF (λq=>nomatch q)
theorem xt1(a:Str)(b:Int):decide ((Sum.inr a:Key)=Sum.inl b)=false:=zDF (λq=>nomatch q)
def xb9(prog:Program)(w:World):PySem.KeyKind prog w Key where
 is:=xlz
 hash:=keyH w
 inj:=λv a b ha hb=>by
  rcases xb4 ha with⟨i,t,rfl,rfl⟩ |⟨x,t,rfl,rfl⟩
  ·rcases xb4 hb with⟨j,u,rfl,e⟩ |⟨y,u,rfl,e⟩
   ·injection e with e1 _;rw[e1]
   ·exact nomatch e
  ·rcases xb4 hb with⟨j,u,rfl,e⟩ |⟨y,u,rfl,e⟩
   ·exact nomatch e
   ·injection e with e1 _;rw[e1]
 byValue:=λk v h=>by
  rcases xb4 h with⟨i,t,rfl,rfl⟩ |⟨x,t,rfl,rfl⟩ <;> rfl
 pyHash:=λhv h=>by
  rcases xb4 hv with⟨i,t,rfl,rfl⟩ |⟨x,t,rfl,rfl⟩
  ·exact wpAny_pyHash_int h
  ·exact wpAny_pyHash_str h
 eqBool:=λhu hv h=>by
  rcases xb4 hu with⟨i,t,rfl,rfl⟩ |⟨x,t,rfl,rfl⟩
  ·rcases xb4 hv with⟨j,u,rfl,rfl⟩ |⟨y,u,rfl,rfl⟩
   ·rw[xt3]at h;exact wpAny_eqBool_int h
   ·rw[xt2]at h;exact SeqAt.EqAt.int_str i t y u _ _ _ _ h
  ·rcases xb4 hv with⟨j,u,rfl,rfl⟩ |⟨y,u,rfl,rfl⟩
   ·rw[xt1]at h;exact SeqAt.EqAt.str_int x t j u _ _ _ _ h
   ·rw[xt0]at h;exact wpAny_eqBool_str h
 «strs»:=λk x t v h=>by
  rcases xb4 h with⟨i,u,rfl,e⟩ |⟨y,u,rfl,e⟩
  ·exact nomatch e
  ·injection e with e1 _
   subst e1;cases v <;> rfl
theorem xj3(prog:Program)(w:World)(i:Int)(t:Tok):(xb9 prog w).is (.inl i) (.int i t)=true:=xnz i t
theorem xj2(prog:Program)(w:World)(x:Str)(t:Tok):(xb9 prog w).is (.inr x) (.str x t)=true:=xny x t
inductive V where
 |non |bl (b:Bool) |int (i:Int) |str (x:Str) |byt (b:Array UInt8) |flt (b:UInt64) |ref (a:Addr) |ty (n:String)
 deriving DecidableEq
def RelV:V->Value->Prop
 |.non,u=>u=Value.none
 |.bl b,u=>u=Value.bool b
 |.int i,u=>∃t,u=Value.int i t
 |.str x,u=>∃t,u=Value.str x t
 |.byt b,u=>∃t,u=Value.bytes b t
 |.flt b,u=>∃t,u=Value.float b t
 |.ref a,u=>u=Value.ref a
 |.ty n,u=>u=Value.type n
abbrev Vals:List V->List Value->Prop:=Paired RelV
theorem Vals.length{xs:List V}{us:List Value}(r:Vals xs us):xs.length=us.length:=Paired.length r
theorem Vals.get:∀{xs:List V} {us:List Value} {i:Nat} {x:V},Vals xs us->xs[i]?=some x->∃u,us[i]?=some u/\RelV x u
 |_,_,_,_,.nil,e=>by simp at e
 |_,_,0,_,.cons r _,e=>by simp at e;subst e;exact⟨_,rfl,r⟩
 |_,_,i+1,x,.cons _ t,e=>by
  obtain⟨u,h1,h2⟩:=Vals.get (i:=i) (x:=x) t (by simpa using e);exact⟨u,by simpa using h1,h2⟩
theorem Vals.set{x:V}{u:Value}(r:RelV x u):∀{xs:List V} {us:List Value} (i:Nat),Vals xs us->Vals (xs.set i x) (us.set i u)
 |_,_,_,.nil=>.nil
 |_,_,0,.cons _ t=>.cons r t
 |_,_,i+1,.cons q t=>.cons q (Vals.set r i t)
theorem Vals.append:∀{xs ys:List V} {us ws:List Value},Vals xs us->Vals ys ws->Vals (xs++ys) (us++ws)
 |_,_,_,_,.nil,s=>s
 |_,_,_,_,.cons r t,s=>.cons r (Vals.append t s)
theorem Vals.take:∀{xs:List V} {us:List Value} (n:Nat),Vals xs us->Vals (xs.take n) (us.take n)
 |_,_,0,_=>.nil
 |_,_,_+1,.nil=>.nil
 |_,_,n+1,.cons r t=>.cons r (Vals.take n t)
theorem Vals.drop:∀{xs:List V} {us:List Value} (n:Nat),Vals xs us->Vals (xs.drop n) (us.drop n)
 |_,_,0,r=>r
 |_,_,_+1,.nil=>.nil
 |_,_,n+1,.cons _ t=>Vals.drop n t
def RelO:Option V->Option Value->Prop
 |some v,some u=>RelV v u
 |none,none=>True
 |_,_=>False
def KV{κ:Type}:List (κ×V)->List (κ×Value)->Prop:=Paired λ(p:κ×V) (q:κ×Value)=>p.1=q.1/\RelV p.2 q.2
def kV:Key->V
 |.inl i=>.int i
 |.inr x=>.str x
inductive HO where
 |lst (xs:List V)
 |tup (xs:List V)
 |dK (kvs:List (Key×V)) |dT (kvs:List (List Key×V))
 |set (S:Int->Bool) (n:Nat)
 |ins (C dx:Addr) (fs:List (Str×V))
 |own (x:Addr)
 |xd (fs:List (Str×V))
 |met (f x:Addr)
 |rng (lo hi:Int)
 |frz (o:Obj) (u:HO)
 |tbl (ps:Array Value)
 |ext (φ:Heap->Prop)
abbrev Hp:=Addr->Option HO
def upd(H:Hp)(a:Addr)(o:HO):Hp:=λb=>if b=a then some o else H b
theorem ups{H:Hp}{a:Addr}{o:HO}:upd H a o a=some o:=by unfold upd;rw[if_pos rfl]
theorem xar{H:Hp}{a b:Addr}{o:HO}(h:b≠a):upd H a o b=H b:=by unfold upd;rw[if_neg h]
theorem xu3{H:Hp}{a b:Addr}{o u:HO}(h:H a=some o)(h':H b=some u)(d:o≠u):a≠b:=by
 intro e;subst e;rw[h]at h';exact d (Option.some.inj h')
theorem neN{H:Hp}{a b:Addr}{o:HO}(h:H a=some o)(h':H b=none):a≠b:=by
 intro e;subst e;rw[h]at h';cases h'
section
variable (P:Program)(w:World)
def ObjOk(H:Hp)(h:Heap)(a:Addr):HO->Prop
 |.lst xs=>xs.length<=sizeLine/\∃(its:List Value) (n:Nat),Vals xs its/\h.get? a=some {cls:=.type "list",data:=.seq its.toArray n}
 |.tup xs=>xs.length<=sizeLine/\∃its:List Value,Vals xs its/\∃o,h.get? a=some o/\o.cls=.type "tuple"/\∃n,o.data=.seq its.toArray n/\o.dict=none
 |.dK kvs=>kvs.length<=sizeLine/\(a == sysModules)=false/\∃vs,KV kvs vs/\h.DictOf (xb9 P w) a vs
 | .dT kvs=>kvs.length<=sizeLine/\(a == sysModules)=false/\∃xs:List (List Key×Addr×Value),
   Paired (λ(p:List Key×V) (q:List Key×Addr×Value)=>p.1=q.1/\H q.2.1=some (.tup (p.1.map kV))/\RelV p.2 q.2.2) kvs xs ∧
   ∃o es ep,h.get? a=some o/\o.ExactDict/\o.data=.dict es ep/\es.toList=xs.map (entryOfKey (tupleKind (xb9 P w)))/\(xs.map (·.1)).Nodup
 |.set S n=>h.SetOf (intKind P w) a S n
 | .ins C dx fs=>H dx=some (.own a)/\fs.length<=1000/\dx≠a/\h.get? a=some (PySem.W.instObj C dx) ∧
   ∃mA,h.Ns1 dx mA/\(∀f,RelO (fs.lookup f) (mA f))/\PySem.Within mA (fs.map (·.1))
 |.own _=>∃o,h.get? a=some o
 |.xd fs=>∃mA,h.Ns1 a mA/\∀f,RelO (fs.lookup f) (mA f)
 |.rng lo hi=>∃t u v,h.get? a=some {cls:=.type "range",data:=.fields #[.int lo t,.int hi u,.int 1 v]}
 |.frz o u=>h.get? a=some o/\ObjOk H h a u
 |.tbl ps=>h.get? a=some {cls:=.none,data:=.fields ps}
 |.met f x=>h.get? a=some (PySem.W.methodObj (.ref f) (.ref x))
 |.ext φ=>φ h/\(∃o,h.get? a=some o)/\∀h1 h2:Heap,φ h1->(∀o,h1.get? a=some o->h2.get? a=some o)->φ h2
def HOk(H:Hp)(h:Heap):Prop:=∀a o,H a=some o->ObjOk P w H h a o
end
section
variable {P:Program}{w:World}{H H':Hp}{h h':Heap}{a:Addr}{o:HO}
theorem ObjOk.lt(x:ObjOk P w H h a o):a<h.objs.size:=by
 cases o with
 |lst xs=>obtain⟨_,_,_,_,e⟩:=x;exact Heap.lt_size e
 |tup xs=>obtain⟨_,_,_,_,e,_⟩:=x;exact Heap.lt_size e
 |dK kvs=>obtain⟨_,_,_,_,o,_,_,e,_⟩:=x;exact Heap.lt_size e
 |dT kvs=>obtain⟨_,_,_,_,o,_,_,e,_⟩:=x;exact Heap.lt_size e
 |set S n=>obtain⟨o,_,_,_,e,_⟩:=x;exact Heap.lt_size e
 |ins C dx fs=>obtain⟨_,_,_,e,_⟩:=x;exact Heap.lt_size e
 |own y=>obtain⟨_,e⟩:=x;exact Heap.lt_size e
 |xd fs=>obtain⟨_,⟨_,_,_,e,_⟩,_⟩:=x;exact Heap.lt_size e
 |rng lo hi=>obtain⟨_,_,_,e⟩:=x;exact Heap.lt_size e
 |frz b u=>obtain⟨e,_⟩:=x;exact Heap.lt_size e
 |tbl ps=>exact Heap.lt_size (show h.get? a=some _ from x)
 |met f y=>exact Heap.lt_size (show h.get? a=some _ from x)
 |ext φ=>obtain⟨_,⟨_,e⟩,_⟩:=x;exact Heap.lt_size e
theorem Paired.mapP{α β:Type}{F G:α->β->Prop}:∀{e:List α} {c:List β},Paired F e c->(∀a b,F a b->G a b)->Paired G e c
 |_,_,.nil,_=>.nil
 |_,_,.cons r t,f=>.cons (f _ _ r) (Paired.mapP t f)
theorem ObjOk.stay (x:ObjOk P w H h a o) (k:∀b u,(b=a\/H b=some (.own a))->h.get? b=some u->h'.get? b=some u)
  (ho:∀b,H b=some (.own a)->H' b=some (.own a)) (ht:∀b xs,H b=some (.tup xs)->H' b=some (.tup xs)):ObjOk P w H' h' a o:=by
 induction o with
 |lst xs=>obtain⟨z,its,n,r,e⟩:=x;exact⟨z,its,n,r,k _ _ (.inl rfl) e⟩
 |tup xs=>obtain⟨z,its,r,ob,e,c⟩:=x;exact⟨z,its,r,ob,k _ _ (.inl rfl) e,c⟩
 |dK kvs=>obtain⟨z,y,vs,r,ob,es,ep,e,c⟩:=x;exact⟨z,y,vs,r,ob,es,ep,k _ _ (.inl rfl) e,c⟩
 |dT kvs=>
  obtain⟨z,y,xs,r,ob,es,ep,e,c⟩:=x;exact⟨z,y,xs,Paired.mapP r λp q z=>⟨z.1,ht _ _ z.2.1,z.2.2⟩,ob,es,ep,k _ _ (.inl rfl) e,c⟩
 |set S n=>obtain⟨ob,es,ep,t,e,c⟩:=x;exact⟨ob,es,ep,t,k _ _ (.inl rfl) e,c⟩
 |ins C dx fs=>
  obtain⟨d,z,ne,e,mA,⟨od,es,ep,e2,c⟩,r⟩:=x;exact⟨ho _ d,z,ne,k _ _ (.inl rfl) e,mA,⟨od,es,ep,k _ _ (.inr d) e2,c⟩,r⟩
 |own y=>obtain⟨ob,e⟩:=x;exact⟨ob,k _ _ (.inl rfl) e⟩
 |xd fs=>obtain⟨mA,⟨od,es,ep,e,c⟩,r⟩:=x;exact⟨mA,⟨od,es,ep,k _ _ (.inl rfl) e,c⟩,r⟩
 |rng lo hi=>obtain⟨t,u,v,e⟩:=x;exact⟨t,u,v,k _ _ (.inl rfl) e⟩
 |frz ob u ih=>obtain⟨e,q⟩:=x;exact⟨k _ _ (.inl rfl) e,ih q⟩
 |tbl ps=>
  have e:h.get? a=some {cls:=.none,data:=.fields ps}:=x;show h'.get? a=some {cls:=.none,data:=.fields ps};exact k a _ (.inl rfl) e
 |met f y=>
  have e:h.get? a=some (PySem.W.methodObj (.ref f) (.ref y)):=x;show h'.get? a=some (PySem.W.methodObj (.ref f) (.ref y));exact k a _ (.inl rfl) e
 |ext φ=>obtain⟨p,⟨o,e⟩,st⟩:=x;exact⟨st _ _ p λo q=>k _ _ (.inl rfl) q,⟨o,k _ _ (.inl rfl) e⟩,st⟩
theorem HOk.lt(x:HOk P w H h)(e:H a=some o):a<h.objs.size:=(x a o e).lt
theorem HOk.fresh(x:HOk P w H h)(e:h.objs.size<=a):H a=none:=by
 cases q:H a with
 |none=>rfl
 |some u=>exact absurd (Nat.lt_of_lt_of_le (x.lt q) e) (Nat.lt_irrefl _)
theorem HOk.kept(x:HOk P w H h)(k:∀b u,h.get? b=some u->h'.get? b=some u):HOk P w H h':=λa o e=>
 (x a o e).stay (λb u _ q=>k b u q) (λ_ q=>q) λ_ _ q=>q
theorem HOk.laid(x:HOk P w H h)(k:∀b u,h.get? b=some u->h'.get? b=some u)(hp:h.objs.size<=a)(new:ObjOk P w (upd H a o) h' a o):HOk P w (upd H a o) h':=λb u e=>by
 have hn:=x.fresh hp;by_cases hb:b=a
 ·subst hb;rw[ups]at e;cases e;exact new
 ·rw[xar hb]at e
  exact(x b u e).stay (λc v _ q=>k c v q) (λc q=>by rw[xar (neN q hn)];exact q) λc xs q=>by rw[xar (neN q hn)];exact q
end
def Rd(H:Hp)(a:Addr)(u:HO):Prop:=H a=some u\/∃o,H a=some (.frz o u)
theorem Rd.ok{P:Program}{w:World}{H:Hp}{h:Heap}{a:Addr}{u:HO}(r:Rd H a u)(x:HOk P w H h):ObjOk P w H h a u:=by
 rcases r with r |⟨o,r⟩
 ·exact x a u r
 ·obtain⟨_,q⟩:=x a _ r
  exact q
def Mut:Option HO->Prop
 |some (.lst _)=>True
 |some (.dK _)=>True
 |some (.dT _)=>True
 |some (.set _ _)=>True
 |some (.ins _ _ _)=>True
 |some (.ext _)=>True
 |_=>False
section
variable {P:Program}{w:World}{H:Hp}{h h':Heap}{x e:Addr}{o':HO}
theorem HOk.write (ok:HOk P w H h) (mu:Mut (H x)) (he:e=x\/H e=some (.own x)) (k:∀b u,b≠e->h.get? b=some u->h'.get? b=some u) (heo:∃u,h'.get? e=some u)
  (new:ObjOk P w (upd H x o') h' x o'):HOk P w (upd H x o') h':=λb u q=>by
 have nown:∀c y,H c=some (.own y)->c≠x:=λc y r z=>by subst z;rw[r]at mu;exact mu
 have ntup:∀c xs,H c=some (.tup xs)->c≠x:=λc xs r z=>by subst z;rw[r]at mu;exact mu
 by_cases hb:b=x
 ·subst hb;rw[ups]at q;cases q;exact new
 ·rw[xar hb]at q
  by_cases hbe:b=e
  ·have q':H b=some (.own x):=by
    rcases he with z |z
    ·exact absurd (hbe.trans z) hb
    ·rw[hbe];exact z
   rw[q]at q';cases q';obtain⟨v,hv⟩:=heo;exact⟨v,by rw[hbe];exact hv⟩
  ·refine(ok b u q).stay (λc v hc r=>k c v ?_ r) (λc r=>by rw[xar (nown c b r)];exact r) λc xs r=>by rw[xar (ntup c xs r)];exact r
   rcases hc with rfl |hc
   ·exact hbe
   ·rintro rfl
    rcases he with z |z
    ·exact nown c b hc z
    ·rw[hc]at z;cases z;exact hb rfl
end
structure Un(fs ex:List Addr)(H H':Hp)(h h':Heap):Prop where
 keep:∀b o,h.get? b=some o->H b=none->b ∉fs->b ∉ex->h'.get? b=some o
 slot:∀b o,h.get? b=some o->H b=none->b∈fs->b ∉ex->∃sl,h'.get? b=some {o with slots:=sl}
 free:∀b o,h.get? b=some o->H b=none->b ∉ex->H' b=none
 there:∀b o,h.get? b=some o->b ∉ex->∃o',h'.get? b=some o'
 tups:∀b xs,H b=some (.tup xs)->H' b=some (.tup xs)
 frzs:∀b o u,H b=some (.frz o u)->H' b=some (.frz o u)
 tbls:∀b ps,H b=some (.tbl ps)->∃more,H' b=some (.tbl (ps++more))
section
variable {fs fs' ex ex':List Addr}{H H1 H2:Hp}{h h1 h2 h':Heap}{a x e:Addr}{o:HO}
theorem Un.any(u:Un fs ex H H1 h h1){b:Addr}{a:Obj}(q:h.get? b=some a)(n:H b=none)(c:b ∉ex):∃sl,h1.get? b=some {a with slots:=sl}:=by
 by_cases e:b∈fs
 ·exact u.slot b a q n e c
 ·exact⟨a.slots,u.keep b a q n e c⟩
theorem Un.kept(k:∀b u,h.get? b=some u->h'.get? b=some u):Un fs ex H H h h':=
 ⟨λb a q _ _ _=>k b a q,λb a q _ _ _=>⟨a.slots,k b a q⟩,λ_ _ _ n _=>n,λb a q _=>⟨a,k b a q⟩,λ_ _ q=>q,λ_ _ _ q=>q,λ_ ps q=>⟨#[],by rw[q];simp⟩⟩
theorem Un.refl:Un fs ex H H h h:=Un.kept λ_ _ q=>q
theorem Un.laid(k:∀b u,h.get? b=some u->h'.get? b=some u)(c:h.objs.size<=a)(hn:H a=none):Un fs ex H (upd H a o) h h' where
 keep:=λb u q _ _ _=>k b u q
 slot:=λb u q _ _ _=>⟨u.slots,k b u q⟩
 free:=λb u q n _=>by rw[xar (Nat.ne_of_lt (Nat.lt_of_lt_of_le (Heap.lt_size q) c))];exact n
 there:=λb u q _=>⟨u,k b u q⟩
 tups:=λb xs q=>by rw[xar (neN q hn)];exact q
 frzs:=λb u xs q=>by rw[xar (neN q hn)];exact q
 tbls:=λb ps q=>⟨#[],by rw[xar (neN q hn),q];simp⟩
theorem Un.write(c:Mut (H x))(l:e=x\/H e=some (.own x))(k:∀b u,b≠e->h.get? b=some u->h'.get? b=some u)(g:∃u,h'.get? e=some u):Un fs ex H (upd H x o) h h':=by
 have i:∀b,H b=none->b≠x:=λb n z=>by subst z;rw[n]at c;exact c
 have j:∀b,H b=none->b≠e:=λb n z=>by
  subst z;rcases l with r |r
  ·exact i b n r
  ·rw[n]at r;cases r
 have f:∀b u,H b=some u->¬Mut (some u)->b≠x:=λb u q nm z=>by subst z;rw[q]at c;exact nm c
 refine⟨λb u q n _ _=>k b u (j b n) q,λb u q n _ _=>⟨u.slots,k b u (j b n) q⟩,λb u q n _=>by rw[xar (i b n)];exact n,λb u q _=>?_,
  λb xs q=>by rw[xar (f b _ q λz=>z)];exact q,λb u xs q=>by rw[xar (f b _ q λz=>z)];exact q,λb ps q=>⟨#[],by rw[xar (f b _ q λz=>z),q];simp⟩⟩
 by_cases a:b=e
 ·subst a;exact g
 ·exact⟨u,k b u a q⟩
end
def trk(h:Heap)(H:Hp):List Addr:=(List.range h.objs.size).filter λa=>(H a).isSome
def hidT(h:Heap)(H:Hp):Heap:=PySem.W.hideAll h (trk h H)
theorem xn4(h:Heap)(H:Hp):(hidT h H).objs.size=h.objs.size:=PySem.W.hideAll_size _ _
theorem xpv{h:Heap}{H:Hp}{b:Addr}{o:Obj}(e:h.get? b=some o)(n:H b=none):(hidT h H).get? b=some o:=
 PySem.W.hideAll_get _ e λa=>by
  have q:(H b).isSome=true:=(List.mem_filter.mp a).2;rw[n]at q;simp at q
theorem xr4{h:Heap}{H:Hp}{b:Addr}{o:Obj}(e:(hidT h H).get? b=some o):h.get? b=some o/\H b=none:=by
 have a:h.get? b=some o:=PySem.W.of_hideAll (trk h H) e;refine⟨a,?_⟩
 cases q:H b with
 |none=>rfl
 |some x=>
  have c:b∈trk h H:=List.mem_filter.mpr ⟨List.mem_range.mpr (Heap.lt_size a),by simp[q]⟩;have z:(hidT h H).get? b=none:=PySem.W.hideAll_none (trk h H) c;rw[z]at e;cases e
structure Mod(K:Fg)(mg:Str->Option Value)(base:Heap):Prop where
 kin:K.In base
 glob:base.Ns mainGlobals mg
 blt:∃mb,base.Ns builtinsNs mb/\∀x:Str,x≠"__name__"->mb x=bootBuiltins x
 nolimit:base.NoLimit
structure Cx where
 prog:Program
 w:World
 K:Fg
 mg:Str->Option Value
 base:Heap
 A:Around
 N:List Str
 s₀:Shared
 H₀:Hp
 env:Env
 outer:List Env
 stack:List Env
 ex:List Addr
 fn:Str->Bool
 calm:Bool
 pn:List (Addr×Obj)
 xe:Value->Shared->Prop
def frs(l:List Env):List Addr:=l.filterMap (·.frame)
abbrev Cx.fs(X:Cx):List Addr:=frs X.outer
def Vis(sc:Scope)(x:Str):Prop:=sc.names.lookup x=some .local\/sc.names.lookup x=some .cell\/sc.names.lookup x=some .free
def Loc(sc:Scope)(x:Str):Prop:=sc.names.lookup x=some .local\/sc.names.lookup x=some .cell
def Look(env:Env)(h:Heap)(m:Str->Option Value)(x:Str)(u:Value):Prop:=
 (env.kindOf x=some .local/\m x=some u)\/((env.kindOf x=some .cell\/env.kindOf x=some .free)/\∃c,env.cells.lookup x=some c/\h.IsCell c (some u))
structure Cx.Ok(X:Cx):Prop where
 mod:Mod X.K X.mg X.base
 kind:X.env.scope.kind=.function
 glob:X.env.globals=mainGlobals
 blt:X.env.builtins=builtinsNs
 above:X.s₀.heap.objs.size<=X.env.locals
 inj:∀x y c,X.env.cells.lookup x=some c->X.env.cells.lookup y=some c->x=y
 has:∀x,(X.env.kindOf x=some .cell\/X.env.kindOf x=some .free)->∃c,X.env.cells.lookup x=some c
 cab:∀x c,X.fn x=true->X.env.cells.lookup x=some c->X.s₀.heap.objs.size<=c
 hd:X.calm=true->X.A.handled=none
 frames:X.A.frames=some X.stack
 stk:X.stack=X.outer\/(X.stack=X.env::X.outer/\X.env.frame=some X.env.locals)
 exf:∀b∈X.ex,b≠X.env.locals/\∀x c,X.env.cells.lookup x=some c->c≠b
 bs:∀b o,X.base.get? b=some o->X.s₀.heap.get? b=some o/\X.H₀ b=none
 bsz:X.base.objs.size<=X.s₀.heap.objs.size
 noex:∀b o,X.base.get? b=some o->b ∉X.ex
 exfs:∀b∈X.ex,b ∉X.fs
 funs:X.s₀.heap.FunFrames X.base X.outer
 frf:∀b∈X.fs,X.H₀ b=none
structure Inv(X:Cx)(pins:List (Addr×Obj))(σ:List (Option V))(H:Hp)(s:Shared):Prop where
 ok:X.Ok
 os:s.os=X.s₀.os
 bare:AllBare s.gens
 base:Un X.fs X.ex X.H₀ H X.s₀.heap s.heap
 loc:∃m,s.heap.Ns X.env.locals m/\∀(i:Nat) (x:Str) (v:V),X.N[i]?=some x->σ[i]?=some (some v)->Vis X.env.scope x->∃u,RelV v u/\Look X.env s.heap m x u
 cell:∀x c,X.env.cells.lookup x=some c->∃v,s.heap.IsCell c v
 free:H X.env.locals=none
 freeC:∀x c,X.env.cells.lookup x=some c->H c=none
 pin:∀p∈X.pn++pins,s.heap.get? p.1=some p.2/\H p.1=none/\p.1≠X.env.locals/\p.1 ∉X.fs/\∀v,p.2.data≠.cell v
 hok:HOk X.prog X.w H s.heap
 len:σ.length=X.N.length
section
variable {X:Cx}{pins:List (Addr×Obj)}{σ:List (Option V)}{H H':Hp}{s:Shared}{h':Heap}
theorem Cx.Ok.nofr(ok:X.Ok){b:Addr}{o:Obj}(e:X.base.get? b=some o):b ∉X.fs:=λa=>by
 have:=(ok.funs.mem a).1;rw[e]at this;cases this
theorem Inv.bs(I:Inv X pins σ H s):∀b o,X.base.get? b=some o->s.heap.get? b=some o/\H b=none:=λb o e=>
 ⟨I.base.keep b o (I.ok.bs b o e).1 (I.ok.bs b o e).2 (I.ok.nofr e) (I.ok.noex b o e),I.base.free b o (I.ok.bs b o e).1 (I.ok.bs b o e).2 (I.ok.noex b o e)⟩
theorem Inv.bk(I:Inv X pins σ H s):∀b o,X.base.get? b=some o->s.heap.get? b=some o:=λb o e=>(I.bs b o e).1
theorem Inv.mod(I:Inv X pins σ H s):Mod X.K X.mg X.base:=I.ok.mod
theorem Inv.kIn(I:Inv X pins σ H s):X.K.In s.heap:=I.ok.mod.kin.keeps I.bk
theorem Inv.lt(I:Inv X pins σ H s):X.env.locals<s.heap.objs.size:=let ⟨_,hn,_⟩:=I.loc;hn.lt
theorem Inv.sz(I:Inv X pins σ H s):X.s₀.heap.objs.size<=s.heap.objs.size:=Nat.le_trans I.ok.above (Nat.le_of_lt I.lt)
theorem Inv.nofs(I:Inv X pins σ H s){a:Addr}(h:s.heap.objs.size<=a):a ∉X.fs:=λc=>by
 obtain⟨_,o,b,_⟩:=I.ok.funs.mem c;exact absurd (Nat.lt_of_lt_of_le (Heap.lt_size b) (Nat.le_trans I.sz h)) (Nat.lt_irrefl _)
theorem Inv.cne(I:Inv X pins σ H s):∀x c,X.env.cells.lookup x=some c->c≠X.env.locals:=λx c e z=>by
 obtain⟨v,o,f,hd⟩:=I.cell x c e;obtain⟨m,⟨o',es,ep,a,b,_⟩,_⟩:=I.loc;rw[z,a]at f;cases f;rw[b]at hd;cases hd
theorem Inv.funs(I:Inv X pins σ H s):s.heap.FunFrames X.base X.outer:=by
 have all:∀(l:List Env),(∀b∈frs l,b∈X.fs)->X.s₀.heap.FunFrames X.base l->s.heap.FunFrames X.base l:=by
  intro l
  induction l with
  |nil=>intro _ _;trivial
  |cons env r g=>
   intro hs j;obtain⟨m,⟨L,o,a,hn,i,hd⟩,h⟩:=j;have f:L∈X.fs:=hs L (by unfold frs;rw[List.filterMap_cons,a];exact List.mem_cons_self);obtain⟨sl,e⟩:=I.base.slot L o i (I.ok.frf L f) f λz=>I.ok.exfs L z f;exact⟨m,⟨L,_,a,hn,e,hd⟩,g (λb c=>hs b (by unfold frs;rw[List.filterMap_cons,a];exact List.mem_cons_of_mem _ c)) h⟩
 exact all X.outer (λ_ c=>c) I.ok.funs
theorem Inv.stack(I:Inv X pins σ H s):s.heap.FunFrames X.base X.stack:=by
 rcases I.ok.stk with e |⟨e,hf⟩
 ·rw[e];exact I.funs
 ·rw[e]
  obtain⟨m,hn,_⟩:=I.loc;refine .cons (by rw[I.ok.kind];decide) hf hn ?_ I.funs;exact Heap.get?_none_of_le (Nat.le_trans I.ok.bsz I.ok.above)
theorem Inv.stkSub(I:Inv X pins σ H s):∀b∈frs X.stack,b∈X.env.locals::X.fs:=λb a=>by
 rcases I.ok.stk with e |⟨e,c⟩
 ·rw[e]at a;exact List.mem_cons_of_mem _ a
 ·rw[e]at a
  unfold frs at a;rw[List.filterMap_cons,c]at a;exact a
theorem Inv.stkFree(I:Inv X pins σ H s):∀b∈frs X.stack,H b=none:=λb a=>by
 rcases zMC (I.stkSub b a) with e |a
 ·rw[e];exact I.free
 ·obtain⟨_,o,c,_⟩:=I.ok.funs.mem a
  exact I.base.free b o c (I.ok.frf b a) λz=>I.ok.exfs b z a
theorem Inv.step {g':Array GenState} {t':Nat} {d':Drawn} {ch:List Addr} (I:Inv X pins σ H s)
  (hch:∀b∈ch,(b∈X.ex\/X.s₀.heap.objs.size<=b)/\b≠X.env.locals/\(∀x c,X.env.cells.lookup x=some c->c≠b)/\∀p∈X.pn++pins,p.1≠b)
  (keep:∀b o,b≠X.env.locals->b ∉X.fs->b ∉ch->s.heap.get? b=some o->H b=none->h'.get? b=some o)
  (slot:∀b o,b≠X.env.locals->b∈X.fs->b ∉ch->s.heap.get? b=some o->H b=none->∃sl,h'.get? b=some {o with slots:=sl}) (free:∀b o,b ∉ch->s.heap.get? b=some o->H b=none->H' b=none)
  (there:∀b o,b ∉ch->s.heap.get? b=some o->∃o',h'.get? b=some o')
  (tups:∀b xs,H b=some (.tup xs)->H' b=some (.tup xs)) (frzs:∀b o u,H b=some (.frz o u)->H' b=some (.frz o u)) (tbls:∀b ps,H b=some (.tbl ps)->∃more,H' b=some (.tbl (ps++more)))
  (ns:∀m,s.heap.Ns X.env.locals m->h'.Ns X.env.locals m) (hok:HOk X.prog X.w H' h') (hg:AllBare g') :
  Inv X pins σ H' {s with heap:=h',gens:=g',drawn:=d',toks:=t'}:=by
 have neL:∀b o,X.s₀.heap.get? b=some o->b≠X.env.locals:=λb o e=>Nat.ne_of_lt (Nat.lt_of_lt_of_le (Heap.lt_size e) I.ok.above)
 have neC:∀b o,X.s₀.heap.get? b=some o->b ∉X.ex->b ∉ch:=λb o e hx hb=>by
  rcases(hch b hb).1 with z |z
  ·exact hx z
  ·exact absurd (Nat.lt_of_lt_of_le (Heap.lt_size e) z) (Nat.lt_irrefl _)
 have cellK:∀x c,X.env.cells.lookup x=some c->∀v,s.heap.IsCell c v->h'.IsCell c v:=λx c e v ⟨o,ho,hd⟩=>by
  have nch:c ∉ch:=λz=>(hch c z).2.2.1 x c e rfl;by_cases hc:c∈X.fs
  ·obtain⟨sl,q⟩:=slot c o (I.cne x c e) hc nch ho (I.freeC x c e)
   exact⟨_,q,hd⟩
  ·exact⟨o,keep c o (I.cne x c e) hc nch ho (I.freeC x c e),hd⟩
 refine⟨I.ok,I.os,hg,⟨λb o e n hb hx=>?_,λb o e n hb hx=>?_,λb o e n hx=>?_,λb o e hx=>?_,λb xs e=>tups b xs (I.base.tups b xs e),λb o xs e=>frzs b o xs (I.base.frzs b o xs e),λb ps e=>?_⟩,?_,λx c e=>?_,?_,λx c e=>?_,λp hp=>?_,hok,I.len⟩
 ·exact keep b o (neL b o e) hb (neC b o e hx) (I.base.keep b o e n hb hx) (I.base.free b o e n hx)
 ·obtain⟨sl,e1⟩:=I.base.slot b o e n hb hx
  obtain⟨sl',e2⟩:=slot b _ (neL b o e) hb (neC b o e hx) e1 (I.base.free b o e n hx);exact⟨sl',e2⟩
 ·obtain⟨o',e1⟩:=I.base.there b o e hx
  exact free b o' (neC b o e hx) e1 (I.base.free b o e n hx)
 ·obtain⟨o',e1⟩:=I.base.there b o e hx
  exact there b o' (neC b o e hx) e1
 ·obtain⟨m1,e1⟩:=I.base.tbls b ps e
  obtain⟨m2,e2⟩:=tbls b _ e1;exact⟨m1++m2,by rw[e2,Array.append_assoc]⟩
 ·obtain⟨m,hn,hl⟩:=I.loc
  refine⟨m,ns m hn,λi x v e1 e2 e3=>?_⟩;obtain⟨u,r,l⟩:=hl i x v e1 e2 e3;refine⟨u,r,?_⟩;rcases l with l |⟨k,c,e,z⟩
  ·exact .inl l
  ·exact .inr ⟨k,c,e,cellK x c e _ z⟩
 ·obtain⟨v,z⟩:=I.cell x c e
  exact⟨v,cellK x c e v z⟩
 ·obtain⟨m,⟨o,_,_,ho,_⟩,_⟩:=I.loc
  exact free _ o (λz=>(hch _ z).2.1 rfl) ho I.free
 ·obtain⟨v,o,ho,hd⟩:=I.cell x c e
  exact free c o (λz=>(hch c z).2.2.1 x c e rfl) ho (I.freeC x c e)
 ·obtain⟨e,n,ne,nf,d⟩:=I.pin p hp
  have nch:p.1 ∉ch:=λz=>(hch p.1 z).2.2.2 p hp rfl;exact⟨keep p.1 p.2 ne nf nch e n,free p.1 p.2 nch e n,ne,nf,d⟩
theorem Inv.un{t':Nat}(I:Inv X pins σ H s)(u:Un X.fs [] H H' s.heap h')(hok:HOk X.prog X.w H' h'):Inv X pins σ H' {s with heap:=h',toks:=t'}:=by
 obtain⟨m,⟨o,es,ep,ho,r⟩,_⟩:=id I.loc;obtain⟨sl,hL⟩:=u.any ho I.free (by simp)
 exact I.step (g':=s.gens) (d':=s.drawn) (ch:=[]) (λ_ z=>nomatch z) (λb o _ hb _ e n=>u.keep b o e n hb (by simp)) (λb o _ hb _ e n=>u.slot b o e n hb (by simp)) (λb o _ e n=>u.free b o e n (by simp)) (λb o _ e=>u.there b o e (by simp)) u.tups u.frzs u.tbls (λm' hm=>by
  obtain⟨o',es',ep',ho',r'⟩:=hm;rw[ho]at ho';cases ho';exact⟨_,es',ep',hL,r'⟩) hok I.bare
theorem Inv.call {g':Array GenState} {t':Nat} {d':Drawn} {ch:List Addr} (I:Inv X pins σ H s) (u:Un (frs X.stack) ch H H' s.heap h') (hok:HOk X.prog X.w H' h') (hg:AllBare g')
  (hch:∀b∈ch,(b∈X.ex\/X.s₀.heap.objs.size<=b)/\b≠X.env.locals/\(∀x c,X.env.cells.lookup x=some c->c≠b)/\∀p∈X.pn++pins,p.1≠b) :
  Inv X pins σ H' {s with heap:=h',gens:=g',drawn:=d',toks:=t'}:=by
 obtain⟨m,⟨o,es,ep,ho,r⟩,_⟩:=id I.loc;obtain⟨sl,hL⟩:=u.any ho I.free λz=>(hch _ z).2.1 rfl
 exact I.step (ch:=ch) hch (λb o hL hb hc e n=>u.keep b o e n (λz=>(zMC (I.stkSub b z)).elim hL hb) hc) (λb o _ _ hc e n=>u.any e n hc) (λb o hc e n=>u.free b o e n hc) (λb o hc e=>u.there b o e hc) u.tups u.frzs u.tbls (λm' hm=>by
  obtain⟨o',es',ep',ho',r'⟩:=hm;rw[ho]at ho';cases ho';exact⟨_,es',ep',hL,r'⟩) hok hg
theorem Inv.turned {t':Nat} {it:Addr} (I:Inv X pins σ H s) (k:∀b o,b≠it->s.heap.get? b=some o->h'.get? b=some o) (hn:H it=none) (hL:it≠X.env.locals)
  (h1:it∈X.ex\/X.s₀.heap.objs.size<=it) (h2:∀x c,X.env.cells.lookup x=some c->c≠it) (h3:∀p∈X.pn++pins,p.1≠it):Inv X pins σ H {s with heap:=h',toks:=t'}:=by
 have nit:∀b u,H b=some u->b≠it:=λb u e z=>by rw[z,hn]at e;cases e
 refine I.step (g':=s.gens) (d':=s.drawn) (ch:=[it]) (λb hb=>?_) (λb o _ _ hc e _=>k b o (λz=>hc (by simp[z])) e) (λb o _ _ hc e _=>⟨o.slots,k b o (λz=>hc (by simp[z])) e⟩) (λ_ _ _ _ n=>n)
  (λb o hc e=>⟨o,k b o (λz=>hc (by simp[z])) e⟩) (λ_ _ e=>e) (λ_ _ _ e=>e) (λb ps e=>⟨#[],by rw[e];simp⟩) (λm hm=>?_) (λb u e=>?_) I.bare
 ·have e:b=it:=by simpa using hb
  subst e;exact⟨h1,hL,h2,h3⟩
 ·obtain⟨o,es,ep,ho,r⟩:=hm
  exact⟨o,es,ep,k _ o (Ne.symm hL) ho,r⟩
 ·refine(I.hok b u e).stay (λc v hc q=>k c v ?_ q) (λ_ q=>q) λ_ _ q=>q
  rcases hc with z |z
  ·rw[z];exact nit b u e
  ·exact nit c _ z
theorem Inv.tok(I:Inv X pins σ H s)(t:Nat):Inv X pins σ H {s with toks:=t}:=I.un (h':=s.heap) (t':=t) Un.refl I.hok
theorem Inv.kept{t':Nat}(I:Inv X pins σ H s)(k:∀b u,s.heap.get? b=some u->h'.get? b=some u):Inv X pins σ H {s with heap:=h',toks:=t'}:=I.un (Un.kept k) (I.hok.kept k)
theorem Inv.laid {a:Addr} {o:HO} {t':Nat} (I:Inv X pins σ H s) (k:∀b u,s.heap.get? b=some u->h'.get? b=some u) (hp:s.heap.objs.size<=a) (new:ObjOk X.prog X.w (upd H a o) h' a o) :
  Inv X pins σ (upd H a o) {s with heap:=h',toks:=t'}:=I.un (Un.laid k hp (I.hok.fresh hp)) (I.hok.laid k hp new)
theorem Inv.write {x e:Addr} {o:HO} {t':Nat} (I:Inv X pins σ H s) (mu:Mut (H x)) (he:e=x\/H e=some (.own x)) (k:∀b u,b≠e->s.heap.get? b=some u->h'.get? b=some u) (heo:∃u,h'.get? e=some u)
  (new:ObjOk X.prog X.w (upd H x o) h' x o):Inv X pins σ (upd H x o) {s with heap:=h',toks:=t'}:=I.un (Un.write mu he k heo) (I.hok.write mu he k heo new)
theorem Inv.weak{σ':List (Option V)}(I:Inv X pins σ H s)(hl:σ'.length=σ.length)(w:∀(i:Nat) v,σ'[i]?=some (some v)->σ[i]?=some (some v)):Inv X pins σ' H s:=
 ⟨I.ok,I.os,I.bare,I.base,let ⟨m,hn,hl'⟩:=I.loc;⟨m,hn,λi x v e1 e2 e3=>hl' i x v e1 (w i v e2) e3⟩,I.cell,I.free,I.freeC,I.pin,I.hok,hl.trans I.len⟩
theorem Inv.pins_of{a:List (Addr×Obj)}(I:Inv X pins σ H s)(h:∀p∈a,s.heap.get? p.1=some p.2/\H p.1=none/\p.1≠X.env.locals/\p.1 ∉X.fs/\∀v,p.2.data≠.cell v):Inv X a σ H s:=
 ⟨I.ok,I.os,I.bare,I.base,I.loc,I.cell,I.free,I.freeC,λp b=>(zMA b).elim (λz=>I.pin p (List.mem_append_left _ z)) (h p),I.hok,I.len⟩
theorem xk0{N:List Str}(c:N.Nodup){i j:Nat}{x:Str}(a:N[i]?=some x)(b:N[j]?=some x):i=j:=by
 obtain⟨h1,f⟩:=zES a;obtain⟨h2,e⟩:=zES b;exact(List.getElem_inj c).mp (f.trans e.symm)
theorem xhq {M:Model} {A:Around} {E:Value->Shared->Prop} {i:Nat} {x:Str} {v:V} {u:Value} {Q:Unit->Shared->Prop} (I:Inv X pins σ H s) (hN:X.N.Nodup) (hi:X.N[i]?=some x) (hx:Loc X.env.scope x) (r:RelV v u)
  (h:∀s',Inv X pins (σ.set i (some v)) H s'->(∃a,Heap.SameBut a s.heap s'.heap/\(a=X.env.locals\/X.env.cells.lookup x=some a))->Q () s') (hf:X.fn x=true\/X.env.scope.names.lookup x=some .local:=by first |exact .inl rfl |exact .inr rfl |assumption):wpAny M A (storeName X.env x u) Q E s:=by
 obtain⟨m,hn,hl⟩:=id I.loc;have hcls:(X.env.scope.kind == .class || (X.env.scope.kind == .module && X.env.locals != X.env.globals))=false:=by rw[I.ok.kind];rfl
 have hiσ:i<σ.length:=by rw[I.len];exact(zES hi).1
 have cne:=I.cne
 have tracked:∀{a:Addr} {h':Heap},(∃o,s.heap.get? a=some o/\H a=none)->Heap.SameBut a s.heap h'->HOk X.prog X.w H h':=λ{a h'} ha hs b ob e=>by
  obtain⟨_,_,hfree⟩:=ha;refine(I.hok b ob e).stay (λc w' hc q=>(hs.2 c ?_).trans q) (λ_ q=>q) λ_ _ q=>q;rintro rfl;rcases hc with rfl |hc
  ·rw[hfree]at e;cases e
  ·rw[hfree]at hc;cases hc
 rcases hx with hk |hk
 ·refine wpAny_storeName_local hk hn (λh' hn' hs=>?_) hcls
  obtain⟨oL,_,_,hoL,_⟩:=id hn;refine h _ ⟨I.ok,I.os,I.bare,⟨λb o e n hb hx=>?_,λb o e n hb hx=>?_,I.base.free,λb o e hx=>?_,I.base.tups,I.base.frzs,I.base.tbls⟩,⟨_,hn',λj y v' e1 e2 e3=>?_⟩,λy c e=>?_,I.free,I.freeC,λp hp=>?_,tracked ⟨oL,hoL,I.free⟩ hs,by simpa using I.len⟩ ⟨_,hs,.inl rfl⟩
  ·exact(hs.2 b (Nat.ne_of_lt (Nat.lt_of_lt_of_le (Heap.lt_size e) I.ok.above))).trans (I.base.keep b o e n hb hx)
  ·obtain⟨sl,e1⟩:=I.base.slot b o e n hb hx
   exact⟨sl,(hs.2 b (Nat.ne_of_lt (Nat.lt_of_lt_of_le (Heap.lt_size e) I.ok.above))).trans e1⟩
  ·obtain⟨o',e1⟩:=I.base.there b o e hx
   exact⟨o',(hs.2 b (Nat.ne_of_lt (Nat.lt_of_lt_of_le (Heap.lt_size e) I.ok.above))).trans e1⟩
  ·by_cases hj:j=i
   ·subst hj
    rw[hi]at e1;cases e1;rw[List.getElem?_set_self hiσ]at e2;cases e2;exact⟨u,r,.inl ⟨hk,by simp⟩⟩
   ·rw[List.getElem?_set_ne (Ne.symm hj)]at e2
    obtain⟨u',r',q⟩:=hl j y v' e1 e2 e3;refine⟨u',r',?_⟩;rcases q with⟨k,e⟩ |⟨k,c,e,z⟩
    ·refine .inl ⟨k,?_⟩
     have:y≠x:=λe=>hj (xk0 hN e1 (e ▸ hi));simp[this,e]
    ·exact .inr ⟨k,c,e,z.sameBut hs (cne y c e)⟩
  ·obtain⟨w',z⟩:=I.cell y c e
   exact⟨w',z.sameBut hs (cne y c e)⟩
  ·obtain⟨e,n,ne,nf,d⟩:=I.pin p hp
   exact⟨(hs.2 p.1 ne).trans e,n,ne,nf,d⟩
 ·have hfn:X.fn x=true:=by
   rcases hf with z |z
   ·exact z
   ·rw[z]at hk;cases hk
  obtain⟨c,hc⟩:=I.ok.has x (.inl hk);obtain⟨w',z⟩:=I.cell x c hc;refine wpAny_storeName_cell I.ok.kind hk hc z (λh' hc' hs=>?_);obtain⟨oc,hoc,hocd⟩:=id z;refine h {s with heap:=h'} ⟨I.ok,I.os,I.bare,⟨λb o e n hb hx=>?_,λb o e n hb hx=>?_,I.base.free,λb o e hx=>?_,I.base.tups,I.base.frzs,I.base.tbls⟩,⟨m,hn.sameBut hs (Ne.symm (cne x c hc)),λj y v' e1 e2 e3=>?_⟩,λy c' e=>?_,I.free,I.freeC,λp hp=>?_,tracked ⟨oc,hoc,I.freeC x c hc⟩ hs,by simpa using I.len⟩ ⟨c,hs,.inr hc⟩
  ·exact(hs.2 b (Nat.ne_of_lt (Nat.lt_of_lt_of_le (Heap.lt_size e) (I.ok.cab x c hfn hc)))).trans (I.base.keep b o e n hb hx)
  ·obtain⟨sl,e1⟩:=I.base.slot b o e n hb hx
   exact⟨sl,(hs.2 b (Nat.ne_of_lt (Nat.lt_of_lt_of_le (Heap.lt_size e) (I.ok.cab x c hfn hc)))).trans e1⟩
  ·obtain⟨o',e1⟩:=I.base.there b o e hx
   exact⟨o',(hs.2 b (Nat.ne_of_lt (Nat.lt_of_lt_of_le (Heap.lt_size e) (I.ok.cab x c hfn hc)))).trans e1⟩
  ·by_cases hj:j=i
   ·subst hj
    rw[hi]at e1;cases e1;rw[List.getElem?_set_self hiσ]at e2;cases e2;exact⟨u,r,.inr ⟨.inl hk,c,hc,hc'⟩⟩
   ·rw[List.getElem?_set_ne (Ne.symm hj)]at e2
    obtain⟨u',r',q⟩:=hl j y v' e1 e2 e3;refine⟨u',r',?_⟩;rcases q with q |⟨k,c',e,z'⟩
    ·exact .inl q
    ·refine .inr ⟨k,c',e,z'.sameBut hs ?_⟩
     rintro rfl;exact hj (xk0 hN e1 (I.ok.inj _ _ _ e hc ▸ hi))
  ·by_cases hcc:c'=c
   ·subst hcc;exact⟨_,hc'⟩
   ·obtain⟨w2,z2⟩:=I.cell y c' e
    exact⟨w2,z2.sameBut hs hcc⟩
  ·obtain⟨e,n,ne,nf,d⟩:=I.pin p hp
   refine⟨(hs.2 p.1 ?_).trans e,n,ne,nf,d⟩;intro q;rw[q,hoc]at e;have q':oc=p.2:=Option.some.inj e;exact d w' (by rw[<- q'];exact hocd)
theorem xkm {M:Model} {A:Around} {E:Value->Shared->Prop} {i:Nat} {x:Str} {v:V} {u:Value} {Q:Unit->Shared->Prop} (I:Inv X pins σ H s) (c:X.N.Nodup) (hi:X.N[i]?=some x) (a:Loc X.env.scope x) (r:RelV v u)
  (h:∀s',Inv X pins (σ.set i (some v)) H s'->Q () s') (b:X.fn x=true\/X.env.scope.names.lookup x=some .local:=by first |exact .inl rfl |exact .inr rfl |assumption):wpAny M A (storeName X.env x u) Q E s:=
 xhq I c hi a r (λs' e _=>h s' e) b
theorem Inv.call' {s':Shared} {ch:List Addr} (I:Inv X pins σ H s) (ho:s'.os=s.os) (u:Un (frs X.stack) ch H H' s.heap s'.heap) (hok:HOk X.prog X.w H' s'.heap) (hg:AllBare s'.gens)
  (hch:∀b∈ch,(b∈X.ex\/X.s₀.heap.objs.size<=b)/\b≠X.env.locals/\(∀x c,X.env.cells.lookup x=some c->c≠b)/\∀p∈X.pn++pins,p.1≠b):Inv X pins σ H' s':=by
 obtain⟨h',g',d',t',o'⟩:=s';have e:o'=s.os:=ho;subst e;exact I.call (g':=g') (t':=t') (d':=d') u hok hg hch
end
abbrev XK:=Value->Option Addr->Hp->Prop
abbrev St:=List (Option V)
abbrev VK:=V->Hp->Prop
abbrev TE:=St->Hp->VK->Prop
abbrev TT:=St->Hp->(Bool->Hp->Prop)->Prop
abbrev TA:=St->Hp->(List V->Hp->Prop)->Prop
structure Ends where
 nx:St->Hp->Prop
 rt:VK
 bk:St->Hp->Prop:=λ_ _=>False
 ct:St->Hp->Prop:=λ_ _=>False
abbrev TS:=Ends->St->Hp->Prop
def EP(X:Cx)(pins:List (Addr×Obj))(σ:St)(Q:VK)(u:Value)(s':Shared):Prop:=∃v H',Inv X pins σ H' s'/\RelV v u/\Q v H'
def TP(X:Cx)(pins:List (Addr×Obj))(σ:St)(Q:Bool->Hp->Prop)(b:Bool)(s':Shared):Prop:=∃H',Inv X pins σ H' s'/\Q b H'
def AP(X:Cx)(pins:List (Addr×Obj))(σ:St)(Q:List V->Hp->Prop)(us:List Value)(s':Shared):Prop:=∃vs H',Inv X pins σ H' s'/\Vals vs us/\Q vs H'
def SP(X:Cx)(pins:List (Addr×Obj))(D:Ends)(f:Flow)(s':Shared):Prop:=
 match f with
 |.next=>∃σ' H',Inv X pins σ' H' s'/\D.nx σ' H'
 |.brk=>∃σ' H',Inv X pins σ' H' s'/\D.bk σ' H'
 |.cont=>∃σ' H',Inv X pins σ' H' s'/\D.ct σ' H'
 |.ret u=>∃v σ' H',Inv X pins σ' H' s'/\RelV v u/\D.rt v H'
def PE(X:Cx)(e:Expr)(t:TE):Prop:=
 ∀(pins:List (Addr×Obj)) (s:Shared) (σ:St) (H:Hp) (Q:VK),Inv X pins σ H s->t σ H Q->wpAny (model X.prog X.w) X.A (eval e X.env) (EP X pins σ Q) X.xe s
def PT(X:Cx)(e:Expr)(t:TT):Prop:=
 ∀(pins:List (Addr×Obj)) (s:Shared) (σ:St) (H:Hp) (Q:Bool->Hp->Prop),Inv X pins σ H s->t σ H Q->wpAny (model X.prog X.w) X.A (isTrue e X.env (eval e X.env)) (TP X pins σ Q) X.xe s
def PW(X:Cx)(e:Expr)(t:TT):Prop:=
 ∀(whole:Sem Value) (pins:List (Addr×Obj)) (s:Shared) (σ:St) (H:Hp) (Q:Bool->Hp->Prop),Inv X pins σ H s->t σ H Q->wpAny (model X.prog X.w) X.A (isTrue e X.env whole) (TP X pins σ Q) X.xe s
theorem PW.pt{X:Cx}{e:Expr}{t:TT}(h:PW X e t):PT X e t:=h _
def PA(X:Cx)(es:List Expr)(t:TA):Prop:=
 ∀(pos:Pos) (pins:List (Addr×Obj)) (s:Shared) (σ:St) (H:Hp) (Q:List V->Hp->Prop),Inv X pins σ H s->t σ H Q->wpAny (model X.prog X.w) X.A (spliced (backTo pos (starEach es X.env))) (AP X pins σ Q) X.xe s
def PS(X:Cx)(st:Stmt)(t:TS):Prop:=
 ∀(pins:List (Addr×Obj)) (s:Shared) (σ:St) (H:Hp) (D:Ends),Inv X pins σ H s->t D σ H->wpAny (model X.prog X.w) X.A (exec st X.env) (SP X pins D) X.xe s
def PSs(X:Cx)(st:List Stmt)(t:TS):Prop:=
 ∀(pins:List (Addr×Obj)) (s:Shared) (σ:St) (H:Hp) (D:Ends),Inv X pins σ H s->t D σ H->wpAny (model X.prog X.w) X.A (execs st X.env) (SP X pins D) X.xe s
theorem thn{α:Type}{t:Sem α}{Q Q':α->Shared->Prop}{M:Model}{A:Around}{E:Value->Shared->Prop}{s:Shared}(h:wpAny M A t Q E s)(hQ:∀a s,Q a s->Q' a s):wpAny M A t Q' E s:=wpAny_mono h hQ λ_ _ x=>x
section
variable {X:Cx}
def tVar(i:Nat):TE:=λσ H Q=>∃v,σ[i]?=some (some v)/\Q v H
def tC(v:V):TE:=λ_ H Q=>Q v H
theorem xtr{i:Nat}{x:Str}{pos:Pos}(p:X.N[i]?=some x)(j:Vis X.env.scope x)(hd:(x == ("__debug__":Str))=false:=by decide)(f:(x == ("__classdict__":Str))=false:=by decide):PE X (.Name x pos) (tVar i):=by
 intro pins s σ H Q I h;obtain⟨v,e,h⟩:=h;obtain⟨m,hn,o⟩:=I.loc;obtain⟨u,r,l⟩:=o i x v p e j;have fin:EP X pins σ Q u s:=⟨v,H,I,r,h⟩;rcases l with⟨b,n⟩ |⟨b,c,g,a⟩
 ·exact wpAny_Name (wpAny_loadName_local I.ok.kind b hn n fin) hd
 ·rcases b with b |b
  ·exact wpAny_Name (wpAny_loadName_cell I.ok.kind b g a fin) hd
  ·exact wpAny_Name (wpAny_loadName_free I.ok.kind b g a fin f) hd
theorem pI{i j pos}:PE X (.Constant (.int i) j pos) (tC (.int i)):=λ_ _ _ H _ I h=>wpAny_Constant_int ⟨.int i,H,I.tok _,⟨_,rfl⟩,h⟩
theorem xjs{b j pos}:PE X (.Constant (.bool b) j pos) (tC (.bl b)):=λ_ _ _ H _ I h=>Constant_bool ⟨.bl b,H,I,rfl,h⟩
theorem xeq{j pos}:PE X (.Constant .none j pos) (tC .non):=λ_ _ _ H _ I h=>Constant_none ⟨.non,H,I,rfl,h⟩
theorem pS{x j pos}:PE X (.Constant (.str x) j pos) (tC (.str x)):=λ_ _ _ H _ I h=>Calls.Constant_str ⟨.str x,H,I.tok _,⟨_,rfl⟩,h⟩
def Gl(X:Cx)(x:Str):Prop:=X.env.kindOf x=some .globalImplicit
theorem xhg {E:Value->Shared->Prop} {pins:List (Addr×Obj)} {s:Shared} {σ:St} {H:Hp} {x:Str} {u:Value} {pos:Pos} {Q:Value->Shared->Prop} (I:Inv X pins σ H s) (b:Gl X x) (a:X.mg x=some u) (h:Q u s)
  (hd:(x == ("__debug__":Str))=false:=by decide):wpAny (model X.prog X.w) X.A (eval (.Name x pos) X.env) Q E s:=
 Calls.Name_function_global I.ok.kind b (Calls.loadGlobal_global (by rw[I.ok.glob];exact I.mod.glob.keeps I.bk) a h) hd
theorem xet {E:Value->Shared->Prop} {pins:List (Addr×Obj)} {s:Shared} {σ:St} {H:Hp} {x:Str} {u:Value} {pos:Pos} {Q:Value->Shared->Prop} (I:Inv X pins σ H s) (c:Gl X x) (b:X.mg x=none) (a:bootBuiltins x=some u) (h:Q u s)
  (hn:x≠"__name__":=by decide) (hd:(x == ("__debug__":Str))=false:=by decide):wpAny (model X.prog X.w) X.A (eval (.Name x pos) X.env) Q E s:=by
 obtain⟨e,h1,h2⟩:=I.mod.blt;exact Calls.Name_function_global I.ok.kind c (Calls.loadGlobal_builtin (by rw[I.ok.glob];exact I.mod.glob.keeps I.bk) b (by rw[I.ok.blt];exact h1.keeps I.bk) ((h2 x hn).trans a) h) hd
theorem xrx{x:Str}{v:V}{u:Value}{pos:Pos}(hg:Gl X x)(hm:X.mg x=some u)(r:RelV v u)(hd:(x == ("__debug__":Str))=false:=by decide):PE X (.Name x pos) (tC v):=
 λ_ _ _ H _ I h=>xhg I hg hm ⟨v,H,I,r,h⟩ hd
theorem xrz{x:Str}{v:V}{u:Value}{pos:Pos}(c:Gl X x)(b:X.mg x=none)(a:bootBuiltins x=some u)(r:RelV v u)(hn:x≠"__name__":=by decide)(hd:(x == ("__debug__":Str))=false:=by decide):PE X (.Name x pos) (tC v):=
 λ_ _ _ H _ I h=>xet I c b a ⟨v,H,I,r,h⟩ hn hd
variable {a b:Expr}{ta tb:TE}{pos:Pos}
def tB(t:TE):TT:=λσ H Q=>t σ H λx H1=>∃c,x=.bl c/\Q c H1
theorem xkv{e:Expr}{t:TE}(h:PE X e t)(he:∀whole,isTrue e X.env whole=(do let v <- whole;standAt e.pos;holding [v] (truthy v)):=by intro _;rfl):PT X e (tB t):=by
 intro pins s σ H Q I hw;refine isTrue_plain (thn (h pins s σ H _ I hw) λv s1 ⟨x,H1,I1,r1,q1⟩=>?_) (he _);obtain⟨d,rfl,q⟩:=q1;cases r1;exact wpAny_truthy_bool ⟨H1,I1,q⟩
variable {tA tB':TT}{rest:List Expr}
def tAnd(t u:TT):TT:=λσ H Q=>t σ H λc H1=>if c=true then u σ H1 Q else Q false H1
def tOr(t u:TT):TT:=λσ H Q=>t σ H λc H1=>if c=true then Q true H1 else u σ H1 Q
def tNot(t:TT):TT:=λσ H Q=>t σ H λc H1=>Q (!c) H1
theorem xb8(b:PT X a tA):PW X (.BoolOp .And [a] pos) tA:=by
 intro f pins s σ H Q I h;refine isTrue_and (thn (b pins s σ H Q I h) λc g e=>?_)
 cases c with
 |true=>exact isTrue_and_nil e
 |false=>exact e
theorem xku(b:PT X a tA):PW X (.BoolOp .Or [a] pos) tA:=by
 intro f pins s σ H Q I h;refine isTrue_or (thn (b pins s σ H Q I h) λc g e=>?_)
 cases c with
 |false=>exact isTrue_or_nil e
 |true=>exact e
theorem xcj(l:PT X a tA)(j:PW X (.BoolOp .And (b::rest) pos) tB'):PW X (.BoolOp .And (a::b::rest) pos) (tAnd tA tB'):=by
 intro g pins s σ H Q I h;refine isTrue_and (thn (l pins s σ H _ I h) λc i ⟨H1,f,e⟩=>?_)
 cases c with
 |true=>exact j g pins i σ H1 Q f e
 |false=>exact⟨H1,f,e⟩
theorem xlr(l:PT X a tA)(j:PW X (.BoolOp .Or (b::rest) pos) tB'):PW X (.BoolOp .Or (a::b::rest) pos) (tOr tA tB'):=by
 intro g pins s σ H Q I h;refine isTrue_or (thn (l pins s σ H _ I h) λc i ⟨H1,f,e⟩=>?_)
 cases c with
 |true=>exact⟨H1,f,e⟩
 |false=>exact j g pins i σ H1 Q f e
theorem xql(b:PT X a tA):PT X (.UnaryOp .Not a pos) (tNot tA):=by
 intro pins s σ H Q I h;exact isTrue_not (b pins s σ H (λc H1=>Q (!c) H1) I h)
def xus(ta tb:TE):TE:=λσ H Q=>ta σ H λx H1=>∃c,x=.bl c/\if c=true then tb σ H1 Q else Q (.bl false) H1
theorem xqn{op}{t:TE}(h:PE X a t):PE X (.BoolOp op [a] pos) t:=λpins s σ H Q I b=>BoolOp_one (h pins s σ H Q I b)
theorem xqp(l:PE X a ta)(j:PE X (.BoolOp .And (b::rest) pos) tb):PE X (.BoolOp .And (a::b::rest) pos) (xus ta tb):=by
 intro pins s σ H Q I h;refine BoolOp_and (thn (l pins s σ H _ I h) λv g ⟨x,H1,f,i,e⟩=>?_);obtain⟨c,rfl,e⟩:=e;cases i;refine wpAny_truthy_bool ?_
 cases c with
 |true=>exact j pins g σ H1 Q f e
 |false=>exact⟨.bl false,H1,f,rfl,e⟩
def tIf(t:TT)(ta tb:TE):TE:=λσ H Q=>t σ H λc H1=>if c=true then ta σ H1 Q else tb σ H1 Q
theorem xe8{c:Expr}(i:PT X c tA)(l:PE X a ta)(j:PE X b tb):PE X (.IfExp c a b pos) (tIf tA ta tb):=by
 intro pins s σ H Q I h;refine wpAny_IfExp (thn (i pins s σ H _ I h) λd e ⟨H1,g,f⟩=>?_)
 cases d with
 |true=>exact l pins e σ H1 Q g f
 |false=>exact j pins e σ H1 Q g f
end
def SqL(K:Fg)(H:Hp)(a:Addr)(xs:List V):Prop:=
 Rd H a (.lst xs) ∨
  ∃(o:Obj) (its:Array Value) (n:Nat),K.lookup a=some o/\o.cls=.type "list"/\o.dict=none/\o.data=.seq its n/\its.size<=sizeLine/\Vals xs its.toList
def SqT(K:Fg)(H:Hp)(a:Addr)(xs:List V):Prop:=
 Rd H a (.tup xs) ∨
  ∃(o:Obj) (its:Array Value) (n:Nat),K.lookup a=some o/\o.cls=.type "tuple"/\o.data=.seq its n/\its.size<=sizeLine/\Vals xs its.toList
def absV:Value->Option V
 |.none=>some .non
 |.bool b=>some (.bl b)
 |.int i _=>some (.int i)
 |.str x _=>some (.str x)
 |.bytes b _=>some (.byt b)
 |.float b _=>some (.flt b)
 |.ref a=>some (.ref a)
 |.type n=>some (.ty n)
 |_=>none
theorem RelV.abs{x:V}{u:Value}(r:RelV x u):absV u=some x:=by
 cases x with
 |non=>cases r;rfl
 |bl _=>cases r;rfl
 |int _=>obtain⟨t,rfl⟩:=r;rfl
 |str _=>obtain⟨t,rfl⟩:=r;rfl
 |byt _=>obtain⟨t,rfl⟩:=r;rfl
 |flt _=>obtain⟨t,rfl⟩:=r;rfl
 |ref _=>cases r;rfl
 |ty _=>cases r;rfl
theorem RelV.inj{x y:V}{u:Value}(r:RelV x u)(q:RelV y u):x=y:=Option.some.inj (r.abs.symm.trans q.abs)
theorem Vals.inj:∀{xs ys:List V} {us:List Value},Vals xs us->Vals ys us->xs=ys
 |_,_,_,.nil,.nil=>rfl
 |_,_,_,.cons r t,.cons a t'=>by rw[r.inj a,Vals.inj t t']
section
variable {X:Cx}{pins:List (Addr×Obj)}{σ:St}{H:Hp}{s:Shared}{a:Addr}{xs ys:List V}
theorem SqL.of{K:Fg}(h:H a=some (.lst xs)):SqL K H a xs:=.inl (.inl h)
theorem SqT.of{K:Fg}(h:H a=some (.tup xs)):SqT K H a xs:=.inl (.inl h)
theorem Inv.list(I:Inv X pins σ H s)(h:SqL X.K H a xs):∃its:List Value,Vals xs its/\PlainL s.heap a its.toArray/\xs.length<=sizeLine:=by
 rcases h with h |⟨o,its,n,b,c,hd,hs,hz,r⟩
 ·obtain⟨z,its,n,r,e⟩:=h.ok I.hok
  exact⟨its,r,⟨_,n,e,rfl,rfl,rfl⟩,z⟩
 ·refine⟨its.toList,r,⟨o,n,I.kIn a o b,c,hd,by simpa using hs⟩,?_⟩
  have e:=r.length;simp only[Array.length_toList]at e;omega
theorem Inv.tuple(I:Inv X pins σ H s)(h:SqT X.K H a xs):∃its:List Value,Vals xs its/\IsTup s.heap a its.toArray/\xs.length<=sizeLine:=by
 rcases h with h |⟨o,its,n,b,f,hs,hz,r⟩
 ·obtain⟨z,its,r,o,e,c,n,d,_⟩:=h.ok I.hok
  exact⟨its,r,⟨o,e,c,n,d⟩,z⟩
 ·refine⟨its.toList,r,⟨o,I.kIn a o b,f,n,by simpa using hs⟩,?_⟩
  have e:=r.length;simp only[Array.length_toList]at e;omega
theorem Inv.list_inj(I:Inv X pins σ H s)(h:SqL X.K H a xs)(h':SqL X.K H a ys):xs=ys:=by
 obtain⟨its,r,⟨o,n,e,_,_,d⟩,_⟩:=I.list h;obtain⟨its',c,⟨o',g,b,_,_,d'⟩,_⟩:=I.list h';rw[e]at b;cases b;rw[d]at d';injection d' with f _;have:its=its':=by simpa using congrArg Array.toList f
 subst this;exact r.inj c
theorem Inv.tuple_inj(I:Inv X pins σ H s)(h:SqT X.K H a xs)(h':SqT X.K H a ys):xs=ys:=by
 obtain⟨its,r,⟨o,e,_,n,d⟩,_⟩:=I.tuple h;obtain⟨its',c,⟨o',b,_,g,d'⟩,_⟩:=I.tuple h';rw[e]at b;cases b;rw[d]at d';injection d' with f _;have:its=its':=by simpa using congrArg Array.toList f
 subst this;exact r.inj c
end
abbrev Cx.wish(X:Cx)(E:Value->Shared->Prop):Cx:={X with xe:=E}
abbrev Cx.nox(X:Cx):Cx:=X.wish λ_ _=>False
theorem Cx.Ok.wish{X:Cx}(ok:X.Ok)(E:Value->Shared->Prop):(X.wish E).Ok:=
 ⟨ok.mod,ok.kind,ok.glob,ok.blt,ok.above,ok.inj,ok.has,ok.cab,ok.hd,ok.frames,ok.stk,ok.exf,ok.bs,ok.bsz,ok.noex,ok.exfs,ok.funs,ok.frf⟩
theorem Cx.Ok.unwish{X:Cx}{E:Value->Shared->Prop}(ok:(X.wish E).Ok):X.Ok:=
 ⟨ok.mod,ok.kind,ok.glob,ok.blt,ok.above,ok.inj,ok.has,ok.cab,ok.hd,ok.frames,ok.stk,ok.exf,ok.bs,ok.bsz,ok.noex,ok.exfs,ok.funs,ok.frf⟩
section
variable {X:Cx}{pins:List (Addr×Obj)}{σ:St}{H:Hp}{s:Shared}{E:Value->Shared->Prop}
theorem Inv.wish(I:Inv X pins σ H s)(E:Value->Shared->Prop):Inv (X.wish E) pins σ H s:=⟨I.ok.wish E,I.os,I.bare,I.base,I.loc,I.cell,I.free,I.freeC,I.pin,I.hok,I.len⟩
theorem Inv.unwish(I:Inv (X.wish E) pins σ H s):Inv X pins σ H s:=⟨I.ok.unwish,I.os,I.bare,I.base,I.loc,I.cell,I.free,I.freeC,I.pin,I.hok,I.len⟩
theorem SP.unwish{D:Ends}{f:Flow}{s':Shared}(h:SP (X.wish E) pins D f s'):SP X pins D f s':=by
 cases f with
 |next=>obtain⟨a,H',I,q⟩:=h;exact⟨a,H',I.unwish,q⟩
 |brk=>obtain⟨a,H',I,q⟩:=h;exact⟨a,H',I.unwish,q⟩
 |cont=>obtain⟨a,H',I,q⟩:=h;exact⟨a,H',I.unwish,q⟩
 |ret u=>obtain⟨v,a,H',I,r,q⟩:=h;exact⟨v,a,H',I.unwish,r,q⟩
theorem PSs.nox{st:List Stmt}{t:TS}(h:PSs X.nox st t):PSs X st t:=λpins s σ H D I a=>
 wpAny_mono (h pins s σ H D (I.wish _) a) (λ_ _ q=>q.unwish) λ_ _ z=>False.elim z
end
section
variable {X:Cx}{st:Stmt}{rest:List Stmt}{t u:TS}{e:Expr}{te:TE}{pos:Pos}
def xup:TS:=λD σ H=>D.nx σ H
def tSeq(t u:TS):TS:=λD σ H=>t {D with nx:=u D} σ H
theorem pQ:PSs X [] xup:=λ_ _ σ H _ I h=>wpAny_execs_nil ⟨σ,H,I,h⟩
theorem zpn(h1:PS X st t)(h2:PSs X rest u):PSs X (st::rest) (tSeq t u):=by
 intro pins s σ H D I h;refine wpAny_execs_cons (thn (h1 pins s σ H {D with nx:=u D} I h) λf b q=>?_)
 cases f with
 |next=>
  obtain⟨a,H',c,q⟩:=q;exact h2 pins b a H' D c q
 |ret v=>exact q
 |brk=>exact q
 |cont=>exact q
theorem zpo(h1:PS X st t):PSs X [st] t:=by
 intro pins s σ H D I h;refine wpAny_execs_cons (thn (h1 pins s σ H D I h) λf a q=>?_)
 cases f with
 |next=>exact wpAny_execs_nil q
 |ret v=>exact q
 |brk=>exact q
 |cont=>exact q
theorem Inv.quiet{pins:List (Addr×Obj)}{σ:St}{H:Hp}{s:Shared}(I:Inv X pins σ H s):interactive X.env=false:=by simp[interactive,I.ok.kind]
def xuq(te:TE):TS:=λD σ H=>te σ H λ_ H1=>D.nx σ H1
theorem xby(b:PE X e te)(hs:swapsWith e none pos.line X.env=pure false:=by rfl):PS X (.Expr e pos) (xuq te):=by
 intro pins s σ H D I h;exact wpAny_Expr_any (thn (b pins s σ H _ I h) λv f ⟨x,H1,c,g,a⟩=>⟨σ,H1,c,a⟩) I.quiet hs
def tRet(te:TE):TS:=λD σ H=>te σ H D.rt
theorem xaf(c:PE X e te):PS X (.Return (some e) pos) (tRet te):=by
 intro pins s σ H D I h;exact wpAny_Return_some (thn (c pins s σ H _ I h) λv g ⟨x,H1,f,a,b⟩=>⟨x,σ,H1,f,a,b⟩)
def tIfS(c:TT)(t u:TS):TS:=λD σ H=>c σ H λb H1=>if b=true then t D σ H1 else u D σ H1
theorem xa8{c:Expr}{a b:List Stmt}{tc:TT}(i:PT X c tc)(l:PSs X a t)(j:PSs X b u):PS X (.If c a b pos) (tIfS tc t u):=by
 intro pins s σ H D I h;refine wpAny_If (thn (i pins s σ H _ I h) λd e ⟨H1,g,f⟩=>?_)
 cases d with
 |true=>exact l pins e σ H1 D g f
 |false=>exact j pins e σ H1 D g f
end
abbrev TG:=V->St->Hp->(St->Hp->Prop)->Prop
abbrev TGs:=List V->St->Hp->(St->Hp->Prop)->Prop
def PG(X:Cx)(target:Expr)(t:TG):Prop:=
 ∀(pins:List (Addr×Obj)) (s:Shared) (σ:St) (H:Hp) (v:V) (u:Value) (Q:St->Hp->Prop),Inv X pins σ H s->RelV v u->t v σ H Q->
  wpAny (model X.prog X.w) X.A (assign target X.env u) (λ_ s'=>∃σ' H',Inv X pins σ' H' s'/\Q σ' H') X.xe s
def PGs(X:Cx)(ts:List Expr)(t:TGs):Prop:=
 ∀(pins:List (Addr×Obj)) (s:Shared) (σ:St) (H:Hp) (vs:List V) (us:List Value) (Q:St->Hp->Prop),Inv X pins σ H s->Vals vs us->t vs σ H Q->
  wpAny (model X.prog X.w) X.A (assignInOrder ((assignEach ts X.env).map (·.2)) us) (λ_ s'=>∃σ' H',Inv X pins σ' H' s'/\Q σ' H') X.xe s
abbrev TSet:=V->V->V->Hp->(Hp->Prop)->Prop
def PSet(X:Cx)(t:TSet):Prop:=
 ∀(pins:List (Addr×Obj)) (s:Shared) (σ:St) (H:Hp) (o i v:V) (ov iv u:Value) (Q:Hp->Prop),Inv X pins σ H s->RelV o ov->RelV i iv->RelV v u->t o i v H Q->
  wpAny (model X.prog X.w) X.A (setItem ov iv u) (λ_ s'=>∃H',Inv X pins σ H' s'/\Q H') X.xe s
section
variable {X:Cx}{pos:Pos}
def xfy(i:Nat):TG:=λv σ H Q=>Q (σ.set i (some v)) H
theorem xm3{i:Nat}{x:Str}(c:X.N.Nodup)(hi:X.N[i]?=some x)(a:Loc X.env.scope x)(b:X.fn x=true\/X.env.scope.names.lookup x=some .local:=by first |exact .inl rfl |exact .inr rfl |assumption):PG X (.Name x pos) (xfy i):=by
 intro pins s σ H v u Q I r h;exact wpAny_assign_Name (xkm I c hi a r (λs' e=>⟨_,H,e,h⟩) b)
def gNil:TGs:=λvs σ H Q=>vs=[]/\Q σ H
def xu8(t:TG)(u:TGs):TGs:=λvs σ H Q=>∃v r,vs=v::r/\t v σ H λσ' H'=>u r σ' H' Q
theorem xbh:PGs X [] gNil:=by
 intro pins s σ H vs us Q I r h;obtain⟨e,h⟩:=h;subst e;cases r;exact assignInOrder_nil ⟨σ,H,I,h⟩
theorem xae {e:Expr} {es:List Expr} {t:TG} {u:TGs} (h1:PG X e t) (h2:PGs X es u)
  (hs:(assignEach (e::es) X.env).map (·.2)=assign e X.env::(assignEach es X.env).map (·.2):=by rfl):PGs X (e::es) (xu8 t u):=by
 intro pins s σ H vs us Q I r h;obtain⟨v,j,g,h⟩:=h;subst g
 cases r with
 |cons r c=>
  rw[hs];refine assignInOrder_cons (thn (h1 pins s σ H _ _ _ I r h) λ_ b ⟨a,H1,i,f⟩=>?_);exact h2 pins b a H1 _ _ Q i c f
def gTup(K:Fg)(n:Nat)(t:TGs):TG:=λv σ H Q=>∃a xs,v=.ref a/\SqT K H a xs/\xs.length=n/\t xs σ H Q
theorem xtq {es:List Expr} {k:Nat} {t:TGs} {n:Nat} (p:X.calm=true) (h:PGs X es t)
  (hn:(assignEach es X.env).length=n:=by rfl) (f:(assignEach es X.env).findIdx? (·.1)=none:=by rfl):PG X (.Tuple es k pos) (gTup X.K n t):=by
 intro pins s σ H v u Q I r c;obtain⟨a,xs,w,l,m,c⟩:=c;subst w;cases r;obtain⟨its,g,j,hz⟩:=I.tuple l;refine assign_Tuple_tuple (I.ok.hd p) j (by simp[hn,<- m,g.length]) f λh' i=>?_;have x:Inv X pins σ H {s with heap:=h'}:=I.kept (t':=s.toks) λb o e=>i b o (Nat.ne_of_lt (Heap.lt_size e)) e;exact h pins _ σ H xs _ Q x (by simpa using g) c
def gSub(to ti:TE)(t:TSet):TG:=λv σ H Q=>to σ H λo H1=>ti σ H1 λi H2=>t o i v H2 λH3=>Q σ H3
theorem xqm {o i:Expr} {to c:TE} {t:TSet} (p:PE X o to) (hi:PE X i c) (hs:PSet X t)
  (w:∀v,assign (.Subscript o i pos) X.env v=(do
   let a <- holding [v] (eval o X.env)
   let b <- holding [v,a] (eval i X.env)
   standAt pos
   holding [v,a,b] (setItem a b v)
   release [v,a,b] []):=by intro _;rfl):PG X (.Subscript o i pos) (gSub to c t):=by
 intro pins s σ H v u Q I r h;rw[w];refine wpAny_bind (wpAny_holding (thn (p pins s σ H _ I h) λa f ⟨x,H1,G,j,n⟩=>?_));refine wpAny_bind (wpAny_holding (thn (hi pins f σ H1 _ G n) λb e ⟨y,H2,C,g,m⟩=>?_));refine wpAny_bind (wpAny_standAt (wpAny_bind (wpAny_holding (thn (hs pins e σ H2 x y v a b u _ C j g r m) λ_ M ⟨J,z,l⟩=>?_))));exact wpAny_release ⟨σ,J,z,l⟩
def tAsg(te:TE)(g:TG):TS:=λD σ H=>te σ H λx H1=>g x σ H1 D.nx
theorem xc6 {tg e:Expr} {te:TE} {g:TG} (j:PE X e te) (i:PG X tg g) (hs:swapsWithSole [tg] e pos.line X.env=pure false:=by rfl) (f:swappedStores [tg] e X.env=pure none:=by rfl)
  (h1:(assignEach [tg] X.env).map (·.2)=[assign tg X.env]:=by rfl):PS X (.Assign [tg] e pos) (tAsg te g):=by
 intro pins s σ H D I h;refine wpAny_Assign_stores (thn (j pins s σ H _ I h) λv a ⟨x,H1,l,b,c⟩=>?_) hs f;rw[h1];exact thn (i pins a σ H1 x v _ l b c) λ_ m q=>q
theorem xtn {i:Nat} {x:Str} {e:Expr} {te:TE} {pos':Pos} (hN:X.N.Nodup) (hi:X.N[i]?=some x) (hx:Loc X.env.scope x) (he:PE X e te) (hs:swapsWith e (some (.Name x pos')) pos.line X.env=pure false:=by rfl) (hf:X.fn x=true\/X.env.scope.names.lookup x=some .local:=by first |exact .inl rfl |exact .inr rfl |assumption) :
  PS X (.Assign [.Name x pos'] e pos) (tAsg te (xfy i)):=by
 intro pins s σ H D I h;refine wpAny_Assign_Name (thn (he pins s σ H _ I h) λv s1 ⟨y,H1,I1,r1,q1⟩=>?_) hs;exact xkm I1 hN hi hx r1 (λs2 I2=>⟨_,H1,I2,q1⟩) hf
end
structure It where
 go:Nat->Hp->Prop
 yld:Nat->Hp->V->Hp->Prop
 stop:Nat->Hp->Prop
def FpOk(X:Cx)(pins:List (Addr×Obj))(H:Hp)(b:Addr):Prop:=
 H b=none/\b≠X.env.locals/\b ∉X.fs/\(b∈X.ex\/X.s₀.heap.objs.size<=b)/\(∀x c,X.env.cells.lookup x=some c->c≠b)/\∀p∈X.pn++pins,p.1≠b
theorem Inv.fpOk{X:Cx}{pins:List (Addr×Obj)}{σ:St}{H H':Hp}{s:Shared}{b:Addr}(I:Inv X pins σ H s)(a:s.heap.objs.size<=b)(hn:H' b=none):FpOk X pins H' b:=by
 refine⟨hn,Nat.ne_of_gt (Nat.lt_of_lt_of_le I.lt a),I.nofs a,.inr (Nat.le_trans I.sz a),λx c e z=>?_,λp f z=>?_⟩
 ·obtain⟨v,q⟩:=I.cell x c e
  exact absurd (Nat.lt_of_lt_of_le q.lt (by rw[z];exact a)) (Nat.lt_irrefl _)
 ·exact absurd (Nat.lt_of_lt_of_le (Heap.lt_size (I.pin p f).1) (by rw[z];exact a)) (Nat.lt_irrefl _)
structure Turn(P:Program)(w:World)(K:Fg)(tg:Expr)(J:It)(fp:List Addr)(it:Addr)(tn:Nat->Heap->Prop):Prop where
 mem:it∈fp
 obj:∀i h,tn i h->∀b∈fp,∃o,h.get? b=some o/\∀v,o.data≠.cell v
 keep:∀i h h',tn i h->(∀b∈fp,∀o,h.get? b=some o->h'.get? b=some o)->tn i h'
 item:∀(X:Cx),X.prog=P->X.w=w->X.K=K->X.calm=true->∀(i:Nat) (pins:List (Addr×Obj)) (s:Shared) (σ:St) (H:Hp) (E:Value->Shared->Prop),Inv X pins σ H s->(∀b∈fp,FpOk X pins H b)->tn i s.heap->J.go i H->
  wpAny (model P w) X.A (pyNext (.ref it)) (λr s1=>∃u,r=some u ∧
   wpAny (model P w) X.A (letOwnedTupleGo tg (.ref it) u) (λ_ s2=>∃x H',Inv X pins σ H' s2/\RelV x u/\J.yld i H x H'/\tn (i+1) s2.heap/\∀b∈fp,H' b=none) E s1) E s
 done:∀(X:Cx),X.prog=P->X.w=w->X.K=K->X.calm=true->∀(i:Nat) (pins:List (Addr×Obj)) (s:Shared) (σ:St) (H:Hp) (E:Value->Shared->Prop),Inv X pins σ H s->(∀b∈fp,FpOk X pins H b)->tn i s.heap->J.stop i H->
  wpAny (model P w) X.A (pyNext (.ref it)) (λr s1=>r=none/\Inv X pins σ H s1) E s
 self:∀(A:Around) (i:Nat) (s:Shared) (Q:Value->Shared->Prop) (E:Value->Shared->Prop),tn i s.heap->Q (.ref it) s->wpAny (model P w) A (pyIter (.ref it)) Q E s
abbrev TI:=St->Hp->(It->Hp->Prop)->Prop
def PIE(X:Cx)(pins:List (Addr×Obj))(σ:St)(tg:Expr)(R:It->Hp->Prop)(itv:Value)(s2:Shared):Prop:=
 ∃(it:Addr) (fp:List Addr) (tn:Nat->Heap->Prop) (J:It) (H':Hp),itv=.ref it/\Inv X pins σ H' s2/\Turn X.prog X.w X.K tg J fp it tn/\tn 0 s2.heap/\(∀b∈fp,FpOk X pins H' b)/\R J H'
def PI(X:Cx)(tg iter:Expr)(wi:TI):Prop:=
 ∀(pins:List (Addr×Obj)) (s:Shared) (σ:St) (H:Hp) (R:It->Hp->Prop),Inv X pins σ H s->wi σ H R->
  wpAny (model X.prog X.w) X.A (eval iter X.env) (λv s1=>wpAny (model X.prog X.w) X.A (pyIter v) (PIE X pins σ tg R) X.xe s1) X.xe s
theorem xsn {M:Model} {A:Around} {E:Value->Shared->Prop} {s:Shared} {tg:Expr} {it:Addr} {u:Value} {o:Obj} {n:String} {vs:Array Value} {Q:Unit->Shared->Prop} (ho:s.heap.get? it=some o) (hc:o.cls=.type n) (hd:o.data=.fields vs)
    (hn:["enumerate","zip","dict_itemiterator","dict_reverseitemiterator","odict_iterator","itertools.zip_longest","itertools.pairwise"].contains n=false) (hQ:Q () s):wpAny M A (letOwnedTupleGo tg (.ref it) u) Q E s:=by
  unfold letOwnedTupleGo
  cases tg <;> first
    |exact wpAny_pure hQ
    |(cases u <;> first
        |exact wpAny_pure hQ
        | (refine wpAny_bind (wpAny_load ho ?_)
           rw[hc,hd];show wpAny M A (if (["enumerate","zip","dict_itemiterator","dict_reverseitemiterator","odict_iterator","itertools.zip_longest","itertools.pairwise"].contains n && vs[0]? == some (rawInt _))=true then _ else _) Q E s;rw[if_neg (by intro h;rw[hn,Bool.false_and]at h;cases h)];exact wpAny_pure hQ))
def Itl(K:Fg)(a:Addr):It:=
 ⟨λi H=>∃xs x,SqL K H a xs/\xs[i]?=some x,λi H x H'=>H'=H/\∀xs,SqL K H a xs->xs[i]?=some x,λi H=>∃xs,SqL K H a xs/\xs.length<=i⟩
def Itt(K:Fg)(a:Addr):It:=
 ⟨λi H=>∃xs x,SqT K H a xs/\xs[i]?=some x,λi H x H'=>H'=H/\∀xs,SqT K H a xs->xs[i]?=some x,λi H=>∃xs,SqT K H a xs/\xs.length<=i⟩
def Itr(lo:Int)(n:Nat):It:=⟨λi _=>i<n,λi H x H'=>H'=H/\x=.int (lo+i),λi _=>n<=i⟩
theorem xl7{P:Program}{w:World}{K:Fg}{tg:Expr}(a it:Addr):Turn P w K tg (Itl K a) [it] it (λi h=>h.IsListIter it a i) where
 mem:=by simp
 obj:=λi h st b f=>by
  have e:b=it:=by simpa using f
  subst e;obtain⟨o,e,c,d⟩:=st;exact⟨o,e,λv z=>by rw[d]at z;cases z⟩
 keep:=λi h h' st k=>st.at λo e=>k it (by simp) o e
 item:=by
  intro X C r G Z i pins s σ H E I l st y;subst C r G;obtain⟨xs,x,j,n⟩:=y;obtain⟨its,m,p,hz⟩:=I.list j;obtain⟨u,hu,ru⟩:=m.get n;obtain⟨Y,U,f2,O,M,J⟩:=l it (by simp);refine wpAny_pyNext_list_item st p.isList (x:=u) (by simpa using hu) λh' g sb=>?_;have I1:Inv X pins σ H {s with heap:=h'}:=I.turned (t':=s.toks) (λb o f e=>(sb.2 b f).trans e) Y U O M J;obtain⟨o,e,c,d⟩:=id g;exact⟨u,rfl,xsn (s:={s with heap:=h'}) e c d (by decide) ⟨x,H,I1,ru,⟨rfl,λys hy=>by rw[I.list_inj hy j];exact n⟩,g,λb f=>(l b f).1⟩⟩
 done:=by
  intro X C r G Z i pins s σ H E I l st y;subst C r G;obtain⟨xs,j,n⟩:=y;obtain⟨its,m,p,hz⟩:=I.list j;obtain⟨Y,U,f2,O,M,J⟩:=l it (by simp);have hl:=m.length;exact wpAny_pyNext_list_end (I.ok.hd Z) st p.isList (by simp;omega) λh' eb=>⟨rfl,I.turned (t':=s.toks) (λb o f e=>eb b o f e) Y U O M J⟩
 self:=λ_ _ _ _ _ st h=>wpAny_pyIter_listiter st h
theorem xlh{P:Program}{w:World}{K:Fg}{tg:Expr}(a it:Addr):Turn P w K tg (Itt K a) [it] it (λi h=>h.IsTupleIter it a i) where
 mem:=by simp
 obj:=λi h st b f=>by
  have e:b=it:=by simpa using f
  subst e;obtain⟨o,e,c,d⟩:=st;exact⟨o,e,λv z=>by rw[d]at z;cases z⟩
 keep:=λi h h' st k=>st.at λo e=>k it (by simp) o e
 item:=by
  intro X C r G Z i pins s σ H E I l st y;subst C r G;obtain⟨xs,x,j,n⟩:=y;obtain⟨its,m,p,hz⟩:=I.tuple j;obtain⟨u,hu,ru⟩:=m.get n;obtain⟨Y,U,f2,O,M,J⟩:=l it (by simp);refine wpAny_pyNext_tuple_item st (show s.heap.IsTuple a its.toArray from p) (x:=u) (by simpa using hu) λh' g sb=>?_;have I1:Inv X pins σ H {s with heap:=h'}:=I.turned (t':=s.toks) (λb o f e=>(sb.2 b f).trans e) Y U O M J;obtain⟨o,e,c,d⟩:=id g;exact⟨u,rfl,xsn (s:={s with heap:=h'}) e c d (by decide) ⟨x,H,I1,ru,⟨rfl,λys hy=>by rw[I.tuple_inj hy j];exact n⟩,g,λb f=>(l b f).1⟩⟩
 done:=by
  intro X C r G Z i pins s σ H E I l st y;subst C r G;obtain⟨xs,j,n⟩:=y;obtain⟨its,m,p,hz⟩:=I.tuple j;obtain⟨Y,U,f2,O,M,J⟩:=l it (by simp);have hl:=m.length;exact wpAny_pyNext_tuple_end (I.ok.hd Z) st (show s.heap.IsTuple a its.toArray from p) (by simp;omega) λh' eb=>⟨rfl,I.turned (t':=s.toks) (λb o f e=>eb b o f e) Y U O M J⟩
 self:=λ_ _ _ _ _ st h=>wpAny_pyIter_tupleiter st h
theorem xli{P:Program}{w:World}{K:Fg}{tg:Expr}(it:Addr)(lo:Int)(n:Nat):Turn P w K tg (Itr lo n) [it] it (λi h=>IsRangeIter h it (lo+(i:Nat)*1) ((n:Int)-(i:Nat)) 1) where
 mem:=by simp
 obj:=λi h st b a=>by
  have e:b=it:=by simpa using a
  subst e
  exact⟨_,st,λv z=>by
   have G:Data.fields _=Data.cell v:=z;cases G⟩
 keep:=λi h h' st k=>k it (by simp) _ st
 item:=by
  intro X m g p l i pins s σ H E I f st j;subst m g p;obtain⟨C,y,O,x,u,r⟩:=f it (by simp);have W:=Walks.range (prog:=X.prog) (w:=X.w) (I.ok.hd l) it lo 1 n;refine W.item i s _ _ j st λv h' tk M c J=>?_;obtain⟨t,rfl⟩:=M;have Y:Inv X pins σ H {s with heap:=h',toks:=tk}:=I.turned (λb o a e=>J b o (by simpa using a) e) C y x u r;refine⟨_,rfl,xsn (s:={s with heap:=h',toks:=tk}) (n:="range_iterator") c rfl rfl (by decide) ⟨.int (lo+i),H,Y,⟨t,?_⟩,⟨rfl,rfl⟩,c,λb a=>(f b a).1⟩⟩;rw[Int.mul_one]
 done:=by
  intro X m g p l i pins s σ H E I f st j;subst m g p;obtain⟨C,y,O,x,u,r⟩:=f it (by simp);exact wpAny_pyNext_range_end (I.ok.hd l) st (by have:n<=i:=j;omega) λh' U=>⟨rfl,I.turned (t':=s.toks) (λb o a e=>U b o a e) C y x u r⟩
 self:=λ_ _ _ _ _ st h=>wpAny_pyIter_rangeiter st h
section
variable {X:Cx}{tg:Expr}
def xt9(K:Fg)(tl:TE):TI:=λσ H R=>tl σ H λx H1=>∃a,x=.ref a/\(∃xs,SqL K H1 a xs)/\R (Itl K a) H1
def iTup(K:Fg)(tl:TE):TI:=λσ H R=>tl σ H λx H1=>∃a,x=.ref a/\(∃xs,SqT K H1 a xs)/\R (Itt K a) H1
theorem xru{l:Expr}{tl:TE}(m:PE X l tl):PI X tg l (xt9 X.K tl):=by
 intro pins s σ H R I h;refine thn (m pins s σ H _ I h) λv c ⟨x,H1,f,g,i⟩=>?_;obtain⟨a,e,⟨xs,j⟩,q⟩:=i;subst e;cases g;obtain⟨its,r,p,hz⟩:=f.list j;refine wpAny_pyIter_list p.isList ?_;refine⟨c.heap.objs.size,[c.heap.objs.size],_,_,H1,rfl,f.kept (t':=c.toks) λb o e=>zPO _ e,xl7 a _,⟨_,Heap.get?_push_size _ rfl,rfl,rfl⟩,λb n=>?_,q⟩;have e:b=c.heap.objs.size:=by simpa using n
 subst e;exact f.fpOk (Nat.le_refl _) (f.hok.fresh (Nat.le_refl _))
theorem xto{l:Expr}{tl:TE}(m:PE X l tl):PI X tg l (iTup X.K tl):=by
 intro pins s σ H R I h;refine thn (m pins s σ H _ I h) λv c ⟨x,H1,f,g,i⟩=>?_;obtain⟨a,e,⟨xs,j⟩,q⟩:=i;subst e;cases g;obtain⟨its,r,p,hz⟩:=f.tuple j;refine wpAny_pyIter_tuple (show c.heap.IsTuple a its.toArray from p) ?_;refine⟨c.heap.objs.size,[c.heap.objs.size],_,_,H1,rfl,f.kept (t':=c.toks) λb o e=>zPO _ e,xlh a _,⟨_,Heap.get?_push_size _ rfl,rfl,rfl⟩,λb n=>?_,q⟩;have e:b=c.heap.objs.size:=by simpa using n
 subst e;exact f.fpOk (Nat.le_refl _) (f.hok.fresh (Nat.le_refl _))
theorem xkt {pins:List (Addr×Obj)} {σ:St} {H:Hp} {s:Shared} {R:It->Hp->Prop} {E:Value->Shared->Prop} {lo hi:Int} {t u v:Tok} {tk:Nat} (I:Inv X pins σ H s) (h1:-(2 ^ 62)<=lo) (h2:lo<2 ^ 62) (h3:-(2 ^ 62)<=hi) (h4:hi<2 ^ 62)
  (q:R (Itr lo (hi-lo).toNat) H):wpAny (model X.prog X.w) X.A (pyIter (.ref s.heap.objs.size)) (PIE X pins σ tg R) E {s with heap:=s.heap.push {cls:=.type "range",data:=.fields #[.int lo t,.int hi u,.int 1 v]},toks:=tk}:=by
 refine wpAny_pyIter_range (IsRange.new ..) (small_one h1 h2 h3 h4) ?_;have I1:Inv X pins σ H {s with heap:=s.heap.push {cls:=.type "range",data:=.fields #[.int lo t,.int hi u,.int 1 v]},toks:=tk}:=I.kept λb o e=>zPO _ e
 refine⟨(s.heap.push {cls:=.type "range",data:=.fields #[.int lo t,.int hi u,.int 1 v]}).objs.size,[(s.heap.push {cls:=.type "range",data:=.fields #[.int lo t,.int hi u,.int 1 v]}).objs.size],_,_,H,rfl,
  I1.kept (t':=tk) λb o e=>zPO _ e,xli _ lo (hi-lo).toNat,?_,λb hb=>?_,q⟩
 ·have e1:lo+((0:Nat):Int)*1=lo:=by simp
  have e2:(((hi-lo).toNat:Nat):Int)-((0:Nat):Int)=Builtin.Range.rangeSize lo hi 1:=by rw[rangeSize_one];split <;> omega
  show IsRangeIter _ _ (lo+((0:Nat):Int)*1) ((((hi-lo).toNat:Nat):Int)-((0:Nat):Int)) 1;rw[e1,e2];exact Heap.get?_push_size _ rfl
 ·have e:b=(s.heap.push {cls:=.type "range",data:=.fields #[.int lo t,.int hi u,.int 1 v]}).objs.size:=by simpa using hb
  subst e;exact I1.fpOk (Nat.le_refl _) (I1.hok.fresh (Nat.le_refl _))
def xu7(ta:TA):TI:=λσ H R=>ta σ H λvs H1=>∃j:Int,vs=[.int j]/\-(2 ^ 62)<=j/\j<2 ^ 62/\R (Itr 0 j.toNat) H1
def xu6(ta:TA):TI:=λσ H R=>ta σ H λvs H1=>∃i j:Int,vs=[.int i,.int j]/\(-(2 ^ 62)<=i/\i<2 ^ 62/\-(2 ^ 62)<=j/\j<2 ^ 62)/\R (Itr i (j-i).toNat) H1
theorem xbz{a:Expr}{ta:TA}{p pos:Pos}(l:Gl X "range")(i:X.mg "range"=none)(m:PA X [a] ta)(hs:starEach [a] X.env=[(false,eval a X.env)]:=by rfl):PI X tg (.Call (.Name "range" p) [a] [] pos) (xu7 ta):=by
 intro pins s σ H R I h;refine Call_ (xet I l i boot_range (PyProof.Rows.callWith_type1 (thn (m pos pins s σ H _ I h) λus o ⟨vs,H1,n,f,b⟩=>?_) hs rfl));obtain⟨j,e,b,g,q⟩:=b;subst e
 cases f with
 |cons r c=>
  cases c;obtain⟨t,rfl⟩:=r;exact call_range_1 (xkt n (by omega) (by omega) b g (by simpa using q))
theorem xm2 {a b:Expr} {ta:TA} {p pos:Pos} (x:Gl X "range") (w:X.mg "range"=none) (y:PA X [a,b] ta) (hs:starEach [a,b] X.env=[(false,eval a X.env),(false,eval b X.env)]:=by rfl) (c:starEach [b] X.env=[(false,eval b X.env)]:=by rfl) :
  PI X tg (.Call (.Name "range" p) [a,b] [] pos) (xu6 ta):=by
 intro pins s σ H R I h;refine Call_ (xet I x w boot_range (PyProof.Rows.callWith_type1 (thn (y pos pins s σ H _ I h) λus C ⟨vs,H1,z,l,g⟩=>?_) (by rw[hs,c]) (by rw[c];rfl)));obtain⟨i,j,e,⟨g,u,o,n⟩,q⟩:=g;subst e
 cases l with
 | cons r f=>
  cases f with
  |cons m f=>
   cases f;obtain⟨t,rfl⟩:=r;obtain⟨t',rfl⟩:=m;exact call_range_2 (xkt z g u o n q)
def tFor(wi:TI)(g:TG)(tb:TS):TS:=λD σ H=>wi σ H λJ H1=>∃W:Nat->Nat->St->Hp->Prop,(∃m,W 0 m σ H1)/\∀i m σ H,W i m σ H->
 (J.stop i H/\D.nx σ H)\/(J.go i H/\∃N:St->Hp->Prop,(∀σ' H',N σ' H'->∃m',m'<m/\W (i+1) m' σ' H')/\∀x H',J.yld i H x H'->g x σ H' λσ2 H2=>tb {D with nx:=N,ct:=N,bk:=D.nx} σ2 H2)
def xh7(fp:List Addr)(h:Heap):List (Addr×Obj):=fp.filterMap λb=>(h.get? b).map λo=>(b,o)
theorem xdu{a:List Addr}{h:Heap}{b:Addr}{o:Obj}(c:b∈a)(e:h.get? b=some o):(b,o)∈xh7 a h:=List.mem_filterMap.mpr ⟨b,c,by rw[e];rfl⟩
theorem xnj{a:List Addr}{h:Heap}{p:Addr×Obj}(c:p∈xh7 a h):p.1∈a/\h.get? p.1=some p.2:=by
 obtain⟨b,f,e⟩:=List.mem_filterMap.mp c
 cases q:h.get? b with
 |none=>rw[q]at e;cases e
 |some o=>
  rw[q]at e;have g:(b,o)=p:=Option.some.inj e;subst g;exact⟨f,q⟩
theorem Inv.pinned{pins:List (Addr×Obj)}{σ:St}{H:Hp}{s:Shared}{a:List Addr}(I:Inv X pins σ H s)(i:∀b∈a,FpOk X pins H b)(h:∀b∈a,∃o,s.heap.get? b=some o/\∀v,o.data≠.cell v):Inv X (pins++xh7 a s.heap) σ H s:=
 I.pins_of λp g=>(zMA g).elim (λz=>I.pin p (List.mem_append_right _ z)) λz=>by
  obtain⟨c,e⟩:=xnj z;obtain⟨m,l,j,_⟩:=i p.1 c;obtain⟨o,f,d⟩:=h p.1 c;rw[e]at f;cases f;exact⟨e,m,l,j,d⟩
theorem Inv.unpinned{pins pl:List (Addr×Obj)}{σ:St}{H:Hp}{s:Shared}(I:Inv X (pins++pl) σ H s):Inv X pins σ H s:=I.pins_of λp a=>I.pin p (List.mem_append_right _ (List.mem_append_left _ a))
theorem xcg {j:Expr} {G:List Stmt} {wi:TI} {g:TG} {tb:TS} {pos:Pos} (hp:PassesOwn (model X.prog X.w) X.A X.env X.xe) (hc:X.calm=true) (hi:PI X tg j wi) (hg:PG X tg g) (l:PSs X G tb)
  (hs:∀x,foldedSetIterable j X.env x=pure x:=by intro _;rfl):PS X (.For tg j G [] pos) (tFor wi g tb):=by
 intro pins s σ H D I h;refine wpAny_For (thn (hi pins s σ H _ I h) λv s1 h1=>thn h1 λa5 s2 h2=>?_) hs;obtain⟨it,fp,tn,J,H2,e,I2,T,a2,f2,W,⟨m0,w0⟩,Y⟩:=h2;subst e;have c:∀{H':Hp},(∀b∈fp,H' b=none)->∀b∈fp,FpOk X pins H' b:=λhn b l=>⟨hn b l,(f2 b l).2⟩;refine codeAny_forLoop_any (λn s'=>∃i U H',Inv X pins U H' s'/\tn i s'.heap/\(∀b∈fp,H' b=none)/\W i n U H') ?_ m0 ⟨0,σ,H2,I2,a2,λb l=>(f2 b l).1,w0⟩;rintro n s3 ⟨i,O,H3,I3,a0,a1,w3⟩;rcases Y i n O H3 w3 with⟨Z,qn⟩ |⟨go,N,hN,step⟩
 ·refine wpAny_passesOwn hp (thn (T.done X rfl rfl rfl hc i pins s3 O H3 X.xe I3 (c a1) a0 Z) λr s4 ⟨hr,I4⟩=>?_)
  subst hr;exact wpAny_execs_nil ⟨O,H3,I4,qn⟩
 ·refine wpAny_passesOwn hp (thn (T.item X rfl rfl rfl hc i pins s3 O H3 X.xe I3 (c a1) a0 go) λr s4 ⟨u,hr,h4⟩=>?_)
  subst hr;refine wpAny_passesOwn hp (thn h4 λ_ s5 ⟨x,H5,I5,r5,y5,M,a3⟩=>?_);have a4:=I5.pinned (c a3) (T.obj _ _ M);refine wpAny_passesOwn hp (thn (hg _ s5 O H5 x u _ a4 r5 (step x H5 y5)) λ_ s6 ⟨σ6,H6,I6,q6⟩=>?_);refine wpAny_passesOwn hp (thn (l _ s6 σ6 H6 _ I6 q6) λf s7 C=>?_)
  have p:∀{a:St} {z:Hp},Inv X (pins++xh7 fp s5.heap) a z s7->N a z->∃m,m<n/\∃i U H',Inv X pins U H' s7/\tn i s7.heap/\(∀b∈fp,H' b=none)/\W i m U H':=λ{a z} y n7=>by
   obtain⟨m',hm,w7⟩:=hN a z n7;refine⟨m',hm,i+1,a,z,y.unpinned,T.keep _ _ _ M λb l o e=>(y.pin (b,o) (List.mem_append_right _ (List.mem_append_right _ (xdu l e)))).1,λb l=>?_,w7⟩;obtain⟨o,e,d⟩:=T.obj _ _ M b l;exact(y.pin (b,o) (List.mem_append_right _ (List.mem_append_right _ (xdu l e)))).2.1
  cases f with
  |next=>obtain⟨a,z,y,n7⟩:=C;exact p y n7
  |cont=>obtain⟨a,z,y,n7⟩:=C;exact p y n7
  |brk=>obtain⟨a,z,y,C⟩:=C;exact⟨a,z,y.unpinned,C⟩
  |ret v=>obtain⟨x7,a,z,y,r7,C⟩:=C;exact⟨x7,a,z,y.unpinned,r7,C⟩
end
theorem xdw {K:Fg} {a:Addr} {xs:List V} {g:TG} {tb:TS} {D:Ends} {σ:St} {H:Hp} (Pv:Nat->St->Hp->Prop) (h0:Pv 0 σ H) (hl:∀i σ H,i<=xs.length->Pv i σ H->SqL K H a xs)
  (hs:∀i x σ H,xs[i]?=some x->Pv i σ H->g x σ H λσ2 H2=>tb {D with nx:=Pv (i+1),ct:=Pv (i+1),bk:=D.nx} σ2 H2) (hd:∀σ H,Pv xs.length σ H->D.nx σ H) :
  ∃W:Nat->Nat->St->Hp->Prop,(∃m,W 0 m σ H)/\∀i m σ H,W i m σ H->
   ((Itl K a).stop i H/\D.nx σ H)\/((Itl K a).go i H/\∃N:St->Hp->Prop,(∀σ' H',N σ' H'->∃m',m'<m/\W (i+1) m' σ' H')/\∀x H',(Itl K a).yld i H x H'->g x σ H' λσ2 H2=>tb {D with nx:=N,ct:=N,bk:=D.nx} σ2 H2):=by
 refine⟨λi m σ H=>m=xs.length-i/\i<=xs.length/\Pv i σ H,⟨xs.length,by simp,Nat.zero_le _,h0⟩,?_⟩;rintro i m σ H ⟨rfl,hi,p⟩;have q:=hl i σ H hi p;by_cases hlt:i<xs.length
 ·refine .inr ⟨⟨xs,xs[i],q,by simp[hlt]⟩,Pv (i+1),λσ' H' p'=>⟨xs.length-(i+1),by omega,rfl,hlt,p'⟩,λx H' y=>?_⟩
  obtain⟨e,y⟩:=y;subst e;exact hs i x σ _ (y xs q) p
 ·have e:i=xs.length:=by omega
  subst e;exact .inl ⟨⟨xs,q,Nat.le_refl _⟩,hd σ H p⟩
theorem xdp {K:Fg} {a:Addr} {xs:List V} {g:TG} {tb:TS} {D:Ends} {σ:St} {H:Hp} (b:Nat->St->Hp->Prop) (h0:b 0 σ H) (n:∀i σ H,i<=xs.length->b i σ H->SqT K H a xs)
  (hs:∀i x σ H,xs[i]?=some x->b i σ H->g x σ H λf H2=>tb {D with nx:=b (i+1),ct:=b (i+1),bk:=D.nx} f H2) (hd:∀σ H,b xs.length σ H->D.nx σ H) :
  ∃W:Nat->Nat->St->Hp->Prop,(∃m,W 0 m σ H)/\∀i m σ H,W i m σ H->
   ((Itt K a).stop i H/\D.nx σ H)\/((Itt K a).go i H/\∃N:St->Hp->Prop,(∀h H',N h H'->∃j,j<m/\W (i+1) j h H')/\∀x H',(Itt K a).yld i H x H'->g x σ H' λf H2=>tb {D with nx:=N,ct:=N,bk:=D.nx} f H2):=by
 refine⟨λi m σ H=>m=xs.length-i/\i<=xs.length/\b i σ H,⟨xs.length,by simp,Nat.zero_le _,h0⟩,?_⟩;rintro i m σ H ⟨rfl,hi,p⟩;have q:=n i σ H hi p;by_cases c:i<xs.length
 ·refine .inr ⟨⟨xs,xs[i],q,by simp[c]⟩,b (i+1),λh H' l=>⟨xs.length-(i+1),by omega,rfl,c,l⟩,λx H' y=>?_⟩
  obtain⟨e,y⟩:=y;subst e;exact hs i x σ _ (y xs q) p
 ·have e:i=xs.length:=by omega
  subst e;exact .inl ⟨⟨xs,q,Nat.le_refl _⟩,hd σ H p⟩
theorem xcq {lo:Int} {n:Nat} {g:TG} {tb:TS} {D:Ends} {σ:St} {H:Hp} (b:Nat->St->Hp->Prop) (h0:b 0 σ H)
  (hs:∀i σ H,i<n->b i σ H->g (.int (lo+i)) σ H λc H2=>tb {D with nx:=b (i+1),ct:=b (i+1),bk:=D.nx} c H2) (hd:∀σ H,b n σ H->D.nx σ H) :
  ∃W:Nat->Nat->St->Hp->Prop,(∃m,W 0 m σ H)/\∀i m σ H,W i m σ H->
   ((Itr lo n).stop i H/\D.nx σ H)\/((Itr lo n).go i H/\∃N:St->Hp->Prop,(∀f H',N f H'->∃h,h<m/\W (i+1) h f H')/\∀x H',(Itr lo n).yld i H x H'->g x σ H' λc H2=>tb {D with nx:=N,ct:=N,bk:=D.nx} c H2):=by
 refine⟨λi m σ H=>m=n-i/\i<=n/\b i σ H,⟨n,by simp,Nat.zero_le _,h0⟩,?_⟩;rintro i m σ H ⟨rfl,hi,p⟩;by_cases a:i<n
 ·refine .inr ⟨a,b (i+1),λf H' j=>⟨n-(i+1),by omega,rfl,a,j⟩,λx H' y=>?_⟩
  obtain⟨e,y⟩:=y;subst e y;exact hs i σ _ a p
 ·have e:i=n:=by omega
  subst e;exact .inl ⟨Nat.le_refl _,hd σ H p⟩
abbrev R2:=V->V->Hp->VK->Prop
def OpR(X:Cx)(f:Value->Value->Sem Value)(r:R2):Prop:=
 ∀(pins:List (Addr×Obj)) (s:Shared) (σ:St) (H:Hp) (x y:V) (v u:Value) (Q:VK),Inv X pins σ H s->RelV x v->RelV y u->r x y H Q->
  wpAny (model X.prog X.w) X.A (f v u) (EP X pins σ Q) X.xe s
def xd2(X:Cx)(f:Value)(r:List V->Hp->VK->Prop):Prop:=
 ∀(pins:List (Addr×Obj)) (s:Shared) (σ:St) (H:Hp) (xs:List V) (us:List Value) (Q:VK),Inv X pins σ H s->Vals xs us->r xs H Q->
  wpAny (model X.prog X.w) X.A (call f us) (EP X pins σ Q) X.xe s
def tOp(r:R2)(ta tb:TE):TE:=λσ H Q=>ta σ H λx H1=>tb σ H1 λy H2=>r x y H2 Q
def rI(C:Int->Int->Prop)(g:Int->Int->V):R2:=λx y H Q=>∃i j,x=.int i/\y=.int j/\C i j/\Q (g i j) H
def rI0(g:Int->Int->V):R2:=λx y H Q=>∃i j,x=.int i/\y=.int j/\Q (g i j) H
section
variable {X:Cx}{a b c:Expr}{ta tb tc:TE}{pos:Pos}
theorem binT (r:PE X a ta) (p:PE X b tb) {pins:List (Addr×Obj)} {s:Shared} {σ:St} {H:Hp} {R:V->V->Hp->Prop} (I:Inv X pins σ H s)
  (h:ta σ H λx H1=>tb σ H1 λy H2=>R x y H2) {Q:Value->Shared->Prop} {f:Value->Value->Sem Value}
  (o:∀v u c x y H2,Inv X pins σ H2 c->RelV x v->RelV y u->R x y H2->wpAny (model X.prog X.w) X.A (f v u) Q X.xe c) :
  wpAny (model X.prog X.w) X.A (eval a X.env) (λv g=>wpAny (model X.prog X.w) X.A (eval b X.env) (λu e=>wpAny (model X.prog X.w) X.A (f v u) Q X.xe e) X.xe g) X.xe s:=by
 refine thn (r pins s σ H _ I h) λv i ⟨x,H1,C,l,n⟩=>?_;refine thn (p pins i σ H1 _ C n) λu c ⟨y,H2,z,j,m⟩=>?_;exact o v u c x y H2 z l j m
theorem xaj{op:Operator}{r:R2}(g:OpR X (binaryOp op) r)(j:PE X a ta)(i:PE X b tb):PE X (.BinOp a op b pos) (tOp r ta tb):=by
 intro pins s σ H Q I h;exact wpAny_BinOp (binT j i I h λv u c x y H2 l f e q=>g pins c σ H2 x y v u Q l f e q)
theorem opI {f:Value->Value->Sem Value} {C:Int->Int->Prop} {g:Int->Int->Int}
  (a:∀(i j:Int) (t u:Tok) (s:Shared) (Q:Value->Shared->Prop) (E:Value->Shared->Prop),C i j->Q (.int (g i j) s.toks) {s with toks:=s.toks+1}->wpAny (model X.prog X.w) X.A (f (.int i t) (.int j u)) Q E s) :
  OpR X f (rI C λi j=>.int (g i j)):=by
 intro pins s σ H x y v u Q I c b h;obtain⟨i,j,rfl,rfl,e,q⟩:=h;obtain⟨t,rfl⟩:=c;obtain⟨t',rfl⟩:=b;exact a i j t t' s _ _ e ⟨.int (g i j),H,I.tok _,⟨_,rfl⟩,q⟩
theorem opI0 {f:Value->Value->Sem Value} {g:Int->Int->Int}
  (a:∀(i j:Int) (t u:Tok) (s:Shared) (Q:Value->Shared->Prop) (E:Value->Shared->Prop),Q (.int (g i j) s.toks) {s with toks:=s.toks+1}->wpAny (model X.prog X.w) X.A (f (.int i t) (.int j u)) Q E s) :
  OpR X f (rI0 λi j=>.int (g i j)):=by
 intro pins s σ H x y v u Q I c b h;obtain⟨i,j,rfl,rfl,q⟩:=h;obtain⟨t,rfl⟩:=c;obtain⟨t',rfl⟩:=b;exact a i j t t' s _ _ ⟨.int (g i j),H,I.tok _,⟨_,rfl⟩,q⟩
theorem opB0 {f:Value->Value->Sem Value} {g:Int->Int->Bool}
  (a:∀(i j:Int) (t u:Tok) (s:Shared) (Q:Value->Shared->Prop) (E:Value->Shared->Prop),Q (.bool (g i j)) s->wpAny (model X.prog X.w) X.A (f (.int i t) (.int j u)) Q E s) :
  OpR X f (rI0 λi j=>.bl (g i j)):=by
 intro pins s σ H x y v u Q I c b h;obtain⟨i,j,rfl,rfl,q⟩:=h;obtain⟨t,rfl⟩:=c;obtain⟨t',rfl⟩:=b;exact a i j t t' s _ _ ⟨.bl (g i j),H,I,rfl,q⟩
def CPow(i j:Int):Prop:=0<=j/\j<=1000000/\i.natAbs<2 ^ 64
def CMul(i j:Int):Prop:=(-(2 ^ 64)<i/\i<2 ^ 64)\/(-(2 ^ 64)<j/\j<2 ^ 64)
theorem CMul.ok{i j:Int}(h:CMul i j):IntMulOk i j:=by
 rcases h with⟨h1,h2⟩ |⟨h1,h2⟩
 ·exact .of_left (intBits_le_64 h1 h2)
 ·exact .of_right (intBits_le_64 h1 h2)
theorem xba:OpR X (binaryOp .Add) (rI0 λi j=>.int (i+j)):=opI0 λ_ _ _ _ _ _ _ q=>add_int q
theorem xck:OpR X (binaryOp .Sub) (rI0 λi j=>.int (i-j)):=opI0 λ_ _ _ _ _ _ _ q=>sub_int q
theorem xcr:OpR X (binaryOp .Mult) (rI CMul λi j=>.int (i*j)):=opI λ_ _ _ _ _ _ _ a q=>mul_int q a.ok
theorem xcb:OpR X (binaryOp .Mod) (rI (λ_ j=>0<j) λi j=>.int (i%j)):=opI λi j _ _ _ _ _ hc q=>by
 have h1:(0:Int)<j:=hc;exact mod_int' (by omega) (by rw[Int.fmod_eq_emod_of_nonneg i (by omega)];exact q)
theorem xqr:OpR X (binaryOp .Pow) (rI CPow λi j=>.int (i ^ j.toNat)):=opI λ_ _ _ _ _ _ _ a q=>pow_int_small a.1 a.2.1 a.2.2 q
end
def scal:V->V->Bool
 |.non,.non=>true |.non,.int _=>true |.int _,.non=>true |.non,.bl _=>true |.bl _,.non=>true |.non,.str _=>true |.str _,.non=>true
 |.int _,.int _=>true |.bl _,.bl _=>true |.str _,.str _=>true |.byt _,.byt _=>true
 |.int _,.str _=>true |.str _,.int _=>true |.bl _,.str _=>true |.str _,.bl _=>true
 |_,_=>false
def rEq:R2:=λx y H Q=>scal x y=true/\Q (.bl (decide (x=y))) H
def rNe:R2:=λx y H Q=>scal x y=true/\Q (.bl (!decide (x=y))) H
theorem xoj{i j:Int}:decide (V.int i=V.int j)=(i == j):=by
 rw[Bool.eq_iff_iff];simp
theorem xq5{i j:Bool}:decide (V.bl i=V.bl j)=(i == j):=by
 rw[Bool.eq_iff_iff];simp
theorem xoi{i j:Str}:decide (V.str i=V.str j)=(i == j):=by
 rw[Bool.eq_iff_iff];simp
theorem xok{i j:Array UInt8}:decide (V.byt i=V.byt j)=(i.toList == j.toList):=by
 rw[Bool.eq_iff_iff];cases i;cases j;simp
section
variable {X:Cx}{a b c:Expr}{ta tb tc:TE}{pos:Pos}
theorem xbr{pins:List (Addr×Obj)}{σ:St}{H:Hp}{s:Shared}{Q:VK}{k k':Bool}(I:Inv X pins σ H s)(q:Q (.bl k) H)(e:k=k'):EP X pins σ Q (.bool k') s:=by
 subst e;exact⟨.bl k,H,I,rfl,q⟩
theorem xbd:OpR X (compareOp .Eq) rEq:=by
 intro pins s σ H x y v u Q I b a h;obtain⟨hs,q⟩:=h
 cases x with
 |non=>
  cases b
  cases y with
  |non=>cases a;exact PySem.EqNone.eq_none_none (xbr I q (by simp))
  |bl j=>cases a;exact PySem.EqNone.eq_none_bool (xbr I q (by simp))
  |int j=>obtain⟨t',rfl⟩:=a;exact PySem.EqNone.eq_none_int (xbr I q (by simp))
  |str j=>obtain⟨t',rfl⟩:=a;exact PySem.EqNone.eq_none_str (xbr I q (by simp))
  |_=>exact absurd (show false=true from hs) Bool.false_ne_true
 |bl i=>
  cases b
  cases y with
  |non=>cases a;exact PySem.EqNone.eq_bool_none (xbr I q (by simp))
  |bl j=>cases a;exact eq_bool (xbr I q xq5)
  |str j=>obtain⟨t',rfl⟩:=a;exact PySem.EqMixed.eq_bool_str (xbr I q (by simp))
  |_=>exact absurd (show false=true from hs) Bool.false_ne_true
 |int i=>
  obtain⟨t,rfl⟩:=b
  cases y with
  |non=>cases a;exact PySem.EqNone.eq_int_none (xbr I q (by simp))
  |int j=>obtain⟨t',rfl⟩:=a;exact eq_int (xbr I q xoj)
  |str j=>obtain⟨t',rfl⟩:=a;exact PySem.EqMixed.eq_int_str (xbr I q (by simp))
  |_=>exact absurd (show false=true from hs) Bool.false_ne_true
 |str i=>
  obtain⟨t,rfl⟩:=b
  cases y with
  |non=>cases a;exact PySem.EqNone.eq_str_none (xbr I q (by simp))
  |bl j=>cases a;exact PySem.EqMixed.eq_str_bool (xbr I q (by simp))
  |int j=>obtain⟨t',rfl⟩:=a;exact PySem.EqMixed.eq_str_int (xbr I q (by simp))
  |str j=>obtain⟨t',rfl⟩:=a;exact eq_str (xbr I q xoi)
  |_=>exact absurd (show false=true from hs) Bool.false_ne_true
 |byt i=>
  obtain⟨t,rfl⟩:=b
  cases y with
  |byt j=>obtain⟨t',rfl⟩:=a;exact PySem.W.eq_bytes (xbr I q xok)
  |_=>exact absurd (show false=true from hs) Bool.false_ne_true
 |_=>cases y <;> exact absurd (show false=true from hs) Bool.false_ne_true
theorem xr0:OpR X (compareOp .NotEq) rNe:=by
 intro pins s σ H x y v u Q I b a h;obtain⟨hs,q⟩:=h
 cases x with
 |non=>
  cases b
  cases y with
  |non=>cases a;exact PySem.EqNone.ne_none_none (xbr I q (by simp))
  |bl j=>cases a;exact PySem.EqNone.ne_none_bool (xbr I q (by simp))
  |int j=>obtain⟨t',rfl⟩:=a;exact PySem.EqNone.ne_none_int (xbr I q (by simp))
  |str j=>obtain⟨t',rfl⟩:=a;exact PySem.EqNone.ne_none_str (xbr I q (by simp))
  |_=>exact absurd (show false=true from hs) Bool.false_ne_true
 |bl i=>
  cases b
  cases y with
  |non=>cases a;exact PySem.EqNone.ne_bool_none (xbr I q (by simp))
  |bl j=>cases a;exact ne_bool (xbr I q (congrArg not xq5))
  |str j=>obtain⟨t',rfl⟩:=a;exact PySem.EqMixed.ne_bool_str (xbr I q (by simp))
  |_=>exact absurd (show false=true from hs) Bool.false_ne_true
 |int i=>
  obtain⟨t,rfl⟩:=b
  cases y with
  |non=>cases a;exact PySem.EqNone.ne_int_none (xbr I q (by simp))
  |int j=>obtain⟨t',rfl⟩:=a;exact ne_int (xbr I q (congrArg not xoj))
  |str j=>obtain⟨t',rfl⟩:=a;exact PySem.EqMixed.ne_int_str (xbr I q (by simp))
  |_=>exact absurd (show false=true from hs) Bool.false_ne_true
 |str i=>
  obtain⟨t,rfl⟩:=b
  cases y with
  |non=>cases a;exact PySem.EqNone.ne_str_none (xbr I q (by simp))
  |bl j=>cases a;exact PySem.EqMixed.ne_str_bool (xbr I q (by simp))
  |int j=>obtain⟨t',rfl⟩:=a;exact PySem.EqMixed.ne_str_int (xbr I q (by simp))
  |str j=>obtain⟨t',rfl⟩:=a;exact ne_str (xbr I q (congrArg not xoi))
  |_=>exact absurd (show false=true from hs) Bool.false_ne_true
 |byt i=>
  obtain⟨t,rfl⟩:=b
  cases y with
  |byt j=>obtain⟨t',rfl⟩:=a;exact PySem.W.ne_bytes (xbr I q (congrArg not xok))
  |_=>exact absurd (show false=true from hs) Bool.false_ne_true
 |_=>cases y <;> exact absurd (show false=true from hs) Bool.false_ne_true
theorem xez:OpR X (compareOp .Lt) (rI0 λi j=>.bl (decide (i<j))):=opB0 λ_ _ _ _ _ _ _ q=>lt_int q
theorem xc7:OpR X (compareOp .Gt) (rI0 λi j=>.bl (decide (j<i))):=opB0 λ_ _ _ _ _ _ _ q=>gt_int q
theorem xtt:OpR X (compareOp .GtE) (rI0 λi j=>.bl (decide (j<=i))):=opB0 λ_ _ _ _ _ _ _ q=>ge_int q
theorem xm7:OpR X (compareOp .Is) (λx y H Q=>y=.non/\Q (.bl (decide (x=.non))) H):=by
 intro pins s σ H x y v u Q I rx ry h;obtain⟨rfl,q⟩:=h;cases ry;refine is_none_gen (xbr I q ?_)
 cases x <;> first
  |(cases rx;rfl)
  |(obtain⟨t,rfl⟩:=rx;rfl)
theorem nM(b:Expr){op:CmpOp}(h:op≠.In:=by decide)(h2:op≠.NotIn:=by decide):behindInMarks op b=false:=by
 have c:(op == CmpOp.In)=false:=by cases op <;> first |rfl |exact absurd rfl h
 have a:(op == CmpOp.NotIn)=false:=by cases op <;> first |rfl |exact absurd rfl h2
 cases b <;> simp[behindInMarks,c,a]
theorem xdn{op:CmpOp}{r:R2}(ho:OpR X (compareOp op) r)(ha:PE X a ta)(hb:PE X b tb)(hm:behindInMarks op b=false):PE X (.Compare a [op] [b] pos) (tOp r ta tb):=by
 intro pins s σ H Q I h;exact wpAny_Compare1 (binT ha hb I h λv u s2 x y H2 I2 rx ry q=>ho pins s2 σ H2 x y v u Q I2 rx ry q) hm
def xun(t:TE):TT:=λσ H Q=>t σ H λx H'=>∃k,x=.bl k/\Q k H'
theorem pR{op:CmpOp}{r:R2}(p:OpR X (compareOp op) r)(G:PE X a ta)(C:PE X b tb)(w:behindInMarks op b=false):PT X (.Compare a [op] [b] pos) (xun (tOp r ta tb)):=by
 intro pins s σ H Q I h
 refine wpAny_isTrue_Compare1 (thn (G pins s σ H _ I h) λv g ⟨x,H1,O,l,o⟩=>thn (C pins g σ H1 _ O o) λu f ⟨y,H2,M,j,n⟩=>
  thn (p pins f σ H2 x y v u _ M l j n) λc Y ⟨z,U,J,i,k,e,m⟩=>?_) w
 subst e;cases i;exact wpAny_truthy_bool ⟨U,J,m⟩
theorem xin:(sizeLine:Nat)<2 ^ 63:=by rw[sizeLine_eq];decide
theorem xdt:OpR X (binaryOp .Add) (λx y H Q=>∃i j,x=.str i/\y=.str j/\i.length+j.length<=sizeLine/\Q (.str (i++j)) H):=by
 intro pins s σ H x y v u Q I b a h;obtain⟨i,j,rfl,rfl,hz,q⟩:=h;obtain⟨t,rfl⟩:=b;obtain⟨t',rfl⟩:=a;exact add_str (λt' tk=>⟨.str (i++j),H,I.tok _,⟨_,rfl⟩,q⟩) hz
theorem xf3{x:V}{us:List Value}(r:Vals [x] us):∃u,us=[u]/\RelV x u:=by
 cases r with
 |cons b a=>cases a;exact⟨_,rfl,b⟩
theorem xsv{x y:V}{us:List Value}(r:Vals [x,y] us):∃u a,us=[u,a]/\RelV x u/\RelV y a:=by
 cases r with
 |cons f e=>
  cases e with
  |cons c b=>cases b;exact⟨_,_,rfl,f,c⟩
theorem xoq(b:X.calm=true):xd2 X (.builtin "max") (λxs H Q=>∃i j,xs=[.int i,.int j]/\Q (.int (if j > i then j else i)) H):=by
 intro pins s σ H xs us Q I r h;obtain⟨i,j,rfl,q⟩:=h;obtain⟨u,c,rfl,⟨t,rfl⟩,⟨t',rfl⟩⟩:=xsv r;refine max_two_ints (I.ok.hd b) λh' tk k=>⟨_,H,I.kept k,?_,q⟩;by_cases a:j > i
 ·rw[if_pos a,if_pos a];exact⟨_,rfl⟩
 ·rw[if_neg a,if_neg a];exact⟨_,rfl⟩
theorem xi4(b:X.calm=true):xd2 X (.builtin "min") (λxs H Q=>∃i j,xs=[.int i,.int j]/\Q (.int (if j<i then j else i)) H):=by
 intro pins s σ H xs us Q I r h;obtain⟨i,j,rfl,q⟩:=h;obtain⟨u,c,rfl,⟨t,rfl⟩,⟨t',rfl⟩⟩:=xsv r;refine min_two_ints (I.ok.hd b) λh' tk k=>⟨_,H,I.kept k,?_,q⟩;by_cases a:j<i
 ·rw[if_pos a,if_pos a];exact⟨_,rfl⟩
 ·rw[if_neg a,if_neg a];exact⟨_,rfl⟩
theorem xf1:xd2 X (.type "int") (λxs H Q=>(∃i,xs=[.int i]/\Q (.int i) H)\/∃k,xs=[.bl k]/\Q (.int (if k then 1 else 0)) H):=by
 intro pins s σ H xs us Q I r h;rcases h with⟨i,rfl,q⟩ |⟨k,rfl,q⟩
 ·obtain⟨u,rfl,t,rfl⟩:=xf3 r
  exact call_int_int ⟨.int i,H,I,⟨_,rfl⟩,q⟩
 ·obtain⟨u,rfl,a⟩:=xf3 r
  cases a;exact call_int_bool ⟨.int (if k then 1 else 0),H,I.tok _,⟨_,rfl⟩,q⟩
end
structure ObjM(h:Heap)(x dx C:Addr)(mA:Str->Option Value):Prop where
 obj:h.get? x=some (PySem.W.instObj C dx)
 ns:h.Ns1 dx mA
 ne:dx≠x
theorem xnt{h:Heap}{dx:Addr}{mA:Str->Option Value}(n:h.Ns1 dx mA):∃od,h.get? dx=some od/\∀name,PySem.W.lookIn name od=some (mA name):=by
 obtain⟨o,es,ep,f,hd,i,_,g⟩:=n;refine⟨o,f,λname=>?_⟩;have e:=g name;unfold nsFind findBy at e;rw[<- Array.find?_toList]at e;unfold PySem.W.lookIn;rw[hd];dsimp only;split
 ·rename_i y q
  rw[q]at e;exact congrArg some e
 ·rename_i q
  rw[q]at e
  have a:es.toList.any (·.refKey)=false:=by
   rw[List.any_eq_false];intro y c;obtain⟨z,t,b⟩:=i y (Array.mem_toList_iff.mp c);simp[DictEntry.refKey,b]
  have j:¬es.toList.any (·.refKey)=true:=by rw[a];exact Bool.false_ne_true
  rw[if_neg j];exact congrArg some e
theorem ObjM.look{h:Heap}{x dx C:Addr}{mA:Str->Option Value}(I:ObjM h x dx C mA):∃od,PySem.W.InstAt h x (PySem.W.instObj C dx) C (some od)/\∀name,PySem.W.lookIn name od=some (mA name):=
 let ⟨od,a,b⟩:=xnt I.ns
 ⟨od,⟨I.obj,rfl,rfl,a⟩,b⟩
section
variable {prog:Program}{w:World}{A:Around}{E:Value->Shared->Prop}{s:Shared}{K:Fg}{x dx C f:Addr}{mA:Str->Option Value}{name:Str}{v:Value}
theorem xso {a:Bool} {Q:Value->Shared->Prop} (X:K.In s.heap) (I:ObjM s.heap x dx C mA) (g:PySem.W.plainGet K C name=true) (f:PySem.W.hasDictIn K C=true)
  (i:PySem.W.findIn K (.ref C) name=some none) (c:mA name=some v) (b:PySem.W.handedIn v=true) (h:Q v {s with toks:=s.toks+1}) :
  wpAny (model prog w) A (getAttr (.ref x) name a) Q E s:=by
 obtain⟨od,J,e⟩:=I.look;exact PySem.W.get_value X J (PySem.W.plainGet_of g).1 (PySem.W.findObj_own f i rfl (by rw[e,c])) b h
theorem xpx {pl:Sem Bool} {Q:Value×List Value->Shared->Prop} (X:K.In s.heap) (I:ObjM s.heap x dx C mA) (a:PySem.W.plainGet K C name=true)
  (g:PySem.W.findIn K (.ref C) name=some (some (.ref f))) (c:PySem.W.isFn K (.ref f)=true) (b:mA name=none) (h:Q (.ref f,[.ref x]) s) :
  wpAny (model prog w) A (getMethod (.ref x) name pl) Q E s:=by
 obtain⟨od,J,e⟩:=I.look;exact PySem.W.method_fn X J (PySem.W.plainGet_of a).1 (PySem.W.plainGet_of a).2 g (beq_iff_eq.mp c) (by show(PySem.W.lookIn name od).map (·.isSome)=some false;rw[e,b];rfl) h
theorem xrp {ns:List Str} {Q:Unit->Shared->Prop} (X:K.In s.heap) (I:ObjM s.heap x dx C mA)
  (hs:PySem.W.findIn K (.ref C) "__setattr__"=some (some (.builtin "object.__setattr__"))) (o:PySem.W.plainOver K C=true) (n:PySem.W.takerIn K C name=some none) (p:PySem.W.hasDictIn K C=true)
  (m:PySem.Within mA ns) (hsz:ns.length<=sizeLine)
  (h:∀h',ObjM h' x dx C (λy=>if y=name then some v else mA y)->Heap.SameBut dx s.heap h'->Q () {s with heap:=h',toks:=s.toks+2}) :
  wpAny (model prog w) A (setAttr (.ref x) name v) Q E s:=by
 obtain⟨od,J,O⟩:=I.look;refine PySem.W.set_plain X J hs (PySem.W.osa_open (s:={s with toks:=s.toks+1}) (r:=none) X J o n λb=>?_);obtain⟨U,u,i⟩:=PySem.W.any_some p;have l:s.heap.get? x=some ⟨.ref C,some dx,.plain,#[]⟩:=I.obj;refine wpAny_bind (wpAny_pure (wpAny_bind (wpAny_bind (wpAny_loadPart l (wpAny_bind (PySem.W.Looks.here (s:={s with toks:=s.toks+1}) (PySem.W.looks_clsIn X u) ?_))))));rw[i];refine wpAny_pure (a:=some dx) (wpAny_bind (wpAny_pure (wpAny_bind ?_)));refine wpAny_nsSet1 (s:={s with toks:=s.toks+1}) I.ns λh' e c=>?_;obtain⟨M,z,G,f,g,j⟩:=e.count (PySem.Within.cons name v m);refine wpAny_bind (wpAny_lookBehind f (by rw[g];exact pastItsLine_dict (Nat.le_trans j (by rw[List.length_cons];omega))) ?_);exact wpAny_pure (h _ ⟨(c.2 _ (Ne.symm I.ne)).trans I.obj,e,I.ne⟩ c)
theorem xpq {R:Result->Shared->Prop} {vs:List Value} {kw:List (Str×Value)} (X:K.In s.heap) (hm:PySem.W.makesIn K C=true)
  (hi:PySem.W.findIn K (.ref C) "__init__"=some (some (.ref f))) (hf:PySem.W.typeIn K (.ref f)=some (.type "function"))
  (h:codeAny (model prog w) (A.under (.builtin "type.__call__" ⟨.ref C::vs,kw⟩)) (.call (.ref f) ⟨.ref (s.heap.objs.size+1)::vs,kw⟩) (PySem.W.InitBack (s.heap.objs.size+1) R)
   {s with heap:=(s.heap.push PySem.W.emptyDict).push (PySem.W.instObj C s.heap.objs.size)}) :
  codeAny (model prog w) A (.call (.ref C) ⟨vs,kw⟩) R s:=by
 obtain⟨hh,g,d,t,os⟩:=s;exact PySem.W.make_core (PySem.W.makes_of X hm) (PySem.W.looks_findIn X hi) (λself=>PySem.W.bind_fn X self hf) (.inl rfl) h
end
def putF(f:Str)(v:V):List (Str×V)->List (Str×V)
 |[]=>[(f,v)]
 |(g,x)::r=>if g=f then (g,v)::r else (g,x)::putF f v r
theorem xc3(f g:Str)(v:V):∀fs:List (Str×V),(putF f v fs).lookup g=if g=f then some v else fs.lookup g
 | []=>by
  show List.lookup g [(f,v)]=_;by_cases h:g=f
  ·have a:(g == f)=true:=beq_iff_eq.mpr h
   simp only[List.lookup,a,if_pos h]
  ·have a:(g == f)=false:=beq_eq_false_iff_ne.mpr h
   simp only[List.lookup,a,if_neg h]
 | (k,x)::r=>by
  have c:=xc3 f g v r;rw[show putF f v ((k,x)::r)=(if k=f then (k,v)::r else (k,x)::putF f v r) from rfl];by_cases b:k=f
  ·rw[if_pos b]
   by_cases h:g=k
   ·have a:(g == k)=true:=beq_iff_eq.mpr h
    simp only[List.lookup,a,if_pos (h.trans b)]
   ·have a:(g == k)=false:=beq_eq_false_iff_ne.mpr h
    simp only[List.lookup,a,if_neg (λe:g=f=>h (e.trans b.symm))]
  ·rw[if_neg b]
   by_cases h:g=k
   ·have a:(g == k)=true:=beq_iff_eq.mpr h
    simp only[List.lookup,a,if_neg (λe:g=f=>b (h.symm.trans e))]
   ·have a:(g == k)=false:=beq_eq_false_iff_ne.mpr h
    simp only[List.lookup,a];exact c
theorem xfv(f:Str)(v:V):∀fs:List (Str×V),f∈(putF f v fs).map (·.1)/\∀g,g∈fs.map (·.1)->g∈(putF f v fs).map (·.1)
 |[]=>⟨by simp[putF],λg h=>by simp at h⟩
 | (k,x)::r=>by
  obtain⟨c,b⟩:=xfv f v r;rw[show putF f v ((k,x)::r)=(if k=f then (k,v)::r else (k,x)::putF f v r) from rfl];by_cases a:k=f
  ·rw[if_pos a]
   subst a;exact⟨by simp,λg h=>by simpa using h⟩
  ·rw[if_neg a]
   refine⟨?_,λg h=>?_⟩
   ·rw[List.map_cons]
    exact List.mem_cons_of_mem _ c
   ·rw[List.map_cons]at h⊢
    rcases zMC h with e |e
    ·exact List.mem_cons.mpr (.inl e)
    ·exact List.mem_cons_of_mem _ (b g e)
theorem xbe(f:Str)(v:V):∀fs:List (Str×V),(putF f v fs).length<=fs.length+1
 |[]=>by simp[putF]
 |(k,x)::r=>by
  have b:=xbe f v r;rw[show putF f v ((k,x)::r)=(if k=f then (k,v)::r else (k,x)::putF f v r) from rfl];by_cases a:k=f
  ·rw[if_pos a,List.length_cons,List.length_cons];omega
  ·rw[if_neg a,List.length_cons,List.length_cons];omega
theorem RelO.some_of{v:V}{o:Option Value}(r:RelO (some v) o):∃u,o=some u/\RelV v u:=by
 cases o with
 |none=>exact(show False from r).elim
 |some u=>exact⟨u,rfl,r⟩
theorem RelO.none_of{o:Option Value}(r:RelO none o):o=none:=by
 cases o with
 |none=>rfl
 |some u=>exact(show False from r).elim
theorem xn7{v:V}{u:Value}(r:RelV v u):PySem.W.handedIn u=true:=by
 cases v with
 |non=>cases (show u=Value.none from r);rfl
 |bl b=>cases (show u=Value.bool b from r);rfl
 |int i=>obtain⟨t,e⟩:=(show ∃t,u=Value.int i t from r);cases e;rfl
 |str x=>obtain⟨t,e⟩:=(show ∃t,u=Value.str x t from r);cases e;rfl
 |byt b=>obtain⟨t,e⟩:=(show ∃t,u=Value.bytes b t from r);cases e;rfl
 |flt b=>obtain⟨t,e⟩:=(show ∃t,u=Value.float b t from r);cases e;rfl
 |ref a=>cases (show u=Value.ref a from r);rfl
 |ty n=>cases (show u=Value.type n from r);rfl
section
variable {P:Program}{w:World}{H H':Hp}{h h':Heap}{a C dx:Addr}{fs fs':List (Str×V)}
theorem xhh(b:HOk P w H h)(e:H a=some (.ins C dx fs)):∃mA,ObjM h a dx C mA/\(∀f,RelO (fs.lookup f) (mA f))/\PySem.Within mA (fs.map (·.1))/\fs.length<=1000/\H dx=some (.own a):=by
 obtain⟨d,z,ne,c,mA,n,r,q⟩:=(show ObjOk P w H h a (.ins C dx fs) from b a _ e);exact⟨mA,⟨c,n,ne⟩,r,q,z,d⟩
end
structure Cls(K:Fg)(C:Addr):Prop where
 pg:PySem.W.plainGet K C Str.empty=true
 hd:PySem.W.hasDictIn K C=true
 po:PySem.W.plainOver K C=true
 sa:PySem.W.findIn K (.ref C) "__setattr__"=some (some (.builtin "object.__setattr__"))
theorem Cls.get{K:Fg}{C:Addr}(c:Cls K C)(f:Str):PySem.W.plainGet K C f=true:=c.pg
def NoAttr(K:Fg)(C:Addr)(f:Str):Prop:=PySem.W.findIn K (.ref C) f=some none
theorem NoAttr.taker{K:Fg}{C:Addr}{f:Str}(n:NoAttr K C f):PySem.W.takerIn K C f=some none:=by
 unfold PySem.W.takerIn;rw[show PySem.W.findIn K (.ref C) f=some none from n];rfl
structure Meth(K:Fg)(C:Addr)(m:Str)(f:Addr):Prop where
 at_:PySem.W.findIn K (.ref C) m=some (some (.ref f))
 fn:PySem.W.isFn K (.ref f)=true
 kp:PySem.W.keepIn K (.ref f)=true
section
variable {X:Cx}{pins:List (Addr×Obj)}{σ:St}{H:Hp}{s:Shared}{a C dx:Addr}{fs:List (Str×V)}{f:Str}{v:V}{A:Around}{E:Value->Shared->Prop}
theorem xl1 {b:Bool} {Q:Value->Shared->Prop} (I:Inv X pins σ H s) (e:H a=some (.ins C dx fs)) (c:Cls X.K C) (n:NoAttr X.K C f) (l:fs.lookup f=some v)
  (h:∀u s',Inv X pins σ H s'->RelV v u->Q u s'):wpAny (model X.prog X.w) A (getAttr (.ref a) f b) Q E s:=by
 obtain⟨mA,O,r,_,_,_⟩:=xhh I.hok e;obtain⟨u,i,g⟩:=RelO.some_of (v:=v) (o:=mA f) (by rw[<- l];exact r f);exact xso I.kIn O (c.get f) c.hd n i (xn7 g) (h u _ (I.tok _) g)
theorem xl0 {m:Str} {g:Addr} {pl:Sem Bool} {Q:Value×List Value->Shared->Prop} (I:Inv X pins σ H s) (e:H a=some (.ins C dx fs)) (c:Cls X.K C) (k:Meth X.K C m g) (l:fs.lookup m=none)
  (h:Q (.ref g,[.ref a]) s):wpAny (model X.prog X.w) A (getMethod (.ref a) m pl) Q E s:=by
 obtain⟨mA,O,r,_,_,_⟩:=xhh I.hok e;have hn:mA m=none:=RelO.none_of (by rw[<- l];exact r m);exact xpx I.kIn O (c.get m) k.at_ k.fn hn h
theorem xln {y:V} {u:Value} {Q:Unit->Shared->Prop} (I:Inv X pins σ H s) (e:H a=some (.ins C dx fs)) (c:Cls X.K C) (n:NoAttr X.K C f) (U:fs.length<1000) (p:RelV y u)
  (h:∀s',Inv X pins σ (upd H a (.ins C dx (putF f y fs))) s'->Q () s'):wpAny (model X.prog X.w) A (setAttr (.ref a) f u) Q E s:=by
 obtain⟨mA,O,r,j,_,l⟩:=xhh I.hok e;have hz:(fs.map (·.1)).length<=sizeLine:=by rw[zLM,sizeLine_eq];omega
 refine xrp I.kIn O c.sa c.po n.taker c.hd j hz λh' i m=>h _ ?_;have hd:∃o,h'.get? dx=some o:=let ⟨o,_,_,M,_⟩:=i.ns;⟨o,M⟩;refine I.write (x:=a) (e:=dx) (by rw[e];exact True.intro) (.inr l) (λb q J z=>(m.2 b J).trans z) hd ?_;refine⟨by rw[xar O.ne];exact l,?_,O.ne,i.obj,_,i.ns,λg=>?_,λg G=>?_⟩
 ·have:=xbe f y fs;omega
 ·show RelO ((putF f y fs).lookup g) (if g=f then some u else mA g)
  rw[xc3];by_cases q:g=f
  ·rw[if_pos q,if_pos q];exact p
  ·rw[if_neg q,if_neg q];exact r g
 ·by_cases q:g=f
  ·rw[q];exact(xfv f y fs).1
  ·refine(xfv f y fs).2 g (j g λz=>G ?_)
   show(if g=f then some u else mA g)=none;rw[if_neg q];exact z
theorem Inv.made (I:Inv X pins σ H s):Inv X pins σ (upd (upd H s.heap.objs.size (.own (s.heap.objs.size+1))) (s.heap.objs.size+1) (.ins C s.heap.objs.size []))
  {s with heap:=(s.heap.push PySem.W.emptyDict).push (PySem.W.instObj C s.heap.objs.size)}:=by
 have e1:(s.heap.push PySem.W.emptyDict).get? s.heap.objs.size=some PySem.W.emptyDict:=Heap.get?_push_size s.heap rfl
 have e2:((s.heap.push PySem.W.emptyDict).push (PySem.W.instObj C s.heap.objs.size)).get? (s.heap.objs.size+1)=some (PySem.W.instObj C s.heap.objs.size):=by
  have:=Heap.get?_push_size (s.heap.push PySem.W.emptyDict) (o:=PySem.W.instObj C s.heap.objs.size) rfl
  rwa[Heap.size_push]at this
 have e3:(s.heap.push PySem.W.emptyDict).Ns s.heap.objs.size (λ_=>none):=⟨PySem.W.emptyDict,#[],_,e1,rfl,(λe he=>absurd he (by simp)),λ_=>rfl⟩;have I1:=I.laid (a:=s.heap.objs.size) (o:=.own (s.heap.objs.size+1)) (h':=s.heap.push PySem.W.emptyDict) (t':=s.toks) (λb u q=>zPO _ q) (Nat.le_refl _) ⟨_,e1⟩;refine I1.laid (a:=s.heap.objs.size+1) (o:=.ins C s.heap.objs.size []) (t':=s.toks) (λb u q=>zPO _ q) (Nat.le_of_eq (Heap.size_push _ _)) ?_;have ne:s.heap.objs.size≠s.heap.objs.size+1:=Nat.ne_of_lt (Nat.lt_succ_self _);refine⟨by rw[xar ne,ups],Nat.zero_le _,ne,e2,λ_=>none,(Heap.Ns1.of_empty e3).at λo q=>zPO _ q,λ_=>True.intro,λy hy=>absurd rfl hy⟩
theorem xst {prog:Program} {w:World} {env:Env} {e:Expr} {f:Str} {pos:Pos} {s:Shared} {Q:Value->Shared->Prop} (hb:attributeBase e f env (eval e env)=eval e env)
  (h:wpAny (model prog w) A (eval e env) (λo s₁=>wpAny (model prog w) A (getAttr o f true) Q E s₁) E s):wpAny (model prog w) A (eval (.Attribute e f pos) env) Q E s:=
 Attribute_any_ h (by rw[arm_eval_Attribute,hb])
end
def tFld(K:Fg)(ta:TE)(f:Str):TE:=λσ H Q=>ta σ H λx H1=>∃a C dx fs v,x=.ref a/\H1 a=some (.ins C dx fs)/\Cls K C/\NoAttr K C f/\fs.lookup f=some v/\Q v H1
def sFld(K:Fg)(ta tv:TE)(f:Str):TS:=λD σ H=>tv σ H λy H1=>ta σ H1 λx H2=>∃a C dx fs,x=.ref a/\H2 a=some (.ins C dx fs)/\Cls K C/\NoAttr K C f/\fs.length<1000 ∧
 D.nx σ (upd H2 a (.ins C dx (putF f y fs)))
section
variable {X:Cx}{o e value:Expr}{f:Str}{pos pos' tpos:Pos}{ta tv:TE}
theorem xdi(i:PE X e ta)(j:attributeBase e f X.env (eval e X.env)=eval e X.env):PE X (.Attribute e f pos) (tFld X.K ta f):=by
 intro pins s σ H Q I h;refine xst j (thn (i pins s σ H _ I h) λu y ⟨x,H1,p,b,a,C,dx,fs,v,ex,m,c,n,l,q⟩=>?_);subst ex;obtain rfl:u=Value.ref a:=b;exact xl1 p m c n l λr w o g=>⟨v,H1,o,g,q⟩
theorem xh6(p:PE X o ta)(m:PE X value tv)(hs:swapsWith value (some (.Attribute o f pos')) pos.line X.env=pure false):PS X (.Assign [.Attribute o f pos'] value pos) (sFld X.K ta tv f):=by
 intro pins s σ H D I h;refine plainObj_wpAny_Assign_Attribute (thn (m pins s σ H _ I h) λu b ⟨y,H1,G,e,q⟩=>thn (p pins b σ H1 _ G q) λj M ⟨x,H2,z,g,a,C,dx,fs,ex,r,c,n,l,i⟩=>?_) hs;subst ex;obtain rfl:j=Value.ref a:=g;exact xln z r c n l e λJ w=>⟨σ,_,w,i⟩
end
section
variable {X:Cx}{pins:List (Addr×Obj)}{σ:St}{H:Hp}{s:Shared}{A:Around}{E:Value->Shared->Prop}{Q:Value->Shared->Prop}{c:Value}{b:Bool}
inductive TyOf(K:Fg)(H:Hp):V->Value->Prop where
 |non:TyOf K H .non (.type "NoneType")
 |bl (x:Bool):TyOf K H (.bl x) (.type "bool")
 |int (i:Int):TyOf K H (.int i) (.type "int")
 |str (x:Str):TyOf K H (.str x) (.type "str")
 |flt (x:UInt64):TyOf K H (.flt x) (.type "float")
 |lst {a:Addr} {xs:List V} (e:H a=some (.lst xs)):TyOf K H (.ref a) (.type "list")
 |frz {a:Addr} {o:Obj} {xs:List V} (e:H a=some (.frz o (.lst xs))):TyOf K H (.ref a) (.type "list")
 |tup {a:Addr} {xs:List V} (e:H a=some (.tup xs)):TyOf K H (.ref a) (.type "tuple")
 |dK {a:Addr} {kvs:List (Key×V)} (e:H a=some (.dK kvs)):TyOf K H (.ref a) (.type "dict")
 |dT {a:Addr} {kvs:List (List Key×V)} (e:H a=some (.dT kvs)):TyOf K H (.ref a) (.type "dict")
 | ins {a C dx:Addr} {fs:List (Str×V)} (e:H a=some (.ins C dx fs)) (cl:Cls K C) (ha:PySem.W.findIn K (.ref C) "__class__"=some (some (.builtin "object.__class__")))
   (hn:PySem.W.specialIn K (.builtin "object.__class__") "__get__"=some (some (.builtin "getset_descriptor.__get__"))) (htk:PySem.W.takesIn K (.builtin "object.__class__")=some true)
   (hm:PySem.W.mroIn K C (.type "object")=some true):TyOf K H (.ref a) (.ref C)
theorem xn2 {x:V} {u t:Value} (I:Inv X pins σ H s) (rx:RelV x u) (ty:TyOf X.K H x t) (e:PySem.W.kitOne X.K t c=some b) (h:∀tk,Q (.bool b) {s with toks:=tk}) :
  wpAny (model X.prog X.w) A (call (.builtin "isinstance") [u,c]) Q E s:=by
 cases ty with
 |non=>cases (show u=Value.none from rx);exact PySem.W.kia_one PySem.W.kitx_none I.kIn True.intro e (λz=>nomatch z) h
 |bl y=>cases (show u=Value.bool y from rx);exact PySem.W.kia_one PySem.W.kitx_bool I.kIn True.intro e (λz=>nomatch z) h
 |int i=>obtain⟨t,q⟩:=(show ∃t,u=Value.int i t from rx);cases q;exact PySem.W.kia_one PySem.W.kitx_int I.kIn True.intro e (λz=>nomatch z) h
 |str y=>obtain⟨t,q⟩:=(show ∃t,u=Value.str y t from rx);cases q;exact PySem.W.kia_one PySem.W.kitx_str I.kIn True.intro e (λz=>nomatch z) h
 |flt y=>obtain⟨t,q⟩:=(show ∃t,u=Value.float y t from rx);cases q;exact PySem.W.kia_one PySem.W.kitx_float I.kIn True.intro e (λz=>nomatch z) h
 |@lst a xs ea=>
  cases (show u=Value.ref a from rx);obtain⟨_,_,n,_,h1⟩:=(show ObjOk X.prog X.w H s.heap a (.lst xs) from I.hok a _ ea);exact PySem.W.kia_one PySem.W.kitx_list I.kIn ⟨_,h1,rfl⟩ e (λz=>nomatch z) h
 |@frz a ob xs ea=>
  cases (show u=Value.ref a from rx);obtain⟨_,_,_,n,_,h1⟩:=(show ObjOk X.prog X.w H s.heap a (.frz ob (.lst xs)) from I.hok a _ ea);exact PySem.W.kia_one PySem.W.kitx_list I.kIn ⟨_,h1,rfl⟩ e (λz=>nomatch z) h
 |@tup a xs ea=>
  cases (show u=Value.ref a from rx);obtain⟨_,_,_,p⟩:=(show ObjOk X.prog X.w H s.heap a (.tup xs) from I.hok a _ ea);obtain⟨o,h1,h2,_⟩:=p;exact PySem.W.kia_one PySem.W.kitx_tuple I.kIn ⟨o,h1,h2⟩ e (λz=>nomatch z) h
 |@dK a kvs ea=>
  cases (show u=Value.ref a from rx);obtain⟨_,_,vs,_,p⟩:=(show ObjOk X.prog X.w H s.heap a (.dK kvs) from I.hok a _ ea);obtain⟨o,es,ep,h1,h2,_⟩:=p;exact PySem.W.kia_one PySem.W.kitx_dict I.kIn ⟨o,h1,h2.1⟩ e (λz=>nomatch z) h
 |@dT a kvs ea=>
  cases (show u=Value.ref a from rx);obtain⟨_,_,xs,_,o,es,ep,h1,h2,_⟩:=(show ObjOk X.prog X.w H s.heap a (.dT kvs) from I.hok a _ ea);exact PySem.W.kia_one PySem.W.kitx_dict I.kIn ⟨o,h1,h2.1⟩ e (λz=>nomatch z) h
 |@ins a C dx fs ea cl ha hn htk hm=>
  cases (show u=Value.ref a from rx);obtain⟨mA,O,_⟩:=xhh I.hok ea;obtain⟨od,J,_⟩:=O.look;exact PySem.W.kia_one (PySem.W.kitx_own (cl.get _) cl.hd ha hn htk hm) I.kIn J e (λz=>nomatch z) h
end
structure Room(k:Nat)(A:Around):Prop where
 hd:A.handled=none
 dp:A.depth+3*k+5<recursionLimit
 un:A.units+16*k+200<cLine
theorem Room.mono{j k:Nat}{A:Around}(r:Room k A)(h:j<=k):Room j A:=⟨r.hd,by have:=r.dp;omega,by have:=r.un;omega⟩
theorem Room.deeper{k:Nat}{A:Around}(r:Room (k+1) A)(env:Env):Room k (A.deeper env):=
 ⟨r.hd,by have:=r.dp;show A.depth+1+3*k+5<_;omega,by have:=r.un;show A.units+3+16*k+200<_;omega⟩
theorem xly{A:Around}{C:Addr}{us:List Value}{kw:List (Str×Value)}:(A.under (.builtin "type.__call__" ⟨.ref C::us,kw⟩)).depth=A.depth+1:=by
 first |rfl |simp[Around.under,Code.weight,Code.isCreation,Code.isGuard,Code.isCaller,Code.frames,Code.isFrame,guardIds]
theorem xlx{A:Around}{C:Addr}{us:List Value}{kw:List (Str×Value)}:(A.under (.builtin "type.__call__" ⟨.ref C::us,kw⟩)).units=A.units+1:=by
 first |rfl |simp[Around.under,Code.cUnits,Code.frames,Code.isFrame]
theorem Room.make{k:Nat}{A:Around}(r:Room (k+1) A)(C:Addr)(us:List Value)(kw:List (Str×Value)):Room k (A.under (.builtin "type.__call__" ⟨.ref C::us,kw⟩)):=
 ⟨r.hd,by have:=r.dp;rw[xly];omega,by have:=r.un;rw[xlx];omega⟩
theorem Room.depth{k:Nat}{A:Around}(r:Room k A):A.depth<recursionLimit:=by have:=r.dp;omega
theorem Room.units{k:Nat}{A:Around}(r:Room k A):A.units+64<cLine:=by have:=r.un;omega
def tNil:TA:=λ_ H Q=>Q [] H
def xri(ta:TE)(tr:TA):TA:=λσ H Q=>ta σ H λx H1=>tr σ H1 λxs H2=>Q (x::xs) H2
section
variable {X:Cx}{e:Expr}{es:List Expr}{te:TE}{t:TA}{pos:Pos}
theorem pN:PA X [] tNil:=λ_ _ _ _ H Q I h=>Calls.spliced_nil ⟨[],H,I,.nil,h⟩
theorem pc(j:PE X e te)(i:PA X es t)(hs:starEach (e::es) X.env=(false,eval e X.env)::starEach es X.env:=by rfl):PA X (e::es) (xri te t):=by
 intro pos pins s σ H Q I h;rw[hs];show wpAny _ _ (spliced ((false,eval e X.env)::backTo pos (starEach es X.env))) _ _ s;refine Calls.spliced_cons (thn (j pins s σ H _ I h) λu a ⟨x,H1,m,c,g⟩=>?_);exact thn (i pos pins a σ H1 _ m g) λus n ⟨xs,H2,l,b,f⟩=>⟨x::xs,H2,l,.cons c b,f⟩
def tTup(t:TA):TE:=λσ H Q=>t σ H λxs H1=>xs.length<=sizeLine/\∀p,H1 p=none->Q (.ref p) (upd H1 p (.tup xs))
def tLst(t:TA):TE:=λσ H Q=>t σ H λxs H1=>xs.length<=sizeLine/\∀p,H1 p=none->Q (.ref p) (upd H1 p (.lst xs))
theorem xak{f}(h:PA X es t):PE X (.Tuple es f pos) (tTup t):=by
 intro pins s σ H Q I g;refine wpAny_Tuple_spliced (thn (h pos pins s σ H _ I g) λus a ⟨xs,H1,c,r,z,q⟩=>⟨by rw[<- r.length];exact z,?_⟩);have i:H1 a.heap.objs.size=none:=c.hok.fresh (Nat.le_refl _);refine⟨.ref a.heap.objs.size,upd H1 a.heap.objs.size (.tup xs),c.laid (t':=a.toks) (λb u e=>zPO _ e) (Nat.le_refl _) ?_,rfl,q _ i⟩;exact⟨z,us,r,⟨_,Heap.get?_push_size _ rfl,rfl,_,rfl,rfl⟩⟩
theorem xca(h:PA X es t):PE X (.List es pos) (tLst t):=by
 intro pins s σ H Q I f;refine wpAny_List_spliced (thn (h pos pins s σ H _ I f) λus a ⟨xs,H1,c,r,z,q⟩=>⟨by rw[<- r.length];exact z,?_⟩);have g:H1 a.heap.objs.size=none:=c.hok.fresh (Nat.le_refl _);refine⟨.ref a.heap.objs.size,upd H1 a.heap.objs.size (.lst xs),c.laid (t':=a.toks) (λb u e=>zPO _ e) (Nat.le_refl _) ?_,rfl,q _ g⟩;exact⟨z,us,0,r,Heap.get?_push_size _ rfl⟩
end
abbrev Sp:=List V->Hp->VK->XK->Prop
abbrev CXT:=List Env->Hp->Shared->XK->Value->Shared->Prop
structure Env0(P:Program)(w:World)(K:Fg)(mg:Str->Option Value)(base:Heap)(A:Around)(outer:List Env)(s:Shared)(H:Hp):Prop where
 frames:A.frames=some outer
 mod:Mod K mg base
 bs:∀b o,base.get? b=some o->s.heap.get? b=some o/\H b=none
 bsz:base.objs.size<=s.heap.objs.size
 funs:s.heap.FunFrames base outer
 frf:∀b∈frs outer,H b=none
 hok:HOk P w H s.heap
 bare:AllBare s.gens
def CE(outer:List Env)(P:Program)(w:World)(H:Hp)(s:Shared)(Q:VK)(u:Value)(s':Shared):Prop:=
 ∃v H',s'.os=s.os/\AllBare s'.gens/\Un (frs outer) [] H H' s.heap s'.heap/\HOk P w H' s'.heap/\RelV v u/\Q v H'
def CR(CX:CXT)(outer:List Env)(P:Program)(w:World)(H:Hp)(s:Shared)(Q:VK)(E:XK)(r:Result)(s':Shared):Prop:=
 match r with
 |.ok (.ret u)=>CE outer P w H s Q u s'
 |.ok _=>False
 |.error e=>CX outer H s E e s'
structure FnOk(P:Program)(w:World)(K:Fg)(mg:Str->Option Value)(base:Heap)(CX:CXT)(k:Nat)(f:Addr)(fd:FuncData)(ps:List Str)(sp:Sp):Prop where
 len:∀vs H Q E,sp vs H Q E->vs.length=ps.length
 run:∀(A:Around) (outer:List Env) (s:Shared) (H:Hp) (args:Args) (us:List Value) (vs:List V) (Q:VK) (E:XK),Room k A->Env0 P w K mg base A outer s H->BindsTo s fd args (ps.zip us)->Vals vs us->sp vs H Q E->
  codeAny (model P w) A (.call (.ref f) args) (CR CX outer P w H s Q E) s
theorem FnOk.mono {P:Program} {w:World} {K:Fg} {mg:Str->Option Value} {base:Heap} {CX:CXT} {j k:Nat} {f:Addr} {fd:FuncData} {ps:List Str} {sp:Sp} (F:FnOk P w K mg base CX j f fd ps sp) (h:j<=k) :
  FnOk P w K mg base CX k f fd ps sp:=⟨F.len,λA outer s H args us vs Q E a=>F.run A outer s H args us vs Q E (a.mono h)⟩
theorem FnOk.imp {P:Program} {w:World} {K:Fg} {mg:Str->Option Value} {base:Heap} {CX:CXT} {k:Nat} {f:Addr} {fd:FuncData} {ps:List Str} {sp sp':Sp} (F:FnOk P w K mg base CX k f fd ps sp)
  (h:∀vs H Q E,sp' vs H Q E->sp vs H Q E):FnOk P w K mg base CX k f fd ps sp':=
 ⟨λvs H Q E q=>F.len vs H Q E (h _ _ _ _ q),λA outer s H args us vs Q E hr he hb hv hs=>F.run A outer s H args us vs Q E hr he hb hv (h _ _ _ _ hs)⟩
theorem Env0.make {P:Program} {w:World} {K:Fg} {mg:Str->Option Value} {base:Heap} {A:Around} {outer:List Env} {s:Shared} {H:Hp} (e:Env0 P w K mg base A outer s H) (C:Addr) (us:List Value) (kw:List (Str×Value)) :
  Env0 P w K mg base (A.under (.builtin "type.__call__" ⟨.ref C::us,kw⟩)) outer s H:=⟨by first |exact e.frames |(simpa[Around.under,Code.envs,Code.isFrame,pushEnvs] using e.frames),e.mod,e.bs,e.bsz,e.funs,e.frf,e.hok,e.bare⟩
section
variable {X:Cx}{pins:List (Addr×Obj)}{σ:St}{H:Hp}{s s':Shared}
theorem Inv.env0(I:Inv X pins σ H s):Env0 X.prog X.w X.K X.mg X.base X.A X.stack s H:=
 ⟨I.ok.frames,I.ok.mod,I.bs,Nat.le_trans I.ok.bsz I.sz,I.stack,I.stkFree,I.hok,I.bare⟩
theorem Inv.after{Q:VK}{u:Value}(I:Inv X pins σ H s)(h:CE X.stack X.prog X.w H s Q u s'):EP X pins σ Q u s':=by
 obtain⟨v,H',os,bare,un,hok,r,q⟩:=h;obtain⟨hh,g,d,t,os'⟩:=s';obtain rfl:os'=s.os:=os;exact⟨v,H',I.call (h':=hh) (g':=g) (d':=d) (t':=t) (ch:=[]) un hok bare (λb z=>absurd z (by simp)),r,q⟩
end
def xrj(sp:Sp)(dvs:List V)(E:XK)(t:TA):TE:=λσ H Q=>t σ H λvs H1=>sp (vs++dvs) H1 Q E
def xs5(C:Addr)(m:Str)(sp:Sp)(dvs:List V)(E:XK)(ta:TE)(t:TA):TE:=λσ H Q=>ta σ H λx H1=>∃a dx fs,x=.ref a/\H1 a=some (.ins C dx fs)/\fs.lookup m=none ∧
 t σ H1 λvs H2=>sp (x::(vs++dvs)) H2 Q E
def xs6(C:Addr)(sp:Sp)(dvs:List V)(E:XK)(t:TA):TE:=λσ H Q=>t σ H λvs H1=>∀x dx,H1 x=none->H1 dx=none->dx≠x->
 sp (.ref x::(vs++dvs)) (upd (upd H1 dx (.own x)) x (.ins C dx [])) (λv H2=>v=.non/\Q (.ref x) H2) E
def Binds(K:Fg)(fd:FuncData)(ps:List Str)(ds:List Value):Prop:=
 ∀(s:Shared) (us:List Value),K.In s.heap->(us++ds).length=ps.length->BindsTo s fd ⟨us,[]⟩ (ps.zip (us++ds))
theorem Binds.all{K:Fg}{fd:FuncData}{ps:List Str}(h:∀us:List Value,us.length=ps.length->bindArgs fd ⟨us,[]⟩=pure (ps.zip us)):Binds K fd ps []:=λs us _ hl=>by
 rw[List.append_nil]at hl⊢;exact .of_eq (h us hl)
def xgp(CX:CXT)(X:Cx)(E:XK):Prop:=∀(pins:List (Addr×Obj)) (σ:St) (H:Hp) (s:Shared) (e:Value) (s':Shared),Inv X pins σ H s->CX X.stack H s E e s'->X.xe e s'
section
variable {X:Cx}{CX:CXT}{k:Nat}{f C:Addr}{fd:FuncData}{ps:List Str}{sp:Sp}{dvs:List V}{ds:List Value}{E:XK}{x m:Str}{p pos apos:Pos}{e o:Expr}{es:List Expr}{ta:TE}{t:TA}
theorem xmy {pins:List (Addr×Obj)} {σ:St} {H:Hp} {s:Shared} {Q:VK} {us:List Value} {vs:List V} (F:FnOk X.prog X.w X.K X.mg X.base CX k f fd ps sp) (hr:Room k X.A) (hb:Binds X.K fd ps ds) (hd:Vals dvs ds) (hx:xgp CX X E)
  (I:Inv X pins σ H s) (r:Vals vs us) (h:sp (vs++dvs) H Q E):wpAny (model X.prog X.w) X.A (call (.ref f) us) (EP X pins σ Q) X.xe s:=by
 have r2:Vals (vs++dvs) (us++ds):=r.append hd;have hl:(us++ds).length=ps.length:=by rw[<- r2.length];exact F.len _ _ _ _ h
 refine wpAny_call (codeAny_mono (F.run X.A X.stack s H ⟨us,[]⟩ (us++ds) (vs++dvs) Q E hr I.env0 (hb s us I.kIn hl) r2 h) λr s' hq=>?_)
 cases r with
 |error e=>exact hx pins σ H s e s' I hq
 |ok fl=>
  cases fl with
  |ret u=>exact I.after hq
  |next=>exact False.elim hq
  |brk=>exact False.elim hq
  |cont=>exact False.elim hq
theorem xry (F:FnOk X.prog X.w X.K X.mg X.base CX k f fd ps sp) (i:Room k X.A) (m:Gl X x) (j:X.mg x=some (.ref f)) (l:PySem.W.keepIn X.K (.ref f)=true) (o:Binds X.K fd ps ds) (hd:Vals dvs ds) (g:xgp CX X E)
  (u:PA X (e::es) t) (b:(x == ("__debug__":Str))=false:=by decide) (n:starEach (e::es) X.env=(false,eval e X.env)::starEach es X.env:=by rfl) (a:(backTo pos (starEach es X.env)).any (·.1)=false:=by rfl) :
  PE X (.Call (.Name x p) (e::es) [] pos) (xrj sp dvs E t):=by
 intro pins s σ H Q I h;refine wpAny_Call_Name_kw (xhg I m j ?_ b);refine PySem.W.callWith_K (h₀:=X.base) I.ok.mod.kin l (thn (u pos pins s σ H _ I h) λus y ⟨vs,H1,c,r,q⟩=>⟨c.kIn,?_⟩) n a;exact xmy F i o hd g c r q
theorem xrv {pl:Sem Bool} (he:PE X o ta) (c:Cls X.K C) (hm:Meth X.K C m f) (F:FnOk X.prog X.w X.K X.mg X.base CX k f fd ps sp) (hr:Room k X.A) (hb:Binds X.K fd ps ds) (hd:Vals dvs ds) (hx:xgp CX X E) (ha:PA X (e::es) t)
  (hst:starEach (e::es) X.env=(false,eval e X.env)::starEach es X.env:=by rfl) (hpl:(backTo pos (starEach es X.env)).any (·.1)=false:=by rfl)
  (ht:eval (.Call (.Attribute o m apos) (e::es) [] pos) X.env=(do
   let ov <- eval o X.env
   standAt apos.atName
   let (f,first) <- holding [ov] (getMethod ov m pl)
   callWith pos f first (backTo pos (starEach (e::es) X.env)) (backToKw pos (keywordEach [] X.env))):=by rfl) :
  PE X (.Call (.Attribute o m apos) (e::es) [] pos) (xs5 C m sp dvs E ta t):=by
 intro pins s σ H Q I h;refine PySem.W.methodCall_KW (pl:=pl) (thn (he pins s σ H _ I h) λu s1 ⟨x,H1,I1,rx,a,dx,fs,ex,ea,l,q⟩=>?_) ht;subst ex;obtain rfl:u=Value.ref a:=rx;refine xl0 I1 ea c hm l ?_;refine PySem.W.callWith_K (first:=[.ref a]) (h₀:=X.base) I.ok.mod.kin hm.kp (thn (ha pos pins s1 σ H1 _ I1 q) λus s2 ⟨vs,H2,I2,r,q2⟩=>⟨I2.kIn,?_⟩) hst hpl;exact xmy (us:=.ref a::us) (vs:=.ref a::vs) F hr hb hd hx I2 (.cons rfl r) q2
structure Mk(K:Fg)(C f:Addr):Prop where
 makes:PySem.W.makesIn K C=true
 init:PySem.W.findIn K (.ref C) "__init__"=some (some (.ref f))
 fn:PySem.W.isFn K (.ref f)=true
 kp:PySem.W.keepIn K (.ref C)=true
theorem xo3 {pins:List (Addr×Obj)} {σ:St} {H:Hp} {s:Shared} {Q:VK} {us:List Value} {vs:List V} (M:Mk X.K C f) (F:FnOk X.prog X.w X.K X.mg X.base CX k f fd ps sp) (m:Room (k+1) X.A) (o:Binds X.K fd ps ds) (hd:Vals dvs ds)
  (l:xgp CX X E) (I:Inv X pins σ H s) (r:Vals vs us)
  (h:∀x dx,H x=none->H dx=none->dx≠x->sp (.ref x::(vs++dvs)) (upd (upd H dx (.own x)) x (.ins C dx [])) (λv H2=>v=.non/\Q (.ref x) H2) E) :
  wpAny (model X.prog X.w) X.A (call (.ref C) us) (EP X pins σ Q) X.xe s:=by
 have g:=h (s.heap.objs.size+1) s.heap.objs.size (I.hok.fresh (Nat.le_succ _)) (I.hok.fresh (Nat.le_refl _)) (Nat.ne_of_lt (Nat.lt_succ_self _));have b:=Inv.made (C:=C) I;have c:Vals (V.ref (s.heap.objs.size+1)::(vs++dvs)) (Value.ref (s.heap.objs.size+1)::(us++ds)):=.cons rfl (r.append hd)
 have n:(Value.ref (s.heap.objs.size+1)::us++ds).length=ps.length:=by
  have e:=c.length;rw[F.len _ _ _ _ g]at e;exact e.symm
 refine wpAny_call (xpq (f:=f) I.kIn M.makes M.init (beq_iff_eq.mp M.fn) (codeAny_mono (F.run _ X.stack _ _ ⟨Value.ref (s.heap.objs.size+1)::us,[]⟩ (Value.ref (s.heap.objs.size+1)::(us++ds)) _ _ E (m.make C us [])
  (b.env0.make C us []) (o _ (Value.ref (s.heap.objs.size+1)::us) b.kIn n) c g) λr s' a=>?_))
 cases r with
 |error e=>exact l pins σ _ _ e s' b a
 | ok p=>
  cases p with
  |ret u=>
   obtain⟨v,H',z,i,y,j⟩:=b.after a;subst y;exact⟨i,⟨V.ref (s.heap.objs.size+1),H',z,rfl,j⟩⟩
  |next=>exact False.elim a
  |brk=>exact False.elim a
  |cont=>exact False.elim a
theorem xrw (M:Mk X.K C f) (F:FnOk X.prog X.w X.K X.mg X.base CX k f fd ps sp) (i:Room (k+1) X.A) (l:Gl X x) (j:X.mg x=some (.ref C)) (n:Binds X.K fd ps ds) (hd:Vals dvs ds) (g:xgp CX X E)
  (o:PA X (e::es) t) (b:(x == ("__debug__":Str))=false:=by decide) (m:starEach (e::es) X.env=(false,eval e X.env)::starEach es X.env:=by rfl) (a:(backTo pos (starEach es X.env)).any (·.1)=false:=by rfl) :
  PE X (.Call (.Name x p) (e::es) [] pos) (xs6 C sp dvs E t):=by
 intro pins s σ H Q I h;refine wpAny_Call_Name_kw (xhg I l j ?_ b);refine PySem.W.callWith_K (h₀:=X.base) I.ok.mod.kin M.kp (thn (o pos pins s σ H _ I h) λus u ⟨vs,H1,c,r,q⟩=>⟨c.kIn,?_⟩) m a;exact xo3 M F i n hd g c r q
end
structure FnScope(N P:List Str)(sc:Scope):Prop where
 kind:sc.kind=.function
 co:sc.isCoroutine=false
 gen:sc.isGenerator=false
 nd:N.Nodup
 pre:N.take P.length=P
 par:∀x∈P,sc.names.lookup x=some .local\/sc.names.lookup x=some .cell
 nofree:∀y∈sc.names,y.2≠.free
theorem xi6{a:Str->Option NameKind}{x:Str}:∀{binds:List (Str×Value)} {m:Str->Option Value},(∀v,(x,v) ∉binds)->bindL a binds m x=m x
 |[],_,_=>rfl
 | (n,v)::r,m,h=>by
  unfold bindL;rw[xi6 λw b=>h w (List.mem_cons_of_mem _ b)];split
  ·have:x≠n:=by rintro rfl;exact h v List.mem_cons_self
   simp[this]
  ·rfl
theorem xi8{a:Str->Option NameKind}{x:Str}:∀{binds:List (Str×Value)} {m:Str->Option Value},(∀v,(x,v) ∉binds)->bindC a binds m x=m x
 |[],_,_=>rfl
 | (n,v)::r,m,h=>by
  unfold bindC;rw[xi8 λw b=>h w (List.mem_cons_of_mem _ b)];split
  ·rfl
  ·have:x≠n:=by rintro rfl;exact h v List.mem_cons_self
   simp[this]
theorem xi7 {a:Str->Option NameKind} {x:Str} {v:Value}:∀{P:List Str} {vs:List Value} {i:Nat} {m:Str->Option Value},P.Nodup->P[i]?=some x->vs[i]?=some v->a x=some .local->
  bindL a (P.zip vs) m x=some v
 |[],_,_,_,_,h,_,_=>by simp at h
 |_::_,[],_,_,_,_,h,_=>by simp at h
 |p::P,w::vs,0,m,nd,h1,h2,b=>by
  simp at h1 h2;subst h1;subst h2;show bindL a ((p,w)::P.zip vs) m p=_;unfold bindL;rw[xi6 λv c=>(List.nodup_cons.mp nd).1 (List.of_mem_zip c).1,if_pos b];simp
 |p::P,w::vs,i+1,m,nd,h1,h2,b=>by
  show bindL a ((p,w)::P.zip vs) m x=_;unfold bindL;exact xi7 (i:=i) (List.nodup_cons.mp nd).2 (by simpa using h1) (by simpa using h2) b
theorem xi9 {a:Str->Option NameKind} {x:Str} {v:Value}:∀{P:List Str} {vs:List Value} {i:Nat} {m:Str->Option Value},P.Nodup->P[i]?=some x->vs[i]?=some v->a x≠some .local->
  bindC a (P.zip vs) m x=some v
 |[],_,_,_,_,h,_,_=>by simp at h
 |_::_,[],_,_,_,_,h,_=>by simp at h
 |p::P,w::vs,0,m,nd,h1,h2,b=>by
  simp at h1 h2;subst h1;subst h2;show bindC a ((p,w)::P.zip vs) m p=_;unfold bindC;rw[xi8 λv c=>(List.nodup_cons.mp nd).1 (List.of_mem_zip c).1,if_neg b];simp
 |p::P,w::vs,i+1,m,nd,h1,h2,b=>by
  show bindC a ((p,w)::P.zip vs) m x=_;unfold bindC;exact xi9 (i:=i) (List.nodup_cons.mp nd).2 (by simpa using h1) (by simpa using h2) b
def xex(N:List Str)(vs:List V):St:=vs.map some++List.replicate (N.length-vs.length) none
def cxOf(CX:CXT)(P:Program)(w:World)(K:Fg)(mg:Str->Option Value)(base:Heap)(N:List Str)(qual:Str)(scope:Scope)(f:Addr)(cd:Value)(A:Around)(outer:List Env)(s:Shared)(H:Hp)(E:XK):Cx where
 prog:=P
 w:=w
 K:=K
 mg:=mg
 base:=base
 A:=A.deeper (envOfC qual scope s.heap.objs.size f cd)
 N:=N
 s₀:=s
 H₀:=H
 env:=envOfC qual scope s.heap.objs.size f cd
 outer:=outer
 stack:=envOfC qual scope s.heap.objs.size f cd::outer
 ex:=[]
 calm:=true
 fn:=λ_=>true
 pn:=[]
 xe:=λe s'=>wpAny (model P w) (A.deeper (envOfC qual scope s.heap.objs.size f cd)) (leaving (envOfC qual scope s.heap.objs.size f cd) e) (λ_ s''=>CX outer H s E e s'') (λe' s''=>CX outer H s E e' s'') s'
theorem xld{a:Scope}{n:Nat}{x:Str}(h:a.names.lookup x=some .cell):∃c,(cellsFrom n a.names []).lookup x=some c:=by
 have q:=PySem.W.cellsFrom_some a.names n [] (.inl h);exact Option.isSome_iff_exists.mp q
theorem xn3 {CX:CXT} {P:Program} {w:World} {K:Fg} {mg:Str->Option Value} {base:Heap} {N ps:List Str} {j:Str} {g:Scope} {f:Addr} {I:Value} {A:Around} {outer:List Env} {s J:Shared} {H:Hp} {E:XK} {us:List Value} {vs:List V}
  (S:FnScope N ps g) (hd:A.handled=none) (l:Env0 P w K mg base A outer s H) (hl:vs.length=ps.length) (r:Vals vs us)
  (x:InCallC s s.heap.objs.size (bindL (envOfC j g s.heap.objs.size f I).kindOf (ps.zip us) λ_=>none) (cellsFrom (s.heap.objs.size+1) g.names []) (bindC (envOfC j g s.heap.objs.size f I).kindOf (ps.zip us) λ_=>none) J) :
  Inv (cxOf CX P w K mg base N j g f I A outer s H E) [] (xex N vs) H J:=by
 have Y:ps.length<=N.length:=by have:=congrArg List.length S.pre;rw[List.length_take]at this;omega
 obtain⟨h1,tk,rfl,O⟩:=x.done;have m:∀b:Addr,b ∉(cxOf CX P w K mg base N j g f I A outer s H E).ex:=λb z=>absurd (show b∈([]:List Addr) from z) (by simp)
 refine⟨⟨l.mod,S.kind,rfl,rfl,Nat.le_refl _,λy z c h1 h2=>?_,λy o=>?_,λy c _ h=>?_,λ_=>hd,Around.frames_deeper l.frames,.inr ⟨rfl,rfl⟩,λb z=>absurd z (m b),l.bs,l.bsz,λb _ _=>m b,λb z=>absurd z (m b),l.funs,l.frf⟩,
  rfl,l.bare,Un.kept O,⟨_,x.toInCall.ns,λi y v h1 h2 h3=>?_⟩,λy c h=>⟨_,x.cell y c h⟩,l.hok.fresh (Nat.le_refl _),λy c h=>?_,λp G=>absurd (show p∈([]:List (Addr×Obj)) from G) (by simp),l.hok.kept O,?_⟩
 ·exact name_of_addr x.apart (PySem.mem_of_lookup h1) (PySem.mem_of_lookup h2)
 ·have o:g.names.lookup y=some .cell\/g.names.lookup y=some .free:=o
  rcases o with o |o
  ·exact xld o
  ·exact absurd rfl (S.nofree _ (PySem.mem_of_lookup o))
 ·exact Nat.le_of_lt (x.above y c (PySem.mem_of_lookup h))
 ·have hi:i<vs.length:=by
   unfold xex at h2;by_cases hi:i<vs.length
   ·exact hi
   ·rw[List.getElem?_append_right (by simpa using hi)]at h2
    rw[List.getElem?_replicate]at h2;split at h2 <;> cases h2
  have Z:vs[i]?=some v:=by
   unfold xex at h2;rw[List.getElem?_append_left (by simpa using hi),zGM]at h2
   cases e:vs[i]? with
   |none=>rw[e]at h2;cases h2
   |some a=>rw[e]at h2;cases h2;rfl
  obtain⟨u,M,U⟩:=r.get Z
  have G:ps[i]?=some y:=by
   rw[<- S.pre,List.getElem?_take_of_lt (by omega)];exact h1
  have C:ps.Nodup:=by rw[<- S.pre];exact S.nd.sublist (List.take_sublist _ _)
  refine⟨u,U,?_⟩;rcases S.par y (zMG G) with k |k
  ·exact .inl ⟨k,xi7 C G M k⟩
  ·obtain⟨c,e⟩:=xld (n:=s.heap.objs.size+1) k
   refine .inr ⟨.inl k,c,e,?_⟩;have q:=x.cell y c e;rw[xi9 C G M (by show g.names.lookup y≠_;rw[k];decide)]at q;exact q
 ·exact l.hok.fresh (Nat.le_of_lt (x.above y c (PySem.mem_of_lookup h)))
 ·unfold xex
  show _=N.length;rw[zLA,zLM,List.length_replicate];omega
theorem xub {CX:CXT} {P:Program} {w:World} {K:Fg} {mg:Str->Option Value} {base:Heap} {k:Nat} {f:Addr} {name qual:Str} {params:Arguments} {body:List Stmt} {scope:Scope} {dV kV doc pm cdv ct oc:Value} {an od:Option Addr}
  {osl:Array (Option Value)} {N ps:List Str} {sp:Sp} (lk:K.lookup f=some ⟨oc,od,.func (PySem.W.fnOf name qual params body scope dV kV doc pm an cdv ct),osl⟩) (hcd:PySem.W.codeIn K cdv qual=true) (S:FnScope N ps scope)
  (len:∀vs H Q E,sp vs H Q E->vs.length=ps.length)
  (hbody:∀(A:Around) (outer:List Env) (s:Shared) (H:Hp) (vs:List V) (Q:VK) (E:XK),Room k (A.deeper (envOfC qual scope s.heap.objs.size f cdv))->sp vs H Q E->
   ∃t,PSs (cxOf CX P w K mg base N qual scope f cdv A outer s H E) body t/\t {nx:=λ_ H'=>Q .non H',rt:=Q} (xex N vs) H) :
  FnOk P w K mg base CX (k+1) f (PySem.W.fnOf name qual params body scope dV kV doc pm an cdv ct) ps sp:=by
 refine⟨len,λA outer s H args us vs Q E hr e0 hb r hsp=>?_⟩;have hl:=len _ _ _ _ hsp;have KX:K.In s.heap:=e0.mod.kin.keeps λb o e=>(e0.bs b o e).1;have lim:s.heap.NoLimit:=e0.mod.nolimit.keeps λb o e=>(e0.bs b o e).1
 have hkind:∀y∈ps.zip us,scope.names.lookup y.1=some .local\/(scope.names.lookup y.1=some .cell/\((cellsFrom (s.heap.objs.size+1) scope.names []).lookup y.1).isSome=true):=λ⟨n,v⟩ hy=>by
  rcases S.par n (List.of_mem_zip hy).1 with q |q
  ·exact .inl q
  ·exact .inr ⟨q,PySem.W.cellsFrom_some _ _ _ (.inl q)⟩
 refine codeAny_call_function hr.depth (KX _ _ lk) rfl S.co S.gen rfl (PySem.W.codeRec_of KX hcd) (hb _ _ _ _ ?_);refine wpAny_newFunctionEnv_cells S.kind hkind λenv he s1 x=>?_;subst he;refine⟨lim.keeps x.toInCall.keep,codeAny_func ?_⟩;obtain⟨t,ht,hq⟩:=hbody A outer s H vs Q E (hr.deeper _) hsp;have I:Inv (cxOf CX P w K mg base N qual scope f cdv A outer s H E) [] (xex N vs) H s1:=xn3 S hr.hd e0 hl r x;refine wpAny_mono (ht [] s1 (xex N vs) H _ I hq) (λfl s' hs=>?_) λe s' hs=>hs
 have fin:∀{σ':St} {H':Hp} {v:V} {u:Value},Inv (cxOf CX P w K mg base N qual scope f cdv A outer s H E) [] σ' H' s'->RelV v u->Q v H'->CE outer P w H s Q u s':=
  λ{σ' H' v u} J rv q=>⟨v,H',J.os,J.bare,J.base,J.hok,rv,q⟩
 cases fl with
 |ret u=>
  obtain⟨v,σ',H',J,rv,q⟩:=hs;exact fin J rv q
 |next=>
  obtain⟨σ',H',J,q⟩:=hs;exact fin (v:=V.non) (u:=Value.none) J rfl q
 |brk=>
  obtain⟨_,_,_,q⟩:=hs;exact False.elim q
 |cont=>
  obtain⟨_,_,_,q⟩:=hs;exact False.elim q
section
variable {X:Cx}{x:Str}{p pos:Pos}{e:Expr}{es:List Expr}{t:TA}{id T:String}{r:List V->Hp->VK->Prop}
def tCB(r:List V->Hp->VK->Prop)(t:TA):TE:=λσ H Q=>t σ H λvs H1=>r vs H1 Q
theorem xaq (hc:xd2 X (.builtin id) r) (hg:Gl X x) (hm:X.mg x=none) (hv:bootBuiltins x=some (.builtin id)) (ha:PA X (e::es) t) (hn:x≠"__name__":=by decide) (hdb:(x == ("__debug__":Str))=false:=by decide)
  (he:starEach (e::es) X.env=(false,eval e X.env)::starEach es X.env:=by rfl) (hpl:(backTo pos (starEach es X.env)).any (·.1)=false:=by rfl):PE X (.Call (.Name x p) (e::es) [] pos) (tCB r t):=by
 intro pins s σ H Q I h;refine wpAny_Call_Name_kw (xet I hg hm hv ?_ hn hdb);exact PyProof.Rows.callWith_builtin1 (thn (ha pos pins s σ H _ I h) λus s1 ⟨vs,H1,I1,r1,q1⟩=>hc pins s1 σ H1 vs us Q I1 r1 q1) he hpl
theorem xay (hc:xd2 X (.type T) r) (hg:Gl X x) (hm:X.mg x=none) (hv:bootBuiltins x=some (.type T)) (ha:PA X (e::es) t) (hn:x≠"__name__":=by decide) (hdb:(x == ("__debug__":Str))=false:=by decide)
  (he:starEach (e::es) X.env=(false,eval e X.env)::starEach es X.env:=by rfl) (hpl:(backTo pos (starEach es X.env)).any (·.1)=false:=by rfl):PE X (.Call (.Name x p) (e::es) [] pos) (tCB r t):=by
 intro pins s σ H Q I h;refine wpAny_Call_Name_kw (xet I hg hm hv ?_ hn hdb);exact PyProof.Rows.callWith_type1 (thn (ha pos pins s σ H _ I h) λus s1 ⟨vs,H1,I1,r1,q1⟩=>hc pins s1 σ H1 vs us Q I1 r1 q1) he hpl
end
end L2
namespace HT
open PySem PyProof.Rows
section
variable {prog:Program}{w:World}{A:Around}{E:Value->Shared->Prop}{s:Shared}
theorem cat_tup {t b:Addr} {vs ws:List Value} {Q:Value->Shared->Prop} (ht:IsTup s.heap t vs.toArray) (hb:IsTup s.heap b ws.toArray) (hv:vs≠[])
  (h1:ws=[]->Q (.ref t) s) (h2:ws≠[]->Q (.ref s.heap.objs.size) {s with heap:=s.heap.push {cls:=.type "tuple",data:=.seq (vs++ws).toArray}})
  (hsz:vs.length+ws.length<=sizeLine):wpAny (model prog w) A (binaryOp .Add (.ref t) (.ref b)) Q E s:=by
 obtain⟨⟨cls,dd,data,sl⟩,ho,hc,n,hd⟩:=id ht;obtain⟨⟨cls2,dd2,data2,sl2⟩,ho2,hc2,n2,hd2⟩:=id hb;simp only at hc hd hc2 hd2;subst hc hd hc2 hd2;have e:vs.toArray++ws.toArray=(vs++ws).toArray:=by simp
 by_cases hw:ws=[]
 ·exact concat_meets ⟨_,ho,rfl⟩ ⟨_,ho2,rfl⟩ noFill_tuple_add seq_tuple_add PySem.F.slot_tuple_add PySem.F.entry_tuple_add (PySem.F.args_tuple_add_2 _ _)
   (tuple_addW1 t b vs.toArray ws.toArray n n2 dd dd2 sl sl2 (by simpa using hv) (by simp[hw])) ⟨ho,ho2,h1 hw⟩
 ·refine concat_meets ⟨_,ho,rfl⟩ ⟨_,ho2,rfl⟩ noFill_tuple_add seq_tuple_add PySem.F.slot_tuple_add PySem.F.entry_tuple_add (PySem.F.args_tuple_add_2 _ _)
   (tuple_addW2 t b vs.toArray ws.toArray n n2 dd dd2 sl sl2 (by simpa using hv) (by simpa using hw) (by rw[List.size_toArray,List.size_toArray];exact hsz)) ⟨ho,ho2,?_⟩
  rw[e];exact h2 hw
def sIx(n d:Nat):Option Int->Nat
 |none=>d
 |some v=>if v<0 then (v+(n:Int)).toNat else min v.toNat n
theorem sIx_none(n d:Nat):sIx n d none=d:=rfl
theorem sIx_nat(n d k:Nat):sIx n d (some (k:Int))=min k n:=by
 show(if (k:Int)<0 then ((k:Int)+(n:Int)).toNat else min (k:Int).toNat n)=min k n;rw[if_neg (by omega),Int.toNat_natCast]
end
end HT
namespace L2
open PySem PySem.Spec PyProof.Rows
abbrev TO:=St->Hp->(Option Int->Hp->Prop)->Prop
def PO(X:Cx)(e:Option Expr)(t:TO):Prop:=
 ∀(pins:List (Addr×Obj)) (s:Shared) (σ:St) (H:Hp) (Q:Option Int->Hp->Prop),Inv X pins σ H s->t σ H Q->
  wpAny (model X.prog X.w) X.A (evalPart e X.env) (λu s'=>∃o H',Inv X pins σ H' s'/\IsPart u o/\Q o H') X.xe s
def xrh:TO:=λ_ H Q=>Q none H
def xuo(t:TE):TO:=λσ H Q=>t σ H λx H1=>∃i,x=.int i/\Q (some i) H1
theorem xen{ns:List Int}:∀{us:List Value},Vals (ns.map V.int) us->IntsAre us ns:=by
 induction ns with
 |nil=>intro us r;rw[List.map_nil]at r;cases r;exact .nil
 | cons n ns c=>
  intro us r;rw[List.map_cons]at r
  cases r with
  |cons b a=>
   obtain⟨t,e⟩:=b;subst e;exact .cons n t (c a)
section
variable {X:Cx}{e:Expr}{te:TE}{lo hi:Option Expr}{tl th:TO}{pos p2:Pos}
theorem xdm:PO X none xrh:=by
 intro pins s σ H Q I h;rw[evalPart_none];exact wpAny_pure ⟨none,H,I,.none,h⟩
theorem xcm(h:PE X e te):PO X (some e) (xuo te):=by
 intro pins s σ H Q I c;rw[evalPart_some];refine thn (h pins s σ H _ I c) λu g ⟨x,H1,f,a,b⟩=>?_;obtain⟨i,rfl,q⟩:=b;obtain⟨t,rfl⟩:=a;exact⟨some i,H1,f,.int i t,q⟩
def SlR(X:Cx)(r:V->Option Int->Option Int->Hp->VK->Prop):Prop:=
 ∀(pins:List (Addr×Obj)) (s:Shared) (σ:St) (H:Hp) (x:V) (v vl vu:Value) (lo hi:Option Int) (sl:Addr) (Q:VK),Inv X pins σ H s->RelV x v->s.heap.IsSliceOf sl vl vu .none->IsPart vl lo->IsPart vu hi->r x lo hi H Q->
  ∃T id,typeLookup (.type T) "__getitem__"=pure (some (.builtin id))/\s.TypeIs v T/\wpAny (model X.prog X.w) X.A (getItem v (.ref sl)) (EP X pins σ Q) X.xe s
def tSl(r:V->Option Int->Option Int->Hp->VK->Prop)(te:TE)(tl th:TO):TE:=λσ H Q=>te σ H λx H1=>tl σ H1 λl H2=>th σ H2 λu H3=>r x l u H3 Q
theorem xcn{r:V->Option Int->Option Int->Hp->VK->Prop}(hr:SlR X r)(he:PE X e te)(hl:PO X lo tl)(hu:PO X hi th):PE X (.Subscript e (.Slice lo hi none p2) pos) (tSl r te tl th):=by
 intro pins s σ H Q I h;refine Subscript_ (thn (he pins s σ H _ I h) λv s1 ⟨x,H1,I1,r1,q1⟩=>?_);refine wpAny_Slice (thn (hl pins s1 σ H1 _ I1 q1) λvl s2 ⟨l,H2,I2,pl,q2⟩=>thn (hu pins s2 σ H2 _ I2 q2) λvu s3 ⟨u,H3,I3,pu,q3⟩=>?_);rw[evalPart_none];refine wpAny_pure ?_;have I4:Inv X pins σ H3 {s3 with heap:=s3.heap.push {cls:=.type "slice",data:=.fields #[vl,vu,.none]}}:=I3.kept (t':=s3.toks) λb ob q=>zPO _ q;obtain⟨T,id,hT,ht,hg⟩:=hr pins {s3 with heap:=s3.heap.push {cls:=.type "slice",data:=.fields #[vl,vu,.none]}} σ H3 x v vl vu l u s3.heap.objs.size Q I4 r1 (Heap.IsSliceOf.new ..) pl pu q3;show wpAny (model X.prog X.w) X.A (subscriptTail e (.Slice lo hi none p2) v (.ref s3.heap.objs.size)) (EP X pins σ Q) X.xe {s3 with heap:=s3.heap.push {cls:=.type "slice",data:=.fields #[vl,vu,.none]}};exact tail_any (ops:=[.ref s3.heap.objs.size,v]) ht hT hg (by with_unfolding_all rfl)
def cutV(xs:List V)(lo hi:Option Int):List V:=(xs.drop (HT.sIx xs.length 0 lo)).take (HT.sIx xs.length xs.length hi-HT.sIx xs.length 0 lo)
theorem xkc(xs:List V)(lo hi:Option Int):(cutV xs lo hi).length<=xs.length:=by
 unfold cutV;rw[List.length_take,List.length_drop];omega
def xu0(K:Fg):R2:=λx y H Q=>∃a b xs ys,x=.ref a/\y=.ref b/\SqT K H a xs/\SqT K H b ys/\xs≠[]/\xs.length+ys.length<=sizeLine ∧
 (ys=[]->Q (.ref a) H)/\(ys≠[]->∀p,H p=none->Q (.ref p) (upd H p (.tup (xs++ys))))
theorem Vals.nil_iff{xs:List V}{us:List Value}(r:Vals xs us):us=[] ↔ xs=[]:=by
 cases r with
 |nil=>simp
 |cons _ _=>simp
theorem xr2:OpR X (binaryOp .Add) (xu0 X.K):=by
 intro pins s σ H x y v u Q I i g h;obtain⟨a,b,xs,ys,rfl,rfl,r,p,n,hz,l,j⟩:=h;cases i;cases g;obtain⟨its,e,m,_⟩:=I.tuple r;obtain⟨f,c,p2,_⟩:=I.tuple p;refine HT.cat_tup m p2 (λz=>n (e.nil_iff.mp z)) (λz=>⟨.ref a,H,I,rfl,l (c.nil_iff.mp z)⟩) (λz=>?_) (by rw[<- e.length,<- c.length];exact hz);refine⟨.ref s.heap.objs.size,_,I.laid (t':=s.toks) (o:=.tup (xs++ys)) (λb C q=>zPO _ q) (Nat.le_refl _) ?_,rfl,j (λw=>z (c.nil_iff.mpr w)) _ (I.hok.fresh (Nat.le_refl _))⟩;exact⟨by rw[zLA];exact hz,_,e.append c,_,Heap.get?_push_size _ rfl,rfl,_,rfl,rfl⟩
end
def ixN(n:Nat)(i:Int):Option Nat:=if 0<=i then (if i<n then some i.toNat else none) else if -(n:Int)<=i then some (i+n).toNat else none
def atI{α:Type}(xs:List α)(i:Int):Option α:=(ixN xs.length i).bind λj=>xs[j]?
theorem xn1{n:Nat}{i:Int}{j:Nat}(h:ixN n i=some j):seqIndex? i n=some j/\j<n/\-(n:Int)<=i/\i<n:=by
 unfold ixN at h;by_cases h0:0<=i
 ·rw[if_pos h0]at h
  by_cases h1:i<n
  ·rw[if_pos h1]at h
   have e:i.toNat=j:=Option.some.inj h;exact⟨by rw[seqIndex_of h0 h1,e],by omega,by omega,h1⟩
  ·rw[if_neg h1]at h;cases h
 ·rw[if_neg h0]at h
  by_cases h1:-(n:Int)<=i
  ·rw[if_pos h1]at h
   have e:(i+n).toNat=j:=Option.some.inj h;exact⟨by rw[seqIndex_neg (by omega) h1,e],by omega,h1,by omega⟩
  ·rw[if_neg h1]at h;cases h
theorem xkf{α:Type}{xs:List α}{i:Int}{v:α}(h:atI xs i=some v):∃j,seqIndex? i xs.length=some j/\xs[j]?=some v/\j<xs.length/\-(xs.length:Int)<=i/\i<xs.length:=by
 unfold atI at h
 cases e:ixN xs.length i with
 |none=>rw[e]at h;cases h
 |some j=>
  rw[e]at h;obtain⟨h1,h2,b,a⟩:=xn1 e;exact⟨j,h1,h,h2,b,a⟩
theorem xa0{α:Type}{xs:List α}{j:Nat}{v:α}(h:xs[j]?=some v):atI xs (j:Int)=some v:=by
 have a:j<xs.length:=(zES h).1
 have e:ixN xs.length (j:Int)=some j:=by
  unfold ixN;rw[if_pos (by omega),if_pos (by omega)];simp
 unfold atI;rw[e];exact h
def xkh(b:Expr):Prop:=∀o i,subscripted b false o i=operate [o,i] (getItem o i)
def IxR(X:Cx)(r:R2):Prop:=
 ∀(value slice:Expr) (pins:List (Addr×Obj)) (s:Shared) (σ:St) (H:Hp) (x y:V) (v u:Value) (Q:VK),Inv X pins σ H s->RelV x v->RelV y u->r x y H Q->
  subscripted slice false v u=operate [v,u] (getItem v u)->wpAny (model X.prog X.w) X.A (subscriptTail value slice v u) (EP X pins σ Q) X.xe s
def MtR(X:Cx)(id:String)(r:V->List V->Hp->VK->Prop):Prop:=
 ∀(pins:List (Addr×Obj)) (s:Shared) (σ:St) (H:Hp) (x:V) (xs:List V) (v:Value) (us:List Value) (Q:VK),Inv X pins σ H s->RelV x v->Vals xs us->r x xs H Q->
  wpAny (model X.prog X.w) X.A (call (.builtin id) (v::us)) (EP X pins σ Q) X.xe s
section
variable {X:Cx}{a b:Expr}{ta tb:TE}{pos:Pos}
theorem xls{r:R2}(hr:IxR X r)(ha:PE X a ta)(hb:PE X b tb)(hs:xkh b):PE X (.Subscript a b pos) (tOp r ta tb):=by
 intro pins s σ H Q I h;exact Subscript_ (binT ha hb I h λv u s2 x y H2 I2 rx ry q=>hr a b pins s2 σ H2 x y v u Q I2 rx ry q (hs _ _))
def rIxL(K:Fg):R2:=λx y H Q=>∃p xs i v,x=.ref p/\y=.int i/\SqL K H p xs/\atI xs i=some v/\Q v H
def rIxT(K:Fg):R2:=λx y H Q=>∃p xs i v,x=.ref p/\y=.int i/\SqT K H p xs/\atI xs i=some v/\Q v H
def rIxS:R2:=λx y H Q=>∃z i c,x=.str z/\y=.int i/\z.length<=sizeLine/\atI z.cps.toList i=some c/\Q (.str ⟨#[c]⟩) H
theorem iL:IxR X (rIxL X.K):=by
 intro value a pins s σ H x y v u Q I g f h hs;obtain⟨p,xs,i,z,rfl,rfl,l,n,q⟩:=h;cases g;obtain⟨t,rfl⟩:=f;obtain⟨its,r,pl,hz⟩:=I.list l;obtain⟨j,h1,h2,G,C,o⟩:=xkf n;obtain⟨w,e,b⟩:=r.get h2;have m:=r.length;have hn:=xin;have fin:EP X pins σ Q w s:=⟨z,H,I,b,q⟩;by_cases h0:0<=i
 ·have c:i.toNat=j:=by
   rw[seqIndex_of h0 o]at h1;exact Option.some.inj h1
  exact item_listR pl.isList h0 (by omega) (by rw[c];simpa using e) fin hs
 ·have c:(i+(its.toArray.size:Int)).toNat=j:=by
   rw[seqIndex_neg (by omega) C]at h1;rw[List.size_toArray,<- m];exact Option.some.inj h1
  exact subscriptTail_builtinR (x:=w) pl.isList.typeIs slot_list_getitem.lookup
   (wpAny_getItem_list_neg (Q:=λr s'=>r=w/\EP X pins σ Q r s') pl.isList (by omega) (by rw[List.size_toArray] <;> omega) (by omega) (by rw[c];simpa using e) ⟨rfl,fin⟩) hs
theorem xt6:IxR X (rIxT X.K):=by
 intro value a pins s σ H x y v u Q I e c h hs;obtain⟨p,xs,i,z,rfl,rfl,f,l,q⟩:=h;cases e;obtain⟨t,rfl⟩:=c;obtain⟨its,r,pl,hz⟩:=I.tuple f;obtain⟨j,h1,h2,C,o,n⟩:=xkf l;obtain⟨w,m,b⟩:=r.get h2;have g:=r.length;have hn:=xin;have fin:EP X pins σ Q w s:=⟨z,H,I,b,q⟩
 exact subscriptTail_builtinR (x:=w) pl.typeIs slot_tuple_getitem.lookup
  (getItem_tuple (j:=j) (Q:=λr s'=>r=w/\EP X pins σ Q r s') pl (by omega) (by omega) (by rw[List.size_toArray,<- g];exact h1) (by simpa using m) ⟨rfl,fin⟩) hs
theorem xk4:IxR X rIxS:=by
 intro value a pins s σ H x y v u Q I e b h hs;obtain⟨z,i,c,rfl,rfl,hz,g,q⟩:=h;obtain⟨t,rfl⟩:=e;obtain⟨t',rfl⟩:=b;obtain⟨j,h1,h2,p,m,l⟩:=xkf g;have f:z.cps.toList.length=z.length:=by simp[Str.length]
 rw[f]at h1 m l;have hn:=xin
 exact tail_any (typeIs_str s z t) slot_str_getitem.lookup (getItem_str (c:=c) (by
  have o:decide (i < -(2 ^ 63:Int))=false:=zDF (by omega);have n:decide (i ≥ 2 ^ 63)=false:=zDF (by omega);rw[o,n,Bool.or_false]) (by rw[h1];simpa using h2) ⟨.str ⟨#[c]⟩,H,I.tok _,⟨_,rfl⟩,q⟩) hs
theorem xlw(its:List Value)(n j:Nat)(u:Value):Obj.mapSeq (·.setIfInBounds j u) {cls:=.type "list",data:=.seq its.toArray n}={cls:=.type "list",data:=.seq (its.set j u).toArray n}:=by
 simp[Obj.mapSeq]
theorem Inv.lst {pins:List (Addr×Obj)} {σ:St} {H:Hp} {s:Shared} {p:Addr} {xs:List V} (I:Inv X pins σ H s) (h:H p=some (.lst xs)) :
  ∃(its:List Value) (n:Nat),Vals xs its/\s.heap.get? p=some {cls:=.type "list",data:=.seq its.toArray n}/\xs.length<=sizeLine:=by
 obtain⟨z,its,n,r,e⟩:=I.hok p _ h;exact⟨its,n,r,e,z⟩
theorem Inv.lstUpd {pins:List (Addr×Obj)} {σ:St} {H:Hp} {s:Shared} {p:Addr} {xs ys:List V} {its its':List Value} {n n':Nat} {f:Obj->Obj} (I:Inv X pins σ H s) (h:H p=some (.lst xs))
  (ho:s.heap.get? p=some {cls:=.type "list",data:=.seq its.toArray n}) (hf:f {cls:=.type "list",data:=.seq its.toArray n}={cls:=.type "list",data:=.seq its'.toArray n'}) (r:Vals ys its') (hz:ys.length<=sizeLine) (t:Nat) :
  Inv X pins σ (upd H p (.lst ys)) {s with heap:=s.heap.update p f,toks:=t}:=by
 have e:(s.heap.update p f).get? p=some {cls:=.type "list",data:=.seq its'.toArray n'}:=by
  rw[Heap.get?_update_self f ho (by rw[hf] <;> rfl),hf]
 refine I.write (x:=p) (e:=p) (by rw[h];trivial) (.inl rfl) (λb u hb q=>(Heap.get?_update_other _ _ (Ne.symm hb)).trans q) ⟨_,e⟩ ?_;exact⟨hz,its',n',r,e⟩
def xuy:V->V->V->Hp->(Hp->Prop)->Prop:=λo i v H Q=>∃p xs k j,o=.ref p/\i=.int k/\H p=some (.lst xs)/\ixN xs.length k=some j/\Q (upd H p (.lst (xs.set j v)))
theorem xks:PSet X xuy:=by
 intro pins s σ H o i v z C u Q I w x m h;obtain⟨p,xs,k,j,rfl,rfl,e,y,q⟩:=h;cases w;obtain⟨t,rfl⟩:=x;obtain⟨its,n,r,a,hz⟩:=I.lst e;obtain⟨h1,h2,g,f⟩:=xn1 y;have b:=r.length;have hn:=xin
 have l:Inv X pins σ (upd H p (.lst (xs.set j v))) {s with heap:=s.heap.update p (Obj.mapSeq (·.setIfInBounds j u))}:=
  I.lstUpd e a (xlw its n j u) (r.set m j) (by rw[List.length_set];exact hz) s.toks
 by_cases h0:0<=k
 ·have c:k.toNat=j:=by
   rw[seqIndex_of h0 f]at h1;exact Option.some.inj h1
  exact PySem.W.ki_setAt a h0 (by omega) (by rw[List.size_toArray,<- b];exact f) (by rw[c];exact⟨_,l,q⟩)
 ·have c:(k+(its.toArray.size:Int)).toNat=j:=by
   rw[seqIndex_neg (by omega) g]at h1;rw[List.size_toArray,<- b];exact Option.some.inj h1
  exact PySem.W.ki_setBack a (by omega) (by rw[List.size_toArray,<- b];exact g) (by omega) (by rw[c];exact⟨_,l,q⟩)
theorem xhz(lo hi:Option Int)(n:Nat):(sliceBounds lo hi none n).1=((HT.sIx n 0 lo:Nat):Int)/\(sliceBounds lo hi none n).2.1=((HT.sIx n n hi:Nat):Int)/\(sliceBounds lo hi none n).2.2=1:=by
 refine⟨?_,?_,rfl⟩
 ·cases lo with
  |none=>simp[sliceBounds,HT.sIx]
  |some i=>
   simp only[sliceBounds,HT.sIx,Option.getD_none,show(1:Int) > 0 by decide,if_true];by_cases h:i<0
   ·simp only[h,if_true] <;> omega
   ·simp only[h,if_false] <;> omega
 ·cases hi with
  |none=>simp[sliceBounds,HT.sIx]
  |some i=>
   simp only[sliceBounds,HT.sIx,Option.getD_none,show(1:Int) > 0 by decide,if_true];by_cases h:i<0
   ·simp only[h,if_true] <;> omega
   ·simp only[h,if_false] <;> omega
theorem xgz(its:List Value)(lo hi:Option Int):slicePick its.toArray lo hi none=((its.drop (HT.sIx its.length 0 lo)).take (HT.sIx its.length its.length hi-HT.sIx its.length 0 lo)).toArray:=by
 obtain⟨h1,h2,a⟩:=xhz lo hi its.toArray.size;unfold slicePick;rw[h1,h2,a];simp only[sliceRange_one,pick_run,List.size_toArray] <;> rfl
def rSlL(K:Fg):V->Option Int->Option Int->Hp->VK->Prop:=λx lo hi H Q=>∃a xs,x=.ref a/\SqL K H a xs/\∀p,H p=none->Q (.ref p) (upd H p (.lst (cutV xs lo hi)))
theorem xde:SlR X (rSlL X.K):=by
 intro pins s σ H x v l j lo hi sl Q I f hs pl g h;obtain⟨a,xs,rfl,i,q⟩:=h;cases f;obtain⟨its,r,e,hz⟩:=I.list i;have c:=r.length;refine⟨"list",_,slot_list_getitem.lookup,e.isList.typeIs,?_⟩;refine wpAny_getItem_list_slice e.isList hs pl g .none (by simp) ?_ (by rw[List.size_toArray] <;> omega);rw[xgz,<- c];refine⟨.ref s.heap.objs.size,_,I.laid (t':=s.toks) (o:=.lst (cutV xs lo hi)) (λb m q=>zPO _ q) (Nat.le_refl _) ?_,rfl,q _ (I.hok.fresh (Nat.le_refl _))⟩;exact⟨Nat.le_trans (xkc xs lo hi) hz,_,0,(r.drop (HT.sIx xs.length 0 lo)).take (HT.sIx xs.length xs.length hi-HT.sIx xs.length 0 lo),Heap.get?_push_size _ rfl⟩
def xe0:V->Bool
 |.non=>true
 |.bl _=>true
 |.int _=>true
 |.str _=>true
 |_=>false
def eqV:V->V->Bool
 |.non,.non=>true
 |.bl a,.bl b=>a == b
 |.bl a,.int b=>(if a then 1 else 0) == b
 |.int a,.bl b=>a == (if b then 1 else 0)
 |.int a,.int b=>a == b
 |.str a,.str b=>a == b
 |_,_=>false
theorem xq2{A:Around}{s:Shared}{y x:V}{u v:Value}(e:RelV y u)(c:RelV x v)(g:xe0 y=true)(f:xe0 x=true):SeqAt.EqAt A s u v (eqV y x):=by
 cases y with
 |non=>
  cases e
  cases x with
  |non=>cases c;exact SeqAt.EqAt.same _
  |bl b=>cases c;exact SeqAt.EqAt.none_bool b
  |int b=>obtain⟨t,rfl⟩:=c;exact SeqAt.EqAt.none_int b t
  |str b=>obtain⟨t,rfl⟩:=c;exact SeqAt.EqAt.none_str b t
  |_=>exact absurd (show false=true from f) Bool.false_ne_true
 |bl a=>
  cases e
  cases x with
  |non=>cases c;exact SeqAt.EqAt.bool_none a
  |bl b=>cases c;exact SeqAt.EqAt.bool_bool a b
  |int b=>obtain⟨t,rfl⟩:=c;exact SeqAt.EqAt.bool_int a b t
  |str b=>obtain⟨t,rfl⟩:=c;exact SeqAt.EqAt.bool_str a b t
  |_=>exact absurd (show false=true from f) Bool.false_ne_true
 |int a=>
  obtain⟨t',rfl⟩:=e
  cases x with
  |non=>cases c;exact SeqAt.EqAt.int_none a t'
  |bl b=>cases c;exact SeqAt.EqAt.int_bool a t' b
  |int b=>obtain⟨t,rfl⟩:=c;exact SeqAt.EqAt.int_int a t' b t
  |str b=>obtain⟨t,rfl⟩:=c;exact SeqAt.EqAt.int_str a t' b t
  |_=>exact absurd (show false=true from f) Bool.false_ne_true
 |str a=>
  obtain⟨t',rfl⟩:=e
  cases x with
  |non=>cases c;exact SeqAt.EqAt.str_none a t'
  |bl b=>cases c;exact SeqAt.EqAt.str_bool a t' b
  |int b=>obtain⟨t,rfl⟩:=c;exact SeqAt.EqAt.str_int a t' b t
  |str b=>obtain⟨t,rfl⟩:=c;exact SeqAt.EqAt.str_str a t' b t
  |_=>exact absurd (show false=true from f) Bool.false_ne_true
 |_=>exact absurd (show false=true from g) Bool.false_ne_true
def eqU(x:V)(u:Value):Bool:=match u with
 |.none=>eqV .non x
 |.bool b=>eqV (.bl b) x
 |.int i _=>eqV (.int i) x
 |.str z _=>eqV (.str z) x
 |_=>false
theorem xoe{x y:V}{u:Value}(r:RelV y u)(f:xe0 y=true):eqU x u=eqV y x:=by
 cases y with
 |non=>cases r;rfl
 |bl b=>cases r;rfl
 |int i=>obtain⟨t,rfl⟩:=r;rfl
 |str z=>obtain⟨t,rfl⟩:=r;rfl
 |_=>exact absurd (show false=true from f) Bool.false_ne_true
theorem xkg{x:V}:∀{xs:List V} {us:List Value},Vals xs us->xs.all xe0=true->us.any (eqU x)=xs.any λy=>eqV y x
 |_,_,.nil,_=>rfl
 |y::xs,u::us,.cons r t,f=>by
  rw[List.all_cons,Bool.and_eq_true]at f;rw[List.any_cons,List.any_cons,xoe r f.1,xkg t f.2]
theorem xfa{A:Around}{s:Shared}{x:V}{v:Value}(b:RelV x v)(c:xe0 x=true):∀{xs:List V} {us:List Value},Vals xs us->xs.all xe0=true->∀u∈us,SeqAt.EqAt A s u v (eqU x u)
 |_,_,.nil,_=>λu a=>by cases a
 |y::xs,u::us,.cons r t,f=>λe a=>by
  rw[List.all_cons,Bool.and_eq_true]at f;rcases zMC a with rfl |a
  ·rw[xoe r f.1];exact xq2 r b f.1 c
  ·exact xfa b c t f.2 e a
def inV(x:V)(xs:List V):Bool:=xs.any λy=>eqV y x
def rIn(K:Fg)(neg:Bool):R2:=λx y H Q=>∃p xs,y=.ref p/\(SqL K H p xs\/SqT K H p xs)/\xe0 x=true/\xs.all xe0=true/\Q (.bl (if neg then !inV x xs else inV x xs)) H
theorem xer:OpR X (compareOp .NotIn) (rIn X.K true):=by
 intro pins s σ H x y v u Q I c f h;obtain⟨p,xs,rfl,a,e,fs,q⟩:=h;cases f;rcases a with a |a
 ·obtain⟨its,r,pl,hz⟩:=I.list a
  refine SeqAt.notIn_listAt (eqU x) pl.isList (λw b=>xfa c e r fs w (by simpa using b)) ⟨.bl _,H,I,rfl,?_⟩;rw[show its.toArray.any (eqU x)=its.any (eqU x) by simp,xkg r fs];exact q
 ·obtain⟨its,r,pl,hz⟩:=I.tuple a
  refine SeqAt.notIn_tupleAt (eqU x) pl (λw b=>xfa c e r fs w (by simpa using b)) ⟨.bl _,H,I,rfl,?_⟩;rw[show its.toArray.any (eqU x)=its.any (eqU x) by simp,xkg r fs];exact q
theorem xi5:xd2 X (.builtin "len") (λxs H Q=>∃p ys,xs=[.ref p]/\(SqL X.K H p ys\/SqT X.K H p ys)/\Q (.int ys.length) H):=by
 intro pins s σ H xs us Q I r h;obtain⟨p,ys,rfl,b,q⟩:=h;obtain⟨u,rfl,e⟩:=xf3 r;cases e;have hn:=xin;rcases b with b |b
 ·obtain⟨its,c,pl,hz⟩:=I.list b
  have a:=c.length;exact Calls.call_len_list pl.isList (by simp only[List.size_toArray] <;> omega) ⟨.int ys.length,H,I.tok _,⟨s.toks+1,by rw[List.size_toArray,a]⟩,q⟩
 ·obtain⟨its,c,pl,hz⟩:=I.tuple b
  have a:=c.length;exact len_tuple pl (by simp only[List.size_toArray] <;> omega) ⟨.int ys.length,H,I.tok _,⟨s.toks+1,by rw[List.size_toArray,a]⟩,q⟩
theorem xb1:xd2 X (.type "list") (λxs H Q=>∃p ys,xs=[.ref p]/\(SqL X.K H p ys\/SqT X.K H p ys)/\∀l,H l=none->Q (.ref l) (upd H l (.lst ys))):=by
 intro pins s σ H xs us Q I r h;obtain⟨p,ys,rfl,g,q⟩:=h;obtain⟨u,rfl,x⟩:=xf3 r;cases x
 have fin:∀(its:List Value),Vals ys its->ys.length<=sizeLine->∀(h':Heap) (c:Nat),(∀b o',s.heap.get? b=some o'->h'.get? b=some o')->
   h'.get? s.heap.objs.size=some {cls:=.type "list",dict:=none,data:=.seq its.toArray c,slots:=#[]}->EP X pins σ Q (.ref s.heap.objs.size) {s with heap:=h'}:=λits a hz h' c f e=>
  ⟨.ref s.heap.objs.size,_,I.laid (t':=s.toks) f (Nat.le_refl _) (show ObjOk X.prog X.w _ h' _ (.lst ys) from⟨hz,its,c,a,e⟩),rfl,q _ (I.hok.fresh (Nat.le_refl _))⟩
 rcases g with g |g
 ·obtain⟨its,a,pl,hz⟩:=I.list g
  have i:=a.length;obtain⟨o,j,m,n,hd⟩:=pl.isList;exact call_list_seq p (.inl rfl) j m hd (λh' c f e=>fin its a hz h' c f e) (by simp only[List.size_toArray] <;> omega)
 ·obtain⟨its,a,pl,hz⟩:=I.tuple g
  have i:=a.length;obtain⟨o,j,m,n,hd⟩:=pl;exact call_list_seq p (.inr rfl) j m hd (λh' c f e=>fin its a hz h' c f e) (by simp only[List.size_toArray] <;> omega)
theorem xhj:xd2 X (.type "tuple") (λxs H Q=>∃p ys,xs=[.ref p]/\((SqL X.K H p ys/\∀l,H l=none->Q (.ref l) (upd H l (.tup ys)))\/(SqT X.K H p ys/\Q (.ref p) H))):=by
 intro pins s σ H xs us Q I r h;obtain⟨p,ys,rfl,h⟩:=h;obtain⟨u,rfl,i⟩:=xf3 r;cases i;rcases h with⟨c,q⟩ |⟨c,q⟩
 ·obtain⟨its,a,pl,hz⟩:=I.list c
  have f:=a.length;refine call_tuple_list pl.isList (λh' j=>?_) (by simp only[List.size_toArray] <;> omega);have g:Inv X pins σ H {s with heap:=h'}:=I.kept (t':=s.toks) j
  have m:Inv X pins σ (upd H h'.objs.size (.tup ys)) {s with heap:=h'.push {cls:=.type "tuple",data:=.seq its.toArray}}:=
   g.laid (t':=s.toks) (λb o e=>zPO _ e) (Nat.le_refl _) (show ObjOk X.prog X.w _ _ _ (.tup ys) from⟨hz,its,a,_,Heap.get?_push_size _ rfl,rfl,_,rfl,rfl⟩)
  exact⟨.ref h'.objs.size,_,m,rfl,q _ (g.hok.fresh (Nat.le_refl _))⟩
 ·obtain⟨its,a,pl,hz⟩:=I.tuple c
  exact call_tuple_same pl ⟨.ref p,H,I,rfl,q⟩
def tyV(K:Fg)(T:String)(x:V)(H:Hp):Prop:=match x with
 |.str _=>T="str"
 |.int _=>T="int"
 | .ref p=>(T="list"/\∃xs,SqL K H p xs)\/(T="tuple"/\∃o,K.lookup p=some o/\o.cls=.type "tuple"/\o.dict=none) ∨
   (T="dict"/\((∃kvs,H p=some (.dK kvs))\/∃kvs,H p=some (.dT kvs)))\/(T="set"/\∃S n,H p=some (.set S n))
 |_=>False
theorem xqc {pins:List (Addr×Obj)} {σ:St} {H:Hp} {s:Shared} {T:String} {x:V} {v:Value} (I:Inv X pins σ H s) (r:RelV x v) (f:tyV X.K T x H) :
  s.TypeIs v T/\∀a,v=.ref a->∃h,s.heap.get? a=some h/\h.dict=none:=by
 cases x with
 |str z=>
  obtain⟨t,rfl⟩:=r;cases (show T="str" from f);exact⟨typeIs_str s z t,λ_ e=>nomatch e⟩
 |int i=>
  obtain⟨t,rfl⟩:=r;cases (show T="int" from f);exact⟨typeIs_int s i t,λ_ e=>nomatch e⟩
 | ref p=>
  cases r;rcases f with⟨rfl,xs,j⟩ |⟨rfl,o,b,l,hd⟩ |⟨rfl,b⟩ |⟨rfl,S,n,b⟩
  ·obtain⟨its,_,pl,_⟩:=I.list j
   refine⟨pl.isList.typeIs,λa e=>?_⟩;cases e;obtain⟨o,n,e,c,hd,_⟩:=pl;exact⟨o,e,hd⟩
  ·refine⟨⟨o,I.kIn p o b,l⟩,λa e=>?_⟩
   cases e;exact⟨o,I.kIn _ o b,hd⟩
  ·have z:∃o,s.heap.get? p=some o/\o.ExactDict:=by
    rcases b with⟨kvs,b⟩ |⟨kvs,b⟩
    ·obtain⟨_,_,_,_,o,_,_,e,ex,_⟩:=I.hok p _ b
     exact⟨o,e,ex⟩
    ·obtain⟨_,_,_,_,o,_,_,e,ex,_⟩:=I.hok p _ b
     exact⟨o,e,ex⟩
   obtain⟨o,e,ex⟩:=z;refine⟨⟨o,e,ex.1⟩,λa g=>?_⟩;cases g;exact⟨o,e,ex.2.1⟩
  ·obtain⟨o,_,_,_,e,ex,_⟩:=I.hok p _ b
   refine⟨⟨o,e,ex.1⟩,λa g=>?_⟩;cases g;exact⟨o,e,ex.2.1⟩
 |_=>exact False.elim f
def tBM0(K:Fg)(T:String)(r:V->List V->Hp->VK->Prop)(to:TE):TE:=λσ H Q=>to σ H λx H1=>tyV K T x H1/\r x [] H1 Q
def tBM(K:Fg)(T:String)(r:V->List V->Hp->VK->Prop)(to:TE)(t:TA):TE:=λσ H Q=>to σ H λx H1=>tyV K T x H1/\t σ H1 λxs H2=>r x xs H2 Q
variable {o e:Expr}{es:List Expr}{to:TE}{t:TA}{name:Str}{apos cpos:Pos}{T id:String}{r:V->List V->Hp->VK->Prop}
theorem xqo (pa:PlainAttrs T) (c:Slot T name id) (e:typeOf (.builtin id)=pure (.type "method_descriptor")) (n:MtR X id r) (m:PE X o to)
  (b:attributeBase o name X.env (eval o X.env)=eval o X.env:=by rfl) (a:(apos.endLine == cpos.line)=true:=by rfl):PE X (.Call (.Attribute o name apos) [] [] cpos) (tBM0 X.K T r to):=by
 intro pins s σ H Q I h;refine wpAny_Call_method0_late b a (thn (m pins s σ H _ I h) λv j ⟨x,H1,g,f,i,l⟩=>?_);obtain⟨h1,h2⟩:=xqc g f i;exact⟨T,id,pa,c,e,h1,h2,Calls.callWith_builtin rfl (PySem.evalArgs_none (n pins j σ H1 x [] v [] Q g f .nil l))⟩
theorem xc9 (pa:PlainAttrs T) (f:Slot T name id) (i:typeOf (.builtin id)=pure (.type "method_descriptor")) (G:MtR X id r) (C:PE X o to) (J:PA X (e::es) t)
  (c:attributeBase o name X.env (eval o X.env)=eval o X.env:=by rfl)
  (g:((backTo cpos (starEach (e::es) X.env)).all (λx=>!x.1) && (backToKw cpos (keywordEach [] X.env)).all (λx=>x.1.isSome)
   && decide ((e::es).length+([]:List Keyword).length+(if ([]:List Keyword).isEmpty then 0 else 1)<30))=true:=by rfl)
  (b:(apos.endLine == cpos.line)=true:=by rfl) (hs:starEach (e::es) X.env=(false,eval e X.env)::starEach es X.env:=by rfl) (a:(backTo cpos (starEach es X.env)).any (·.1)=false:=by rfl) :
  PE X (.Call (.Attribute o name apos) (e::es) [] cpos) (tBM X.K T r to t):=by
 intro pins s σ H Q I h;refine wpAny_Call_method_late c g b rfl (thn (C pins s σ H _ I h) λv u ⟨x,H1,m,j,n,z⟩=>?_);obtain⟨h1,h2⟩:=xqc m j n;refine⟨T,id,pa,f,i,h1,h2,?_⟩;have l:=J cpos pins u σ H1 _ m z;rw[hs]at l⊢;refine Calls.callWith_builtin (by show(false || (backTo cpos (starEach es X.env)).any (·.1))=false;rw[a] <;> rfl) (Calls.evalArgs_plain ?_);exact thn l λus p ⟨vs,H2,M,w,y⟩=>G pins p σ H2 x vs v us Q M j w y
end
def MtM(X:Cx)(id:String)(r:V->List V->Hp->VK->Prop):Prop:=
 ∀(pins:List (Addr×Obj)) (s:Shared) (σ:St) (H:Hp) (x:V) (xs:List V) (v:Value) (us:List Value) (Q:VK),Inv X pins σ H s->RelV x v->Vals xs us->r x xs H Q->
  wpAny (model X.prog X.w) X.A (call (.builtin id) (v::us)) (EP X pins σ Q) X.xe s
theorem Vals.one:∀{x:V} {us:List Value},Vals [x] us->∃u,us=[u]/\RelV x u
 |_,_,.cons r .nil=>⟨_,rfl,r⟩
theorem Vals.two:∀{x y:V} {us:List Value},Vals [x,y] us->∃u v,us=[u,v]/\RelV x u/\RelV y v
 |_,_,_,.cons r (.cons q .nil)=>⟨_,_,rfl,r,q⟩
theorem Vals.zero:∀{us:List Value},Vals [] us->us=[]
 |_,.nil=>rfl
theorem Vals.eraseIdx:∀{xs:List V} {us:List Value} (i:Nat),Vals xs us->Vals (xs.eraseIdx i) (us.eraseIdx i)
 |_,_,_,.nil=>.nil
 |_,_,0,.cons _ t=>t
 |_,_,i+1,.cons r t=>.cons r (Vals.eraseIdx i t)
theorem Vals.reverse{xs:List V}{us:List Value}(h:Vals xs us):Vals xs.reverse us.reverse:=by
 induction h with
 |nil=>exact .nil
 |cons r t a=>rw[List.reverse_cons,List.reverse_cons];exact Vals.append a (.cons r .nil)
theorem Vals.rep{xs:List V}{us:List Value}(h:Vals xs us):∀k:Nat,Vals (List.replicate k xs).flatten (List.replicate k us).flatten
 |0=>.nil
 |k+1=>by
  rw[List.replicate_succ,List.replicate_succ,List.flatten_cons,List.flatten_cons];exact Vals.append h (Vals.rep h k)
theorem xip{α:Type}:∀(l:List α) (i:Nat),(l.eraseIdx i).length<=l.length
 |[],_=>Nat.le_refl _
 |_::_,0=>Nat.le_succ _
 |_::r,i+1=>Nat.succ_le_succ (xip r i)
theorem xiw (its:List Value):∀(k:Nat) (acc:List Value),
  List.foldl (λb a=>b++a) acc.toArray (List.replicate k its.toArray)=(acc++(List.replicate k its).flatten).toArray
 |0,acc=>by simp
 | k+1,acc=>by
  have e:acc.toArray++its.toArray=(acc++its).toArray:=by simp
  have c:(acc++its)++(List.replicate k its).flatten=acc++(List.replicate (k+1) its).flatten:=by
   rw[List.replicate_succ,List.flatten_cons,List.append_assoc]
  rw[<- c,<- xiw its k (acc++its),<- e,List.replicate_succ,List.foldl_cons]
section
variable {X:Cx}{pins:List (Addr×Obj)}{σ:St}{H:Hp}{s:Shared}{l b:Addr}{xs ys zs:List V}
theorem Inv.lset {its its':List Value} {n:Nat} {f:Array Value->Array Value} {t':Nat} (I:Inv X pins σ H s) (h:H l=some (.lst xs))
  (e:s.heap.get? l=some {cls:=.type "list",data:=.seq its.toArray n}) (c:f its.toArray=its'.toArray) (a:Vals ys its') (hz:ys.length<=sizeLine) :
  Inv X pins σ (upd H l (.lst ys)) {s with heap:=s.heap.update l (Obj.mapSeq f),toks:=t'}:=by
 have q:=PySem.IsL.update e f;rw[c]at q;refine I.write (x:=l) (e:=l) (by rw[h];exact trivial) (.inl rfl) (λi u g b=>(Heap.get?_update_other s.heap (Obj.mapSeq f) (Ne.symm g)).trans b) ⟨_,q⟩ ?_;exact⟨hz,its',_,a,q⟩
theorem Inv.lnew {its:List Value} {t':Nat} (I:Inv X pins σ H s) (a:Vals ys its) (hz:ys.length<=sizeLine) :
  Inv X pins σ (upd H s.heap.objs.size (.lst ys)) {s with heap:=s.heap.push {cls:=.type "list",data:=.seq its.toArray},toks:=t'}:=
 I.laid (λ_ _ q=>zPO _ q) (Nat.le_refl _) ⟨hz,its,0,a,Heap.get?_push_size _ rfl⟩
theorem Inv.fresh(I:Inv X pins σ H s):H s.heap.objs.size=none:=I.hok.fresh (Nat.le_refl _)
theorem Inv.lstM(I:Inv X pins σ H s)(a:H l=some (.lst xs)):xs.length<=sizeLine/\∃(its:List Value) (n:Nat),Vals xs its/\xs.length=its.length/\s.heap.get? l=some {cls:=.type "list",data:=.seq its.toArray n}:=by
 obtain⟨z,its,n,r,e⟩:=I.hok l _ a;exact⟨z,its,n,r,r.length,e⟩
theorem xpk{n:Nat}(h:n<=sizeLine):Builtin.List.listTooLong n=false:=by
 unfold Builtin.List.listTooLong;exact zDF (by omega)
end
section
variable {X:Cx}
def xrt:V->List V->Hp->VK->Prop:=λx vs H Q=>∃l xs y,x=.ref l/\vs=[y]/\H l=some (.lst xs)/\xs.length<sizeLine/\Q .non (upd H l (.lst (xs++[y])))
theorem xbw:MtM X "list.append" xrt:=by
 intro pins s σ H x vs v us Q I b c h;obtain⟨l,xs,y,rfl,rfl,a,hz,q⟩:=h;cases b;obtain⟨u,rfl,f⟩:=c.one;obtain⟨z,its,n,r,g,e⟩:=I.lstM a;refine call_meets F.slot_list_append ⟨_,e,rfl⟩ F.entry_list_append (F.args_list_append_2 _ _) (PySem.list_append l its.toArray n u (by rw[List.size_toArray];omega)) ⟨e,?_⟩;refine⟨.non,_,I.lset (its':=its++[u]) a e (by simp) (r.append (.cons f .nil)) ?_,rfl,q⟩;rw[zLA,List.length_singleton];omega
def xtl:V->List V->Hp->VK->Prop:=λx vs H Q=>∃l xs i k y,x=.ref l/\vs=[.int i]/\H l=some (.lst xs)/\-(2 ^ 63)<=i/\i<2 ^ 63/\seqIndex? i xs.length=some k/\xs[k]?=some y/\Q y (upd H l (.lst (xs.eraseIdx k)))
theorem xhd:MtM X "list.pop" xtl:=by
 intro pins s σ H x vs v us Q I c f h;obtain⟨l,xs,i,k,y,rfl,rfl,b,h1,h2,p,j,q⟩:=h;cases c;obtain⟨u,rfl,g⟩:=f.one;obtain⟨t,rfl⟩:=g;obtain⟨z,its,n,r,o,e⟩:=I.lstM b;obtain⟨w,m,a⟩:=r.get j
 refine call_meets F.slot_list_pop ⟨_,e,rfl⟩ F.entry_list_pop (F.args_list_pop_2 _ _)
  (MeetsSeq.list_pop_at l its.toArray n i t k w (fitsIndex_both h1 h2) (by rw[List.size_toArray,<- o];exact p) (by rw[<- Array.getElem?_toList];exact m) (by rw[List.size_toArray];omega)) ⟨e,?_⟩
 refine⟨y,_,I.lset (its':=its.eraseIdx k) b e ?_ (r.eraseIdx k) ?_,a,q⟩
 ·show its.toArray.eraseIdxIfInBounds k=(its.eraseIdx k).toArray
  rw[List.eraseIdxIfInBounds_toArray]
 ·have:=xip xs k
  omega
def xo5:V->List V->Hp->VK->Prop:=λx vs H Q=>∃l xs,x=.ref l/\vs=[]/\H l=some (.lst xs)/\Q .non (upd H l (.lst xs.reverse))
theorem xgh:MtM X "list.reverse" xo5:=by
 intro pins s σ H x vs v us Q I c f h;obtain⟨l,xs,rfl,rfl,b,q⟩:=h;cases c;have a:=f.zero;subst a;obtain⟨z,its,n,r,g,e⟩:=I.lstM b;refine call_meets F.slot_list_reverse ⟨_,e,rfl⟩ F.entry_list_reverse (F.args_list_reverse_1 _) (AutoSeq1.list_reverse_list_0 l its.toArray n (by rw[List.size_toArray];omega)) ⟨e,?_⟩;refine⟨.non,_,I.lset (its':=its.reverse) b e (by simp) r.reverse ?_,rfl,q⟩;rw[List.length_reverse];omega
def rCat:R2:=λx y H Q=>∃l b xs zs,x=.ref l/\y=.ref b/\H l=some (.lst xs)/\H b=some (.lst zs)/\xs.length+zs.length<=sizeLine/\∀p,H p=none->Q (.ref p) (upd H p (.lst (xs++zs)))
theorem xfp:OpR X (binaryOp .Add) rCat:=by
 intro pins s σ H x y v u Q I f c h;obtain⟨l,b,xs,zs,rfl,rfl,j,m,hz,q⟩:=h;cases f;cases c;obtain⟨z,its,n,r,G,e⟩:=I.lstM j;obtain⟨w,a,C,g,i,p⟩:=I.lstM m;refine PySem.P.add_list e p ?_ (by rw[List.size_toArray,List.size_toArray];omega);have o:its.toArray++a.toArray=(its++a).toArray:=by simp
 rw[o];exact⟨.ref _,_,I.lnew (t':=s.toks) (r.append g) (by rw[zLA];omega),rfl,q _ I.fresh⟩
def rRep:R2:=λx y H Q=>∃l k xs,x=.ref l/\y=.int k/\H l=some (.lst xs)/\-(2 ^ 63)<=k/\k<2 ^ 63/\xs.length*k.toNat<=sizeLine ∧
 ∀p,H p=none->Q (.ref p) (upd H p (.lst (List.replicate k.toNat xs).flatten))
theorem xsg{α:Type}(xs:List α)(k:Nat):(List.replicate k xs).flatten.length=k*xs.length:=by
 induction k with
 |zero=>simp
 |succ k a=>rw[List.replicate_succ,List.flatten_cons,zLA,a,Nat.succ_mul,Nat.add_comm]
theorem xqq:OpR X (binaryOp .Mult) rRep:=by
 intro pins s σ H x y v u Q I w p h;obtain⟨l,k,xs,rfl,rfl,G,h1,h2,hz,q⟩:=h;cases w;obtain⟨t,rfl⟩:=p;obtain⟨z,its,n,r,C,e⟩:=I.lstM G;have f:its.toArray.size*k.toNat<=sizeLine:=by rw[List.size_toArray,<- C];exact hz
 have i:¬its.toArray.size*k.toNat > (2 ^ 63-1) / 8:=by
  have:(sizeLine:Nat)<=(2 ^ 63-1) / 8:=by decide
  omega
 have g:¬(!Builtin.List.listFitsIndex k)=true:=by
  rw[fitsIndex_both h1 h2];exact Bool.false_ne_true
 have b:¬Builtin.List.listTooLong (its.toArray.size*k.toNat)=true:=by
  rw[xpk f];exact Bool.false_ne_true
 have c:List.foldl (λo j=>o++j) #[] (List.replicate (if its.toArray.isEmpty=true then 0 else k.toNat) its.toArray)=(List.replicate k.toNat its).flatten.toArray:=by
  have J:∀m:Nat,List.foldl (λo j=>o++j) #[] (List.replicate m its.toArray)=(List.replicate m its).flatten.toArray:=λm=>by
   have:=xiw its m [];rw[List.nil_append]at this;exact this
  rw[J]
  cases its with
  |nil=>simp
  |cons a M=>rw[if_neg (by simp)]
 refine wpAny_binaryOp_repeat_ref (T:="list") (U:="int") (by decide) ⟨_,e,rfl⟩ (λs'=>typeIs_int s' k t) noFill_list_mul F.fills_int_mul F.slot_int_rmul repeat_list F.slot_int_index.lookup
  (call_meets F.slot_int_rmul (typeIs_int s k t) F.entry_int_rmul (F.args_int_rmul_2 _ _) (int___rmul___int_list k t l its.toArray n)
   ⟨e,rfl,⟨_,e,rfl⟩,call_meets F.slot_list_mul ⟨_,e,rfl⟩ F.entry_list_mul (F.args_list_mul_2 _ _) (AutoListH.list___mul___list_int_3 l its.toArray n k t g i b) ⟨e,?_⟩⟩)
 rw[c];exact⟨.ref _,_,I.lnew (t':=s.toks) (r.rep k.toNat) (by rw[xsg,Nat.mul_comm];exact hz),rfl,q _ I.fresh⟩
end
end L2
namespace Att
open PySem PySem.W PySem.Calls PyProof.Rows
theorem xfx{P:Params}{h:Heap}:∀(ns:List Int) (vs:List Value),WellAll P h vs (ns.map WData.int)->IntsAre vs ns:=by
 intro ns
 induction ns with
 |nil=>
  intro vs w;rw[List.map_nil]at w;cases w;exact .nil
 | cons n ns c=>
  intro vs w;rw[List.map_cons]at w
  cases w with
  |cons a b=>
   cases a;exact .cons _ _ (c _ b)
theorem xmv {l:OpenLaw} {n:Nat} (hn:l.most=some n) {P:Params} {h:Heap} {args:List WData} {b:List Value}
  (c:l.row.toRowW.claim.pre args=true) (j:WellAll P h b args) :
  ∃a vs ns,b=[Value.ref a]/\args=[WData.list (ns.map WData.int)]/\h.get? a=some {cls:=.type "list",data:=.seq vs.toArray}/\IntsAre vs ns/\ns.length<=n:=by
 have m:WShape.hasAll [] args [.list .int]=true:=(pre_splitW c).1;have o:l.pre.holds [] {args:=args}=true:=(pre_splitW c).2;obtain⟨d,r,rfl,h1,h2⟩:=hasAllW_cons m;obtain rfl:=hasAllW_nil h2;obtain⟨xs,rfl,x⟩:=hasW_list h1;obtain⟨ns,rfl⟩:=items_int x
 have e:ns.length<=n:=by
  unfold OpenLaw.pre at o
  have i:(WTm.not (.lt (.lit (.int (n:Int))) (.len (.arg 0)))).holds [] {args:=[.list (ns.map .int)]}=true:=by
   have i:=(holds_andW o).1;rw[hn]at i;exact i
  have g:=condW_of i (w_not (w_lt w_lit (w_len_list (w_arg rfl))));rw[zLM]at g;refine Nat.le_of_not_lt λq=>?_;have u:(n:Int)<((ns.length:Nat):Int):=by omega
  first
   |(rw[zDT u]at g;exact absurd g (by decide))
   |(simp at g;omega)
 cases j with
 |cons s p=>
  cases p
  cases s with
  |list w f=>exact⟨_,_,ns,rfl,rfl,w,xfx ns _ f,e⟩
theorem xm1(l:OpenLaw)(args:List WData):l.row.toRowW.claim.post args (.bool true) args=true:=
 postW_of (r:=l.row.toRowW) (X:=(true == true))
  (show WShape.has [] (.bool true) .bool=true by first |rfl |decide |simp[WShape.has,WShape.arms,WShape.armsAll])
  (show(WTm.eq .res (.lit (.bool true))).value [] {args:=args,res:=some (.bool true),after:=args}=some (.bool (true == true)) from w_eq_bool (w_res rfl) w_lit) rfl
theorem attach_call {l:OpenLaw} {n:Nat} {q:Program} {loose:List Str} {XP:(Str->Option Value)->Heap->Prop} {YP:World->Heap->Prop} {d:DefRec}
  (hn:l.most=some n) (hdf:d.params.defaults=[])
  (call:∀(w:World) (s₀ s₁:Shared) (mg mb:Str->Option Value) (fa:Addr) (o:Obj) (pm cd doc:Value) (a:Addr) (vs:List Value) (ns:List Int),
   Ground q loose [] XP w s₀ mg mb s₁.heap->YP w s₁.heap->
   s₁.heap.get? fa=some o->o.data=.func (docDef d.name d.params d.body d.scope pm cd doc)->s₁.heap.CodeRec cd d.name->mg d.name=some (.ref fa)->
   s₁.heap.get? a=some {cls:=.type "list",data:=.seq vs.toArray}->IntsAre vs ns->ns.length<=n->s₁.gens=#[]->
   codeAny (model l.prog w) callerA (.call (.ref fa) ⟨[.ref a],[]⟩) (λr s'=>r=.ok (.ret (.bool true))/\OldK s₁.heap s'.heap/\s'.os=s₁.os/\AllBare s'.gens) s₁) :
  WalkO q loose XP YP l.row.toRowW d [] (λf vs=>PySem.call f vs):=by
 intro w s₀ s₁ mg mb G Y fa o pm cd doc dV kV ho hd hcd hD hmg hg args vals as hpre hlay hrd hwl hlo;obtain rfl:dV=.none:=Dflts.none hD hdf;obtain rfl:kV=.none:=Dflts.noKw hD;obtain⟨a,vs,ns,rfl,rfl,hobj,hints,hlen⟩:=xmv hn hpre hwl;refine enter_call (codeAny_mono (call w s₀ s₁ mg mb fa o pm cd doc a vs ns G Y ho (fd_plain hd) hcd hmg hobj hints hlen hg) λr s' hq=>?_);obtain⟨rfl,h2,h3,h4⟩:=hq;exact⟨.inl ⟨.bool true,.bool true,[],rfl,λ_=>rfl,.bool true,xm1 l _,λ_=>⟨List.Pairwise.nil,λ_ hm=>(nomatch hm)⟩⟩,h2,h3,h4⟩
end Att
namespace L2
open PySem PySem.Spec PyProof.Rows
theorem xhl:∀{vs:List Value} {ns:List Int},IntsAre vs ns->Vals (ns.map V.int) vs
 |_,_,.nil=>.nil
 |_,_,.cons n t h=>.cons ⟨t,rfl⟩ (xhl h)
def Only(H:Hp):Prop:=∀b,H b=none\/∃o xs,H b=some (.frz o (.lst xs))
theorem xpr {P:Program} {w:World} {K:Fg} {mg mb:Str->Option Value} {CX:CXT} {k:Nat} {fa a:Addr} {fd:FuncData} {x:Str} {sp:Sp} {s₁:Shared} {vs:List Value} {ns:List Int}
  (KX:K.In s₁.heap) (hns:s₁.heap.Ns mainGlobals mg) (hb:s₁.heap.Ns builtinsNs mb) (hbb:∀x:Str,x≠"__name__"->mb x=bootBuiltins x) (hlim:s₁.heap.NoLimit) (hg:s₁.gens=#[])
  (ha:s₁.heap.get? a=some {cls:=.type "list",data:=.seq vs.toArray}) (hi:IntsAre vs ns) (hl:ns.length<=sizeLine) (hr:Room k callerA)
  (F:∀base:Heap,K.In base->base.Ns mainGlobals mg->FnOk P w K mg base CX k fa fd [x] sp) (hbind:∀(s:Shared) (u:Value),BindsTo s fd ⟨[u],[]⟩ [(x,u)])
  (hsp:∀H:Hp,Only H->SqL K H a (ns.map V.int)->sp [.ref a] H (λv _=>v=.bl true) λ_ _ _=>False)
  (hCX:∀H e s',CX [] H s₁ (λ_ _ _=>False) e s'->False) :
  codeAny (model P w) callerA (.call (.ref fa) ⟨[.ref a],[]⟩) (λr s'=>r=.ok (.ret (.bool true))/\OldK s₁.heap s'.heap/\s'.os=s₁.os/\AllBare s'.gens) s₁:=by
 have rv:=xhl hi;have lenV:=hi.length
 have core:∀H:Hp,Only H->SqL K H a (ns.map V.int)->HOk P w H s₁.heap->(∀b,H b≠none->b=a)->(H a≠none->K.lookup a=none)->
   codeAny (model P w) callerA (.call (.ref fa) ⟨[.ref a],[]⟩) (λr s'=>r=.ok (.ret (.bool true))/\OldK s₁.heap s'.heap/\s'.os=s₁.os/\AllBare s'.gens) s₁:=by
  intro H hO hS hok hA hK;have base_of:∀{b:Addr} {o:Obj},s₁.heap.get? b=some o->H b=none->(hidT s₁.heap H).get? b=some o:=λe n=>xpv e n
  have noA:∀{b:Addr} {o:Obj} {es:Array DictEntry} {ep:Nat},s₁.heap.get? b=some o->o.data=.dict es ep->H b=none:=λ{b o es ep} e d=>by
   cases q:H b with
   |none=>rfl
   |some u=>
    have e':b=a:=hA b (by rw[q];simp);subst e';rw[ha]at e;cases e;have d':Data.seq vs.toArray _=Data.dict es ep:=d;cases d'
  have nsK:∀{b:Addr} {m:Str->Option Value},s₁.heap.Ns b m->(hidT s₁.heap H).Ns b m:=λ{b m} ⟨o,es,ep,e,d,r⟩=>⟨o,es,ep,base_of e (noA e d),d,r⟩
  have hKb:K.In (hidT s₁.heap H):=λb o e=>base_of (KX b o e) (by
   cases q:H b with
   |none=>rfl
   |some u=>
    have e':b=a:=hA b (by rw[q];simp);subst e';rw[hK (by rw[q];simp)]at e;cases e)
  have hM:Mod K mg (hidT s₁.heap H):=⟨hKb,nsK hns,⟨mb,nsK hb,hbb⟩,let ⟨mc,h1,h2⟩:=hlim;⟨mc,nsK h1,h2⟩⟩;have e0:Env0 P w K mg (hidT s₁.heap H) callerA [] s₁ H:=⟨rfl,hM,λb o e=>xr4 e,Nat.le_of_eq (xn4 _ _),trivial,λb hb=>absurd (show b∈([]:List Addr) from hb) (by simp),hok,.of_eq hg⟩;refine codeAny_mono ((F _ hKb (nsK hns)).run callerA [] s₁ H ⟨[.ref a],[]⟩ [.ref a] [.ref a] _ _ hr e0 (hbind s₁ (.ref a)) (.cons rfl .nil) (hsp H hO hS)) λr s' h=>?_
  cases r with
  |error e=>exact(hCX H e s' h).elim
  | ok fl=>
   cases fl with
   |next=>exact False.elim h
   |brk=>exact False.elim h
   |cont=>exact False.elim h
   | ret u=>
    obtain⟨v,H',os,bare,un,hok',r',q⟩:=h;have q':v=.bl true:=q;subst q';obtain rfl:u=Value.bool true:=r';refine⟨rfl,OldK.of_keep λb o e=>?_,os,bare⟩
    cases q:H b with
    |none=>exact un.keep b o e q (by intro z;exact absurd (show b∈([]:List Addr) from z) (by simp)) (by simp)
    | some u=>
     rcases hO b with z |⟨ob,xs,z⟩
     ·rw[q]at z;cases z
     ·have z2:=un.frzs b ob _ z
      obtain⟨e1,_⟩:=hok b _ z;obtain⟨e2,_⟩:=hok' b _ z2;rw[e]at e1;cases e1;exact e2
 cases hk:K.lookup a with
 |some o=>
  have e:=KX a o hk;rw[ha]at e;cases e;refine core (λ_=>none) (λ_=>.inl rfl) (.inr ⟨_,vs.toArray,_,hk,rfl,rfl,rfl,by rw[List.size_toArray,lenV];exact hl,by simpa using rv⟩) (λb u z=>by have z':(none:Option HO)=some u:=z;cases z') (λb z=>absurd rfl z) λz=>absurd rfl z
 | none=>
  refine core (λb=>if b=a then some (.frz {cls:=.type "list",data:=.seq vs.toArray} (.lst (ns.map V.int))) else none) (λb=>?_) (.inl (.inr ⟨{cls:=.type "list",data:=.seq vs.toArray},if_pos rfl⟩)) (λb u z=>?_) (λb z=>?_) λ_=>hk
  ·by_cases hb:b=a
   ·exact .inr ⟨_,_,if_pos hb⟩
   ·exact .inl (if_neg hb)
  ·by_cases hb:b=a
   ·have z':=(if_pos hb).symm.trans z
    cases z';subst hb;exact⟨ha,by rw[zLM];exact hl,vs,_,rv,ha⟩
   ·have z':=(if_neg hb).symm.trans z
    cases z'
  ·by_cases hb:b=a
   ·exact hb
   ·exact absurd (if_neg hb) z
abbrev KOf{K:Fg}{h:Heap}(_:K.In h):Fg:=K
theorem walk_of {l:PySem.W.OpenLaw} {n k:Nat} {q:Program} {loose:List Str} {XP:(Str->Option Value)->Heap->Prop} {YP:World->Heap->Prop} {d:DefRec} {K:Params->Fg} {CX:World->CXT} {sp:World->Sp} {x:Str}
  (hn:l.most=some n) (hn2:n<=sizeLine) (hdf:d.params.defaults=[]) (hr:Room k callerA)
  (hY:∀(w:World) (h:Heap),YP w h->(K w.params).In h)
  (F:∀(w:World) (mg:Str->Option Value) (fa:Addr) (h:Heap),(K w.params).In h->h.Ns mainGlobals mg->mg d.name=some (.ref fa)->
   ∃fd:FuncData,(∀(s:Shared) (u:Value),BindsTo s fd ⟨[u],[]⟩ [(x,u)]) ∧
    ∀base:Heap,(K w.params).In base->base.Ns mainGlobals mg->FnOk l.prog w (K w.params) mg base (CX w) k fa fd [x] (sp w))
  (hsp:∀(w:World) (H:Hp) (a:Addr) (ns:List Int),ns.length<=n->Only H->SqL (K w.params) H a (ns.map V.int)->sp w [.ref a] H (λv _=>v=.bl true) λ_ _ _=>False)
  (hCX:∀(w:World) (H:Hp) (s:Shared) (e:Value) (s':Shared),CX w [] H s (λ_ _ _=>False) e s'->False) :
  PySem.W.WalkO q loose XP YP l.row.toRowW d [] (λf vs=>PySem.call f vs):=by
 refine Att.attach_call hn hdf λw s₀ s₁ mg mb fa o pm cd doc a vs ns G Y ho hd hcd hmg hobj hints hlen hg=>?_;have KX:=hY w _ Y;obtain⟨fd,hb,hF⟩:=F w mg fa _ KX G.T.g hmg;exact xpr KX G.T.g G.T.b G.T.builtins G.T.nolimit hg hobj hints (Nat.le_trans hlen hn2) hr hF hb (λH hO hS=>hsp w H a ns hlen hO hS) λH e s'=>hCX w H s₁ e s'
def xdg(s:Stmt):Arguments:=match s with
 |.FunctionDef _ a _ _ _ _ _ _ _ _=>a
 |_=>{posonlyargs:=[],args:=[],vararg:=none,kwonlyargs:=[],kw_defaults:=[],kwarg:=none,defaults:=[]}
def xcy(s:Stmt):List Stmt:=match s with
 |.FunctionDef _ _ b _ _ _ _ _ _ _=>b
 |_=>[]
def xac(s:Stmt):Scope:=match s with
 |.FunctionDef _ _ _ _ _ _ sc _ _ _=>sc
 |_=>{kind:=.function,names:=[],isGenerator:=false,isCoroutine:=false}
abbrev CX0:CXT:=λ_ _ _ _ _ _=>False
abbrev E0:XK:=λ_ _ _=>False
theorem xo8{X:Cx}:xgp CX0 X E0:=λ_ _ _ _ _ _ _ h=>h.elim
structure Fun(K:Fg)(x qual:Str)(st:Stmt)(f:Addr)(fd:FuncData):Prop where
 ex:∃(oc:Value) (od:Option Addr) (kV doc pm:Value) (an:Option Addr) (cdv ct:Value) (osl:Array (Option Value)),
  fd=PySem.W.fnOf x qual (xdg st) (xcy st) (xac st) .none kV doc pm an cdv ct/\K.lookup f=some ⟨oc,od,.func fd,osl⟩/\PySem.W.codeIn K cdv qual=true
 kp:PySem.W.keepIn K (.ref f)=true
section
variable {P:Program}{w:World}{K:Fg}{mg:Str->Option Value}{base:Heap}
theorem Fun.ok {x qual:Str} {st:Stmt} {f:Addr} {fd:FuncData} {N ps:List Str} {k:Nat} {sp:Sp} (F:Fun K x qual st f fd) (S:FnScope N ps (xac st)) (len:∀vs H Q E,sp vs H Q E->vs.length=ps.length)
  (hbody:∀(cdv:Value) (A:Around) (outer:List Env) (s:Shared) (H:Hp) (vs:List V) (Q:VK) (E:XK),Room k (A.deeper (envOfC qual (xac st) s.heap.objs.size f cdv))->sp vs H Q E->
   ∃t,PSs (cxOf CX0 P w K mg base N qual (xac st) f cdv A outer s H E).nox (xcy st) t/\t {nx:=λ_ H'=>Q .non H',rt:=Q} (xex N vs) H):FnOk P w K mg base CX0 (k+1) f fd ps sp:=by
 obtain⟨oc,od,kV,doc,pm,an,cdv,ct,osl,rfl,lk,hcd⟩:=F.ex;refine xub lk hcd S len λA outer s H vs Q E hr hsp=>?_;obtain⟨t,h,q⟩:=hbody cdv A outer s H vs Q E hr hsp;exact⟨t,h.nox,q⟩
theorem xua {x a:Str} {st:Stmt} {f:Addr} {j:Value} {od i:Option Addr} {g:Array (Option Value)} {kV e h b ct:Value} (l:K.lookup f=some ⟨j,od,.func (PySem.W.fnOf x a (xdg st) (xcy st) (xac st) .none kV e h i b ct),g⟩)
  (c:PySem.W.codeIn K b a=true) (k:PySem.W.keepIn K (.ref f)=true):Fun K x a st f (PySem.W.fnOf x a (xdg st) (xcy st) (xac st) .none kV e h i b ct):=⟨⟨j,od,kV,e,h,i,b,ct,g,rfl,l,c⟩,k⟩
end
theorem xeh{A:Around}{k:Nat}(a:Room k A):A.units+1<cLine:=Nat.lt_of_le_of_lt (Nat.add_le_add_left (by decide:1<=64) _) a.units
section
variable {X:Cx}
theorem pv (i:Nat) {x:Str} {pos:Pos} (c:X.N[i]?=some x:=by rfl) (b:Vis X.env.scope x:=by first |exact Or.inl rfl |exact Or.inr (Or.inl rfl) |exact Or.inr (Or.inr rfl)) (hd:(x == ("__debug__":Str))=false:=by decide)
  (a:(x == ("__classdict__":Str))=false:=by decide):PE X (.Name x pos) (tVar i):=xtr c b hd a
end
theorem iteF{A B:Prop}(h:B):if false=true then A else B:=by
 rw[if_neg Bool.false_ne_true];exact h
theorem iteT{A B:Prop}(h:A):if true=true then A else B:=by
 rw[if_pos rfl];exact h
theorem ite2{c A B:Prop}[Decidable c](h1:c->A)(h2:¬c->B):if c then A else B:=by
 by_cases h:c
 ·rw[if_pos h]
  exact h1 h
 ·rw[if_neg h]
  exact h2 h
def Same(H H':Hp):Prop:=∀b o,H b=some o->H' b=some o
theorem Same.refl(H:Hp):Same H H:=λ_ _ h=>h
theorem Same.trans{H H1 H2:Hp}(a:Same H H1)(b:Same H1 H2):Same H H2:=λc o h=>b c o (a c o h)
theorem Same.seq{K:Fg}{H H':Hp}{a:Addr}{xs:List V}(e:Same H H')(h:SqL K H a xs):SqL K H' a xs:=by
 rcases h with(h |⟨o,h⟩) |h
 ·exact .inl (.inl (e _ _ h))
 ·exact .inl (.inr ⟨o,e _ _ h⟩)
 ·exact .inr h
def clOf(env:Env):List (Str×NameKind)->List (Str×Addr)->List (Str×Addr)
 |[],cs=>cs
 |(n,k)::r,cs=>clOf env r (if k == .free then match env.cells.lookup n with |some a=>(n,a)::cs |none=>cs else cs)
theorem xi2{env:Env}{x:Str}{c:Addr}:∀{ns:List (Str×NameKind)} {cs:List (Str×Addr)},(∀p∈cs,env.cells.lookup p.1=some p.2)->(clOf env ns cs).lookup x=some c->env.cells.lookup x=some c
 |[],cs,h,e=>by
  unfold clOf at e;exact h (x,c) (PySem.mem_of_lookup e)
 | (n,k)::r,cs,h,e=>by
  unfold clOf at e;refine xi2 (ns:=r) ?_ e;intro p b;split at b
  ·split at b
   ·rename_i a f
    rcases zMC b with rfl |b
    ·exact f
    ·exact h p b
   ·exact h p b
  ·exact h p b
theorem xd3{x:Str}:∀{cs:List (Str×Addr)},(∃c,(x,c)∈cs)->∃c,cs.lookup x=some c
 |[],⟨_,h⟩=>nomatch h
 | (n,a)::r,⟨c,h⟩=>by
  rw[List.lookup_cons]
  cases e:x == n with
  |true=>exact⟨a,rfl⟩
  | false=>
   rcases zMC h with h |h
   ·cases h
    rw[beq_self_eq_true]at e;cases e
   ·exact xd3 ⟨c,h⟩
theorem xlc{env:Env}{x:Str}:∀{ns:List (Str×NameKind)} {cs:List (Str×Addr)},((∃c,(x,c)∈cs)\/((x,NameKind.free)∈ns/\∃c,env.cells.lookup x=some c))->∃c,(x,c)∈clOf env ns cs
 |[],cs,h=>by
  unfold clOf;rcases h with h |⟨h,_⟩
  ·exact h
  ·cases h
 | (n,k)::r,cs,h=>by
  unfold clOf;refine xlc (ns:=r) ?_;rcases h with⟨c,h⟩ |⟨h,c,a⟩
  ·refine .inl ⟨c,?_⟩
   split
   ·split
    ·exact List.mem_cons_of_mem _ h
    ·exact h
   ·exact h
  ·rcases zMC h with h |h
   ·cases h
    refine .inl ⟨c,?_⟩;rw[if_pos (by decide),a];exact List.mem_cons_self
   ·exact .inr ⟨h,c,a⟩
theorem xej{a:Scope}{env:Env}(h:∀p∈a.names,p.2=NameKind.free->∃c,env.cells.lookup p.1=some c):closureFor a env=pure (clOf env a.names []):=by
 have go:∀(ns:List (Str×NameKind)) (cs:List (Str×Addr)),(∀p∈ns,p.2=NameKind.free->∃c,env.cells.lookup p.1=some c)->
   (forIn ns cs λ(x:Str×NameKind) (r:List (Str×Addr))=>(if (x.2 == NameKind.free)=true then do
     let y <- cellOf env x.1
     pure (ForInStep.yield ((x.1,y)::r)) else pure (ForInStep.yield r):Sem (ForInStep (List (Str×Addr)))))=(pure (clOf env ns cs):Sem (List (Str×Addr))):=by
  intro ns
  induction ns with
  |nil=>intro cs _;rfl
  | cons p r f=>
   intro cs e;obtain⟨n,k⟩:=p;rw[List.forIn_cons];unfold clOf;by_cases g:k=NameKind.free
   ·subst g
    obtain⟨c,i⟩:=e (n,.free) List.mem_cons_self rfl;have l:cellOf env n=pure c:=by unfold cellOf;rw[i]
    simp only[beq_self_eq_true,if_true,l,i,pure_bind];exact f _ λq b=>e q (List.mem_cons_of_mem _ b)
   ·have j:(k == NameKind.free)=false:=by simpa using g
    simp only[j,Bool.false_eq_true,if_false,pure_bind];exact f _ λq b=>e q (List.mem_cons_of_mem _ b)
 unfold closureFor;have:=go a.names [] h;simp only[bind_pure_comp,id_map']at this⊢;rw[this];rfl
theorem xct {env:Env} {x:Str} {k':NameKind}:∀{ns:List (Str×NameKind)},
  (ns.map λ(n,k)=>if (k == NameKind.free && env.scope.kind == .function && env.kindOf n == some .cell) then (n,NameKind.cell) else (n,k)).lookup x=some k'->
  ∃k,ns.lookup x=some k/\(k'=k\/(k=.free/\k'=.cell))
 |[],h=>by simp at h
 | (n,k)::r,h=>by
  have h':List.lookup x ((if (k == NameKind.free && env.scope.kind == .function && env.kindOf n == some .cell)=true then (n,NameKind.cell) else (n,k))::(r.map λ(n,k)=>if (k == NameKind.free && env.scope.kind == .function && env.kindOf n == some .cell) then (n,NameKind.cell) else (n,k)))=some k':=h;rw[List.lookup_cons];by_cases a:(k == NameKind.free && env.scope.kind == .function && env.kindOf n == some .cell)=true
  ·rw[if_pos a,List.lookup_cons]at h'
   cases e:x == n with
   |true=>
    rw[e]at h';cases h';refine⟨k,rfl,.inr ⟨?_,rfl⟩⟩;rw[Bool.and_eq_true,Bool.and_eq_true]at a;exact eq_of_beq a.1.1
   |false=>
    rw[e]at h';exact xct h'
  ·rw[if_neg a,List.lookup_cons]at h'
   cases e:x == n with
   |true=>
    rw[e]at h';cases h';exact⟨_,rfl,.inl rfl⟩
   |false=>
    rw[e]at h';exact xct h'
theorem xd8 {env:Env} {x:Str} {k:NameKind}:∀{ns:List (Str×NameKind)},ns.lookup x=some k->
  ∃k',(ns.map λ(n,k)=>if (k == NameKind.free && env.scope.kind == .function && env.kindOf n == some .cell) then (n,NameKind.cell) else (n,k)).lookup x=some k'/\(k'=k\/(k=.free/\k'=.cell))
 |[],h=>by simp at h
 | (n,b)::r,h=>by
  show ∃k',List.lookup x ((if (b == NameKind.free && env.scope.kind == .function && env.kindOf n == some .cell)=true then (n,NameKind.cell) else (n,b))::(r.map λ(n,k)=>if (k == NameKind.free && env.scope.kind == .function && env.kindOf n == some .cell) then (n,NameKind.cell) else (n,k)))=some k'/\_;rw[List.lookup_cons]at h;by_cases a:(b == NameKind.free && env.scope.kind == .function && env.kindOf n == some .cell)=true
  ·rw[if_pos a,List.lookup_cons]
   cases e:x == n with
   |true=>
    rw[e]at h;cases h;refine⟨_,rfl,.inr ⟨?_,rfl⟩⟩;rw[Bool.and_eq_true,Bool.and_eq_true]at a;exact eq_of_beq a.1.1
   |false=>
    rw[e]at h;exact xd8 h
  ·rw[if_neg a,List.lookup_cons]
   cases e:x == n with
   |true=>
    rw[e]at h;cases h;exact⟨_,rfl,.inl rfl⟩
   |false=>
    rw[e]at h;exact xd8 h
abbrev Cap:=List (Option Nat)
def capt(ix:Cap)(σ:St):St:=ix.map λo=>(o.bind λj=>σ[j]?).join
def xp6(N N':List Str)(sc sc':Scope)(ix:Cap):Bool:=
 (ix.length == N'.length) && (sc'.kind == .function) &&
 (sc'.names.all λp=>p.2 != .cell && (p.2 != .local || sc'.names.lookup p.1 == some .local) && (p.2 != .free || (sc.names.lookup p.1 == some .cell || sc.names.lookup p.1 == some .free))) &&
 (List.range ix.length).all λk=>match ix[k]? with
  |some (some j)=>match N'[k]? with
   |some x=>N[j]? == some x && sc'.names.lookup x == some .free
   |none=>false
  |_=>true
structure CapOk(N N':List Str)(sc sc':Scope)(ix:Cap):Prop where
 len:ix.length=N'.length
 kind:sc'.kind=.function
 nocell:∀p∈sc'.names,p.2≠.cell
 loc:∀p∈sc'.names,p.2=.local->sc'.names.lookup p.1=some .local
 fre:∀p∈sc'.names,p.2=.free->sc.names.lookup p.1=some .cell\/sc.names.lookup p.1=some .free
 cap:∀(k j:Nat),ix[k]?=some (some j)->∃x,N'[k]?=some x/\N[j]?=some x/\sc'.names.lookup x=some .free
theorem xle{N g:List Str}{i a:Scope}{ix:Cap}(h:xp6 N g i a ix=true):CapOk N g i a ix:=by
 unfold xp6 at h;simp only[Bool.and_eq_true,List.all_eq_true,beq_iff_eq]at h;obtain⟨⟨⟨s,r⟩,f⟩,o⟩:=h;refine⟨s,r,λp b=>?_,λp b m=>?_,λp b n=>?_,λk j l=>?_⟩
 ·have:=(f p b).1.1
  simpa using this
 ·have:=(f p b).1.2
  rw[m]at this;simpa using this
 ·have:=(f p b).2
  rw[n]at this;simpa using this
 ·have c:k<ix.length:=(zES l).1
  have:=o k (List.mem_range.mpr c);rw[l]at this;simp only at this
  cases e:g[k]? with
  |none=>rw[e]at this;simp at this
  |some x=>
   rw[e]at this;simp only[Bool.and_eq_true,beq_iff_eq]at this;exact⟨x,rfl,this.1,this.2⟩
abbrev Cx.comp(X:Cx)(sc:Scope)(N':List Str)(C:Addr)(s₀:Shared)(H₀:Hp)(ex:List Addr):Cx:=
 {X with N:=N',s₀:=s₀,H₀:=H₀,env:=compEnvC sc (clOf X.env sc.names []) C X.env,outer:=X.stack,stack:=X.stack,ex:=ex,fn:=λ_=>false,pn:=[],xe:=λ_ _=>False}
def Ext(σ σ':St):Prop:=σ.length=σ'.length/\∀(i:Nat) v,σ[i]?=some (some v)->σ'[i]?=some (some v)
theorem xf0{σ:St}{i:Nat}{v:Option V}(h:σ[i]?=some none):Ext σ (σ.set i v):=by
 refine⟨by simp,λj w e=>?_⟩;by_cases a:i=j
 ·subst a;rw[h]at e;cases e
 ·rw[List.getElem?_set_ne a];exact e
def PTs(X:Cx)(ifs:List Expr)(t:TT):Prop:=
 ∀(pins:List (Addr×Obj)) (s:Shared) (σ:St) (H:Hp) (Q:Bool->Hp->Prop),Inv X pins σ H s->t σ H Q->
  wpAny (model X.prog X.w) X.A (forIn ifs true λc r=>if r=true then do let ok <- isTrue c X.env (eval c X.env);pure (ForInStep.yield ok) else pure (ForInStep.yield r)) (TP X pins σ Q) X.xe s
def tYes:TT:=λ_ H Q=>Q true H
theorem xbv{X:Cx}:PTs X [] tYes:=λ_ _ _ H _ I h=>wpAny_tests_nil ⟨H,I,h⟩
theorem xd9{X:Cx}{c:Expr}{t:TT}(h:PT X c t):PTs X [c] t:=λa s σ H Q I b=>wpAny_tests_one (h a s σ H Q I b)
def xf2(J:It)(ix:Cap)(g:TG)(tt:TT)(te:TE)(σ:St)(H1:Hp)(Q:VK):Prop:=∃W:Nat->Nat->List V->Hp->Prop,(∃m,W 0 m [] H1)/\∀i m ys H,W i m ys H->
 (J.stop i H/\∀D,H D=none->Q (.ref D) (upd H D (.lst ys))) ∨
 (J.go i H/\ys.length<sizeLine/\∀x H',J.yld i H x H'->g x (capt ix σ) H' λσ2 H2=>Ext (capt ix σ) σ2/\tt σ2 H2 λb H3=>
  if b=true then te σ2 H3 λy H4=>∃m',m'<m/\W (i+1) m' (ys++[y]) H4 else ∃m',m'<m/\W (i+1) m' ys H3)
def xs8(ix:Cap)(wi:TI)(g:TG)(tt:TT)(te:TE):TE:=λσ H Q=>wi σ H λJ H1=>xf2 J ix g tt te σ H1 Q
theorem HOk.track{P:Program}{w:World}{H:Hp}{h:Heap}{a:Addr}{o:HO}(x:HOk P w H h)(hn:H a=none)(new:ObjOk P w (upd H a o) h a o):HOk P w (upd H a o) h:=λb u e=>by
 by_cases f:b=a
 ·subst f;rw[ups]at e;cases e;exact new
 ·rw[xar f]at e
  exact(x b u e).stay (λc v _ q=>q) (λc q=>by rw[xar (neN q hn)];exact q) λc xs q=>by rw[xar (neN q hn)];exact q
theorem xd1 {prog:Program} {w:World} {A:Around} {R:Result->Shared->Prop} {s:Shared} {i a f:Expr} {g:List Expr} {b:Scope} {pos:Pos} {it acc:Value} {env:Env} (I:Nat->Shared->Prop)
  (j:∀ n s,I n s->wpAny (model prog w) A (pyNext it) (λr p=>match r with
   |none=>R (.ok .next) p
   | some v=>wpAny (model prog w) A (letOwnedTupleGo a it v) (λ_ l=>wpAny (model prog w) A (assign a env v) (λ_ C=>
     wpAny (model prog w) A (forIn g true λc r=>if r=true then do let ok <- isTrue c env (eval c env);pure (ForInStep.yield ok) else pure (ForInStep.yield r)) (λok o=>
      if ok=true then wpAny (model prog w) A (eval i env) (λx z=>
       wpAny (model prog w) A (call (.builtin "list.append") [acc,x]) (λ_ y=>∃m,m<n/\I m y) (notedBy (model prog w) A env λe s'=>R (.error e) s') z) (notedBy (model prog w) A env λe s'=>R (.error e) s') o
      else ∃m,m<n/\I m o) (notedBy (model prog w) A env λe s'=>R (.error e) s') C) (notedBy (model prog w) A env λe s'=>R (.error e) s') l) (notedBy (model prog w) A env λe s'=>R (.error e) s') p) (notedBy (model prog w) A env λe s'=>R (.error e) s') s)
  (n:Nat) (h:I n s) :
  codeAny (model prog w) A (.compLoop (.ListComp i [⟨a,f,g,0⟩] b pos) 0 it acc env) R s:=by
 refine codeAny_loop rfl I (λn s U=>?_) n h;show wpAny _ A ((compTurn (.ListComp i [⟨a,f,g,0⟩] b pos) 0 it acc env).onRaise (λx=>do noteFrame x env;theTreesLotGoes x)) _ _ s;refine wpAny_noted ?_;rw[compTurn_list];refine wpAny_bind (wpAny_standAt (wpAny_bind (wpAny_mono (j n s U) (λr p h₁=>?_) λ_ _ h'=>h')))
 cases r with
 |none=>exact wpAny_pure h₁
 | some v=>
  refine wpAny_bind (wpAny_mono h₁ (λ_ l u=>?_) λ_ _ h'=>h');refine wpAny_bind (wpAny_mono u (λ_ C O=>wpAny_bind (wpAny_mono O (λok o G=>?_) λ_ _ h'=>h')) λ_ _ h'=>h')
  cases ok with
  |false=>exact wpAny_pure ⟨rfl,G⟩
  |true=>
   exact wpAny_bind (wpAny_bind (wpAny_mono G (λx z M=>wpAny_bind (wpAny_mono M (λ_ y J=>wpAny_pure (wpAny_pure ⟨rfl,J⟩)) λ_ _ h'=>h')) λ_ _ h'=>h'))
section
variable {X:Cx}
theorem xgg{M:Model}{A:Around}{α:Type}{t:Sem α}{Q:α->Shared->Prop}{E:Value->Shared->Prop}{s:Shared}(h:wpAny M A t Q (λ_ _=>False) s):wpAny M A t Q E s:=wpAny_mono h (λ_ _ q=>q) λ_ _ z=>z.elim
theorem xgn {elt tg iter:Expr} {ifs:List Expr} {sc:Scope} {pos:Pos} {N':List Str} {ix:Cap} {g:TG} {tt:TT} {te:TE} {pins:List (Addr×Obj)} {σ:St} {s:Shared} {Q:VK} {RR:Value->Addr->Result->Shared->Prop} {E:Value->Shared->Prop}
  {itv:Value} (hc:X.calm=true) (ok:CapOk X.N N' X.env.scope sc ix)
  (hg:∀C s₀ H₀ ex,PG (X.comp sc N' C s₀ H₀ ex) tg g) (ht:∀C s₀ H₀ ex,PTs (X.comp sc N' C s₀ H₀ ex) ifs tt) (he:∀C s₀ H₀ ex,PE (X.comp sc N' C s₀ H₀ ex) elt te)
  (hi:PIE X pins σ tg (λJ H1=>xf2 J ix g tt te σ H1 Q) itv s)
  (fin:∀(D C:Addr) (s':Shared) (H':Hp) (m:Str->Option Value),Inv X pins σ H' s'->Q (.ref D) H'->s'.heap.Ns C m->H' C=none->C≠X.env.locals->X.s₀.heap.objs.size<=C->(∀x c,X.env.cells.lookup x=some c->c≠C)->(∀p∈X.pn++pins,p.1≠C)->
   RR (.ref D) C (.ok .next) s') :
  wpAny (model X.prog X.w) X.A (newList []) (λacc s₃=>wpAny (model X.prog X.w) X.A (newFunctionEnv sc X.env.globals (clOf X.env sc.names []) [] X.env.qual none .none (some X.env)) (λcenv s₄=>
   codeAny (model X.prog X.w) X.A (.compStart (.ListComp elt [⟨tg,iter,ifs,0⟩] sc pos) 0 itv acc {cenv with scope:=relabel sc X.env}) (RR acc cenv.locals) s₄) E s₃) E s:=by
 obtain⟨it,fp,tn,J,H2,rfl,I2,T,st2,f2,W,⟨m0,w0⟩,turn⟩:=hi;refine wpAny_newObj_type (wpAny_newFunctionEnv ok.nocell (by intro y hy;simp at hy) (λh₁ hns₁ hsb₁=>?_) ok.kind);dsimp only at hns₁ hsb₁⊢;generalize hHD:s.heap.push {cls:=.type "list",dict:=none,data:=.seq ([]:List Value).toArray}=hD at hns₁ hsb₁⊢;have hCs:hD.objs.size=s.heap.objs.size+1:=by rw[<- hHD,Heap.size_push]
 have upC:s.heap.objs.size<hD.objs.size:=by rw[hCs];exact Nat.lt_succ_self _
 have hDC:s.heap.objs.size≠hD.objs.size:=by rw[hCs];exact Nat.ne_of_lt (Nat.lt_succ_self _)
 have below:∀b o,s.heap.get? b=some o->b≠hD.objs.size/\b≠s.heap.objs.size:=λb o e=>by
  have:=Heap.lt_size e;exact⟨Nat.ne_of_lt (by rw[hCs];exact Nat.lt_succ_of_lt this),Nat.ne_of_lt this⟩
 have old:∀b o,s.heap.get? b=some o->h₁.get? b=some o:=λb o e=>hsb₁.extBut b o (below b o e).1 (zPO _ (hHD ▸ zPO _ e));have hacc:h₁.get? s.heap.objs.size=some {cls:=.type "list",data:=.seq ([]:List Value).toArray 0}:=hsb₁.extBut _ _ hDC (zPO _ (hHD ▸ Heap.get?_push_size _ rfl));have fpo:∀b∈fp,b<s.heap.objs.size:=λb hb=>let ⟨o,e,_⟩:=T.obj _ _ st2 b hb;Heap.lt_size e;have cellX:∀x c,(clOf X.env sc.names []).lookup x=some c->X.env.cells.lookup x=some c:=λx c e=>xi2 (λp hp=>absurd hp (by simp)) e;have cellLt:∀x c,X.env.cells.lookup x=some c->c<s.heap.objs.size:=λx c e=>let ⟨v,z⟩:=I2.cell x c e;z.lt
 have hasC:∀x,(x,NameKind.free)∈sc.names->∃c,(clOf X.env sc.names []).lookup x=some c:=λx hx=>by
  have h1:=I2.ok.has x (ok.fre (x,.free) hx rfl);exact xd3 (xlc (.inr ⟨hx,h1⟩))
 have okX:(X.comp sc N' hD.objs.size s H2 fp).Ok:=by
  refine⟨I2.ok.mod,ok.kind,I2.ok.glob,I2.ok.blt,?_,?_,?_,?_,I2.ok.hd,I2.ok.frames,.inl rfl,?_,I2.bs,Nat.le_trans I2.ok.bsz I2.sz,?_,?_,I2.stack,I2.stkFree⟩
  ·exact Nat.le_of_lt upC
  ·intro x y c h1 h2
   exact I2.ok.inj x y c (cellX x c h1) (cellX y c h2)
  ·intro x hx
   have hx':(relabel sc X.env).names.lookup x=some .cell\/(relabel sc X.env).names.lookup x=some .free:=hx
   have:∃k,sc.names.lookup x=some k/\(k=.free\/k=.cell):=by
    rcases hx' with h |h
    ·obtain⟨k,e,z⟩:=xct h
     rcases z with z |⟨z,_⟩
     ·exact⟨k,e,.inr z.symm⟩
     ·exact⟨k,e,.inl z⟩
    ·obtain⟨k,e,z⟩:=xct h
     rcases z with z |⟨_,z⟩
     ·exact⟨k,e,.inl z.symm⟩
     ·cases z
   obtain⟨k,e,z⟩:=this;rcases z with rfl |rfl
   ·exact hasC x (PySem.mem_of_lookup e)
   ·exact absurd rfl (ok.nocell _ (PySem.mem_of_lookup e))
  ·intro x c h _
   cases h
  ·intro b hb
   refine⟨?_,λx c e=>(f2 b hb).2.2.2.2.1 x c (cellX x c e)⟩;exact Nat.ne_of_lt (by rw[hCs];exact Nat.lt_succ_of_lt (fpo b hb))
  ·intro b o e hb
   rcases(f2 b hb).2.2.2.1 with z |z
   ·exact I2.ok.noex b o e z
   ·exact absurd (Nat.lt_of_lt_of_le (Heap.lt_size (I2.ok.bs b o e).1) z) (Nat.lt_irrefl _)
  ·intro b hb z
   rcases zMC (I2.stkSub b z) with z |z
   ·exact(f2 b hb).2.1 z
   ·exact(f2 b hb).2.2.1 z
 have hnD:H2 s.heap.objs.size=none:=I2.hok.fresh (Nat.le_refl _);have hnC:H2 hD.objs.size=none:=I2.hok.fresh (Nat.le_of_lt upC)
 have nofsD:∀a,s.heap.objs.size<=a->a ∉frs X.stack:=λa ha z=>by
  rcases zMC (I2.stkSub a z) with z |z
  ·exact absurd (Nat.lt_of_lt_of_le I2.lt ha) (by rw[z];exact Nat.lt_irrefl _)
  ·exact I2.nofs ha z
 have xex:Inv (X.comp sc N' hD.objs.size s H2 fp) [(s.heap.objs.size,{cls:=.type "list",data:=.seq ([]:List Value).toArray 0})] (capt ix σ) H2 {s with heap:=h₁,toks:=s.toks+([]:List (Str×Value)).length}:=by
  refine⟨okX,rfl,I2.bare,Un.kept old,⟨_,hns₁,?_⟩,λx c e=>?_,hnC,λx c e=>I2.freeC x c (cellX x c e),λp hp=>?_,I2.hok.kept old,?_⟩
  ·intro i x v hN hv hvis
   have hl:i<ix.length:=by rw[ok.len];exact(zES hN).1
   have hv':(ix.map λo=>(o.bind λj=>σ[j]?).join)[i]?=some (some v):=hv;rw[zGM,zGA hl]at hv';have hv'':((ix[i].bind λj=>σ[j]?).join)=some v:=Option.some.inj hv'
   cases ej:ix[i] with
   |none=>rw[ej]at hv'';cases hv''
   | some j=>
    rw[ej]at hv''
    have hσ:σ[j]?=some (some v):=by
     have z:(σ[j]?).join=some v:=hv''
     cases q:σ[j]? with
     |none=>rw[q]at z;cases z
     |some o=>rw[q]at z;exact congrArg some z
    obtain⟨x',e1,e2,e3⟩:=ok.cap i j (by rw[zGA hl,ej]);rw[show N'[i]?=some x from hN]at e1;cases e1;have hk:=ok.fre (x,.free) (PySem.mem_of_lookup e3) rfl;obtain⟨m,hm,hl'⟩:=I2.loc;obtain⟨u,ru,lk⟩:=hl' j x v e2 hσ (hk.elim (λz=>.inr (.inl z)) λz=>.inr (.inr z));refine⟨u,ru,.inr ⟨?_,?_⟩⟩
    ·show(relabel sc X.env).names.lookup x=some .cell\/(relabel sc X.env).names.lookup x=some .free
     obtain⟨k',q1,q2⟩:=xd8 (env:=X.env) e3;rcases q2 with q2 |⟨_,q2⟩
     ·exact .inr (q1.trans (congrArg some q2))
     ·exact .inl (q1.trans (congrArg some q2))
    ·obtain⟨c,hc'⟩:=hasC x (PySem.mem_of_lookup e3)
     refine⟨c,hc',?_⟩;rcases lk with⟨z,_⟩ |⟨_,c',ec,⟨o,ho,hd⟩⟩
     ·have z':X.env.scope.names.lookup x=some .local:=z
      rcases hk with hk |hk
      ·rw[z']at hk;cases hk
      ·rw[z']at hk;cases hk
     ·rw[cellX x c hc']at ec
      cases ec;exact⟨o,old _ _ ho,hd⟩
  ·obtain⟨v,o,ho,hd⟩:=I2.cell x c (cellX x c e)
   exact⟨v,o,old _ _ ho,hd⟩
  ·have e:p=(s.heap.objs.size,{cls:=.type "list",data:=.seq ([]:List Value).toArray 0}):=by simpa using hp
   subst e;exact⟨hacc,hnD,hDC,nofsD _ (Nat.le_refl _),λv z=>by cases z⟩
  ·show(ix.map _).length=N'.length
   rw[zLM];exact ok.len
 have st1:tn 0 h₁:=T.keep _ _ _ st2 λb hb o e=>old b o e
 have loop:∀s₃:Shared,s₃={s with heap:=h₁,toks:=s.toks+([]:List (Str×Value)).length}->
   codeAny (model X.prog X.w) X.A (.compLoop (.ListComp elt [⟨tg,iter,ifs,0⟩] sc pos) 0 (.ref it) (.ref s.heap.objs.size) (compEnvC sc (clOf X.env sc.names []) hD.objs.size X.env))
    (RR (.ref s.heap.objs.size) hD.objs.size) s₃:=by
  rintro s₃ rfl
  have fpI:∀{H':Hp} {o:Obj},(∀b∈fp,H' b=none)->∀b∈fp,FpOk (X.comp sc N' hD.objs.size s H2 fp) [(s.heap.objs.size,o)] H' b:=λ{H' o} hn b hb=>by
   have hlt:=fpo b hb;refine⟨hn b hb,(okX.exf b hb).1,okX.exfs b hb,.inl hb,(okX.exf b hb).2,λp hp=>?_⟩;have e:p=(s.heap.objs.size,o):=by simpa using hp
   subst e;exact Nat.ne_of_gt hlt
  refine xd1 (λn s'=>∃i ys its k H',Inv (X.comp sc N' hD.objs.size s H2 fp) [(s.heap.objs.size,{cls:=.type "list",data:=.seq its.toArray k})] (capt ix σ) H' s'/\Vals ys its/\ys.length<=sizeLine/\tn i s'.heap/\(∀b∈fp,H' b=none)/\W i n ys H')
   ?_ m0 ⟨0,[],[],0,H2,xex,.nil,Nat.zero_le _,st1,λb hb=>(f2 b hb).1,w0⟩
  rintro n s4 ⟨i,ys,its,k,H4,I4,r4,z4,st4,fr4,w4⟩;rcases turn i n ys H4 w4 with⟨stop,q⟩ |⟨go,hz,step⟩
  ·refine xgg (thn (T.done (X.comp sc N' hD.objs.size s H2 fp) rfl rfl rfl hc i _ s4 _ H4 (λ_ _=>False) I4 (fpI fr4) st4 stop) λr s5 ⟨hr,I5⟩=>?_)
   subst hr;show RR (.ref s.heap.objs.size) hD.objs.size (.ok .next) s5;obtain⟨pD,nD,_,_,_⟩:=I5.pin (s.heap.objs.size,{cls:=.type "list",data:=.seq its.toArray k}) (by simp);obtain⟨m5,hm5,_⟩:=I5.loc;have okD:HOk X.prog X.w (upd H4 s.heap.objs.size (.lst ys)) s5.heap:=I5.hok.track nD ⟨z4,its,k,r4,pD⟩
   have un:Un (frs X.stack) fp H2 (upd H4 s.heap.objs.size (.lst ys)) s.heap s5.heap:=by
    have B:Un (frs X.stack) fp H2 H4 s.heap s5.heap:=I5.base;have ne:∀b u,H2 b=some u->b≠s.heap.objs.size:=λb u e=>neN e hnD;refine⟨B.keep,B.slot,λb o e n hb=>?_,B.there,λb xs e=>?_,λb o u e=>?_,λb ps e=>?_⟩
    ·rw[xar (below b o e).2];exact B.free b o e n hb
    ·rw[xar (ne b _ e)];exact B.tups b xs e
    ·rw[xar (ne b _ e)];exact B.frzs b o u e
    ·rw[xar (ne b _ e)];exact B.tbls b ps e
   have IX:Inv X pins σ (upd H4 s.heap.objs.size (.lst ys)) s5:=I2.call' (ch:=fp) I5.os un okD I5.bare λb hb=>⟨(f2 b hb).2.2.2.1,(f2 b hb).2.1,(f2 b hb).2.2.2.2.1,(f2 b hb).2.2.2.2.2⟩;refine fin _ _ s5 _ m5 IX (q _ nD) hm5 ?_ (Nat.ne_of_gt (Nat.lt_trans I2.lt upC)) (Nat.le_of_lt (Nat.lt_of_le_of_lt I2.sz upC)) (λx c e=>Nat.ne_of_lt (Nat.lt_trans (cellLt x c e) upC)) (λp hp=>Nat.ne_of_lt (Nat.lt_trans (Heap.lt_size (I2.pin p hp).1) upC));rw[xar (Ne.symm hDC)];exact I5.free
  ·refine xgg (thn (T.item (X.comp sc N' hD.objs.size s H2 fp) rfl rfl rfl hc i _ s4 _ H4 (λ_ _=>False) I4 (fpI fr4) st4 go) λr s5 ⟨u,hr,h5⟩=>?_)
   subst hr;refine xgg (thn h5 λ_ s6 ⟨x,H6,I6,r6,y6,st6,fr6⟩=>?_);have I6':=I6.pinned (fpI fr6) (T.obj _ _ st6);refine xgg (thn (hg _ _ _ _ _ s6 _ H6 x u _ I6' r6 (step x H6 y6)) λ_ s7 ⟨σ7,H7,I7,x7,q7⟩=>?_);refine xgg (thn (ht _ _ _ _ _ s7 σ7 H7 _ I7 q7) λb s8 ⟨H8,I8,q8⟩=>?_)
   have back:∀{s9:Shared} {H9:Hp},Inv (X.comp sc N' hD.objs.size s H2 fp) ([(s.heap.objs.size,{cls:=.type "list",data:=.seq its.toArray k})]++xh7 fp s6.heap) σ7 H9 s9->
     Inv (X.comp sc N' hD.objs.size s H2 fp) [(s.heap.objs.size,{cls:=.type "list",data:=.seq its.toArray k})] (capt ix σ) H9 s9/\tn (i+1) s9.heap/\(∀b∈fp,H9 b=none):=λ{s9 H9} J9=>by
    refine⟨(J9.unpinned).weak x7.1 x7.2,T.keep _ _ _ st6 λb hb o e=>(J9.pin (b,o) (List.mem_append_right _ (List.mem_append_right _ (xdu hb e)))).1,λb hb=>?_⟩;obtain⟨o,e,d⟩:=T.obj _ _ st6 b hb;exact(J9.pin (b,o) (List.mem_append_right _ (List.mem_append_right _ (xdu hb e)))).2.1
   cases b with
   |false=>
    rw[if_neg Bool.false_ne_true]at q8⊢;obtain⟨m',hm,w8⟩:=q8;obtain⟨J8,st8,fr8⟩:=back I8;exact⟨m',hm,i+1,ys,its,k,H8,J8,r4,z4,st8,fr8,w8⟩
   | true=>
    rw[if_pos rfl]at q8⊢;refine xgg (thn (he _ _ _ _ _ s8 σ7 H8 _ I8 q8) λy s9 ⟨v9,H9,I9,r9,q9⟩=>?_);obtain⟨m',hm,w9⟩:=q9;obtain⟨J9,st9,fr9⟩:=back I9;obtain⟨pD,nD,neC,nf,_⟩:=J9.pin (s.heap.objs.size,{cls:=.type "list",data:=.seq its.toArray k}) (by simp);have hlen:=r4.length;refine call_meets F.slot_list_append ⟨_,pD,rfl⟩ F.entry_list_append (F.args_list_append_2 _ _) (PySem.list_append s.heap.objs.size its.toArray k y (by rw[List.size_toArray];omega)) ⟨pD,?_⟩;have q:=PySem.IsL.update pD (·.push y);have ep:its.toArray.push y=(its++[y]).toArray:=by simp
    dsimp only at q;rw[ep]at q;obtain⟨k',q⟩:∃k',(s9.heap.update s.heap.objs.size (Obj.mapSeq (·.push y))).get? s.heap.objs.size=some {cls:=.type "list",data:=.seq (its++[y]).toArray k'}:=⟨_,q⟩;have J0:Inv (X.comp sc N' hD.objs.size s H2 fp) [] (capt ix σ) H9 s9:=J9.pins_of λp hp=>absurd hp (by simp)
    have J1:Inv (X.comp sc N' hD.objs.size s H2 fp) [] (capt ix σ) H9 {s9 with heap:=s9.heap.update s.heap.objs.size (Obj.mapSeq (·.push y))}:=
     J0.turned (it:=s.heap.objs.size) (t':=s9.toks) (λb o hb e=>(Heap.get?_update_other _ _ (Ne.symm hb)).trans e) nD neC (.inr (Nat.le_refl _)) (λx c e=>Nat.ne_of_lt (cellLt x c (cellX x c e))) λp hp=>absurd hp (by simp)
    refine⟨m',hm,i+1,ys++[v9],its++[y],k',H9,J1.pins_of λp hp=>?_,r4.append (.cons r9 .nil),?_,T.keep _ _ _ st9 λb hb o e=>(Heap.get?_update_other _ _ ?_).trans e,fr9,w9⟩
    ·have e:p=_:=zMO hp
     subst e;exact⟨q,nD,neC,nf,λv z=>by cases z⟩
    ·rw[zLA,List.length_singleton];omega
    ·exact Nat.ne_of_gt (fpo b hb)
 exact codeAny_compStart_list (loop _ rfl) (T.self _ 0 _ _ _ st1 (loop _ rfl))
theorem Inv.letGo {pins:List (Addr×Obj)} {σ:St} {H:Hp} {s:Shared} {C:Addr} {h':Heap} (I:Inv X pins σ H s) (hs:Heap.SameBut C s.heap h') (h0:H C=none) (h1:C≠X.env.locals) (h2:X.s₀.heap.objs.size<=C) (h3:∀x c,X.env.cells.lookup x=some c->c≠C)
  (h4:∀p∈X.pn++pins,p.1≠C):Inv X pins σ H {s with heap:=h'}:=I.turned (t':=s.toks) (λb o hb e=>(hs.2 b hb).trans e) h0 h1 (.inr h2) h3 h4
theorem xbo {elt tg iter:Expr} {ifs:List Expr} {sc:Scope} {pos:Pos} (N':List Str) (ix:Cap) {wi:TI} {g:TG} {tt:TT} {te:TE} (hc:X.calm=true) (hok:xp6 X.N N' X.env.scope sc ix=true)
  (hi:PI X tg iter wi) (hg:∀C s₀ H₀ ex,PG (X.comp sc N' C s₀ H₀ ex) tg g) (ht:∀C s₀ H₀ ex,PTs (X.comp sc N' C s₀ H₀ ex) ifs tt) (he:∀C s₀ H₀ ex,PE (X.comp sc N' C s₀ H₀ ex) elt te)
  (hs:∀x,foldedSetIterable iter X.env x=pure x:=by intro _;rfl):PE X (.ListComp elt [⟨tg,iter,ifs,0⟩] sc pos) (xs8 ix wi g tt te):=by
 intro pins s σ H Q I h;have ok:=xle hok;rw[eval_ListComp];refine wpAny_comprehension_free (use:=none) rfl hs (xej λp hp hk=>I.ok.has p.1 (ok.fre p hp hk)) ok.kind ok.loc (thn (hi pins s σ H _ I h) λv s1 h1=>thn h1 λitv s2 h2=>?_);refine xgn (RR:=λacc C=>compPost (model X.prog X.w) X.A X.xe none (EP X pins σ Q) acc C) hc ok hg ht he h2 ?_;intro D C s' H' m I' q hm h0 h1 h2 h3 h4;exact⟨m,hm,λh' hsb=>⟨.ref D,H',I'.letGo hsb h0 h1 h2 h3 h4,rfl,q⟩⟩
theorem xc0 {elt tg iter:Expr} {ifs:List Expr} {sc:Scope} {pos spos py:Pos} {i:Nat} {y:Str} (N':List Str) (ix:Cap) {wi:TI} {g:TG} {tt:TT} {te:TE} (hc:X.calm=true) (hok:xp6 X.N N' X.env.scope sc ix=true)
  (hN:X.N.Nodup) (hy:X.N[i]?=some y) (hx:Loc X.env.scope y)
  (hi:PI X tg iter wi) (hg:∀C s₀ H₀ ex,PG (X.comp sc N' C s₀ H₀ ex) tg g) (ht:∀C s₀ H₀ ex,PTs (X.comp sc N' C s₀ H₀ ex) ifs tt) (he:∀C s₀ H₀ ex,PE (X.comp sc N' C s₀ H₀ ex) elt te)
  (hs:∀x,foldedSetIterable iter X.env x=pure x:=by intro _;rfl) (hsw:swapsWith (.ListComp elt [⟨tg,iter,ifs,0⟩] sc pos) (some (.Name y py)) spos.line X.env=pure true:=by rfl)
  (hf:X.fn y=true\/X.env.scope.names.lookup y=some .local:=by first |exact .inl rfl |exact .inr rfl |assumption) :
  PS X (.Assign [.Name y py] (.ListComp elt [⟨tg,iter,ifs,0⟩] sc pos) spos) (tAsg (xs8 ix wi g tt te) (xfy i)):=by
 intro pins s σ H D I h;have ok:=xle hok;rw[exec_Assign_Name_used _ _ _ _ hsw];refine wpAny_bind (wpAny_standAt (wpAny_bind ?_));show wpAny _ X.A (do let _ <- comprehension (.ListComp elt [⟨tg,iter,ifs,0⟩] sc pos) sc X.env _ (newList []) false (eval iter X.env) (some (assign (.Name y py) X.env))) _ _ s
 refine wpAny_bind (wpAny_mono (wpAny_comprehension_free (use:=some (assign (.Name y py) X.env)) (Q:=λ_ s'=>SP X pins D .next s') rfl hs (xej λp hp hk=>I.ok.has p.1 (ok.fre p hp hk)) ok.kind ok.loc
  (thn (hi pins s σ H _ I h) λv s1 h1=>thn h1 λitv s2 h2=>?_)) (λ_ s' hq=>wpAny_pure (wpAny_pure hq)) λ_ _ e=>e)
 refine xgn (Q:=λx H1=>xfy i x σ H1 D.nx) (RR:=λacc C=>compPost (model X.prog X.w) X.A X.xe (some (assign (.Name y py) X.env)) (λ_ s'=>SP X pins D .next s') acc C) hc ok hg ht he h2 ?_;intro Dl C s' H' m I' q hm h0 h1 h2 h3 h4;refine wpAny_assign_Name (xhq I' hN hy hx (v:=.ref Dl) rfl (λs3 I3 sb=>?_) hf);obtain⟨a,hsb,ha⟩:=sb
 have hne:C≠a:=by
  rcases ha with e |e
  ·rw[e];exact h1
  ·exact Ne.symm (h3 y a e)
 exact⟨m,hm.sameBut hsb hne,λh' hs'=>⟨_,H',I3.letGo hs' h0 h1 h2 h3 h4,q⟩⟩
end
section
variable {ix:Cap}{tt:TT}{te:TE}{g:TG}{σ:St}{H:Hp}{Q:VK}
def Nxt(Pv:Nat->List V->Hp->Prop)(n i:Nat)(ys:List V):VK:=λy H2=>∃m',m'<n-i/\m'=n-(i+1)/\i+1<=n/\(ys++[y]).length=i+1/\Pv (i+1) (ys++[y]) H2
theorem nxt{a:Nat->List V->Hp->Prop}{n i:Nat}{ys:List V}{y:V}{b:Hp}(hi:i<n)(c:ys.length=i)(h:a (i+1) (ys++[y]) b):Nxt a n i ys y b:=
 ⟨n-(i+1),by omega,rfl,hi,by rw[zLA,List.length_singleton,c],h⟩
theorem xdb {lo:Int} {n j:Nat} (Pv:Nat->List V->Hp->Prop) (hj:(capt ix σ)[j]?=some none) (h0:Pv 0 [] H) (hn:n<sizeLine)
  (hs:∀i ys H,i<n->ys.length=i->Pv i ys H->te ((capt ix σ).set j (some (.int (lo+i)))) H (Nxt Pv n i ys))
  (hd:∀ys H,ys.length=n->Pv n ys H->∀D,H D=none->Q (.ref D) (upd H D (.lst ys))):xf2 (Itr lo n) ix (xfy j) tYes te σ H Q:=by
 refine⟨λi m ys H=>m=n-i/\i<=n/\ys.length=i/\Pv i ys H,⟨n,by simp,Nat.zero_le _,rfl,h0⟩,?_⟩;rintro i m ys H ⟨rfl,hi,hl,p⟩;by_cases hlt:i<n
 ·refine .inr ⟨hlt,by omega,λx H' y=>?_⟩
  obtain⟨e,y⟩:=y;subst e y;refine⟨xf0 hj,?_⟩;unfold tYes;dsimp only;rw[if_pos rfl];exact hs i ys _ hlt hl p
 ·have e:i=n:=by omega
  subst e;exact .inl ⟨Nat.le_refl _,hd ys H hl p⟩
theorem xi1 {K:Fg} {a:Addr} {xs:List V} {j:Nat} (Pv:Nat->List V->Hp->Prop) (hj:(capt ix σ)[j]?=some none) (h0:Pv 0 [] H) (hn:xs.length<sizeLine) (hl':∀i ys H,i<=xs.length->Pv i ys H->SqL K H a xs)
  (hs:∀i x ys H,xs[i]?=some x->ys.length=i->Pv i ys H->te ((capt ix σ).set j (some x)) H (Nxt Pv xs.length i ys))
  (hd:∀ys H,ys.length=xs.length->Pv xs.length ys H->∀D,H D=none->Q (.ref D) (upd H D (.lst ys))):xf2 (Itl K a) ix (xfy j) tYes te σ H Q:=by
 refine⟨λi m ys H=>m=xs.length-i/\i<=xs.length/\ys.length=i/\Pv i ys H,⟨xs.length,by simp,Nat.zero_le _,rfl,h0⟩,?_⟩;rintro i m ys H ⟨rfl,hi,hl,p⟩;have q:=hl' i ys H hi p;by_cases hlt:i<xs.length
 ·refine .inr ⟨⟨xs,xs[i],q,by simp[hlt]⟩,by omega,λv H' y=>?_⟩
  obtain⟨e,y⟩:=y;subst e;refine⟨xf0 hj,?_⟩;unfold tYes;dsimp only;rw[if_pos rfl];exact hs i v ys _ (y xs q) hl p
 ·have e:i=xs.length:=by omega
  subst e;exact .inl ⟨⟨xs,q,Nat.le_refl _⟩,hd ys H hl p⟩
theorem xfe {K:Fg} {a:Addr} {xs:List V} {j:Nat} (b:Nat->List V->Hp->Prop) (h:(capt ix σ)[j]?=some none) (h0:b 0 [] H) (hn:xs.length<sizeLine) (f:∀i ys H,i<=xs.length->b i ys H->SqT K H a xs)
  (hs:∀i x ys H,xs[i]?=some x->ys.length=i->b i ys H->te ((capt ix σ).set j (some x)) H (Nxt b xs.length i ys))
  (hd:∀ys H,ys.length=xs.length->b xs.length ys H->∀D,H D=none->Q (.ref D) (upd H D (.lst ys))):xf2 (Itt K a) ix (xfy j) tYes te σ H Q:=by
 refine⟨λi m ys H=>m=xs.length-i/\i<=xs.length/\ys.length=i/\b i ys H,⟨xs.length,by simp,Nat.zero_le _,rfl,h0⟩,?_⟩;rintro i m ys H ⟨rfl,hi,g,p⟩;have q:=f i ys H hi p;by_cases c:i<xs.length
 ·refine .inr ⟨⟨xs,xs[i],q,by simp[c]⟩,by omega,λv l y=>?_⟩
  obtain⟨e,y⟩:=y;subst e;refine⟨xf0 h,?_⟩;unfold tYes;dsimp only;rw[if_pos rfl];exact hs i v ys _ (y xs q) g p
 ·have e:i=xs.length:=by omega
  subst e;exact .inl ⟨⟨xs,q,Nat.le_refl _⟩,hd ys H g p⟩
end
section
variable {X:Cx}
def xvf(i j:Int):Prop:=0<j/\j<2 ^ 64
theorem xb3:OpR X (binaryOp .FloorDiv) (rI xvf λi j=>.int (i / j)):=opI λi j _ _ _ _ _ a q=>by
 have f:(0:Int)<j:=a.1;have e:j<2 ^ 64:=a.2;refine floordiv_int (by omega) (by rw[Int.fdiv_eq_ediv_of_nonneg i (by omega)];exact q) (.inl (PyProof.noPylong_of_log2 ?_));have b:j.natAbs<2 ^ 64:=by omega
 have h0:j.natAbs≠0:=by omega
 have c:j.natAbs.log2<64:=(Nat.log2_lt h0).mpr b;omega
theorem xll{ys:List Str}:∀{us:List Value},Vals (ys.map V.str) us->StrsAre us ys:=by
 induction ys with
 |nil=>intro us r;rw[List.map_nil]at r;cases r;exact .nil
 | cons n ns c=>
  intro us r;rw[List.map_cons]at r
  cases r with
  |cons b a=>
   obtain⟨t,e⟩:=b;subst e;exact .cons n t (c a)
def xuz(K:Fg):V->List V->Hp->VK->Prop:=λx vs H Q=>∃(sep:Str) (p:Addr) (ys:List Str),x=.str sep/\vs=[.ref p]/\SqL K H p (ys.map V.str)/\(ys.map (·.length)).sum+ys.length*sep.length<=16777216/\Q (.str (Txt.join sep ys)) H
theorem xsb:MtR X "str.join" (xuz X.K):=by
 intro a s σ H x vs v us Q I c e h;obtain⟨b,p,ys,rfl,rfl,g,hz,q⟩:=h;obtain⟨t,rfl⟩:=c;obtain⟨u,rfl,f⟩:=e.one;cases f;obtain⟨its,r,pl,_⟩:=I.list g;exact join_list pl.isList (by simpa using xll r) hz λt' k=>⟨.str _,H,I.tok k,⟨t',rfl⟩,q⟩
def rSlS:V->Option Int->Option Int->Hp->VK->Prop:=λx lo hi H Q=>∃z:Str,x=.str z/\z.length<=sizeLine/\Q (.str (Txt.slice z lo hi)) H
theorem xqj:SlR X rSlS:=by
 intro f s σ H x v G C y hi sl Q I w hs pl r h;obtain⟨z,rfl,hz,q⟩:=h;obtain⟨t,rfl⟩:=w;refine⟨"str",_,F.slot_str_getitem.lookup,typeIs_str _ _ _,?_⟩
 have m:∀(o:Str),o=Txt.slice z y hi->o.length<=sizeLine/\∀t' k,EP X f σ Q (.str o t') {s with toks:=k}:=λo e=>by
  subst e;exact⟨Nat.le_trans (Txt.slice_le z _ _) hz,λt' k=>⟨.str _,H,I.tok k,⟨t',rfl⟩,q⟩⟩
 obtain⟨g,a,c,b⟩:=hs
 cases pl with
 |none=>
  cases r with
  |none=>exact wpAny_getItem_str_slice (l:=none) (u:=none) (st:=none) ⟨g,a,c,b⟩ rfl (post_val_or_str (m _ rfl))
  |int j n=>exact wpAny_getItem_str_slice (l:=none) (u:=some (j,n)) (st:=none) ⟨g,a,c,b⟩ rfl (post_val_or_str (m _ rfl))
 |int i p=>
  cases r with
  |none=>exact wpAny_getItem_str_slice (l:=some (i,p)) (u:=none) (st:=none) ⟨g,a,c,b⟩ rfl (post_val_or_str (m _ rfl))
  |int j n=>exact wpAny_getItem_str_slice (l:=some (i,p)) (u:=some (j,n)) (st:=none) ⟨g,a,c,b⟩ rfl (post_val_or_str (m _ rfl))
theorem xkd:xd2 X (.builtin "isinstance") (λxs H Q=>∃x y c t b,xs=[x,y]/\(∀u,RelV y u->u=c)/\TyOf X.K H x t/\PySem.W.kitOne X.K t c=some b/\Q (.bl b) H):=by
 intro a s σ H xs us Q I r h;obtain⟨x,y,c,t,b,rfl,l,f,e,q⟩:=h;obtain⟨u,v,rfl,j,i⟩:=r.two;obtain rfl:=l v i;exact xn2 I j f e λg=>⟨.bl b,H,I.tok g,rfl,q⟩
def eqVs:List V->List V->Bool
 |[],[]=>true
 |x::xs,y::ys=>eqV x y && eqVs xs ys
 |_,_=>false
theorem xk8:∀{xs ys:List V},xs.length≠ys.length->eqVs xs ys=false
 |[],[],h=>absurd rfl h
 |[],_::_,_=>rfl
 |_::_,[],_=>rfl
 |x::xs,y::ys,h=>by
  show(eqV x y && eqVs xs ys)=false;rw[xk8 (xs:=xs) (ys:=ys) (by simpa using h),Bool.and_false]
theorem xgm:∀{xs ys:List V},xs.length=ys.length->(List.range xs.length).all (λi=>eqV (xs.getD i .non) (ys.getD i .non))=eqVs xs ys
 |[],[],_=>rfl
 |[],_::_,h=>by cases h
 |_::_,[],h=>by cases h
 |x::xs,y::ys,h=>by
  rw[List.length_cons,List.range_succ_eq_map,List.all_cons,List.all_map];show(eqV x y && (List.range xs.length).all (λi=>eqV (xs.getD i .non) (ys.getD i .non)))=(eqV x y && eqVs xs ys);rw[xgm (xs:=xs) (ys:=ys) (by simpa using h)]
def rEqL(K:Fg):R2:=λx y H Q=>∃a b xs ys,x=.ref a/\y=.ref b/\SqL K H a xs/\SqL K H b ys/\xs.all xe0=true/\ys.all xe0=true/\Q (.bl (eqVs xs ys)) H
theorem xtu(r:X.A.units<cLine):OpR X (compareOp .Eq) (rEqL X.K):=by
 intro n s σ H x y v u Q I J G h;obtain⟨a,b,xs,ys,rfl,rfl,Z,Y,fa,fb,q⟩:=h;cases J;cases G;obtain⟨its,m,p,_⟩:=I.list Z;obtain⟨c,l,o,_⟩:=I.list Y;have U:=m.length;have l2:=l.length;by_cases w:xs.length=ys.length
 ·refine SeqAt.eq_listAt (e:=λi=>eqV (xs.getD i .non) (ys.getD i .non)) p.isList o.isList (by simp only[List.size_toArray];omega) r (λj h1 h2=>?_) ⟨.bl _,H,I,rfl,?_⟩
  ·have g:j<xs.length:=by simp only[List.size_toArray]at h1;omega
   have f:j<ys.length:=by simp only[List.size_toArray]at h2;omega
   obtain⟨C,e1,O⟩:=m.get (i:=j) (x:=xs[j]) (zGA g);obtain⟨z,e2,M⟩:=l.get (i:=j) (x:=ys[j]) (zGA f)
   have g1:its.toArray[j]=C:=by
    have:its[j]?=some its[j]:=zGA (by omega);rw[e1]at this;simpa using (Option.some.inj this).symm
   have g2:c.toArray[j]=z:=by
    have:c[j]?=some c[j]:=zGA (by omega);rw[e2]at this;simpa using (Option.some.inj this).symm
   rw[g1,g2,List.getD_eq_getElem?_getD,List.getD_eq_getElem?_getD,zGA g,zGA f];exact xq2 O M (List.all_eq_true.mp fa _ (List.getElem_mem g)) (List.all_eq_true.mp fb _ (List.getElem_mem f))
  ·rw[List.size_toArray,<- U,xgm w]
   exact q
 ·refine SeqAt.eq_list_lengthsAt p.isList o.isList (by simp only[List.size_toArray];simp;omega) r ⟨.bl _,H,I,rfl,?_⟩
  rw[xk8 w]at q;exact q
end
def SameBut(a:Addr)(H H':Hp):Prop:=∀b o,H b=some o->b≠a->H' b=some o
theorem SameBut.refl(a:Addr)(H:Hp):SameBut a H H:=λ_ _ h _=>h
theorem SameBut.trans{a:Addr}{H f c:Hp}(h:SameBut a H f)(k:SameBut a f c):SameBut a H c:=λb o e n=>k b o (h b o e n) n
theorem SameBut.upd(a:Addr)(H:Hp)(o:HO):SameBut a H (upd H a o):=λb u e n=>by rw[xar n];exact e
theorem Same.but{a:Addr}{H c:Hp}(h:Same H c):SameBut a H c:=λb o e _=>h b o e
theorem Same.new{H:Hp}{p:Addr}(h:H p=none)(o:HO):Same H (upd H p o):=λb u q=>by rw[xar (neN q h)];exact q
theorem xav{H a:Hp}{p:Addr}(h:Same H a)(n:a p=none):H p=none:=by
 cases e:H p with
 |none=>rfl
 |some o=>rw[h p o e]at n;cases n
structure DefTx(K:Fg)(mg:Str->Option Value)(x:Str)(st:Stmt)(ps:List Str):Prop where
 ex:∃(f:Addr) (fd:FuncData),Fun K x x st f fd/\mg x=some (.ref f)/\∀us:List Value,us.length=ps.length->bindArgs fd ⟨us,[]⟩=pure (ps.zip us)
structure DefIs(P:Program)(w:World)(K:Fg)(mg:Str->Option Value)(base:Heap)(n:Nat)(x:Str)(ps:List Str)(sp:Sp):Prop where
 ex:∃(f:Addr) (fd:FuncData),FnOk P w K mg base CX0 n f fd ps sp/\Binds K fd ps []/\PySem.W.keepIn K (.ref f)=true/\mg x=some (.ref f)/\∃oc od osl,K.lookup f=some ⟨oc,od,.func fd,osl⟩
theorem xn9{K:Fg}{x:Str}{st:Stmt}{f:Addr}{c:FuncData}(F:Fun K x x st f c):∃b od a,K.lookup f=some ⟨b,od,.func c,a⟩:=by
 obtain⟨b,od,kV,e,h,i,g,ct,a,_,l,_⟩:=F.ex;exact⟨b,od,a,l⟩
section
variable {P:Program}{w:World}{K:Fg}{mg:Str->Option Value}{base:Heap}{n m:Nat}{x:Str}{ps N:List Str}{sp:Sp}{st:Stmt}
theorem DefIs.mono(D:DefIs P w K a base n x ps sp)(h:n<=m):DefIs P w K a base m x ps sp:=by
 obtain⟨f,b,F,r⟩:=D.ex;exact⟨f,b,F.mono h,r⟩
theorem DefIs.imp{a:Sp}(D:DefIs P w K b base n x ps sp)(h:∀vs H Q E,a vs H Q E->sp vs H Q E):DefIs P w K b base n x ps a:=by
 obtain⟨f,c,F,r⟩:=D.ex;exact⟨f,c,F.imp h,r⟩
theorem DefIs.of (T:DefTx K e x st ps) (S:FnScope N ps (xac st)) (len:∀vs H Q E,sp vs H Q E->vs.length=ps.length)
  (c:∀(f:Addr) (a:Value) (A:Around) (outer:List Env) (s:Shared) (H:Hp) (vs:List V) (Q:VK) (E:XK),Room n (A.deeper (envOfC x (xac st) s.heap.objs.size f a))->sp vs H Q E->
   ∃t,PSs (cxOf CX0 P w K e base N x (xac st) f a A outer s H E).nox (xcy st) t/\t {nx:=λ_ j=>Q .non j,rt:=Q} (xex N vs) H):DefIs P w K e base (n+1) x ps sp:=by
 obtain⟨f,i,F,m,b⟩:=T.ex;exact⟨f,i,F.ok S len (λa A outer s H vs Q E g h=>c f a A outer s H vs Q E g h),Binds.all b,F.kp,m,xn9 F⟩
theorem DefIs.none(T:DefTx K a x st ps)(no:∀vs H Q E,¬sp vs H Q E):DefIs P w K a base n x ps sp:=by
 obtain⟨f,c,F,m,b⟩:=T.ex;exact⟨f,c,⟨λvs H Q E h=>absurd h (no vs H Q E),λA outer s H args us vs Q E _ _ _ _ h=>absurd h (no vs H Q E)⟩,Binds.all b,F.kp,m,xn9 F⟩
end
section
variable {X:Cx}{n:Nat}{x:Str}{ps:List Str}{sp:Sp}{e:Expr}{es:List Expr}{p pos:Pos}{t:TA}
theorem pd (D:DefIs X.prog X.w X.K X.mg X.base n x ps sp) (g:Room n X.A) (j:PA X (e::es) t) (h:Gl X x:=by rfl) (c:(x == ("__debug__":Str))=false:=by decide)
  (i:starEach (e::es) X.env=(false,eval e X.env)::starEach es X.env:=by rfl) (a:(backTo pos (starEach es X.env)).any (·.1)=false:=by rfl):PE X (.Call (.Name x p) (e::es) [] pos) (xrj sp [] E0 t):=by
 obtain⟨f,l,F,b,k,m,_⟩:=D.ex;exact xry F g h m k b .nil xo8 j c i a
theorem xjr{i:Int}(hm:∃t,X.mg x=some (.int i t))(hg:Gl X x:=by rfl)(hd:(x == ("__debug__":Str))=false:=by decide):PE X (.Name x pos) (tC (.int i)):=by
 obtain⟨t,h⟩:=hm;exact xrx hg h ⟨t,rfl⟩ hd
theorem xts{T:String}(b:X.mg x=none)(a:bootBuiltins x=some (.type T))(c:Gl X x:=by rfl)(hn:x≠"__name__":=by decide)(hd:(x == ("__debug__":Str))=false:=by decide):PE X (.Name x pos) (tC (.ty T)):=xrz c b a rfl hn hd
end
def Fed(a:Addr)(H H':Hp):Prop:=SameBut a H H'/\∃p q:Int,H' a=some (.lst [.int p,.int q])
theorem Fed.trans{a:Addr}{H c b:Hp}(h:Fed a H c)(k:Fed a c b):Fed a H b:=⟨h.1.trans k.1,k.2⟩
theorem Fed.of{a:Addr}{H:Hp}{p q:Int}:Fed a H (upd H a (.lst [.int p,.int q])):=⟨SameBut.upd a H _,p,q,ups⟩
theorem Fed.refl{a:Addr}{H:Hp}{p q:Int}(h:H a=some (.lst [.int p,.int q])):Fed a H H:=⟨SameBut.refl a H,p,q,h⟩
theorem Fed.same{a:Addr}{H c b:Hp}(h:Fed a H c)(s:Same c b):Fed a H b:=by
 obtain⟨k,p,q,e⟩:=h;exact⟨k.trans s.but,p,q,s _ _ e⟩
theorem Fed.back{a:Addr}{H H0 H':Hp}(n:H a=none)(s:Same H H0)(h:Fed a H0 H'):Same H H':=λb o e=>h.1 b o (s b o e) (neN e n)
theorem deftx_mk {K:Fg} {h:Heap} {n:Str->Option Value} (X:K.In h) (G:h.Ns mainGlobals n) {x:Str} {st:Stmt} {ps:List Str} {f:Addr} {o:Value} {od j:Option Addr} {m:Array (Option Value)} {kV g i e ct:Value}
  (a:PySem.W.nsIn K mainGlobals x=some (some (.ref f))) (l:K.lookup f=some ⟨o,od,.func (PySem.W.fnOf x x (xdg st) (xcy st) (xac st) .none kV g i j e ct),m⟩)
  (c:PySem.W.codeIn K e x=true) (k:PySem.W.keepIn K (.ref f)=true)
  (b:∀(kV g i:Value) (j:Option Addr) (e ct:Value) (us:List Value),us.length=ps.length->bindArgs (PySem.W.fnOf x x (xdg st) (xcy st) (xac st) .none kV g i j e ct) ⟨us,[]⟩=pure (ps.zip us)):DefTx K n x st ps:=by
 have F:=xua (st:=st) l c k;exact⟨f,_,F,PySem.W.mg_of X G a,b kV g i j e ct⟩
theorem law_top {P:Program} {w:World} {K:Fg} {mg:Str->Option Value} {n:Nat} {x y:Str} {st:Stmt} {sp:Sp} {fa:Addr} (T:DefTx K mg x st [y]) (hmg:mg x=some (.ref fa)) (D:∀base,DefIs P w K mg base n x [y] sp) :
  ∃fd:FuncData,(∀(s:Shared) (u:Value),BindsTo s fd ⟨[u],[]⟩ [(y,u)])/\∀base:Heap,K.In base->base.Ns mainGlobals mg->FnOk P w K mg base CX0 n fa fd [y] sp:=by
 obtain⟨f,fd,F,m,b⟩:=T.ex;rw[hmg]at m;cases m;refine⟨fd,λs u=>.of_eq (b [u] rfl),λbase _ _=>?_⟩;obtain⟨f',fd',G,_,_,m',oc,od,osl,l⟩:=(D base).ex;rw[hmg]at m';cases m';obtain⟨oc2,od2,osl2,l2⟩:=xn9 F;rw[l]at l2;cases l2;exact G
theorem gint_mk{K:Fg}{h:Heap}{b:Str->Option Value}(X:K.In h)(G:h.Ns mainGlobals b){x:Str}{i:Int}{t:Tok}(a:PySem.W.nsIn K mainGlobals x=some (some (.int i t))):∃t,b x=some (.int i t):=⟨t,PySem.W.mg_of X G a⟩
abbrev TJ:=St->Hp->Str->VK->Prop
def PJ(X:Cx)(es:List Expr)(t:TJ):Prop:=
 ∀(pins:List (Addr×Obj)) (s:Shared) (σ:St) (H:Hp) (out:Str) (Q:VK),Inv X pins σ H s->t σ H out Q->wpAny (model X.prog X.w) X.A (joinParts out (evalEach es X.env)) (EP X pins σ Q) X.xe s
section
variable {es:List Expr}{env:Env}
theorem so{c k p}:starEach (.Constant c k p::es) env=(false,eval (.Constant c k p) env)::starEach es env:=rfl
theorem zsn{x p}:starEach (.Name x p::es) env=(false,eval (.Name x p) env)::starEach es env:=rfl
theorem zsc{a b c d}:starEach (.Call a b c d::es) env=(false,eval (.Call a b c d) env)::starEach es env:=rfl
theorem xaz{a b c d}:starEach (.BinOp a b c d::es) env=(false,eval (.BinOp a b c d) env)::starEach es env:=rfl
theorem ss{a b c}:starEach (.Subscript a b c::es) env=(false,eval (.Subscript a b c) env)::starEach es env:=rfl
theorem sT{a b c}:starEach (.Tuple a b c::es) env=(false,eval (.Tuple a b c) env)::starEach es env:=rfl
theorem xkn{a b}:starEach (.List a b::es) env=(false,eval (.List a b) env)::starEach es env:=rfl
theorem xko{a b c d}:starEach (.Compare a b c d::es) env=(false,eval (.Compare a b c d) env)::starEach es env:=rfl
theorem xmf{a b c}:starEach (.BoolOp a b c::es) env=(false,eval (.BoolOp a b c) env)::starEach es env:=rfl
theorem xcc{a b c d}:starEach (.ListComp a b c d::es) env=(false,eval (.ListComp a b c d) env)::starEach es env:=rfl
theorem xoz{a b c d}:starEach (.IfExp a b c d::es) env=(false,eval (.IfExp a b c d) env)::starEach es env:=rfl
theorem xfh{a b c}:starEach (.Attribute a b c::es) env=(false,eval (.Attribute a b c) env)::starEach es env:=rfl
end
end L2
end
section
namespace M
open PySem
inductive D where
 |int (i:Int)
 |str (x:Str)
 |tup (ds:List D)
inductive All2{α β:Type}(R:α->β->Prop):List α->List β->Prop where
 |nil:All2 R [] []
 |cons {a b as bs} (h:R a b) (t:All2 R as bs):All2 R (a::as) (b::bs)
theorem All2.length{α β:Type}{R:α->β->Prop}{as:List α}{bs:List β}(h:All2 R as bs):as.length=bs.length:=by
 induction h with
 |nil=>rfl
 |cons _ _ a=>simp[a]
theorem All2.imp{α β:Type}{R S:α->β->Prop}{as:List α}{bs:List β}(h:All2 R as bs)(f:∀a b,R a b->S a b):All2 S as bs:=by
 induction h with
 |nil=>exact .nil
 |cons h _ c=>exact .cons (f _ _ h) c
theorem All2.get{α β:Type}{R:α->β->Prop}{as:List α}{bs:List β}(h:All2 R as bs):∀{i:Nat} {a:α},as[i]?=some a->∃b,bs[i]?=some b/\R a b:=by
 induction h with
 |nil=>intro i a e;simp at e
 |cons h _ c=>
  intro i a e
  cases i with
  |zero=>simp at e;subst e;exact⟨_,by simp,h⟩
  |succ i=>simpa using c (i:=i) (a:=a) (by simpa using e)
def S(s:String):Str:=Str.ofString s
def xeg(c:Nat):Bool:=97<=c && c<=122
def xpn(x:List Nat):Bool:=1<=x.length && x.length<=6 && x.all xeg && x != [110,117,109] && x != [105,116]
def Name(x:Str):Prop:=xpn x.cps.toList=true
def L(x:Str):List Nat:=x.cps.toList
def ofL(l:List Nat):Str:=⟨l.toArray⟩
theorem xdr(l:List Nat):L (ofL l)=l:=rfl
theorem xty(x:Str):ofL (L x)=x:=by
 cases x;rfl
theorem xou{x y:Str}(h:L x=L y):x=y:=by
 rw[<- xty x,<- xty y,h]
theorem xd0(x y:Str):L (x++y)=L x++L y:=by
 show(x.cps++y.cps).toList=_;simp[L]
theorem xem(x:Str):(L x).length=x.length:=by
 simp[L,Str.length]
end M
end
section
namespace M
open PySem L2
mutual
def RelD(H:Hp):V->D->Prop
 |v,.int i=>v=.int i
 |v,.str x=>v=.str x
 |v,.tup ds=>∃a vs,v=.ref a/\H a=some (.tup vs)/\RelDs H vs ds
def RelDs(H:Hp):List V->List D->Prop
 |vs,[]=>vs=[]
 |vs,d::ds=>∃v r,vs=v::r/\RelD H v d/\RelDs H r ds
end
mutual
theorem RelD.same{H H':Hp}(s:Same H H'):∀{v:V} (d:D),RelD H v d->RelD H' v d
 |v,.int i,h=>h
 |v,.str x,h=>h
 |v,.tup ds,⟨a,vs,e,ha,h⟩=>⟨a,vs,e,s _ _ ha,RelDs.same s ds h⟩
theorem RelDs.same{H H':Hp}(s:Same H H'):∀{vs:List V} (ds:List D),RelDs H vs ds->RelDs H' vs ds
 |vs,[],h=>h
 |vs,d::ds,⟨v,r,e,h1,h2⟩=>⟨v,r,e,RelD.same s d h1,RelDs.same s ds h2⟩
end
theorem RelDs.length{H:Hp}:∀{vs:List V} {ds:List D},RelDs H vs ds->vs.length=ds.length
 |vs,[],h=>by rw[show vs=[] from h];rfl
 |vs,d::ds,⟨v,r,e,_,a⟩=>by rw[e,List.length_cons,List.length_cons,RelDs.length a]
theorem RelDs.append{H:Hp}:∀{vs us:List V} {ds es:List D},RelDs H vs ds->RelDs H us es->RelDs H (vs++us) (ds++es)
 |vs,us,[],es,h,k=>by rw[show vs=[] from h];exact k
 |vs,us,d::ds,es,⟨v,r,e,b,a⟩,k=>by subst e;exact⟨v,r++us,rfl,b,RelDs.append a k⟩
theorem RelDs.get{H:Hp}:∀{vs:List V} {ds:List D} {i:Nat} {v:V},RelDs H vs ds->vs[i]?=some v->∃d,ds[i]?=some d/\RelD H v d
 |vs,[],i,v,h,e=>by rw[show vs=[] from h]at e;simp at e
 |vs,d::ds,0,v,⟨u,r,a,g,_⟩,e=>by
  subst a;simp at e;subst e;exact⟨d,rfl,g⟩
 |vs,d::ds,i+1,v,⟨u,r,a,_,f⟩,e=>by
  subst a;obtain⟨x,b,c⟩:=RelDs.get (i:=i) (v:=v) f (by simpa using e);exact⟨x,by simpa using b,c⟩
theorem iteKF{c A B:Prop}[Decidable c](h:decide c=false)(b:B):if decide c=true then A else B:=by
 rw[h];exact b
theorem iteKT{c A B:Prop}[Decidable c](h:decide c=true)(a:A):if decide c=true then A else B:=by
 rw[h];exact a
mutual
theorem RelD.tups{H H':Hp}(s:∀b vs,H b=some (.tup vs)->H' b=some (.tup vs)):∀{v:V} (d:D),RelD H v d->RelD H' v d
 |v,.int i,h=>h
 |v,.str x,h=>h
 |v,.tup ds,⟨a,vs,e,ha,h⟩=>⟨a,vs,e,s _ _ ha,RelDs.tups s ds h⟩
theorem RelDs.tups{H H':Hp}(s:∀b vs,H b=some (.tup vs)->H' b=some (.tup vs)):∀{vs:List V} (ds:List D),RelDs H vs ds->RelDs H' vs ds
 |vs,[],h=>h
 |vs,d::ds,⟨v,r,e,h1,h2⟩=>⟨v,r,e,RelD.tups s d h1,RelDs.tups s ds h2⟩
end
theorem xai{a:Addr}{H c:Hp}(g:∃p q:Int,H a=some (.lst [.int p,.int q]))(f:Fed a H c):∀b vs,H b=some (.tup vs)->c b=some (.tup vs):=λb vs e=>f.1 b _ e λz=>by
 obtain⟨p,q,h⟩:=g;rw[z,h]at e;cases e
def xc5(c:Nat):Str:=⟨#[c]⟩
theorem xis:∀cs:List Nat,Txt.join (S "") (cs.map xc5)=ofL cs:=by
 have h:∀cs:List Nat,L (Str.join (S "") (cs.map xc5))=cs:=by
  intro cs
  induction cs with
  |nil=>rfl
  | cons c r a=>
   cases r with
   |nil=>rfl
   |cons d r=>
    show L (xc5 c++S ""++Str.join (S "") ((d::r).map xc5))=_;rw[xd0,xd0,a];have e:L (S "")=[]:=by walk_at"k"
    rw[e];rfl
 intro cs;apply xou;show L (Builtin.Str.glued (S "") (cs.map xc5))=cs;rw[StrLaws.glued_eq_join,h]
theorem xjf(cs:List Nat):((cs.map xc5).map (·.length)).sum=cs.length:=by
 induction cs with
 |nil=>rfl
 |cons c r a=>
  show(xc5 c).length+((r.map xc5).map (·.length)).sum=r.length+1;rw[a,show(xc5 c).length=1 from rfl];omega
theorem xlf{α:Type}{cs:List α}{r:Int}(h0:0<=r)(h:r<(cs.length:Int)):∃c∈cs,atI cs r=some c:=by
 have a:r.toNat<cs.length:=by omega
 have b:r=((r.toNat:Nat):Int):=by omega
 refine⟨cs[r.toNat],List.getElem_mem a,?_⟩;have q:atI cs ((r.toNat:Nat):Int)=some cs[r.toNat]:=xa0 (zGA a);rw[<- b]at q;exact q
end M
end
section
namespace L2
open PySem PySem.Spec PyProof.Rows
section
variable {κ:Type}[DecidableEq κ]
def valV(kvs:List (κ×V))(k:κ):Option V:=(kvs.find? λkv=>decide (kv.1=k)).map (·.2)
def putK(kvs:List (κ×V))(k:κ)(v:V):List (κ×V):=
 if (kvs.any λkv=>decide (kv.1=k))=true then kvs.map (λkv=>if kv.1=k then (kv.1,v) else kv) else kvs++[(k,v)]
theorem xce{p:κ×V}{r:List (κ×V)}{k:κ}(e:p.1=k):valV (p::r) k=some p.2:=by simp[valV,List.find?_cons,e]
theorem xcf{p:κ×V}{r:List (κ×V)}{k:κ}(e:¬p.1=k):valV (p::r) k=valV r k:=by simp[valV,List.find?_cons,e]
theorem xe3(k:κ):∀kvs:List (κ×V),(kvs.any λa=>decide (a.1=k))=(valV kvs k).isSome
 |[]=>rfl
 |p::r=>by
  rw[List.any_cons];by_cases e:p.1=k
  ·simp only[xce e,zDT e,Bool.true_or,Option.isSome_some]
  ·rw[xcf e,zDF e,Bool.false_or];exact xe3 k r
theorem xkj(k j:κ)(y:V):∀kvs:List (κ×V),valV (kvs.map λa=>if a.1=k then (a.1,y) else a) j=(valV kvs j).map λx=>if j=k then y else x
 |[]=>rfl
 | p::r=>by
  have b:=xkj k j y r;rw[List.map_cons];by_cases h:p.1=k
  ·rw[if_pos h]
   by_cases e:p.1=j
   ·rw[xce (p:=(p.1,y)) e,xce e,Option.map_some,if_pos (e.symm.trans h)]
   ·rw[xcf (p:=(p.1,y)) e,xcf e,b]
  ·rw[if_neg h]
   by_cases e:p.1=j
   ·rw[xce (p:=p) e,xce e,Option.map_some,if_neg (λz=>h (e.trans z))]
   ·rw[xcf (p:=p) e,xcf e,b]
theorem xhm(k j:κ)(y:V):∀kvs:List (κ×V),valV kvs k=none->valV (kvs++[(k,y)]) j=if j=k then some y else valV kvs j
 |[],_=>by
  by_cases e:k=j
  ·rw[if_pos e.symm];exact xce (p:=(k,y)) e
  ·rw[if_neg (λz=>e z.symm)];exact xcf (p:=(k,y)) e
 |p::r,hn=>by
  rw[List.cons_append];have a:¬p.1=k:=λz=>by rw[xce z]at hn;cases hn
  rw[xcf a]at hn;have b:=xhm k j y r hn;by_cases e:p.1=j
  ·rw[xce e,xce e,if_neg (λz=>a (e.trans z))]
  ·rw[xcf e,xcf e,b]
theorem xgr(kvs:List (κ×V))(k j:κ)(y:V):valV (putK kvs k y) j=if j=k then some y else valV kvs j:=by
 unfold putK;by_cases a:(kvs.any λb=>decide (b.1=k))=true
 ·rw[if_pos a,xkj]
  rw[xe3]at a;by_cases e:j=k
  ·obtain⟨x,c⟩:=Option.isSome_iff_exists.mp a
   rw[if_pos e,e,c,Option.map_some,if_pos rfl]
  ·rw[if_neg e]
   cases valV kvs j with
   |none=>rfl
   |some x=>rw[Option.map_some,if_neg e]
 ·rw[if_neg a]
  refine xhm k j y kvs ?_;rw[xe3]at a
  cases q:valV kvs k with
  |none=>rfl
  |some x=>rw[q]at a;exact(a rfl).elim
theorem xdf(kvs:List (κ×V))(k:κ)(v:V):(putK kvs k v).length<=kvs.length+1:=by
 unfold putK;split
 ·rw[zLM];omega
 ·rw[zLA,List.length_cons,List.length_nil];omega
theorem RelO.isSome_eq{o:Option V}{u:Option Value}(r:RelO o u):o.isSome=u.isSome:=by
 cases o with
 |none=>cases u with
  |none=>rfl
  |some _=>exact(show False from r).elim
 |some _=>cases u with
  |none=>exact(show False from r).elim
  |some _=>rfl
theorem KV.val{kvs:List (κ×V)}{vs:List (κ×Value)}(r:KV kvs vs)(k:κ):RelO (valV kvs k) (valueAt vs k):=by
 unfold KV at r
 induction r with
 |nil=>exact True.intro
 | @cons p q ps qs h t ih=>
  obtain⟨h1,h2⟩:=h;by_cases e:p.1=k
  ·have e':q.1=k:=h1.symm.trans e
   have b:valueAt (q::qs) k=some q.2:=by simp[valueAt,List.find?_cons,e']
   rw[xce e,b];exact h2
  ·have e':¬q.1=k:=λz=>e (h1.trans z)
   have b:valueAt (q::qs) k=valueAt qs k:=by simp[valueAt,List.find?_cons,e']
   rw[xcf e,b];exact ih
theorem KV.any{kvs:List (κ×V)}{vs:List (κ×Value)}(r:KV kvs vs)(k:κ):(kvs.any λa=>decide (a.1=k))=vs.any λa=>decide (a.1=k):=by
 unfold KV at r
 induction r with
 |nil=>rfl
 |cons h t b=>rw[List.any_cons,List.any_cons,b,h.1]
theorem KV.repl {kvs:List (κ×V)} {vs:List (κ×Value)} (r:KV kvs vs) (k:κ) {y:V} {u:Value} (c:RelV y u) :
  KV (kvs.map λa=>if a.1=k then (a.1,y) else a) (vs.map λa=>if a.1=k then (a.1,u) else a):=by
 unfold KV at r⊢
 induction r with
 |nil=>exact .nil
 |@cons p q ps i h t f=>
  rw[List.map_cons,List.map_cons];refine .cons ?_ f;obtain⟨b,g⟩:=h;by_cases e:p.1=k
  ·rw[if_pos e,if_pos (b.symm.trans e)];exact⟨b,c⟩
  ·rw[if_neg e,if_neg (λz=>e (b.trans z))];exact⟨b,g⟩
theorem KV.put{kvs:List (κ×V)}{vs:List (κ×Value)}(r:KV kvs vs)(k:κ){y:V}{u:Value}(a:RelV y u):KV (putK kvs k y) (stored vs k u):=by
 unfold putK stored;rw[r.any k];by_cases e:(vs.any λb=>decide (b.1=k))=true
 ·rw[if_pos e,if_pos e];exact r.repl k a
 ·rw[if_neg e,if_neg e];exact Paired.snoc r ⟨rfl,a⟩
theorem KV.length{kvs:List (κ×V)}{vs:List (κ×Value)}(r:KV kvs vs):kvs.length=vs.length:=Paired.length r
end
theorem xps{P:Program}{w:World}{k:Key}{u:Value}(r:RelV (kV k) u):(xb9 P w).is k u=true:=by
 cases k with
 |inl i=>obtain⟨t,e⟩:=(show ∃t,u=Value.int i t from r);subst e;exact xj3 P w i t
 |inr x=>obtain⟨t,e⟩:=(show ∃t,u=Value.str x t from r);subst e;exact xj2 P w x t
theorem xit{P:Program}{w:World}:∀{ks:List Key} {us:List Value},Vals (ks.map kV) us->ItemsAre (xb9 P w) ks us
 |[],_,r=>by rw[List.map_nil]at r;cases r;exact .nil
 |k::ks,_,r=>by
  rw[List.map_cons]at r
  cases r with
  |cons h t=>exact .cons (xps h) (xit t)
abbrev KT(H:Hp):List (List Key×V)->List (List Key×Addr×Value)->Prop:=Paired λp q=>p.1=q.1/\H q.2.1=some (.tup (p.1.map kV))/\RelV p.2 q.2.2
theorem KT.val{H:Hp}{kvs:List (List Key×V)}{xs:List (List Key×Addr×Value)}(r:KT H kvs xs)(k:List Key):RelO (valV kvs k) ((atKey xs k).map (·.2)):=by
 induction r with
 |nil=>exact True.intro
 | @cons p q ps a h t g=>
  obtain⟨f,_,i⟩:=h;by_cases e:p.1=k
  ·have c:q.1=k:=f.symm.trans e
   have b:atKey (q::a) k=some q.2:=by simp[atKey,List.find?_cons,c]
   rw[xce e,b];exact i
  ·have c:¬q.1=k:=λz=>e (f.trans z)
   have b:atKey (q::a) k=atKey a k:=by simp[atKey,List.find?_cons,c]
   rw[xcf e,b];exact g
theorem KT.repl {H:Hp} {kvs:List (List Key×V)} {xs:List (List Key×Addr×Value)} (r:KT H kvs xs) (k:List Key) {y:V} {u:Value} (f:RelV y u) :
  KT H (kvs.map λb=>if b.1=k then (b.1,y) else b) (xs.map (putAt k u)):=by
 induction r with
 |nil=>exact .nil
 |@cons p q ps j h t g=>
  rw[List.map_cons,List.map_cons];refine .cons ?_ g;obtain⟨a,c,i⟩:=h;unfold putAt;by_cases e:p.1=k
  ·rw[if_pos e,if_pos (a.symm.trans e)];exact⟨a,c,f⟩
  ·rw[if_neg e,if_neg (λz=>e (a.trans z))];exact⟨a,c,i⟩
theorem KT.put {H:Hp} {kvs:List (List Key×V)} {xs:List (List Key×Addr×Value)} (r:KT H kvs xs) (k:List Key) {b:Addr} {y:V} {u:Value} (f:H b=some (.tup (k.map kV))) (a:RelV y u) :
  KT H (putK kvs k y) (storedH xs k b u):=by
 have e:(kvs.any λc=>decide (c.1=k))=(atKey xs k).isSome:=by
  rw[xe3,(r.val k).isSome_eq,Option.isSome_map]
 unfold putK storedH;rw[e];by_cases q:(atKey xs k).isSome=true
 ·rw[if_pos q,if_pos q];exact r.repl k a
 ·rw[if_neg q,if_neg q];exact Paired.snoc r ⟨rfl,f,a⟩
theorem KT.keeps{H a:Hp}{kvs:List (List Key×V)}{xs:List (List Key×Addr×Value)}(r:KT H kvs xs)(c:∀b ys,H b=some (.tup ys)->a b=some (.tup ys)):KT a kvs xs:=
 Paired.mapP r λ_ _ z=>⟨z.1,c _ _ z.2.1,z.2.2⟩
section
variable {P:Program}{w:World}{H:Hp}{h:Heap}{a:Addr}
theorem xtk{u:HO}(ok:HOk P w H h)(e:Rd H a u):ObjOk P w H h a u:=e.ok ok
theorem xog{kvs:List (Key×V)}(ok:HOk P w H h)(e:Rd H a (.dK kvs)):kvs.length<=sizeLine/\(a == sysModules)=false/\∃vs,KV kvs vs/\h.DictOf (xb9 P w) a vs:=
 show ObjOk P w H h a (.dK kvs) from xtk ok e
theorem xp2{kvs:List (Key×V)}(ok:HOk P w H h)(e:H a=some (.dK kvs)):kvs.length<=sizeLine/\(a == sysModules)=false/\∃vs,KV kvs vs/\h.DictOf (xb9 P w) a vs:=xog ok (.inl e)
theorem xnx{ks:List Key}(ok:HOk P w H h)(e:H a=some (.tup (ks.map kV))):(tupleKind (xb9 P w)).is h ks a:=by
 obtain⟨_,its,r,o,h1,h2,n,h3,_⟩:=(show ObjOk P w H h a (.tup (ks.map kV)) from ok a _ e);exact⟨o,its.toArray,n,h1,h2,h3,by simpa using xit r⟩
theorem xp0 {kvs:List (List Key×V)} (ok:HOk P w H h) (e:Rd H a (.dT kvs)):kvs.length<=sizeLine/\(a == sysModules)=false ∧
  ∃xs,KT H kvs xs/\h.DictOfH (tupleKind (xb9 P w)) a xs:=by
 obtain⟨z,y,xs,r,o,es,ep,s,n,j,i,g⟩:=(show ObjOk P w H h a (.dT kvs) from xtk ok e);refine⟨z,y,xs,r,o,es,ep,s,n,j,i,λx b=>?_,g⟩
 have all:∀{l:List (List Key×V)} {m:List (List Key×Addr×Value)},KT H l m->∀x∈m,(tupleKind (xb9 P w)).is h x.1 x.2.1:=by
  intro l m q
  induction q with
  |nil=>intro x b;exact nomatch b
  | @cons p q ps u c t f=>
   intro x b;rcases zMC b with e |b
   ·subst e
    exact xnx ok (by rw[<- c.1];exact c.2.1)
   ·exact f x b
 exact all r x b
theorem xu9 {kvs:List (List Key×V)} (ok:HOk P w H h) (e:H a=some (.dT kvs)):kvs.length<=sizeLine/\(a == sysModules)=false ∧
  ∃xs,KT H kvs xs/\h.DictOfH (tupleKind (xb9 P w)) a xs:=xp0 ok (.inl e)
end
def DGet(H:Hp)(a:Addr)(y:V)(r:Option V):Prop:=
 (∃kvs k,Rd H a (.dK kvs)/\y=kV k/\r=valV kvs k)\/∃kvs k b,Rd H a (.dT kvs)/\y=.ref b/\H b=some (.tup (k.map kV))/\r=valV kvs k
def DPut(H:Hp)(a:Addr)(y v:V)(H':Hp):Prop:=
 (∃kvs k,H a=some (.dK kvs)/\y=kV k/\kvs.length<sizeLine/\H'=upd H a (.dK (putK kvs k v))) ∨
 ∃kvs k b,H a=some (.dT kvs)/\y=.ref b/\H b=some (.tup (k.map kV))/\kvs.length<sizeLine/\H'=upd H a (.dT (putK kvs k v))
theorem DGet.k{H:Hp}{a:Addr}{kvs:List (Key×V)}{k:Key}(e:H a=some (.dK kvs)):DGet H a (kV k) (valV kvs k):=.inl ⟨kvs,k,.inl e,rfl,rfl⟩
theorem DPut.k{H:Hp}{a:Addr}{kvs:List (Key×V)}{k:Key}{v:V}(e:H a=some (.dK kvs))(b:kvs.length<sizeLine):DPut H a (kV k) v (upd H a (.dK (putK kvs k v))):=.inl ⟨kvs,k,e,rfl,b,rfl⟩
section
variable {X:Cx}{pins:List (Addr×Obj)}{σ:St}{H:Hp}{s:Shared}{a:Addr}{y v:V}{u r:Value}{o:Option V}{A:Around}{E:Value->Shared->Prop}
theorem Inv.big(I:Inv X pins σ H s):sysModules<s.heap.objs.size:=by
 have h:mainGlobals<s.heap.objs.size:=(I.mod.glob.keeps I.bk).lt;exact Nat.lt_trans (by decide) h
theorem xon {Q:Value->Shared->Prop} (hu:A.units+1<cLine) (I:Inv X pins σ H s) (g:DGet H a y (some v)) (ry:RelV y u) (h:∀w' s',Inv X pins σ H s'->RelV v w'->Q w' s') :
  wpAny (model X.prog X.w) A (getItem (.ref a) u) Q E s:=by
 rcases g with⟨kvs,k,e,ey,l⟩ |⟨kvs,k,b,e,ey,eb,l⟩
 ·subst ey
  obtain⟨z,hd,vs,rel,dd⟩:=xog I.hok e;obtain⟨w',hw,rw'⟩:=RelO.some_of (v:=v) (o:=valueAt vs k) (by rw[l];exact rel.val k);exact wpAny_getItem_of (xps ry) dd.mapOf hw (h w' _ (I.tok _) rw')
 ·subst ey
  cases (show u=Value.ref b from ry);obtain⟨z,hd,xs,rel,dd⟩:=xp0 I.hok e;obtain⟨w',hw,rw'⟩:=RelO.some_of (v:=v) (o:=(atKey xs k).map (·.2)) (by rw[l];exact rel.val k);obtain⟨p,hp,hp2⟩:=zMS hw;refine wpAny_getItem_heap (tupleKind_room_in1 hu) (xnx I.hok eb) dd hp ?_;rw[hp2];exact h w' _ (I.tok _) rw'
theorem xol {h':Heap} {t':Nat} {ob:HO} (I:Inv X pins σ H s) (mu:Mut (H a)) (hs:Heap.SameBut a s.heap h') (he:∃q,h'.get? a=some q) (new:ObjOk X.prog X.w (upd H a ob) h' a ob) :
  Inv X pins σ (upd H a ob) {s with heap:=h',toks:=t'}:=
 I.write (x:=a) (e:=a) mu (.inl rfl) (λb q hb z=>(hs.2 b hb).trans z) he new
theorem xoh {P:Program} {w:World} {e:Hp} {h':Heap} {kvs:List (Key×V)} {vs:List (Key×Value)} (z:kvs.length<=sizeLine) (hd:(a == sysModules)=false) (b:KV kvs vs) (c:h'.DictOf (xb9 P w) a vs) :
  ObjOk P w e h' a (.dK kvs):=⟨z,hd,vs,b,c⟩
theorem xom {H':Hp} {Q:Unit->Shared->Prop} (hu:A.units+1<cLine) (I:Inv X pins σ H s) (g:DPut H a y v H') (ry:RelV y u) (rv:RelV v r) (h:∀s',Inv X pins σ H' s'->Q () s') :
  wpAny (model X.prog X.w) A (setItem (.ref a) u r) Q E s:=by
 rcases g with⟨kvs,k,e,ey,l,eH⟩ |⟨kvs,k,b,e,ey,eb,l,eH⟩
 ·subst ey eH
  obtain⟨z,hd,vs,rel,dd⟩:=xp2 I.hok e;have hz:vs.length<=sizeLine:=by rw[<- rel.length];exact z
  have hl:(putK kvs k v).length<=sizeLine:=by have:=xdf kvs k v;omega
  refine wpAny_setItem_pairs (hsz:=hz) (xps ry) dd λh' dd' hs=>h _ ?_;have he:∃q,h'.get? a=some q:=let ⟨q,_,_,hq,_⟩:=dd';⟨q,hq⟩;exact xol I (by rw[e];exact True.intro) hs he (xoh hl hd (rel.put k rv) dd')
 ·subst ey eH
  cases (show u=Value.ref b from ry);obtain⟨z,hd,xs,rel,dd⟩:=xu9 I.hok e;have hz:xs.length<=sizeLine:=by rw[<- Paired.length rel];exact z
  have hl:(putK kvs k v).length<=sizeLine:=by have:=xdf kvs k v;omega
  refine wpAny_setItem_heap (hsz:=hz) (tupleKind_room_in1 hu) (xnx I.hok eb) dd λh' dd' hs=>h _ ?_;obtain⟨q,es,ep,hq,h2,h3,h4,_,h5⟩:=dd';refine xol I (by rw[e];exact True.intro) hs ⟨q,hq⟩ ⟨hl,hd,_,(rel.put k eb rv).keeps λc ys ec=>?_,q,es,ep,hq,h2,h3,h4,h5⟩;rw[xar (xu3 ec e (λz=>nomatch z))];exact ec
end
def NoSl(i:Expr):Prop:=∀ov iv,subscripted i false ov iv=operate [ov,iv] (getItem ov iv)
theorem xrk {prog:Program} {w:World} {A:Around} {E:Value->Shared->Prop} {s:Shared} {env:Env} {value a:Expr} {pos:Pos} {T id:String} {Q:Value->Shared->Prop}
  (l:typeLookup (.type T) "__getitem__"=pure (some (.builtin id))) (hs:NoSl a)
  (h:wpAny (model prog w) A (eval value env) (λo f=>wpAny (model prog w) A (eval a env) (λi b=>b.TypeIs o T/\wpAny (model prog w) A (getItem o i) Q E b) E f) E s) :
  wpAny (model prog w) A (eval (.Subscript value a pos) env) Q E s:=by
 refine Subscript_ (wpAny_mono h (λo f h₁=>wpAny_mono h₁ (λi b c=>?_) λ_ _ x=>x) λ_ _ x=>x);obtain⟨g,c⟩:=c;unfold subscriptTail;refine wpAny_bind ?_;rw[getitemInPython_of_ne g.not_modules];refine wpAny_bind (wpAny_specialOf g l ?_)
 have fin:wpAny (model prog w) A (subscripted a false o i) (λr e=>wpAny (model prog w) A (letTemporaryGo value o r >>= λ_=>pure r) Q E e) E b:=by
  rw[hs o i];exact wpAny_operating (wpAny_mono c (λr e j=>wpAny_bind (wpAny_letTemporaryGo (wpAny_pure j))) λ_ _ x=>x)
 first
  |exact wpAny_pure (wpAny_bind fin)
  |exact wpAny_bind (wpAny_pure (wpAny_bind fin))
  |exact wpAny_bind fin
theorem xka{X:Cx}{pins:List (Addr×Obj)}{σ:St}{H:Hp}{s:Shared}{a:Addr}{y:V}{o:Option V}(I:Inv X pins σ H s)(g:DGet H a y o):s.TypeIs (.ref a) "dict":=by
 rcases g with⟨kvs,k,e,_,_⟩ |⟨kvs,k,b,e,_,_,_⟩
 ·obtain⟨_,_,vs,_,c⟩:=xog I.hok e
  exact c.typeIs
 ·obtain⟨_,_,xs,_,c⟩:=xp0 I.hok e
  exact c.typeIs
def xur(td ty:TE):TE:=λσ H Q=>td σ H λx H1=>ty σ H1 λy H2=>∃a v,x=.ref a/\DGet H2 a y (some v)/\Q v H2
def xux(td ty tv:TE):TS:=λD σ H=>tv σ H λv H1=>td σ H1 λx H2=>ty σ H2 λy H3=>∃a H4,x=.ref a/\DPut H3 a y v H4/\D.nx σ H4
section
variable {X:Cx}{o i e value:Expr}{pos pos' tpos:Pos}{td ty tv:TE}
theorem xci(n:X.A.units+1<cLine)(p:PE X o td)(hi:PE X i ty)(hs:NoSl i):PE X (.Subscript o i pos) (xur td ty):=by
 intro pins s σ H Q I h;refine xrk PySem.F.slot_dict_getitem.lookup hs (thn (p pins s σ H _ I h) λu e ⟨x,C,w,j,m⟩=>thn (hi pins e σ C _ w m) λO M ⟨y,z,c,f,a,v,ex,g,l⟩=>?_);subst ex;obtain rfl:u=Value.ref a:=j;exact⟨xka c g,xon n c g f λG J r b=>⟨v,z,r,b,l⟩⟩
theorem xg5 (w:X.A.units+1<cLine) (z:PE X o td) (hi:PE X i ty) (p:PE X value tv) (hs:swapsWith value (some (.Subscript o i pos')) pos.line X.env=pure false) :
  PS X (.Assign [.Subscript o i pos'] value pos) (xux td ty tv):=by
 intro pins s σ H D I h;refine wpAny_Assign_Subscript (thn (p pins s σ H _ I h) λr c ⟨v,Y,M,j,n⟩=>thn (z pins c σ Y _ M n) λu b ⟨x,U,J,f,m⟩=>thn (hi pins b σ U _ J m) λiv s3 ⟨y,H3,G,e,a,O,ex,g,l⟩=>?_) hs;subst ex;obtain rfl:u=Value.ref a:=f;exact xom w G g e j λZ C=>⟨σ,O,C,l⟩
end
theorem xp3{P:Program}{w:World}{H:Hp}(h:Heap)(a:sysModules<h.objs.size):ObjOk P w H (h.push {cls:=.type "dict",data:=.dict #[]}) h.objs.size (.dK []):=
 ⟨Nat.zero_le _,beq_eq_false_iff_ne.mpr (Ne.symm (Nat.ne_of_lt a)),[],.nil,Heap.DictOf.new h⟩
def xs7:TE:=λ_ H Q=>∀p,H p=none->Q (.ref p) (upd H p (.dK []))
section
variable {X:Cx}{pos:Pos}
theorem xo6:PE X (.Dict [] [] pos) xs7:=λpins s σ H Q I h=>
 wpAny_Dict_empty ⟨.ref s.heap.objs.size,_,I.laid (a:=s.heap.objs.size) (o:=.dK []) (t':=s.toks) (λ_ _ q=>zPO _ q) (Nat.le_refl _) (xp3 s.heap I.big),rfl,h _ (I.hok.fresh (Nat.le_refl _))⟩
end
def xcz(kvs more:List (Key×V)):List (Key×V):=more.foldl (λacc kv=>putK acc kv.1 kv.2) kvs
theorem KV.merge:∀{more:List (Key×V)} {rs:List (Key×Value)} {kvs:List (Key×V)} {vs:List (Key×Value)},KV more rs->KV kvs vs->KV (xcz kvs more) (merged vs rs):=by
 intro more rs kvs vs r;unfold KV at r
 induction r generalizing kvs vs with
 |nil=>intro q;exact q
 | @cons p q ps c h t b=>
  intro a
  have e:KV (putK kvs p.1 p.2) (stored vs q.1 q.2):=by
   have:=a.put p.1 h.2;rw[<- h.1];exact this
  exact b e
theorem xef:∀(more kvs:List (Key×V)),(xcz kvs more).length<=kvs.length+more.length
 |[],kvs=>by show kvs.length<=kvs.length+0;omega
 |p::r,kvs=>by
  have b:=xef r (putK kvs p.1 p.2);have a:=xdf kvs p.1 p.2;show(xcz (putK kvs p.1 p.2) r).length<=_;rw[List.length_cons];omega
def IsD(H:Hp)(a:Addr):Prop:=(∃kvs,Rd H a (.dK kvs))\/∃kvs,Rd H a (.dT kvs)
theorem xt7 {X:Cx} {pins:List (Addr×Obj)} {σ:St} {H:Hp} {s:Shared} {a:Addr} (I:Inv X pins σ H s) (d:IsD H a) :
  s.TypeIs (.ref a) "dict"/\(∀b,Value.ref a=.ref b->∃c,s.heap.get? b=some c/\c.dict=none)/\(a == sysModules)=false:=by
 rcases d with⟨kvs,e⟩ |⟨kvs,e⟩
 ·obtain⟨_,hd,vs,_,f⟩:=xog I.hok e
  refine⟨f.typeIs,λb q=>?_,hd⟩;cases q;obtain⟨c,_,_,h,g,_⟩:=f;exact⟨c,h,g.2.1⟩
 ·obtain⟨_,hd,xs,_,f⟩:=xp0 I.hok e
  refine⟨f.typeIs,λb q=>?_,hd⟩;cases q;obtain⟨c,_,_,h,g,_⟩:=f;exact⟨c,h,g.2.1⟩
section
variable {X:Cx}{pins:List (Addr×Obj)}{σ:St}{H:Hp}{s:Shared}{a:Addr}{kvs:List (Key×V)}{A:Around}{E:Value->Shared->Prop}
theorem xp4{Q:Value->Shared->Prop}(I:Inv X pins σ H s)(e:Rd H a (.dK kvs))(h:∀p s',H p=none->Inv X pins σ (upd H p (.dK kvs)) s'->Q (.ref p) s'):wpAny (model X.prog X.w) A (call (.type "dict") [.ref a]) Q E s:=by
 obtain⟨z,hd,vs,c,i⟩:=xog I.hok e;refine kt_call_dict hd i (by rw[<- c.length];exact z) λh' f hs=>?_;refine h _ _ (I.hok.fresh (Nat.le_refl _)) (I.laid (a:=s.heap.objs.size) (o:=.dK kvs) (t':=s.toks) (λb q g=>?_) (Nat.le_refl _) (xoh z (beq_eq_false_iff_ne.mpr (Ne.symm (Nat.ne_of_lt I.big))) c f));exact(hs.2 b (Nat.ne_of_lt (Heap.lt_size g))).trans (zPO _ g)
end
section
variable {κ:Type}[DecidableEq κ]
theorem xj1:∀{l:List κ} {k:κ},l.Nodup->¬k∈l->(l++[k]).Nodup
 |[],k,_,_=>by simp
 |a::r,k,h,b=>by
  obtain⟨e,c⟩:=List.nodup_cons.mp h;show(a::(r++[k])).Nodup;refine List.nodup_cons.mpr ⟨λm=>?_,xj1 c λm=>b (List.mem_cons.mpr (Or.inr m))⟩;rcases zMA m with q |q
  ·exact e q
  ·exact b (List.mem_cons.mpr (Or.inl (zMO q).symm))
end
section
variable {X:Cx}
theorem xgo:xd2 X (.type "dict") (λxs H Q=>∃a kvs,xs=[V.ref a]/\H a=some (.dK kvs)/\∀p,H p=none->Q (.ref p) (upd H p (.dK kvs))):=by
 intro pins s σ H xs us Q I r h;obtain⟨a,kvs,rfl,ha,q⟩:=h;obtain⟨u,rfl,ru⟩:=xf3 r;cases ru;exact xp4 I (.inl ha) λp s' hp I'=>⟨.ref p,_,I',rfl,q p hp⟩
end
section
variable {ix:Cap}{tt:TT}{te:TE}{g:TG}{σ:St}{H:Hp}{Q:VK}
def NxtG(Pv:Nat->List V->Hp->Prop)(n i:Nat)(ys:List V):VK:=λy H2=>∃m',m'<n-i/\m'=n-(i+1)/\i+1<=n/\(ys++[y]).length<=i+1/\Pv (i+1) (ys++[y]) H2
def NxtN(Pv:Nat->List V->Hp->Prop)(n i:Nat)(ys:List V):Hp->Prop:=λH2=>∃m',m'<n-i/\m'=n-(i+1)/\i+1<=n/\ys.length<=i+1/\Pv (i+1) ys H2
theorem nxtG{a:Nat->List V->Hp->Prop}{n i:Nat}{ys:List V}{y:V}{b:Hp}(hi:i<n)(c:ys.length<=i)(h:a (i+1) (ys++[y]) b):NxtG a n i ys y b:=
 ⟨n-(i+1),by omega,rfl,hi,by rw[zLA,List.length_singleton];omega,h⟩
theorem nxtN{a:Nat->List V->Hp->Prop}{n i:Nat}{ys:List V}{b:Hp}(hi:i<n)(c:ys.length<=i)(h:a (i+1) ys b):NxtN a n i ys b:=
 ⟨n-(i+1),by omega,rfl,hi,by omega,h⟩
theorem xbs {K:Fg} {a:Addr} {xs:List V} (c:Nat->List V->Hp->Prop) (h0:c 0 [] H) (hn:xs.length<sizeLine) (j:∀i ys H,i<=xs.length->c i ys H->SqT K H a xs)
  (hs:∀i x ys H,xs[i]?=some x->i<xs.length->ys.length<=i->c i ys H->g x (capt l σ) H λh u=>Ext (capt l σ) h/\r h u λb o=>if b=true then s h o (NxtG c xs.length i ys) else NxtN c xs.length i ys o)
  (hd:∀ys H,ys.length<=xs.length->c xs.length ys H->∀D,H D=none->Q (.ref D) (upd H D (.lst ys))):xf2 (Itt K a) l g r s σ H Q:=by
 refine⟨λi m ys H=>m=xs.length-i/\i<=xs.length/\ys.length<=i/\c i ys H,⟨xs.length,by simp,Nat.zero_le _,Nat.le_refl _,h0⟩,?_⟩;rintro i m ys H ⟨rfl,hi,n,p⟩;have q:=j i ys H hi p;by_cases f:i<xs.length
 ·refine .inr ⟨⟨xs,xs[i],q,by simp[f]⟩,by omega,λv w y=>?_⟩
  obtain⟨e,y⟩:=y;subst e;exact hs i v ys _ (y xs q) f n p
 ·have e:i=xs.length:=by omega
  subst e;exact .inl ⟨⟨xs,q,Nat.le_refl _⟩,hd ys H n p⟩
theorem xdc {K:Fg} {a:Addr} {xs:List V} (c:Nat->List V->Hp->Prop) (h0:c 0 [] H) (hn:xs.length<sizeLine) (j:∀i ys H,i<=xs.length->c i ys H->SqL K H a xs)
  (hs:∀i x ys H,xs[i]?=some x->i<xs.length->ys.length<=i->c i ys H->g x (capt l σ) H λh u=>Ext (capt l σ) h/\r h u λb o=>if b=true then s h o (NxtG c xs.length i ys) else NxtN c xs.length i ys o)
  (hd:∀ys H,ys.length<=xs.length->c xs.length ys H->∀D,H D=none->Q (.ref D) (upd H D (.lst ys))):xf2 (Itl K a) l g r s σ H Q:=by
 refine⟨λi m ys H=>m=xs.length-i/\i<=xs.length/\ys.length<=i/\c i ys H,⟨xs.length,by simp,Nat.zero_le _,Nat.le_refl _,h0⟩,?_⟩;rintro i m ys H ⟨rfl,hi,n,p⟩;have q:=j i ys H hi p;by_cases f:i<xs.length
 ·refine .inr ⟨⟨xs,xs[i],q,by simp[f]⟩,by omega,λv w y=>?_⟩
  obtain⟨e,y⟩:=y;subst e;exact hs i v ys _ (y xs q) f n p
 ·have e:i=xs.length:=by omega
  subst e;exact .inl ⟨⟨xs,q,Nat.le_refl _⟩,hd ys H n p⟩
theorem ext2{σ:St}{i j:Nat}{v w:Option V}(h:σ[i]?=some none)(k:σ[j]?=some none):Ext σ ((σ.set i v).set j w):=by
 refine⟨by simp,λn c e=>?_⟩;have b:i≠n:=λz=>by subst z;rw[h]at e;cases e
 have a:j≠n:=λz=>by subst z;rw[k]at e;cases e
 rw[List.getElem?_set_ne a,List.getElem?_set_ne b];exact e
end
section
variable {X:Cx}
def xtm:V->List V->Hp->VK->Prop:=λx vs H Q=>∃l,∃ys:List Str,∃z j,x=.ref l/\vs=[.str z]/\H l=some (.lst (ys.map V.str))/\ys.findIdx? (λy=>decide (y=z))=some j/\Q (.int (j:Nat)) H
theorem xpo:MtM X "list.index" xtm:=by
 intro p s σ H x vs v us Q I C G h;obtain⟨l,ys,z,j,rfl,rfl,Z,Y,q⟩:=h;cases C;obtain⟨u,rfl,J⟩:=G.one;obtain⟨o,its,n,r,U,e⟩:=I.lstM Z
 have fs:(ys.map V.str).all xe0=true:=by
  rw[List.all_eq_true];intro y b;obtain⟨y',_,rfl⟩:=zMP b;rfl
 obtain⟨h1,h2,h3⟩:=List.findIdx?_eq_some_iff_getElem.mp Y;rw[zLM]at U o
 have a:∀i (hi:i<ys.length) (f:i<its.toArray.size),eqU (.str z) its.toArray[i]=decide (ys[i]=z):=λi hi f=>by
  obtain⟨w,e',M⟩:=r.get (i:=i) (x:=.str ys[i]) (by rw[zGM,zGA hi];rfl)
  have g:its.toArray[i]=w:=by
   have:its[i]?=some its[i]:=zGA (by omega);rw[e']at this;simpa using (Option.some.inj this).symm
  rw[g,xoe M rfl];show(ys[i] == z)=_;rw[Bool.eq_iff_iff];simp
 refine call_meets F.slot_list_index ⟨_,e,rfl⟩ F.entry_list_index (F.args_list_index_2 _ _) (SeqAt.list_indexAt l its.toArray n none #[] u (eqU (.str z)) j (by simp;omega) ?_ ?_ ?_) ⟨e,λy b=>xfa J rfl r fs y (by simpa using b),⟨.int j,H,I.tok _,⟨_,rfl⟩,q⟩⟩
 ·rw[sizeLine_eq]at o
  omega
 ·rw[a j h1 (by simp;omega)]
  exact h2
 ·intro m O c
  rw[a m (by omega) O];have:=h3 m c;simpa using this
end
theorem xhp:∀{ns:List Int},(∀n∈ns,0<=n/\n<=1000000)->0<=ns.sum/\ns.sum<=1000000*(ns.length:Int)
 |[],_=>by simp
 |n::ns,h=>by
  have c:=h n (by simp);have b:=xhp (ns:=ns) λm a=>h m (List.mem_cons_of_mem _ a);rw[List.sum_cons,List.length_cons];push_cast;omega
section
variable {X:Cx}
theorem xi3(x:X.calm=true):xd2 X (.builtin "sum") (λxs H Q=>∃p,∃ns:List Int,xs=[.ref p]/\SqL X.K H p (ns.map V.int)/\(∀n∈ns,0<=n/\n<=1000000)/\ns.length<=1000/\Q (.int ns.sum) H):=by
 intro b s σ H xs us Q I r h;obtain⟨p,ns,rfl,m,g,c,q⟩:=h;obtain⟨u,rfl,l⟩:=xf3 r;cases l;obtain⟨its,i,pl,hz⟩:=I.list m;have hi:=xen i;obtain⟨xs,e⟩:=hi.allInts.items;have a:ns=xs.toList.map (·.1):=by rw[<- hi.numsOf,<- nums_intItems,<- e]
 have f:=pl.isList;rw[e]at f;have hsz:xs.size=ns.length:=by rw[a,zLM,Array.length_toList]
 refine sum_intList (I.ok.hd x) f (λj w=>?_) λh' y t' k=>⟨.int ns.sum,H,I.kept k,?_,q⟩
 ·have o:numAt xs j∈ns:=by
   rw[a,numAt_eq];exact getD_mem (by rw[zLM,Array.length_toList];exact w)
  have G:=g _ o;have C:=xhp (ns:=ns.take (j+1)) λn hn=>g n (List.mem_of_mem_take hn);have z:(ns.take (j+1)).length<=1000:=Nat.le_trans (List.length_take_le _ _) (by omega);rw[preSum_eq,<- a];unfold InLong;omega
 ·refine⟨t',?_⟩
  rw[preSum_eq,<- a,zTL (by omega)]
theorem xop(z:X.calm=true):xd2 X (.builtin "max") (λxs H Q=>∃p,∃ns:List Int,xs=[.ref p]/\SqL X.K H p (ns.map V.int)/\ns≠[]/\∀m,m∈ns->(∀n∈ns,n<=m)->Q (.int m) H):=by
 intro f s σ H xs us Q I r h;obtain⟨p,ns,rfl,x,c,q⟩:=h;obtain⟨u,rfl,o⟩:=xf3 r;cases o;obtain⟨its,l,pl,hz⟩:=I.list x;have hi:=xen l;obtain⟨xs,e⟩:=hi.allInts.items;have b:ns=xs.toList.map (·.1):=by rw[<- hi.numsOf,<- nums_intItems,<- e]
 have g:=pl.isList;rw[e]at g;have hsz:xs.size=ns.length:=by rw[b,zLM,Array.length_toList]
 have J:0<ns.length:=List.length_pos_iff.mpr c;refine max_intList (I.ok.hd z) g (by omega) λv h' G w k=>?_;obtain⟨t,rfl⟩:=intItems_at w;obtain⟨M,C⟩:=argBest_gt (numAt xs) (xs.size-1);refine⟨.int _,H,I.kept k,⟨t,rfl⟩,q _ ?_ λa i=>?_⟩
 ·rw[b,numAt_eq]
  exact getD_mem (by rw[zLM,Array.length_toList];omega)
 ·rw[b]at i
  obtain⟨j,y,rfl⟩:=mem_getD i;rw[zLM,Array.length_toList]at y;rw[<- numAt_eq];exact C j (by omega)
end
section
variable {X:Cx}{K:Fg}
theorem xsh(h:X.K=K):IxR X (rIxT K):=by subst h;exact xt6
theorem xpt(h:X.K=K):IxR X (rIxL K):=by subst h;exact iL
theorem xad(h:X.K=K):xd2 X (.builtin "len") (λxs H Q=>∃p ys,xs=[.ref p]/\(SqL K H p ys\/SqT K H p ys)/\Q (.int ys.length) H):=by subst h;exact xi5
theorem xbl {es:List Expr} {k:Nat} {t:TGs} {n:Nat} {pos:Pos} (c:X.K=K) (b:X.calm=true) (h:PGs X es t)
  (hn:(assignEach es X.env).length=n:=by rfl) (a:(assignEach es X.env).findIdx? (·.1)=none:=by rfl):PG X (.Tuple es k pos) (gTup K n t):=by subst c;exact xtq b h hn a
end
end L2
end
section
namespace M
open PySem L2
structure Kn where
 name:Str
 rc:Bool
 parts:List (Str×Str)
def Kn.sort(k:Kn):Str:=if k.rc=true then S "rec" else S "alt"
def xkb(p:Str×Str):D:=.tup [.str p.1,.str p.2]
def xda(ps:List (Str×Str)):D:=.tup (ps.map xkb)
def Kn.d(k:Kn):D:=.tup [.str k.name,.str k.sort,xda k.parts]
def xdk(ks:List Kn):D:=.tup (ks.map Kn.d)
def kAt(ks:List Kn)(x:Str):Option Kn:=ks.find? λk=>decide (k.name=x)
def xuv:Option Kn->V
 |some k=>.str k.sort
 |none=>.non
def xkw:Option Kn->D
 |some k=>xda k.parts
 |none=>.tup []
def KsAt(H:Hp)(v:V)(ks:List Kn):Prop:=RelD H v (xdk ks)/\ks.length<=100/\∀k∈ks,k.parts.length<=100
theorem KsAt.same{H a:Hp}{v:V}{ks:List Kn}(h:KsAt H v ks)(s:Same H a):KsAt a v ks:=⟨h.1.same s _,h.2⟩
abbrev En:=Str->Option D
def En.put(e:En)(x:Str)(d:D):En:=λy=>if y=x then some d else e y
def EnAt(H:Hp)(p:Addr)(m:Nat)(e:En):Prop:=
 ∃kvs,H p=some (.dK kvs)/\kvs.length<=m/\∀x,(e x=none->valV kvs (Sum.inr x)=none)/\∀d,e x=some d->∃v,valV kvs (Sum.inr x)=some v/\RelD H v d
theorem EnAt.same{H b:Hp}{p:Addr}{m:Nat}{e:En}(h:EnAt H p m e)(s:Same H b):EnAt b p m e:=by
 obtain⟨kvs,g,f,a⟩:=h;refine⟨kvs,s _ _ g,f,λx=>⟨(a x).1,λd hd=>?_⟩⟩;obtain⟨v,c,r⟩:=(a x).2 d hd;exact⟨v,c,r.same s _⟩
theorem EnAt.mono{H:Hp}{p:Addr}{m a:Nat}{e:En}(h:EnAt H p m e)(l:m<=a):EnAt H p a e:=by
 obtain⟨kvs,c,f,b⟩:=h;exact⟨kvs,c,by omega,b⟩
theorem EnAt.put {H a:Hp} {p q:Addr} {m:Nat} {e:En} {kvs:List (Key×V)} (l:H p=some (.dK kvs)) (n:kvs.length<=m) (h:∀x,(e x=none->valV kvs (Sum.inr x)=none)/\∀d,e x=some d->∃v,valV kvs (Sum.inr x)=some v/\RelD H v d)
  (s:Same H a) {x:Str} {v:V} {d:D} (g:RelD a v d) (j:a q=some (.dK (putK kvs (Sum.inr x) v))):EnAt a q (m+1) (e.put x d):=by
 refine⟨_,j,by have:=xdf kvs (Sum.inr x) v;omega,λy=>?_⟩;rw[xgr];unfold En.put;by_cases c:y=x
 ·subst c
  rw[if_pos rfl,if_pos rfl];refine⟨λz=>(by cases z),λd' f=>?_⟩;cases f;exact⟨v,rfl,g⟩
 ·have b:¬(Sum.inr y:Key)=Sum.inr x:=λz=>c (Sum.inr.inj z)
  rw[if_neg c,if_neg b];refine⟨(h y).1,λd' f=>?_⟩;obtain⟨u,i,r⟩:=(h y).2 d' f;exact⟨u,i,r.same s _⟩
def opV(s:Str)(x y:Int):Int:=
 if s=S "+" then (x+y)%4294967296 else if s=S "-" then (x-y)%4294967296 else if s=S "*" then x*y%4294967296 else if s=S "<" then (if x<y then 1 else 0) else (if x=y then 1 else 0)
def Nm(x:Int):Prop:=0<=x/\x<4294967296
theorem xtw(s:Str)(x y:Int):Nm (opV s x y):=by
 have h:∀z:Int,Nm (z%4294967296):=λz=>⟨Int.emod_nonneg _ (by decide),Int.emod_lt_of_pos _ (by decide)⟩;unfold opV;split
 ·exact h _
 split
 ·exact h _
 split
 ·exact h _
 split
 ·split <;> exact⟨by decide,by decide⟩
 ·split <;> exact⟨by decide,by decide⟩
abbrev tNum(n:Int):D:=.tup [.str (S "num"),.int n]
abbrev tBox(x:Str):D:=.tup [.str (S "box"),.str x]
abbrev tOpD(s:Str)(a b:D):D:=.tup [.str (S "op"),.str s,a,b]
abbrev tRec(k:Str)(es:List D):D:=.tup [.str (S "rec"),.str k,.tup es]
abbrev tGet(a:D)(f:Str):D:=.tup [.str (S "get"),a,.str f]
abbrev tTag(k t:Str)(a:D):D:=.tup [.str (S "tag"),.str k,.str t,a]
abbrev dArm(r:Str×Str×D):D:=.tup [.str r.1,.str r.2.1,r.2.2]
abbrev xlk(a:D)(rs:List (Str×Str×D)):D:=.tup [.str (S "case"),a,.tup (rs.map dArm)]
abbrev tIfD(a b c:D):D:=.tup [.str (S "if"),a,b,c]
def xd6(env:En)(d v:D):Prop:=(∃n,d=tNum n/\v=.int n)\/∃x,env x=some v/\d=tBox x
def NodeEv(ks:List Kn)(R:En->D->D->Prop)(env:En)(d v:D):Prop:=
 (∃s a b x y,R env a (.int x)/\R env b (.int y)/\Nm x/\Nm y/\d=tOpD s a b/\v=.int (opV s x y)) ∨
 (∃k es vs,es.length<=1000/\All2 (R env) es vs/\d=tRec k es/\v=.tup [.str k,.tup vs]) ∨
 (∃a k vs f kn i,R env a (.tup [.str k,.tup vs])/\kAt ks k=some kn/\(kn.parts.map (·.1)).findIdx? (λz=>decide (z=f))=some i/\vs[i]?=some v/\d=tGet a f) ∨
 (∃k t a x,R env a x/\d=tTag k t a/\v=.tup [.str k,.str t,x]) ∨
 (∃a rs k t x y e,rs.length<=1000/\R env a (.tup [.str k,.str t,x])/\rs.find? (λr=>decide (r.1=t))=some (t,y,e)/\R (env.put y x) e v/\d=xlk a rs) ∨
 (∃a b c x,R env a (.int x)/\R env (if x=0 then c else b) v/\d=tIfD a b c)
def Ev(ks:List Kn):Nat->En->D->D->Prop
 |0=>xd6
 |n+1=>λenv d v=>xd6 env d v\/NodeEv ks (Ev ks n) env d v
def xot(env:En)(d:D)(k:Str):Prop:=(∃n,Nm n/\d=tNum n/\k=S "num")\/∃x,env x=some (.str k)/\d=tBox x
def xh9(kn:Kn)(f:Str):Option Str:=(kn.parts.find? λp=>decide (p.1=f)).map (·.2)
abbrev RKn:=En->D->Str->Prop
def OpKd(R:RKn):RKn:=λenv d k=>∃s a b,R env a (S "num")/\R env b (S "num")/\d=tOpD s a b/\k=S "num"
def xvc(ks:List Kn)(R:RKn):RKn:=λenv d k=>∃es kn,kAt ks k=some kn/\kn.rc=true/\All2 (λe (p:Str×Str)=>R env e p.2) es kn.parts/\d=tRec k es
def xvd(ks:List Kn)(R:RKn):RKn:=λenv d k=>∃a k1 f kn,R env a k1/\kAt ks k1=some kn/\kn.rc=true/\xh9 kn f=some k/\d=tGet a f
def xvb(ks:List Kn)(R:RKn):RKn:=λenv d k=>∃t a kn k1,kAt ks k=some kn/\kn.rc=false/\xh9 kn t=some k1/\R env a k1/\d=tTag k t a
def xuj (cs:Prop) (ks:List Kn) (R:RKn):RKn:=λenv d k=>cs/\∃a,∃rs:List (Str×Str×D),∃k1 kn,R env a k1/\kAt ks k1=some kn/\kn.rc=false/\rs≠[]/\rs.length=kn.parts.length/\(rs.map (·.1)).Nodup ∧
  (∀r∈rs,env r.2.1=none/\∃k2,xh9 kn r.1=some k2/\R (env.put r.2.1 (.str k2)) r.2.2 k)/\d=xlk a rs
def IfKd(R:RKn):RKn:=λenv d k=>∃a b c,R env a (S "num")/\R env b k/\R env c k/\d=tIfD a b c
def NodeKd(cs:Prop)(ks:List Kn)(R:RKn):RKn:=λenv d k=>OpKd R env d k\/xvc ks R env d k\/xvd ks R env d k\/xvb ks R env d k\/xuj cs ks R env d k\/IfKd R env d k
def Kd(cs:Prop)(ks:List Kn):Nat->En->D->Str->Prop
 |0=>xot
 |n+1=>λenv d k=>xot env d k\/NodeKd cs ks (Kd cs ks n) env d k
theorem xcw{α:Type}{p:α->Bool}{xs:List α}{i:Nat}{a:α}(h:(xs.take i).find? p=none)(c:xs[i]?=some a):(p a=true->xs.find? p=some a)/\(p a=false->(xs.take (i+1)).find? p=none):=by
 have hi:i<xs.length:=(zES c).1;have e:xs[i]=a:=(zES c).2;refine⟨λb=>?_,λb=>?_⟩
 ·have f:xs=xs.take i++a::xs.drop (i+1):=by
   rw[<- e,<- List.drop_eq_getElem_cons hi,List.take_append_drop]
  rw[f,List.find?_append,h];simp[b]
 ·rw[zTA,c,List.find?_append,h]
  simp[b]
theorem Same.new2{H:Hp}{p:Addr}(h:H p=none)(o c:HO):Same H (upd (upd H p o) p c):=λb u q=>by
 have a:=neN q h;rw[xar a,xar a];exact q
mutual
def D.deep:D->Nat
 |.int _=>0
 |.str _=>0
 |.tup ds=>xep ds+1
def xep:List D->Nat
 |[]=>0
 |d::ds=>max d.deep (xep ds)
end
theorem xdq:∀{ds:List D} {d:D},d∈ds->d.deep<=xep ds
 | e::ds,d,h=>by
  show d.deep<=max e.deep (xep ds);rcases zMC h with rfl |h
  ·omega
  ·have:=xdq h
   omega
theorem xdy{n:Nat}:∀{ds:List D},(∀d∈ds,d.deep<=n)->xep ds<=n
 |[],_=>Nat.zero_le _
 |e::ds,h=>by
  show max e.deep (xep ds)<=n;have b:=h e (by simp);have a:=xdy (ds:=ds) λd hd=>h d (List.mem_cons_of_mem _ hd);omega
section
variable {X:Cx}{pins:List (Addr×Obj)}{σ:St}{H:Hp}{s:Shared}
theorem xeu{vs:List V}{its:List Value}(r:Vals vs its){j:Nat}(a:j<its.toArray.size):∃x,vs[j]?=some x/\RelV x its.toArray[j]:=by
 have b:=r.length;have h:j<its.length:=by simpa using a
 obtain⟨u,e,q⟩:=r.get (i:=j) (x:=vs[j]'(by omega)) (zGA _)
 have g:its.toArray[j]=u:=by
  have:its[j]?=some its[j]:=zGA h;rw[e]at this;simpa using (Option.some.inj this).symm
 exact⟨vs[j]'(by omega),zGA _,by rw[g];exact q⟩
theorem xoc(I:Inv X pins σ H s):∀(n:Nat) (d:D) {x y:V} {u v:Value} {A:Around},d.deep<=n->RelD H x d->RelD H y d->RelV x u->RelV y v->A.units+n<cLine->SeqAt.EqAt A s u v true
 |n,.int i,x,y,u,v,A,_,hx,hy,ru,rv,_=>by
  cases hx;cases hy;obtain⟨t,rfl⟩:=ru;obtain⟨t',rfl⟩:=rv;have:=SeqAt.EqAt.int_int (A:=A) (s:=s) i t i t';rw[beq_self_eq_true]at this;exact this
 |n,.str z,x,y,u,v,A,_,hx,hy,ru,rv,_=>by
  cases hx;cases hy;obtain⟨t,rfl⟩:=ru;obtain⟨t',rfl⟩:=rv;have:=SeqAt.EqAt.str_str (A:=A) (s:=s) z t z t';rw[beq_self_eq_true]at this;exact this
 |0,.tup ds,x,y,u,v,A,h,_,_,_,_,_=>absurd h (Nat.not_succ_le_zero _)
 | n + 1,.tup ds,x,y,u,v,A,h,hx,hy,ru,rv,hA=>by
  obtain⟨a,vs,rfl,ha,rvs⟩:=hx;obtain⟨b,ws,rfl,hb,rws⟩:=hy;obtain rfl:u=.ref a:=ru;obtain rfl:v=.ref b:=rv;by_cases hab:a=b
  ·subst hab
   exact SeqAt.EqAt.same _
  ·obtain⟨its,r1,p1,_⟩:=I.tuple (SqT.of (K:=X.K) ha)
   obtain⟨its2,r2,p2,_⟩:=I.tuple (SqT.of (K:=X.K) hb);have l1:=r1.length;have l2:=r2.length;have l3:=rvs.length;have l4:=rws.length;have:=SeqAt.EqAt.of_refs hab (SeqAt.RcAt.tuples (A:=A) (e:=λ_=>true) p1 p2 (by omega) λj h1 h2=>?_)
   ·have e:((List.range (min its.toArray.size its2.toArray.size)).all (λ_=>true) && its.toArray.size == its2.toArray.size)=true:=by
     rw[show its.toArray.size=its2.toArray.size by simp only[List.size_toArray];omega];simp
    rw[e]at this;exact this
   ·obtain⟨x1,e1,q1⟩:=xeu r1 h1
    obtain⟨x2,e2,q2⟩:=xeu r2 h2;obtain⟨d1,f1,g1⟩:=rvs.get e1;obtain⟨d2,f2,g2⟩:=rws.get e2;rw[f1]at f2;cases f2;refine xoc I n d1 ?_ g1 g2 q1 q2 (by show A.units+1+n<cLine;omega);have:=xdq (zMG f1);have h':xep ds+1<=n+1:=h;omega
end
def five:List Nat:=[113,120,122,118,119]
def nmA(cs:List Nat)(a:Nat)(b:Int)(k:Nat):List Nat:=cs.take a++(97+((b+5*(k:Int))%26).toNat)::cs.drop a
def nmB(cs:List Nat)(a:Nat)(b:Int)(k:Nat):List Nat:=nmA cs a b (k-k%2)++List.replicate (k%2) 113
def xhk(nms:List Str):Prop:=nms.length=26/\nms.Nodup/\∀z∈nms,Name z
theorem xft(cs:List Nat)(a:Nat)(b:Int)(k:Nat):(nmA cs a b k).length=cs.length+1:=by
 unfold nmA;rw[zLA,List.length_cons,List.length_take,List.length_drop];omega
theorem xfs(cs:List Nat)(a:Nat)(b:Int)(k:Nat):(nmB cs a b k).length=cs.length+1+k%2:=by
 unfold nmB;rw[zLA,xft,List.length_replicate]
theorem xnm{cs:List Nat}{a:Nat}{b:Int}{k j:Nat}(e:k<26)(f:j<26)(h:nmA cs a b k=nmA cs a b j):k=j:=by
 unfold nmA at h;have c:=List.append_cancel_left h;have g:=(List.cons.inj c).1;omega
theorem xsa{cs:List Nat}{a:Nat}{b:Int}{k j:Nat}(g:k<26)(i:j<26)(h:nmB cs a b k=nmB cs a b j):k=j:=by
 have e:=congrArg List.length h;rw[xfs,xfs]at e;have c:k%2=j%2:=by omega
 unfold nmB at h;rw[c]at h;have f:=List.append_cancel_right h;have l:=xnm (by omega) (by omega) f;omega
theorem xii{f:Nat->Str}(h:∀k j,k<26->j<26->f k=f j->k=j):((List.range 26).map f).Nodup:=by
 refine List.pairwise_map.mpr (List.Pairwise.imp_of_mem (λhi b a e=>?_) (List.pairwise_lt_range (n:=26)));have:=h _ _ (List.mem_range.mp hi) (List.mem_range.mp b) e;omega
theorem xfz:∀c∈five,xeg c=true:=by decide
theorem xio(i:Int):xeg (97+(i%26).toNat)=true:=by
 unfold xeg;have b:0<=i%26:=Int.emod_nonneg _ (by decide);have a:i%26<26:=Int.emod_lt_of_pos _ (by decide);rw[Bool.and_eq_true,decide_eq_true_eq,decide_eq_true_eq];omega
theorem xno{l:List Nat}(i:1<=l.length)(h:l.length<=6)(f:∀c∈l,xeg c=true)(a:l.length=1\/∃c∈l,c∈five):Name (ofL l):=by
 show xpn l=true;unfold xpn
 have ne:∀z:List Nat,z.length≠1->(∀c∈z,c ∉five)->(l != z)=true:=λz hz g=>by
  rw[bne_iff_ne];intro e;subst e;rcases a with a |⟨c,b,a⟩
  ·exact hz a
  ·exact g c b a
 rw[ne [110,117,109] (by decide) (by decide),ne [105,116] (by decide) (by decide),zDT i,zDT h,List.all_eq_true.mpr f];rfl
theorem mem_nmA{cs:List Nat}{a:Nat}{b:Int}{k c:Nat}:c∈nmA cs a b k ↔ c∈cs\/c=97+((b+5*(k:Int))%26).toNat:=by
 unfold nmA;rw[List.mem_append,List.mem_cons]
 have e:c∈cs ↔ c∈cs.take a\/c∈cs.drop a:=by
  rw[<- List.mem_append,List.take_append_drop]
 rw[e];constructor
 ·rintro(h |h |h)
  ·exact .inl (.inl h)
  ·exact .inr h
  ·exact .inl (.inr h)
 ·rintro((h |h) |h)
  ·exact .inl h
  ·exact .inr (.inr h)
  ·exact .inr (.inl h)
theorem xpm{cs:List Nat}{a:Nat}{b:Int}{k:Nat}(g:cs.length<=4)(e:∀c∈cs,c∈five):Name (ofL (nmA cs a b k)):=by
 refine xno (by rw[xft];omega) (by rw[xft];omega) (λc f=>?_) ?_
 ·rcases mem_nmA.mp f with h |h
  ·exact xfz c (e c h)
  ·rw[h];exact xio _
 ·cases cs with
  |nil=>exact .inl (by rw[xft];rfl)
  |cons c r=>exact .inr ⟨c,mem_nmA.mpr (.inl (by simp)),e c (by simp)⟩
theorem xpl{cs:List Nat}{a:Nat}{b:Int}{k:Nat}(i:cs.length<=4)(f:∀c∈cs,c∈five):Name (ofL (nmB cs a b k)):=by
 refine xno (by rw[xfs];omega) (by rw[xfs];omega) (λc e=>?_) ?_
 ·unfold nmB at e
  rcases zMA e with e |e
  ·rcases mem_nmA.mp e with h |h
   ·exact xfz c (f c h)
   ·rw[h];exact xio _
  ·rw[(List.mem_replicate.mp e).2];decide
 ·by_cases g:k%2=0
  ·cases cs with
   |nil=>exact .inl (by rw[xfs,g];rfl)
   |cons c r=>exact .inr ⟨c,by unfold nmB;exact List.mem_append_left _ (mem_nmA.mpr (.inl (by simp))),f c (by simp)⟩
  ·refine .inr ⟨113,?_,by decide⟩
   unfold nmB;exact List.mem_append_right _ (List.mem_replicate.mpr ⟨by omega,rfl⟩)
theorem nmsA{cs:List Nat}{a:Nat}{b:Int}(h:cs.length<=4)(i:∀c∈cs,c∈five):xhk ((List.range 26).map λk=>ofL (nmA cs a b k)):=by
 refine⟨by simp,xii λk j f g e=>xnm f g (congrArg L e),λz hz=>?_⟩;obtain⟨k,_,rfl⟩:=zMP hz;exact xpm h i
theorem nmsB{cs:List Nat}{a:Nat}{b:Int}(h:cs.length<=4)(i:∀c∈cs,c∈five):xhk ((List.range 26).map λk=>ofL (nmB cs a b k)):=by
 refine⟨by simp,xii λk j f g e=>xsa f g (congrArg L e),λz hz=>?_⟩;obtain⟨k,_,rfl⟩:=zMP hz;exact xpl h i
theorem xo2(x:Str){j:Int}(h0:0<=j)(a:j<=x.length):Txt.slice x none (some j)=ofL ((L x).take j.toNat):=by
 have e:Txt.slice x none (some j)=StrLaws.sliceText x none (some j):=rfl;rw[e,StrLaws.sliceText_to ⟨h0,by rw[show x.cps.toList.length=x.length by simp[Str.length]];exact a⟩];show ofL ((((L x).drop 0).take (j-0).toNat))=_;rw[List.drop_zero,Int.sub_zero]
theorem xlm(x:Str){j:Int}(h0:0<=j)(a:j<=x.length):Txt.slice x (some j) none=ofL ((L x).drop j.toNat):=by
 have e:Txt.slice x (some j) none=StrLaws.sliceText x (some j) none:=rfl;rw[e,StrLaws.sliceText_from ⟨h0,by rw[show x.cps.toList.length=x.length by simp[Str.length]];exact a⟩];apply xou;show((L x).drop j.toNat).take _=(L x).drop j.toNat;refine zTL ?_;rw[List.length_drop];show(L x).length-j.toNat<=(((L x).length:Int)-j).toNat;omega
theorem xnv{i:Int}(h0:0<=i)(h:i<26):atI (S "abcdefghijklmnopqrstuvwxyz").cps.toList i=some (97+i.toNat):=by
 have all:∀k,k<26->(S "abcdefghijklmnopqrstuvwxyz").cps.toList[k]?=some (97+k):=by walk_at"k"
 have a:i=((i.toNat:Nat):Int):=by omega
 have q:=xa0 (all i.toNat (by omega));rw[<- a]at q;exact q
theorem xsp{i:Int}(h0:0<=i)(h:i<5):∃c∈five,atI (S "qxzvw").cps.toList i=some c:=by
 have e:(S "qxzvw").cps.toList=five:=by walk_at"k"
 rw[e];exact xlf h0 h
theorem xnn(cs:List Nat)(a ch:Nat):ofL (cs.take a)++(⟨#[ch]⟩:Str)++ofL (cs.drop a)=ofL (cs.take a++ch::cs.drop a):=by
 apply xou;rw[xd0,xd0,xdr,xdr,xdr];show cs.take a++[ch]++cs.drop a=_;simp
end M
namespace L2
open PySem PySem.Spec PyProof.Rows
theorem xr1{X:Cx}:OpR X (binaryOp .Mult) (λx y H Q=>∃i n,x=.str i/\y=.int n/\(n=0\/n=1)/\Q (.str (if n=1 then i else Str.empty)) H):=by
 intro pins s σ H x y v u Q I rx ry h;obtain⟨i,n,rfl,rfl,hn,q⟩:=h;obtain⟨t,rfl⟩:=rx;obtain⟨t',rfl⟩:=ry;refine SB.mul ?_ λt' k=>⟨.str _,H,I.tok k,⟨t',rfl⟩,?_⟩
 ·rcases hn with rfl |rfl
  ·exact⟨by decide,λh=>absurd (by decide) h,λh=>absurd (by decide) h⟩
  ·exact⟨by decide,λ_ h=>by simp at h,λ_ h=>by simp at h⟩
 ·have e:Txt.mul i n=if n=1 then i else Str.empty:=by
   rcases hn with rfl |rfl
   ·rfl
   ·unfold Txt.mul
    rw[if_neg (by decide),if_pos (by simp),if_pos rfl]
  rw[e];exact q
end L2
end
section
namespace M
open PySem L2
structure KWf(ks:List Kn):Prop where
 nd:(ks.map Kn.name).Nodup
 nm:∀k∈ks,Name k.name
 ref:∀(i:Nat) (k:Kn),ks[i]?=some k->∀p∈k.parts,p.2=S "num"\/∃j,∃k':Kn,j<i/\ks[j]?=some k'/\k'.name=p.2
 alt:∀k∈ks,k.rc=false->k.parts≠[]
 few:ks.length<=6
 pts:∀k∈ks,k.parts.length<=5
 pnd:∀k:Kn,k∈ks->(k.parts.map (λp:Str×Str=>p.1)).Nodup
 pnm:∀k:Kn,k∈ks->∀p∈k.parts,Name p.1
theorem xeb{x:Str}(h:Name x):x≠S "num":=λe=>by
 rw[e]at h;exact absurd (show xpn (S "num").cps.toList=true from h) (by walk_at"k")
theorem KWf.nil:KWf []:=⟨List.nodup_nil,(λ_ h=>nomatch h),(λi k h=>by simp at h),(λ_ h=>nomatch h),Nat.zero_le _,(λ_ h=>nomatch h),(λ_ h=>nomatch h),(λ_ h=>nomatch h)⟩
theorem xdx{α:Type}{f:α->Str}:∀{xs:List α} {i:Nat} {a:α},(xs.map f).Nodup->xs[i]?=some a->xs.find? (λz=>decide (f z=f a))=some a
 |x::xs,0,a,nd,h=>by
  simp at h;subst h;rw[List.find?_cons,zDT rfl]
 |x::xs,i+1,a,nd,h=>by
  have h':xs[i]?=some a:=by simpa using h
  rw[List.map_cons,List.nodup_cons]at nd;have b:f x≠f a:=λe=>nd.1 (by rw[e];exact List.mem_map_of_mem (zMG h'));rw[List.find?_cons,zDF b];exact xdx nd.2 h'
theorem KWf.at{ks:List Kn}(w:KWf ks){i:Nat}{k:Kn}(h:ks[i]?=some k):kAt ks k.name=some k:=xdx (f:=Kn.name) w.nd h
theorem KWf.no{ks:List Kn}{x:Str}(h:∀k∈ks,k.name≠x):kAt ks x=none:=by
 unfold kAt;rw[List.find?_eq_none];intro k a;simpa using h k a
theorem KWf.num{ks:List Kn}(w:KWf ks):kAt ks (S "num")=none:=KWf.no λk a=>xeb (w.nm k a)
def KIn(ks:List Kn)(n:Nat)(x:Str):Prop:=x=S "num"\/∃j k,j<n/\ks[j]?=some k/\k.name=x
theorem KIn.mono{ks:List Kn}{n m:Nat}{x:Str}(h:KIn ks n x)(l:n<=m):KIn ks m x:=by
 rcases h with h |⟨j,k,a,h⟩
 ·exact .inl h
 ·exact .inr ⟨j,k,by omega,h⟩
theorem KIn.ap{ks more:List Kn}{n:Nat}{x:Str}(h:KIn ks n x):KIn (ks++more) n x:=by
 rcases h with h |⟨j,k,b,a,c⟩
 ·exact .inl h
 ·exact .inr ⟨j,k,b,by rw[List.getElem?_append_left (zES a).1];exact a,c⟩
theorem KIn.of{ks:List Kn}{x:Str}(h:x=S "num"\/∃k∈ks,k.name=x):KIn ks ks.length x:=by
 rcases h with h |⟨k,b,h⟩
 ·exact .inl h
 ·obtain⟨j,a,e⟩:=zMI b
  exact .inr ⟨j,k,a,by rw[<- e];exact zGA a,h⟩
theorem KWf.snoc {ks:List Kn} (w:KWf ks) {k:Kn} (o:k.name ∉ks.map Kn.name) (n:Name k.name) (m:∀p∈k.parts,KIn ks ks.length p.2) (l:k.rc=false->k.parts≠[]) (r:ks.length<6) (j:k.parts.length<=5)
  (h:(k.parts.map (·.1)).Nodup) (g:∀p∈k.parts,Name p.1):KWf (ks++[k]):=by
 have c:∀{q:Kn->Prop},(∀z∈ks,q z)->q k->∀z∈ks++[k],q z:=λa b z hz=>by
  rcases zMA hz with hz |hz
  ·exact a z hz
  ·rw[zMO hz];exact b
 refine⟨?_,c w.nm n,?_,c w.alt l,by rw[zLA,List.length_singleton];omega,c w.pts j,c w.pnd h,c w.pnm g⟩
 ·rw[zAP]
  exact xj1 w.nd o
 ·intro i z hz p f
  by_cases hi:i<ks.length
  ·rw[List.getElem?_append_left hi]at hz
   exact KIn.ap (w.ref i z hz p f)
  ·rw[List.getElem?_append_right (by omega)]at hz
   have e:i-ks.length=0:=by
    have:=(zES hz).1;simp at this;omega
   rw[e]at hz;simp at hz;subst hz;exact(m p f).ap.mono (by omega)
def maxD:List Int->Int
 |[]=>0
 |n::ns=>max n (maxD ns)
theorem xnq:∀{ns:List Int} {n:Int},n∈ns->n<=maxD ns
 | m::ns,n,h=>by
  show n<=max m (maxD ns);rcases zMC h with rfl |h
  ·omega
  ·have:=xnq h
   omega
theorem xhe:∀{ns:List Int},ns≠[]->(∀n∈ns,0<=n)->maxD ns∈ns
 |[n],_,h=>by
  have h0:=h n (by simp);show max n 0∈[n];rw[Int.max_eq_left h0];simp
 |n::m::ns,_,h=>by
  have a:=xhe (ns:=m::ns) (by simp) λx b=>h x (List.mem_cons_of_mem _ b);show max n (maxD (m::ns))∈n::m::ns;rcases Int.le_total n (maxD (m::ns)) with e |e
  ·rw[Int.max_eq_right e];exact List.mem_cons_of_mem _ a
  ·rw[Int.max_eq_left e];simp
theorem xsc{ns:List Int}{m:Int}(hn:ns≠[])(h0:∀n∈ns,0<=n)(a:m∈ns)(h:∀n∈ns,n<=m):m=maxD ns:=by
 have c:=xnq a;have b:=h _ (xhe hn h0);omega
def szF:Nat->List Kn->Str->Int
 |0,_,_=>1
 |n+1,ks,x=>match kAt ks x with
  |none=>1
  |some k=>1+(if k.rc=true then (k.parts.map λp=>szF n ks p.2).sum else maxD (k.parts.map λp=>szF n ks p.2))
theorem xfg{ks:List Kn}(e:∀k∈ks,k.parts.length<=5):∀(n:Nat) (x:Str),1<=szF n ks x/\szF n ks x<=6 ^ n
 |0,x=>by simp[szF]
 | n + 1,x=>by
  unfold szF;have u:(1:Int)<=6 ^ n:=Int.pow_pos (by decide);have w:(6:Int) ^ (n+1)=6*6 ^ n:=by rw[Int.pow_succ,Int.mul_comm]
  cases j:kAt ks x with
  |none=>simp only;omega
  | some k=>
   simp only;have c:=e k (zMF j)
   have all:∀m∈k.parts.map (λp=>szF n ks p.2),1<=m/\m<=6 ^ n:=λm b=>by
    obtain⟨p,_,rfl⟩:=zMP b;exact xfg e n p.2
   have i:(k.parts.map (λp=>szF n ks p.2)).length<=5:=by rw[zLM];exact c
   generalize k.parts.map (λp=>szF n ks p.2)=ns at all i⊢
   have hs:∀(l:List Int),(∀m∈l,1<=m/\m<=(6:Int) ^ n)->0<=l.sum/\l.sum<=l.length*6 ^ n:=by
    intro l
    induction l with
    |nil=>intro _;simp
    |cons a r g=>
     intro h;have s:=h a (by simp);have o:=g λm b=>h m (List.mem_cons_of_mem _ b);rw[List.sum_cons,List.length_cons];push_cast;rw[Int.add_mul];omega
   have b:0<=maxD ns/\maxD ns<=6 ^ n:=by
    by_cases f:ns=[]
    ·subst f;simp[maxD];omega
    ·have:=all _ (xhe f λm b=>by have:=all m b;omega)
     omega
   have s:=hs ns all;have o:(ns.length:Int)*6 ^ n<=5*6 ^ n:=Int.mul_le_mul_of_nonneg_right (by omega) (by omega);split <;> omega
def KsSeq(H:Hp)(v:V)(ks:List Kn):Prop:=∃a vs,v=.ref a/\(H a=some (.lst vs)\/H a=some (.tup vs))/\RelDs H vs (ks.map Kn.d)
theorem KsSeq.same{H b:Hp}{v:V}{ks:List Kn}(h:KsSeq H v ks)(s:Same H b):KsSeq b v ks:=by
 obtain⟨a,vs,e,f,c⟩:=h;exact⟨a,vs,e,f.imp (s _ _) (s _ _),c.same s _⟩
theorem KWf.ksAt{ks:List Kn}(w:KWf ks){H:Hp}{v:V}(h:RelD H v (xdk ks)):KsAt H v ks:=⟨h,by have:=w.few;omega,λk a=>by have:=w.pts k a;omega⟩
theorem KsAt.seq{H:Hp}{v:V}{ks:List Kn}(h:KsAt H v ks):KsSeq H v ks:=by
 obtain⟨a,vs,e,c,b⟩:=h.1;exact⟨a,vs,e,.inr c,b⟩
def xf4:Option Kn->Str
 |some k=>k.sort
 |none=>S "num"
end M
namespace L2
open PySem PySem.Spec PyProof.Rows
theorem xtp{X:Cx}{b it:Expr}{e c:TI}(g:PI X b it e)(f:PI X b it c):PI X b it (λσ H R=>e σ H R\/c σ H R):=λa s σ H R I h=>by
 rcases h with h |h
 ·exact g a s σ H R I h
 ·exact f a s σ H R I h
end L2
namespace L2
theorem xdh{σ:St}{H:Hp}{A B:Hp->Prop}(h:A H):tYes σ H (λb a=>if b=true then A a else B a):=by
 unfold tYes;show if true=true then A H else B H;rw[if_pos rfl];exact h
end L2
namespace M
open PySem L2
theorem Fed.put{f p:Addr}{H c:Hp}(h:Fed f H c)(i:H p=none)(j:p≠f)(o:HO):Fed f H (upd c p o):=by
 obtain⟨s,x,y,e⟩:=h;refine⟨λb u a g=>?_,x,y,?_⟩
 ·rw[xar (neN a i)]
  exact s b u a g
 ·rw[xar (Ne.symm j)]
  exact e
theorem xco{H:Hp}{p:Addr}{us:List V}(h:H p=some (.lst us))(o:HO):∀b vs,H b=some (.tup vs)->upd H p o b=some (.tup vs):=λb vs a=>by
 rw[xar λe=>by rw[e,h]at a;cases a];exact a
theorem xhc{ks:List Kn}{r:Int}(h0:0<=r)(h:r<1+(ks.length:Int)):∃x,atI ([V.str (S "num")]++(ks.map Kn.name).map V.str) r=some (.str x)/\KIn ks ks.length x:=by
 have e:[V.str (S "num")]++(ks.map Kn.name).map V.str=(S "num"::ks.map Kn.name).map V.str:=rfl;obtain⟨z,hz,b⟩:=xlf (cs:=(S "num"::ks.map Kn.name).map V.str) h0 (by rw[zLM,List.length_cons,zLM];push_cast;omega);obtain⟨y,a,rfl⟩:=zMP hz;refine⟨y,by rw[e];exact b,?_⟩;rcases zMC a with rfl |a
 ·exact .inl rfl
 ·obtain⟨k,c,rfl⟩:=zMP a
  exact KIn.of (.inr ⟨k,c,rfl⟩)
theorem xkl{ys:List Str}{i:Nat}(h:i<ys.length):atI (ys.map V.str) (0+(i:Int))=some (.str ys[i]):=by
 rw[Int.zero_add];exact xa0 (by rw[zGM,zGA h];rfl)
theorem xug{a:List Str}(h:a.length=26):cutV (a.map V.str) (some 8) (some 12)=((a.drop 8).take 4).map V.str:=by
 unfold cutV HT.sIx;rw[zLM,h,List.map_take,List.map_drop];rfl
theorem xu1{a:List Str}(h:xhk a)(i:Nat):(((a.drop 8).take 4).take i).Nodup/\∀z∈((a.drop 8).take 4).take i,Name z:=by
 have hs:(((a.drop 8).take 4).take i).Sublist a:=((List.take_sublist _ _).trans (List.take_sublist _ _)).trans (List.drop_sublist _ _);exact⟨h.2.1.sublist hs,λz hz=>h.2.2 z (hs.subset hz)⟩
theorem xnk{a:List Str}(h:a.Nodup){i:Nat}(hi:i<a.length):a[i] ∉a.take i:=λb=>by
 obtain⟨j,c,e⟩:=zMI b;rw[List.length_take]at c;rw[List.getElem_take]at e;have:=(List.getElem_inj h).mp e;omega
def xuh(nms:List Str)(ks:List Kn):Prop:=KWf ks/\ks.length<=4/\ks.map Kn.name=nms.take ks.length/\∀k∈ks,k.parts.length<=4/\k.parts.map (·.1)=((nms.drop 8).take 4).take k.parts.length
theorem xqy{A:Around}{k:Nat}(a:Room k A):A.units+200<cLine:=by
 have:=a.un;omega
def nuT:Nat->List Kn->Str->D
 |0,_,_=>tNum 0
 | n+1,ks,x=>match kAt ks x with
  |none=>tNum 0
  |some k=>if k.rc=true then tRec x (k.parts.map λp=>nuT n ks p.2) else match k.parts with
   |[]=>tNum 0
   |p::_=>tTag x p.1 (nuT n ks p.2)
def nuV:Nat->List Kn->Str->D
 |0,_,_=>.int 0
 | n+1,ks,x=>match kAt ks x with
  |none=>.int 0
  |some k=>if k.rc=true then .tup [.str x,.tup (k.parts.map λp=>nuV n ks p.2)] else match k.parts with
   |[]=>.int 0
   |p::_=>.tup [.str x,.str p.1,nuV n ks p.2]
theorem KIn.look{ks:List Kn}(a:KWf ks){m:Nat}{x:Str}(h:KIn ks m x):(x=S "num"/\kAt ks x=none)\/∃j k,m=j+1/\kAt ks x=some k/\k.name=x/\k∈ks/\∀p∈k.parts,KIn ks j p.2:=by
 rcases h with rfl |⟨j,k,f,b,rfl⟩
 ·exact .inl ⟨rfl,a.num⟩
 ·refine .inr ⟨m-1,k,by omega,a.at b,rfl,zMG b,λp e=>?_⟩
  rcases a.ref j k b p e with z |⟨i,c,hi,z⟩
  ·exact .inl z
  ·exact .inr ⟨i,c,by omega,z⟩
def NuAt (ks:List Kn) (m:Nat) (x:Str):Prop:=
  (x=S "num"/\kAt ks x=none/\nuT (m+1) ks x=tNum 0/\nuV (m+1) ks x=.int 0) ∨
  ∃ j k,m=j+1/\kAt ks x=some k/\k.name=x/\k∈ks/\(∀p∈k.parts,KIn ks j p.2)/\x≠S "num" ∧
    ((k.rc=true/\nuT (m+1) ks x=tRec x (k.parts.map λp=>nuT m ks p.2)/\nuV (m+1) ks x=.tup [.str x,.tup (k.parts.map λp=>nuV m ks p.2)]) ∨
     (k.rc=false/\∃p r,k.parts=p::r/\nuT (m+1) ks x=tTag x p.1 (nuT m ks p.2)/\nuV (m+1) ks x=.tup [.str x,.str p.1,nuV m ks p.2]))
theorem KIn.nu{ks:List Kn}(b:KWf ks){m:Nat}{x:Str}(h:KIn ks m x):NuAt ks m x:=by
 rcases h.look b with⟨rfl,e⟩ |⟨j,k,rfl,e,hn,c,i⟩
 ·refine .inl ⟨rfl,e,?_,?_⟩
  ·unfold nuT;rw[e]
  ·unfold nuV;rw[e]
 ·refine .inr ⟨j,k,rfl,e,hn,c,i,by rw[<- hn];exact xeb (b.nm k c),?_⟩
  cases a:k.rc with
  | true=>
   refine .inl ⟨rfl,?_,?_⟩
   ·conv=>lhs;unfold nuT
    rw[e];show(if k.rc=true then _ else _)=_;rw[if_pos a]
   ·conv=>lhs;unfold nuV
    rw[e];show(if k.rc=true then _ else _)=_;rw[if_pos a]
  | false=>
   obtain⟨p,r,f⟩:∃p r,k.parts=p::r:=by
    cases g:k.parts with
    |nil=>exact absurd g (b.alt k c a)
    |cons p r=>exact⟨p,r,rfl⟩
   refine .inr ⟨rfl,p,r,f,?_,?_⟩
   ·conv=>lhs;unfold nuT
    rw[e];show(if k.rc=true then _ else _)=_;rw[if_neg (by rw[a];decide),f]
   ·conv=>lhs;unfold nuV
    rw[e];show(if k.rc=true then _ else _)=_;rw[if_neg (by rw[a];decide),f]
end M
end
section
namespace L2
open PySem PySem.Spec PyProof.Rows
theorem xl5:∀{xs:List V} {us:List Value},xs.length=us.length->(∀(i:Nat) x u,xs[i]?=some x->us[i]?=some u->RelV x u)->Vals xs us
 |[],[],_,_=>.nil
 |[],_::_,h,_=>by simp at h
 |_::_,[],h,_=>by simp at h
 |x::xs,u::us,h,k=>.cons (k 0 x u rfl rfl) (xl5 (by simpa using h) λi y w a b=>k (i+1) y w (by simpa using a) (by simpa using b))
end L2
end
section
namespace M
open PySem L2
theorem xho{ks:List Kn}{k:Kn}{x:Str}(h:kAt ks x=some k)(n:Nat):szF (n+1) ks x=1+(if k.rc=true then (k.parts.map λp=>szF n ks p.2).sum else maxD (k.parts.map λp=>szF n ks p.2)):=by
 conv=>lhs;unfold szF
 rw[h]
theorem xd7 {ks:List Kn} {x:Str} (h:kAt ks x=none):∀n,szF n ks x=1
  |0=>rfl
  | n + 1 => by conv => lhs;unfold szF
                rw[h]
theorem xox{ks:List Kn}(w:KWf ks)(j:Nat):∀(x:Str),KIn ks j x->∀n,j+1<=n->szF n ks x=szF (j+1) ks x:=by
 induction j with
 |zero=>
  intro x h n hn;rcases h.look w with⟨rfl,e⟩ |⟨i,k,b,_⟩
  ·rw[xd7 e,xd7 e]
  ·cases b
 | succ j c=>
  intro x h n hn;rcases h.look w with⟨rfl,e⟩ |⟨i,k,b,e,_,_,f⟩
  ·rw[xd7 e,xd7 e]
  ·cases b
   obtain⟨m,rfl⟩:∃m,n=m+1:=⟨n-1,by omega⟩;have this:(k.parts.map λp=>szF m ks p.2)=k.parts.map λp=>szF (j+1) ks p.2:=List.map_congr_left λp a=>c p.2 (f p a) m (by omega);rw[xho e,xho e,this]
def sz(ks:List Kn)(x:Str):Int:=szF 7 ks x
theorem xs9{ks:List Kn}(w:KWf ks):sz ks (S "num")=1:=xd7 w.num _
theorem xut{ks:List Kn}(w:KWf ks)(x:Str):1<=sz ks x:=(xfg w.pts 7 x).1
def inSz(k:Kn)(f:Str->Int):Int:=if k.rc=true then (k.parts.map λp=>f p.2).sum else maxD (k.parts.map λp=>f p.2)
theorem xgk{k:Kn}{f g:Str->Int}(h:∀p∈k.parts,f p.2=g p.2):inSz k f=inSz k g:=by
 unfold inSz;rw[List.map_congr_left (g:=λp=>g p.2) h]
theorem xuu{ks:List Kn}(w:KWf ks){i:Nat}{k:Kn}(h:ks[i]?=some k):sz ks k.name=1+inSz k (sz ks):=by
 have c:=w.few;have hi:i<ks.length:=(zES h).1;show szF 7 ks k.name=_;rw[xho (w.at h)];show 1+inSz k (szF 6 ks)=_;rw[xgk (g:=sz ks)];intro p b;have a:KIn ks 5 p.2:=KIn.mono (n:=i) (w.ref i k h p b) (by omega);exact(xox w 5 p.2 a 7 (by omega)).symm
theorem xt5{ks more:List Kn}{x:Str}{k:Kn}(h:kAt ks x=some k):kAt (ks++more) x=some k:=by
 unfold kAt at h⊢;rw[List.find?_append,h];rfl
theorem xqe{ks more:List Kn}(w:KWf ks)(b:KWf (ks++more)):∀(n:Nat) (x:Str),KIn ks ks.length x->szF n (ks++more) x=szF n ks x
 |0,_,_=>rfl
 |n+1,x,h=>by
  rcases h.look w with⟨rfl,e⟩ |⟨i,k,f,e,_,_,c⟩
  ·rw[xd7 e,xd7 b.num]
  ·rw[xho e,xho (xt5 e),List.map_congr_left (g:=λp=>szF n ks p.2) λp a=>xqe w b n p.2 ((c p a).mono (by omega))]
theorem xta{ks more:List Kn}(w:KWf ks)(a:KWf (ks++more)){x:Str}(h:KIn ks ks.length x):sz (ks++more) x=sz ks x:=xqe w a 7 x h
def Fit(ks:List Kn):Prop:=∀k∈ks,sz ks k.name<=30
theorem Fit.nil:Fit []:=λ_ h=>nomatch h
theorem Fit.snoc{ks:List Kn}{k:Kn}(w:KWf ks)(a:KWf (ks++[k]))(f:Fit ks)(c:∀p∈k.parts,KIn ks ks.length p.2)(e:inSz k (sz ks)<=29):Fit (ks++[k]):=by
 intro z hz;rcases zMA hz with hz |hz
 ·rw[xta w a (KIn.of (.inr ⟨z,hz,rfl⟩))]
  exact f z hz
 ·rw[zMO hz,xuu a (i:=ks.length) (by simp),xgk (g:=sz ks) λp b=>xta w a (c p b)]
  omega
end M
end
section
end
section
end
section
end
section
end
section
namespace L2
open PySem PySem.Spec PyProof.Rows
open PySem.W in
def ad(K:Frag)(x:Str):Addr:=match nsIn K mainGlobals x with |some (some (.ref C))=>C |_=>0
theorem xva{K:Fg}{x:Str}{C:Addr}(e:PySem.W.nsIn K mainGlobals x=some (some (.ref C))):ad K x=C:=by unfold ad;rw[e]
def xev(s:Stmt)(j:Nat):Stmt:=match s with
 |.ClassDef _ _ _ b _ _ _ _ _ _ _=>b.getD j (.Pass ⟨0,0,0,0⟩)
 |_=>.Pass ⟨0,0,0,0⟩
end L2
end
section
namespace L2
open PySem PySem.Spec PyProof.Rows M
section
variable {X:Cx}
def xqk(K:Fg):R2:=λx y H Q=>∃a b xs ys,x=.ref a/\y=.ref b/\SqT K H a xs/\SqT K H b ys/\xs.length+ys.length<=sizeLine ∧
 (xs=[]->Q (.ref b) H)/\(xs≠[]->ys=[]->Q (.ref a) H)/\(xs≠[]->ys≠[]->∀p,H p=none->Q (.ref p) (upd H p (.tup (xs++ys))))
theorem xo9:OpR X (binaryOp .Add) (xqk X.K):=by
 intro c s σ H x y v u Q I r p h;obtain⟨a,b,xs,ys,rfl,rfl,G,C,hz,Y,U,O⟩:=h;by_cases f:xs=[]
 ·cases r
  cases p;obtain⟨its,M,p1,_⟩:=I.tuple G;obtain⟨e,r2,Z,_⟩:=I.tuple C;obtain⟨⟨cls,dd,data,sl⟩,w,z,n,hd⟩:=id p1;obtain⟨⟨J,m,o,l⟩,g,j,n2,i⟩:=id Z;simp only at z hd j i;subst z hd j i
  exact concat_meets ⟨_,w,rfl⟩ ⟨_,g,rfl⟩ noFill_tuple_add seq_tuple_add PySem.F.slot_tuple_add PySem.F.entry_tuple_add (PySem.F.args_tuple_add_2 _ _)
   (tuple_addW0 a b its.toArray e.toArray n n2 dd m sl l (by rw[M.nil_iff.mpr f];rfl)) ⟨w,g,⟨.ref b,H,I,rfl,Y f⟩⟩
 ·exact xr2 c s σ H _ _ v u Q I r p ⟨a,b,xs,ys,rfl,rfl,G,C,f,hz,U f,O f⟩
end
end L2
end
section
namespace PySem
open Sem (wp)
section
variable {prog:Program}{w:World}{A:Around}{E:Value->Shared->Prop}{s:Shared}
theorem xei {a:Addr} {xs:Array Value} {k:Nat} {sl:Array (Option Value)} {name:Str} {Q:Option Value->Shared->Prop}
  (hx:s.heap.get? a=some {cls:=.type "list",dict:=none,data:=.seq xs k,slots:=sl}) (hmiss:typeLookup (.type "list") name=pure none) (hname:(["__module__","__name__","__qualname__","__doc__","__annotations__"]:List Str).contains name=false) (hA:A.handled=none)
  (h:∀h' tk,(∀b o,s.heap.get? b=some o->h'.get? b=some o)->Q none {s with heap:=h',toks:=tk}) (hsz:name.length+100<=sizeLine) :
  wpAny (model prog w) A (getAttr? (.ref a) name) Q E s:=by
 obtain⟨hp,g,d,tk,os⟩:=s;have hT:∀tk',(⟨hp,g,d,tk',os⟩:Shared).TypeIs (.ref a) "list":=λ_=>⟨_,hx,rfl⟩;have f1:=sub_AttributeError;have f3:=F.slot_list_getattribute.lookup;have f4:=F.slot_list_getattribute.bind (.ref a);have f5:=am_list_getattr_none;unfold getAttr? getAttrBy? getAttrBy
 repeat (any_goals (first |assumption |exact hT _ |((with_reducible show wpAny _ _ (call (Value.builtin "list.__getattribute__") _ _) _ _ _);refine call_meets F.slot_list_getattribute (hT _) am_entry_list_getattribute (F.args_list_getattribute_2 _ _) (meets_getattribute_miss_list a xs k sl name _ hmiss hname hsz) ⟨hx,hA,λh' tk' e hx'=>?_⟩) |wp_step))
 obtain⟨t',u',he⟩:=hx'.there;show wpAny _ _ (getattributeRaised _ _ _ _ _ _ _) _ _ _;unfold getattributeRaised
 repeat (any_goals (first |assumption |wp_step))
 all_goals first |exact h _ _ hx'.keeps |skip
end
end PySem
namespace L2
open PySem PySem.Spec PyProof.Rows
theorem xcu:plainId "dict.update.loop"=true:=by walk_at"k"
theorem xd5:entryFor table "dict.update.loop"=some Builtin.«dict.update.loop»:=entryFor_of_fast (by kernel_rfl)
section
variable {prog:Program}{w:World}{A:Around}{K:Type}[DecidableEq K]{knd:KeyKind prog w K}
def PairsAt(knd:KeyKind prog w K)(h:Heap):List Value->List (K×Value)->Prop
 |[],[]=>True
 |it::its,p::ps=>(∃a key,it=.ref a/\h.IsTuple a #[key,p.2]/\knd.is p.1 key=true)/\PairsAt knd h its ps
 |_,_=>False
theorem PairsAt.keep{h h':Heap}:∀{its:List Value} {ps:List (K×Value)},PairsAt knd h its ps->(∀a xs,h.IsTuple a xs->h'.IsTuple a xs)->PairsAt knd h' its ps
 |[],[],_,_=>trivial
 |it::its,p::ps,⟨⟨a,b,e,f,c⟩,r⟩,k=>⟨⟨a,b,e,k _ _ f,c⟩,PairsAt.keep r k⟩
 |[],_::_,h,_=>h.elim
 |_::_,[],h,_=>h.elim
theorem xje{h:Heap}{a d:Addr}{xs:Array Value}{kvs:List (K×Value)}(g:h.IsTuple a xs)(hd:h.DictOf knd d kvs):a≠d:=λe=>by
 subst e;obtain⟨o,i,j,_⟩:=g;obtain⟨t,_,_,f,c,_⟩:=hd;have b:=c.1;have:o=t:=Option.some.inj (i.symm.trans f);subst this;rw[j]at b;exact absurd (Value.type.inj b) (by decide)
theorem xff{h:Heap}{a I l:Addr}{i:Nat}{xs:Array Value}(f:h.IsTuple a xs)(hd:h.IsListIter I l i):a≠I:=λe=>by
 subst e;obtain⟨o,g,j,_⟩:=f;obtain⟨t,c,b,_⟩:=hd;have:o=t:=Option.some.inj (g.symm.trans c);subst this;rw[j]at b;exact absurd (Value.type.inj b) (by decide)
theorem xov {R:Result->Shared->Prop} {I l d:Addr} {its:List Value} {ps:List (K×Value)} (hh:A.in1.handled=none) (a0:l≠I) (a7:l≠d) (G:I≠d) :
    ∀(k i:Nat) (s:Shared) (f:List (K×Value)),its.length-i=k->i<=its.length->s.heap.IsListIter I l i->s.heap.IsList l its.toArray->s.heap.DictOf knd d f->PairsAt knd s.heap (its.drop i) (ps.drop i)->f.length+(its.length-i)<=sizeLine->
    (∀h' tk,h'.DictOf knd d (merged f (ps.drop i))->(∀b o,b≠d->b≠I->s.heap.get? b=some o->h'.get? b=some o)->R (.ok (.ret .none)) {s with heap:=h',toks:=tk})->
    codeAny (model prog w) A (.builtin "dict.update.loop" ⟨[.ref d,.ref I,rawInt i,.none],[]⟩) R s:=by
  intro k
  induction k with
  | zero=>
    intro i s f hk hi g hl hd j hsz hR;have C:i=its.length:=by omega
    have W:=Walks.list (prog:=prog) (w:=w) (A:=A.in1) hh I l a0 its.toArray;refine codeAny_builtin xd5 ?_;rw[Around.under_plainId xcu _];show wpAny _ A.in1 (pyNext (.ref I) >>= _) _ _ s
    refine wpAny_bind (W.done s _ _ (by have e:its.toArray.size = i := by simp[C]
                                        rw[e];exact⟨g,hl⟩) λh' tk c=>?_)
    show wpAny _ _ (Builtin.Dict.addKeywords d [] >>= _) _ _ _;refine wpAny_bind (wpAny_pure (wpAny_pure ?_))
    have a5:ps.drop i=[]:=by
      rw[C,List.drop_length]at j;rw[C]
      cases hq:ps.drop its.length with
      |nil=>rfl
      |cons p r=>rw[hq]at j;exact j.elim
    refine hR h' tk ?_ λb o J n e=>c b o (by simpa using n) e;rw[a5];exact hd.at λo e=>c d o (by simpa using (Ne.symm G)) e
  | succ k ih=>
    intro i s f hk hi g hl hd j hsz hR;have m:i<its.length:=by omega
    have W:=Walks.list (prog:=prog) (w:=w) (A:=A.in1) hh I l a0 its.toArray;have a8:its.drop i=its[i]::its.drop (i+1):=List.drop_eq_getElem_cons m;rw[a8]at j
    obtain⟨p,r,z⟩:∃p r,ps.drop i=p::r:=by
      cases hq:ps.drop i with
      |nil=>rw[hq]at j;exact j.elim
      |cons p r=>exact⟨p,r,rfl⟩
    have Y:ps.drop (i+1)=r:=by rw[<- List.tail_drop,z];rfl
    rw[z]at j;obtain⟨⟨a,x,ea,U,a1⟩,y⟩:=j;refine codeAny_builtin xd5 ?_;rw[Around.under_plainId xcu _];show wpAny _ A.in1 (pyNext (.ref I) >>= _) _ _ s;refine wpAny_bind (W.item i s _ _ (by simpa using m) ⟨g,hl⟩ λv h' tk hP u c=>?_)
    have hv:v=.ref a:=by
      have:its[i]?=some v:=by simpa using hP
      rw[zGA m,ea]at this;exact(Option.some.inj this).symm
    subst hv;have O:h'.IsTuple a #[x,p.2]:=U.at λo e=>c a o (by simpa using xff U g) e;have a3:h'.DictOf knd d f:=hd.at λo e=>c d o (by simpa using (Ne.symm G)) e;obtain⟨oa,Z,ab,na,a9⟩:=id O;refine wpAny_bind (wpAny_holding (wpAny_bind (wpAny_tryCatch ?_)));unfold Builtin.Dict.pairItems;refine wpAny_bind (wpAny_typeOf ⟨oa,Z,ab⟩ ?_);rw[if_pos (by decide)];refine wpAny_bind (wpAny_seqItems Z a9 (wpAny_pure ?_));show wpAny _ _ (holding [x,p.2] (dictSet d x p.2)) _ _ _;refine wpAny_holding (wpAny_dictSet_pairs a1 a3 (λh2 aa h=>?_) (by omega));have M:h2.IsListIter I l (i+1)/\h2.IsList l its.toArray:=⟨u.1.at λo e=>(h.2 I G).trans e,u.2.at λo e=>(h.2 l a7).trans e⟩;refine wpAny_pure ⟨plainId_quiet xcu _,ih (i+1) _ _ (by omega) m M.1 M.2 aa ?_ ?_ λh3 a4 a2 a6=>?_⟩
    · rw[Y]
      exact y.keep λb xs J=>by
        have h1:h'.IsTuple b xs:=J.at λo e=>c b o (by simpa using xff J g) e;exact h1.at λo e=>(h.2 b (xje h1 a3)).trans e
    · have:=stored_length_le f p.1 p.2
      omega
    · refine hR h3 a4 ?_ λb o J n e=>a6 b o J n ((h.2 b J).trans (c b o (by simpa using n) e))
      rw[z];rw[Y]at a2;exact a2
end
theorem xim:typeLookup (.type "list") "keys"=pure none:=am_miss_of_fast (by kernel_rfl)
section
variable {prog:Program}{w:World}{A:Around}{E:Value->Shared->Prop}{s:Shared}{K:Type}[DecidableEq K]{knd:KeyKind prog w K}
theorem xi0 {l:Addr} {its:List Value} {n:Nat} {ps:List (K×Value)} {Q:Value->Shared->Prop} (hh:A.handled=none) (hl:s.heap.get? l=some {cls:=.type "list",data:=.seq its.toArray n}) (hp:PairsAt knd s.heap its ps) (hsz:its.length<=sizeLine)
  (h:∀h' tk,h'.DictOf knd s.heap.objs.size (merged [] ps)->(∀b o,s.heap.get? b=some o->h'.get? b=some o)->Q (.ref s.heap.objs.size) {s with heap:=h',toks:=tk}) :
  wpAny (model prog w) A (call (.type "dict") [.ref l]) Q E s:=by
 refine callType_codes (Q₁:=λobj s₁=>obj=.ref s.heap.objs.size/\s₁={s with heap:=s.heap.push {cls:=.type "dict",data:=.dict #[]}}) F.kt_called_dict (F.kt_typeCall_dict_1 _) F.entry_dict_init (kt_code_dict_new _ ⟨rfl,rfl⟩) ?_;rintro obj s₁ ⟨rfl,rfl⟩;have hnew:(s.heap.push {cls:=.type "dict",data:=.dict #[]}).DictOf knd s.heap.objs.size []:=Heap.DictOf.new s.heap;have ext0:∀b o,s.heap.get? b=some o->(s.heap.push {cls:=.type "dict",data:=.dict #[]}).get? b=some o:=λb o e=>zPO _ e;have hl0:=ext0 _ _ hl;have hT:(⟨s.heap.push {cls:=.type "dict",data:=.dict #[]},s.gens,s.drawn,s.toks,s.os⟩:Shared).TypeIs (.ref l) "list":=⟨_,hl0,rfl⟩;have hdl:l≠s.heap.objs.size:=λe=>absurd (Heap.lt_size hl) (by rw[e];exact Nat.lt_irrefl _);refine⟨hnew.typeIs,F.args_dict_init_2 _ _,?_⟩;unfold Builtin.«dict.__init__»;refine wpAny_bind ?_;unfold Builtin.Dict.selfAndRest;refine wpAny_bind (wpAny_notOrdered_dict hnew.typeIs ?_);show wpAny _ _ (pure (s.heap.objs.size,[Value.ref l])) _ _ _;refine wpAny_pure ?_;show wpAny _ _ (Builtin.Dict.updateFrom "dict.__init__" s.heap.objs.size (.ref l) [] .none) _ _ _;unfold Builtin.Dict.updateFrom;refine wpAny_bind (wpAny_typeOf hT ?_);rw[if_pos (by decide)];refine wpAny_bind (xei (sl:=#[]) hl0 xim (by walk_at"k") hh (λh1 tk1 k1=>?_) (by walk_at"k"));rw[if_pos (show(none:Option Value).isNone=true from rfl)];refine wpAny_bind (wpAny_rule ?_);have hl1:=k1 _ _ hl0;have hL1:h1.IsList l its.toArray:=⟨_,hl1,rfl,_,rfl⟩
 refine wpAny_bind (wpAny_pyIter_list hL1 (wpAny_pure ⟨plainId_quiet xcu _,?_⟩));have hsz1:s.heap.objs.size<h1.objs.size:=Heap.lt_size (k1 _ _ (Heap.get?_push_size _ rfl));have hlI:l<h1.objs.size:=Heap.lt_size hl1;have ext2:∀b o,h1.get? b=some o->(h1.push {cls:=.type "list_iterator",data:=.fields #[.ref l,.int 0 0]}).get? b=some o:=λb o e=>zPO _ e;refine xov (knd:=knd) (A:=A.in1) (ps:=ps) (l:=l) (d:=s.heap.objs.size) (its:=its) hh (Nat.ne_of_lt hlI) hdl (Nat.ne_of_gt hsz1) its.length 0 _ [] (Nat.sub_zero _) (Nat.zero_le _) ⟨_,Heap.get?_push_size _ rfl,rfl,rfl⟩ (hL1.push _) (hnew.at λo e=>ext2 _ _ (k1 _ _ e)) (hp.keep λa xs ha=>ha.at λo e=>ext2 _ _ (k1 _ _ (ext0 _ _ e))) (by simpa using hsz) λh3 tk3 hd3 hk3=>?_;refine⟨rfl,h h3 tk3 hd3 λb o e=>hk3 b o ?_ ?_ (ext2 _ _ (k1 _ _ (ext0 _ _ e)))⟩
 ·exact λz=>absurd (Heap.lt_size e) (by rw[z];exact Nat.lt_irrefl _)
 ·exact λz=>absurd (Heap.lt_size e) (by rw[z];exact Nat.not_lt_of_gt hsz1)
end
def PairsV(H:Hp):List V->List (Key×V)->Prop
 |[],[]=>True
 |y::ys,kv::kvs=>(∃b,y=.ref b/\H b=some (.tup [kV kv.1,kv.2]))/\PairsV H ys kvs
 |_,_=>False
theorem PairsV.same{H a:Hp}(s:∀b us,H b=some (.tup us)->a b=some (.tup us)):∀{ys:List V} {kvs:List (Key×V)},PairsV H ys kvs->PairsV a ys kvs
 |[],[],_=>trivial
 |y::ys,f::kvs,⟨⟨b,e,c⟩,r⟩=>⟨⟨b,e,s _ _ c⟩,PairsV.same s r⟩
 |[],_::_,h=>h.elim
 |_::_,[],h=>h.elim
theorem PairsV.append{H:Hp}:∀{ys zs:List V} {kvs more:List (Key×V)},PairsV H ys kvs->PairsV H zs more->PairsV H (ys++zs) (kvs++more)
 |[],zs,[],more,_,k=>k
 |y::ys,zs,a::kvs,more,⟨h,r⟩,k=>⟨h,PairsV.append r k⟩
 |[],_,_::_,_,h,_=>h.elim
 |_::_,_,[],_,h,_=>h.elim
theorem PairsV.length{H:Hp}:∀{ys:List V} {kvs:List (Key×V)},PairsV H ys kvs->ys.length=kvs.length
 |[],[],_=>rfl
 |y::ys,a::kvs,⟨_,r⟩=>by rw[List.length_cons,List.length_cons,PairsV.length r]
 |[],_::_,h=>h.elim
 |_::_,[],h=>h.elim
section
variable {X:Cx}
theorem xky{a:List (Addr×Obj)}{σ:St}{H:Hp}{s:Shared}(I:Inv X a σ H s):∀{ys:List V} {its:List Value} {kvs:List (Key×V)},Vals ys its->PairsV H ys kvs->∃ps,KV kvs ps/\PairsAt (xb9 X.prog X.w) s.heap its ps
 |[],_,[],r,_=>by cases r;exact⟨[],.nil,trivial⟩
 | y::ys,_,j::kvs,r,⟨⟨b,o,n⟩,rest⟩=>by
  subst o
  cases r with
  |cons h t=>
   obtain⟨ps,m,l⟩:=xky I t rest;obtain⟨c,g,i,_⟩:=I.tuple (SqT.of (K:=X.K) n);obtain⟨f,e,rfl,u,p⟩:=g.two;exact⟨(j.1,e)::ps,.cons ⟨rfl,p⟩ m,⟨b,f,h,i,xps u⟩,l⟩
 |[],_,_::_,_,h=>h.elim
 |_::_,_,[],_,h=>h.elim
theorem xc1(hc:X.calm=true):xd2 X (.type "dict") (λxs H Q=>∃a ys,∃kvs:List (Key×V),xs=[.ref a]/\H a=some (.lst ys)/\PairsV H ys kvs/\∀p,H p=none->Q (.ref p) (upd H p (.dK (xcz [] kvs)))):=by
 intro pins s σ H xs us Q I r h;obtain⟨a,ys,kvs,rfl,ha,hp,q⟩:=h;obtain⟨u,rfl,ru⟩:=xf3 r;obtain rfl:u=.ref a:=ru;obtain⟨hz,its,n,rv,hl⟩:=(show ObjOk X.prog X.w H s.heap a (.lst ys) from I.hok a _ ha);obtain⟨ps,hk,hpa⟩:=xky I rv hp;have hyl:=hp.length;refine xi0 (knd:=xb9 X.prog X.w) (I.ok.hd hc) hl hpa (by rw[<- rv.length];exact hz) λh' tk dd' k'=>?_
 have hz':(xcz [] kvs).length<=sizeLine:=by
  have:=xef kvs [];rw[List.length_nil]at this;omega
 exact⟨.ref s.heap.objs.size,_,I.laid (a:=s.heap.objs.size) (o:=.dK (xcz [] kvs)) (t':=tk) k' (Nat.le_refl _) (xoh hz' (beq_eq_false_iff_ne.mpr (Ne.symm (Nat.ne_of_lt I.big))) (hk.merge .nil) dd'),rfl,q _ (I.hok.fresh (Nat.le_refl _))⟩
end
end L2
end
section
namespace L2
open PySem PySem.Spec PySem.W PyProof.Rows M
theorem KV.get2{κ:Type}{kvs:List (κ×V)}{vs:List (κ×Value)}(r:KV kvs vs){i:Nat}{q:κ×Value}(a:vs[i]?=some q):∃v,kvs[i]?=some (q.1,v)/\RelV v q.2:=by
 unfold KV at r
 induction r generalizing i with
 |nil=>simp at a
 | @cons p c as bs h t b=>
  cases i with
  |zero=>
   simp at a;subst a;exact⟨p.2,by simp[<- h.1],h.2⟩
  |succ i=>exact b (by simpa using a)
end L2
end
section
namespace M
open PySem L2
inductive Vk(ks:List Kn):Str->D->Prop
 |num (i:Int) (h:Nm i):Vk ks (S "num") (.int i)
 |rc {x:Str} {k:Kn} {ws:List D} (hk:kAt ks x=some k) (hr:k.rc=true) (hl:ws.length=k.parts.length) (h:∀(i:Nat) (w:D) (p:Str×Str),ws[i]?=some w->k.parts[i]?=some p->Vk ks p.2 w):Vk ks x (.tup [.str x,.tup ws])
 |al {x:Str} {k:Kn} {p:Str×Str} {w:D} (hk:kAt ks x=some k) (hr:k.rc=false) (hp:p∈k.parts) (h:Vk ks p.2 w):Vk ks x (.tup [.str x,.str p.1,w])
theorem xgc{ks:List Kn}(b:KWf ks){x:Str}{v:D}(c:x=S "num")(h:Vk ks x v):∃i,Nm i/\v=.int i:=by
 cases h with
 |num i hi=>exact⟨i,hi,rfl⟩
 |rc a=>rw[c,b.num]at a;cases a
 |al a=>rw[c,b.num]at a;cases a
theorem xp9{ks:List Kn}(e:KWf ks){x:Str}{k:Kn}{v:D}(c:kAt ks x=some k)(f:k.rc=true)(h:Vk ks x v):∃ws,ws.length=k.parts.length/\(∀(i:Nat) w p,ws[i]?=some w->k.parts[i]?=some p->Vk ks p.2 w)/\v=.tup [.str x,.tup ws]:=by
 cases h with
 |num i hi=>rw[e.num]at c;cases c
 |rc b a g h=>
  rw[c]at b;cases b;exact⟨_,g,h,rfl⟩
 |al b a=>
  rw[c]at b;cases b;rw[f]at a;cases a
theorem xqa{ks:List Kn}(e:KWf ks){x:Str}{k:Kn}{v:D}(c:kAt ks x=some k)(f:k.rc=false)(h:Vk ks x v):∃p∈k.parts,∃w,Vk ks p.2 w/\v=.tup [.str x,.str p.1,w]:=by
 cases h with
 |num i hi=>rw[e.num]at c;cases c
 |rc b a=>
  rw[c]at b;cases b;rw[f]at a;cases a
 |@al _ _ p w b a g h=>
  rw[c]at b;cases b;exact⟨p,g,w,h,rfl⟩
theorem xjc{ks:List Kn}(a:KWf ks):∀(m:Nat) (x:Str) (v:D),KIn ks m x->Vk ks x v->v.deep<=2*m
 | 0,x,v,b,h=>by
  rcases b.look a with⟨e,_⟩ |⟨j,k,e,_⟩
  ·obtain⟨i,_,rfl⟩:=xgc a e h
   exact Nat.zero_le _
  ·cases e
 | m + 1,x,v,b,h=>by
  rcases b.look a with⟨e,_⟩ |⟨j,k,e,c,hn,r,n⟩
  ·obtain⟨i,_,rfl⟩:=xgc a e h
   exact Nat.zero_le _
  ·cases e
   cases o:k.rc with
   | true=>
    obtain⟨ws,s,g,rfl⟩:=xp9 a c o h
    have:xep ws<=2*m:=xdy λd hd=>by
     obtain⟨i,hi,e⟩:=zMI hd;have f:i<k.parts.length:=by omega
     exact xjc a m _ d (n _ (List.getElem_mem f)) (g i d k.parts[i] (by rw[<- e];exact zGA hi) (zGA f))
    show max 0 (max (xep ws+1) 0)+1<=2*(m+1);omega
   |false=>
    obtain⟨p,l,w,g,rfl⟩:=xqa a c o h;have:=xjc a m _ w (n p l) g;show max 0 (max 0 (max w.deep 0))+1<=2*(m+1);omega
def FitB(ks:List Kn)(bs:List (Str×Str))(env:En):Prop:=∀p∈bs,∃v,env p.1=some v/\Vk ks p.2 v
theorem FitB.put{ks:List Kn}{bs:List (Str×Str)}{env:En}{y k:Str}{v:D}(h:FitB ks bs env)(c:∀p∈bs,p.1≠y)(e:Vk ks k v):FitB ks (bs++[(y,k)]) (env.put y v):=λp a=>by
 unfold En.put;rcases zMA a with a |a
 ·obtain⟨b,g,f⟩:=h p a
  exact⟨b,by rw[if_neg (c p a)];exact g,f⟩
 ·rw[zMO a]
  exact⟨v,by rw[if_pos rfl],e⟩
def Sg(s:Str):Prop:=s=S "+"\/s=S "-"\/s=S "*"\/s=S "<"\/s=S "="
def SgD(d:D):Prop:=∀s a b,d=tOpD s a b->Sg s
def Evs(ks:List Kn):Nat->En->D->D->Prop
 |0=>xd6
 |n+1=>λenv d v=>xd6 env d v\/(NodeEv ks (Evs ks n) env d v/\SgD d)
theorem All2.imp3{α β:Type}{R c:α->β->Prop}(k:∀a b,R a b->c a b):∀{as:List α} {bs:List β},All2 R as bs->All2 c as bs
 |_,_,.nil=>.nil
 |_,_,.cons h t=>.cons (k _ _ h) (All2.imp3 k t)
theorem NodeEv.mono{ks:List Kn}{R n:En->D->D->Prop}(k:∀env d v,R env d v->n env d v){env:En}{d v:D}(h:NodeEv ks R env d v):NodeEv ks n env d v:=by
 rcases h with⟨s,a,b,x,y,g,l,r⟩ |⟨j,es,vs,m,g,r⟩ |⟨a,j,vs,f,o,i,g,r⟩ |⟨j,t,a,x,g,r⟩ |⟨a,rs,j,t,x,y,e,m,g,p,l,r⟩ |⟨a,b,c,x,g,l,r⟩
 ·exact .inl ⟨s,a,b,x,y,k _ _ _ g,k _ _ _ l,r⟩
 ·exact .inr (.inl ⟨j,es,vs,m,g.imp3 (k env),r⟩)
 ·exact .inr (.inr (.inl ⟨a,j,vs,f,o,i,k _ _ _ g,r⟩))
 ·exact .inr (.inr (.inr (.inl ⟨j,t,a,x,k _ _ _ g,r⟩)))
 ·exact .inr (.inr (.inr (.inr (.inl ⟨a,rs,j,t,x,y,e,m,k _ _ _ g,p,k _ _ _ l,r⟩))))
 ·exact .inr (.inr (.inr (.inr (.inr ⟨a,b,c,x,k _ _ _ g,k _ _ _ l,r⟩))))
theorem xk6{ks:List Kn}:∀(n:Nat) (env:En) (d v:D),Evs ks n env d v->Ev ks n env d v
 |0,_,_,_,h=>h
 |n+1,env,d,v,h=>by
  rcases h with h |⟨h,_⟩
  ·exact .inl h
  ·exact .inr (h.mono (xk6 n))
theorem xlv{h:Str}{r:List D}(c:h≠S "op"):SgD (.tup (.str h::r)):=λs a b e=>by
 have g:=D.tup.inj e;have f:=(List.cons.inj g).1;exact absurd (D.str.inj f) c
theorem xuw{s:Str}{a b:D}(h:Sg s):SgD (tOpD s a b):=λs' i g e=>by
 have f:=D.tup.inj e;have c:=(List.cons.inj (List.cons.inj f).2).1;rw[<- D.str.inj c];exact h
def TmOk(ks:List Kn)(n:Nat)(bs:List (Str×Str))(d:D)(x:Str):Prop:=∀env,FitB ks bs env->∃v,Evs ks n env d v/\Vk ks x v
theorem xob{ks:List Kn}{n:Nat}{env:En}{d v:D}(h:xd6 env d v):Evs ks n env d v:=by
 cases n with
 |zero=>exact h
 |succ n=>exact .inl h
theorem xqd{ks:List Kn}{n:Nat}{bs:List (Str×Str)}{i:Int}(h:Nm i):TmOk ks n bs (tNum i) (S "num"):=λenv _=>⟨.int i,xob (.inl ⟨i,rfl,rfl⟩),.num i h⟩
theorem xhn{ks:List Kn}{n:Nat}{bs:List (Str×Str)}{y x:Str}(h:(y,x)∈bs):TmOk ks n bs (tBox y) x:=λenv a=>by
 obtain⟨v,c,b⟩:=a _ h;exact⟨v,xob (.inr ⟨y,c,rfl⟩),b⟩
theorem xsz{ks:List Kn}(c:KWf ks){n:Nat}{bs:List (Str×Str)}{s:Str}{a b:D}(hs:Sg s)(m:TmOk ks n bs a (S "num"))(l:TmOk ks n bs b (S "num")):TmOk ks (n+1) bs (tOpD s a b) (S "num"):=λenv e=>by
 obtain⟨u,p,g⟩:=m env e;obtain⟨v,o,f⟩:=l env e;obtain⟨i,hi,rfl⟩:=xgc c rfl g;obtain⟨j,h,rfl⟩:=xgc c rfl f;exact⟨_,.inr ⟨.inl ⟨s,a,b,i,j,p,o,hi,h,rfl,rfl⟩,xuw hs⟩,.num _ (xtw s i j)⟩
theorem xmb{ks:List Kn}{n:Nat}{bs:List (Str×Str)}{env:En}(c:FitB ks bs env):∀{es:List D} {ps:List (Str×Str)},All2 (λe (p:Str×Str)=>TmOk ks n bs e p.2) es ps->∃vs,All2 (Evs ks n env) es vs/\vs.length=ps.length/\∀(i:Nat) w p,vs[i]?=some w->ps[i]?=some p->Vk ks p.2 w
 |_,_,.nil=>⟨[],.nil,rfl,λi w p h=>by simp at h⟩
 | _,_,.cons h t=>by
  obtain⟨v,m,l⟩:=h env c;obtain⟨vs,j,g,f⟩:=xmb c t;refine⟨v::vs,.cons m j,by rw[List.length_cons,List.length_cons,g],λi w p a b=>?_⟩
  cases i with
  |zero=>
   simp at a b;subst a b;exact l
  |succ i=>exact f i w p (by simpa using a) (by simpa using b)
theorem xsy{ks:List Kn}{n:Nat}{bs:List (Str×Str)}{x:Str}{k:Kn}{es:List D}(c:kAt ks x=some k)(a:k.rc=true)(b:k.parts.length<=1000)(h:All2 (λe (p:Str×Str)=>TmOk ks n bs e p.2) es k.parts):TmOk ks (n+1) bs (tRec x es) x:=λenv f=>by
 obtain⟨vs,j,i,g⟩:=xmb f h;exact⟨_,.inr ⟨.inr (.inl ⟨x,es,vs,by rw[h.length];exact b,j,rfl,rfl⟩),xlv (by walk_at"k")⟩,.rc c a i g⟩
theorem xiu{f:Str}:∀{l:List Str} {i:Nat},l.Nodup->l[i]?=some f->l.findIdx? (λz=>decide (z=f))=some i
 |[],i,_,h=>by simp at h
 |y::l,0,_,h=>by
  simp at h;subst h;simp[List.findIdx?_cons]
 |y::l,i+1,nd,h=>by
  have b:f∈l:=zMG (by simpa using h);have a:¬y=f:=λe=>by subst e;exact(List.nodup_cons.mp nd).1 b
  rw[List.findIdx?_cons,zDF a];have:=xiu (l:=l) (i:=i) (List.nodup_cons.mp nd).2 (by simpa using h);simp[this]
theorem xs0{ks:List Kn}(f:KWf ks){n:Nat}{bs:List (Str×Str)}{y:Str}{k:Kn}{a:D}{p:Str×Str}(c:kAt ks y=some k)(l:k.rc=true)(m:p∈k.parts)(h:TmOk ks n bs a y):TmOk ks (n+1) bs (tGet a p.1) p.2:=λenv r=>by
 obtain⟨v,u,s⟩:=h env r;obtain⟨ws,w,j,rfl⟩:=xp9 f c l s;obtain⟨i,hi,e⟩:=zMI m;have b:i<ws.length:=by omega
 have o:=zMF c;have g:k.parts[i]?=some p:=by rw[<- e];exact zGA hi
 exact⟨ws[i],.inr ⟨.inr (.inr (.inl ⟨a,y,ws,p.1,k,i,u,c,xiu (f.pnd k o) (by rw[zGM,g];rfl),zGA b,rfl⟩)),xlv (by walk_at"k")⟩,j i _ p (zGA b) g⟩
theorem xsx{ks:List Kn}{n:Nat}{bs:List (Str×Str)}{x:Str}{k:Kn}{a:D}{p:Str×Str}(e:kAt ks x=some k)(b:k.rc=false)(c:p∈k.parts)(h:TmOk ks n bs a p.2):TmOk ks (n+1) bs (tTag x p.1 a) x:=λenv f=>by
 obtain⟨v,i,g⟩:=h env f;exact⟨_,.inr ⟨.inr (.inr (.inr (.inl ⟨x,p.1,a,v,i,rfl,rfl⟩))),xlv (by walk_at"k")⟩,.al e b c g⟩
theorem xre {ks:List Kn} (c:KWf ks) {n:Nat} {bs:List (Str×Str)} {x y:Str} {k:Kn} {a:D} {rs:List (Str×Str×D)} (u:kAt ks y=some k) (l:k.rc=false) (G:TmOk ks n bs a y) (s:rs.length<=1000) (nd:(rs.map (·.1)).Nodup)
  (h:∀p∈k.parts,∃z e,(p.1,z,e)∈rs/\(∀q∈bs,q.1≠z)/\TmOk ks n (bs++[(z,p.2)]) e x):TmOk ks (n+1) bs (xlk a rs) x:=λenv b=>by
 obtain⟨v,O,M⟩:=G env b;obtain⟨p,m,w,j,rfl⟩:=xqa c u l M;obtain⟨z,e,o,hz,C⟩:=h p m;obtain⟨g,J,I⟩:=C _ (b.put hz j);obtain⟨i,hi,U⟩:=zMI o;have:=xdx (f:=λr:Str×Str×D=>r.1) (xs:=rs) (i:=i) (a:=(p.1,z,e)) nd (by rw[<- U];exact zGA hi);exact⟨g,.inr ⟨.inr (.inr (.inr (.inr (.inl ⟨a,rs,y,p.1,w,z,e,s,O,this,J,rfl⟩)))),xlv (by walk_at"k")⟩,I⟩
theorem xuk{ks:List Kn}(j:KWf ks){n:Nat}{bs:List (Str×Str)}{x:Str}{a b c:D}(p:TmOk ks n bs a (S "num"))(o:TmOk ks n bs b x)(m:TmOk ks n bs c x):TmOk ks (n+1) bs (tIfD a b c) x:=λenv f=>by
 obtain⟨u,h,l⟩:=p env f;obtain⟨i,hi,rfl⟩:=xgc j rfl l;by_cases h0:i=0
 ·obtain⟨v,g,e⟩:=m env f
  exact⟨v,.inr ⟨.inr (.inr (.inr (.inr (.inr ⟨a,b,c,i,h,by rw[if_pos h0];exact g,rfl⟩)))),xlv (by walk_at"k")⟩,e⟩
 ·obtain⟨v,g,e⟩:=o env f
  exact⟨v,.inr ⟨.inr (.inr (.inr (.inr (.inr ⟨a,b,c,i,h,by rw[if_neg h0];exact g,rfl⟩)))),xlv (by walk_at"k")⟩,e⟩
def smS(f:Str->Int)(k:Kn):Int:=if k.rc=true then (k.parts.map λp=>f p.2).sum else match k.parts with |[]=>0 |p::_=>f p.2
def hiS(f:Str->Int)(k:Kn):Int:=if k.rc=true then maxD (k.parts.map λp=>f p.2) else match k.parts with |[]=>0 |p::_=>f p.2
theorem xhx{f g:Str->Int}{k:Kn}(h:∀p∈k.parts,f p.2=g p.2):smS f k=smS g k:=by
 unfold smS;rw[List.map_congr_left h]
 cases a:k.parts with
 |nil=>rfl
 |cons p r=>
  show(if k.rc=true then _ else f p.2)=(if k.rc=true then _ else g p.2);rw[h p (by rw[a];simp)]
theorem xiv{f g:Str->Int}{k:Kn}(h:∀p∈k.parts,f p.2=g p.2):hiS f k=hiS g k:=by
 unfold hiS;rw[List.map_congr_left h]
 cases a:k.parts with
 |nil=>rfl
 |cons p r=>
  show(if k.rc=true then _ else f p.2)=(if k.rc=true then _ else g p.2);rw[h p (by rw[a];simp)]
def smF:Nat->List Kn->Str->Int
 |0,_,_=>1
 |n+1,ks,x=>match kAt ks x with
  |none=>1
  |some k=>1+smS (smF n ks) k
def hiF:Nat->List Kn->Str->Int
 |0,_,_=>1
 |n+1,ks,x=>match kAt ks x with
  |none=>1
  |some k=>1+hiS (hiF n ks) k
theorem xds{n:Nat}{ks:List Kn}{x:Str}(h:kAt ks x=none):smF (n+1) ks x=1:=by unfold smF;rw[h]
theorem xe7{n:Nat}{ks:List Kn}{x:Str}{k:Kn}(h:kAt ks x=some k):smF (n+1) ks x=1+smS (smF n ks) k:=by
 show(match kAt ks x with |none=>1 |some k=>1+smS (smF n ks) k)=_;rw[h]
theorem xdv{n:Nat}{ks:List Kn}{x:Str}(h:kAt ks x=none):hiF (n+1) ks x=1:=by unfold hiF;rw[h]
theorem xfc{n:Nat}{ks:List Kn}{x:Str}{k:Kn}(h:kAt ks x=some k):hiF (n+1) ks x=1+hiS (hiF n ks) k:=by
 show(match kAt ks x with |none=>1 |some k=>1+hiS (hiF n ks) k)=_;rw[h]
theorem xth{ks:List Kn}(f:KWf ks):∀(m:Nat) (x:Str),KIn ks m x->smF (m+2) ks x=smF (m+1) ks x/\hiF (m+2) ks x=hiF (m+1) ks x:=by
 intro m
 induction m with
 |zero=>
  intro x h;rcases h.look f with⟨_,e⟩ |⟨j,k,c,_⟩
  ·exact⟨(xds e).trans (xds e).symm,(xdv e).trans (xdv e).symm⟩
  ·cases c
 | succ m g=>
  intro x h;rcases h.look f with⟨_,e⟩ |⟨j,k,c,b,hn,l,i⟩
  ·exact⟨(xds e).trans (xds e).symm,(xdv e).trans (xdv e).symm⟩
  ·cases c
   rw[xe7 b,xe7 b,xfc b,xfc b,xhx λp a=>(g p.2 (i p a)).1,xiv λp a=>(g p.2 (i p a)).2];exact⟨rfl,rfl⟩
def smK(ks:List Kn)(x:Str):Int:=smF 7 ks x
def hiK(ks:List Kn)(x:Str):Int:=hiF 7 ks x
theorem xtf{ks:List Kn}(b:KWf ks){m:Nat}{x:Str}(h:KIn ks m x)(c:m<=6):smF (m+1) ks x=smK ks x/\hiF (m+1) ks x=hiK ks x:=by
 have:∀k,smF (m+k+1) ks x=smF (m+1) ks x/\hiF (m+k+1) ks x=hiF (m+1) ks x:=λk=>by
  induction k with
  |zero=>exact⟨rfl,rfl⟩
  |succ k a=>
   have u:=xth b (m+k) x (h.mono (by omega));exact⟨u.1.trans a.1,u.2.trans a.2⟩
 have u:=this (6-m);rw[show m+(6-m)+1=7 by omega]at u;exact⟨u.1.symm,u.2.symm⟩
theorem xmt{ks:List Kn}(a:KWf ks):smK ks (S "num")=1/\hiK ks (S "num")=1:=⟨xds a.num,xdv a.num⟩
theorem xtg{ks:List Kn}(wf:KWf ks){x:Str}{k:Kn}(hk:kAt ks x=some k):smK ks x=1+smS (smK ks) k/\hiK ks x=1+hiS (hiK ks) k:=by
 have hm:=zMF hk
 have hx:k.name=x:=by
  have:=List.find?_some hk;exact of_decide_eq_true this
 have hin:KIn ks 6 x:=(KIn.of (.inr ⟨k,hm,hx⟩)).mono wf.few;rcases hin.look wf with⟨_,e⟩ |⟨j,k',e0,hk',hn,hm',hp⟩
 ·rw[e]at hk;cases hk
 ·cases e0
  rw[hk]at hk';cases hk';exact⟨(xe7 (n:=6) hk).trans (congrArg (λz=>1+z) (xhx λp hp'=>(xtf wf (hp p hp') (by omega)).1)),(xfc (n:=6) hk).trans (congrArg (λz=>1+z) (xiv λp hp'=>(xtf wf (hp p hp') (by omega)).2))⟩
theorem xhy{ks:List Kn}(g:∀k∈ks,k.parts.length<=5):∀(n:Nat) (x:Str),(1<=smF n ks x/\smF n ks x<=6 ^ n)/\(1<=hiF n ks x/\hiF n ks x<=n+1)
 |0,x=>⟨⟨Int.le_refl _,Int.le_refl _⟩,⟨Int.le_refl _,Int.le_refl _⟩⟩
 | n + 1,x=>by
  have o:(1:Int)<=6 ^ n:=Int.pow_pos (by decide);have m:(6:Int) ^ (n+1)=6*6 ^ n:=by rw[Int.pow_succ,Int.mul_comm]
  cases b:kAt ks x with
  |none=>
   rw[xds b,xdv b];exact⟨⟨Int.le_refl _,by rw[m];omega⟩,Int.le_refl _,by push_cast;omega⟩
  | some k=>
   rw[xe7 b,xfc b];have j:=g k (zMF b);have f:=λy=>xhy g n y
   have hs:∀(l:List (Str×Str)),0<=(l.map λp=>smF n ks p.2).sum/\(l.map λp=>smF n ks p.2).sum<=l.length*6 ^ n:=by
    intro l
    induction l with
    |nil=>simp
    |cons a r c=>
     have h:=(f a.2).1;rw[List.map_cons,List.sum_cons,List.length_cons];push_cast;rw[Int.add_mul];omega
   have i:∀(l:List (Str×Str)),0<=maxD (l.map λp=>hiF n ks p.2)/\maxD (l.map λp=>hiF n ks p.2)<=n+1:=by
    intro l
    induction l with
    |nil=>show 0<=(0:Int)/\(0:Int)<=n+1;omega
    |cons a r c=>
     have h:=(f a.2).2;have e:maxD ((a::r).map λp=>hiF n ks p.2)=max (hiF n ks a.2) (maxD (r.map λp=>hiF n ks p.2)):=rfl;rw[e];omega
   have h:=hs k.parts;have w:(k.parts.length:Int)*6 ^ n<=5*6 ^ n:=Int.mul_le_mul_of_nonneg_right (by omega) (by omega);have u:=i k.parts;unfold smS hiS;push_cast
   cases k.rc with
   |true=>
    rw[if_pos rfl,if_pos rfl];refine⟨⟨?_,?_⟩,?_,?_⟩ <;> omega
   | false=>
    rw[if_neg (by decide),if_neg (by decide)]
    cases k.parts with
    |nil=>
     refine⟨⟨?_,?_⟩,?_,?_⟩ <;> dsimp only <;> omega
    |cons p r=>
     have s:=f p.2;refine⟨⟨?_,?_⟩,?_,?_⟩ <;> dsimp only <;> omega
theorem xkr{ks:List Kn}(a:KWf ks)(x:Str):1<=smK ks x/\smK ks x<=279936/\1<=hiK ks x/\hiK ks x<=8:=by
 have:=xhy a.pts 7 x;have e:(6:Int) ^ 7=279936:=by decide
 unfold smK hiK;omega
end M
end
section
namespace L2
open PySem PySem.Spec PyProof.Rows M
section
variable {X:Cx}
def rEqE(K:Fg):R2:=λx y H Q=>∃a b xs,x=.ref a/\y=.ref b/\SqL K H a xs/\SqL K H b []/\Q (.bl xs.isEmpty) H
theorem xtv(m:X.A.units<cLine):OpR X (compareOp .Eq) (rEqE X.K):=by
 intro f s σ H x y v u Q I o n h;obtain⟨a,b,xs,rfl,rfl,C,z,q⟩:=h;cases o;cases n;obtain⟨its,r,i,_⟩:=I.list C;obtain⟨l,p,g,_⟩:=I.list z;have c:=r.length;have w:=p.length
 cases xs with
 | nil=>
  refine SeqAt.eq_listAt (e:=λ_=>true) i.isList g.isList (by simp only[List.size_toArray];omega) m (λj G J=>?_) ⟨.bl _,H,I,rfl,?_⟩
  ·simp only[List.size_toArray]at G
   simp at c;omega
  ·have:its=[]:=List.eq_nil_of_length_eq_zero (by simpa using c.symm)
   subst this;exact q
 |cons x xs=>
  refine PySem.EqBoolInt.of_rc (SeqAt.RcAt.lists_lengths i.isList g.isList (by simp only[List.size_toArray];simp at c w⊢;omega) m) ⟨.bl _,H,I,rfl,?_⟩;simpa using q
end
def xlj(ta:TA):TE:=λσ H Q=>ta σ H λvs H1=>∃i j:Int,vs=[.int i,.int j]/\(0<=i/\i<=1000/\0<=j/\j<=1000)/\∀l,H1 l=none->Q (.ref l) (upd H1 l (.lst ((List.range (j-i).toNat).map λ(k:Nat)=>V.int (i+(k:Int)))))
section
variable {X:Cx}{a b:Expr}{ta:TA}{p1 p2 q1 q2:Pos}
theorem xh8 (hc:X.calm=true) (M:Gl X "list") (G:X.mg "list"=none) (J:Gl X "range") (C:X.mg "range"=none) (ha:PA X [a,b] ta)
  (w:starEach [a,b] X.env=(false,eval a X.env)::starEach [b] X.env:=by rfl) (a0:starEach [b] X.env=[(false,eval b X.env)]:=by rfl)
  (l:starEach [Expr.Call (.Name "range" Y) [a,b] [] p] X.env=[(false,eval (.Call (.Name "range" Y) [a,b] [] p) X.env)]:=by rfl)
  (y:(backTo p (starEach [b] X.env)).any (·.1)=false:=by rfl) :
  PE X (.Call (.Name "list" p1) [.Call (.Name "range" Y) [a,b] [] p] [] q1) (xlj ta):=by
 intro g s σ H Q I h;refine wpAny_Call_Name_kw (xet I M G PyProof.Rows.boot_list ?_ (by decide) (by decide));refine PyProof.Rows.callWith_type1 ?_ l rfl;rw[l];refine Calls.spliced_cons ?_;refine wpAny_Call_Name_kw (xet I J C boot_range ?_ (by decide) (by decide));refine PyProof.Rows.callWith_type1 (thn (ha p g s σ H _ I h) λus r ⟨vs,H1,U,r1,i,j,e,⟨b1,b2,b3,b4⟩,q⟩=>?_) w y;subst e;obtain⟨u1,u2,rfl,⟨t,rfl⟩,⟨t',rfl⟩⟩:=r1.two;refine call_range_2 (Calls.spliced_nil ?_);have O:Builtin.Range.rangeSize i j 1=(((j-i).toNat:Nat):Int):=by rw[rangeSize_one];split <;> omega
 refine call_list_range (n:=(j-i).toNat) (U.ok.hd hc) (IsRange.new ..) (small_one (by omega) (by omega) (by omega) (by omega)) O (by omega) λh' tk acc c kp hS f=>?_;have hz:(r.heap.push {cls:=.type "range",data:=.fields #[.int i t,.int j t',.int 1 r.toks]}).objs.size=r.heap.objs.size+1:=Heap.size_push ..;refine⟨.ref _,_,U.laid (t':=tk) (o:=.lst ((List.range (j-i).toNat).map λ(k:Nat)=>V.int (i+(k:Int)))) (λb o e=>kp b o (zPO _ e)) (by rw[hz];exact Nat.le_succ _) ⟨?_,acc.toList,c,?_,by simpa using hS⟩,rfl,q _ (U.hok.fresh (by rw[hz];exact Nat.le_succ _))⟩
 ·rw[zLM,List.length_range,sizeLine_eq]
  omega
 ·refine xl5 (by have:=f.1;rw[zLM,List.length_range];simp only[Array.length_toList];omega) λk x u Z hu=>?_
  rw[zGM]at Z;obtain⟨m,hm,rfl⟩:=zMS Z
  have z:m=k:=by
   have:=(zES hm).2;rw[List.getElem_range]at this;exact this.symm
  obtain⟨t2,rfl⟩:=f.2 k u (by rw[<- Array.getElem?_toList];exact hu);exact⟨t2,by rw[z,Int.mul_one]⟩
end
end L2
end
section
end
section
end
section
end
section
end
section
end
section
end
section
end
section
end
section
namespace M
open PySem L2
def byN(j:Nat):Str:=ofL [98,121,97+j]
theorem xss{i j:Nat}(h:byN i=byN j):i=j:=by
 have:=congrArg L h;unfold byN at this;rw[xdr,xdr]at this;simp at this;exact this
def NoBy(x:Str):Prop:=∀j:Nat,x≠byN j
theorem xu4{l:List Nat}(h:l[0]?≠some 98\/l[1]?≠some 121):NoBy (ofL l):=λj e=>by
 have:=congrArg L e;unfold byN at this;rw[xdr,xdr]at this;subst this;simp at h
theorem xj6{c:Nat}(h:c∈five):c≠98/\c≠121:=by
 revert h;unfold five;simp;omega
theorem xqv{cs:List Nat}(h:∀c∈cs,c∈five)(a:Nat)(b:Int)(k:Nat)(t:List Nat)(i:∀c∈t,c∈five):NoBy (ofL (nmA cs a b k++t)):=by
 apply xu4;unfold nmA
 cases g:cs.take a with
 |nil=>
  right;rw[List.nil_append,List.cons_append,List.getElem?_cons_succ];intro e;have f:=zMG e;rcases zMA f with f |f
  ·exact(xj6 (h _ (List.mem_of_mem_drop f))).2 rfl
  ·exact(xj6 (i _ f)).2 rfl
 |cons c r=>
  left;intro e;simp at e;have:c∈cs.take a:=by rw[g];simp
  exact(xj6 (h c (List.mem_of_mem_take this))).1 e
theorem xr9{cs:List Nat}{a:Nat}{b:Int}(e:∀c∈cs,c∈five):∀z∈((List.range 26).map λk=>ofL (nmA cs a b k)),NoBy z:=λz hz=>by
 obtain⟨k,_,rfl⟩:=zMP hz;have:=xqv e a b k [] (λ_ h=>nomatch h);rw[List.append_nil]at this;exact this
theorem xr7{cs:List Nat}{a:Nat}{b:Int}(f:∀c∈cs,c∈five):∀z∈((List.range 26).map λk=>ofL (nmB cs a b k)),NoBy z:=λz hz=>by
 obtain⟨k,_,rfl⟩:=zMP hz;unfold nmB;exact xqv f a b _ _ λc e=>by rw[List.eq_of_mem_replicate e];decide
theorem xpz{i:Nat}(h:i<8):atI (S "abcdefgh").cps.toList (i:Int)=some (97+i):=by
 have all:∀k,k<8->(S "abcdefgh").cps.toList[k]?=some (97+k):=by walk_at"k"
 exact xa0 (all i h)
theorem xp7(i:Nat):S "by"++(⟨#[97+i]⟩:Str)=byN i:=by
 apply xou;rw[xd0,show L (S "by")=[98,121] by walk_at"k"];rfl
def BxAt(H:Hp)(f:Addr)(bv:V)(bs:List (Str×Str)):Prop:=∃bl us,bv=.ref bl/\H bl=some (.lst us)/\RelDs H us (bs.map xkb)/\bl≠f
def xvg(bs:List (Str×Str))(m:Nat):Prop:=∀b∈bs,∀j,j<m->b.1≠byN j
def PNB(ks:List Kn):Prop:=∀k∈ks,∀p∈k.parts,NoBy p.1
structure TIn(H:Hp)(f:Addr)(kv bv:V)(ks:List Kn)(bs:List (Str×Str))(m:Nat):Prop where
 fd:∃p q:Int,H f=some (.lst [.int p,.int q])
 kd:RelD H kv (xdk ks)
 wf:KWf ks
 nb:PNB ks
 bx:BxAt H f bv bs
 nd:(bs.map (·.1)).Nodup
 bl:bs.length+m<=30
 fr:xvg bs m
 kn:∀b∈bs,KIn ks 6 b.2
theorem TIn.same{H c:Hp}{f:Addr}{a b:V}{ks:List Kn}{bs:List (Str×Str)}{m:Nat}(h:TIn H f a b ks bs m)(s:Same H c):TIn c f a b ks bs m:=by
 obtain⟨p,q,i⟩:=h.fd;obtain⟨l,us,e,j,g,n⟩:=h.bx;exact⟨⟨p,q,s _ _ i⟩,h.kd.same s _,h.wf,h.nb,⟨l,us,e,s _ _ j,g.same s _,n⟩,h.nd,h.bl,h.fr,h.kn⟩
theorem TIn.fed{H c:Hp}{f:Addr}{a b:V}{ks:List Kn}{bs:List (Str×Str)}{m:Nat}(h:TIn H f a b ks bs m)(s:Fed f H c):TIn c f a b ks bs m:=by
 obtain⟨j,us,e,i,g,n⟩:=h.bx;exact⟨s.2,h.kd.tups (xai h.fd s) _,h.wf,h.nb,⟨j,us,e,s.1 _ _ i n,g.tups (xai h.fd s) _,n⟩,h.nd,h.bl,h.fr,h.kn⟩
theorem TIn.down{H:Hp}{f:Addr}{c e:V}{ks:List Kn}{bs:List (Str×Str)}{m a:Nat}(h:TIn H f c e ks bs m)(l:a<=m):TIn H f c e ks bs a:=
 ⟨h.fd,h.kd,h.wf,h.nb,h.bx,h.nd,by have:=h.bl;omega,λb g j i=>h.fr b g j (by omega),h.kn⟩
end M
end
section
set_option maxHeartbeats 400000
end
section
namespace L2
open PySem PySem.Spec PyProof.Rows M
section
variable {X:Cx}{K:Fg}
theorem xa1{b:Expr}(e:X.K=K){l:Expr}{a:TE}(c:PE X l a):PI X b l (iTup K a):=by subst e;exact xto c
theorem xbn{b:Expr}(e:X.K=K){l:Expr}{a:TE}(c:PE X l a):PI X b l (xt9 K a):=by subst e;exact xru c
theorem xbq(a:X.K=K):xd2 X (.type "tuple") (λxs H Q=>∃p ys,xs=[.ref p]/\((SqL K H p ys/\∀l,H l=none->Q (.ref l) (upd H l (.tup ys)))\/(SqT K H p ys/\Q (.ref p) H))):=by subst a;exact xhj
theorem xk5(a:X.K=K):OpR X (binaryOp .Add) (xqk K):=by subst a;exact xo9
end
section
variable {X:Cx}
theorem va(i:Nat){x:Str}{p:Pos}{es:List Expr}{t:TA}(c:PA X es t)(e:X.N[i]?=some x:=by rfl)(b:Vis X.env.scope x:=by first |exact Or.inl rfl |exact Or.inr (Or.inl rfl) |exact Or.inr (Or.inr rfl))(hd:(x == ("__debug__":Str))=false:=by decide)(a:(x == ("__classdict__":Str))=false:=by decide):PA X (.Name x p::es) (xri (tVar i) t):=pc (pv i e b hd a) c zsn
theorem v1(i:Nat){x:Str}{p:Pos}(c:X.N[i]?=some x:=by rfl)(b:Vis X.env.scope x:=by first |exact Or.inl rfl |exact Or.inr (Or.inl rfl) |exact Or.inr (Or.inr rfl))(hd:(x == ("__debug__":Str))=false:=by decide)(a:(x == ("__classdict__":Str))=false:=by decide):PA X [.Name x p] (xri (tVar i) tNil):=va i pN c b hd a
theorem psn(i:Nat){x:Str}{e:Expr}{b:TE}{pos a:Pos}(h:X.N.Nodup)(g:PE X e b)(hi:X.N[i]?=some x:=by rfl)(c:Loc X.env.scope x:=by first |exact Or.inl rfl |exact Or.inr rfl)(hs:swapsWith e (some (.Name x a)) pos.line X.env=pure false:=by rfl)(f:X.fn x=true\/X.env.scope.names.lookup x=some .local:=by first |exact .inl rfl |exact .inr rfl |assumption):PS X (.Assign [.Name x a] e pos) (tAsg b (xfy i)):=xtn h hi c g hs f
theorem pgn(i:Nat){x:Str}{pos:Pos}(c:X.N.Nodup)(hi:X.N[i]?=some x:=by rfl)(a:Loc X.env.scope x:=by first |exact Or.inl rfl |exact Or.inr rfl)(b:X.fn x=true\/X.env.scope.names.lookup x=some .local:=by first |exact .inl rfl |exact .inr rfl |assumption):PG X (.Name x pos) (xfy i):=xm3 c hi a b
theorem px(K:Fg){a b:Expr}{e c:TE}{pos:Pos}(g:PE X a e)(f:PE X b c)(h:X.K=K:=by rfl)(hs:xkh b:=by exact λ_ _=>rfl):PE X (.Subscript a b pos) (tOp (rIxT K) e c):=xls (xsh h) g f hs
theorem pxl(K:Fg){a b:Expr}{e c:TE}{pos:Pos}(g:PE X a e)(f:PE X b c)(h:X.K=K:=by rfl)(hs:xkh b:=by exact λ_ _=>rfl):PE X (.Subscript a b pos) (tOp (rIxL K) e c):=xls (xpt h) g f hs
theorem pgc(i:Nat){x:Str}{pos:Pos}(hi:X.N[i]?=some x:=by rfl)(hN:X.N.Nodup:=by exact of_decide_eq_true (by kernel_rfl))(hx:Loc X.env.scope x:=by exact Or.inl rfl)(hf:X.fn x=true\/X.env.scope.names.lookup x=some .local:=by first |exact .inl rfl |exact .inr rfl |assumption):PG X (.Name x pos) (xfy i):=xm3 hN hi hx hf
end
end L2
end
section
namespace L2
open PySem PySem.Spec PyProof.Rows
open PySem.W in
def xq6(K:Frag)(x:Str)(fs:List Str):Bool:=
 plainGet K (ad K x) Str.empty && (hasDictIn K (ad K x) && (plainOver K (ad K x) && (findIn K (.ref (ad K x)) "__setattr__" == some (some (.builtin "object.__setattr__")) && (makesIn K (ad K x) && (keepIn K (.ref (ad K x)) &&
 fs.all λf=>findIn K (.ref (ad K x)) f == some none)))))
structure DTab(K:Fg)(x:Str)(fs:List Str):Prop where
 cl:Cls K (ad K x)
 ms:PySem.W.makesIn K (ad K x)=true
 kp:PySem.W.keepIn K (.ref (ad K x))=true
 no:∀f∈fs,NoAttr K (ad K x) f
theorem dtab_of{K:Fg}{x:Str}{fs:List Str}(e:xq6 K x fs=true):DTab K x fs:=by
 unfold xq6 at e;simp only[Bool.and_eq_true,List.all_eq_true,beq_iff_eq]at e;obtain⟨i,h,g,f,c,b,a⟩:=e;exact⟨⟨i,h,g,f⟩,c,b,a⟩
structure MethTx(K:Fg)(q:Str)(C:Addr)(m:Str)(st:Stmt)(ps:List Str)(dss:List (List Value)):Prop where
 ex:∃(f:Addr) (dV kV doc pm:Value) (an:Option Addr) (cdv ct oc:Value) (od:Option Addr) (osl:Array (Option Value)),PySem.W.findIn K (.ref C) m=some (some (.ref f))/\PySem.W.isFn K (.ref f)=true/\PySem.W.keepIn K (.ref f)=true ∧
  K.lookup f=some ⟨oc,od,.func (PySem.W.fnOf m q (xdg st) (xcy st) (xac st) dV kV doc pm an cdv ct),osl⟩/\PySem.W.codeIn K cdv q=true/\∀ds∈dss,Binds K (PySem.W.fnOf m q (xdg st) (xcy st) (xac st) dV kV doc pm an cdv ct) ps ds
theorem meth_mk {K:Fg} {x q m:Str} {C f:Addr} {st:Stmt} {ps:List Str} {r:Value} {od p:Option Addr} {o:Array (Option Value)} {kV g j e ct:Value} (a:PySem.W.nsIn K mainGlobals x=some (some (.ref C)))
  (i:PySem.W.findIn K (.ref C) m=some (some (.ref f))) (n:PySem.W.isFn K (.ref f)=true)
  (l:K.lookup f=some ⟨r,od,.func (PySem.W.fnOf m q (xdg st) (xcy st) (xac st) .none kV g j p e ct),o⟩) (c:PySem.W.codeIn K e q=true) (k:PySem.W.keepIn K (.ref f)=true)
  (b:∀(kV g j:Value) (p:Option Addr) (e ct:Value) (us:List Value),us.length=ps.length->bindArgs (PySem.W.fnOf m q (xdg st) (xcy st) (xac st) .none kV g j p e ct) ⟨us,[]⟩=pure (ps.zip us)):MethTx K q (ad K x) m st ps [[]]:=by
 rw[xva a];exact⟨f,_,kV,g,j,p,e,ct,r,od,o,i,n,k,l,c,λds h=>by rw[zMO h];exact Binds.all (b kV g j p e ct)⟩
structure MethIs(P:Program)(w:World)(K:Fg)(mg:Str->Option Value)(base:Heap)(n:Nat)(C:Addr)(m:Str)(ps:List Str)(dss:List (List Value))(sp:Sp):Prop where
 ex:∃(f:Addr) (fd:FuncData),Meth K C m f/\FnOk P w K mg base CX0 n f fd ps sp/\∀ds∈dss,Binds K fd ps ds
section
variable {P:Program}{w:World}{K:Fg}{mg:Str->Option Value}{base:Heap}{n n':Nat}{q m:Str}{C:Addr}{st:Stmt}{ps N:List Str}{sp:Sp}{dss:List (List Value)}
theorem MethIs.mono(D:MethIs P w K e base n C m ps a sp)(h:n<=c):MethIs P w K e base c C m ps a sp:=by
 obtain⟨f,g,M,F,b⟩:=D.ex;exact⟨f,g,M,F.mono h,b⟩
theorem MethIs.of (T:MethTx K q C m st ps j) (S:FnScope N ps (xac st)) (len:∀vs H Q E,sp vs H Q E->vs.length=ps.length)
  (e:∀(f:Addr) (a:Value) (A:Around) (outer:List Env) (s:Shared) (H:Hp) (vs:List V) (Q:VK) (E:XK),Room n (A.deeper (envOfC q (xac st) s.heap.objs.size f a))->sp vs H Q E->
   ∃t,PSs (cxOf CX0 P w K r base N q (xac st) f a A outer s H E).nox (xcy st) t/\t {nx:=λ_ y=>Q .non y,rt:=Q} (xex N vs) H):MethIs P w K r base (n+1) C m ps j sp:=by
 obtain⟨f,I,kV,x,z,J,a,ct,G,od,o,i,p,k,l,c,b⟩:=T.ex;refine⟨f,_,⟨i,p,k⟩,xub l c S len λA outer s H vs Q E u g=>?_,b⟩;obtain⟨t,h,q⟩:=e f a A outer s H vs Q E u g;exact⟨t,h.nox,q⟩
end
section
variable {X:Cx}{n:Nat}{x m:Str}{ps:List Str}{sp:Sp}{p pos apos:Pos}{fs:List Str}{C:Addr}{dss:List (List Value)}{ds:List Value}{dvs:List V}{e o:Expr}{es:List Expr}{t:TA}{ta:TE}
theorem xb2 {pl:Sem Bool} (D:MethIs X.prog X.w X.K X.mg X.base n C m ps [[]] sp) (c:Cls X.K C) (p:Room n X.A) (r:PE X o j) (s:PA X (e::es) t)
  (g:starEach (e::es) X.env=(false,eval e X.env)::starEach es X.env:=by rfl) (h:(backTo pos (starEach es X.env)).any (·.1)=false:=by rfl)
  (l:eval (.Call (.Attribute o m a) (e::es) [] pos) X.env=(do
   let i <- eval o X.env
   standAt a.atName
   let (f,first) <- holding [i] (getMethod i m pl)
   callWith pos f first (backTo pos (starEach (e::es) X.env)) (backToKw pos (keywordEach [] X.env))):=by rfl):PE X (.Call (.Attribute o m a) (e::es) [] pos) (xs5 C m sp [] E0 j t):=by
 obtain⟨f,u,M,F,b⟩:=D.ex;exact xrv r c M F p (b [] (by simp)) .nil xo8 s g h l
theorem xfo (D:MethIs X.prog X.w X.K X.mg X.base n (ad X.K x) "__init__" ps dss sp) (M:DTab X.K x fs) (hr:Room (n+1) X.A) (hm:X.mg x=some (.ref (ad X.K x))) (hds:ds∈dss) (hd:Vals dvs ds) (ha:PA X (e::es) t) (hg:Gl X x:=by rfl) (hdb:(x == ("__debug__":Str))=false:=by decide)
  (he:starEach (e::es) X.env=(false,eval e X.env)::starEach es X.env:=by rfl) (hpl:(backTo pos (starEach es X.env)).any (·.1)=false:=by rfl):PE X (.Call (.Name x p) (e::es) [] pos) (xs6 (ad X.K x) sp dvs E0 t):=by
 obtain⟨f,fd,N,F,b⟩:=D.ex;exact xrw ⟨M.ms,N.at_,N.fn,M.kp⟩ F hr hg hm (b ds hds) hd xo8 ha hdb he hpl
end
open PySem.W in
def xq7(K:Frag)(x m:Str):Bool:=
 specialIn K (.ref (ad K x)) "__getattribute__" == some (some (.builtin "type.__getattribute__")) && (readsIn K (ad K x) (.type "type") &&
 (match findCls K (.ref (ad K x)) (.type "type") m,findIn K (.ref (ad K x)) m with
  |some (.val a),some (some b)=>a == b
  |_,_=>false))
structure CTab(K:Fg)(x m:Str):Prop where
 ga:PySem.W.specialIn K (.ref (ad K x)) "__getattribute__"=some (some (.builtin "type.__getattribute__"))
 rd:PySem.W.readsIn K (ad K x) (.type "type")=true
 fc:∀f:Addr,PySem.W.findIn K (.ref (ad K x)) m=some (some (.ref f))->PySem.W.findCls K (.ref (ad K x)) (.type "type") m=some (.val (.ref f))
theorem ctab_of{K:Fg}{x m:Str}(e:xq7 K x m=true):CTab K x m:=by
 unfold xq7 at e;simp only[Bool.and_eq_true,beq_iff_eq]at e;obtain⟨l,j,b⟩:=e;refine⟨l,j,λf i=>?_⟩;rw[i]at b
 cases h:PySem.W.findCls K (.ref (ad K x)) (.type "type") m with
 |none=>rw[h]at b;cases b
 | some r=>
  cases r with
  |val a=>
   rw[h]at b;have:a=Value.ref f:=by simpa using b
   rw[this]
  |get g a c n=>rw[h]at b;cases b
section
variable {X:Cx}{n:Nat}{x m:Str}{ps:List Str}{sp:Sp}{p pos apos:Pos}{e:Expr}{es:List Expr}{t:TA}
theorem xo7 {pl:Sem Bool} (D:MethIs X.prog X.w X.K X.mg X.base n (ad X.K x) m ps [[]] sp) (c:CTab X.K x m) (C:Room n X.A) (G:X.mg x=some (.ref (ad X.K x))) (O:PA X (e::es) t) (J:Gl X x:=by rfl) (l:(x == ("__debug__":Str))=false:=by decide)
  (i:starEach (e::es) X.env=(false,eval e X.env)::starEach es X.env:=by rfl) (j:(backTo pos (starEach es X.env)).any (·.1)=false:=by rfl)
  (z:eval (.Call (.Attribute (.Name x p) m a) (e::es) [] pos) X.env=(do
   let o <- eval (.Name x p) X.env
   standAt a.atName
   let (f,first) <- holding [o] (getMethod o m pl)
   callWith pos f first (backTo pos (starEach (e::es) X.env)) (backToKw pos (keywordEach [] X.env))):=by rfl):PE X (.Call (.Attribute (.Name x p) m a) (e::es) [] pos) (xrj sp [] E0 t):=by
 obtain⟨f,Z,M,F,b⟩:=D.ex;intro g s σ H Q I h;refine PySem.W.methodCall_KW (pl:=pl) (xhg I J G ?_ l) z;refine PySem.W.method_cls I.kIn c.ga (PySem.W.cls_value I.kIn c.rd (c.fc f M.at_) rfl ?_);have U:=I.tok (s.toks+1);refine PySem.W.callWith_K (h₀:=X.base) I.ok.mod.kin M.kp (thn (O pos g _ σ H _ U h) λus Y ⟨vs,H2,u,r,y⟩=>⟨u.kIn,?_⟩) i j;exact xmy F C (b [] (by simp)) .nil xo8 u r y
end
theorem ext1{σ:St}{i:Nat}{v:Option V}(h:σ[i]?=some none):Ext σ (σ.set i v):=by
 refine⟨by simp,λn b e=>?_⟩;have a:i≠n:=λz=>by subst z;rw[h]at e;cases e
 rw[List.getElem?_set_ne a];exact e
theorem ext4{σ:St}{i j k l:Nat}{u v w x:Option V}(h:σ[i]?=some none)(o:σ[j]?=some none)(m:σ[k]?=some none)(g:σ[l]?=some none):Ext σ ((((σ.set i u).set j v).set k w).set l x):=by
 refine⟨by simp,λn p e=>?_⟩;have f:i≠n:=λz=>by subst z;rw[h]at e;cases e
 have c:j≠n:=λz=>by subst z;rw[o]at e;cases e
 have b:k≠n:=λz=>by subst z;rw[m]at e;cases e
 have a:l≠n:=λz=>by subst z;rw[g]at e;cases e
 rw[List.getElem?_set_ne a,List.getElem?_set_ne b,List.getElem?_set_ne c,List.getElem?_set_ne f];exact e
theorem xij:∀(kvs acc:List (Key×V)),((acc++kvs).map (·.1)).Nodup->xcz acc kvs=acc++kvs
 |[],acc,_=>by show acc=_;rw[List.append_nil]
 | a::kvs,acc,h=>by
  have hn:(acc.any λp=>decide (p.1=a.1))=false:=by
   rw[List.any_eq_false];intro p b e;rw[zAP,List.nodup_append]at h;exact h.2.2 p.1 (List.mem_map_of_mem b) a.1 (by simp) (of_decide_eq_true e)
  have e:putK acc a.1 a.2=acc++[a]:=by
   unfold putK;rw[if_neg (by rw[hn];decide)]
  show xcz (putK acc a.1 a.2) kvs=_;rw[e,xij kvs (acc++[a]) (by rw[List.append_assoc];exact h),List.append_assoc];rfl
theorem xee{kvs:List (Key×V)}(h:(kvs.map (·.1)).Nodup):xcz [] kvs=kvs:=xij kvs [] h
theorem xfn(val:Nat->Int):∀(ns:List Int) (k:Nat),(∀(i:Nat) n,ns[i]?=some n->val (k+i)=n)->PySem.preSum val (k+ns.length)=PySem.preSum val k+ns.sum
 |[],k,_=>by simp
 |n::ns,k,h=>by
  have e:=xfn val ns (k+1) λi m a=>by rw[Nat.add_assoc,Nat.add_comm 1 i];exact h (i+1) m (by simpa using a)
  have b:val k=n:=h 0 n rfl;rw[List.length_cons,show k+(ns.length+1)=k+1+ns.length by omega,e];show PySem.preSum val k+val k+ns.sum=_;rw[b,List.sum_cons];omega
section
variable {X:Cx}{o:Expr}{td:TE}{p1 q1 q2 apos:Pos}
def xow(td:TE):TE:=λσ H Q=>td σ H λx H1=>∃a,∃kvs:List (Key×V),∃ns:List Int,x=.ref a/\H1 a=some (.dK kvs)/\kvs.map (·.2)=ns.map V.int/\Q (.int ns.sum) H1
theorem xge (hc:X.calm=true) (hg1:Gl X "sum") (hm1:X.mg "sum"=none) (ho:PE X o td)
  (hbase:attributeBase o "values" X.env (eval o X.env)=eval o X.env:=by rfl) (hline:(apos.endLine == q2.line)=true:=by rfl)
  (hs1:starEach [Expr.Call (.Attribute o "values" apos) [] [] q2] X.env=[(false,eval (.Call (.Attribute o "values" apos) [] [] q2) X.env)]:=by rfl) :
  PE X (.Call (.Name "sum" p1) [.Call (.Attribute o "values" apos) [] [] q2] [] q1) (xow td):=by
 intro pins s σ H Q I h;refine wpAny_Call_Name_kw (xet I hg1 hm1 PyProof.Rows.boot_sum ?_ (by decide) (by decide));refine PyProof.Rows.callWith_builtin1 ?_ hs1 rfl;rw[hs1];refine Calls.spliced_cons ?_;refine wpAny_Call_method0_late hbase hline (thn (ho pins s σ H _ I h) λv s1 ⟨x,H1,I1,r1,a,kvs,ns,ex,ha,hns,q⟩=>?_);subst ex;obtain rfl:v=.ref a:=r1;obtain⟨t1,t2,_⟩:=xt7 I1 (.inl ⟨kvs,.inl ha⟩);obtain⟨z,hd,vs,rel,dd⟩:=xp2 I1.hok ha;have hlen:=rel.length;refine⟨"dict","dict.values",PySem.F.plainAttrs_dict,PySem.F.slot_dict_values,PySem.F.type_dict_values,t1,t2,Calls.callWith_builtin rfl (PySem.evalArgs_none ?_)⟩;refine call_meetsIn PySem.F.slot_dict_values dd.typeIs PySem.F.entry_dict_values (PySem.F.args_dict_values_1 _) (meets_dict_values (xb9 X.prog X.w) a hd) ⟨⟨vs,dd⟩,Calls.spliced_nil ?_⟩;obtain⟨ep,hat⟩:=(dd.push {cls:=.type "dict_values",data:=.fields #[.ref a]}).dictAt;have I2:Inv X pins σ H1 {s1 with heap:=s1.heap.push {cls:=.type "dict_values",data:=.fields #[.ref a]}}:=I1.kept (t':=s1.toks) λb o e=>zPO _ e;have src:=PySem.W.kdl_values (knd:=xb9 X.prog X.w) (d:=a) (r:=s1.heap.objs.size) (kvs:=vs) (ep:=ep);have hOK:(s1.heap.push {cls:=.type "dict_values",data:=.fields #[.ref a]}).IsValuesView s1.heap.objs.size a/\Heap.DictAt (xb9 X.prog X.w) (s1.heap.push {cls:=.type "dict_values",data:=.fields #[.ref a]}) a vs ep:=⟨⟨_,Heap.get?_push_size _ rfl,rfl,rfl⟩,hat⟩
 obtain⟨oI,St,hit,wk,st0⟩:=src.iter X.A.in1 {s1 with heap:=s1.heap.push {cls:=.type "dict_values",data:=.fields #[.ref a]}} (I1.ok.hd hc) hOK;refine call_sum_walkG (hit _ _ ?_);have hlt:=(src.there _ hOK).2;refine⟨_,_,_,_,_,_,λi=>(ns[i]?).getD 0,rfl,wk,st0,λb hb=>?_,λi v hv=>?_,λh' tk t' k=>?_⟩
 ·rw[Heap.size_push]
  rcases zMC hb with rfl |hb
  ·exact Nat.lt_succ_self _
  ·rw[zMO hb]
   exact Nat.lt_succ_of_lt hlt
 ·obtain⟨k,hk⟩:=hv
  obtain⟨v',hv',rv⟩:=KV.get2 rel hk;have e:(kvs.map (·.2))[i]?=some v':=by rw[zGM,hv'];rfl
  rw[hns,zGM]at e;obtain⟨n,hn,rfl⟩:=zMS e;obtain⟨t,rfl⟩:=rv;exact⟨t,by show _=Value.int ((ns[i]?).getD 0) t;rw[hn];rfl⟩
 ·have e:PySem.preSum (λi=>(ns[i]?).getD 0) vs.length=ns.sum:=by
   have hl2:ns.length=vs.length:=by
    have:=congrArg List.length hns;rw[zLM,zLM]at this;omega
   have:=xfn (λi=>(ns[i]?).getD 0) ns 0 λi n h=>by show(ns[0+i]?).getD 0=n;rw[Nat.zero_add,h];rfl
   rw[Nat.zero_add,hl2]at this;rw[this];show(0:Int)+ns.sum=ns.sum;omega
  rw[e]
  have I3:Inv X pins σ H1 {s1 with heap:=h',toks:=tk}:=I2.kept λb o eb=>k b o (λhb=>by
   have hb':b=(s1.heap.push {cls:=.type "dict_values",data:=.fields #[.ref a]}).objs.size:=by simpa using hb
   have:=Heap.lt_size eb;exact absurd this (by rw[hb'];exact Nat.lt_irrefl _)) (zPO _ eb)
  exact⟨.int ns.sum,H1,I3,⟨t',rfl⟩,q⟩
end
section
variable {prog:Program}{w:World}{A:Around}{E:Value->Shared->Prop}{s:Shared}
theorem xgj{h h':Heap}{l b:Addr}{items:Array Value}(x:h.IsList l items)(e:Heap.ExtBut b h h')(n:l≠b):h'.IsList l items:=let ⟨o,a,r⟩:=x;⟨o,e l o n a,r⟩
theorem xfw{h:Heap}{l:Addr}{items:Array Value}{o:Obj}(x:h.IsList l items):(h.push o).IsList l items:=let ⟨q,a,r⟩:=x;⟨q,zPO _ a,r⟩
theorem xiz {it t:Addr} {items:Array Value} (c:t≠it):∀(n i:Nat) (s:Shared) (Q:List Value->Shared->Prop),s.heap.IsListIter it t i->s.heap.IsList t items->i+n<=items.size->
  (∀h',h'.IsListIter it t (i+n)->Heap.SameBut it s.heap h'->Q ((items.toList.drop i).take n) {s with heap:=h'})->wpAny (model prog w) A (draw (.ref it) n) Q E s
 |0,i,s,Q,a,_,_,j=>by
  show wpAny _ _ (pure []) Q E s;exact wpAny_pure (by simpa using j s.heap a (Heap.SameBut.refl ..))
 |n+1,i,s,Q,a,l,o,j=>by
  have e:i<items.size:=by omega
  show wpAny _ _ (pyNext (.ref it) >>= _) Q E s;refine wpAny_bind (wpAny_pyNext_list_item a l (x:=items[i]) (by simp[e]) λh₁ g b=>?_);refine wpAny_bind (wpAny_holding (xiz c n (i+1) _ _ g (xgj l b.extBut c) (by omega) λm f h=>wpAny_pure ?_));have hd:items.toList.drop i=items[i]::items.toList.drop (i+1):=by simp[List.drop_eq_getElem_cons,e]
  have:=j m (by rw[show i+(n+1)=i+1+n by omega];exact f) (b.trans h);rw[hd,List.take_succ_cons]at this;exact this
theorem xew {t:Addr} {items:Array Value} {Q:List Value->Shared->Prop} (p:A.handled=none) (a:s.heap.IsList t items)
  (r:∀h',Heap.ExtBut s.heap.objs.size s.heap h'->Q items.toList {s with heap:=h'}):wpAny (model prog w) A (unpackItems (.ref t) items.size none) Q E s:=by
 have f:t≠s.heap.objs.size:=by obtain⟨o,n,_⟩:=a;exact Nat.ne_of_lt (Heap.lt_size n)
 unfold unpackItems;refine wpAny_bind ?_
 ·unfold notIterableAtAll
  refine wpAny_bind (wpAny_specialOf a.typeIs slot_list_iter.lookup ?_);refine wpAny_pure ?_;simp only[Bool.false_eq_true,if_false];refine wpAny_bind (wpAny_holding (wpAny_pyIter_list a ?_));refine wpAny_bind (wpAny_holding (xiz f items.size 0 _ _ ⟨_,Heap.get?_push_size _ rfl,rfl,rfl⟩ (xfw a) (by omega) λh₁ g c=>?_))
  have h:List.take items.size (List.drop 0 items.toList)=items.toList:=by
   rw[List.drop_zero];exact zTL (by simp)
  rw[h];rw[if_neg (by simp)];have i:h₁.IsList t items:=xgj (xfw a) c.extBut f;refine wpAny_bind (wpAny_holding (wpAny_pyNext_list_end p g i (by simp) λm j=>?_));simp only[Option.isSome_none,Bool.false_eq_true,if_false];refine wpAny_pure (r m λb o l e=>j b o l (c.extBut b o l (zPO _ e)))
theorem xjd {t:Addr} {items:Array Value} {a:List (Bool×(Value->Sem Unit))} {Q:Unit->Shared->Prop} (e:A.handled=none) (c:s.heap.IsList t items)
  (hn:a.length=items.size) (b:a.findIdx? (·.1)=none)
  (h:∀h',Heap.ExtBut s.heap.objs.size s.heap h'->wpAny (model prog w) A (assignInOrder (a.map (·.2)) items.toList) Q E {s with heap:=h'}) :
  wpAny (model prog w) A (unpack (.ref t) a) Q E s:=by
 unfold unpack;rw[hn,b];exact wpAny_bind (wpAny_holding (xew e c h))
end
section
variable {X:Cx}{K:Fg}
def gLst(K:Fg)(n:Nat)(t:TGs):TG:=λv σ H Q=>∃a xs,v=.ref a/\SqL K H a xs/\xs.length=n/\t xs σ H Q
theorem xm4 {es:List Expr} {k:Nat} {t:TGs} {n:Nat} {pos:Pos} (x:X.K=K) (w:X.calm=true) (h:PGs X es t)
  (hn:(assignEach es X.env).length=n:=by rfl) (g:(assignEach es X.env).findIdx? (·.1)=none:=by rfl):PG X (.Tuple es k pos) (gLst K n t):=by
 subst x;intro c s σ H v u Q I r f;obtain⟨a,xs,y,m,p,f⟩:=f;subst y;cases r;obtain⟨its,i,l,hz⟩:=I.list m;rw[assign_Tuple];refine wpAny_bind (wpAny_standAt (xjd (I.ok.hd w) l.isList (by simp[hn,<- p,i.length]) g λh' j=>?_));have z:Inv X c σ H {s with heap:=h'}:=I.kept (t':=s.toks) λb o e=>j b o (Nat.ne_of_lt (Heap.lt_size e)) e;exact h c _ σ H xs _ Q z (by simpa using i) f
end
section
variable {X:Cx}
theorem xoo(hc:X.calm=true):xd2 X (.builtin "sum") (λxs H Q=>∃p,∃ns:List Int,xs=[.ref p]/\SqL X.K H p (ns.map V.int)/\Q (.int ns.sum) H):=by
 intro pins s σ H xs us Q I r h;obtain⟨p,ns,rfl,hq,q⟩:=h;obtain⟨u,rfl,ru⟩:=xf3 r;cases ru;obtain⟨its,rv,pl,hz⟩:=I.list hq;have hi:=xen rv;obtain⟨xs,e⟩:=hi.allInts.items;have hns:ns=xs.toList.map (·.1):=by rw[<- hi.numsOf,<- nums_intItems,<- e]
 have hl:=pl.isList;rw[e]at hl;have hsz:xs.size=ns.length:=by rw[hns,zLM,Array.length_toList]
 refine sum_intListG (I.ok.hd hc) hl λh' tk t' k=>⟨.int ns.sum,H,I.kept k,?_,q⟩;refine⟨t',?_⟩;rw[preSum_eq,<- hns,zTL (by omega)]
end
end L2
end
section
namespace M
open PySem L2
def ArmN(ks:List Kn)(z:Str):Prop:=(∃j,z=byN j)\/∃k∈ks,∃p∈k.parts,p.1=z
def FitK(ks:List Kn)(bs:List (Str×Str))(env:En):Prop:=(∀p∈bs,env p.1=some (.str p.2))/\∀z,ArmN ks z->(∀q∈bs,q.1≠z)->env z=none
theorem FitK.put{ks:List Kn}{bs:List (Str×Str)}{env:En}{y k:Str}(h:FitK ks bs env)(f:∀p∈bs,p.1≠y):FitK ks (bs++[(y,k)]) (env.put y (.str k)):=by
 refine⟨λp a=>?_,λz hz e=>?_⟩
 ·unfold En.put
  rcases zMA a with a |a
  ·rw[if_neg (f p a)];exact h.1 p a
  ·rw[zMO a,if_pos rfl]
 ·unfold En.put
  have b:y≠z:=e (y,k) (by simp);rw[if_neg (Ne.symm b)];exact h.2 z hz λq c=>e q (by simp[c])
def TmK(ks:List Kn)(n:Nat)(bs:List (Str×Str))(d:D)(x:Str):Prop:=∀env,FitK ks bs env->Kd True ks n env d x
def TmB(ks:List Kn)(n:Nat)(bs:List (Str×Str))(d:D)(x:Str):Prop:=TmOk ks n bs d x/\TmK ks n bs d x
theorem xn0{ks:List Kn}{n:Nat}{env:En}{d:D}{x:Str}(h:xot env d x):Kd True ks n env d x:=by
 cases n with
 |zero=>exact h
 |succ n=>exact .inl h
theorem xs3{ks:List Kn}{n:Nat}{bs:List (Str×Str)}{i:Int}(h:Nm i):TmB ks n bs (tNum i) (S "num"):=⟨xqd h,λenv _=>xn0 (.inl ⟨i,h,rfl,rfl⟩)⟩
theorem xmc{ks:List Kn}{n:Nat}{bs:List (Str×Str)}{y x:Str}(h:(y,x)∈bs):TmB ks n bs (tBox y) x:=⟨xhn h,λenv a=>xn0 (.inr ⟨y,a.1 _ h,rfl⟩)⟩
theorem xul{ks:List Kn}(g:KWf ks){n:Nat}{bs:List (Str×Str)}{s:Str}{a b:D}(hs:Sg s)(f:TmB ks n bs a (S "num"))(e:TmB ks n bs b (S "num")):TmB ks (n+1) bs (tOpD s a b) (S "num"):=
 ⟨xsz g hs f.1 e.1,λenv c=>.inr (.inl ⟨s,a,b,f.2 env c,e.2 env c,rfl,rfl⟩)⟩
theorem xs2{ks:List Kn}{n:Nat}{bs:List (Str×Str)}{x:Str}{k:Kn}{es:List D}(b:kAt ks x=some k)(a:k.rc=true)(c:k.parts.length<=1000)(h:All2 (λe (p:Str×Str)=>TmB ks n bs e p.2) es k.parts):TmB ks (n+1) bs (tRec x es) x:=
 ⟨xsy b a c (h.imp λ_ _ h=>h.1),λenv f=>.inr (.inr (.inl ⟨es,k,b,a,h.imp λ_ _ h=>h.2 env f,rfl⟩))⟩
theorem xjt{k:Kn}{p:Str×Str}(nd:(k.parts.map (·.1)).Nodup)(b:p∈k.parts):xh9 k p.1=some p.2:=by
 unfold xh9;obtain⟨i,hi,e⟩:=zMI b;have:=xdx (f:=λr:Str×Str=>r.1) (xs:=k.parts) (i:=i) (a:=p) nd (by rw[<- e];exact zGA hi);rw[this];rfl
theorem xs4{ks:List Kn}(c:KWf ks){n:Nat}{bs:List (Str×Str)}{y:Str}{k:Kn}{a:D}{p:Str×Str}(b:kAt ks y=some k)(e:k.rc=true)(f:p∈k.parts)(h:TmB ks n bs a y):TmB ks (n+1) bs (tGet a p.1) p.2:=
 ⟨xs0 c b e f h.1,λenv g=>.inr (.inr (.inr (.inl ⟨a,y,p.1,k,h.2 env g,b,e,xjt (c.pnd k (zMF b)) f,rfl⟩)))⟩
theorem xs1{ks:List Kn}(f:KWf ks){n:Nat}{bs:List (Str×Str)}{x:Str}{k:Kn}{a:D}{p:Str×Str}(b:kAt ks x=some k)(c:k.rc=false)(e:p∈k.parts)(h:TmB ks n bs a p.2):TmB ks (n+1) bs (tTag x p.1 a) x:=
 ⟨xsx b c e h.1,λenv g=>.inr (.inr (.inr (.inr (.inl ⟨p.1,a,k,p.2,b,c,xjt (f.pnd k (zMF b)) e,h.2 env g,rfl⟩))))⟩
theorem xb6{α β:Type}{f:α->β}:∀{l:List α},(l.map f).Nodup->∀{a b:α},a∈l->b∈l->f a=f b->a=b
 |[],_,a,_,i,_,_=>nomatch i
 | c::l,nd,a,b,i,j,e=>by
  rw[List.map_cons,List.nodup_cons]at nd;rcases zMC i with h |h <;> rcases zMC j with g |g
  ·rw[h,g]
  ·rw[h]at e
   exact absurd (by rw[e];exact List.mem_map_of_mem g) nd.1
  ·rw[g]at e
   exact absurd (by rw[<- e];exact List.mem_map_of_mem h) nd.1
  ·exact xb6 nd.2 h g e
theorem xrg {ks:List Kn} (j:KWf ks) {n:Nat} {bs:List (Str×Str)} {x y:Str} {k:Kn} {a:D} {rs:List (Str×Str×D)} (m:kAt ks y=some k) (l:k.rc=false) (C:TmB ks n bs a y) (I:rs.length<=1000) (nd:(rs.map (·.1)).Nodup)
  (b:rs.length=k.parts.length) (c:∀r∈rs,∃p∈k.parts,p.1=r.1)
  (h:∀p∈k.parts,∃z e,(p.1,z,e)∈rs/\(∀q∈bs,q.1≠z)/\ArmN ks z/\TmB ks n (bs++[(z,p.2)]) e x):TmB ks (n+1) bs (xlk a rs) x:=by
 have w:=zMF m;refine⟨xre j m l C.1 I nd λp g=>?_,λenv o=>.inr (.inr (.inr (.inr (.inr (.inl ⟨True.intro,a,rs,y,k,C.2 env o,m,l,?_,b,nd,λr f=>?_,rfl⟩)))))⟩
 ·obtain⟨z,e,u,i,G,s⟩:=h p g
  exact⟨z,e,u,i,s.1⟩
 ·intro e
  have h0:k.parts=[]:=List.eq_nil_of_length_eq_zero (by rw[<- b,e];rfl);exact j.alt k w l h0
 ·obtain⟨p,g,e⟩:=c r f
  obtain⟨z,M,u,i,G,s⟩:=h p g;have J:r=(p.1,z,M):=xb6 nd f u e.symm;subst J;exact⟨o.2 z G i,p.2,xjt (j.pnd k w) g,s.2 _ (o.put i)⟩
theorem xum{ks:List Kn}(i:KWf ks){n:Nat}{bs:List (Str×Str)}{x:Str}{a b c:D}(h:TmB ks n bs a (S "num"))(g:TmB ks n bs b x)(f:TmB ks n bs c x):TmB ks (n+1) bs (tIfD a b c) x:=
 ⟨xuk i h.1 g.1 f.1,λenv e=>.inr (.inr (.inr (.inr (.inr (.inr ⟨a,b,c,h.2 env e,g.2 env e,f.2 env e,rfl⟩)))))⟩
theorem NodeKd.mono{cs:Prop}{ks:List Kn}{R n:RKn}(k:∀env d x,R env d x->n env d x){env:En}{d:D}{x:Str}(h:NodeKd cs ks R env d x):NodeKd cs ks n env d x:=by
 rcases h with⟨s,a,b,e,g,r⟩ |⟨es,i,e,g,j,r⟩ |⟨a,l,f,i,e,r⟩ |⟨t,a,i,l,e,g,j,m,r⟩ |⟨u,a,rs,l,i,e,g,j,m,z,y,w,r⟩ |⟨a,b,c,e,g,j,r⟩
 ·exact .inl ⟨s,a,b,k _ _ _ e,k _ _ _ g,r⟩
 ·exact .inr (.inl ⟨es,i,e,g,j.imp λ_ _ h=>k _ _ _ h,r⟩)
 ·exact .inr (.inr (.inl ⟨a,l,f,i,k _ _ _ e,r⟩))
 ·exact .inr (.inr (.inr (.inl ⟨t,a,i,l,e,g,j,k _ _ _ m,r⟩)))
 ·refine .inr (.inr (.inr (.inr (.inl ⟨u,a,rs,l,i,k _ _ _ e,g,j,m,z,y,λr p=>?_,r⟩))))
  obtain⟨I,o,G,C⟩:=w r p;exact⟨I,o,G,k _ _ _ C⟩
 ·exact .inr (.inr (.inr (.inr (.inr ⟨a,b,c,k _ _ _ e,k _ _ _ g,k _ _ _ j,r⟩))))
theorem xt4{cs:Prop}{ks:List Kn}:∀(n:Nat) (env:En) (d:D) (x:Str),Kd cs ks n env d x->Kd cs ks (n+1) env d x
 |0,_,_,_,h=>.inl h
 |n+1,env,d,x,h=>by
  rcases h with h |h
  ·exact .inl h
  ·exact .inr (h.mono (xt4 n))
theorem xu5{cs:Prop}{ks:List Kn}{n m:Nat}(l:n<=m){env:En}{d:D}{x:Str}(h:Kd cs ks n env d x):Kd cs ks m env d x:=by
 obtain⟨k,rfl⟩:∃k,m=n+k:=⟨m-n,by omega⟩;clear l
 induction k with
 |zero=>exact h
 |succ k a=>exact xt4 _ _ _ _ a
def NoMo(x:Str):Prop:=x≠S "more"
theorem xu2{l:List Nat}(h:l[0]?≠some 109\/l[1]?≠some 111):NoMo (ofL l):=λe=>by
 have:=congrArg L e;rw[xdr,show L (S "more")=[109,111,114,101] by walk_at"k"]at this;subst this;simp at h
theorem xj5{c:Nat}(h:c∈five):c≠109/\c≠111:=by
 revert h;unfold five;simp;omega
theorem xqu{cs:List Nat}(h:∀c∈cs,c∈five)(a:Nat)(b:Int)(k:Nat)(t:List Nat)(i:∀c∈t,c∈five):NoMo (ofL (nmA cs a b k++t)):=by
 apply xu2;unfold nmA
 cases g:cs.take a with
 |nil=>
  right;rw[List.nil_append,List.cons_append,List.getElem?_cons_succ];intro e;have f:=zMG e;rcases zMA f with f |f
  ·exact(xj5 (h _ (List.mem_of_mem_drop f))).2 rfl
  ·exact(xj5 (i _ f)).2 rfl
 |cons c r=>
  left;intro e;simp at e;have:c∈cs.take a:=by rw[g];simp
  exact(xj5 (h c (List.mem_of_mem_take this))).1 e
theorem xr8{cs:List Nat}{a:Nat}{b:Int}(e:∀c∈cs,c∈five):∀z∈((List.range 26).map λk=>ofL (nmA cs a b k)),NoMo z:=λz hz=>by
 obtain⟨k,_,rfl⟩:=zMP hz;have:=xqu e a b k [] (λ_ h=>nomatch h);rw[List.append_nil]at this;exact this
theorem xr6{cs:List Nat}{a:Nat}{b:Int}(f:∀c∈cs,c∈five):∀z∈((List.range 26).map λk=>ofL (nmB cs a b k)),NoMo z:=λz hz=>by
 obtain⟨k,_,rfl⟩:=zMP hz;unfold nmB;exact xqu f a b _ _ λc e=>by rw[List.eq_of_mem_replicate e];decide
theorem DGet.rd{H:Hp}{a:Addr}{kvs:List (Key×V)}{k:Key}(e:Rd H a (.dK kvs)):DGet H a (kV k) (valV kvs k):=.inl ⟨kvs,k,e,rfl,rfl⟩
end M
end
section
namespace L2
open PySem PySem.Spec PySem.W PyProof.Rows M
def EqW(P:Program)(w:World)(A:Around)(s:Shared)(y x:Value):Prop:=∀(E:Value->Shared->Prop) (Q:Bool->Shared->Prop),Q true s->wpAny (model P w) A (eqBool y x) Q E s
theorem xra {P:Program} {w:World} {l b:Addr} {us zs:Array Value} {n m:Nat} {I G:Option Addr} {j i:Array (Option Value)} (hz:us.size=zs.size) :
  MeetsIn P w (Builtin.«tuple.__ne__» ⟨[.ref l,.ref b],[]⟩) (λA R s=>s.heap.get? l=some {cls:=.type "tuple",dict:=I,data:=.seq us n,slots:=j}/\s.heap.get? b=some {cls:=.type "tuple",dict:=G,data:=.seq zs m,slots:=i} ∧
   (∀p∈us.toList.zip zs.toList,EqW P w A.in1 s p.1 p.2)/\R (.ok (.ret (.bool false))) s):=
 .of_wp λA R s h=>by
  obtain⟨h0,C,J,g,o⟩:=s;obtain⟨r,z,u,h⟩:=h;have M:=AutoSeq1.sub_tuple_tuple
  wp_walk using AutoSeq1.wpAny_loadPart' r,AutoSeq1.wpAny_loadPart' z,wpAny_forIn_list _ (λrest c s'=>c.1=none/\s'=⟨h0,C,J,g,o⟩/\∀p∈rest,p∈us.toList.zip zs.toList) _
  case turn=>
   rintro⟨y,x⟩ rest c s' ⟨e,rfl,f⟩;refine wpAny_bind (u (y,x) (f _ (by simp)) _ _ ?_)
   wp_walk
   exact⟨rfl,rfl,λp a=>f p (by simp[a])⟩
  case fin=>
   rintro⟨U,O⟩ s' ⟨e,rfl,_⟩;simp only at e;subst e
   wp_walk
   exact⟨_,rfl,by simpa[Builtin.Tuple.tupleCompareSizes,bne,hz] using h⟩
  case h=>exact⟨rfl,rfl,λp a=>a⟩
section
variable {X:Cx}
theorem xk7{P:Program}{w:World}{A:Around}{s:Shared}{y x:Value}(h:SeqAt.EqAt A s y x true):EqW P w A s y x:=λE Q q=>h P w E Q q
end
end L2
end
section
namespace L2
open PySem PySem.Spec PySem.W PyProof.Rows M
open PySem.AutoSeq1 (wpAny_loadPart')
open PySem.MeetsSeq PySem.MeetsSeq2 PySem.MeetsSeq3 PySem.SeqRoads2 PySem.SeqAt
theorem xil {P:Program} {w:World} (l b:Addr) (us zs:Array Value) (n m:Nat) (Y U:Option Addr) (G C:Array (Option Value)) (hz:us.size=zs.size) (c:Bool) (k:Nat) :
  ∀ i:Nat,us.size-i=k->MeetsIn P w (Builtin.«list.__eq__.loop» ⟨[.ref l,.ref b,rawInt i,rawInt (if c=true then 2 else 3)],[]⟩)
   (λA R s=>s.heap.get? l=some {cls:=.type "list",dict:=Y,data:=.seq us n,slots:=G}/\s.heap.get? b=some {cls:=.type "list",dict:=U,data:=.seq zs m,slots:=C} ∧
    (∀j (h1:j<us.size) (Z:j<zs.size),EqW P w A.in1 s us[j] zs[j])/\R (.ok (.ret (.bool c))) s):=by
 induction k with
 | zero=>
  intro i O A R s h;obtain⟨M,g,d,z,I⟩:=s;obtain⟨p,r,x,h⟩:=h;have f:us[((i:Nat):Int).toNat]?=none:=by simp;omega
  have e:zs[((i:Nat):Int).toNat]?=none:=by simp;omega
  cases c with
  |true=>
   simp only[if_true]
   wp_walk using wpAny_loadPart' p,wpAny_loadPart' r
   rw[f,e]
   wp_walk using wpAny_loadPart' p,wpAny_loadPart' r
   show R (.ok (.ret (.bool (us.size == zs.size)))) _;rw[hz];simpa using h
  |false=>
   simp only[Bool.false_eq_true,if_false]
   wp_walk using wpAny_loadPart' p,wpAny_loadPart' r
   rw[f,e]
   wp_walk using wpAny_loadPart' p,wpAny_loadPart' r
   show R (.ok (.ret (.bool (us.size != zs.size)))) _;rw[hz];simpa using h
 | succ k J=>
  intro i O A R s h;obtain⟨M,g,d,z,I⟩:=s;obtain⟨p,r,x,h⟩:=h;have u:i<us.size:=by omega
  have a:i<zs.size:=by omega
  have f:us[((i:Nat):Int).toNat]?=some us[i]:=by simp[u]
  have e:zs[((i:Nat):Int).toNat]?=some zs[i]:=by simp[a]
  have y:((i:Int)+1)=((i+1:Nat):Int):=by push_cast;rfl
  have o:=J (i+1) (by omega)
  cases c with
  | true=>
   simp only[if_true]at o⊢
   wp_walk using wpAny_loadPart' p,wpAny_loadPart' r
   rw[f,e];refine wpAny_bind (x i u a _ _ ?_)
   wp_walk
   rw[y]
   exact⟨plainId_quiet plain_eq_loop _,codeAny_builtin entry_eq_loop (by
    rw[Around.under_plainId plain_eq_loop _];exact o A R _ ⟨p,r,x,h⟩)⟩
  | false=>
   simp only[Bool.false_eq_true,if_false]at o⊢
   wp_walk using wpAny_loadPart' p,wpAny_loadPart' r
   rw[f,e];refine wpAny_bind (x i u a _ _ ?_)
   wp_walk
   rw[y]
   exact⟨plainId_quiet plain_eq_loop _,codeAny_builtin entry_eq_loop (by
    rw[Around.under_plainId plain_eq_loop _];exact o A R _ ⟨p,r,x,h⟩)⟩
theorem xse {P:Program} {w:World} {l b:Addr} {us zs:Array Value} {n m:Nat} {o i:Option Addr} {c a:Array (Option Value)} (hz:us.size=zs.size) :
  MeetsIn P w (Builtin.«list.__eq__» ⟨[.ref l,.ref b],[]⟩)
   (λA R s=>s.heap.get? l=some {cls:=.type "list",dict:=o,data:=.seq us n,slots:=c}/\s.heap.get? b=some {cls:=.type "list",dict:=i,data:=.seq zs m,slots:=a} ∧
    (∀j (C:j<us.size) (z:j<zs.size),EqW P w A.in1 s us[j] zs[j])/\R (.ok (.ret (.bool true))) s):=by
 intro A R s h;obtain⟨y,g,d,u,x⟩:=s;obtain⟨e,f,r,h⟩:=h;have G:=AutoSeq1.sub_list_list;have p:¬(us.size != zs.size)=true:=by simp[hz]
 wp_walk using wpAny_loadPart' e,wpAny_loadPart' f
 exact⟨plainId_quiet plain_eq_loop _,codeAny_builtin entry_eq_loop (by
  rw[Around.under_plainId plain_eq_loop _];exact xil l b us zs n m o i c a hz true _ 0 rfl A R _ ⟨e,f,r,h⟩)⟩
theorem xsd {P:Program} {w:World} {l b:Addr} {us zs:Array Value} {n m:Nat} {o i:Option Addr} {c a:Array (Option Value)} (hz:us.size=zs.size) :
  MeetsIn P w (Builtin.«list.__ne__» ⟨[.ref l,.ref b],[]⟩)
   (λA R s=>s.heap.get? l=some {cls:=.type "list",dict:=o,data:=.seq us n,slots:=c}/\s.heap.get? b=some {cls:=.type "list",dict:=i,data:=.seq zs m,slots:=a} ∧
    (∀j (C:j<us.size) (z:j<zs.size),EqW P w A.in1 s us[j] zs[j])/\R (.ok (.ret (.bool false))) s):=by
 intro A R s h;obtain⟨y,g,d,u,x⟩:=s;obtain⟨e,f,r,h⟩:=h;have G:=AutoSeq1.sub_list_list;have p:¬(us.size != zs.size)=true:=by simp[hz]
 wp_walk using wpAny_loadPart' e,wpAny_loadPart' f
 exact⟨plainId_quiet plain_eq_loop _,codeAny_builtin entry_eq_loop (by
  rw[Around.under_plainId plain_eq_loop _];exact xil l b us zs n m o i c a hz false _ 0 rfl A R _ ⟨e,f,r,h⟩)⟩
theorem xrb {P:Program} {w:World} {l b:Addr} {us zs:Array Value} {n m:Nat} {I G:Option Addr} {j i:Array (Option Value)} (hz:us.size=zs.size) :
  MeetsIn P w (Builtin.«tuple.__eq__» ⟨[.ref l,.ref b],[]⟩) (λA R s=>s.heap.get? l=some {cls:=.type "tuple",dict:=I,data:=.seq us n,slots:=j}/\s.heap.get? b=some {cls:=.type "tuple",dict:=G,data:=.seq zs m,slots:=i} ∧
   (∀p∈us.toList.zip zs.toList,EqW P w A.in1 s p.1 p.2)/\R (.ok (.ret (.bool true))) s):=
 .of_wp λA R s h=>by
  obtain⟨h0,C,J,g,o⟩:=s;obtain⟨r,z,u,h⟩:=h;have M:=AutoSeq1.sub_tuple_tuple
  wp_walk using AutoSeq1.wpAny_loadPart' r,AutoSeq1.wpAny_loadPart' z,wpAny_forIn_list _ (λrest c s'=>c.1=none/\s'=⟨h0,C,J,g,o⟩/\∀p∈rest,p∈us.toList.zip zs.toList) _
  case turn=>
   rintro⟨y,x⟩ rest c s' ⟨e,rfl,f⟩;refine wpAny_bind (u (y,x) (f _ (by simp)) _ _ ?_)
   wp_walk
   exact⟨rfl,rfl,λp a=>f p (by simp[a])⟩
  case fin=>
   rintro⟨U,O⟩ s' ⟨e,rfl,_⟩;simp only at e;subst e
   wp_walk
   exact⟨_,rfl,by simpa[Builtin.Tuple.tupleCompareSizes,hz] using h⟩
  case h=>exact⟨rfl,rfl,λp a=>a⟩
end L2
end
section
namespace L2
open PySem PySem.Spec PySem.W PyProof.Rows M
open PySem.SeqAt
abbrev opC(c:Bool):CmpOp:=if c=true then .Eq else .NotEq
def RcW(P:Program)(w:World)(A:Around)(s:Shared)(c:Bool)(y x:Value):Prop:=∀(E:Value->Shared->Prop) (Q:Value->Shared->Prop),Q (.bool c) s->wpAny (model P w) A (compareOp (opC c) y x) Q E s
theorem xod{P:Program}{w:World}{A:Around}{s:Shared}{a b:Addr}(h:RcW P w A s true (.ref a) (.ref b)):EqW P w A s (.ref a) (.ref b):=by
 by_cases e:a=b
 ·subst e
  exact xk7 (EqAt.same _)
 intro E Q q;unfold eqBool;refine wpAny_holding ?_;refine wpAny_ite_split (λc=>absurd (by have:=eq_of_beq c;injection this) e) (λ_=>?_);exact wpAny_bind (h E _ (wpAny_truthy_bool q))
def EqA(H:Hp)(x y:V):Prop:=(∃d:D,RelD H x d/\RelD H y d/\d.deep<=100)\/∃a b us zs ds,x=.ref a/\y=.ref b/\H a=some (.lst us)/\H b=some (.lst zs)/\RelDs H us ds/\RelDs H zs ds/\xep ds<=100
def EqS(H:Hp):Nat->V->V->Prop
 |0,x,y=>EqA H x y
 |n+1,x,y=>EqS H n x y\/(∃a b us zs,x=.ref a/\y=.ref b/\((H a=some (.tup us)/\H b=some (.tup zs))\/(H a=some (.lst us)/\H b=some (.lst zs)))/\us.length=zs.length/\∀(i:Nat) u z,us[i]?=some u->zs[i]?=some z->EqS H n u z) ∨
  ∃a b,∃k1 k2:List (Key×V),x=.ref a/\y=.ref b/\H a=some (.dK k1)/\H b=some (.dK k2)/\k1.length=k2.length/\∀p∈k1,∃v,valV k2 p.1=some v/\EqA H p.2 v
theorem EqS.mono{H:Hp}{n:Nat}{x y:V}(h:EqS H n x y):∀m,EqS H (n+m) x y
 |0=>h
 |m+1=>.inl (EqS.mono h m)
theorem EqS.dat{H:Hp}{n:Nat}{x y:V}(h:EqA H x y):EqS H n x y:=by
 have:=EqS.mono (n:=0) h n
 rwa[Nat.zero_add]at this
section
variable {X:Cx}{pins:List (Addr×Obj)}{σ:St}{H:Hp}{s:Shared}{A:Around}
theorem xsf (I:Inv X O σ H s) {a b:Addr} {us zs:List V} (ha:H a=some (.lst us)) (hb:H b=some (.lst zs)) (hl:us.length=zs.length) (U:A.units<cLine)
  (he:∀(i:Nat) u z (G C:Value),us[i]?=some u->zs[i]?=some z->RelV u G->RelV z C->EqW X.prog X.w A.in1 s G C) (c:Bool):RcW X.prog X.w A s c (.ref a) (.ref b):=by
 intro E Q q;obtain⟨p,M,o1,_⟩:=I.list (SqL.of (K:=X.K) ha);obtain⟨o,J,o2,_⟩:=I.list (SqL.of (K:=X.K) hb);have e1:=M.length;have e2:=J.length;have hi:=o1.isList;have r:=o2.isList;obtain⟨⟨cls,dd,data,sl⟩,f,Y,n,hd⟩:=id hi;obtain⟨⟨a0,a2,y,a1⟩,e,m,n2,l⟩:=id r;simp only at Y hd m l;subst Y hd m l;have g:Value.bool c≠Value.notImplemented:=λx=>nomatch x;have hz:p.toArray.size=o.toArray.size:=by simp only[List.size_toArray];omega
 have h:∀j (h1:j<p.toArray.size) (Z:j<o.toArray.size),EqW X.prog X.w A.in1 s p.toArray[j] o.toArray[j]:=λj h1 Z=>by
  obtain⟨x1,f1,g1⟩:=xeu M h1;obtain⟨x2,f2,g2⟩:=xeu J Z;exact he j x1 x2 _ _ f1 f2 g1 g2
 cases c with
 |true=>exact wpAny_richCompare_same_room (op:=.Eq) ⟨_,f,rfl⟩ ⟨_,e,rfl⟩ PySem.F.slot_list_eq (call_meetsIn PySem.F.slot_list_eq ⟨_,f,rfl⟩ PySem.F.entry_list_eq (PySem.F.args_list_eq_2 _ _) (xse hz) ⟨f,e,h,g,q⟩) U
 |false=>exact wpAny_richCompare_same_room (op:=.NotEq) ⟨_,f,rfl⟩ ⟨_,e,rfl⟩ PySem.F.slot_list_ne (call_meetsIn PySem.F.slot_list_ne ⟨_,f,rfl⟩ PySem.F.entry_list_ne (PySem.F.args_list_ne_2 _ _) (xsd hz) ⟨f,e,h,g,q⟩) U
theorem xrc (I:Inv X Y σ H s) {a b:Addr} {us zs:List V} (ha:H a=some (.tup us)) (hb:H b=some (.tup zs)) (hl:us.length=zs.length) (Z:A.units<cLine)
  (he:∀(i:Nat) u z (M J:Value),us[i]?=some u->zs[i]?=some z->RelV u M->RelV z J->EqW X.prog X.w A.in1 s M J) (c:Bool):RcW X.prog X.w A s c (.ref a) (.ref b):=by
 intro E Q q;obtain⟨y,U,p1,_⟩:=I.tuple (SqT.of (K:=X.K) ha);obtain⟨r,O,p2,_⟩:=I.tuple (SqT.of (K:=X.K) hb);have e1:=U.length;have e2:=O.length;obtain⟨⟨cls,dd,data,sl⟩,g,hc,n,hd⟩:=id p1;obtain⟨⟨a0,a2,G,a1⟩,f,o,n2,m⟩:=id p2;simp only at hc hd o m;subst hc hd o m;have h:Value.bool c≠Value.notImplemented:=λx=>nomatch x;have hz:y.toArray.size=r.toArray.size:=by simp only[List.size_toArray];omega
 have l:∀p∈y.toArray.toList.zip r.toArray.toList,EqW X.prog X.w A.in1 s p.1 p.2:=λp hp=>by
  obtain⟨j,C,e⟩:=zMI hp;rw[List.length_zip]at C;have h1:j<y.toArray.size:=by simp at C⊢;omega
  have h2:j<r.toArray.size:=by simp at C⊢;omega
  obtain⟨x1,f1,g1⟩:=xeu U h1;obtain⟨x2,f2,g2⟩:=xeu O h2;rw[<- e,List.getElem_zip];exact he j x1 x2 _ _ f1 f2 (by simpa using g1) (by simpa using g2)
 cases c with
 |true=>exact wpAny_richCompare_same_room (op:=.Eq) ⟨_,g,rfl⟩ ⟨_,f,rfl⟩ PySem.F.slot_tuple_eq (call_meetsIn PySem.F.slot_tuple_eq ⟨_,g,rfl⟩ PySem.F.entry_tuple_eq (PySem.F.args_tuple_eq_2 _ _) (xrb hz) ⟨g,f,l,h,q⟩) Z
 |false=>exact wpAny_richCompare_same_room (op:=.NotEq) ⟨_,g,rfl⟩ ⟨_,f,rfl⟩ PySem.F.slot_tuple_ne (call_meetsIn PySem.F.slot_tuple_ne ⟨_,g,rfl⟩ PySem.F.entry_tuple_ne (PySem.F.args_tuple_ne_2 _ _) (xra hz) ⟨g,f,l,h,q⟩) Z
theorem xq3(I:Inv X r σ H s){x y:V}{u v:Value}(h:EqA H x y)(l:RelV x u)(i:RelV y v)(hu:A.units+110<cLine):EqAt A s u v true:=by
 rcases h with⟨d,g,f,hd⟩ |⟨a,b,us,zs,ds,rfl,rfl,Y,U,n,m,hd⟩
 ·exact xoc I 100 d hd g f l i (by omega)
 ·obtain rfl:u=.ref a:=l
  obtain rfl:v=.ref b:=i;by_cases c:a=b
  ·subst c
   exact EqAt.same _
  obtain⟨O,p,G,_⟩:=I.list (SqL.of (K:=X.K) Y);obtain⟨i2,o,C,_⟩:=I.list (SqL.of (K:=X.K) U);have e1:=p.length;have e2:=o.length;have e3:=n.length;have e4:=m.length;have:=EqAt.of_refs c (RcAt.lists (A:=A) (e:=λ_=>true) G.isList C.isList (by simp only[List.size_toArray];omega) (by omega) λj g f=>?_)
  ·have e:(List.range O.toArray.size).all (λ_=>true)=true:=by simp
   rw[e]at this;exact this
  ·obtain⟨x1,f1,g1⟩:=xeu p g
   obtain⟨x2,f2,Z⟩:=xeu o f;obtain⟨d1,z,M⟩:=n.get f1;obtain⟨d2,w,J⟩:=m.get f2;rw[z]at w;cases w;exact xoc I 100 d1 (Nat.le_trans (xdq (zMG z)) hd) M J g1 Z (by show A.units+1+100<cLine;omega)
theorem xla(I:Inv X i σ H s)(l:A.units+110<cLine){j:List (Key×V)}{a:List (Key×Value)}(h:KV j a):∀(ks:List (Key×V)) (us:List (Key×Value)),KV ks us->(∀p∈ks,∃v,valV j p.1=some v/\EqA H p.2 v)->KeqHits A s a us true
 |[],us,r,_=>by cases r;exact .nil
 | k::ks,us,r,hd=>by
  cases r with
  | @cons _ m _ f w n=>
   obtain⟨v,z,x⟩:=hd k (by simp);have c:=h.val k.1;rw[z]at c
   cases g:valueAt a k.1 with
   |none=>rw[g]at c;exact c.elim
   |some y=>
    rw[g]at c;obtain⟨G,C⟩:=m;obtain⟨rfl,u⟩:=w;have:=KeqHits.hit (e:=true) (b:=true) g (xq3 I x u c l) (xla I l h ks f n λp o=>hd p (List.mem_cons_of_mem _ o));exact this
theorem xue (I:Inv X o σ H s) {a b:Addr} {m n:List (Key×V)} (C:H a=some (.dK m)) (y:H b=some (.dK n)) (M:m.length=n.length) (J:A.units+111<cLine)
  (x:∀p∈m,∃v,valV n p.1=some v/\EqA H p.2 v) (c:Bool):RcW X.prog X.w A s c (.ref a) (.ref b):=by
 intro E Q q;obtain⟨z,j,vs,h,u⟩:=xp2 I.hok C;obtain⟨G,i,g,e,l⟩:=xp2 I.hok y;have U:=h.length;have O:=e.length;have f:=xla (A:=A.in1) I (by show A.units+1+110<cLine;omega) e m vs h x;have r:(vs.length == g.length && true)=true:=by rw[show vs.length=g.length by omega];simp
 cases c with
 |true=>exact keq_eq j i u l (by omega) (λ_=>f) (by rw[r];exact q)
 |false=>exact keq_ne j i u l (by omega) (λ_=>f) (by rw[r];exact q)
theorem xsq(I:Inv X r σ H s):∀(n:Nat) {x y:V} {u v:Value} {A:Around},EqS H n x y->RelV x u->RelV y v->A.units+120+n<cLine->EqW X.prog X.w A s u v
 |0,x,y,u,v,A,h,e,c,C=>xk7 (xq3 I h e c (by omega))
 | n+1,x,y,u,v,A,h,e,c,C=>by
  rcases h with h |⟨a,b,us,zs,rfl,rfl,h,l,p⟩ |⟨a,b,Y,U,rfl,rfl,j,g,l,p⟩
  ·exact xsq I n h e c (by omega)
  ·obtain rfl:u=.ref a:=e
   obtain rfl:v=.ref b:=c;have f:∀(i:Nat) u z (o m:Value),us[i]?=some u->zs[i]?=some z->RelV u o->RelV z m->EqW X.prog X.w A.in1 s o m:=λi u z o m O M J G=>xsq I n (p i u z O M) J G (by show A.units+1+120+n<cLine;omega);rcases h with⟨j,g⟩ |⟨j,g⟩
   ·exact xod (xrc I j g l (by omega) f true)
   ·exact xod (xsf I j g l (by omega) f true)
  ·obtain rfl:u=.ref a:=e
   obtain rfl:v=.ref b:=c;exact xod (xue I j g l (by omega) p true)
def rEqZ(c:Bool):R2:=λx y H Q=>EqS H 12 x y/\(∃a b,x=.ref a/\y=.ref b)/\Q (.bl c) H
theorem rcS(I:Inv X a0 σ H s)(c:Bool):∀(n:Nat) {a b:Addr} {A:Around},EqS H n (.ref a) (.ref b)->A.units+120+n<cLine->RcW X.prog X.w A s c (.ref a) (.ref b)
 | 0,a,b,A,h,hA=>by
  rcases h with⟨d,x,Z,hd⟩ |⟨a',b',us,zs,ds,j,g,f,e,p,o,hd⟩
  ·cases d with
   |int i=>exact nomatch x
   |str z=>exact nomatch x
   |tup ds=>
    obtain⟨a',us,j,f,p⟩:=x;obtain⟨b',zs,g,e,o⟩:=Z;cases j;cases g;refine xrc I f e (by rw[p.length,o.length]) (by omega) (λi u z m l J G U O=>?_) c;obtain⟨d1,C,g1⟩:=p.get J;obtain⟨d2,y,g2⟩:=o.get G;rw[C]at y;cases y;have h':xep ds+1<=100:=hd;exact xk7 (xoc I 100 d1 (Nat.le_trans (xdq (zMG C)) (by omega)) g1 g2 U O (by show A.units+1+100<cLine;omega))
  ·cases j
   cases g;refine xsf I f e (by rw[p.length,o.length]) (by omega) (λi u z m l J G U O=>?_) c;obtain⟨d1,C,g1⟩:=p.get J;obtain⟨d2,y,g2⟩:=o.get G;rw[C]at y;cases y;exact xk7 (xoc I 100 d1 (Nat.le_trans (xdq (zMG C)) hd) g1 g2 U O (by show A.units+1+100<cLine;omega))
 | n+1,a,b,A,h,hA=>by
  rcases h with h |⟨a',b',us,zs,j,g,h,M,Y⟩ |⟨a',b',J,G,j,g,f,e,M,Y⟩
  ·exact rcS I c n h (by omega)
  ·cases j
   cases g;have r:∀(i:Nat) u z (m l:Value),us[i]?=some u->zs[i]?=some z->RelV u m->RelV z l->EqW X.prog X.w A.in1 s m l:=λi u z m l x Z h3 h4=>xsq I n (Y i u z x Z) h3 h4 (by show A.units+1+120+n<cLine;omega);rcases h with⟨f,e⟩ |⟨f,e⟩
   ·exact xrc I f e M (by omega) r c
   ·exact xsf I f e M (by omega) r c
  ·cases j
   cases g;exact xue I f e M (by omega) Y c
theorem xqs(j:X.A.units+200<cLine)(c:Bool):OpR X (compareOp (opC c)) (rEqZ c):=by
 intro e s σ H x y v u Q I g f h;obtain⟨i,⟨a,b,rfl,rfl⟩,q⟩:=h;obtain rfl:v=.ref a:=g;obtain rfl:u=.ref b:=f;exact rcS I c 12 i (by omega) _ _ ⟨.bl c,H,I,rfl,q⟩
theorem xm8(a:X.A.units+200<cLine):OpR X (compareOp .Eq) (rEqZ true):=xqs a true
theorem xm6(a:X.A.units+200<cLine):OpR X (compareOp .NotEq) (rEqZ false):=xqs a false
end
end L2
end
section
namespace M
open PySem L2
inductive Row where
 |set (x:Str) (t:D)
 |send (c:Str) (t:D)
 |take (l c x:Str)
 |tell (t:D)
 |go (g:Nat)
 |cond (t:D) (g:Nat)
 |fin
def Row.hd:Row->Str
 |.set _ _=>S "set"
 |.send _ _=>S "send"
 |.take _ _ _=>S "take"
 |.tell _=>S "tell"
 |.go _=>S "go"
 |.cond _ _=>S "if"
 |.fin=>S "end"
def Row.as:Row->List D
 |.set x t=>[.str x,t]
 |.send c t=>[.str c,t]
 |.take l c x=>[.str l,.str c,.str x]
 |.tell t=>[t]
 |.go g=>[.int g]
 |.cond t g=>[t,.int g]
 |.fin=>[]
def Row.d(r:Row):D:=.tup (.str r.hd::r.as)
abbrev Chn:=Str×Str×Str×Str
def dChn(c:Chn):D:=.tup [.str c.1,.str c.2.1,.str c.2.2.1,.str c.2.2.2]
structure Hand where
 name:Str
 boxes:List (Str×Str)
 rows:List Row
def Hand.d(h:Hand):D:=.tup [.str h.name,xda h.boxes,.tup (h.rows.map Row.d)]
structure Mak where
 kinds:List Kn
 chans:List Chn
 hands:List Hand
def Mak.d(m:Mak):D:=.tup [xdk m.kinds,.tup (m.chans.map dChn),.tup (m.hands.map Hand.d)]
def xd4(m:Mak)(x:Str):Option Hand:=m.hands.find? λh=>decide (h.name=x)
def xe2(ks:List Kn)(cs:List Chn)(h:Str)(bs:List (Str×Str))(n:Nat):Row->Prop
 |.set x t=>∃k,(x,k)∈bs/\TmOk ks 21 bs t k
 |.send c t=>∃ch∈cs,ch.1=c/\ch.2.1=h/\TmOk ks 21 bs t ch.2.2.2
 |.take _ c x=>∃ch∈cs,ch.1=c/\ch.2.2.1=h/\(x,ch.2.2.2)∈bs
 |.tell t=>TmOk ks 21 bs t (S "num")
 |.go g=>g<n
 |.cond t g=>TmOk ks 21 bs t (S "num")/\g<n
 |.fin=>True
def Row.ends:Row->Prop
 |.go _=>True
 |.fin=>True
 |_=>False
structure HandOk(ks:List Kn)(cs:List Chn)(h:Hand):Prop where
 nd:(h.boxes.map (·.1)).Nodup
 few:h.boxes.length<=5
 kin:∀b∈h.boxes,KIn ks 6 b.2
 len:h.rows.length<=30
 ok:∀r∈h.rows,xe2 ks cs h.name h.boxes h.rows.length r
 last:∃r,h.rows.getLast?=some r/\r.ends
structure MakOk(m:Mak):Prop where
 wf:KWf m.kinds
 cnd:(m.chans.map (·.1)).Nodup
 cfew:m.chans.length<=6
 ckin:∀c∈m.chans,KIn m.kinds 6 c.2.2.2
 hnd:(m.hands.map Hand.name).Nodup
 hfew:m.hands.length<=4
 hok:∀h∈m.hands,HandOk m.kinds m.chans h
def putA(bx:List (Str×D))(x:Str)(d:D):List (Str×D):=
 if (bx.any λb=>decide (b.1=x))=true then bx.map (λb=>if b.1=x then (b.1,d) else b) else bx++[(x,d)]
def enOf(bx:List (Str×D)):En:=λx=>(bx.find? λb=>decide (b.1=x)).map (·.2)
def KvD(H:Hp):List (Key×V)->List (Str×D)->Prop
 |[],[]=>True
 |kv::kvs,b::bs=>kv.1=Sum.inr b.1/\RelD H kv.2 b.2/\KvD H kvs bs
 |_,_=>False
theorem KvD.tups{H a:Hp}(s:∀b vs,H b=some (.tup vs)->a b=some (.tup vs)):∀{kvs:List (Key×V)} {bx:List (Str×D)},KvD H kvs bx->KvD a kvs bx
 |[],[],_=>trivial
 |g::kvs,b::bs,⟨f,e,c⟩=>⟨f,e.tups s _,KvD.tups s c⟩
 |[],_::_,h=>h.elim
 |_::_,[],h=>h.elim
theorem KvD.length{H:Hp}:∀{kvs:List (Key×V)} {bx:List (Str×D)},KvD H kvs bx->kvs.length=bx.length
 |[],[],_=>rfl
 |c::kvs,b::bs,⟨_,_,a⟩=>by rw[List.length_cons,List.length_cons,KvD.length a]
 |[],_::_,h=>h.elim
 |_::_,[],h=>h.elim
theorem KvD.keys{H:Hp}:∀{kvs:List (Key×V)} {bx:List (Str×D)},KvD H kvs bx->kvs.map (·.1)=bx.map λb=>(Sum.inr b.1:Key)
 |[],[],_=>rfl
 |e::kvs,b::bs,⟨c,_,a⟩=>by rw[List.map_cons,List.map_cons,KvD.keys a,c]
 |[],_::_,h=>h.elim
 |_::_,[],h=>h.elim
theorem KvD.snoc{H:Hp}{v:V}{x:Str}{d:D}(r:RelD H v d):∀{kvs:List (Key×V)} {bx:List (Str×D)},KvD H kvs bx->KvD H (kvs++[(Sum.inr x,v)]) (bx++[(x,d)])
 |[],[],_=>⟨rfl,r,trivial⟩
 |f::kvs,b::bs,⟨e,c,a⟩=>⟨e,c,KvD.snoc r a⟩
 |[],_::_,h=>h.elim
 |_::_,[],h=>h.elim
theorem xsi{a b:Str}:((Sum.inr a:Key)=Sum.inr b)=(a=b):=propext ⟨λh=>Sum.inr.inj h,λh=>congrArg _ h⟩
theorem KvD.any{H:Hp}{x:Str}:∀{kvs:List (Key×V)} {bx:List (Str×D)},KvD H kvs bx->(kvs.any λa=>decide (a.1=Sum.inr x))=bx.any λb=>decide (b.1=x)
 |[],[],_=>rfl
 |a::kvs,b::bs,⟨e,_,c⟩=>by
  rw[List.any_cons,List.any_cons,KvD.any c,e];simp only[xsi]
 |[],_::_,h=>h.elim
 |_::_,[],h=>h.elim
theorem KvD.map{H:Hp}{v:V}{x:Str}{d:D}(r:RelD H v d):∀{kvs:List (Key×V)} {bx:List (Str×D)},KvD H kvs bx->KvD H (kvs.map λc=>if c.1=Sum.inr x then (c.1,v) else c) (bx.map λb=>if b.1=x then (b.1,d) else b)
 |[],[],_=>trivial
 | c::kvs,b::bs,⟨a,g,f⟩=>by
  refine⟨?_,?_,KvD.map r f⟩ <;> dsimp only
  ·by_cases e:b.1=x
   ·rw[if_pos (by rw[a,e]),if_pos e];exact a
   ·rw[if_neg (by rw[a];exact λz=>e (Sum.inr.inj z)),if_neg e];exact a
  ·by_cases e:b.1=x
   ·rw[if_pos (by rw[a,e]),if_pos e];exact r
   ·rw[if_neg (by rw[a];exact λz=>e (Sum.inr.inj z)),if_neg e];exact g
 |[],_::_,h=>h.elim
 |_::_,[],h=>h.elim
theorem KvD.put{H:Hp}{v:V}{x:Str}{d:D}{kvs:List (Key×V)}{bx:List (Str×D)}(h:KvD H kvs bx)(r:RelD H v d):KvD H (putK kvs (Sum.inr x) v) (putA bx x d):=by
 unfold putK putA;rw[h.any];split
 ·exact h.map r
 ·exact h.snoc r
theorem KvD.val{H:Hp}{x:Str}:∀{kvs:List (Key×V)} {bx:List (Str×D)},KvD H kvs bx->(enOf bx x=none->valV kvs (Sum.inr x)=none)/\∀d,enOf bx x=some d->∃v,valV kvs (Sum.inr x)=some v/\RelD H v d
 |[],[],_=>⟨λ_=>rfl,λd e=>by cases e⟩
 | j::kvs,b::bs,⟨c,i,g⟩=>by
  have f:=KvD.val (x:=x) g;by_cases e:b.1=x
  ·have a:enOf (b::bs) x=some b.2:=by unfold enOf;rw[List.find?_cons,zDT e];rfl
   rw[a,xce (by rw[c,e])];exact⟨λz=>(by cases z),λd z=>⟨_,rfl,by cases z;exact i⟩⟩
  ·have a:enOf (b::bs) x=enOf bs x:=by unfold enOf;rw[List.find?_cons,zDF e]
   rw[a,xcf (by rw[c];exact λz=>e (Sum.inr.inj z))];exact f
 |[],_::_,h=>h.elim
 |_::_,[],h=>h.elim
theorem KvD.en{H:Hp}{p:Addr}{kvs:List (Key×V)}{bx:List (Str×D)}{m:Nat}(a:H p=some (.dK kvs))(h:KvD H kvs bx)(b:bx.length<=m):EnAt H p m (enOf bx):=
 ⟨kvs,a,by rw[h.length];exact b,λx=>h.val⟩
theorem xud(bx:List (Str×D))(x:Str)(d:D):enOf (putA bx x d)=(enOf bx).put x d:=by
 funext y
 unfold En.put enOf putA;split
 ·rename_i h
  induction bx with
  |nil=>simp at h
  | cons b bs j=>
   rw[List.map_cons,List.find?_cons,List.find?_cons];by_cases e:b.1=x
   ·rw[if_pos e]
    by_cases a:y=x
    ·subst a
     rw[if_pos rfl,zDT e];rfl
    ·have l:¬b.1=y:=λz=>a (z.symm.trans e)
     rw[if_neg a,zDF l];show(List.find? _ (bs.map _)).map _=(List.find? _ bs).map _;by_cases f:(bs.any λb=>decide (b.1=x))=true
     ·have:=j f
      rw[if_neg a]at this;exact this
     ·have c:∀z∈bs,¬z.1=x:=λz hz i=>f (List.any_eq_true.mpr ⟨z,hz,zDT i⟩)
      rw[List.map_congr_left (g:=id) λz hz=>by rw[if_neg (c z hz)];rfl,List.map_id]
   ·rw[if_neg e]
    have f:(bs.any λb=>decide (b.1=x))=true:=by
     rw[List.any_cons,zDF e,Bool.false_or]at h;exact h
    by_cases a:b.1=y
    ·rw[zDT a,if_neg (λz=>e (a.trans z))]
    ·rw[zDF a]
     exact j f
 ·rename_i h
  have c:∀z∈bx,¬z.1=x:=λz hz i=>h (List.any_eq_true.mpr ⟨z,hz,zDT i⟩);rw[List.find?_append];by_cases a:y=x
  ·subst a
   rw[if_pos rfl,List.find?_eq_none.mpr λz hz=>by simpa using c z hz];simp
  ·rw[if_neg a,List.find?_singleton,zDF (λz=>a z.symm)]
   simp
theorem xh5{bx:List (Str×D)}{x:Str}{d:D}(h:x∈bx.map (·.1)):(putA bx x d).map (·.1)=bx.map (·.1):=by
 unfold putA;obtain⟨b,a,e⟩:=zMP h;rw[if_pos (List.any_eq_true.mpr ⟨b,a,zDT e⟩),List.map_map]
 exact List.map_congr_left λz _=>by
  show(if z.1=x then (z.1,d) else z).1=z.1;split <;> rfl
theorem xpw{a b:Str}{r c:List D}(h:a≠b):D.tup (.str a::r)≠D.tup (.str b::c):=λe=>h (D.str.inj (List.cons.inj (D.tup.inj e)).1)
theorem xiq{env:En}{d v a:D}(h:xd6 env d v)(h':xd6 env d a):v=a:=by
 rcases h with⟨n,rfl,rfl⟩ |⟨x,c,rfl⟩ <;> rcases h' with⟨m,e,rfl⟩ |⟨y,b,e⟩
 ·cases e
  rfl
 ·exact absurd e (xpw (by walk_at"k"))
 ·exact absurd e (xpw (by walk_at"k"))
 ·cases e
  rw[c]at b;exact Option.some.inj b
theorem xir{ks:List Kn}{R:En->D->D->Prop}{env:En}{d v a:D}(h:xd6 env d v)(h':NodeEv ks R env d a):False:=by
 rcases h with⟨n,rfl,rfl⟩ |⟨x,b,rfl⟩ <;> rcases h' with⟨_,_,_,_,_,_,_,_,_,e,_⟩ |⟨_,_,_,_,_,e,_⟩ |⟨_,_,_,_,_,_,_,_,_,_,e⟩ |⟨_,_,_,_,_,e,_⟩ |⟨_,_,_,_,_,_,_,_,_,_,_,e⟩ |⟨_,_,_,_,_,_,e⟩ <;> exact absurd e (xpw (by walk_at"k"))
theorem xja{R:D->D->Prop}(u:∀a v c,R a v->R a c->v=c):∀{es vs b:List D},All2 R es vs->All2 R es b->vs=b
 |_,_,_,.nil,.nil=>rfl
 |_,_,_,.cons h t,.cons h' t'=>by rw[u _ _ _ h h',xja u t t']
theorem xj8{ks:List Kn}:∀(n:Nat) (env:En) (d v w:D),Ev ks n env d v->Ev ks n env d w->v=w
 |0,_,_,_,_,h,h'=>xiq h h'
 | n + 1,env,d,v,w,h,h'=>by
  have m:=xj8 (ks:=ks) n;rcases h with h |h <;> rcases h' with h' | h'
  ·exact xiq h h'
  ·exact(xir h h').elim
  ·exact(xir h' h).elim
  rcases h with⟨s,a,b,x,y,g,u,_,_,rfl,rfl⟩ |⟨k,es,vs,_,g,rfl,rfl⟩ |⟨a,k,vs,f,kn,i,g,u,O,h4,rfl⟩ |⟨k,t,a,x,g,rfl,rfl⟩ |⟨a,rs,k,t,x,y,e0,_,g,u,O,rfl⟩ |⟨a,b,c,x,g,u,rfl⟩ <;>
  rcases h' with⟨s',C,b',G,Y,j,o,_,_,e,rfl⟩ |⟨k',es',I,_,j,e,rfl⟩ |⟨C,k',I,f',a2,i',j,o,z,U,e⟩ |⟨k',t',C,G,j,e,rfl⟩ |⟨C,J,k',t',G,Y,a3,_,j,o,z,e⟩ |⟨C,b',c',G,j,o,e⟩ <;>
  first |exact absurd e (xpw (by walk_at"k")) |skip
  ·cases e
   have:=m _ _ _ _ g j;have h:=m _ _ _ _ u o;cases this;cases h;rfl
  ·cases e
   rw[xja (λa v w=>m env a v w) g j]
  ·cases e
   have:=m _ _ _ _ g j;cases this;rw[u]at o;cases o;rw[O]at z;cases z;rw[h4]at U;exact Option.some.inj U
  ·cases e
   rw[m _ _ _ _ g j]
  ·have e1:=(List.cons.inj (List.cons.inj (D.tup.inj e)).2).1
   have e2:=D.tup.inj (List.cons.inj (List.cons.inj (List.cons.inj (D.tup.inj e)).2).2).1
   have e3:rs=J:=by
    have:∀{l p:List (Str×Str×D)},l.map dArm=p.map dArm->l=p:=by
     intro l
     induction l with
     |nil=>intro p h;cases p with |nil=>rfl |cons _ _=>cases h
     | cons r l M=>
      intro p h
      cases p with
      |nil=>cases h
      |cons r' p=>
       rw[List.map_cons,List.map_cons]at h;have q:=List.cons.inj h;obtain⟨r1,r2,r3⟩:=r;obtain⟨a1,a0,Z⟩:=r';have q1:=q.1;cases q1;rw[M q.2]
    exact this e2
   subst e1 e3;have:=m _ _ _ _ g j;cases this;rw[u]at o;cases o;exact m _ _ _ _ O z
  ·cases e
   have:=m _ _ _ _ g j;cases this;exact m _ _ _ _ u o
noncomputable def wv(ks:List Kn)(bx:List (Str×D))(t:D):D:=open Classical in if h:∃v,Ev ks 21 (enOf bx) t v then h.choose else .int 0
theorem xlg{ks:List Kn}{bs:List (Str×Str)}{bx:List (Str×D)}{t:D}{k:Str}(h:TmOk ks 21 bs t k)(f:FitB ks bs (enOf bx)):Ev ks 21 (enOf bx) t (wv ks bx t)/\Vk ks k (wv ks bx t):=by
 obtain⟨v,b,c⟩:=h _ f;have a:∃v,Ev ks 21 (enOf bx) t v:=⟨v,xk6 _ _ _ _ b⟩;have e:wv ks bx t=a.choose:=by unfold wv;rw[dif_pos a]
 rw[e,xj8 _ _ _ _ _ a.choose_spec (xk6 _ _ _ _ b)];exact⟨xk6 _ _ _ _ b,c⟩
def Chg(la:Addr)(xs:List V)(H H':Hp):Prop:=∀b o,H b=some o->H' b=some (if b=la then .lst xs else o)
theorem Chg.upd{a:Addr}{xs:List V}{H:Hp}:Chg a xs H (upd H a (.lst xs)):=λb o e=>by
 by_cases h:b=a
 ·subst h;rw[ups,if_pos rfl]
 ·rw[xar h,if_neg h];exact e
theorem Chg.pre{a:Addr}{xs:List V}{H g f:Hp}(s:Same H g)(c:Chg a xs g f):Chg a xs H f:=λb o e=>c b o (s b o e)
theorem Chg.ne{a:Addr}{xs:List V}{H f:Hp}(c:Chg a xs H f){b:Addr}{o:HO}(e:H b=some o)(h:b≠a):f b=some o:=by
 have:=c b o e
 rwa[if_neg h]at this
theorem Chg.at{a:Addr}{xs:List V}{H b:Hp}(c:Chg a xs H b){o:HO}(e:H a=some o):b a=some (.lst xs):=by
 have:=c a o e
 rwa[if_pos rfl]at this
theorem Chg.tups{a:Addr}{us xs:List V}{H f:Hp}(c:Chg a xs H f)(h:H a=some (.lst us)):∀b vs,H b=some (.tup vs)->f b=some (.tup vs):=λb vs e=>c.ne e λz=>by subst z;rw[h]at e;cases e
theorem Same.tups{H a:Hp}(s:Same H a):∀b vs,H b=some (.tup vs)->a b=some (.tup vs):=λb vs e=>s b _ e
theorem xqx{α:Type}{f:α->Str}{l:List α}(h:(l.map f).Nodup):(l.map λa=>(Sum.inr (f a):Key)).Nodup:=List.pairwise_map.mpr ((List.pairwise_map.mp h).imp λh z=>h (Sum.inr.inj z))
def StAt(H:Hp)(sa p:Addr)(k:Nat)(bx:List (Str×D)):Prop:=H sa=some (.tup [.int k,.ref p])/\∃kvs,H p=some (.dK kvs)/\KvD H kvs bx
theorem StAt.keep{H a:Hp}{c p:Addr}{k:Nat}{bx:List (Str×D)}(h:StAt H c p k bx)(s:∀b vs,H b=some (.tup vs)->a b=some (.tup vs))(e:∀o,H p=some o->a p=some o):StAt a c p k bx:=by
 obtain⟨i,kvs,g,f⟩:=h;exact⟨s _ _ i,kvs,e _ g,f.tups s⟩
theorem StAt.same{H b:Hp}{a p:Addr}{k:Nat}{bx:List (Str×D)}(h:StAt H a p k bx)(s:Same H b):StAt b a p k bx:=h.keep (Same.tups s) λo e=>s _ _ e
theorem StAt.chg{H i:Hp}{a p b:Addr}{us xs:List V}{k:Nat}{bx:List (Str×D)}(h:StAt H a p k bx)(f:H b=some (.lst us))(c:Chg b xs H i):StAt i a p k bx:=h.keep (c.tups f) λo e=>c.ne e λz=>by
 obtain⟨_,kvs,g,_⟩:=h;rw[z,f]at g;cases g
theorem hdT{x y:Str}(h:x=y):decide (V.str x=V.str y)=true:=zDT (congrArg V.str h)
theorem hdF{x y:Str}(h:x≠y):decide (V.str x=V.str y)=false:=zDF λz=>h (V.str.inj z)
theorem xsl{r:Row}(h:∀g,r≠.go g):r.hd≠S "go":=by cases r <;> first |exact absurd rfl (h _) |(show S _≠S _;decide +kernel)
theorem xsk{r:Row}(h:∀t g,r≠.cond t g):r.hd≠S "if":=by cases r <;> first |exact absurd rfl (h _ _) |(show S _≠S _;decide +kernel)
theorem xn6{r:Row}(h:r≠.fin):r.hd≠S "end":=by cases r <;> first |exact absurd rfl h |(show S _≠S _;decide +kernel)
theorem xeo{r:Row}(h:∀l c x,r≠.take l c x):r.hd≠S "take":=by cases r <;> first |exact absurd rfl (h _ _ _) |(show S _≠S _;decide +kernel)
theorem xn5{r:Row}(h:∀c t,r≠.send c t):r.hd≠S "send":=by cases r <;> first |exact absurd rfl (h _ _) |(show S _≠S _;decide +kernel)
theorem xqz{r:Row}(h:∀x t,r≠.set x t):r.hd≠S "set":=by cases r <;> first |exact absurd rfl (h _ _) |(show S _≠S _;decide +kernel)
theorem xsj{r:Row}(h:∀t,r≠.tell t):r.hd≠S "tell":=by cases r <;> first |exact absurd rfl (h _) |(show S _≠S _;decide +kernel)
open Classical in
noncomputable def xcx(ks:List Kn)(bx:List (Str×D))(k:Nat):Row->Nat
 |.go g=>g
 |.cond t g=>if wv ks bx t=.int 0 then k+1 else g
 |_=>k+1
noncomputable def xes(ks:List Kn)(bx:List (Str×D))(l:D):Row->List (Str×D)
 |.set x t=>putA bx x (wv ks bx t)
 |.take _ _ x=>putA bx x l
 |_=>bx
noncomputable def Row.told(ks:List Kn)(bx:List (Str×D))(told:List D):Row->List D
 |.tell t=>told++[wv ks bx t]
 |_=>told
theorem xr5{ks:List Kn}(b:KWf ks):∀(m:Nat) (x:Str),KIn ks m x->Vk ks x (nuV (m+1) ks x)
 | 0,x,h=>by
  rcases h.nu b with⟨rfl,_,_,e⟩ |⟨j,k,f,_⟩
  ·rw[e]
   exact .num 0 ⟨by decide,by decide⟩
  ·cases f
 | m+1,x,h=>by
  rcases h.nu b with⟨rfl,_,_,e⟩ |⟨j,k,f,n,hn,u,l,_,s⟩
  ·rw[e]
   exact .num 0 ⟨by decide,by decide⟩
  ·cases f
   rcases s with⟨c,_,e⟩ |⟨c,p,r,o,_,e⟩
   ·rw[e]
    refine .rc n c (by rw[zLM]) λi w p g a=>?_;rw[zGM,a]at g;cases g;exact xr5 b m p.2 (l p (zMG a))
   ·rw[e]
    exact .al n c (by rw[o];simp) (xr5 b m p.2 (l p (by rw[o];simp)))
theorem xgq{ks:List Kn}(b:KWf ks){x:Str}{v:D}(a:KIn ks 6 x)(h:Vk ks x v):v.deep<=12:=xjc b 6 x v a h
theorem xoa{ks:List Kn}{bs:List (Str×Str)}{bx:List (Str×D)}{x k:Str}{d:D}(nd:(bs.map (·.1)).Nodup)(f:FitB ks bs (enOf bx))(b:(x,k)∈bs)(c:Vk ks k d):FitB ks bs (enOf (putA bx x d)):=λp a=>by
 rw[xud];unfold En.put;by_cases e:p.1=x
 ·have:p=(x,k):=xb6 nd a b e
  subst this;exact⟨d,if_pos rfl,c⟩
 ·obtain⟨v,h,g⟩:=f p a
  exact⟨v,by rw[if_neg e];exact h,g⟩
theorem HandOk.pos{ks:List Kn}{cs:List Chn}{h:Hand}(o:HandOk ks cs h):0<h.rows.length:=by
 obtain⟨r,e,_⟩:=o.last
 cases b:h.rows with
 |nil=>rw[b]at e;cases e
 |cons a l=>simp
theorem xo4{ks:List Kn}{cs:List Chn}{h:Hand}(o:HandOk ks cs h){bx:List (Str×D)}{k:Nat}{r:Row}(f:h.rows[k]?=some r)(i:r≠.fin):xcx ks bx k r<h.rows.length:=by
 have n:=(zES f).1;have a:=o.ok r (zMG f)
 have step:¬r.ends->k+1<h.rows.length:=λj=>by
  rcases Nat.lt_or_ge (k+1) h.rows.length with z |z
  ·exact z
  ·obtain⟨m,e,b⟩:=o.last
   have:h.rows.getLast?=some r:=by
    rw[List.getLast?_eq_getElem?,show h.rows.length-1=k by omega];exact f
   rw[this]at e;cases e;exact absurd b j
 cases r with
 |fin=>exact absurd rfl i
 |go g=>exact a
 | cond t g=>
  by_cases e:wv ks bx t=.int 0
  ·rw[show xcx ks bx k (.cond t g)=k+1 from if_pos e]
   exact step λh=>h
  ·rw[show xcx ks bx k (.cond t g)=g from if_neg e]
   exact a.2
 |set x t=>exact step λh=>h
 |send c t=>exact step λh=>h
 |take l c x=>exact step λh=>h
 |tell t=>exact step λh=>h
structure HSt where
 sd:Str->Nat×List (Str×D)
 bt:Str->List D
 tl:Str->List D
 ct:Str->Nat
def upF{α:Type}(f:Str->α)(x:Str)(v:α):Str->α:=λz=>if z=x then v else f z
theorem xau{α:Type}{f:Str->α}{x:Str}{v:α}:upF f x v x=v:=if_pos rfl
theorem xa9{α:Type}{f:Str->α}{x z:Str}{v:α}(h:z≠x):upF f x v z=f z:=if_neg h
theorem xdd{α:Type}{f:Str->α}{x y:Str}{u v:α}(h:x≠y):upF (upF f x u) y v=upF (upF f y v) x u:=by
 funext z
 unfold upF;by_cases e:z=y
 ·rw[if_pos e,if_pos e,if_neg (λq=>h (q.symm.trans e))]
 ·rw[if_neg e,if_neg e]
def Row.shutF(bt:Str->List D):Row->Bool
 |.fin=>true
 |.take _ c _=>(bt c).isEmpty
 |_=>false
def Row.letF(bt:Str->List D):Row->D
 |.take _ c _=>(bt c).headD (.int 0)
 |_=>.int 0
noncomputable def Row.btF(ks:List Kn)(bx:List (Str×D))(bt:Str->List D):Row->Str->List D
 |.take _ c _=>upF bt c (bt c).tail
 |.send c t=>upF bt c (bt c++[wv ks bx t])
 |_=>bt
noncomputable def HSt.go(ks:List Kn)(s:HSt)(h:Str)(r:Row):HSt:=
 ⟨upF s.sd h (xcx ks (s.sd h).2 (s.sd h).1 r,xes ks (s.sd h).2 (r.letF s.bt) r),r.btF ks (s.sd h).2 s.bt,upF s.tl h (r.told ks (s.sd h).2 (s.tl h)),upF s.ct h (s.ct h+1)⟩
def Stp(m:Mak)(s s':HSt)(h:Hand):Prop:=h∈m.hands/\∃r,h.rows[(s.sd h.name).1]?=some r/\r.shutF s.bt=false/\s'=s.go m.kinds h.name r
inductive Rch(m:Mak):HSt->HSt->Prop
 |refl (s:HSt):Rch m s s
 |head {s s' t:HSt} {h:Hand}:Stp m s s' h->Rch m s' t->Rch m s t
theorem Rch.trans{m:Mak}{s t u:HSt}(a:Rch m s t)(b:Rch m t u):Rch m s u:=by
 induction a with
 |refl=>exact b
 |head h _ c=>exact .head h (c b)
theorem Rch.one{m:Mak}{s t:HSt}{h:Hand}(a:Stp m s t h):Rch m s t:=.head a (.refl _)
theorem xor {ks:List Kn} {bx bx':List (Str×D)} {bt:Str->List D} {r r':Row} (tk:∀l c x l' c' x',r=.take l c x->r'=.take l' c' x'->c≠c') (sn:∀c t c' t',r=.send c t->r'=.send c' t'->c≠c') (sh:r.shutF bt=false) (sh':r'.shutF bt=false) :
  r'.shutF (r.btF ks bx bt)=false/\r'.letF (r.btF ks bx bt)=r'.letF bt/\r'.btF ks bx' (r.btF ks bx bt)=r.btF ks bx (r'.btF ks bx' bt):=by
 cases r with
 | take l c x=>
  cases r' with
  | take l' c' x'=>
   have hn:=tk _ _ _ _ _ _ rfl rfl;refine⟨?_,?_,?_⟩
   ·show(upF bt c _ c').isEmpty=false
    rw[xa9 (Ne.symm hn)];exact sh'
   ·show(upF bt c _ c').headD _=_
    rw[xa9 (Ne.symm hn)];rfl
   ·show upF (upF bt c _) c' (upF bt c _ c').tail=upF (upF bt c' _) c (upF bt c' _ c).tail
    rw[xa9 (Ne.symm hn),xa9 hn,xdd hn]
  | send c' t'=>
   refine⟨rfl,rfl,?_⟩;show upF (upF bt c (bt c).tail) c' (upF bt c (bt c).tail c'++[_])=upF (upF bt c' (bt c'++[_])) c (upF bt c' (bt c'++[_]) c).tail;by_cases e:c=c'
   ·subst e
    rw[xau,xau]
    funext z
    unfold upF;by_cases ez:z=c
    ·rw[if_pos ez,if_pos ez]
     have sh0:(bt c).isEmpty=false:=sh
     cases hb:bt c with
     |nil=>rw[hb]at sh0;cases sh0
     |cons a l=>rfl
    ·rw[if_neg ez,if_neg ez,if_neg ez,if_neg ez]
   ·rw[xa9 (Ne.symm e),xa9 e,xdd e]
  |fin=>cases sh'
  |_=>exact⟨rfl,rfl,rfl⟩
 | send c t=>
  cases r' with
  | take l' c' x'=>
   by_cases e:c'=c
   ·subst e
    have sh0:(bt c').isEmpty=false:=sh'
    cases hb:bt c' with
    |nil=>rw[hb]at sh0;cases sh0
    | cons a l=>
     refine⟨?_,?_,?_⟩
     ·show(upF bt c' (bt c'++[_]) c').isEmpty=false
      rw[xau,hb];rfl
     ·show(upF bt c' (bt c'++[_]) c').headD _=(bt c').headD _
      rw[xau,hb];rfl
     ·show upF (upF bt c' (bt c'++[_])) c' (upF bt c' (bt c'++[_]) c').tail=upF (upF bt c' (bt c').tail) c' (upF bt c' (bt c').tail c'++[_])
      rw[xau,xau,hb]
      funext z
      unfold upF;by_cases ez:z=c'
      ·rw[if_pos ez,if_pos ez];rfl
      ·rw[if_neg ez,if_neg ez,if_neg ez,if_neg ez]
   ·refine⟨?_,?_,?_⟩
    ·show(upF bt c (bt c++[_]) c').isEmpty=false
     rw[xa9 e];exact sh'
    ·show(upF bt c (bt c++[_]) c').headD _=(bt c').headD _
     rw[xa9 e]
    ·show upF (upF bt c (bt c++[_])) c' (upF bt c (bt c++[_]) c').tail=upF (upF bt c' (bt c').tail) c (upF bt c' (bt c').tail c++[_])
     rw[xa9 e,xa9 (Ne.symm e),xdd (Ne.symm e)]
  |send c' t'=>
   have hn:=sn _ _ _ _ rfl rfl;refine⟨rfl,rfl,?_⟩;show upF (upF bt c (bt c++[_])) c' (upF bt c (bt c++[_]) c'++[_])=upF (upF bt c' (bt c'++[_])) c (upF bt c' (bt c'++[_]) c++[_]);rw[xa9 (Ne.symm hn),xa9 hn,xdd hn]
  |fin=>cases sh'
  |_=>exact⟨rfl,rfl,rfl⟩
 |fin=>cases sh
 |_=>exact⟨sh',rfl,rfl⟩
theorem xlp {m:Mak} (a:MakOk m) {h h':Hand} (O:h∈m.hands) (s:h'∈m.hands) (ne:h.name≠h'.name) {r n:Row} (M:r∈h.rows) (p:n∈h'.rows) :
  (∀l c x J j G,r=.take l c x->n=.take J j G->c≠j)/\∀c t j t',r=.send c t->n=.send j t'->c≠j:=by
 have o:=(a.hok h O).ok r M;have I:=(a.hok h' s).ok n p;refine⟨λl c x J j G e C z=>?_,λc t j t' e C z=>?_⟩
 ·subst e C
  obtain⟨ch,u,y,w,_⟩:=o;obtain⟨i,b,g,f,_⟩:=I;have:ch=i:=xb6 a.cnd u b (y.trans (z.trans g.symm));exact ne (by rw[<- w,<- f,this])
 ·subst e C
  obtain⟨ch,u,y,w,_⟩:=o;obtain⟨i,b,g,f,_⟩:=I;have:ch=i:=xb6 a.cnd u b (y.trans (z.trans g.symm));exact ne (by rw[<- w,<- f,this])
theorem Stp.diam{m:Mak}(j:MakOk m){s J I:HSt}{h h':Hand}(p:h≠h')(a:Stp m s J h)(b:Stp m s I h'):∃c,Stp m J c h'/\Stp m I c h:=by
 obtain⟨u,r,M,G,rfl⟩:=a;obtain⟨g,o,n,i,rfl⟩:=b;have ne:h.name≠h'.name:=λz=>p (xb6 j.hnd u g z);obtain⟨y,C⟩:=xlp j u g ne (zMG M) (zMG n);obtain⟨c1,c2,c3⟩:=xor (ks:=m.kinds) (bx:=(s.sd h.name).2) (bx':=(s.sd h'.name).2) y C G i;obtain⟨d1,d2,_⟩:=xor (ks:=m.kinds) (bx:=(s.sd h'.name).2) (bx':=(s.sd h.name).2) (λl c x l' c' x' e w z=>y _ _ _ _ _ _ w e z.symm) (λc t c' t' e w z=>C _ _ _ _ w e z.symm) i G;have Z:(s.go m.kinds h.name r).sd h'.name=s.sd h'.name:=xa9 (Ne.symm ne);have Y:(s.go m.kinds h'.name o).sd h.name=s.sd h.name:=xa9 ne;refine⟨(s.go m.kinds h.name r).go m.kinds h'.name o,⟨g,o,by rw[Z];exact n,c1,rfl⟩,u,r,by rw[Y];exact M,d1,?_⟩;have U:∀{α:Type} (f:Str->α) (v:α),upF f h.name v h'.name=f h'.name:=λf v=>xa9 (Ne.symm ne);have O:∀{α:Type} (f:Str->α) (v:α),upF f h'.name v h.name=f h.name:=λf v=>xa9 ne;unfold HSt.go;simp only[U,O,c2,d2];rw[c3,xdd ne,xdd (f:=s.tl) ne,xdd (f:=s.ct) ne]
theorem Stp.det{m:Mak}{s f e:HSt}{h:Hand}(a:Stp m s f h)(b:Stp m s e h):f=e:=by
 obtain⟨_,r,g,_,rfl⟩:=a;obtain⟨_,i,c,_,rfl⟩:=b;rw[g]at c;cases c;rfl
theorem Rch.le{m:Mak}{s t:HSt}(a:Rch m s t)(x:Str):s.ct x<=t.ct x:=by
 induction a with
 |refl=>exact Nat.le_refl _
 |head c _ b=>
  obtain⟨_,r,_,_,rfl⟩:=c;refine Nat.le_trans ?_ b;show _<=upF _ _ _ x;unfold upF;split
  ·rename_i e;rw[e];exact Nat.le_succ _
  ·exact Nat.le_refl _
structure HOk(m:Mak)(s:HSt)(N:Nat):Prop where
 row:∀h∈m.hands,(s.sd h.name).1<h.rows.length
 keys:∀h∈m.hands,(s.sd h.name).2.map (·.1)=h.boxes.map (·.1)
 fit:∀h∈m.hands,FitB m.kinds h.boxes (enOf (s.sd h.name).2)
 cok:∀c∈m.chans,(s.bt c.1).length<=N/\∀d∈s.bt c.1,Vk m.kinds c.2.2.2 d
 tok:∀h∈m.hands,(s.tl h.name).length<=N/\∀d∈s.tl h.name,d.deep<=12
theorem HOk.mono{m:Mak}{s:HSt}{N b:Nat}(o:HOk m s N)(h:N<=b):HOk m s b:=⟨o.row,o.keys,o.fit,λc a=>⟨Nat.le_trans (o.cok c a).1 h,(o.cok c a).2⟩,λc a=>⟨Nat.le_trans (o.tok c a).1 h,(o.tok c a).2⟩⟩
theorem HOk.bxlen{m:Mak}{s:HSt}{N:Nat}(o:HOk m s N)(a:MakOk m){h:Hand}(b:h∈m.hands):(s.sd h.name).2.length<=5:=by
 have:=congrArg List.length (o.keys h b);rw[zLM,zLM]at this;have:=(a.hok h b).few;omega
theorem HOk.go{m:Mak}{s:HSt}{N:Nat}(f:MakOk m)(o:HOk m s N){h:Hand}(I:h∈m.hands){r:Row}(O:h.rows[(s.sd h.name).1]?=some r)(M:r.shutF s.bt=false):HOk m (s.go m.kinds h.name r) (N+1):=by
 have y:=f.hok h I;have b:=y.ok r (zMG O);have G:r≠.fin:=λe=>by subst e;cases M
 have Y:=f.wf;have fit:=o.fit h I;have nm:∀{h':Hand},h'∈m.hands->h'≠h->h'.name≠h.name:=λa n z=>n (xb6 f.hnd a I z);have g:(s.go m.kinds h.name r).sd h.name=(xcx m.kinds (s.sd h.name).2 (s.sd h.name).1 r,xes m.kinds (s.sd h.name).2 (r.letF s.bt) r):=xau;have i:∀{h':Hand},h'∈m.hands->h'≠h->(s.go m.kinds h.name r).sd h'.name=s.sd h'.name:=λa n=>xa9 (nm a n);refine⟨λh' a=>?_,λh' a=>?_,λh' a=>?_,λc u=>?_,λh' a=>?_⟩
 ·by_cases e:h'=h
  ·subst e
   rw[g];exact xo4 y O G
  ·rw[i a e];exact o.row h' a
 ·by_cases e:h'=h
  ·subst e
   rw[g,<- o.keys h' a];show(xes m.kinds (s.sd h'.name).2 (r.letF s.bt) r).map (·.1)=_
   cases r with
   |set x t=>
    obtain⟨k,j,_⟩:=b;exact xh5 (by rw[o.keys h' a];exact List.mem_map_of_mem j)
   |take l c x=>
    obtain⟨ch,_,_,_,j⟩:=b;exact xh5 (by rw[o.keys h' a];exact List.mem_map_of_mem j)
   |_=>rfl
  ·rw[i a e];exact o.keys h' a
 ·by_cases e:h'=h
  ·subst e
   rw[g];show FitB m.kinds h'.boxes (enOf (xes m.kinds (s.sd h'.name).2 (r.letF s.bt) r))
   cases r with
   |set x t=>
    obtain⟨k,j,C⟩:=b;exact xoa y.nd fit j (xlg C fit).2
   |take l c x=>
    obtain⟨ch,u,rfl,a0,j⟩:=b;refine xoa y.nd fit j ?_;have w:(s.bt ch.1).isEmpty=false:=M;show Vk m.kinds ch.2.2.2 ((s.bt ch.1).headD (.int 0));have Z:=(o.cok ch u).2
    cases U:s.bt ch.1 with
    |nil=>rw[U]at w;cases w
    |cons d ds=>exact Z d (by rw[U];simp)
   |_=>exact fit
  ·rw[i a e];exact o.fit h' a
 ·show(r.btF m.kinds (s.sd h.name).2 s.bt c.1).length<=N+1/\∀d∈r.btF m.kinds (s.sd h.name).2 s.bt c.1,Vk m.kinds c.2.2.2 d
  have old:(s.bt c.1).length<=N+1/\∀d∈s.bt c.1,Vk m.kinds c.2.2.2 d:=⟨Nat.le_succ_of_le (o.cok c u).1,(o.cok c u).2⟩
  cases r with
  | take l p x=>
   show(upF s.bt p _ c.1).length<=_/\∀d∈upF s.bt p _ c.1,_;by_cases e:c.1=p
   ·rw[<- e,xau]
    refine⟨?_,λd hd=>old.2 d (List.mem_of_mem_tail hd)⟩;rw[List.length_tail];have:=old.1;omega
   ·rw[xa9 e];exact old
  | send p t=>
   show(upF s.bt p _ c.1).length<=_/\∀d∈upF s.bt p _ c.1,_;by_cases e:c.1=p
   ·rw[<- e,xau]
    refine⟨?_,λd hd=>?_⟩
    ·rw[zLA,List.length_singleton]
     have:=(o.cok c u).1;omega
    ·rcases zMA hd with hd |hd
     ·exact old.2 d hd
     ·rw[zMO hd]
      obtain⟨ch,J,e1,_,C⟩:=b;have:ch=c:=xb6 f.cnd J u (e1.trans e.symm);subst this;exact(xlg C fit).2
   ·rw[xa9 e];exact old
  |_=>exact old
 ·show(upF s.tl h.name (r.told m.kinds (s.sd h.name).2 (s.tl h.name)) h'.name).length<=N+1/\∀d∈upF s.tl h.name (r.told m.kinds (s.sd h.name).2 (s.tl h.name)) h'.name,d.deep<=12
  have old:=o.tok h' a;by_cases e:h'=h
  ·subst e
   rw[xau]
   cases r with
   | tell t=>
    refine⟨by show(s.tl h'.name++[_]).length<=_;rw[zLA,List.length_singleton];have:=old.1;omega,λd hd=>?_⟩;rcases zMA (show d∈s.tl h'.name++[_] from hd) with hd |hd
    ·exact old.2 d hd
    ·rw[zMO hd]
     exact xgq Y (.inl rfl) (xlg b fit).2
   |_=>exact⟨Nat.le_succ_of_le old.1,old.2⟩
  ·rw[xa9 (nm a e)]
   exact⟨Nat.le_succ_of_le old.1,old.2⟩
def mapK(ns:List Str)(f:Str->V):List (Key×V):=ns.map λx=>(Sum.inr x,f x)
theorem xnr(ns:List Str)(f:Str->V):(mapK ns f).map (·.1)=ns.map λx=>(Sum.inr x:Key):=by
 unfold mapK;rw[List.map_map];rfl
theorem xhf{ns:List Str}{f:Str->V}(h:ns.Nodup):((mapK ns f).map (·.1)).Nodup:=by
 rw[xnr];exact xqx (f:=λx:Str=>x) (by rw[List.map_id'];exact h)
theorem xfb{f:Str->V}{x:Str}:∀{ns:List Str},x∈ns->valV (mapK ns f) (Sum.inr x)=some (f x)
 | y::ns,h=>by
  show valV ((Sum.inr y,f y)::mapK ns f) _=_;by_cases e:y=x
  ·rw[xce (by rw[e]),e]
  ·rw[xcf (λz=>e (Sum.inr.inj z))]
   rcases zMC h with h |h
   ·exact absurd h.symm e
   ·exact xfb h
theorem xk2{f:Str->V}{x:Str}{v:V}{ns:List Str}(h:x∈ns):putK (mapK ns f) (Sum.inr x) v=mapK ns (upF f x v):=by
 have b:((mapK ns f).any λa=>decide (a.1=(Sum.inr x:Key)))=true:=List.any_eq_true.mpr ⟨(Sum.inr x,f x),List.mem_map.mpr ⟨x,h,rfl⟩,zDT rfl⟩;unfold putK;rw[if_pos b];unfold mapK;rw[List.map_map];refine List.map_congr_left λz _=>?_;show(if (Sum.inr z:Key)=Sum.inr x then ((Sum.inr z:Key),v) else (Sum.inr z,f z))=(Sum.inr z,upF f x v z);unfold upF;by_cases e:z=x
 ·rw[if_pos (by rw[e]),if_pos e]
 ·rw[if_neg (λq=>e (Sum.inr.inj q)),if_neg e]
theorem xgi{f g:Str->V}{ns:List Str}(h:∀x∈ns,f x=g x):mapK ns f=mapK ns g:=List.map_congr_left λx a=>by rw[h x a]
theorem xk3(ns:List Str)(f:Str->V):(mapK ns f).length=ns.length:=zLM ..
def Hms:List Str:=[Str.ofString "step",Str.ofString "weave",Str.ofString "still",Str.ofString "stays",Str.ofString "stand",Str.ofString "told",Str.ofString "letters",Str.ofString "count"]
abbrev hn(m:Mak):List Str:=m.hands.map Hand.name
abbrev cn(m:Mak):List Str:=m.chans.map (·.1)
structure HsA where
 dx:Addr
 sd:Addr
 bd:Addr
 td:Addr
 cd:Addr
 sa:Str->Addr
 pa:Str->Addr
 la:Str->Addr
 ta:Str->Addr
structure Hf(fs:List (Str×V))(mv:V)(a:HsA):Prop where
 mkv:fs.lookup (Str.ofString "make")=some mv
 st:fs.lookup (Str.ofString "stands")=some (.ref a.sd)
 bt:fs.lookup (Str.ofString "between")=some (.ref a.bd)
 tl:fs.lookup (Str.ofString "tellings")=some (.ref a.td)
 ct:fs.lookup (Str.ofString "counts")=some (.ref a.cd)
 len:fs.length<=5
 no:∀f∈Hms,fs.lookup f=none
def hFs(a:HsA):List (Str×V):=putF (Str.ofString "counts") (.ref a.cd) (putF (Str.ofString "tellings") (.ref a.td) (putF (Str.ofString "between") (.ref a.bd) (putF (Str.ofString "stands") (.ref a.sd) [])))
theorem Hf.init{i:V}{a:HsA}:Hf (putF (Str.ofString "make") i (hFs a)) i a:=by
 have ne:∀{f g:Str} {v u:V} {fs:List (Str×V)},fs.lookup g=some u->g≠f->(putF f v fs).lookup g=some u:=λe n=>by rw[xc3,if_neg n];exact e
 have c:∀{f:Str} {v:V} {fs:List (Str×V)},(putF f v fs).lookup f=some v:=by intro f v fs;rw[xc3,if_pos rfl]
 have b:∀{g:Str} {v:V} {fs:List (Str×V)},(∀f∈Hms,fs.lookup f=none)->(∀f∈Hms,f≠g)->∀f∈Hms,(putF g v fs).lookup f=none:=λh n f j=>by rw[xc3,if_neg (n f j)];exact h f j
 refine⟨c,?_,?_,?_,?_,?_,?_⟩
 ·exact ne (ne (ne (ne c (by walk_at"k")) (by walk_at"k")) (by walk_at"k")) (by walk_at"k")
 ·exact ne (ne (ne c (by walk_at"k")) (by walk_at"k")) (by walk_at"k")
 ·exact ne (ne c (by walk_at"k")) (by walk_at"k")
 ·exact ne c (by walk_at"k")
 ·exact Nat.le_trans (xbe _ _ _) (Nat.succ_le_succ (Nat.le_trans (xbe _ _ _) (Nat.succ_le_succ (Nat.le_trans (xbe _ _ _) (Nat.succ_le_succ (Nat.le_trans (xbe _ _ _) (Nat.succ_le_succ (Nat.le_trans (xbe _ _ _) (Nat.le_refl _)))))))))
 ·exact b (b (b (b (b (λ_ _=>rfl) (by walk_at"k")) (by walk_at"k")) (by walk_at"k")) (by walk_at"k")) (by walk_at"k")
structure HsIn(H:Hp)(m:Mak)(a:HsA)(s:HSt):Prop where
 hsd:H a.sd=some (.dK (mapK (hn m) λz=>.ref (a.sa z)))
 hbd:H a.bd=some (.dK (mapK (cn m) λz=>.ref (a.la z)))
 htd:H a.td=some (.dK (mapK (hn m) λz=>.ref (a.ta z)))
 hcd:H a.cd=some (.dK (mapK (hn m) λz=>.int (s.ct z:Nat)))
 sta:∀z∈hn m,StAt H (a.sa z) (a.pa z) (s.sd z).1 (s.sd z).2
 let_:∀z∈cn m,∃us,H (a.la z)=some (.lst us)/\RelDs H us (s.bt z)
 tel:∀z∈hn m,∃us,H (a.ta z)=some (.lst us)/\RelDs H us (s.tl z)
 nl:∀z∈cn m,∀y∈cn m,a.la z=a.la y->z=y
 nt:∀z∈hn m,∀y∈hn m,a.ta z=a.ta y->z=y
 nlt:∀z∈cn m,∀y∈hn m,a.la z≠a.ta y
 n1:a.sd≠a.bd/\a.sd≠a.td/\a.sd≠a.cd/\a.cd≠a.bd/\a.cd≠a.td
 np:∀z∈hn m,a.pa z≠a.sd/\a.pa z≠a.cd
structure HsAt(H:Hp)(C x:Addr)(mv:V)(m:Mak)(a:HsA)(s:HSt):Prop where
 ob:∃fs,H x=some (.ins C a.dx fs)/\Hf fs mv a
 inn:HsIn H m a s
def HsA.F(a:HsA)(m:Mak)(x b:Addr):Prop:=b=x\/b=a.sd\/b=a.bd\/b=a.td\/b=a.cd\/(∃z∈cn m,b=a.la z)\/∃z∈hn m,b=a.ta z\/b=a.pa z
theorem HsIn.keep{H i:Hp}{m:Mak}{a:HsA}{s:HSt}{x:Addr}(h:HsIn H m a s)(c:∀b vs,H b=some (.tup vs)->i b=some (.tup vs))(k:∀b,a.F m x b->∀o,H b=some o->i b=some o):HsIn i m a s:=by
 refine⟨k _ (.inr (.inl rfl)) _ h.hsd,k _ (.inr (.inr (.inl rfl))) _ h.hbd,k _ (.inr (.inr (.inr (.inl rfl)))) _ h.htd,k _ (.inr (.inr (.inr (.inr (.inl rfl))))) _ h.hcd,λz hz=>?_,λz hz=>?_,λz hz=>?_,h.nl,h.nt,h.nlt,h.n1,h.np⟩
 ·exact(h.sta z hz).keep c λo e=>k _ (.inr (.inr (.inr (.inr (.inr (.inr ⟨z,hz,.inr rfl⟩)))))) o e
 ·obtain⟨us,g,f⟩:=h.let_ z hz
  exact⟨us,k _ (.inr (.inr (.inr (.inr (.inr (.inl ⟨z,hz,rfl⟩)))))) _ g,f.tups c _⟩
 ·obtain⟨us,g,f⟩:=h.tel z hz
  exact⟨us,k _ (.inr (.inr (.inr (.inr (.inr (.inr ⟨z,hz,.inl rfl⟩)))))) _ g,f.tups c _⟩
theorem HsIn.there{H:Hp}{m:Mak}{a:HsA}{s:HSt}(i:HsIn H m a s):∀b,a.F m a.sd b->∃o,H b=some o/\∀C d f,o≠.ins C d f:=by
 intro b g;rcases g with rfl |rfl |rfl |rfl |rfl |⟨z,hz,rfl⟩ |⟨z,hz,rfl |rfl⟩
 ·exact⟨_,i.hsd,λ_ _ _ e=>by cases e⟩
 ·exact⟨_,i.hsd,λ_ _ _ e=>by cases e⟩
 ·exact⟨_,i.hbd,λ_ _ _ e=>by cases e⟩
 ·exact⟨_,i.htd,λ_ _ _ e=>by cases e⟩
 ·exact⟨_,i.hcd,λ_ _ _ e=>by cases e⟩
 ·obtain⟨us,c,_⟩:=i.let_ z hz
  exact⟨_,c,λ_ _ _ e=>by cases e⟩
 ·obtain⟨us,c,_⟩:=i.tel z hz
  exact⟨_,c,λ_ _ _ e=>by cases e⟩
 ·obtain⟨_,kvs,c,_⟩:=i.sta z hz
  exact⟨_,c,λ_ _ _ e=>by cases e⟩
theorem HsAt.keep{H c:Hp}{C x:Addr}{e:V}{m:Mak}{a:HsA}{s:HSt}(h:HsAt H C x e m a s)(f:∀b vs,H b=some (.tup vs)->c b=some (.tup vs))(k:∀b,a.F m x b->∀o,H b=some o->c b=some o):HsAt c C x e m a s:=by
 obtain⟨⟨fs,j,i⟩,g⟩:=h;exact⟨⟨fs,k x (.inl rfl) _ j,i⟩,g.keep f k⟩
theorem HsAt.same{H f:Hp}{C x:Addr}{c:V}{m:Mak}{a:HsA}{s:HSt}(h:HsAt H C x c m a s)(q:Same H f):HsAt f C x c m a s:=h.keep (Same.tups q) λb _ o e=>q b o e
theorem HsAt.there{H:Hp}{C x:Addr}{f:V}{m:Mak}{a:HsA}{s:HSt}(h:HsAt H C x f m a s):∀b,a.F m x b->∃o,H b=some o/\∀vs,o≠.tup vs:=by
 obtain⟨⟨fs,c,_⟩,i⟩:=h;intro b g;rcases g with rfl |rfl |rfl |rfl |rfl |⟨z,hz,rfl⟩ |⟨z,hz,rfl |rfl⟩
 ·exact⟨_,c,λvs e=>by cases e⟩
 ·exact⟨_,i.hsd,λvs e=>by cases e⟩
 ·exact⟨_,i.hbd,λvs e=>by cases e⟩
 ·exact⟨_,i.htd,λvs e=>by cases e⟩
 ·exact⟨_,i.hcd,λvs e=>by cases e⟩
 ·obtain⟨us,c,_⟩:=i.let_ z hz
  exact⟨_,c,λvs e=>by cases e⟩
 ·obtain⟨us,c,_⟩:=i.tel z hz
  exact⟨_,c,λvs e=>by cases e⟩
 ·obtain⟨_,kvs,c,_⟩:=i.sta z hz
  exact⟨_,c,λvs e=>by cases e⟩
theorem HsAt.stepped {H g:Hp} {C x:Addr} {mv:V} {m:Mak} {a:HsA} {s s':HSt} {h:Str} {w y:Addr} (l:HsAt H C x mv m a s) (hh:h∈hn m)
  (a1:s'.sd=upF s.sd h (s'.sd h)) (a2:s'.ct=upF s.ct h (s.ct h+1))
  (a0:StAt g w y (s'.sd h).1 (s'.sd h).2) (lt:∀z∈cn m,∃us,g (a.la z)=some (.lst us)/\RelDs g us (s'.bt z)) (tl:∀z∈hn m,∃us,g (a.ta z)=some (.lst us)/\RelDs g us (s'.tl z))
  (f:∀b o,H b=some o->(∀us,o≠.lst us)->g b=some o) (fr:∀b o,H b=some o->¬a.F m x b->g b=some o) (u:y=a.pa h\/H y=none) :
  let J:=upd (upd g a.sd (.dK (putK (mapK (hn m) λz=>.ref (a.sa z)) (Sum.inr h) (.ref w)))) a.cd (.dK (putK (mapK (hn m) λz=>.int (s.ct z:Nat)) (Sum.inr h) (.int ((s.ct h:Int)+1))))
  let I:HsA:={a with sa:=upF a.sa h w,pa:=upF a.pa h y}
  HsAt J C x mv m I s'/\(∀b o,H b=some o->¬a.F m x b->J b=some o)/\(∀b vs,H b=some (.tup vs)->J b=some (.tup vs))/\∀b,I.F m x b->a.F m x b\/H b=none:=by
 intro J I;obtain⟨⟨fs,hx,M⟩,i⟩:=l;obtain⟨m1,m2,m3,m4,m5⟩:=i.n1;have Y:=f _ _ i.hsd λus e=>by cases e
 have Z:=f _ _ i.hcd λus e=>by cases e
 have p:∀b o,g b=some o->b≠a.sd->b≠a.cd->J b=some o:=λb o e n1 n2=>by
  show upd (upd g _ _) _ _ b=_;rw[xar n2,xar n1];exact e
 have G:∀b o,g b=some o->(∀U,o≠.dK U)->J b=some o:=λb o e n=>p b o e (λz=>by rw[z,Y]at e;exact n _ (Option.some.inj e).symm) λz=>by rw[z,Z]at e;exact n _ (Option.some.inj e).symm
 have j:∀b vs,g b=some (.tup vs)->J b=some (.tup vs):=λb vs e=>G b _ e λU z=>by cases z
 have O:∀z∈hn m,I.pa z≠a.sd/\I.pa z≠a.cd:=λz hz=>by
  show upF a.pa h y z≠_/\upF a.pa h y z≠_;by_cases e:z=h
  ·subst e
   rw[xau];rcases u with u |u
   ·rw[u];exact i.np z hz
   ·exact⟨λq=>(by rw[q,i.hsd]at u;cases u),λq=>(by rw[q,i.hcd]at u;cases u)⟩
  ·rw[xa9 e];exact i.np z hz
 refine⟨⟨⟨fs,G _ _ (f _ _ hx λus e=>by cases e) (λU e=>by cases e),⟨M.mkv,M.st,M.bt,M.tl,M.ct,M.len,M.no⟩⟩,?_⟩,λb o e n=>?_,λb vs e=>?_,λb hb=>?_⟩
 ·refine⟨?_,?_,?_,?_,λz hz=>?_,λz hz=>?_,λz hz=>?_,i.nl,i.nt,i.nlt,i.n1,O⟩
  ·show upd (upd g _ _) _ _ a.sd=_
   rw[xar m3,ups,xk2 hh];refine congrArg some (congrArg HO.dK (xgi λz _=>?_));show upF _ h _ z=V.ref (upF a.sa h w z);unfold upF;split <;> rfl
  ·exact p _ _ (f _ _ i.hbd λus e=>by cases e) (Ne.symm m1) (Ne.symm m4)
  ·exact p _ _ (f _ _ i.htd λus e=>by cases e) (Ne.symm m2) (Ne.symm m5)
  ·show upd (upd g _ _) _ _ a.cd=_
   rw[ups,xk2 hh];refine congrArg some (congrArg HO.dK (xgi λz _=>?_));rw[a2];unfold upF;split
   ·show V.int _=V.int ((s.ct h+1:Nat):Int)
    congr 1
   ·rfl
  ·have r:=O z hz
   show StAt J (upF a.sa h w z) (upF a.pa h y z) _ _;rw[a1];by_cases e:z=h
   ·subst e
    rw[xau,xau,xau];have q:(I.pa z)=y:=xau;rw[q]at r;exact a0.keep j λo e=>p _ _ e r.1 r.2
   ·rw[xa9 e,xa9 e,xa9 e]
    have q:(I.pa z)=a.pa z:=xa9 e;rw[q]at r;obtain⟨c,kvs,h2,h3⟩:=i.sta z hz;have nt:∀b vs,H b=some (.tup vs)->g b=some (.tup vs):=λb vs e=>f _ _ e λus z=>by cases z
    exact⟨j _ _ (nt _ _ c),kvs,p _ _ (f _ _ h2 λus z=>by cases z) r.1 r.2,h3.tups λb vs e=>j _ _ (nt _ _ e)⟩
  ·obtain⟨us,c,h2⟩:=lt z hz
   exact⟨us,G _ _ c (λU e=>by cases e),h2.tups j _⟩
  ·obtain⟨us,c,h2⟩:=tl z hz
   exact⟨us,G _ _ c (λU e=>by cases e),h2.tups j _⟩
 ·exact p _ _ (fr b o e n) (λz=>n (.inr (.inl z))) λz=>n (.inr (.inr (.inr (.inr (.inl z)))))
 ·exact j _ _ (f _ _ e λus z=>by cases z)
 ·rcases hb with c |c |c |c |c |c |⟨z,hz,c |c⟩
  ·exact .inl (.inl c)
  ·exact .inl (.inr (.inl c))
  ·exact .inl (.inr (.inr (.inl c)))
  ·exact .inl (.inr (.inr (.inr (.inl c))))
  ·exact .inl (.inr (.inr (.inr (.inr (.inl c)))))
  ·exact .inl (.inr (.inr (.inr (.inr (.inr (.inl c))))))
  ·exact .inl (.inr (.inr (.inr (.inr (.inr (.inr ⟨z,hz,.inl c⟩))))))
  ·by_cases e:z=h
   ·subst e
    have q:(I.pa z)=y:=xau;rw[q]at c;rcases u with u |u
    ·exact .inl (.inr (.inr (.inr (.inr (.inr (.inr ⟨z,hz,.inr (c.trans u)⟩))))))
    ·exact .inr (by rw[c];exact u)
   ·have q:(I.pa z)=a.pa z:=xa9 e
    rw[q]at c;exact .inl (.inr (.inr (.inr (.inr (.inr (.inr ⟨z,hz,.inr c⟩))))))
def begM(mk:Mak)(hd:Hand):List (Str×D):=hd.boxes.map λb=>(b.1,nuV 7 mk.kinds b.2)
def hs0(mk:Mak):HSt:=⟨λz=>(0,match xd4 mk z with |some hd=>begM mk hd |none=>[]),λ_=>[],λ_=>[],λ_=>0⟩
theorem xdo{b:Mak}(c:MakOk b){hd:Hand}(a:hd∈b.hands):xd4 b hd.name=some hd:=by
 unfold xd4
 cases e:b.hands.find? λh=>decide (h.name=hd.name) with
 |none=>exact absurd (zDT rfl) (List.find?_eq_none.mp e hd a)
 |some g=>
  have f:=of_decide_eq_true (List.find?_some (p:=λh:Hand=>decide (h.name=hd.name)) e);rw[xb6 c.hnd (zMF e) a f]
theorem xgl{a:Mak}(b:MakOk a){hd:Hand}(c:hd∈a.hands):(hs0 a).sd hd.name=(0,begM a hd):=by
 show(0,match xd4 a hd.name with |some hd=>begM a hd |none=>[])=_;rw[xdo b c]
theorem xj9{bx:List (Str×D)}(nd:(bx.map (·.1)).Nodup){b:Str×D}(h:b∈bx):enOf bx b.1=some b.2:=by
 unfold enOf
 cases e:bx.find? λc=>decide (c.1=b.1) with
 |none=>exact absurd (zDT rfl) (List.find?_eq_none.mp e b h)
 |some c=>
  have a:=of_decide_eq_true (List.find?_some (p:=λc:Str×D=>decide (c.1=b.1)) e);rw[xb6 nd (zMF e) h a];rfl
theorem hok0{e:Mak}(a:MakOk e):HOk e (hs0 e) 0:=by
 have bk:∀hd:Hand,(begM e hd).map (·.1)=hd.boxes.map (·.1):=λhd=>by
  unfold begM;rw[List.map_map];rfl
 refine⟨λh b=>?_,λh b=>?_,λh b=>?_,λc i=>⟨Nat.le_refl _,λd hd=>nomatch hd⟩,λh b=>⟨Nat.le_refl _,λd hd=>nomatch hd⟩⟩
 ·rw[xgl a b];exact(a.hok h b).pos
 ·rw[xgl a b];exact bk h
 ·rw[xgl a b]
  intro p f;have g:(p.1,nuV 7 e.kinds p.2)∈begM e h:=List.mem_map.mpr ⟨p,f,rfl⟩;exact⟨_,xj9 (by rw[bk];exact(a.hok h b).nd) g,xr5 a.wf 6 p.2 ((a.hok h b).kin p f)⟩
theorem HOk.bxdeep{m:Mak}{s:HSt}{N:Nat}(o:HOk m s N)(a:MakOk m){h:Hand}(f:h∈m.hands):∀b∈(s.sd h.name).2,b.2.deep<=12:=λb i=>by
 have c:=a.hok h f;have l:((s.sd h.name).2.map (·.1)).Nodup:=by rw[o.keys h f];exact c.nd
 have:b.1∈h.boxes.map (·.1):=by rw[<- o.keys h f];exact List.mem_map_of_mem i
 obtain⟨q,g,e⟩:=zMP this;obtain⟨v,j,n⟩:=o.fit h f q g;rw[e,xj9 l i]at j;cases j;exact xgq a.wf (c.kin q g) n
theorem xgs{ns:List Str}(nd:ns.Nodup){i:Nat}{z:Str}(hz:ns[i]?=some z):∀y∈ns.take i,y≠z:=λy c e=>by
 subst e;obtain⟨j,f,a⟩:=List.getElem_of_mem c;rw[List.length_take]at f;rw[List.getElem_take]at a;obtain⟨hi,b⟩:=zES hz;have:=(List.getElem_inj nd).mp (a.trans b.symm);omega
theorem xch{ns:List Str}{i:Nat}{z:Str}(hz:ns[i]?=some z):ns.take (i+1)=ns.take i++[z]:=by rw[zTA,hz];rfl
theorem xik{ns:List Str}(nd:ns.Nodup){f:Str->V}{i:Nat}{z:Str}{v:V}(hz:ns[i]?=some z):mapK (ns.take (i+1)) (upF f z v)=mapK (ns.take i) f++[(Sum.inr z,v)]:=by
 rw[xch hz];unfold mapK;rw[zAP,List.map_congr_left (g:=λx=>((Sum.inr x:Key),f x)) λy a=>by rw[xa9 (xgs nd hz y a)]];show _++[((Sum.inr z:Key),upF f z v z)]=_;rw[xau]
theorem xsw{f:Str->Addr}{z:Str}{l:Addr}:(λy=>V.ref (upF f z l y))=upF (λy=>V.ref (f y)) z (.ref l):=by
 funext y
 unfold upF;split <;> rfl
structure EmpAt(H H':Hp)(ns:List Str)(i:Nat)(ys:List V)(la:Str->Addr):Prop where
 pr:PairsV H' ys (mapK (ns.take i) λz=>.ref (la z))
 at_:∀z∈ns.take i,H' (la z)=some (.lst [])/\H (la z)=none
 inj:∀z∈ns.take i,∀y∈ns.take i,la z=la y->z=y
theorem EmpAt.snoc {H g:Hp} {ns:List Str} {i:Nat} {ys:List V} {j:Str->Addr} (e:EmpAt H g ns i ys j) (s:Same H g) (nd:ns.Nodup) {z:Str} (hz:ns[i]?=some z) {l t:Addr} (m:g l=none) (r:upd g l (.lst []) t=none) :
  EmpAt H (upd (upd g l (.lst [])) t (.tup [.str z,.ref l])) ns (i+1) (ys++[.ref t]) (upF j z l):=by
 have o:=Same.new m (.lst []);have n:=Same.new r (.tup [.str z,.ref l]);have c:=o.trans n;have f:=xgs nd hz;refine⟨?_,λy b=>?_,λy b h a q=>?_⟩
 ·rw[xsw,xik nd hz]
  exact(e.pr.same (Same.tups c)).append ⟨⟨t,rfl,ups⟩,trivial⟩
 ·rw[xch hz]at b
  rcases zMA b with b |b
  ·rw[xa9 (f y b)]
   exact⟨c _ _ (e.at_ y b).1,(e.at_ y b).2⟩
  ·rw[zMO b,xau]
   exact⟨n _ _ ups,xav s m⟩
 ·rw[xch hz]at b a
  have old:∀u∈ns.take i,j u≠l:=λu p q=>by have:=(e.at_ u p).1;rw[q,m]at this;cases this
  rcases zMA b with b |b <;> rcases zMA a with a |a
  ·rw[xa9 (f y b),xa9 (f h a)]at q
   exact e.inj y b h a q
  ·rw[zMO a,xa9 (f y b),xau]at q
   exact absurd q (old y b)
  ·rw[zMO b,xa9 (f h a),xau]at q
   exact absurd q.symm (old h a)
  ·rw[zMO b,zMO a]
structure NewSt(H H':Hp)(ns:List Str)(i:Nat)(ys:List V)(s:HSt)(sa pa:Str->Addr):Prop where
 pr:PairsV H' ys (mapK (ns.take i) λz=>.ref (sa z))
 at_:∀z∈ns.take i,StAt H' (sa z) (pa z) (s.sd z).1 (s.sd z).2/\H (pa z)=none
theorem NewSt.snoc {H g f:Hp} {ns:List Str} {i:Nat} {ys:List V} {s:HSt} {h pa:Str->Addr} (e:NewSt H g ns i ys s h pa) (q:Same H g) (m:Same g f) (nd:ns.Nodup) {z:Str} (hz:ns[i]?=some z) {a p t:Addr} (o:g p=none) (st:StAt f a p (s.sd z).1 (s.sd z).2) (n:f t=none) :
  NewSt H (upd f t (.tup [.str z,.ref a])) ns (i+1) (ys++[.ref t]) s (upF h z a) (upF pa z p):=by
 have j:=Same.new n (.tup [.str z,.ref a]);have c:=m.trans j;have l:=xgs nd hz;refine⟨?_,λy b=>?_⟩
 ·rw[xsw,xik nd hz]
  exact(e.pr.same (Same.tups c)).append ⟨⟨t,rfl,ups⟩,trivial⟩
 ·rw[xch hz]at b
  rcases zMA b with b |b
  ·rw[xa9 (l y b),xa9 (l y b)]
   exact⟨(e.at_ y b).1.same c,(e.at_ y b).2⟩
  ·rw[zMO b,xau,xau]
   exact⟨st.same j,xav q o⟩
def tot(m:Mak)(s:HSt):Nat:=((hn m).map s.ct).sum
theorem xmd{f:Str->Nat}{x:Str}:∀{ns:List Str},ns.Nodup->(x∈ns->(ns.map (upF f x (f x+1))).sum=(ns.map f).sum+1)/\(x ∉ns->(ns.map (upF f x (f x+1))).sum=(ns.map f).sum)
 |[],_=>⟨(λh=>nomatch h),λ_=>rfl⟩
 | y::ns,nd=>by
  rw[List.nodup_cons]at nd;have a:=xmd (f:=f) (x:=x) nd.2;rw[List.map_cons,List.sum_cons,List.map_cons,List.sum_cons];by_cases e:y=x
  ·subst e
   rw[xau,a.2 nd.1];exact⟨λ_=>by omega,λh=>absurd (List.mem_cons_self ..) h⟩
  ·rw[xa9 e]
   refine⟨λh=>?_,λh=>?_⟩
   ·rcases zMC h with h |h
    ·exact absurd h.symm e
    ·rw[a.1 h];omega
   ·rw[a.2 λz=>h (List.mem_cons_of_mem _ z)]
theorem Stp.tot{m:Mak}(b:MakOk m){s s':HSt}{h:Hand}(a:Stp m s s' h):M.tot m s'=M.tot m s+1:=by
 obtain⟨c,r,_,_,rfl⟩:=a;exact(xmd (f:=s.ct) (x:=h.name) b.hnd).1 (List.mem_map_of_mem c)
theorem Stp.ct{m:Mak}{s s':HSt}{h:Hand}(a:Stp m s s' h):s'.ct h.name=s.ct h.name+1:=by
 obtain⟨_,r,_,_,rfl⟩:=a;exact xau
theorem Rch.tot{m:Mak}(b:MakOk m){s t:HSt}(a:Rch m s t):M.tot m s<=M.tot m t:=by
 induction a with
 |refl=>exact Nat.le_refl _
 |head c _ e=>have:=c.tot b;omega
theorem Rch.eq_tot{m:Mak}(e:MakOk m){s t:HSt}(a:Rch m s t)(h:M.tot m t<=M.tot m s):s=t:=by
 cases a with
 |refl=>rfl
 |head c b=>
  have:=c.tot e;have:=b.tot e;omega
theorem Rch.to{m:Mak}(mok:MakOk m){s t:HSt}(a:Rch m s t):∀{s':HSt} {h:Hand},Stp m s s' h->s.ct h.name<t.ct h.name->Rch m s' t:=by
 induction a with
 |refl=>intro s' h _ lt;exact absurd lt (Nat.lt_irrefl _)
 | head c _ ih=>
  rename_i u v w h1 r1;intro s' h b lt;by_cases e:h1=h
  ·subst e
   rw[b.det c];exact r1
  ·obtain⟨d,e1,e2⟩:=Stp.diam mok e c b
   refine .head e2 (ih e1 ?_);obtain⟨hh,r,_,_,rfl⟩:=c;have hn:h.name≠h1.name:=λz=>e (xb6 mok.hnd hh b.1 z.symm);rw[show(HSt.go m.kinds u h1.name r).ct h.name=u.ct h.name from xa9 hn];exact lt
theorem Rch.next{m:Mak}{s t:HSt}(a:Rch m s t)(ne:s≠t):∃h s',Stp m s s' h/\s.ct h.name<t.ct h.name:=by
 cases a with
 |refl=>exact absurd rfl ne
 |head c b=>
  rename_i s' h;refine⟨h,s',c,?_⟩;have:=b.le h.name;rw[c.ct]at this;omega
open Classical in
noncomputable def HSt.try_(m:Mak)(s:HSt)(z:Str):HSt:=
 match xd4 m z with
 |some hd=>match hd.rows[(s.sd z).1]? with
  |some r=>if r.shutF s.bt=true then s else s.go m.kinds z r
  |none=>s
 |none=>s
theorem xkk{m:Mak}(a:MakOk m){s:HSt}{hd:Hand}{r:Row}(b:hd∈m.hands)(e:hd.rows[(s.sd hd.name).1]?=some r)(c:r.shutF s.bt=true):s.try_ m hd.name=s:=by
 unfold HSt.try_;rw[xdo a b];show(match hd.rows[(s.sd hd.name).1]? with |some r=>if r.shutF s.bt=true then s else s.go m.kinds hd.name r |none=>s)=s;rw[e];show(if r.shutF s.bt=true then s else s.go m.kinds hd.name r)=s;rw[if_pos c]
theorem xl8{m:Mak}(a:MakOk m){s:HSt}{hd:Hand}{r:Row}(b:hd∈m.hands)(e:hd.rows[(s.sd hd.name).1]?=some r)(c:r.shutF s.bt=false):s.try_ m hd.name=s.go m.kinds hd.name r:=by
 unfold HSt.try_;rw[xdo a b];show(match hd.rows[(s.sd hd.name).1]? with |some r=>if r.shutF s.bt=true then s else s.go m.kinds hd.name r |none=>s)=_;rw[e];show(if r.shutF s.bt=true then s else s.go m.kinds hd.name r)=_;rw[if_neg (by rw[c];exact λz=>by cases z)]
noncomputable def runH(m:Mak)(s:HSt)(ws:List Str):HSt:=ws.foldl (HSt.try_ m) s
theorem xh3{m:Mak}{s:HSt}{ws:List Str}{z:Str}:runH m s (ws++[z])=(runH m s ws).try_ m z:=by
 unfold runH;rw[List.foldl_append];rfl
theorem xg3{m:Mak}{s:HSt}{ws vs:List Str}:runH m s (ws++vs)=runH m (runH m s ws) vs:=by
 unfold runH;rw[List.foldl_append]
end M
end
section
namespace L2
open PySem PySem.Spec PyProof.Rows
section
variable {X:Cx}
def xrs:V->List V->Hp->VK->Prop:=λx vs H Q=>∃(l:Addr) (xs:List V) (i:Nat) (y:V),x=.ref l/\vs=[.int i,y]/\H l=some (.lst xs)/\i<=xs.length/\xs.length<1000/\Q .non (upd H l (.lst (xs.take i++y::xs.drop i)))
theorem xnp:MtM X "list.insert" xrs:=by
 intro c s σ H x vs v us Q I o p h;obtain⟨l,xs,i,y,rfl,rfl,j,hi,hz,q⟩:=h;cases o;obtain⟨u,a,rfl,w,m⟩:=p.two;obtain⟨t,rfl⟩:=w;obtain⟨z,its,n,r,g,e⟩:=I.lstM j;have hs:its.toArray.size<=sizeLine:=by rw[List.size_toArray,<- g];exact z
 obtain⟨x,f⟩:∃x:Int,x=(i:Int):=⟨_,rfl⟩;rw[<- f]
 have C:(!Builtin.List.listFitsIndex x)=false:=by
  unfold Builtin.List.listFitsIndex;rw[zDT (show -(2 ^ 63:Int)<=x by omega),zDT (show x<(2 ^ 63:Int) by omega)];rfl
 have b:¬(!Builtin.List.listFitsIndex x)=true:=by rw[C];exact Bool.false_ne_true
 refine call_meets F.slot_list_insert ⟨_,e,rfl⟩ F.entry_list_insert (F.args_list_insert_3 _ _ _) (AutoListH.list_insert_list_int_val_1 l its.toArray n x t a b hs) ⟨e,?_⟩;subst f;refine⟨.non,_,I.lset (its':=its.take i++a::its.drop i) j e ?_ ((r.take i).append (.cons m (r.drop i))) ?_,rfl,q⟩
 ·show((its.toArray.extract 0 _).push a++its.toArray.extract _)=_
  rw[if_neg (by omega),Int.toNat_natCast,List.size_toArray,<- g,Nat.min_eq_left hi];apply Array.toList_inj.mp;simp;exact zTL (by rw[List.length_drop];omega)
 ·rw[zLA,List.length_cons,List.length_take,List.length_drop]
  have:(1000:Nat)<=sizeLine:=by decide
  omega
end
end L2
end
section
namespace M
open PySem L2
def lgS(c x:Str):List Row:=[.set x (tOpD (S "+") (tBox x) (tNum 1)),.send c (tBox x),.go 0]
def lgT(c x:Str):List Row:=[.take x c x,.tell (tBox x),.go 0]
def lgA(a c x:Str):Hand:=⟨a,[(x,S "num")],lgS c x⟩
def lgB(b c x:Str):Hand:=⟨b,[(x,S "num")],lgT c x⟩
def lgM(a b c x:Str):Mak:=⟨[],[(c,a,b,S "num")],[lgA a c x,lgB b c x]⟩
theorem xtz:KWf []:=⟨List.nodup_nil,(λ_ h=>nomatch h),(λi k h=>by simp at h),(λ_ h=>nomatch h),Nat.zero_le _,(λ_ h=>nomatch h),(λ_ h=>nomatch h),λ_ h=>nomatch h⟩
theorem xro:Sg (S "+"):=by unfold Sg;decide +kernel
theorem xnu{a b c x:Str}(ne:a≠b):MakOk (lgM a b c x):=by
 have l:TmOk [] 21 [(x,S "num")] (tBox x) (S "num"):=xhn (by simp);have g:KIn [] 6 (S "num"):=.inl rfl;refine⟨xtz,by simp[lgM],by simp[lgM],λm j=>?_,?_,by simp[lgM],λh i=>?_⟩
 ·simp only[lgM,List.mem_singleton]at j
  subst j;exact g
 ·show([a,b]:List Str).Nodup
  simp[ne]
 ·simp only[lgM,List.mem_cons,List.not_mem_nil,or_false]at i
  rcases i with rfl |rfl
  ·refine⟨by simp[lgA],by simp[lgA],λp f=>?_,by simp[lgA,lgS],λr e=>?_,.go 0,by simp[lgA,lgS],trivial⟩
   ·simp only[lgA,List.mem_singleton]at f
    subst f;exact g
   ·simp only[lgA,lgS,List.mem_cons,List.not_mem_nil,or_false]at e
    rcases e with rfl |rfl |rfl
    ·exact⟨S "num",by simp[lgA],xsz (n:=20) xtz xro (xhn (by simp[lgA])) (xqd ⟨by decide,by decide⟩)⟩
    ·exact⟨(c,a,b,S "num"),by simp[lgM],rfl,rfl,xhn (by simp[lgA])⟩
    ·exact(show 0<3 by decide)
  ·refine⟨by simp[lgB],by simp[lgB],λp f=>?_,by simp[lgB,lgT],λr e=>?_,.go 0,by simp[lgB,lgT],trivial⟩
   ·simp only[lgB,List.mem_singleton]at f
    subst f;exact g
   ·simp only[lgB,lgT,List.mem_cons,List.not_mem_nil,or_false]at e
    rcases e with rfl |rfl |rfl
    ·exact⟨(c,a,b,S "num"),by simp[lgM],rfl,rfl,by simp[lgB]⟩
    ·exact xhn (by simp[lgB])
    ·exact(show 0<3 by decide)
theorem xsu{ks:List Kn}{bx:List (Str×D)}{t v:D}(h:Ev ks 21 (enOf bx) t v):wv ks bx t=v:=by
 have a:∃v,Ev ks 21 (enOf bx) t v:=⟨v,h⟩;have e:wv ks bx t=a.choose:=by unfold wv;rw[dif_pos a]
 rw[e];exact xj8 _ _ _ _ _ a.choose_spec h
theorem xq4{x:Str}{d:D}:enOf [(x,d)] x=some d:=by unfold enOf;rw[List.find?_cons,zDT rfl];rfl
theorem xp8{x:Str}{d:D}:wv [] [(x,d)] (tBox x)=d:=xsu (.inl (.inr ⟨x,xq4,rfl⟩))
theorem xq8{x:Str}{j:Nat}(h:j<1000):wv [] [(x,.int j)] (tOpD (S "+") (tBox x) (tNum 1))=.int ((j+1:Nat):Int):=by
 refine xsu (.inr (.inl ⟨S "+",tBox x,tNum 1,j,1,.inl (.inr ⟨x,xq4,rfl⟩),.inl (.inl ⟨1,rfl,rfl⟩),⟨by omega,by omega⟩,⟨by decide,by decide⟩,rfl,?_⟩));congr 1;unfold opV;rw[if_pos rfl];omega
theorem xm0{x:Str}{d e:D}:putA [(x,d)] x e=[(x,e)]:=by
 unfold putA;rw[if_pos (by rw[List.any_cons,zDT rfl];rfl)];show[if x=x then (x,e) else (x,d)]=_;rw[if_pos rfl]
structure LgA(a b c x:Str)(j:Nat)(s:HSt):Prop where
 sa:s.sd a=(0,[(x,.int j)])
 sb:s.sd b=(0,[(x,.int 0)])
 bt:s.bt c=(List.range j).map λi:Nat=>D.int ((i+1:Nat):Int)
 tl:s.tl b=[]
theorem LgA.three{a b c x:Str}(ne:a≠b){j:Nat}{s:HSt}(h:LgA a b c x j s)(hj:j<999):LgA a b c x (j+1) (runH (lgM a b c x) s [a,a,a])/\tot (lgM a b c x) (runH (lgM a b c x) s [a,a,a])=tot (lgM a b c x) s+3:=by
 have l:=xnu (c:=c) (x:=x) ne;have n:lgA a c x∈(lgM a b c x).hands:=by simp[lgM]
 have st:∀{s:HSt} {k:Nat} {r:Row},(s.sd a).1=k->(lgS c x)[k]?=some r->r.shutF s.bt=false->s.try_ (lgM a b c x) a=s.go [] a r/\tot (lgM a b c x) (s.go [] a r)=tot (lgM a b c x) s+1:=λ{s k r} e z u=>by
  have m:(lgA a c x).rows[(s.sd (lgA a c x).name).1]?=some r:=by show(lgS c x)[(s.sd a).1]?=_;rw[e];exact z
  exact⟨xl8 l n m u,Stp.tot l (h:=lgA a c x) ⟨n,r,m,u,rfl⟩⟩
 obtain⟨J,t1⟩:=st (s:=s) (k:=0) (by rw[h.sa]) rfl rfl
 have p:(s.go [] a (.set x (tOpD (S "+") (tBox x) (tNum 1)))).sd a=(1,[(x,.int ((j+1:Nat):Int))]):=by
  show upF _ a _ a=_;rw[xau,h.sa];show(1,putA [(x,.int j)] x (wv [] [(x,.int j)] _))=_;rw[xq8 (by omega),xm0]
 generalize g:s.go [] a (.set x (tOpD (S "+") (tBox x) (tNum 1)))=f at *
 obtain⟨I,t2⟩:=st (s:=f) (k:=1) (by rw[p]) rfl rfl;have Y:f.bt=s.bt:=by rw[<- g];rfl
 have w:(f.go [] a (.send c (tBox x))).sd a=(2,[(x,.int ((j+1:Nat):Int))]):=by
  show upF _ a _ a=_;rw[xau,p];rfl
 have U:(f.go [] a (.send c (tBox x))).bt c=(List.range (j+1)).map λi:Nat=>D.int ((i+1:Nat):Int):=by
  show upF f.bt c (f.bt c++[wv [] (f.sd a).2 (tBox x)]) c=_;rw[xau,p,xp8,Y,h.bt,List.range_succ,zAP];rfl
 have O:(f.go [] a (.send c (tBox x))).sd b=s.sd b:=by
  show upF f.sd a _ b=_;rw[xa9 (Ne.symm ne),<- g];show upF s.sd a _ b=_;rw[xa9 (Ne.symm ne)]
 have M:(f.go [] a (.send c (tBox x))).tl b=s.tl b:=by
  show upF f.tl a _ b=_;rw[xa9 (Ne.symm ne),<- g];show upF s.tl a _ b=_;rw[xa9 (Ne.symm ne)]
 generalize y:f.go [] a (.send c (tBox x))=o at *
 obtain⟨G,Z⟩:=st (s:=o) (k:=2) (by rw[w]) rfl rfl
 have C:runH (lgM a b c x) s [a,a,a]=o.go [] a (.go 0):=by
  show((s.try_ _ a).try_ _ a).try_ _ a=_;rw[J,I,G]
 rw[C];refine⟨⟨?_,?_,?_,?_⟩,by omega⟩
 ·show upF _ a _ a=_
  rw[xau,w];rfl
 ·show upF o.sd a _ b=_
  rw[xa9 (Ne.symm ne),O];exact h.sb
 ·exact U
 ·show upF o.tl a _ b=_
  rw[xa9 (Ne.symm ne),M];exact h.tl
theorem xh4(a:Str)(k:Nat):List.replicate (3*(k+1)) a=List.replicate (3*k) a++[a,a,a]:=by
 rw[show 3*(k+1)=3*k+3 by omega,<- List.replicate_append_replicate (n:=3*k) (m:=3)];rfl
theorem LgA.all{a b c x:Str}(ne:a≠b){s:HSt}(h:LgA a b c x 0 s):∀(k:Nat),k<=900->LgA a b c x k (runH (lgM a b c x) s (List.replicate (3*k) a))/\tot (lgM a b c x) (runH (lgM a b c x) s (List.replicate (3*k) a))=tot (lgM a b c x) s+3*k
 |0,_=>⟨h,rfl⟩
 |k+1,g=>by
  obtain⟨f,j⟩:=LgA.all ne h k (by omega);rw[xh4,xg3];obtain⟨e,i⟩:=f.three ne (by omega);exact⟨e,by omega⟩
structure LgB(a b c x:Str)(k j:Nat)(s:HSt):Prop where
 sb:s.sd b=(0,[(x,.int j)])
 bt:s.bt c=((List.range k).map λi:Nat=>D.int ((i+1:Nat):Int)).drop j
 tl:s.tl b=(List.range j).map λi:Nat=>D.int ((i+1:Nat):Int)
theorem LgB.three{a b c x:Str}(ne:a≠b){k j:Nat}{s:HSt}(h:LgB a b c x k j s)(I:j<k):LgB a b c x k (j+1) (runH (lgM a b c x) s [b,b,b])/\tot (lgM a b c x) (runH (lgM a b c x) s [b,b,b])=tot (lgM a b c x) s+3:=by
 have g:=xnu (c:=c) (x:=x) ne;have m:lgB b c x∈(lgM a b c x).hands:=by simp[lgM]
 have st:∀{s:HSt} {k:Nat} {r:Row},(s.sd b).1=k->(lgT c x)[k]?=some r->r.shutF s.bt=false->s.try_ (lgM a b c x) b=s.go [] b r/\tot (lgM a b c x) (s.go [] b r)=tot (lgM a b c x) s+1:=λ{s k r} e G p=>by
  have l:(lgB b c x).rows[(s.sd (lgB b c x).name).1]?=some r:=by show(lgT c x)[(s.sd b).1]?=_;rw[e];exact G
  exact⟨xl8 g m l p,Stp.tot g (h:=lgB b c x) ⟨m,r,l,p,rfl⟩⟩
 have hd:s.bt c=D.int ((j+1:Nat):Int)::((List.range k).map λi:Nat=>D.int ((i+1:Nat):Int)).drop (j+1):=by
  rw[h.bt,List.drop_eq_getElem_cons (by rw[zLM,List.length_range];exact I)];congr 1;rw[List.getElem_map,List.getElem_range]
 obtain⟨U,t1⟩:=st (s:=s) (k:=0) (by rw[h.sb]) rfl (by show(s.bt c).isEmpty=false;rw[hd];rfl)
 have o:(s.go [] b (.take x c x)).sd b=(1,[(x,.int ((j+1:Nat):Int))]):=by
  show upF _ b _ b=_;rw[xau,h.sb];show(1,putA [(x,.int j)] x ((s.bt c).headD _))=_;rw[hd,xm0];rfl
 have Z:(s.go [] b (.take x c x)).bt c=((List.range k).map λi:Nat=>D.int ((i+1:Nat):Int)).drop (j+1):=by
  show upF s.bt c (s.bt c).tail c=_;rw[xau,hd];rfl
 have y:(s.go [] b (.take x c x)).tl b=s.tl b:=by
  show upF s.tl b _ b=_;rw[xau];rfl
 generalize C:s.go [] b (.take x c x)=f at *
 obtain⟨O,t2⟩:=st (s:=f) (k:=1) (by rw[o]) rfl rfl
 have u:(f.go [] b (.tell (tBox x))).sd b=(2,[(x,.int ((j+1:Nat):Int))]):=by
  show upF _ b _ b=_;rw[xau,o];rfl
 have w:(f.go [] b (.tell (tBox x))).tl b=(List.range (j+1)).map λi:Nat=>D.int ((i+1:Nat):Int):=by
  show upF f.tl b (f.tl b++[wv [] (f.sd b).2 (tBox x)]) b=_;rw[xau,o,xp8,y,h.tl,List.range_succ,zAP];rfl
 have Y:(f.go [] b (.tell (tBox x))).bt=f.bt:=rfl;generalize z:f.go [] b (.tell (tBox x))=n at *
 obtain⟨M,t3⟩:=st (s:=n) (k:=2) (by rw[u]) rfl rfl
 have J:runH (lgM a b c x) s [b,b,b]=n.go [] b (.go 0):=by
  show((s.try_ _ b).try_ _ b).try_ _ b=_;rw[U,O,M]
 rw[J];refine⟨⟨?_,?_,?_⟩,by omega⟩
 ·show upF _ b _ b=_
  rw[xau,u];rfl
 ·show n.bt c=_
  rw[Y];exact Z
 ·show upF n.tl b _ b=_
  rw[xau];exact w
theorem LgB.all{a b c x:Str}(ne:a≠b){k:Nat}{s:HSt}(h:LgB a b c x k 0 s):∀(j:Nat),j<=k->LgB a b c x k j (runH (lgM a b c x) s (List.replicate (3*j) b))/\tot (lgM a b c x) (runH (lgM a b c x) s (List.replicate (3*j) b))=tot (lgM a b c x) s+3*j
 |0,_=>⟨h,rfl⟩
 |j+1,g=>by
  obtain⟨f,l⟩:=LgB.all ne h j (by omega);rw[xh4,xg3];obtain⟨e,i⟩:=f.three ne (by omega);exact⟨e,by omega⟩
theorem LgB.rest{a b c x:Str}(ne:a≠b){k:Nat}{s:HSt}(h:LgB a b c x k k s):∀n,runH (lgM a b c x) s (List.replicate n b)=s
 |0=>rfl
 | n+1=>by
  have f:=xnu (c:=c) (x:=x) ne;have g:lgB b c x∈(lgM a b c x).hands:=by simp[lgM]
  have e:s.try_ (lgM a b c x) b=s:=xkk f (hd:=lgB b c x) (r:=.take x c x) g (by show(lgT c x)[(s.sd b).1]?=_;rw[h.sb];rfl) (by
   show(s.bt c).isEmpty=true;rw[h.bt,List.drop_of_length_le (by rw[zLM,List.length_range];exact Nat.le_refl _)];rfl)
  show runH (lgM a b c x) (s.try_ _ b) (List.replicate n b)=s;rw[e];exact LgB.rest ne h n
theorem lg0{a b c x:Str}(ne:a≠b):LgA a b c x 0 (hs0 (lgM a b c x)):=by
 have e:=xnu (c:=c) (x:=x) ne;have g:=xgl e (hd:=lgA a c x) (by simp[lgM]);have f:=xgl e (hd:=lgB b c x) (by simp[lgM]);have nu:nuV 7 [] (S "num")=.int 0:=by unfold nuV;rfl
 refine⟨?_,?_,rfl,rfl⟩
 ·refine g.trans ?_
  show(0,[(x,nuV 7 [] (S "num"))])=_;rw[nu];rfl
 ·refine f.trans ?_
  show(0,[(x,nuV 7 [] (S "num"))])=_;rw[nu]
end M
end
section
local macro_rules | `(tactic| obtain $p:rcasesPatMed:=$e:term)=>`(tactic| ((refine gcut λG hG=>?_;rcases $e:term with $p:rcasesPatMed) <;> refine hG ?_))
section
namespace L2
open PySem
abbrev qaa:List Str:=["self","h"]
abbrev qab:List Str:=["_law_kinds_here","_law_kind"]
abbrev qac:List Str:=["_law_feed_here","_law_many"]
abbrev qad:List Str:=["kinds","term","boxes"]
abbrev qae:List Str:=["_law_feed_here","_law_kinds_here","_law_boxes_here","_law_kind","_law_room","_law_deep"]
abbrev qaf:List Str:=["make","h"]
abbrev qag:List Str:=["self","make"]
abbrev qah:List Str:=["kinds","K"]
abbrev qai:List Str:=["_law_feed_here","_law_kinds_here","_law_boxes_here","_law_kind"]
abbrev qaj:List Str:=["_law_make_here"]
abbrev qak:List Str:=["make","h","stand"]
abbrev qal:List Str:=["_law_script","_law_k"]
abbrev qam:List Str:=["_law_feed_here","_law_kinds_here"]
abbrev qan:List Str:=["boxes","x","thing"]
abbrev qao:List Str:=["kinds","kind"]
abbrev qap:List Str:=["_law_channels_here","_law_h","_law_boxes_here"]
abbrev qaq:List Str:=["self","c"]
abbrev qar:List Str:=["self","hands"]
abbrev qas:List Str:=["sign","a","b"]
abbrev qat:List Str:=["row","letters"]
abbrev qau:List Str:=["make","h","stand","letter"]
abbrev qav:List Str:=["make","row","boxes","letter"]
abbrev qaw:List Str:=["make","h","stand","coming","going","tellings"]
abbrev qax:List Str:=["_law_feed_here","_law_kinds_here","_law_sort","_law_names_here"]
abbrev qay:List Str:=["_law_feed_here","_law_some"]
abbrev qaz:List Str:=["_law_feed_here","_law_kinds_here","_law_channels_here","_law_h","_law_boxes_here","_law_marks"]
abbrev qa0:List Str:=["_law_feed_here","_law_kinds_here","_law_channels_here","_law_h","_law_boxes_here","_law_names_here"]
abbrev qa1:List Str:=["_law_script","_law_at","_law_names_here"]
abbrev qa2:List Str:=["_law_script","_law_at","_law_kinds_here","_law_channels_here","_law_many","_law_names_here"]
abbrev qa3:List Str:=["_law_house","_law_make_here"]
abbrev qa4:List Str:=["things","name"]
abbrev qa5:List Str:=["kinds","value","f"]
abbrev qa6:List Str:=["make","row","stand"]
abbrev qa7:List Str:=["_law_cell","_law_many"]
abbrev qa8:List Str:=["_law_feed_here"]
abbrev qa9:List Str:=["_law_feed_here","_law_names_here"]
abbrev qba:List Str:=["_law_feed_here","_law_kinds_here","_law_boxes_here","_law_parts_here","_law_kind","_law_room","_law_deep"]
abbrev qbb:List Str:=["_law_feed_here","_law_kinds_here","_law_names_here","_law_hands_here"]
abbrev qbc:List Str:=["_law_feed_here","_law_kinds_here","_law_channels_here","_law_h","_law_names_here"]
abbrev qbd:List Str:=["_law_script","_law_at","_law_make_here"]
abbrev qbe:List Str:=["_law_house","_law_make_here","_law_counts","_law_feed_here"]
abbrev qbf:List Str:=["_law_names_here","_law_many"]
end L2
namespace K37
open PySem L2 M
seal L2.PE L2.PA L2.PS L2.PSs L2.PT L2.PW L2.PI L2.PG L2.PJ L2.PTs
def top(i:Nat):Stmt:=PySem.Challenge.pw_swapstride_k37_whole_two_weavings.main.body.getD i (.Pass ⟨0,0,0,0⟩)
abbrev s_row_ways:Stmt:=top 2
theorem xjm:FnScope ["row","k"] ["row","k"] (xac s_row_ways):=by walk_at"q"
abbrev s_hand_of:Stmt:=top 3
theorem xlo:FnScope qaf qaf (xac s_hand_of):=by walk_at"q"
abbrev s_named:Stmt:=top 4
theorem sc_named:FnScope ["things","name","thing"] qa4 (xac s_named):=by walk_at"q"
abbrev s_sort_of:Stmt:=top 6
theorem sc_sort_of:FnScope ["kinds","K","name","sort","parts"] qah (xac s_sort_of):=by walk_at"q"
abbrev s_parts_of:Stmt:=top 7
theorem sc_parts_of:FnScope ["kinds","K","name","sort","parts"] qah (xac s_parts_of):=by walk_at"q"
abbrev s_with_box:Stmt:=top 10
theorem sc_with_box:FnScope ["boxes","x","thing","more"] qan (xac s_with_box):=by walk_at"q"
abbrev s_nought:Stmt:=top 12
theorem sc_nought:FnScope ["kinds","kind","parts"] qao (xac s_nought):=by walk_at"q"
abbrev s_field:Stmt:=top 13
theorem sc_field:FnScope ["kinds","value","f","names"] qa5 (xac s_field):=by walk_at"q"
abbrev s_worth:Stmt:=top 15
theorem sc_worth:FnScope ["kinds","term","boxes","head","taken"] qad (xac s_worth):=by walk_at"q"
abbrev s_op_worth:Stmt:=top 16
theorem xjn:FnScope qas qas (xac s_op_worth):=by walk_at"q"
abbrev s_case_worth:Stmt:=top 17
theorem sc_case_worth:FnScope ["kinds","term","boxes","value","arm"] qad (xac s_case_worth):=by walk_at"q"
abbrev s_begin_of:Stmt:=top 19
theorem xjo:FnScope qaf qaf (xac s_begin_of):=by walk_at"q"
abbrev s_own_stand:Stmt:=top 20
theorem xh2:FnScope ["stand"] ["stand"] (xac s_own_stand):=by walk_at"q"
abbrev s_row_at:Stmt:=top 21
theorem xmx:FnScope qak qak (xac s_row_at):=by walk_at"q"
abbrev s_first_letter:Stmt:=top 22
theorem xfl:FnScope qat qat (xac s_first_letter):=by walk_at"q"
abbrev s_stride:Stmt:=top 23
theorem sc_stride:FnScope ["make","h","stand","letter","row"] qau (xac s_stride):=by walk_at"q"
abbrev s_row_behind:Stmt:=top 24
theorem sc_row_behind:FnScope ["make","row","stand","ways"] qa6 (xac s_row_behind):=by walk_at"q"
abbrev s_boxes_behind:Stmt:=top 25
theorem xfm:FnScope qav qav (xac s_boxes_behind):=by walk_at"q"
abbrev s_done:Stmt:=top 26
theorem sc_done:FnScope ["make","h","stand","coming","going","tellings","row","behind"] qaw (xac s_done):=by walk_at"q"
abbrev sl_feed:Stmt:=top 32
theorem scl_feed:FnScope ["_law_script","_law_k","_law_cell"] qal (xac sl_feed):=by walk_at"q"
abbrev sl_take:Stmt:=top 33
theorem scl_take:FnScope ["_law_feed_here","_law_many","_law_digit","_law_one"] qac (xac sl_take):=by walk_at"q"
abbrev sl_names:Stmt:=top 34
theorem scl_names:FnScope ["_law_cell","_law_many","_law_letters","_law_size_here","_law_at","_law_common","_law_found"] qa7 (xac sl_names):=by walk_at"q"
abbrev sl_number:Stmt:=top 35
theorem scl_number:FnScope ["_law_feed_here","_law_form"] qa8 (xac sl_number):=by walk_at"q"
abbrev sl_sort_of:Stmt:=top 36
theorem scl_sort_of:FnScope ["_law_kinds_here","_law_kind","_law_name","_law_sort","_law_parts_here"] qab (xac sl_sort_of):=by walk_at"q"
abbrev sl_size:Stmt:=top 37
theorem scl_size:FnScope ["_law_kinds_here","_law_kind","_law_sort","_law_parts_here","_law_sizes"] qab (xac sl_size):=by walk_at"q"
abbrev sl_small:Stmt:=top 38
theorem scl_small:FnScope ["_law_kinds_here","_law_kind","_law_sort","_law_parts_here"] qab (xac sl_small):=by walk_at"q"
abbrev sl_parts:Stmt:=top 39
theorem scl_parts:FnScope ["_law_feed_here","_law_kinds_here","_law_sort","_law_names_here","_law_parts_here","_law_left","_law_j","_law_kind"] qax (xac sl_parts):=by walk_at"q"
abbrev sl_kinds:Stmt:=top 40
theorem scl_kinds:FnScope ["_law_feed_here","_law_names_here","_law_kinds_here","_law_k","_law_sort"] qa9 (xac sl_kinds):=by walk_at"q"
abbrev sl_boxed:Stmt:=top 41
theorem xmw:FnScope qay qay (xac sl_boxed):=by walk_at"q"
abbrev sl_arms:Stmt:=top 42
theorem scl_arms:FnScope ["_law_feed_here","_law_kinds_here","_law_boxes_here","_law_parts_here","_law_kind","_law_room","_law_deep","_law_arms_here","_law_each","_law_t","_law_part","_law_x"] qba (xac sl_arms):=by walk_at"q"
abbrev sl_whole_term:Stmt:=top 43
theorem scl_whole_term:FnScope ["_law_feed_here","_law_kinds_here","_law_boxes_here","_law_kind","_law_room","_law_deep","_law_sort","_law_parts_here","_law_one","_law_other_here","_law_some","_law_t","_law_part","_law_more","_law_terms","_law_f"] qae (xac sl_whole_term):=by walk_at"q"
abbrev sl_term:Stmt:=top 44
theorem scl_term:FnScope ["_law_feed_here","_law_kinds_here","_law_boxes_here","_law_kind","_law_room","_law_deep","_law_some","_law_form","_law_small_here","_law_more","_law_one","_law_first","_law_held","_law_x","_law_told","_law_sort","_law_parts_here","_law_f","_law_tags"] qae (xac sl_term):=by walk_at"q"
abbrev sl_new_term:Stmt:=top 45
theorem xh0:FnScope qai qai (xac sl_new_term):=by walk_at"q"
abbrev sl_any_kind:Stmt:=top 46
theorem scl_any_kind:FnScope qam qam (xac sl_any_kind):=by walk_at"q"
abbrev sl_channels:Stmt:=top 47
theorem scl_channels:FnScope ["_law_feed_here","_law_kinds_here","_law_names_here","_law_hands_here","_law_found","_law_turn","_law_k","_law_ends"] qbb (xac sl_channels):=by walk_at"q"
abbrev sl_boxes:Stmt:=top 48
theorem scl_boxes:FnScope ["_law_feed_here","_law_kinds_here","_law_channels_here","_law_h","_law_names_here","_law_wants","_law_c","_law_come","_law_to","_law_kind","_law_k","_law_turn"] qbc (xac sl_boxes):=by walk_at"q"
abbrev sl_into:Stmt:=top 49
theorem scl_into:FnScope ["_law_channels_here","_law_h","_law_boxes_here","_law_found","_law_c","_law_come","_law_to","_law_kind"] qap (xac sl_into):=by walk_at"q"
abbrev sl_deal:Stmt:=top 50
theorem scl_deal:FnScope ["_law_feed_here","_law_kinds_here","_law_channels_here","_law_h","_law_boxes_here","_law_marks","_law_form","_law_into_here","_law_out","_law_c","_law_x","_law_kind"] qaz (xac sl_deal):=by walk_at"q"
abbrev sl_rows:Stmt:=top 51
theorem scl_rows:FnScope ["_law_feed_here","_law_kinds_here","_law_channels_here","_law_h","_law_boxes_here","_law_names_here","_law_marks","_law_rows_here","_law_many","_law_at","_law_form","_law_test","_law_into_here","_law_c","_law_x"] qa0 (xac sl_rows):=by walk_at"q"
abbrev sl_make:Stmt:=top 52
theorem scl_make:FnScope ["_law_script","_law_at","_law_names_here","_law_kinds_here","_law_feed_here","_law_hands_here"] qa1 (xac sl_make):=by walk_at"q"
abbrev sl_hands:Stmt:=top 53
theorem scl_hands:FnScope ["_law_script","_law_at","_law_kinds_here","_law_channels_here","_law_many","_law_names_here","_law_found","_law_k","_law_feed_here","_law_boxes_here"] qa2 (xac sl_hands):=by walk_at"q"
abbrev sl_hands_of:Stmt:=top 54
theorem xh1:FnScope qaj qaj (xac sl_hands_of):=by walk_at"q"
abbrev sl_weaving:Stmt:=top 55
theorem scl_weaving:FnScope ["_law_script","_law_at","_law_make_here","_law_found","_law_k","_law_feed_here"] qbd (xac sl_weaving):=by walk_at"q"
abbrev sl_state:Stmt:=top 56
theorem scl_state:FnScope ["_law_house","_law_make_here","_law_found","_law_h"] qa3 (xac sl_state):=by walk_at"q"
abbrev sl_other:Stmt:=top 57
theorem scl_other:FnScope ["_law_house","_law_make_here","_law_counts","_law_feed_here","_law_hands_here","_law_k","_law_at","_law_many","_law_turns","_law_h","_law_j"] qbe (xac sl_other):=by walk_at"q"
abbrev sl_long:Stmt:=top 58
theorem scl_long:FnScope ["_law_names_here","_law_many","_law_a","_law_b","_law_c","_law_x","_law_more","_law_sends","_law_takes","_law_boxes_here","_law_hands_here","_law_house","_law_due"] qbf (xac sl_long):=by walk_at"q"
abbrev s_law:Stmt:=top 59
theorem sc_law:FnScope ["_law_script","_law_names_here","_law_make_here","_law_first","_law_second","_law_hands_here","_law_handed","_law_many","_law_counts","_law_h","_law_cell"] ["_law_script"] (xac s_law):=by walk_at"q"
abbrev s_House_init:Stmt:=xev (top 28) 0
theorem xg2:FnScope qag qag (xac s_House_init):=by walk_at"q"
abbrev s_Plain_stand:Stmt:=xev (top 28) 1
theorem xf5:FnScope qaa qaa (xac s_Plain_stand):=by walk_at"q"
abbrev s_Plain_told:Stmt:=xev (top 28) 2
theorem xg0:FnScope qaa qaa (xac s_Plain_told):=by walk_at"q"
abbrev s_Plain_letters:Stmt:=xev (top 28) 3
theorem xey:FnScope qaq qaq (xac s_Plain_letters):=by walk_at"q"
abbrev s_Plain_count:Stmt:=xev (top 28) 4
theorem xf6:FnScope qaa qaa (xac s_Plain_count):=by walk_at"q"
abbrev s_Plain_init:Stmt:=xev (top 30) 0
theorem xg1:FnScope qag qag (xac s_Plain_init):=by walk_at"q"
abbrev s_Plain_step:Stmt:=xev (top 30) 1
theorem sc_Plain_step:FnScope ["self","h","behind"] qaa (xac s_Plain_step):=by walk_at"q"
abbrev s_Plain_weave:Stmt:=xev (top 30) 2
theorem sc_Plain_weave:FnScope ["self","hands","many","h"] qar (xac s_Plain_weave):=by walk_at"q"
structure Tx(K:Fg)(mg:Str->Option Value):Prop where
 jA:DefTx K mg "row_ways" s_row_ways ["row","k"]
 jB:DefTx K mg "hand_of" s_hand_of qaf
 jC:DefTx K mg "named" s_named qa4
 jD:DefTx K mg "sort_of" s_sort_of qah
 jE:DefTx K mg "parts_of" s_parts_of qah
 jF:DefTx K mg "with_box" s_with_box qan
 jG:DefTx K mg "nought" s_nought qao
 jH:DefTx K mg "field" s_field qa5
 jI:DefTx K mg "worth" s_worth qad
 jJ:DefTx K mg "op_worth" s_op_worth qas
 jK:DefTx K mg "case_worth" s_case_worth qad
 jL:DefTx K mg "begin_of" s_begin_of qaf
 jM:DefTx K mg "own_stand" s_own_stand ["stand"]
 jN:DefTx K mg "row_at" s_row_at qak
 jO:DefTx K mg "first_letter" s_first_letter qat
 jP:DefTx K mg "stride" s_stride qau
 jQ:DefTx K mg "row_behind" s_row_behind qa6
 jR:DefTx K mg "boxes_behind" s_boxes_behind qav
 jS:DefTx K mg "done" s_done qaw
 jT:DefTx K mg "_law_feed" sl_feed qal
 jU:DefTx K mg "_law_take" sl_take qac
 jV:DefTx K mg "_law_names" sl_names qa7
 jW:DefTx K mg "_law_number" sl_number qa8
 jX:DefTx K mg "_law_sort_of" sl_sort_of qab
 jY:DefTx K mg "_law_size" sl_size qab
 jZ:DefTx K mg "_law_small" sl_small qab
 j0:DefTx K mg "_law_parts" sl_parts qax
 j1:DefTx K mg "_law_kinds" sl_kinds qa9
 j2:DefTx K mg "_law_boxed" sl_boxed qay
 j3:DefTx K mg "_law_arms" sl_arms qba
 j4:DefTx K mg "_law_whole_term" sl_whole_term qae
 j5:DefTx K mg "_law_term" sl_term qae
 j6:DefTx K mg "_law_new_term" sl_new_term qai
 j7:DefTx K mg "_law_any_kind" sl_any_kind qam
 j8:DefTx K mg "_law_channels" sl_channels qbb
 j9:DefTx K mg "_law_boxes" sl_boxes qbc
 kA:DefTx K mg "_law_into" sl_into qap
 kB:DefTx K mg "_law_deal" sl_deal qaz
 kC:DefTx K mg "_law_rows" sl_rows qa0
 kD:DefTx K mg "_law_make" sl_make qa1
 kE:DefTx K mg "_law_hands" sl_hands qa2
 kF:DefTx K mg "_law_hands_of" sl_hands_of qaj
 kG:DefTx K mg "_law_weaving" sl_weaving qbd
 kH:DefTx K mg "_law_state" sl_state qa3
 kI:DefTx K mg "_law_other" sl_other qbe
 kJ:DefTx K mg "_law_long" sl_long qbf
 kK:DefTx K mg "law" s_law ["_law_script"]
 kL:∃t,mg "WIDE"=some (.int 4294967296 t)
 kM:mg "bool"=none
 kN:mg "dict"=none
 kO:mg "int"=none
 kP:mg "isinstance"=none
 kQ:mg "len"=none
 kR:mg "list"=none
 kS:mg "max"=none
 kT:mg "min"=none
 kU:mg "range"=none
 kW:mg "sum"=none
 kX:mg "tuple"=none
 kY:mg "Plain"=some (.ref (ad K "Plain"))
 kZ:DTab K "Plain" ["make","stands","between","tellings","counts"]
 k0:mg "House"=some (.ref (ad K "House"))
 k3:CTab K "House" "__init__"
 k4:MethTx K "House.__init__" (ad K "House") "__init__" s_House_init qag [[]]
 k5:MethTx K "House.stand" (ad K "Plain") "stand" s_Plain_stand qaa [[]]
 k6:MethTx K "House.told" (ad K "Plain") "told" s_Plain_told qaa [[]]
 k7:MethTx K "House.letters" (ad K "Plain") "letters" s_Plain_letters qaq [[]]
 k8:MethTx K "House.count" (ad K "Plain") "count" s_Plain_count qaa [[]]
 k9:MethTx K "Plain.__init__" (ad K "Plain") "__init__" s_Plain_init qag [[]]
 uA:MethTx K "Plain.step" (ad K "Plain") "step" s_Plain_step qaa [[]]
 uB:MethTx K "Plain.weave" (ad K "Plain") "weave" s_Plain_weave qar [[]]
theorem fits{n:Nat}(h:n<=4000000):n<=sizeLine:=Nat.le_trans h (by decide)
theorem xa5{n:Nat}(h:n<=4000000):n<sizeLine:=Nat.lt_of_le_of_lt h (by decide)
def xkp:Sp:=λvs H Q _=>∃v ks x,vs=[v,.str x]/\KsAt H v ks/\Q (xuv (kAt ks x)) H
def xfi:Sp:=λvs H Q _=>∃v ks x,vs=[v,.str x]/\KsAt H v ks/\∀u H',Same H H'->RelD H' u (xkw (kAt ks x))->Q u H'
section
variable {P:Program}{w:World}{K:Fg}{mg:Str->Option Value}{base:Heap}{n:Nat}
theorem xgf(T:Tx K y):DefIs P w K y base (n+1) "sort_of" qah xkp:=by
 refine DefIs.of T.jD sc_sort_of (by walk_at"l") (λf O A outer s H vs Q E Z h=>?_);obtain⟨v,ks,x,rfl,I,q⟩:=h;have nd:=sc_sort_of.nd
 refine⟨_,(zpn (xcg PassesOwn.never rfl (xa1 (K:=K) rfl (pv 0)) (xbl (K:=K) rfl rfl (xae (pgn 2 nd) (xae (pgn 3 nd) (xae (pgn 4 nd) xbh))))
   (zpo (xa8 (pR xbd (pv 2) (pv 1) (nM _)) (zpo (xaf (pv 3))) pQ)))
   (zpo (xaf xeq))),?_⟩
 obtain⟨a,us,rfl,r,u⟩:=I.1;refine(xa3 _ rfl a rfl ⟨_,SqT.of r⟩ ?_);have G:=u.length;rw[zLM]at G;refine xdp (xs:=us) (λi σ j=>∃o m l,σ=[some (.ref a),some (.str x),o,m,l]/\j=H/\(ks.take i).find? (λk=>decide (k.name=x))=none) (xb7 none none none rfl rfl rfl) (λi σ j _ p=>?_) ?_ ?_
 ·obtain⟨_,_,_,_,rfl,_⟩:=p
  exact SqT.of r
 ·rintro i v σ j C ⟨o,m,l,rfl,rfl,hn⟩
  obtain⟨d,hd,rd⟩:=u.get C;rw[zGM]at hd;obtain⟨k,g,rfl⟩:=zMS hd;obtain⟨b,ws,rfl,J,_,_,rfl,rfl,_,_,rfl,rfl,U,_,rfl,Y,rfl⟩:=rd;refine(xa2 b _ rfl (SqT.of J) rfl _ _ rfl _ (xat _ rfl _ _ rfl rfl ?_));refine(xcv _ rfl _ rfl rfl _ rfl (ite2 (λc=>?_) (λc=>?_)))
  ·have e:k.name=x:=V.str.inj (of_decide_eq_true c)
   have M:kAt ks x=some k:=(xcw hn g).1 (zDT e);refine(jEA _ rfl ?_);rw[M]at q;exact q
  ·have e:¬k.name=x:=λz=>c (zDT (congrArg V.str z))
   exact(xb7 _ _ _ rfl rfl ((xcw hn g).2 (zDF e)))
 ·rintro σ j ⟨o,m,l,rfl,rfl,hn⟩
  rw[zTL (by omega)]at hn;rw[show kAt ks x=none from hn]at q;exact q
theorem xea(T:Tx K C):DefIs P w K C base (n+1) "parts_of" qah xfi:=by
 refine DefIs.of T.jE sc_parts_of (by walk_at"l") (λf Y A outer s H vs Q E hr h=>?_);obtain⟨v,ks,x,rfl,M,q⟩:=h;have nd:=sc_parts_of.nd
 refine⟨_,(zpn (xcg PassesOwn.never rfl (xa1 (K:=K) rfl (pv 0)) (xbl (K:=K) rfl rfl (xae (pgn 2 nd) (xae (pgn 3 nd) (xae (pgn 4 nd) xbh))))
   (zpo (xa8 (pR xbd (pv 2) (pv 1) (nM _)) (zpo (xaf (pv 4))) pQ)))
   (zpo (xaf (xak pN)))),?_⟩
 obtain⟨a,us,rfl,r,u⟩:=M.1;refine(xa3 _ rfl a rfl ⟨_,SqT.of r⟩ ?_);have J:=u.length;rw[zLM]at J;refine xdp (xs:=us) (λi σ j=>∃o m l,σ=[some (.ref a),some (.str x),o,m,l]/\j=H/\(ks.take i).find? (λk=>decide (k.name=x))=none) (xb7 none none none rfl rfl rfl) (λi σ j _ p=>?_) ?_ ?_
 ·obtain⟨_,_,_,_,rfl,_⟩:=p
  exact SqT.of r
 ·rintro i v σ j G ⟨o,m,l,rfl,rfl,hn⟩
  obtain⟨d,hd,rd⟩:=u.get G;rw[zGM]at hd;obtain⟨k,g,rfl⟩:=zMS hd;obtain⟨b,ws,rfl,O,_,_,rfl,rfl,_,_,rfl,rfl,Z,_,rfl,y,rfl⟩:=rd;refine(xa2 b _ rfl (SqT.of O) rfl _ _ rfl _ (xat _ rfl _ _ rfl rfl ?_));refine(xcv _ rfl _ rfl rfl _ rfl (ite2 (λc=>?_) (λc=>?_)))
  ·have e:k.name=x:=V.str.inj (of_decide_eq_true c)
   have U:kAt ks x=some k:=(xcw hn g).1 (zDT e);refine(jEA _ rfl ?_);rw[U]at q;exact q _ _ (Same.refl _) y
  ·have e:¬k.name=x:=λz=>c (zDT (congrArg V.str z))
   exact(xb7 _ _ _ rfl rfl ((xcw hn g).2 (zDF e)))
 ·rintro σ j ⟨o,m,l,rfl,rfl,hn⟩
  rw[zTL (by omega)]at hn;rw[show kAt ks x=none from hn]at q;exact⟨(by walk_at"s"),λp I=>q _ _ (Same.new I _) (xaw p ([]) rfl ups rfl)⟩
end
abbrev RW:=List Kn->En->D->D->Prop
def xc2(R:RW)(m:Nat):Sp:=λvs H Q _=>∃kv tv p ks d env val,vs=[kv,tv,.ref p]/\KsAt H kv ks/\RelD H tv d/\EnAt H p m env/\R ks env d val/\∀u H',Same H H'->RelD H' u val->Q u H'
def xhu:Sp:=λvs H Q _=>∃s x y,vs=[.str s,.int x,.int y]/\Nm x/\Nm y/\Q (.int (opV s x y)) H
section
variable {P:Program}{w:World}{K:Fg}{mg:Str->Option Value}{base:Heap}{n m:Nat}
theorem xjx(T:Tx K g):DefIs P w K g base (n+1) "op_worth" qas xhu:=by
 refine DefIs.of T.jJ xjn (by walk_at"l") (λf j A outer s H vs Q E p h=>?_);obtain⟨s,x,y,rfl,i,o,q⟩:=h
 refine⟨_,(zpn (xa8 (pR xbd (pv 0) pS (nM _)) (zpo (xaf (xaj xcb (xaj xba (pv 1) (pv 2)) (xjr T.kL)))) pQ)
   (zpn (xa8 (pR xbd (pv 0) pS (nM _)) (zpo (xaf (xaj xcb (xaj xck (pv 1) (pv 2)) (xjr T.kL)))) pQ)
   (zpn (xa8 (pR xbd (pv 0) pS (nM _)) (zpo (xaf (xaj xcb (xaj xcr (pv 1) (pv 2)) (xjr T.kL)))) pQ)
   (zpn (xa8 (pR xbd (pv 0) pS (nM _)) (zpo (xaf (xe8 (pR xez (pv 1) (pv 2) (nM _)) pI pI))) pQ)
   (zpo (xaf (xe8 (pR xbd (pv 1) (pv 2) (nM _)) pI pI))))))),?_⟩
 have pos:(0:Int)<4294967296:=by decide
 unfold opV at q;refine(xa4 _ rfl rfl _ rfl (ite2 (λc=>?_) (λc=>?_)))
 ·rw[if_pos (show s=S "+" from V.str.inj (of_decide_eq_true c))]at q
  exact(xbb _ rfl _ rfl _ _ rfl rfl _ (xbt _ rfl rfl pos q))
 rw[if_neg (show ¬s=S "+" from λz=>c (zDT (congrArg V.str z)))]at q;refine(xa4 _ rfl rfl _ rfl (ite2 (λc=>?_) (λc=>?_)))
 ·rw[if_pos (show s=S "-" from V.str.inj (of_decide_eq_true c))]at q
  exact(xbb _ rfl _ rfl _ _ rfl rfl _ (xbt _ rfl rfl pos q))
 rw[if_neg (show ¬s=S "-" from λz=>c (zDT (congrArg V.str z)))]at q;refine(xa4 _ rfl rfl _ rfl (ite2 (λc=>?_) (λc=>?_)))
 ·rw[if_pos (show s=S "*" from V.str.inj (of_decide_eq_true c))]at q
  obtain⟨m,l⟩:=i;exact(jEA _ rfl (xat _ rfl _ _ rfl rfl (jAE (.inl ⟨by omega,by omega⟩) _ (xbt _ rfl rfl pos q))))
 rw[if_neg (show ¬s=S "*" from λz=>c (zDT (congrArg V.str z)))]at q;refine(xa4 _ rfl rfl _ rfl (ite2 (λc=>?_) (λc=>?_)))
 ·rw[if_pos (show s=S "<" from V.str.inj (of_decide_eq_true c))]at q
  refine(xbb _ rfl _ rfl _ _ rfl rfl _ ⟨rfl,ite2 (λe=>?_) (λe=>?_)⟩)
  ·rw[if_pos (of_decide_eq_true e)]at q
   exact q
  ·rw[if_neg (λz=>e (zDT z))]at q
   exact q
 rw[if_neg (show ¬s=S "<" from λz=>c (zDT (congrArg V.str z)))]at q;refine(xcv _ rfl _ rfl rfl _ rfl (ite2 (λe=>?_) (λe=>?_)))
 ·rw[if_pos (V.int.inj (of_decide_eq_true e))]at q
  exact q
 ·rw[if_neg (λz=>e (zDT (congrArg V.int z)))]at q
  exact q
def xhr(m:Nat):Sp:=λvs H Q _=>∃p x v d env,vs=[.ref p,.str x,v]/\EnAt H p m env/\RelD H v d/\m<=1000/\∀p' H',Same H H'->EnAt H' p' (m+1) (env.put x d)->Q (.ref p') H'
def xtc:Sp:=λvs H Q _=>∃p x v,∃kvs:List (Key×V),vs=[.ref p,.str x,v]/\H p=some (.dK kvs)/\kvs.length<=2000/\∀p' H',Same H H'->H p'=none->H' p'=some (.dK (putK kvs (Sum.inr x) v))->Q (.ref p') H'
theorem xqt(T:Tx K b):DefIs P w K b base (n+1) "with_box" qan xtc:=by
 refine DefIs.of T.jF sc_with_box (by walk_at"l") (λf j A outer s H vs Q E g h=>?_);obtain⟨p,x,v,kvs,rfl,i,l,q⟩:=h;have nd:=sc_with_box.nd;have e:=xeh g
 refine⟨_,(zpn (psn 3 nd (xay xgo rfl T.kN PyProof.Rows.boot_dict (v1 0)))
   (zpn (xg5 e (pv 3) (pv 1) (pv 2) rfl)
   (zpo (xaf (pv 3))))),?_⟩
 refine(xat _ rfl p kvs rfl i (λc a=>?_));refine(xap _ rfl _ rfl _ rfl c _ rfl (DPut.k (k:=Sum.inr x) ups (xa5 (by omega))) (jEA _ rfl ?_));exact q c _ (Same.new2 a (.dK kvs) (.dK (putK kvs (Sum.inr x) v))) a ups
theorem xjv(T:Tx K c):DefIs P w K c base (n+1) "with_box" qan (xhr m):=(xqt T).imp λvs H Q E h=>by
 obtain⟨p,x,v,d,env,rfl,⟨kvs,a,g,i⟩,e,l,q⟩:=h;exact(jEEE p x v (xbt kvs rfl a (by omega) (λb j s f h'=>q b j s (EnAt.put a g i s (e.same s _) h'))))
def xmo:Sp:=λvs H Q _=>∃kv vv ks k kn ws f i d,vs=[kv,vv,.str f]/\KsAt H kv ks/\RelD H vv (.tup [.str k,.tup ws])/\kAt ks k=some kn/\(kn.parts.map (·.1)).findIdx? (λz=>decide (z=f))=some i/\ws[i]?=some d/\∀u H',Same H H'->RelD H' u d->Q u H'
theorem xpj(T:Tx K Z)(a:DefIs P w K Z base n "parts_of" qah xfi):DefIs P w K Z base (n+1) "field" qa5 xmo:=by
 refine DefIs.of T.jH sc_field (by walk_at"l") (λf a4 A outer s H vs Q E hr h=>?_);obtain⟨kv,vv,ks,k,G,ws,f',i,d,rfl,hk,O,C,hi,hw,q⟩:=h;have nd:=sc_field.nd
 refine⟨_,(zpn (xc0 (i:=3) ["part"] [none] rfl (by kernel_rfl) nd rfl (by walk_at"o") (xa1 (K:=K) rfl (pd a hr (va 0 (pc (px K (pv 1) pI) pN ss)))) (λ_ _ _ _=>(pgc 0)) (λ_ _ _ _=>xbv) (λ_ _ _ _=>(px K (pv 0) pI)))
   (zpo (xaf (px K (px K (pv 1) pI) (xc9 PySem.F.plainAttrs_list PySem.F.slot_list_index PySem.F.type_list_index xpo (pv 3) (v1 2)))))),?_⟩
 obtain⟨l,us,rfl,ha,_,_,rfl,rfl,vw,_,rfl,J,rfl⟩:=O;obtain⟨c,zs,rfl,hc,y⟩:=J;refine(xam _ rfl _ rfl l _ _ (xbi _ rfl rfl (SqT.of ha) rfl (xb7 _ ks k rfl hk (λu H1 s1 Y=>?_))));rw[C]at Y;obtain⟨e,ps,rfl,he,z⟩:=Y;have hl:=z.length;rw[zLM]at hl;have a2:G.parts.length<=100:=hk.2.2 G (zMF C);refine(jEAA e rfl ⟨_,SqT.of he⟩ ?_);refine xfe (j:=0) (xs:=ps) (λi ys I=>I=H1/\ys=((G.parts.take i).map (·.1)).map V.str) (by rfl) ⟨rfl,rfl⟩ (xa5 (by omega)) (λi ys I _ p=>by obtain⟨rfl,_⟩:=p;exact SqT.of he) ?_ ?_
 ·rintro i x ys I hx r ⟨rfl,rfl⟩
  obtain⟨d',g,o⟩:=z.get hx;rw[zGM]at g;obtain⟨pt,U,rfl⟩:=zMS g;obtain⟨b,a0,rfl,hb,_,_,rfl,rfl,_,_,rfl,rfl,rfl⟩:=o;have hi:i<ps.length:=(zES hx).1;refine(xaa _ rfl b _ _ _ rfl rfl (SqT.of hb) rfl (nxt hi r ⟨rfl,?_⟩));rw[zTA,U];simp
 ·rintro ys I r ⟨rfl,rfl⟩ D hD
  rw[zTL (by omega)];rw[zTL (by omega)]at r;have sD:=Same.new hD (.lst ((G.parts.map (·.1)).map V.str));have m:=s1.trans sD
  have M:∃v,zs[i]?=some v/\RelD H v d:=by
   have a3:i<ws.length:=(zES hw).1;have a1:=y.length;obtain⟨d',g,o⟩:=y.get (i:=i) (v:=zs[i]) (zGA (by omega));rw[hw]at g;cases g;exact(jEA (zs[i]) (zGA (by omega)) o)
  obtain⟨v,O,rv⟩:=M;refine(xaa _ rfl l _ _ _ rfl rfl (SqT.of (m _ _ ha)) rfl ?_);refine(xa4 _ rfl (.inl (jAE rfl _ (SqL.of ups))) _ rfl (xah D _ f' i rfl rfl ups hi ?_));exact(xah c _ _ v rfl rfl (SqT.of (m _ _ hc)) (xa0 O) (q _ _ m (rv.same m _)))
def xfk(R:RW)(m:Nat):Sp:=λvs H Q _=>∃kv tv p ks env a rs k t x y e val,vs=[kv,tv,.ref p]/\KsAt H kv ks/\RelD H tv (xlk a rs)/\EnAt H p m env/\rs.length<=1000/\R ks env a (.tup [.str k,.str t,x])/\rs.find? (λr=>decide (r.1=t))=some (t,y,e)/\R ks (env.put y x) e val ∧
 ∀u H',Same H H'->RelD H' u val->Q u H'
theorem xg8(T:Tx K mg)(R:RW)(hm:m<=1000)(o:DefIs P w K mg base n "worth" qad (xc2 R (m+1)))(C:DefIs P w K mg base n "with_box" qan (xhr m)):DefIs P w K mg base (n+1) "case_worth" qad (xfk R m):=by
 refine DefIs.of T.jK sc_case_worth (by walk_at"l") (λf a6 A outer s H vs Q E hr h=>?_);obtain⟨kv,tv,p,ks,env,a,rs,k,t,x,y,e,val,rfl,hk,hv,he,hl,h1,hf,h2,q⟩:=h;have nd:=sc_case_worth.nd
 refine⟨_,(zpn (psn 3 nd (pd o hr (va 0 (pc (px K (pv 1) pI) (v1 2) ss))))
   (zpn (psn 4 nd (pxl K (xbo ["each","value"] [none,some 3] rfl (by kernel_rfl) (xa1 (K:=K) rfl (px K (pv 1) pI)) (λ_ _ _ _=>(pgc 0)) (λ_ _ _ _=>(xd9 (pR xbd (px K (pv 0) pI) (px K (pv 1) pI) (nM _)))) (λ_ _ _ _=>(pv 0))) pI))
   (zpo (xaf (pd o hr (va 0 (pc (px K (pv 4) pI) (pc (pd C hr (va 2 (pc (px K (pv 4) pI) (pc (px K (pv 3) pI) pN ss) ss))) pN zsc) ss))))))),?_⟩
 obtain⟨b,us,rfl,hb,_,_,rfl,rfl,va,_,rfl,ra,vr,_,rfl,rr,rfl⟩:=hv;obtain⟨c,ws,rfl,hc,a0⟩:=rr;refine(xam _ rfl _ rfl b _ _ (xbi _ rfl rfl (SqT.of hb) rfl (jEA _ rfl ?_)));refine(xan _ _ _ ks _ (xa6 env _ rfl hk ra (he.mono (by omega)) h1 (λu H1 s1 r1=>?_)));obtain⟨g,zs,rfl,hg,_,_,rfl,rfl,_,_,rfl,rfl,vx,_,rfl,rx,rfl⟩:=r1;refine(xaa _ rfl b _ _ _ rfl rfl (SqT.of (s1 _ _ hb)) rfl (jEAA c rfl ⟨_,SqT.of (s1 _ _ hc)⟩ ?_));have a4:=a0.length;rw[zLM]at a4;refine xbs (xs:=ws) (λi ys H'=>H'=H1/\∃ds:List (Str×Str×D),ds=(rs.take i).filter (λr=>decide (r.1=t))/\RelDs H1 ys (ds.map dArm)) (jAEA rfl ([]) rfl rfl) (xa5 (by omega)) (λi ys H' _ p=>by obtain⟨rfl,_⟩:=p;exact SqT.of (s1 _ _ hc)) ?_ ?_
 ·rintro i z ys H' hz hi O ⟨rfl,ds,rfl,G⟩
  obtain⟨d,hd,rd⟩:=(a0.same s1 _).get hz;rw[zGM]at hd;obtain⟨r,a1,rfl⟩:=zMS hd;have a3:=rd;obtain⟨l,zs,rfl,U,_,_,rfl,rfl,_,_,rfl,rfl,_,_,rfl,re,rfl⟩:=rd;refine⟨xf0 rfl,?_⟩;refine(xaa _ rfl l _ _ _ rfl rfl (SqT.of U) rfl (xaa _ rfl g _ _ _ rfl rfl (SqT.of hg) rfl (jAEA rfl _ rfl (ite2 (λcc=>?_) (λcc=>?_)))))
  ·have ee:r.1=t:=V.str.inj (of_decide_eq_true cc)
   refine(jEA _ rfl (nxtG hi O (jAEA rfl _ rfl ?_)));rw[zTA,a1,List.filter_append,zAP];refine G.append ?_;simp only[Option.toList,List.filter_cons,zDT ee,if_true,List.filter_nil,List.map_cons,List.map_nil];exact(xaw _ ([]) rfl a3 rfl)
  ·have ee:¬r.1=t:=λz=>cc (zDT (congrArg V.str z))
   refine nxtN hi O (jAEA rfl _ rfl ?_);rw[zTA,a1,List.filter_append,zAP];simp only[Option.toList,List.filter_cons,zDF ee,Bool.false_eq_true,if_false,List.filter_nil,List.map_nil,List.append_nil];exact G
 ·rintro ys H' O ⟨rfl,ds,rfl,G⟩ D hD
  rw[zTL (by omega)]at G;have hh:(rs.filter (λr=>decide (r.1=t))).head?=some (t,y,e):=by rw[List.head?_filter,hf]
  obtain⟨rest,M⟩:∃rest,rs.filter (λr=>decide (r.1=t))=(t,y,e)::rest:=by
   cases hq:rs.filter (λr=>decide (r.1=t)) with
   |nil=>rw[hq]at hh;cases hh
   |cons z zs=>rw[hq]at hh;exact⟨zs,by rw[Option.some.inj hh]⟩
  rw[M]at G;obtain⟨Y,I,rfl,r0,_⟩:=G;have Z:=Same.new hD (.lst (Y::I));refine(xah D _ 0 Y rfl rfl (SqL.of ups) (xa0 (j:=0) rfl) ?_);obtain⟨l,zs,rfl,U,_,_,rfl,rfl,_,_,rfl,rfl,ve,_,rfl,re,rfl⟩:=r0;have J:=s1.trans Z;have a2:SqT K (upd H' D (.lst (.ref l::I))) l [.str t,.str y,ve]:=SqT.of (Z _ _ U);refine(xam _ rfl _ rfl l _ _ (xbi _ rfl rfl a2 rfl (xam _ rfl _ rfl l _ _ (xbi _ rfl rfl a2 rfl (xaa _ rfl g _ _ _ rfl rfl (SqT.of (Z _ _ hg)) rfl ?_)))));refine(xan p y vx x env (jAAA rfl (he.same J) (rx.same Z _) ⟨hm,λp' H2 s2 a5=>?_⟩));exact(xan _ _ _ ks _ (xa6 _ _ rfl (hk.same (J.trans s2)) (re.same (Z.trans s2) _) a5 h2 (λu H3 s3 r3=>q u H3 (J.trans (s2.trans s3)) r3)))
theorem xph (T:Tx K mg) (R:RW) (g:DefIs P w K mg base n "worth" qad (xc2 R m)) (G:DefIs P w K mg base n "op_worth" qas xhu)
  (Y:DefIs P w K mg base n "field" qa5 xmo) (r:DefIs P w K mg base n "case_worth" qad (xfk R m)) :
  DefIs P w K mg base (n+1) "worth" qad (xc2 (λks env d v=>xd6 env d v\/NodeEv ks (R ks) env d v) m):=by
 refine DefIs.of T.jI sc_worth (by walk_at"l") (λf aa A outer s H vs Q E U h=>?_);obtain⟨kv,tv,p,ks,d,env,val,rfl,hk,O,he,hR,q⟩:=h;have nd:=sc_worth.nd;have hu:=xeh U
 refine⟨_,(zpn (psn 3 nd (px K (pv 1) pI))
   (zpn (xa8 (pR xbd (pv 3) pS (nM _)) (zpo (xaf (px K (pv 1) pI))) pQ)
   (zpn (xa8 (pR xbd (pv 3) pS (nM _)) (zpo (xaf (xci hu (pv 2) (px K (pv 1) pI) (λ_ _=>rfl)))) pQ)
   (zpn (xa8 (pR xbd (pv 3) pS (nM _)) (zpo (xaf (pd G U (pc (px K (pv 1) pI) (pc (pd g U (va 0 (pc (px K (pv 1) pI) (v1 2) ss))) (pc (pd g U (va 0 (pc (px K (pv 1) pI) (v1 2) ss))) pN zsc) zsc) ss)))) pQ)
   (zpn (xa8 (pR xbd (pv 3) pS (nM _)) (zpo (xaf (xak (pc (px K (pv 1) pI) (pc (xay (xbq (K:=K) rfl) rfl T.kX PyProof.Rows.boot_tuple (pc (xbo ["inner","kinds","boxes"] [none,some 0,some 2] rfl (by kernel_rfl) (xa1 (K:=K) rfl (px K (pv 1) pI)) (λ_ _ _ _=>(pgc 0)) (λ_ _ _ _=>xbv) (λ_ _ _ _=>(pd g U (va 1 (va 0 (v1 2)))))) pN xcc)) pN zsc) ss)))) pQ)
   (zpn (xa8 (pR xbd (pv 3) pS (nM _)) (zpo (xaf (pd Y U (va 0 (pc (pd g U (va 0 (pc (px K (pv 1) pI) (v1 2) ss))) (pc (px K (pv 1) pI) pN ss) zsc))))) pQ)
   (zpn (xa8 (pR xbd (pv 3) pS (nM _)) (zpo (xaf (xak (pc (px K (pv 1) pI) (pc (px K (pv 1) pI) (pc (pd g U (va 0 (pc (px K (pv 1) pI) (v1 2) ss))) pN zsc) ss) ss)))) pQ)
   (zpn (xa8 (pR xbd (pv 3) pS (nM _)) (zpo (xaf (pd r U (va 0 (va 1 (v1 2)))))) pQ)
   (zpn (psn 4 nd (xe8 (pR xbd (pd g U (va 0 (pc (px K (pv 1) pI) (v1 2) ss))) pI (nM _)) (px K (pv 1) pI) (px K (pv 1) pI)))
   (zpo (xaf (pd g U (va 0 (va 4 (v1 2))))))))))))))),?_⟩
 rcases hR with(⟨i,rfl,rfl⟩ |⟨x,hx,rfl⟩) |⟨sg,a,b,x,y,M,h2,nx,ny,rfl,rfl⟩ |⟨k,es,ws,hl,M,rfl,rfl⟩ |⟨a,k,ws,f',kn,i,M,a8,hi,hw,rfl⟩ |⟨k,t,a,x,M,rfl,rfl⟩ |⟨a,rs,k,t,x,y,e,hl,M,hf,h2,rfl⟩ |⟨a,b,c,x,M,h2,rfl⟩
 ·obtain⟨a,us,rfl,C,_,_,rfl,rfl,_,_,rfl,rfl,rfl⟩:=O
  have hS:SqT K H a [.str (S "num"),.int i]:=SqT.of C;walk_at"rd";exact q _ _ (Same.refl _) rfl
 ·obtain⟨a,us,rfl,C,_,_,rfl,rfl,_,_,rfl,rfl,rfl⟩:=O
  have hS:SqT K H a [.str (S "box"),.str x]:=SqT.of C;obtain⟨kvs,hp,hl,hh⟩:=he;obtain⟨v,O,rv⟩:=(hh x).2 _ hx;walk_at"rd";exact(xaw p v rfl (O ▸ DGet.k (k:=Sum.inr x) hp) (q _ _ (Same.refl _) rv))
 ·obtain⟨l,us,rfl,C,_,_,rfl,rfl,_,_,rfl,rfl,va,_,rfl,Z,vb,_,rfl,rb,rfl⟩:=O
  have hS:SqT K H l [.str (S "op"),.str sg,va,vb]:=SqT.of C;walk_at"rd";refine(xan _ _ _ ks _ (xa6 env _ rfl hk Z he M (λu H1 o r1=>?_)));obtain rfl:u=.int x:=r1;have J:SqT K H1 l [.str (S "op"),.str sg,va,vb]:=SqT.of (o _ _ C);refine(xam _ rfl _ rfl l _ _ (xbi _ rfl rfl J rfl (jEA _ rfl ?_)));refine(xan _ _ _ ks _ (xa6 env _ rfl (hk.same o) (rb.same o _) (he.same o) h2 (λu H2 I r2=>?_)));obtain rfl:u=.int y:=r2;exact(xcd sg x y rfl nx ny (q _ _ (o.trans I) rfl))
 ·obtain⟨l,us,rfl,C,_,_,rfl,rfl,_,_,rfl,rfl,va,_,rfl,Z,rfl⟩:=O
  obtain⟨c,a2,rfl,hc,a3⟩:=Z;have hS:SqT K H l [.str (S "rec"),.str k,.ref c]:=SqT.of C;walk_at"rd";refine⟨⟨_,SqT.of hc⟩,?_⟩;have l1:=a3.length;have l2:=M.length;refine xfe (j:=0) (xs:=a2) (λi ys H'=>Same H H'/\RelDs H' ys (ws.take i)) (by rfl) ⟨Same.refl _,rfl⟩ (xa5 (by omega)) (λi ys H' _ p=>SqT.of (p.1 _ _ hc)) ?_ ?_
  ·rintro i x ys H' hx a4 ⟨sm,a0⟩
   obtain⟨d',a9,a6⟩:=a3.get hx;obtain⟨v',a1,a5⟩:=M.get a9;have hi:i<a2.length:=(zES hx).1;refine(xbp _ rfl _ rfl _ rfl _ _ (xag _ ks _ env _ rfl (hk.same sm) (a6.same sm _) (he.same sm) a5 (λu H2 I r2=>nxt hi a4 ⟨sm.trans I,?_⟩)));rw[zTA,a1];exact(a0.same I _).append (xaw u ([]) rfl r2 rfl)
  ·rintro ys H' a4 ⟨sm,a0⟩ D hD
   rw[zTL (by omega)]at a0;refine(jEEA D ys rfl (.inl ⟨SqL.of ups,λl' a7=>?_⟩));have o:=Same.new hD (.lst ys);have I:=Same.new a7 (.tup ys);refine⟨(by walk_at"s"),λt ht=>?_⟩;have s3:=Same.new ht (.tup [.str k,.ref l']);exact q _ _ (sm.trans (o.trans (I.trans s3))) (xao t _ rfl ups _ _ rfl rfl _ (jEAA _ rfl (xaw l' ys rfl (s3 _ _ ups) (a0.same (o.trans (I.trans s3)) _)) rfl))
 ·obtain⟨l,us,rfl,C,_,_,rfl,rfl,va,_,rfl,Z,_,_,rfl,rfl,rfl⟩:=O
  have hS:SqT K H l [.str (S "get"),va,.str f']:=SqT.of C;walk_at"rd";refine(xan _ _ _ ks _ (xa6 env _ rfl hk Z he M (λu H1 o r1=>?_)));have J:SqT K H1 l [.str (S "get"),va,.str f']:=SqT.of (o _ _ C);refine(xaa _ rfl l _ _ _ rfl rfl J rfl ?_);exact(xan _ _ ks k kn (xas ws f' i val rfl (hk.same o) r1 a8 hi ⟨hw,λu H2 I r2=>q _ _ (o.trans I) r2⟩))
 ·obtain⟨l,us,rfl,C,_,_,rfl,rfl,_,_,rfl,rfl,_,_,rfl,rfl,va,_,rfl,Z,rfl⟩:=O
  have hS:SqT K H l [.str (S "tag"),.str k,.str t,va]:=SqT.of C;walk_at"rd";refine(xan _ _ _ ks _ (xa6 env _ rfl hk Z he M (λu H1 o r1=>?_)));refine⟨(by walk_at"s"),λc hc=>?_⟩;have I:=Same.new hc (.tup [.str k,.str t,u]);exact q _ _ (o.trans I) (xao c _ rfl ups _ _ rfl rfl _ (xbj _ rfl rfl _ _ rfl (r1.same I _) rfl))
 ·have a1:=O
  obtain⟨l,us,rfl,C,_,_,rfl,rfl,va,_,rfl,Z,vr,_,rfl,rr,rfl⟩:=O;have hS:SqT K H l [.str (S "case"),va,vr]:=SqT.of C;walk_at"rd";exact(xan _ _ p ks env (xan a rs k t x (xal y e val rfl hk a1 he (jAAA hl M hf ⟨h2,q⟩))))
 ·obtain⟨l,us,rfl,C,_,_,rfl,rfl,va,_,rfl,Z,vb,_,rfl,rb,vc,_,rfl,rc,rfl⟩:=O
  have hS:SqT K H l [.str (S "if"),va,vb,vc]:=SqT.of C;walk_at"rd";refine(xan _ _ _ ks _ (xa6 env _ rfl hk Z he M (λu H1 o r1=>?_)));obtain rfl:u=.int x:=r1;have J:SqT K H1 l [.str (S "if"),va,vb,vc]:=SqT.of (o _ _ C);refine(jAEA rfl _ rfl (ite2 (λc'=>?_) (λc'=>?_)))
  ·have e:x=0:=V.int.inj (of_decide_eq_true c')
   rw[if_pos e]at h2;refine(xaa _ rfl l _ _ _ rfl rfl J rfl (jEA _ rfl (jEA _ rfl (jEA _ rfl ?_))));exact(xan _ _ _ ks _ (xa6 env _ rfl (hk.same o) (rc.same o _) (he.same o) h2 (λu H2 I r2=>q _ _ (o.trans I) r2)))
  ·have e:¬x=0:=λz=>c' (zDT (congrArg V.int z))
   rw[if_neg e]at h2;refine(xaa _ rfl l _ _ _ rfl rfl J rfl (jEA _ rfl (jEA _ rfl (jEA _ rfl ?_))));exact(xan _ _ _ ks _ (xa6 env _ rfl (hk.same o) (rb.same o _) (he.same o) h2 (λu H2 I r2=>q _ _ (o.trans I) r2)))
theorem xgb(T:Tx K a)(R:RW)(e:m<=1000)(D:DefIs P w K a base (n+1) "worth" qad (xc2 R (m+1))):DefIs P w K a base (n+3) "worth" qad (xc2 (λks env d v=>xd6 env d v\/NodeEv ks (R ks) env d v) m):=by
 have o:DefIs P w K a base (n+1) "worth" qad (xc2 R m):=D.imp (by
  rintro vs H Q E ⟨c,b,p,ks,d,env,val,l,j,i,h,g,f⟩;exact(xan c b p ks d (xa6 env val l j i (h.mono (by omega)) g f)))
 exact xph T R (o.mono (by omega)) (xjx T) (xpj T (xea T)) (xg8 T R e D (xjv T))
theorem xki(T:Tx K b):∀n m,n+m<=1000->DefIs P w K b base (2*n+3) "worth" qad (xc2 (λks=>Ev ks n) m)
 | 0,m,h=>by
  refine(xgb (P:=P) (w:=w) (base:=base) (n:=0) (m:=m) T (λ_ _ _ _=>False) (by omega) (DefIs.none T.jI ?_)).imp ?_
  ·rintro vs H Q E ⟨_,_,_,_,_,_,_,_,_,_,_,h,_⟩
   exact h
  ·rintro vs H Q E ⟨c,a,p,ks,d,env,k,l,j,i,g,f,e⟩
   exact(xan c a p ks d (xa6 env k l j i g (.inl f) e))
 |n+1,m,h=>xgb (n:=2*n+2) (m:=m) T (λks=>Ev ks n) (by omega) (xki T n (m+1) (by omega))
def xhw(K:Fg):Sp:=λvs H Q _=>∃(a:Addr) (ns:List Int) (k:Int),vs=[.ref a,.int k]/\SqL K H a (ns.map V.int)/\ns.length<=63/\0<=k/\∀(r:Addr) (p q:Int),H r=none->Q (.ref r) (upd H r (.lst [.int p,.int q]))
def xcl:Sp:=λvs H Q _=>∃(a:Addr) (p q m:Int),vs=[.ref a,.int m]/\H a=some (.lst [.int p,.int q])/\0<m/\m<2 ^ 64/\∀(r:Int) (H':Hp),0<=r->r<m->Fed a H H'->Q (.int r) H'
theorem xke{ns:List Int}{k:Int}(h0:0<=k)(h:k<(ns.length:Int)):∃v:Int,atI (ns.map V.int) k=some (.int v):=by
 have a:k.toNat<ns.length:=by omega
 have b:k=((k.toNat:Nat):Int):=by omega
 refine⟨ns[k.toNat],?_⟩;have q:atI (ns.map V.int) ((k.toNat:Nat):Int)=some (.int ns[k.toNat]):=xa0 (by rw[zGM,zGA a] <;> rfl);rw[<- b]at q;exact q
theorem xc4:2<=sizeLine:=by decide
theorem xe9(T:Tx K z):DefIs P w K z base (n+1) "_law_feed" qal (xhw K):=by
 refine DefIs.of T.jT scl_feed (λvs H Q E h=>?_) (λf I A outer s H vs Q E J h=>?_)
 ·obtain⟨a,ns,k,rfl,_⟩:=h
  rfl
 obtain⟨a,ns,k,rfl,O,G,C,q⟩:=h;have nd:=scl_feed.nd;have g:(ns.map V.int).length=ns.length:=zLM _
 refine⟨_,(zpn (psn 2 nd pI)
   (zpn (xa8 (pR xez (pv 1) (xaq (xad (K:=K) rfl) rfl T.kQ PySem.boot_len (v1 0)) (nM _)) (zpo (psn 2 nd (pxl K (pv 0) (pv 1)))) pQ)
   (zpn (xa8 (PW.pt (xcj (pR xc7 (xaq (xad (K:=K) rfl) rfl T.kQ PySem.boot_len (v1 0)) pI (nM _)) (xb8 (pR xbd (xaj xcb (pxl K (pv 0) pI) pI) pI (nM _))))) (zpo (xaf (xca (va 2 (pc (xaj xba (xaj xcb (xaj xba (xaj xcr (xaj xcb (pv 2) pI) pI) (xaj xcr pI (pv 1))) pI) pI) pN xaz))))) pQ)
   (zpn (xa8 (PW.pt (xcj (pR xtt (pv 1) (xaq (xad (K:=K) rfl) rfl T.kQ PySem.boot_len (v1 0)) (nM _)) (xb8 (pR xc7 (xaq (xad (K:=K) rfl) rfl T.kQ PySem.boot_len (v1 0)) pI (nM _))))) (zpo (psn 2 nd (xaj xba (pxl K (pv 0) (xaj xcb (pv 1) (xaq (xad (K:=K) rfl) rfl T.kQ PySem.boot_len (v1 0)))) (xaj xcr pI (pv 1))))) pQ)
   (zpo (xaf (xca (pc pI (pc (xaj xba (xaj xcb (xaj xba (xaj xcr (xaj xcb (pv 2) pI) pI) (xaj xcr pI (pv 1))) pI) pI) pN xaz) so)))))))),?_⟩
 have h0:0<ns.length->∃v:Int,atI (ns.map V.int) 0=some (.int v):=λh=>xke (Int.le_refl 0) (by omega);walk_at"rd";refine ite2 (λc=>?_) (λc=>?_)
 ·have o:=of_decide_eq_true c
  rw[g]at o;obtain⟨v,x⟩:=xke (ns:=ns) C o;obtain⟨y,p⟩:=h0 (by omega);walk_at"rd";refine ite2 (λj=>?_) (λj=>?_)
  ·walk_at"rd"
   refine ite2 (λu=>?_) (λu=>?_)
   ·walk_at"rd"
    exact⟨xc4,λl b=>q l _ _ b⟩
   ·walk_at"rd"
    refine ite2 (λi=>?_) (λi=>?_)
    ·have r:=of_decide_eq_true i
     rw[g]at r;omega
    ·refine iteF ?_
     walk_at"rd";exact⟨xc4,λl b=>q l _ _ b⟩
  ·have e:=of_decide_eq_false (Bool.eq_false_iff.mpr j)
   rw[g]at e;omega
 ·have o:=of_decide_eq_false (Bool.eq_false_iff.mpr c)
  rw[g]at o;walk_at"rd";refine ite2 (λj=>?_) (λj=>?_)
  ·have e:=of_decide_eq_true j
   rw[g]at e;obtain⟨y,p⟩:=h0 (by omega);walk_at"rd";refine ite2 (λu=>?_) (λu=>?_)
   ·walk_at"rd"
    exact⟨xc4,λl b=>q l _ _ b⟩
   ·walk_at"rd"
    refine ite2 (λi=>?_) (λi=>?_)
    ·walk_at"rd"
     refine ite2 (λm=>?_) (λm=>?_)
     ·obtain⟨v,x⟩:=xke (ns:=ns) (k:=k%(ns.length:Int)) (Int.emod_nonneg _ (by omega)) (Int.emod_lt_of_pos _ (by omega))
      rw[<- g]at x;have M:(0:Int)<((ns.map V.int).length:Nat):=by rw[g];omega
      walk_at"rd";exact⟨xc4,λl b=>q l _ _ b⟩
     ·walk_at"rd"
      exact⟨xc4,λl b=>q l _ _ b⟩
    ·refine iteF ?_
     walk_at"rd";exact⟨xc4,λl b=>q l _ _ b⟩
  ·refine iteF ?_
   walk_at"rd";refine ite2 (λi=>?_) (λi=>?_)
   ·walk_at"rd"
    refine ite2 (λm=>?_) (λm=>?_)
    ·have e:=of_decide_eq_false (Bool.eq_false_iff.mpr j)
     exact absurd (of_decide_eq_true m) e
    ·walk_at"rd"
     exact⟨xc4,λl b=>q l _ _ b⟩
   ·refine iteF ?_
    walk_at"rd";exact⟨xc4,λl b=>q l _ _ b⟩
theorem xg6(T:Tx K e):DefIs P w K e base (n+1) "_law_take" qac xcl:=by
 refine DefIs.of T.jU scl_take (λvs H Q E h=>?_) (λf i A outer s H vs Q E l h=>?_)
 ·obtain⟨a,p,q,m,rfl,_⟩:=h
  rfl
 obtain⟨a,p,q,m,rfl,g,b,j,k⟩:=h;have nd:=scl_take.nd;have o:SqL K H a [.int p,.int q]:=SqL.of g
 refine⟨_,(zpn (xa8 (pR xc7 (pxl K (pv 0) pI) pI (nM _)) (zpn (psn 2 nd (xaj xcb (pxl K (pv 0) pI) (pv 1)))
   (zpn (xc6 (xaj xb3 (pxl K (pv 0) pI) (pv 1)) (xqm (pv 0) pI xks))
   (zpo (xaf (pv 2))))) pQ)
   (zpn (psn 3 nd (xaj xcb (xaj xcr (pxl K (pv 0) pI) pI) pI))
   (zpn (xc6 (xaj xba (xaj xcb (xaj xba (xaj xcr (pv 3) pI) pI) pI) pI) (xqm (pv 0) pI xks))
   (zpo (xaf (xaj xcb (xaj xb3 (xaj xba (xaj xcr (pv 3) pI) (pxl K (pv 0) pI)) pI) (pv 1))))))),?_⟩
 walk_at"rd";refine ite2 (λc=>?_) (λc=>?_)
 ·walk_at"rd"
  refine k _ _ (Int.emod_nonneg _ (by omega)) (Int.emod_lt_of_pos _ b) Fed.of
 ·walk_at"rd"
  refine(xah _ _ _ _ rfl rfl (SqL.of ups) rfl ?_);walk_at"rd";refine k _ _ (Int.emod_nonneg _ (by omega)) (Int.emod_lt_of_pos _ b) Fed.of
def xmi:Sp:=λvs H Q _=>∃c:Int,vs=[.int c,.int 26]/\∀(b:Addr) (H':Hp) (nms:List Str),Same H H'->H b=none->H' b=some (.lst (nms.map V.str))->xhk nms->(∀z∈nms,NoBy z/\NoMo z)->Q (.ref b) H'
theorem xnc(T:Tx K mg):DefIs P w K mg base (n+1) "_law_names" qa7 xmi:=by
 refine DefIs.of T.jV scl_names (by walk_at"l") (λf a4 A outer s H vs Q E hr h=>?_);obtain⟨c,rfl,k⟩:=h;have nd:=scl_names.nd
 refine⟨_,(zpn (psn 2 nd pS)
   (zpn (psn 3 nd (xaj xcb (pv 0) pI))
   (zpn (psn 4 nd (xaj xcb (xaj xb3 (pv 0) pI) (xaj xba (pv 3) pI)))
   (zpn (psn 5 nd (xc9 PySem.F.plainAttrs_str PySem.F.slot_str_join PySem.F.type_str_join xsb pS (pc (xbo ["_law_j","_law_cell"] [none,some 0] rfl (by kernel_rfl) (xbz rfl T.kU (v1 3)) (λ_ _ _ _=>(pgc 0)) (λ_ _ _ _=>xbv) (λ_ _ _ _=>(xls xk4 pS (xaj xcb (xaj xba (xaj xb3 (pv 1) pI) (pv 0)) pI) (λ_ _=>rfl)))) pN xcc)))
   (zpn (psn 6 nd (xbo ["_law_k","_law_common","_law_letters","_law_at","_law_cell"] [none,some 5,some 2,some 4,some 0] rfl (by kernel_rfl) (xbz rfl T.kU (v1 1)) (λ_ _ _ _=>(pgc 0)) (λ_ _ _ _=>xbv) (λ_ _ _ _=>(xaj xdt (xaj xdt (xcn xqj (pv 1) xdm (xcm (pv 3))) (xls xk4 (pv 2) (xaj xcb (xaj xba (xaj xb3 (pv 4) pI) (xaj xcr pI (pv 0))) pI) (λ_ _=>rfl))) (xcn xqj (pv 1) (xcm (pv 3)) xdm)))))
   (zpn (xa8 (pR xbd (xaj xcb (xaj xb3 (pv 0) pI) pI) pI (nM _)) (zpo (xaf (pv 6))) pQ)
   (zpo (xaf (xbo ["_law_k","_law_found"] [none,some 6] rfl (by kernel_rfl) (xbz rfl T.kU (v1 1)) (λ_ _ _ _=>(pgc 0)) (λ_ _ _ _=>xbv) (λ_ _ _ _=>(xaj xdt (pxl K (pv 1) (xaj xck (pv 0) (xaj xcb (pv 0) pI))) (xaj xr1 pS (xaj xcb (pv 0) pI))))))))))))),?_⟩
 have m0:0<=c%5:=Int.emod_nonneg _ (by decide);have m5:c%5<5:=Int.emod_lt_of_pos _ (by decide);refine(xat _ rfl _ _ rfl rfl ⟨(by show(0:Int)<5;decide),?_⟩);have hp:0<(c%5)+1:=by omega
 refine(xat _ rfl _ _ rfl rfl (jAEA ⟨by decide,by decide⟩ _ rfl (xaw _ _ rfl rfl (xb0 _ _ rfl rfl hp ?_))));have a0:0<=c / 5%((c%5)+1):=Int.emod_nonneg _ (by omega);have a1:c / 5%((c%5)+1)<(c%5)+1:=Int.emod_lt_of_pos _ hp;refine(jAEA rfl _ rfl (xbt _ rfl (by omega) (by omega) ?_));refine xdb (j:=0) (λi ys I=>I=H/\∃cs:List Nat,ys=(cs.map xc5).map V.str/\∀c∈cs,c∈five) (by rfl) (jAEA rfl ([]) rfl (λ_ h=>nomatch h)) (xa5 (by omega)) ?_ ?_
 ·rintro i ys I hi Y ⟨rfl,cs,rfl,a⟩
  refine(xat _ rfl _ _ rfl rfl (jAEA ⟨by decide,by decide⟩ _ rfl (xaw _ _ rfl rfl (xb0 _ _ rfl rfl (by show(0:Int)<5;decide) ?_))));obtain⟨ch,Z,a2⟩:=xsp (Int.emod_nonneg (c / 25+(0+(i:Int))) (by decide:(5:Int)≠0)) (Int.emod_lt_of_pos _ (by decide));refine(xal _ _ ch rfl rfl (by walk_at"k") a2 ?_)
  exact nxt hi Y ⟨rfl,cs++[ch],by simp[xc5],λx o=>by
   rcases zMA o with o |o
   ·exact a x o
   ·rw[zMO o];exact Z⟩
 ·rintro ys I Y ⟨rfl,cs,rfl,a⟩ D hD
  rw[zLM,zLM]at Y;refine(xal (S "") D (cs.map xc5) rfl rfl (SqL.of ups) ?_ ?_)
  ·rw[xjf,show(S "").length=0 by walk_at"k"]
   omega
  rw[xis];have m:=Same.new hD (.lst ((cs.map xc5).map V.str));generalize upd I D (.lst ((cs.map xc5).map V.str))=H1 at m⊢;have b:(ofL cs).length=cs.length:=by rw[<- xem,xdr]
  have c4:cs.length<=4:=by omega
  refine(xa3 _ rfl _ rfl (by decide) ⟨by decide,?_⟩);refine xdb (j:=0) (λi ys G=>G=H1/\ys=((List.range i).map λk=>ofL (nmA cs (c / 5%(c%5+1)).toNat (c / 125) k)).map V.str) (by rfl) ⟨rfl,rfl⟩ (xa5 (by decide)) ?_ ?_
  ·rintro i ys G hi r ⟨rfl,rfl⟩
   have e0:(0+(i:Int))=(i:Int):=by omega
   have U:0<=(c / 125+5*(0+(i:Int)))%26:=Int.emod_nonneg _ (by decide);have O:(c / 125+5*(0+(i:Int)))%26<26:=Int.emod_lt_of_pos _ (by decide);refine(jEA _ rfl (jEA _ rfl (xa3 _ rfl _ rfl (fits (by rw[b];omega)) ?_)));refine(jEA _ rfl (xat _ rfl _ _ rfl rfl (jAEA ⟨by decide,by decide⟩ _ rfl (xb0 _ _ rfl rfl (.inl ⟨by decide,by decide⟩) (xaw _ _ rfl rfl (xb0 _ _ rfl rfl (by show(0:Int)<26;decide) ?_))))));refine(xal _ _ _ rfl rfl (by walk_at"k") (xnv U O) ?_);rw[xo2 (ofL cs) a0 (by rw[b];omega)];refine(xb0 _ _ rfl rfl ?_ ?_)
   ·refine fits ?_
    rw[show(ofL ((L (ofL cs)).take (c / 5%(c%5+1)).toNat)).length=(cs.take (c / 5%(c%5+1)).toNat).length by rw[<- xem,xdr,xdr],List.length_take];show _+1<=_;omega
   refine(jEA _ rfl (jEA _ rfl (xa3 _ rfl _ rfl (fits (by rw[b];omega)) ?_)));rw[xlm (ofL cs) a0 (by rw[b];omega),xdr];refine(xb0 _ _ rfl rfl ?_ ?_)
   ·refine fits ?_
    rw[Str.length_append,show(ofL (cs.take (c / 5%(c%5+1)).toNat)).length=(cs.take (c / 5%(c%5+1)).toNat).length by rw[<- xem,xdr],show(ofL (cs.drop (c / 5%(c%5+1)).toNat)).length=(cs.drop (c / 5%(c%5+1)).toNat).length by rw[<- xem,xdr],List.length_take,List.length_drop];show _+1+_<=_;omega
   rw[xnn];refine nxt hi r ⟨rfl,?_⟩;rw[List.range_succ,zAP,zAP,e0];rfl
  ·rintro ys G r ⟨rfl,rfl⟩ J y
   have g:=Same.new y (.lst (((List.range 26).map λk=>ofL (nmA cs (c / 5%(c%5+1)).toNat (c / 125) k)).map V.str));refine(xat _ rfl _ _ rfl rfl (jAE ⟨by decide,by decide⟩ _ (xbi _ rfl rfl (by show(0:Int)<3;decide) rfl (jEA _ rfl (ite2 (λcc=>?_) (λcc=>?_))))))
   ·exact(jEA _ rfl (k J _ _ (m.trans g) (xav m y) ups (nmsA c4 a) (λz hz=>⟨xr9 a z hz,xr8 a z hz⟩)))
   ·refine(xa3 _ rfl _ rfl (by decide) ⟨by decide,?_⟩)
    obtain⟨C,l⟩:∃C,C=upd G J (.lst (((List.range 26).map λk=>ofL (nmA cs (c / 5%(c%5+1)).toNat (c / 125) k)).map V.str)):=⟨_,rfl⟩;have hb:C J=some (.lst (((List.range 26).map λk=>ofL (nmA cs (c / 5%(c%5+1)).toNat (c / 125) k)).map V.str)):=by rw[l];exact ups
    rw[<- l]at g;refine xdb (j:=0) (λi ys H4=>H4=C/\ys=((List.range i).map λk=>ofL (nmB cs (c / 5%(c%5+1)).toNat (c / 125) k)).map V.str) (by rfl) ⟨l.symm,rfl⟩ (xa5 (by decide)) ?_ ?_
    ·rintro i ys H4 hi p ⟨rfl,rfl⟩
     have a3:i<26:=hi;have er:(0+(i:Int))%2=((i%2:Nat):Int):=by omega
     have es:(0+(i:Int))-(0+(i:Int))%2=((i-i%2:Nat):Int):=by omega
     refine(xap _ rfl _ rfl _ rfl _ _ rfl rfl (jAE (by show(0:Int)<2;decide) _ (jEAA _ rfl rfl (xah J _ _ (.str (ofL (nmA cs (c / 5%(c%5+1)).toNat (c / 125) (i-i%2)))) rfl rfl (SqL.of hb) ?_ ?_))))
     ·rw[es]
      refine xa0 ?_;rw[zGM,zGM,List.getElem?_range (by omega)];rfl
     refine(xat _ rfl _ _ rfl rfl (jAE (by show(0:Int)<2;decide) _ (xbt _ rfl rfl (by omega) ?_)));refine(xb0 _ _ rfl rfl ?_ ?_)
     ·refine fits ?_
      rw[show(ofL (nmA cs (c / 5%(c%5+1)).toNat (c / 125) (i-i%2))).length=cs.length+1 by rw[<- xem,xdr,xft]];have:(if (0+(i:Int))%2=1 then S "q" else Str.empty).length<=1:=by split <;> decide +kernel
      show _+(if (0+(i:Int))%2=1 then S "q" else Str.empty).length<=_;omega
     refine nxt hi p ⟨rfl,?_⟩;rw[List.range_succ,zAP,zAP];congr 1;show[V.str _]=[V.str _];congr 2;apply xou;rw[xd0,xdr,xdr];unfold nmB;congr 1;rw[er];rcases Nat.mod_two_eq_zero_or_one i with e |e
     ·rw[e];decide +kernel
     ·rw[e];decide +kernel
    ·rintro ys H4 p ⟨rfl,rfl⟩ D4 u
     have M:=Same.new u (.lst (((List.range 26).map λk=>ofL (nmB cs (c / 5%(c%5+1)).toNat (c / 125) k)).map V.str));exact k D4 _ _ (m.trans (g.trans M)) (xav (m.trans g) u) ups (nmsB c4 a) (λz hz=>⟨xr7 a z hz,xr6 a z hz⟩)
def xfj:Sp:=λvs H Q _=>∃v ks x,vs=[v,.str x]/\KsSeq H v ks/\∀t pv H',Same H H'->H' t=some (.tup [.str (xf4 (kAt ks x)),pv])->RelD H' pv (xkw (kAt ks x))->Q (.ref t) H'
def xgd(m:Nat):Sp:=λvs H Q _=>∃v ks x,vs=[v,.str x]/\KsSeq H v ks/\KWf ks/\KIn ks m x/\∀H',Same H H'->Q (.int (szF (m+1) ks x)) H'
theorem xcs (T:Tx K Y):DefIs P w K Y base (n+1) "_law_sort_of" qab xfj:=by
  refine DefIs.of T.jX scl_sort_of (by walk_at"l") (λf a0 A outer s H vs Q E hr h=>?_);obtain⟨v,ks,x,rfl,⟨a,us,rfl,J,M⟩,q⟩:=h;have nd:=scl_sort_of.nd
  refine⟨_,(zpn (xcg PassesOwn.never rfl (xtp (xbn (K:=K) rfl (pv 0)) (xa1 (K:=K) rfl (pv 0))) (xbl (K:=K) rfl rfl (xae (pgn 2 nd) (xae (pgn 3 nd) (xae (pgn 4 nd) xbh))))
      (zpo (xa8 (pR xbd (pv 2) (pv 1) (nM _)) (zpo (xaf (xak (va 3 (v1 4))))) pQ)))
      (zpo (xaf (xak (pc pS (pc (xak pN) pN sT) so))))),?_⟩
  have Z:=M.length;rw[zLM]at Z
  have l:∀(i:Nat) (v:V),us[i]?=some v->(ks.take i).find? (λk=>decide (k.name=x))=none->∃k b pv,ks[i]?=some k/\v=.ref b/\H b=some (.tup [.str k.name,.str k.sort,pv])/\RelD H pv (xda k.parts):=λi v C hn=>by
    obtain⟨d,hd,rd⟩:=M.get C;rw[zGM]at hd;obtain⟨k,g,rfl⟩:=zMS hd;obtain⟨b,ws,rfl,I,_,_,rfl,rfl,_,_,rfl,rfl,O,_,rfl,y,rfl⟩:=rd;exact(xcd k b O g rfl I y)
  rcases J with u |u
  case' inl=>
    refine .inl (xa3 _ rfl a rfl ⟨_,SqL.of u⟩ ?_);refine xdw (xs:=us) (λi σ j=>∃r o m,σ=[some (.ref a),some (.str x),r,o,m]/\j=H/\(ks.take i).find? (λk=>decide (k.name=x))=none) (xb7 none none none rfl rfl rfl) (λi σ j _ p=>by obtain⟨_,_,_,_,rfl,_⟩:=p;exact SqL.of u) ?_ ?_
  case' inr=>
    refine .inr (xa3 _ rfl a rfl ⟨_,SqT.of u⟩ ?_);refine xdp (xs:=us) (λi σ j=>∃r o m,σ=[some (.ref a),some (.str x),r,o,m]/\j=H/\(ks.take i).find? (λk=>decide (k.name=x))=none) (xb7 none none none rfl rfl rfl) (λi σ j _ p=>by obtain⟨_,_,_,_,rfl,_⟩:=p;exact SqT.of u) ?_ ?_
  all_goals first
    | (rintro i v σ j C ⟨r,o,m,rfl,rfl,hn⟩
       obtain⟨k,b,pv,g,rfl,I,y⟩:=l i v C hn;refine(xa2 b _ rfl (SqT.of I) rfl _ _ rfl _ (xat _ rfl _ _ rfl rfl ?_));refine(xcv _ rfl _ rfl rfl _ rfl (ite2 (λc=>?_) (λc=>?_)))
       · have e:k.name=x:=V.str.inj (of_decide_eq_true c)
         have e2:kAt ks x=some k:=(xcw hn g).1 (zDT e);refine(xa3 _ rfl _ rfl (by walk_at"s") (λt G=>?_));have st:=Same.new G (.tup [.str k.sort,pv]);rw[e2]at q;exact q t pv _ st ups (y.same st _)
       · have e:¬k.name=x:=λz=>c (zDT (congrArg V.str z))
         exact(xb7 _ _ _ rfl rfl ((xcw hn g).2 (zDF e))))
    | (rintro σ j ⟨r,o,m,rfl,rfl,hn⟩
       rw[zTL (by omega)]at hn;rw[show kAt ks x=none from hn]at q;refine⟨(by walk_at"s"),λe he=>⟨(by walk_at"s"),λt G=>?_⟩⟩;have U:=Same.new he (.tup []);have st:=Same.new G (.tup [.str (S "num"),.ref e]);exact q t (.ref e) _ (U.trans st) ups (xaw e ([]) rfl (st _ _ ups) rfl))
theorem xkz (T:Tx K mg) (G:Sp) (a:DefIs P w K mg base n "_law_sort_of" qab xfj) (g:DefIs P w K mg base n "_law_size" qab G) (M:∀j,m=j+1->G=xgd j) (hm:m<=6) :
  DefIs P w K mg base (n+1) "_law_size" qab (xgd m):=by
 refine DefIs.of T.jY scl_size (by walk_at"l") (λf a5 A outer s H vs Q E hr h=>?_);obtain⟨v,ks,x,rfl,hk,u,a3,q⟩:=h;have nd:=scl_size.nd
 refine⟨_,(zpn (xc6 (pd a hr (va 0 (v1 1))) (xbl (K:=K) rfl rfl (xae (pgn 2 nd) (xae (pgn 3 nd) xbh))))
   (zpn (xc0 (i:=4) ["_law_name","_law_part","_law_kinds_here"] [none,none,some 0] rfl (by kernel_rfl) nd rfl (by walk_at"o") (xa1 (K:=K) rfl (pv 3)) (λ_ _ _ _=>(xbl (K:=K) (n:=2) rfl rfl (xae (pgc 0) (xae (pgc 1) xbh)))) (λ_ _ _ _=>xbv) (λ_ _ _ _=>(pd g hr (va 2 (v1 1)))))
   (zpn (xa8 (pR xbd (pv 2) pS (nM _)) (zpo (xaf (xaj xba pI (xaq (xop rfl) rfl T.kS PyProof.Rows.boot_max (v1 4))))) pQ)
   (zpo (xaf (xaj xba pI (xaq (xi3 rfl) rfl T.kW PyProof.Rows.boot_sum (v1 4)))))))),?_⟩
 refine(xam _ rfl _ rfl v ks x (jAA rfl hk (λt pv H1 s1 ht rp=>?_)));refine(xa2 t _ rfl (SqT.of ht) rfl _ _ rfl _ (jEAA _ rfl rfl ?_))
 have a2:∃ps:List (Str×Str),xkw (kAt ks x)=xda ps/\ps.length<=5/\(∀p∈ps,∃j,m=j+1/\KIn ks j p.2)/\(xf4 (kAt ks x)=S "alt"->ps≠[]/\szF (m+1) ks x=1+maxD (ps.map λp=>szF m ks p.2)) ∧
   (xf4 (kAt ks x)≠S "alt"->szF (m+1) ks x=1+(ps.map λp=>szF m ks p.2).sum):=by
  cases C:kAt ks x with
  |none=>
   refine(xbi ([]) rfl (by decide) (λ_ h=>nomatch h) (λh=>absurd h (by walk_at"k")) (λ_=>?_));unfold szF;rw[C];rfl
  | some k=>
   have l:k∈ks:=zMF C
   have y:k.name=x:=by
    have:=List.find?_some C;simpa using this
   refine(xbi k.parts rfl (u.pts k l) (λp hp=>?_) (λh=>?_) (λh=>?_))
   ·rcases a3 with rfl |⟨j,k',hj,a0,e⟩
    ·exact absurd y (xeb (u.nm k l))
    ·have e2:kAt ks k'.name=some k':=u.at a0
     rw[e,C]at e2;cases e2;refine(jEA (m-1) (by omega) ?_);rcases u.ref j k a0 p hp with z |⟨i,k2,hi,z⟩
     ·exact .inl z
     ·exact .inr (jEEA i k2 (by omega) z)
   ·have o:k.rc=false:=by
     cases hc:k.rc with
     |false=>rfl
     |true=>
      have:k.sort=S "alt":=h;unfold Kn.sort at this;rw[hc,if_pos rfl]at this;exact absurd this (by walk_at"k")
    refine⟨u.alt k l o,?_⟩
    conv=>lhs;unfold szF
    rw[C];show 1+(if k.rc=true then _ else _)=_;rw[if_neg (by rw[o];decide)]
   ·have o:k.rc=true:=by
     cases hc:k.rc with
     |true=>rfl
     |false=>
      refine absurd ?_ h;show k.sort=S "alt";unfold Kn.sort;rw[hc,if_neg (by decide)]
    conv=>lhs;unfold szF
    rw[C];show 1+(if k.rc=true then _ else _)=_;rw[if_pos o]
 obtain⟨ps,a4,h5,U,a1,O⟩:=a2;rw[a4]at rp;obtain⟨e,us,rfl,he,J⟩:=rp;have hl:=J.length;rw[zLM]at hl;refine(xa3 _ rfl e rfl ⟨_,SqT.of he⟩ ?_);refine xbs (xs:=us) (λi ys H'=>Same H1 H'/\ys=((ps.take i).map λp=>szF m ks p.2).map V.int) ⟨Same.refl _,rfl⟩ (xa5 (by omega)) (λi ys H' _ p=>SqT.of (p.1 _ _ he)) ?_ ?_
 ·rintro i z ys H' hz hi Z ⟨I,rfl⟩
  obtain⟨d,hd,rd⟩:=J.get hz;rw[zGM]at hd;obtain⟨p,hp,rfl⟩:=zMS hd;obtain⟨b,ws,rfl,hb,_,_,rfl,rfl,_,_,rfl,rfl,rfl⟩:=rd;obtain⟨j,rfl,hj⟩:=U p (zMG hp);have D':=M j rfl;subst D';refine(xa2 b _ rfl (SqT.of (I _ _ hb)) rfl _ _ rfl _ (xbt _ rfl rfl (ext2 rfl rfl) (xdh ?_)));refine(xb5 _ rfl _ rfl _ ks p.2 rfl (hk.same (s1.trans I)) u ⟨hj,λH2 s2=>nxtG hi Z ⟨I.trans s2,?_⟩⟩);rw[zTA,hp];simp
 ·rintro ys H' Z ⟨I,rfl⟩ D hD
  rw[zTL (by omega)];have sD:=Same.new hD (.lst ((ps.map λp=>szF m ks p.2).map V.int));have r:=s1.trans (I.trans sD)
  have hb:∀n∈ps.map (λp=>szF m ks p.2),0<=n/\n<=1000000:=λn hn=>by
   obtain⟨p,_,rfl⟩:=zMP hn;have h1:=xfg u.pts m p.2
   have h2:(6:Int) ^ m<=6 ^ 6:=by
    rcases(show m=0\/m=1\/m=2\/m=3\/m=4\/m=5\/m=6 by omega) with h |h |h |h |h |h |h <;> subst h <;> decide
   have h3:(6:Int) ^ 6=46656:=by decide
   omega
  refine(xa4 _ rfl rfl _ rfl (ite2 (λc=>?_) (λc=>?_)))
  ·obtain⟨Y,ez⟩:=a1 (V.str.inj (of_decide_eq_true c))
   refine(xat _ rfl D _ rfl (SqL.of ups) ⟨(λz=>Y (List.map_eq_nil_iff.mp z)),λmx h1 h2=>(xaw _ _ rfl rfl ?_)⟩);have:=q _ r;rw[ez,<- xsc (λz=>Y (List.map_eq_nil_iff.mp z)) (λn hn=>(hb n hn).1) h1 h2]at this;exact this
  ·have ez:=O (λz=>c (zDT (congrArg V.str z)))
   refine(xat _ rfl D _ rfl (SqL.of ups) (jAA hb (by rw[zLM];omega) (xaw _ _ rfl rfl ?_)));have:=q _ r;rw[ez]at this;exact this
theorem xmu(T:Tx K a):∀m,m<=6->DefIs P w K a base (m+2) "_law_size" qab (xgd m)
 |0,h=>xkz (n:=1) T (λ_ _ _ _=>False) (xcs T) (DefIs.none T.jY λ_ _ _ _ h=>h) (λj e=>by cases e) h
 |m+1,h=>xkz (n:=m+2) T (xgd m) (xcs T) (xmu T m (by omega)) (λj e=>by cases e;rfl) h
def xjh:Sp:=λvs H Q _=>∃(f l nb:Addr) (srt:Str) (p q:Int) (ws:List V) (ks:List Kn) (n4:List Str),vs=[.ref f,.ref l,.str srt,.ref nb]/\H f=some (.lst [.int p,.int q])/\H l=some (.lst ws)/\RelDs H ws (ks.map Kn.d)/\KWf ks ∧
 H nb=some (.lst (n4.map V.str))/\n4.length=4/\(srt=S "rec"\/srt=S "alt")/\l≠f/\nb≠f ∧
 ∀v ps (H':Hp),Fed f H H'->RelD H' v (xda ps)->ps.length<=4->ps.map (·.1)=n4.take ps.length->(srt=S "alt"->ps≠[])->(∀p∈ps,KIn ks ks.length p.2)->(ps.map λp=>sz ks p.2).sum<=29->Q v H'
theorem xt8{D:Ends}{σ:St}{H:Hp}{c:Bool}{B:Prop}{i:Nat}{v x:V}(a:V->St)(f:σ.set i (some v)=a v)(e:σ=a x)(b:D.nx σ H->B)(h:∀y,(y=v\/(y=x/\c=false))->D.nx (a y) H):if c=true then tAsg (tC v) (xfy i) D σ H else B:=by
 cases c with
 |false=>exact b (by rw[e];exact h x (.inr ⟨rfl,rfl⟩))
 |true=>
  show D.nx (σ.set i (some v)) H;rw[f];exact h v (.inl rfl)
theorem and2{a:TE}{σ:St}{H:Hp}{Q:VK}{c cA:Bool}(f:Q (.bl cA) H->a σ H Q)(h:∀b:Bool,(b=true->cA=true)->Q (.bl b) H):if c=true then a σ H Q else Q (.bl false) H:=by
 cases c with
 |false=>exact h false (λe=>by cases e)
 |true=>exact f (h cA id)
theorem xk1:∀{ns:List Int},(∀n∈ns,0<=n)->maxD ns<=ns.sum/\0<=ns.sum
 |[],_=>⟨Int.le_refl _,Int.le_refl _⟩
 |n::ns,h=>by
  have c:=h n (by simp);have b:=xk1 (ns:=ns) λm a=>h m (by simp[a]);rw[List.sum_cons];show max n (maxD ns)<=_/\_;omega
theorem xpu{ks:List Kn}(a:KWf ks){x:Str}{b:Bool}{ps:List (Str×Str)}(h:(ps.map λp=>sz ks p.2).sum<=29):inSz (Kn.mk x b ps) (sz ks)<=29:=by
 have:=xk1 (ns:=ps.map λp=>sz ks p.2) λn hn=>by
  obtain⟨p,_,rfl⟩:=zMP hn;have:=xut a p.2;omega
 unfold inSz;show(if b=true then (ps.map λp=>sz ks p.2).sum else maxD (ps.map λp=>sz ks p.2))<=29;split <;> omega
theorem xna (T:Tx K mg) (a:DefIs P w K mg base n "_law_take" qac xcl) (c:DefIs P w K mg base n "_law_size" qab (xgd 6)):DefIs P w K mg base (n+1) "_law_parts" qax xjh:=by
  refine DefIs.of T.j0 scl_parts (by walk_at"l") (λf bh A outer s H vs Q E hr h=>?_);obtain⟨J,l,nb,C,p,q,ws,ks,n4,rfl,hf,hl,a4,wf,al,h4,hs,lf,nf,k⟩:=h;have nd:=scl_parts.nd
  refine⟨_,(zpn (psn 4 nd (xca pN))
      (zpn (psn 5 nd pI)
      (zpn (xcg PassesOwn.never rfl (xbz rfl T.kU (pc (xaj xba (xaj xba (pd a hr (va 0 (pc pI pN so))) (xay xf1 rfl T.kO PyProof.Rows.boot_int (pc (xdn xbd (pv 2) pS (nM _)) pN xko))) (xay xf1 rfl T.kO PyProof.Rows.boot_int (pc (xqp (xdn xbd (pd a hr (va 0 (pc pI pN so))) pI (nM _)) (xqn (xdn xbd (pv 2) pS (nM _)))) pN xmf))) pN xaz)) (pgn 6 nd)
      (zpn (psn 7 nd (pxl K (xaj xfp (xca (pc pS pN so)) (xbo ["_law_row"] [none] rfl (by kernel_rfl) (xbn (K:=K) rfl (pv 1)) (λ_ _ _ _=>(pgc 0)) (λ_ _ _ _=>xbv) (λ_ _ _ _=>(px K (pv 0) pI)))) (pd a hr (va 0 (pc (xaj xba pI (xaq (xad (K:=K) rfl) rfl T.kQ PySem.boot_len (v1 1))) pN xaz)))))
      (zpn (xa8 (pR xc7 (pd c hr (va 1 (v1 7))) (pv 5) (nM _)) (zpo (psn 7 nd pS)) pQ)
      (zpn (psn 5 nd (xaj xck (pv 5) (pd c hr (va 1 (v1 7)))))
      (zpo (xby (xc9 PySem.F.plainAttrs_list PySem.F.slot_list_append PySem.F.type_list_append xbw (pv 4) (pc (xak (pc (pxl K (pv 3) (pv 6)) (v1 7) ss)) pN sT))))))))
      (zpo (xaf (xay (xbq (K:=K) rfl) rfl T.kX PyProof.Rows.boot_tuple (pc (xcn xde (pv 4) xdm (xcm pI)) pN ss))))))),?_⟩
  refine⟨(by walk_at"s"),λpl a8=>?_⟩;have s0:=Same.new a8 (.lst []);have M:pl≠J:=Ne.symm (neN hf a8);have a2:=wf.few;have ah:=a4.length;rw[zLM]at ah;refine(xaa _ rfl J p q 4 rfl (s0 _ _ hf) (by decide) (by decide) (λr1 H1 bb ba f1=>?_));obtain⟨p1,q1,h1⟩:=f1.2;have F1:Fed J H H1:=⟨s0.but.trans f1.1,f1.2⟩;have au:H1 pl=some (.lst []):=f1.1 _ _ ups M
  have b6:∃cA cB:Bool,decide (V.str C=V.str (S "rec"))=cA/\decide (V.str C=V.str (S "alt"))=cB/\0<=(if cA=true then (1:Int) else 0)/\0<=(if cB=true then (1:Int) else 0)/\(if cA=true then (1:Int) else 0)+(if cB=true then (1:Int) else 0)<=1/\(C=S "alt"->(if cB=true then (1:Int) else 0)=1):=by
    rcases hs with rfl |rfl
    · exact(xa6 true false (by walk_at"k") (by walk_at"k") (by decide) (by decide) (by decide) (λe=>absurd e (by walk_at"k")))
    · exact(xa6 false true (by walk_at"k") (by walk_at"k") (by decide) (by decide) (by decide) (λ_=>rfl))
  obtain⟨cA,cB,eA,eB,b4,bg,bf,b3⟩:=b6;refine(jEAA _ rfl rfl (.inr (xat cB (congrArg (λb=>[V.bl b]) eB) r1 (if cB=true then 1 else 0) rfl rfl ?_)));refine(xaa _ rfl J p1 q1 9 rfl h1 (by decide) (by decide) (λr2 H2 b9 b8 f2=>(jAEA rfl _ rfl (and2 (cA:=decide (V.str C=V.str (S "rec"))) (λz=>(jEAA _ rfl rfl z)) (λb hb=>?_)))));rw[eA]at hb
  have be:0<=(if b=true then (1:Int) else 0)/\(if b=true then (1:Int) else 0)<=(if cA=true then (1:Int) else 0):=by
    cases b with
    |false=>exact⟨Int.le_refl _,b4⟩
    |true=>rw[hb rfl];exact⟨by decide,by decide⟩
  refine .inr (xbg b rfl _ (if b=true then 1 else 0) rfl rfl _ rfl (jAA (by omega) (by omega) ?_))
  all_goals
      have F2:Fed J H H2:=F1.trans f2;have ar:H2 pl=some (.lst []):=f2.1 _ _ au M
      refine xcq (λi σ H'=>∃us,∃ps:List (Str×Str),∃left o6 o7,σ=[some (.ref J),some (.ref l),some (.str _),some (.ref nb),some (.ref pl),some (.int left),o6,o7]/\Fed J H H'/\H' pl=some (.lst us)/\RelDs H' us (ps.map xkb)/\ps.length=i/\ps.map (·.1)=n4.take i/\(∀p∈ps,KIn ks ks.length p.2)/\(ps.map λp=>sz ks p.2).sum+left=25/\-(i:Int)<=left)
        (xag ([]) ([]) 25 none none rfl F2 ar rfl rfl (jAAA rfl (λ_ h=>nomatch h) rfl (by decide))) ?_ ?_
      · rintro i σ H3 hi ⟨us,ps,left,o6,o7,rfl,F,a6,I,g,a7,ab,aj,a9⟩
        have bd:i<4:=by omega
        obtain⟨p3,q3,h3⟩:=F.2;have aa:=F.1 l _ hl lf;have bc:=F.1 nb _ al nf;have ag:=a4.tups (xai (jEE p q hf) F) _;refine⟨(by walk_at"s"),λl1 ax=>?_⟩;have U:=Same.new ax (.lst [.str (S "num")]);refine(xa3 _ rfl l rfl ⟨_,SqL.of (U _ _ aa)⟩ ?_);refine xi1 (j:=0) (xs:=ws) (λi ys H'=>H'=upd H3 l1 (.lst [.str (S "num")])/\ys=((ks.take i).map Kn.name).map V.str) (by rfl) ⟨rfl,rfl⟩ (xa5 (by omega)) (λi ys H' _ p=>by obtain⟨rfl,_⟩:=p;exact SqL.of (U _ _ aa)) ?_ ?_
        · rintro i' x ys H' hx am ⟨rfl,rfl⟩
          obtain⟨d,hd,rd⟩:=(ag.same U _).get hx;rw[zGM]at hd;obtain⟨k',az,rfl⟩:=zMS hd;obtain⟨b,b7,rfl,hb,_,_,rfl,rfl,_,_,rfl,rfl,v3,_,rfl,r3,rfl⟩:=rd;have b0:i'<ws.length:=(zES hx).1;refine(xaa _ rfl b _ _ _ rfl rfl (SqT.of hb) rfl (nxt b0 am ⟨rfl,?_⟩));rw[zTA,az];simp
        rintro ys H' am ⟨rfl,rfl⟩ D2 b5;rw[zTL (by omega)];have s2:=Same.new b5 (.lst ((ks.map Kn.name).map V.str));refine(xas l1 D2 _ _ rfl rfl (s2 _ _ ups) ups (fits (by rw[zLM,zLM];show 1+_<=_;omega)) (λl3 a0=>?_));have s3:=Same.new a0 (.lst ([.str (S "num")]++(ks.map Kn.name).map V.str));have u:=U.trans (s2.trans s3);have aq:l3≠J:=Ne.symm (neN (s2 _ _ (U _ _ h3)) a0);refine(xbb _ rfl _ rfl l _ rfl (.inl (SqL.of (u _ _ aa))) _ (jEAA _ rfl rfl ?_));refine(xah J p3 q3 _ rfl (u _ _ h3) (by omega) (by omega) (λr H4 r0 ac f4=>?_));rw[ah]at ac;obtain⟨x,hx,Z⟩:=xhc r0 ac;have an:H4 l3=some (.lst ([.str (S "num")]++(ks.map Kn.name).map V.str)):=f4.1 _ _ ups aq;refine(xah l3 _ _ _ rfl rfl (SqL.of an) hx ?_);have F4:Fed J H H4:=(F.same u).trans f4;have m:=f4.1 _ _ (u _ _ a6) M;have ai:=(I.same u _).tups (xai (jEE p3 q3 (u _ _ h3)) f4) _;have aw:=F4.1 l _ hl lf;have av:=F4.1 nb _ al nf;have af:=a4.tups (xai (jEE p q hf) F4) _;have O:KsSeq H4 (.ref l) ks:=(xaw l ws rfl (.inl aw) af);refine(xb5 _ rfl _ rfl _ ks x rfl O wf ⟨Z.mono a2,λH5 s5=>(xbg _ rfl _ _ rfl rfl _ rfl (xt8 (x:=.str x) (λy=>[some (.ref J),some (.ref l),some (.str C),some (.ref nb),some (.ref pl),some (.int left),some (.int (0+(i:Int))),some y]) rfl rfl id (λy hy=>?_)))⟩)
        obtain⟨Y,rfl,ae,ay⟩:∃Y,y=.str Y/\KIn ks ks.length Y/\-((i:Int)+1)<=left-sz ks Y:=by
          rcases hy with rfl |⟨rfl,b1⟩
          · exact ⟨S "num", rfl, .inl rfl, by have h1:sz ks (S "num") = 1 := xs9 wf
                                              omega⟩
          · refine(jEAA _ rfl Z ?_)
            have h0:¬left<sz ks x:=of_decide_eq_false b1;omega
        · refine(xbp _ rfl _ rfl _ rfl _ ks (xbi Y rfl (O.same s5) wf (ae.mono a2) (λH6 s6=>(xaw _ _ rfl rfl ?_))))
          have a3:=s5.trans s6;have ak:=a3 _ _ m;have a1:i<n4.length:=by omega
          refine(xa4 _ rfl (.inl (jAE rfl _ (SqL.of ak))) _ rfl (xaa _ rfl nb _ _ _ rfl rfl (SqL.of (a3 _ _ av)) (xkl a1) (jEAA _ rfl (by walk_at"s") (λt ht=>?_))));have G:∀o,Same H4 (upd H6 t o):=λo=>a3.trans (Same.new ht o);have a5:=I.length;rw[zLM]at a5;refine(xal pl us _ rfl rfl (G _ _ _ m) (xa5 (by omega)) ?_);refine(xag _ (ps++[(n4[i],Y)]) _ _ _ rfl (Fed.put (F4.same (G _)) a8 M _) ups ?_ (by rw[zLA,List.length_singleton,g]) (jAAA ?_ (λz hz=>?_) ?_ (by push_cast;exact ay)))
          · rw[zAP]
            refine RelDs.append ((ai.same (G _) _).tups (xco (G _ _ _ m) _) _) ?_;exact(xaw _ ([]) rfl (xao t _ rfl (xco (G _ _ _ m) _ _ _ ups) _ _ rfl rfl _ (jEAA _ rfl rfl rfl)) rfl)
          · rw[zAP,a7,zTA,zGA a1]
            rfl
          · rcases zMA hz with hz |hz
            · exact ab z hz
            · rw[zMO hz];exact ae
          · show((ps++[(n4[i],Y)]).map λp=>sz ks p.2).sum+(left-sz ks Y)=25
            rw[zAP,List.sum_append];simp only[List.map_cons,List.map_nil,List.sum_cons,List.sum_nil];omega
      · rintro σ H3 ⟨us,ps,left,o6,o7,rfl,F,a6,I,g,a7,ab,aj,a9⟩
        have a5:=I.length;rw[zLM]at a5;refine(jEA _ rfl (xat _ rfl pl us rfl (SqL.of a6) (λc2 b2=>?_)))
        have ao:cutV us none (some 4)=us:=by
          unfold cutV;rw[show HT.sIx us.length 0 none=0 from rfl,List.drop_zero,Nat.sub_zero];refine zTL ?_;unfold HT.sIx;simp;omega
        have U:=Same.new b2 (.lst (cutV us none (some 4)));refine(jEEA c2 _ rfl (.inl ⟨SqL.of ups,λt ht=>?_⟩));have s2:=Same.new ht (.tup (cutV us none (some 4)));refine k _ ps _ (F.same (U.trans s2)) (xaw t us rfl (by rw[ao];exact ups) (I.same (U.trans s2) _)) (by omega) (by rw[g];exact a7) ?_ ab (by omega);intro ha e;have h9:=b3 ha;rw[e]at g;simp only[List.length_nil]at g;omega
def xml:Sp:=λvs H Q _=>∃(f nb:Addr) (p q:Int) (nms:List Str),vs=[.ref f,.ref nb]/\H f=some (.lst [.int p,.int q])/\H nb=some (.lst (nms.map V.str))/\xhk nms/\nb≠f/\∀v ks (H':Hp),Fed f H H'->RelD H' v (xdk ks)->xuh nms ks->Fit ks->Q v H'
theorem xnd(T:Tx K mg)(a:DefIs P w K mg base n "_law_take" qac xcl)(g:DefIs P w K mg base n "_law_parts" qax xjh):DefIs P w K mg base (n+1) "_law_kinds" qa9 xml:=by
 refine DefIs.of T.j1 scl_kinds (by walk_at"l") (λf aq A outer s H vs Q E hr h=>?_);obtain⟨G,nb,p,q,j,rfl,hf,ag,J,nf,k⟩:=h;have nd:=scl_kinds.nd
 refine⟨_,(zpn (psn 2 nd (xca pN))
   (zpn (xcg PassesOwn.never rfl (xbz rfl T.kU (pc (pd a hr (va 0 (pc pI pN so))) pN zsc)) (pgn 3 nd)
   (zpn (psn 4 nd (pxl K (xca (pc pS (pc pS pN so) so)) (pd a hr (va 0 (pc pI pN so)))))
   (zpo (xby (xc9 PySem.F.plainAttrs_list PySem.F.slot_list_append PySem.F.type_list_append xbw (pv 2) (pc (xak (pc (pxl K (pv 1) (pv 3)) (va 4 (pc (pd g hr (va 0 (va 2 (va 4 (pc (xcn xde (pv 1) (xcm pI) (xcm pI)) pN ss))))) pN zsc)) ss)) pN sT))))))
   (zpo (xaf (xay (xbq (K:=K) rfl) rfl T.kX PyProof.Rows.boot_tuple (v1 2)))))),?_⟩
 refine⟨(by walk_at"s"),λl hl=>?_⟩;have s0:=Same.new hl (.lst []);have lf:l≠G:=Ne.symm (neN hf hl);have a0:=J.1;refine(xaa _ rfl G p q 5 rfl (s0 _ _ hf) (by decide) (by decide) (λr1 H1 al ak f1=>(xbt _ rfl (by omega) (by omega) ?_)));have F1:Fed G H H1:=⟨s0.but.trans f1.1,f1.2⟩;have af:H1 l=some (.lst []):=f1.1 _ _ ups lf
 refine xcq (λi σ H'=>∃us,∃ks:List Kn,∃o3 o4,σ=[some (.ref G),some (.ref nb),some (.ref l),o3,o4]/\Fed G H H'/\H' l=some (.lst us)/\RelDs H' us (ks.map Kn.d)/\ks.length=i/\Fit ks/\xuh j ks)
  (xas ([]) ([]) none none rfl F1 af rfl rfl (jAAA Fit.nil KWf.nil (Nat.zero_le _) ⟨rfl,λ_ h=>nomatch h⟩)) ?_ ?_
 ·rintro i σ H2 hi ⟨us,ks,o3,o4,rfl,F,a3,I,M,C,wf,an,ai,ah⟩
  have ao:i<4:=by omega
  have ac:=I.length;rw[zLM]at ac;obtain⟨p2,q2,h2⟩:=F.2;refine⟨(by walk_at"s"),λl1 a7=>?_⟩;have U:=Same.new a7 (.lst [.str (S "rec"),.str (S "alt")]);have aa:l1≠G:=Ne.symm (neN h2 a7);refine(xaa _ rfl G p2 q2 2 rfl (U _ _ h2) (by decide) (by decide) (λr H3 r0 am f3=>?_))
  have ab:∃b:Str,atI [V.str (S "rec"),V.str (S "alt")] r=some (.str b)/\(b=S "rec"\/b=S "alt"):=by
   rcases(show r=0\/r=1 by omega) with rfl |rfl
   ·exact(jEA (S "rec") rfl (.inl rfl))
   ·exact(jEA (S "alt") rfl (.inr rfl))
  obtain⟨b,aj,u⟩:=ab;refine(xah l1 _ _ _ rfl rfl (SqL.of (f3.1 _ _ ups aa)) aj ?_);have F3:Fed G H H3:=(F.same U).trans f3;obtain⟨p3,q3,h3⟩:=f3.2;have y:=f3.1 _ _ (U _ _ a3) lf;have Y:=(I.same U _).tups (xai (jEE p2 q2 (U _ _ h2)) f3) _;have a6:=F3.1 nb _ ag nf;have O:i<j.length:=by omega
  refine(xa4 _ rfl (.inl (jAE rfl _ (SqL.of y))) _ rfl (xaa _ rfl nb _ _ _ rfl rfl (SqL.of a6) (xkl O) (jEA _ rfl ?_)));refine(xax _ rfl _ rfl _ rfl _ rfl _ rfl (xat _ rfl nb _ rfl (SqL.of a6) (λc hc=>?_)));rw[xug a0];have sc:=Same.new hc (.lst (((j.drop 8).take 4).map V.str));have cf:c≠G:=Ne.symm (neN h3 hc);refine(xan G l c b p3 (xas q3 us ks ((j.drop 8).take 4) rfl (sc _ _ h3) (sc _ _ y) (Y.same sc _) wf (jAAA ups (by rw[List.length_take,List.length_drop,a0];rfl) u (jAA lf cf (λv ps H4 f4 rv h4 a2 a8 Z a5=>?_)))));have F4:Fed G H H4:=(F3.same sc).trans f4;have m:=f4.1 _ _ (sc _ _ y) lf;have a4:=(Y.same sc _).tups (xai (jEE p3 q3 (sc _ _ h3)) f4) _;refine⟨(by walk_at"s"),λt ht=>?_⟩;have s5:∀o,Same H4 (upd H4 t o):=λo=>Same.new ht o;refine(xal l us _ rfl rfl (s5 _ _ _ m) (xa5 (by omega)) ?_);have a9:=xu1 J ps.length
  have a1:(Kn.mk j[i] (decide (b=S "rec")) ps).sort=b:=by
   unfold Kn.sort;rcases u with rfl |rfl
   ·rfl
   ·show(if decide (S "alt"=S "rec")=true then _ else _)=_
    rw[if_neg (by walk_at"k")]
  have x:ks.map Kn.name=j.take i:=by rw[ai,M]
  have w2:KWf (ks++[Kn.mk j[i] (decide (b=S "rec")) ps]):=by
   refine wf.snoc ?_ (J.2.2 _ (List.getElem_mem O)) Z ?_ (by omega) (by show ps.length<=5;omega) (by show(ps.map (·.1)).Nodup;rw[a2];exact a9.1) (λz hz=>a9.2 z.1 (by rw[<- a2];exact List.mem_map_of_mem hz))
   ·show j[i] ∉ks.map Kn.name
    rw[x];exact xnk J.2.1 O
   ·intro ae
    refine a8 ?_;rcases u with e |e
    ·exact absurd ae (by show ¬decide (b=S "rec")=false;rw[e];decide +kernel)
    ·exact e
  refine(xas _ (ks++[Kn.mk j[i] (decide (b=S "rec")) ps]) _ _ rfl (Fed.put (F4.same (s5 _)) hl lf _) ups ?_ (by rw[zLA,List.length_singleton,M]) ⟨C.snoc wf w2 Z (xpu wf a5),?_⟩)
  ·rw[zAP]
   refine RelDs.append ((a4.same (s5 _) _).tups (xco (s5 _ _ _ m) _) _) ?_;refine(xaw _ ([]) rfl (xao t _ rfl (xco (s5 _ _ _ m) _ _ _ ups) _ _ rfl rfl _ (xbj _ rfl ?_ _ _ rfl ((rv.same (s5 _) _).tups (xco (s5 _ _ _ m) _) _) rfl)) rfl);show V.str b=V.str _;rw[a1]
  ·refine(jAAA w2 (by rw[zLA,List.length_singleton];omega) ?_ ?_)
   ·rw[zAP,x,zLA,List.length_singleton,M,zTA,zGA O]
    rfl
   ·intro z hz
    rcases zMA hz with hz |hz
    ·exact ah z hz
    ·rw[zMO hz]
     exact⟨h4,a2⟩
 ·rintro σ H2 ⟨us,ks,o3,o4,rfl,F,a3,I,M,C,hK⟩
  refine(jEA _ rfl (jEEA l us rfl (.inl ⟨SqL.of a3,λt ht=>?_⟩)));have U:=Same.new ht (.tup us);exact k _ ks _ (F.same U) (xaw t us rfl ups (I.same U _)) hK C
def xqh:Sp:=λvs H Q _=>∃(a:Addr) (p q:Int),vs=[.ref a]/\H a=some (.lst [.int p,.int q])/\∀(i:Int) (H':Hp),Nm i->Fed a H H'->Q (.int i) H'
theorem xlt(T:Tx K x)(b:DefIs P w K x base n "_law_take" qac xcl):DefIs P w K x base (n+1) "_law_number" qa8 xqh:=by
 refine DefIs.of T.jW scl_number (λvs H Q E h=>?_) (λf I A outer s H vs Q E j h=>?_)
 ·obtain⟨a,p,q,rfl,_⟩:=h
  rfl
 obtain⟨a,p,q,rfl,G,k⟩:=h;have nd:=scl_number.nd;have M:(2:Int) ^ (32:Int).toNat=4294967296:=by decide
 refine⟨_,(zpn (psn 1 nd (pd b j (va 0 (pc pI pN so))))
   (zpn (xa8 (pR xez (pv 1) pI (nM _)) (zpo (xaf (pd b j (va 0 (pc pI pN so))))) pQ)
   (zpn (xa8 (pR xbd (pv 1) pI (nM _)) (zpo (xaf (xaj xck (xaj xck (xaj xqr pI pI) pI) (pd b j (va 0 (pc pI pN so)))))) pQ)
   (zpo (xaf (pd b j (va 0 (pc (xaj xqr pI pI) pN xaz)))))))),?_⟩
 refine(xaa _ rfl a p q 4 rfl G (by decide) (by decide) (λJ O C z l=>?_));obtain⟨o,m,r⟩:=l.2;refine(xbg _ rfl _ _ rfl rfl _ rfl ?_);refine ite2 (λc=>?_) (λc=>?_)
 ·exact(xaa _ rfl a o m 6 rfl r (by decide) (by decide) (λu y e g i=>k _ _ ⟨e,by omega⟩ (l.trans i)))
 refine(xa4 _ rfl rfl _ rfl ?_);refine ite2 (λc=>?_) (λc=>?_)
 ·refine(xb0 _ _ rfl rfl (jAA (by decide) (by decide) (by decide)) (xaw _ _ rfl rfl (xaa _ rfl a o m 6 rfl r (by decide) (by decide) (λu y e g i=>(xaw _ _ rfl rfl (k _ _ ⟨by omega,by omega⟩ (l.trans i)))))))
 ·refine(xat _ rfl _ _ rfl rfl (jAE (jAA (by decide) (by decide) (by decide)) a (xal o m _ rfl r (by omega) (by omega) (λu y e g i=>k _ _ ⟨e,by omega⟩ (l.trans i)))))
theorem xab{t u:TS}{D:Ends}{σ:St}{H:Hp}(h:∀R:St->Hp->Prop,(∀σ H,u D σ H->R σ H)->t {D with nx:=R} σ H):tSeq t u D σ H:=h (u D) λ_ _ h=>h
theorem xec{k:Kn}(h:k.rc=true):k.sort=S "rec":=by unfold Kn.sort;rw[if_pos h]
theorem xel{k:Kn}(h:k.rc=false):k.sort=S "alt":=by unfold Kn.sort;rw[if_neg (by rw[h];decide)]
def spSm(F:List Kn->Str->Int)(m:Nat):Sp:=λvs H Q _=>∃v ks x,vs=[v,.str x]/\RelD H v (xdk ks)/\KWf ks/\KIn ks m x/\∀H',Same H H'->Q (.int (F ks x)) H'
theorem xia (T:Tx K mg) (U:Sp) (g:DefIs P w K mg base n "_law_sort_of" qab xfj) (c:DefIs P w K mg base n "_law_small" qab U) (a0:∀j,m=j+1->U=spSm smK j) :
  DefIs P w K mg base (n+1) "_law_small" qab (spSm smK m):=by
 refine DefIs.of T.jZ scl_small (by walk_at"l") (λf a5 A outer s H vs Q E hr h=>?_);obtain⟨v,ks,x,rfl,hk,C,a2,q⟩:=h;have nd:=scl_small.nd
 refine⟨_,(zpn (xc6 (pd g hr (va 0 (v1 1))) (xbl (K:=K) rfl rfl (xae (pgn 2 nd) (xae (pgn 3 nd) xbh))))
   (zpn (xa8 (pR xbd (pv 2) pS (nM _)) (zpo (xaf (xaj xba pI (pd c hr (va 0 (pc (px K (px K (pv 3) pI) pI) pN ss)))))) pQ)
   (zpo (xaf (xaj xba pI (xaq (xi3 rfl) rfl T.kW PyProof.Rows.boot_sum (pc (xbo ["_law_name","_law_part","_law_kinds_here"] [none,none,some 0] rfl (by kernel_rfl) (xa1 (K:=K) rfl (pv 3)) (λ_ _ _ _=>(xbl (K:=K) (n:=2) rfl rfl (xae (pgc 0) (xae (pgc 1) xbh)))) (λ_ _ _ _=>xbv) (λ_ _ _ _=>(pd c hr (va 2 (v1 1))))) pN xcc))))))),?_⟩
 refine(xam _ rfl _ rfl v ks x (jAA rfl ((C.ksAt hk).seq) (λt a4 H1 Y ht M=>?_)));refine(xa2 t _ rfl (SqT.of ht) rfl _ _ rfl _ (jEAA _ rfl rfl ?_));rcases a2.look C with⟨rfl,o⟩ |⟨j,k,rfl,o,hn,hm,hp⟩
 ·refine(xa4 _ rfl rfl _ rfl (iteKF (zDF (by rw[o];decide +kernel)) ?_))
  rw[o]at M;obtain⟨a,us,rfl,O,l⟩:=M;obtain rfl:us=[]:=l;refine(xa3 _ rfl a rfl ⟨_,SqT.of O⟩ ?_);refine xbs (xs:=[]) (λi ys G=>G=H1/\ys=[]) ⟨rfl,rfl⟩ (xa5 (by decide)) (λi ys G _ p=>by obtain⟨rfl,_⟩:=p;exact SqT.of O) (λi y ys G hy=>by simp at hy) ?_;rintro ys G J ⟨rfl,rfl⟩ D hD;refine(xcp D ([]) rfl (SqL.of ups) (λ_ h=>nomatch h) (by decide) (xaw _ _ rfl rfl ?_));have e:=(xmt C).1;rw[e]at q;exact q _ (Y.trans (Same.new hD _))
 ·have D':=a0 j rfl
  subst D';rw[o]at M;obtain⟨a,us,rfl,O,l⟩:=M;have hl:=l.length;rw[zLM]at hl;have h5:=C.pts k hm;have Z:xf4 (kAt ks x)=k.sort:=by rw[o];rfl
  have e:=(xtg C o).1;unfold smS at e
  cases hc:k.rc with
  | false=>
   rw[if_neg (by rw[hc];decide)]at e;refine(xa4 _ rfl rfl _ rfl (iteKT (zDT (by rw[Z,xel hc];rfl)) ?_))
   cases I:k.parts with
   |nil=>exact absurd I (C.alt k hm hc)
   |cons p r=>
    rw[I]at l e;obtain⟨vp,rest,rfl,M,_⟩:=l;obtain⟨b,ws,rfl,hb,_,_,rfl,rfl,_,_,rfl,rfl,rfl⟩:=M;refine(xam _ rfl _ rfl a _ _ (xbi _ rfl rfl (SqT.of O) (xa0 (j:=0) rfl) (xah b _ _ _ rfl rfl (SqT.of hb) rfl ?_)));refine(xal v ks p.2 rfl (hk.same Y _) C (hp p (by rw[I];simp)) (λH2 s2=>(xaw _ _ rfl rfl ?_)));rw[e]at q;exact q _ (Y.trans s2)
  | true=>
   rw[if_pos hc]at e;refine(xa4 _ rfl rfl _ rfl (iteKF (zDF (by rw[Z,xec hc];decide +kernel)) ?_));refine(xa3 _ rfl a rfl ⟨_,SqT.of O⟩ ?_);refine xbs (xs:=us) (λi ys G=>Same H1 G/\ys=((k.parts.take i).map λp=>smK ks p.2).map V.int) ⟨Same.refl _,rfl⟩ (xa5 (by omega)) (λi ys G _ p=>SqT.of (p.1 _ _ O)) ?_ ?_
   ·rintro i y ys G hy a3 J ⟨u,rfl⟩
    obtain⟨d,hd,rd⟩:=l.get hy;rw[zGM]at hd;obtain⟨pr,a1,rfl⟩:=zMS hd;obtain⟨b,ws,rfl,hb,_,_,rfl,rfl,_,_,rfl,rfl,rfl⟩:=rd;refine(xa2 b _ rfl (SqT.of (u _ _ hb)) rfl _ _ rfl _ (xbt _ rfl rfl (ext2 rfl rfl) (xdh ?_)));refine(xb5 _ rfl _ rfl v ks pr.2 rfl (hk.same (Y.trans u) _) C ⟨hp pr (zMG a1),λH2 s2=>nxtG a3 J ⟨u.trans s2,?_⟩⟩);rw[zTA,a1,zAP,zAP];rfl
   ·rintro ys G J ⟨u,rfl⟩ D hD
    rw[zTL (by omega)];refine(xcp D (k.parts.map λp=>smK ks p.2) rfl (SqL.of ups) (λz hz=>?_) (by rw[zLM];omega) (xaw _ _ rfl rfl ?_))
    ·obtain⟨p,_,rfl⟩:=zMP hz
     have:=xkr C p.2;omega
    ·rw[e]at q
     exact q _ (Y.trans (u.trans (Same.new hD _)))
theorem xgy(T:Tx K a):∀m,DefIs P w K a base (m+2) "_law_small" qab (spSm smK m)
 |0=>xia (n:=1) T (λ_ _ _ _=>False) (xcs T) (DefIs.none T.jZ λ_ _ _ _ h=>h) (λj e=>by cases e)
 |m+1=>xia (n:=m+2) T (spSm smK m) (xcs T) (xgy T m) (λj e=>by cases e;rfl)
def xo1:Sp:=λvs H Q _=>∃(f ka:Addr) (p q:Int) (us:List V) (ks:List Kn),vs=[.ref f,.ref ka]/\H f=some (.lst [.int p,.int q])/\(H ka=some (.lst us)\/H ka=some (.tup us))/\RelDs H us (ks.map Kn.d)/\ks.length<=6/\∀x H',KIn ks ks.length x->Fed f H H'->Q (.str x) H'
theorem xie(T:Tx K mg)(c:DefIs P w K mg base n "_law_take" qac xcl):DefIs P w K mg base (n+1) "_law_any_kind" qam xo1:=by
 refine DefIs.of T.j7 scl_any_kind (by walk_at"l") (λf a3 A outer s H vs Q E hr h=>?_);obtain⟨f',ka,p1,q1,us,ks,rfl,Y,a,I,a2,q⟩:=h;have nd:=scl_any_kind.nd;refine(jEA _ (zpo (xaf (pxl K (xaj xfp (xca (pc pS pN so)) (xbo ["_law_row"] [none] rfl (by kernel_rfl) (xtp (xbn (K:=K) rfl (pv 1)) (xa1 (K:=K) rfl (pv 1))) (λ_ _ _ _=>(pgc 0)) (λ_ _ _ _=>xbv) (λ_ _ _ _=>(px K (pv 0) pI)))) (pd c hr (va 0 (pc (xaj xba pI (xaq (xad (K:=K) rfl) rfl T.kQ PySem.boot_len (v1 1))) pN xaz)))))) ?_);refine⟨(by walk_at"s"),λl2 a1=>?_⟩;have o:=Same.new a1 (.lst [.str (S "num")]);have J:=I.length;rw[zLM]at J;rcases a with a |a
 ·refine .inl (xa3 _ rfl ka rfl ⟨_,SqL.of (o _ _ a)⟩ ?_)
  refine xi1 (j:=0) (xs:=us) (λi ys u=>u=upd H l2 (.lst [.str (S "num")])/\ys=((ks.take i).map Kn.name).map V.str) (by rfl) ⟨rfl,rfl⟩ (xa5 (by omega)) (λi ys u _ p=>by obtain⟨rfl,_⟩:=p;exact SqL.of (o _ _ a)) ?_ ?_
  ·rintro i' x ys u r l ⟨rfl,rfl⟩
   obtain⟨d,hd,rd⟩:=(I.same o _).get r;rw[zGM]at hd;obtain⟨k',M,rfl⟩:=zMS hd;obtain⟨b,a0,rfl,hb,_,_,rfl,rfl,_,_,rfl,rfl,v3,_,rfl,r3,rfl⟩:=rd;have O:i'<us.length:=(zES r).1;refine(xaa _ rfl b _ _ _ rfl rfl (SqT.of hb) rfl (nxt O l ⟨rfl,?_⟩));rw[zTA,M];simp
  rintro ys u l ⟨rfl,rfl⟩ D2 U;rw[zTL (by omega)];have y:=Same.new U (.lst ((ks.map Kn.name).map V.str));refine(xas l2 D2 _ _ rfl rfl (y _ _ ups) ups (fits (by rw[zLM,zLM];show 1+_<=_;omega)) (λZ m=>?_));have s4:=Same.new m (.lst ([.str (S "num")]++(ks.map Kn.name).map V.str));have e:=o.trans (y.trans s4);have G:Z≠f':=Ne.symm (neN ((o.trans y) _ _ Y) m);refine(xbb _ rfl _ rfl ka _ rfl (.inl (SqL.of (e _ _ a))) _ (jEAA _ rfl rfl (xah f' p1 q1 _ rfl (e _ _ Y) (by omega) (by omega) (λr5 H5 C z f5=>?_))));obtain⟨x,r,g⟩:=xhc (ks:=ks) C (by rw[<- J];exact z);exact(xah Z _ _ _ rfl rfl (SqL.of (f5.1 _ _ ups G)) r (q x _ g (((Fed.refl Y).same e).trans f5)))
 ·refine .inr (xa3 _ rfl ka rfl ⟨_,SqT.of (o _ _ a)⟩ ?_)
  refine xfe (j:=0) (xs:=us) (λi ys u=>u=upd H l2 (.lst [.str (S "num")])/\ys=((ks.take i).map Kn.name).map V.str) (by rfl) ⟨rfl,rfl⟩ (xa5 (by omega)) (λi ys u _ p=>by obtain⟨rfl,_⟩:=p;exact SqT.of (o _ _ a)) ?_ ?_
  ·rintro i' x ys u r l ⟨rfl,rfl⟩
   obtain⟨d,hd,rd⟩:=(I.same o _).get r;rw[zGM]at hd;obtain⟨k',M,rfl⟩:=zMS hd;obtain⟨b,a0,rfl,hb,_,_,rfl,rfl,_,_,rfl,rfl,v3,_,rfl,r3,rfl⟩:=rd;have O:i'<us.length:=(zES r).1;refine(xaa _ rfl b _ _ _ rfl rfl (SqT.of hb) rfl (nxt O l ⟨rfl,?_⟩));rw[zTA,M];simp
  rintro ys u l ⟨rfl,rfl⟩ D2 U;rw[zTL (by omega)];have y:=Same.new U (.lst ((ks.map Kn.name).map V.str));refine(xas l2 D2 _ _ rfl rfl (y _ _ ups) ups (fits (by rw[zLM,zLM];show 1+_<=_;omega)) (λZ m=>?_));have s4:=Same.new m (.lst ([.str (S "num")]++(ks.map Kn.name).map V.str));have e:=o.trans (y.trans s4);have G:Z≠f':=Ne.symm (neN ((o.trans y) _ _ Y) m);refine(xbb _ rfl _ rfl ka _ rfl (.inr (SqT.of (e _ _ a))) _ (jEAA _ rfl rfl (xah f' p1 q1 _ rfl (e _ _ Y) (by omega) (by omega) (λr5 H5 C z f5=>?_))));obtain⟨x,r,g⟩:=xhc (ks:=ks) C (by rw[<- J];exact z);exact(xah Z _ _ _ rfl rfl (SqL.of (f5.1 _ _ ups G)) r (q x _ g (((Fed.refl Y).same e).trans f5)))
theorem RelDs.rev{H:Hp}:∀{vs:List V} {ds:List D},RelDs H vs ds->RelDs H vs.reverse ds.reverse
 |vs,[],h=>by rw[show vs=[] from h];rfl
 |vs,d::ds,⟨v,r,e,b,a⟩=>by
  subst e;rw[List.reverse_cons,List.reverse_cons];exact(RelDs.rev a).append (xaw v ([]) rfl b rfl)
theorem xnl{α:Type}{l:List α}(h:l.Nodup):l.reverse.Nodup:=List.pairwise_reverse.mpr (h.imp λh=>Ne.symm h)
def bKV(bs:List (Str×Str)):List (Key×V):=bs.map λb=>(Sum.inr b.1,.str b.2)
theorem xkx{H:Hp}:∀{us:List V} {bs:List (Str×Str)},RelDs H us (bs.map xkb)->PairsV H us (bKV bs)
 |us,[],h=>by rw[show us=[] from h];trivial
 |us,b::bs,⟨v,r,e,g,f⟩=>by
  subst e;obtain⟨a,ws,rfl,c,_,_,rfl,rfl,_,_,rfl,rfl,rfl⟩:=g;exact⟨(jEA a rfl c),xkx f⟩
theorem xl4{a b c d r:V}{i j:Int}(h:i=j):[a,b,c,d,r,V.int i]=[a,b,c,d,r,V.int j]:=by rw[h]
theorem xfu{ks:List Kn}(a:KWf ks){k:Kn}(h:k∈ks){p:Str×Str}(b:p∈k.parts):KIn ks 6 p.2:=by
 obtain⟨i,hi,e⟩:=zMI h;have:=a.few;exact KIn.mono (n:=i) (a.ref i k (by rw[<- e];exact zGA hi) p b) (by omega)
def spTw(c:Nat):Sp:=λvs H Q _=>∃(f:Addr) (kv bv:V) (ks:List Kn) (bs:List (Str×Str)) (x:Str) (room:Int) (m j:Nat),vs=[.ref f,kv,bv,.str x,.int room,.int (m:Int)]/\c=7*m+j/\j<=6/\TIn H f kv bv ks bs (m+1)/\m<=7/\KIn ks j x/\smK ks x<=room/\∀a d H',Fed f H H'->RelD H' (.ref a) d->TmB ks (c+1) bs d x->Q (.ref a) H'
def xo0(c:Nat):Sp:=λvs H Q E=>∃c',c'<c/\spTw c' vs H Q E
def xmr:Sp:=λvs H Q _=>∃(f l:Addr) (p q:Int) (zs:List Str),vs=[.ref f,.ref l]/\H f=some (.lst [.int p,.int q])/\H l=some (.lst (zs.map V.str))/\zs≠[]/\zs.length<=100/\l≠f/\∀z t H',z∈zs->Fed f H H'->RelD H' (.ref t) (tBox z)->Q (.ref t) H'
def xjl(m:Nat):Sp:=λvs H Q _=>∃(f:Addr) (kv bv pvv:V) (ks:List Kn) (bs ps:List (Str×Str)) (x:Str) (room:Int),vs=[.ref f,kv,bv,pvv,.str x,.int room,.int ((m+1:Nat):Int)]/\TIn H f kv bv ks bs (m+2)/\m<7/\RelD H pvv (xda ps)/\ps≠[]/\ps.length<=5/\(ps.map (·.1)).Nodup/\(∀p∈ps,KIn ks 6 p.2)/\KIn ks 6 x/\smK ks x*(ps.length:Int)<=room ∧
 ∀(u:V) (rs:List (Str×Str×D)) (H':Hp),Fed f H H'->RelD H' u (.tup (rs.map dArm))->rs.length=ps.length->(∀r∈rs,∃p∈ps,p.1=r.1)->(rs.map (·.1)).Nodup->(∀p∈ps,∃z e,(p.1,z,e)∈rs/\(∀q∈bs,q.1≠z)/\ArmN ks z/\TmB ks (7*m+7) (bs++[(z,p.2)]) e x)->Q u H'
theorem xng(T:Tx K g)(a:DefIs P w K g base n "_law_take" qac xcl):DefIs P w K g base (n+1) "_law_boxed" qay xmr:=by
 refine DefIs.of T.j2 xmw (by walk_at"l") (λf M A outer s H vs Q E G h=>?_);obtain⟨J,l,p,x,zs,rfl,I,j,e,m,y,q⟩:=h;refine(jEA _ (zpo (xaf (xak (pc pS (pc (pxl K (pv 1) (pd a G (va 0 (pc (xaq (xad (K:=K) rfl) rfl T.kQ PySem.boot_len (v1 1)) pN zsc)))) pN ss) so)))) ?_);have z:0<zs.length:=List.length_pos_iff.mpr e;have c:(zs.map V.str).length=zs.length:=zLM _;refine(xap _ rfl _ rfl _ rfl l _ rfl (.inl (SqL.of j)) (xah J p x _ rfl I (by rw[c];omega) (by rw[c];omega) (λr U O u o=>?_)));rw[c]at u;obtain⟨i,rfl⟩:∃i:Nat,r=(i:Int):=⟨r.toNat,by omega⟩;have b:i<zs.length:=by omega
 refine(xas l _ _ (.str zs[i]) rfl rfl (SqL.of (o.1 _ _ j y)) (xa0 (by rw[zGM,zGA b];rfl)) (by walk_at"s") (λt C=>?_));have st:=Same.new C (.tup [.str (S "box"),.str zs[i]]);exact q zs[i] t _ (List.getElem_mem b) (o.same st) (xao t _ rfl ups _ _ rfl rfl _ (jEAA _ rfl rfl rfl))
theorem xpg(T:Tx K mg){c:Nat}(hc:7*m+6<c)(l:DefIs P w K mg base n "_law_take" qac xcl)(g:DefIs P w K mg base n "_law_term" qae (xo0 c)):DefIs P w K mg base (n+1) "_law_arms" qba (xjl m):=by
 refine DefIs.of T.j3 scl_arms (by walk_at"l") (λf bc A outer s H vs Q E hr h=>?_);obtain⟨f',kv,bv,ba,ks,bs,ps,x,y,rfl,U,m8,ax,b0,h5,ag,ay,ab,a5,q⟩:=h;have nd:=scl_arms.nd;have hu:=xeh hr
 refine⟨_,(zpn (psn 7 nd (xca pN))
   (zpn (psn 8 nd (xaj xb3 (pv 5) (xaq (xad (K:=K) rfl) rfl T.kQ PySem.boot_len (v1 3))))
   (zpn (xcg PassesOwn.never rfl (xa1 (K:=K) rfl (pv 3)) (xbl (K:=K) rfl rfl (xae (pgn 9 nd) (xae (pgn 10 nd) xbh)))
   (zpn (psn 11 nd (xaj xdt pS (xls xk4 pS (pv 6) (λ_ _=>rfl))))
   (zpo (xby (xc9 PySem.F.plainAttrs_list PySem.F.slot_list_append PySem.F.type_list_append xbw (pv 7) (pc (xak (va 9 (va 11 (pc (pd g hr (va 0 (va 1 (pc (xaj xfp (pv 2) (xca (pc (xak (va 11 (v1 10))) pN sT))) (va 4 (va 8 (pc (xaj xck (pv 6) pI) pN xaz))) xaz)))) pN zsc)))) pN sT))))))
   (zpn (xa8 (pR xbd (pd l hr (va 0 (pc pI pN so))) pI (nM _)) (zpo (xby (xqo PySem.F.plainAttrs_list PySem.F.slot_list_reverse PySem.F.type_list_reverse xgh (pv 7)))) pQ)
   (zpo (xaf (xay (xbq (K:=K) rfl) rfl T.kX PyProof.Rows.boot_tuple (v1 7)))))))),xab λR1 b7=>?_⟩
 refine⟨(by walk_at"s"),λal Z=>?_⟩;have s0:=Same.new Z (.lst []);obtain⟨p0,q0,hf⟩:=U.fd;have O:al≠f':=Ne.symm (neN hf Z);obtain⟨pa,us,rfl,a9,ae⟩:=ax;have hl:=ae.length;rw[zLM]at hl;have b8:0<ps.length:=List.length_pos_iff.mpr b0;have a8:(0:Int)<(us.length:Int):=by omega
 have b2:(((m+1:Nat):Int))-1=(m:Int):=by omega
 have aa:smK ks x<=y / (us.length:Int):=by
  refine(Int.le_ediv_iff_mul_le a8).mpr ?_;rw[hl];exact a5
 refine b7 _ _ (xab λR2 b6=>?_);refine(xbb _ rfl _ rfl pa _ rfl (.inr (SqT.of (s0 _ _ a9))) _ (xbt _ rfl rfl ⟨by omega,by omega⟩ ?_));refine b6 _ _ (xab λR3 b5=>?_);refine(xa3 _ rfl pa rfl ⟨_,SqT.of (s0 _ _ a9)⟩ ?_)
 refine xdp (xs:=us) (λi σ H'=>∃(ws:List V) (rs:List (Str×Str×D)) (o8 o9 a3:Option V),σ=[some (.ref f'),some kv,some bv,some (.ref pa),some (.str x),some (.int y),some (.int ((m+1:Nat):Int)),some (.ref al),some (.int (y / (us.length:Int))),o8,o9,a3]/\Fed f' H H'/\H' al=some (.lst ws)/\RelDs H' ws (rs.map dArm)/\rs.map (·.1)=(ps.take i).map (·.1)/\∀p∈ps.take i,∃z e,(p.1,z,e)∈rs/\(∀q∈bs,q.1≠z)/\ArmN ks z/\TmB ks (7*m+7) (bs++[(z,p.2)]) e x)
  (xag ([]) ([]) none none none rfl ((Fed.refl hf).same s0) ups rfl rfl (λp C=>by rw[List.take_zero]at C;exact nomatch C)) (λi σ H' _ p=>?_) ?_ ?_
 ·obtain⟨_,_,_,_,_,_,G,_⟩:=p
  exact SqT.of (xai U.fd G _ _ a9)
 ·rintro i vv σ H1 ac ⟨ws,rs,o8,o9,a3,rfl,G,J,I,o,M⟩
  have tp:=xai U.fd G;obtain⟨d,hd,rd⟩:=ae.get ac;rw[zGM]at hd;obtain⟨pr,a7,rfl⟩:=zMS hd;obtain⟨b,wz,rfl,hb,_,_,rfl,rfl,_,_,rfl,rfl,rfl⟩:=rd;have az:=zMG a7;have bb:i<us.length:=(zES ac).1;have ar:=I.length
  have a6:rs.length<=5:=by
   have:=congrArg List.length o;rw[zLM,zLM,List.length_take]at this;omega
  rw[zLM]at ar;refine(xa2 b _ rfl (SqT.of (tp _ _ hb)) rfl _ _ rfl _ (jEAA _ rfl rfl (xab λR4 b4=>?_)));have e2:(Str.ofString "by").length=2:=by walk_at"k"
  refine(jEA _ rfl (xal _ _ _ rfl rfl (by walk_at"k") (xpz (i:=m+1) (by omega)) (xb0 _ _ rfl rfl (fits (by rw[e2];show 2+1<=_;decide)) ?_)));rw[show Str.ofString "by"++(⟨#[97+(m+1)]⟩:Str)=byN (m+1) from xp7 (m+1)];have hy:∀b∈bs,b.1≠byN (m+1):=λb hb=>U.fr b hb (m+1) (by omega);have aq:∀j,j<m+1->byN (m+1)≠byN j:=λj hj e=>by have:=xss e;omega
  have t3:=U.fed G;obtain⟨bd,ak,e3,ai,a0,b9⟩:=t3.bx;cases e3;obtain⟨p3,q3,h3⟩:=G.2;refine b4 _ _ ?_;refine(xa4 _ rfl (.inl (jAE rfl _ (SqL.of J))) _ rfl (xax _ rfl _ rfl _ rfl _ rfl _ rfl (jEAA _ rfl (by walk_at"s") (λt1 aw=>⟨(by walk_at"s"),λl1 b1=>?_⟩))));have y1:=Same.new aw (.tup [.str (byN (m+1)),.str pr.2]);have y2:=Same.new b1 (.lst [.ref t1]);have af:=a0.length;rw[zLM]at af;have b3:=U.bl;refine(xas _ l1 _ _ rfl rfl ((y1.trans y2) _ _ ai) ups (fits (by show _+1<=_;omega)) (λl2 ah=>?_));have y3:=Same.new ah (.lst (ak++[.ref t1]));have a2:=y1.trans (y2.trans y3);have t4:=t3.same a2;have ao:l2≠f':=Ne.symm (neN ((y1.trans y2) _ _ h3) ah);refine(xap _ rfl _ rfl _ rfl _ _ rfl rfl (xa7 (7*m+6) hc f' kv (.ref l2) ks (xag (bs++[((byN (m+1)),pr.2)]) x (y / (us.length:Int)) m 6 (xl4 b2) rfl (by decide) ⟨t4.fd,t4.kd,t4.wf,t4.nb,(xb0 l2 _ rfl ups ?_ ao),?_,?_,?_,?_⟩ (by omega) (jAA ab aa (λu dd H6 f6 ru au=>?_)))))
  ·rw[zAP]
   exact(a0.same a2 _).append (xaw _ ([]) rfl (xao t1 _ rfl ((y2.trans y3) _ _ ups) _ _ rfl rfl _ (jEAA _ rfl rfl rfl)) rfl)
  ·rw[zAP]
   exact xj1 U.nd λhm=>by
    obtain⟨b',a,e'⟩:=zMP hm;exact hy b' a e'
  ·rw[zLA,List.length_singleton]
   omega
  ·intro b' a j hj
   rcases zMA a with a |a
   ·exact U.fr b' a j (by omega)
   ·rw[zMO a]
    exact aq j hj
  ·intro b' a
   rcases zMA a with a |a
   ·exact U.kn b' a
   ·rw[zMO a]
    exact ay pr az
  refine⟨(by walk_at"s"),λt6 av=>?_⟩;have F6:Fed f' H1 H6:=((Fed.refl h3).same a2).trans f6;have st:=Same.new av (.tup [.str pr.1,.str (byN (m+1)),.ref u]);have Y:=st _ _ (F6.1 _ _ J O);have am:=(I.tups (xai G.2 F6) _).same st _;refine(xal al ws _ rfl rfl Y (xa5 (by omega)) (xag _ (rs++[(pr.1,(byN (m+1)),dd)]) _ _ _ rfl (Fed.put ((G.trans F6).same st) Z O _) ups ?_ ?_ (λp C=>?_)))
  ·rw[zAP]
   exact(am.tups (xco Y _) _).append (xaw _ ([]) rfl (xao t6 _ rfl (xco Y _ _ _ ups) _ _ rfl rfl _ (xbj _ rfl rfl _ _ rfl ((ru.same st _).tups (xco Y _) _) rfl)) rfl)
  ·rw[zAP,o,zTA,a7,zAP]
   rfl
  ·rw[zTA,a7]at C
   rcases zMA C with C |C
   ·obtain⟨z,e,g1,g2,g3⟩:=M p C
    exact(xaw z e (List.mem_append_left _ g1) g2 g3)
   ·have ep:p=pr:=by simpa using C
    rw[ep];exact(xb0 (byN (m+1)) dd (List.mem_append_right _ (by simp)) hy (.inl ⟨m+1,rfl⟩) au)
 ·rintro σ H1 ⟨ws,rs,o8,o9,a3,rfl,G,J,I,o,M⟩
  rw[zTL (by omega)]at o M
  have a6:rs.length=ps.length:=by
   have:=congrArg List.length o
   rwa[zLM,zLM]at this
  have a1:∀r∈rs,∃p∈ps,p.1=r.1:=λr hr=>by
   have:r.1∈rs.map (·.1):=List.mem_map_of_mem hr;rw[o]at this;obtain⟨p,C,e⟩:=zMP this;exact(jEA p C e)
  obtain⟨p1,q1,h1⟩:=G.2;refine b5 _ _ (xab λR5 aj=>?_);refine(xaa _ rfl f' p1 q1 _ rfl h1 (by decide) (by decide) (λr H2 r0 r1 f2=>(jAEA rfl _ rfl (ite2 (λc=>?_) (λc=>?_)))))
  ·have a4:=f2.1 _ _ J O
   have an:=I.tups (xai G.2 f2) _;refine(xbj _ rfl (.inl (jAE rfl _ (SqL.of a4))) al ws rfl rfl ⟨a4,?_⟩);refine aj _ _ ?_;refine(jEA _ rfl (jEEA al _ rfl (.inl ⟨SqL.of ups,λt ht=>?_⟩)));have st:=Same.new ht (.tup ws.reverse);refine q _ rs.reverse _ ((Fed.put (G.trans f2) Z O _).same st) (xaw t _ rfl ups ?_) (by rw[List.length_reverse];exact a6) (λr hr=>a1 r (List.mem_reverse.mp hr)) ?_ λp C=>?_
   ·rw[List.map_reverse]
    exact(RelDs.rev (an.tups (xco a4 _) _)).same st _
   ·rw[List.map_reverse]
    exact xnl (by rw[o];exact ag)
   ·obtain⟨z,e,h1,h2,h3⟩:=M p C
    exact(xaw z e (List.mem_reverse.mpr h1) h2 h3)
  ·refine aj _ _ ?_
   refine(jEA _ rfl (jEEA al _ rfl (.inl ⟨SqL.of (f2.1 _ _ J O),λt ht=>?_⟩)));have st:=Same.new ht (.tup ws);exact q _ rs _ ((G.trans f2).same st) (xaw t _ rfl ups ((I.tups (xai G.2 f2) _).same st _)) a6 a1 (by rw[o];exact ag) M
def PtAt(H:Hp)(ks:List Kn)(k:Kn)(room:Int)(w:V):Prop:=∃(b:Addr) (p:Str×Str),w=.ref b/\H b=some (.tup [.str p.1,.str p.2])/\p∈k.parts/\smK ks p.2<room
theorem PtAt.tups{H c:Hp}{ks:List Kn}{k:Kn}{a:Int}{w:V}(h:PtAt H ks k a w)(s:∀b us,H b=some (.tup us)->c b=some (.tup us)):PtAt c ks k a w:=by
 obtain⟨b,p,e,f,r⟩:=h;exact(xaw b p e (s _ _ f) r)
theorem xrn{r:Int}(h0:0<=r)(h:r<5):∃c,atI (S "+-*<=").cps.toList r=some c/\Sg ⟨#[c]⟩:=by
 obtain⟨i,rfl⟩:∃i:Nat,r=(i:Int):=⟨r.toNat,by omega⟩;have hi:i=0\/i=1\/i=2\/i=3\/i=4:=by omega
 rcases hi with rfl |rfl |rfl |rfl |rfl
 ·exact(jEA 43 (xa0 (by walk_at"k")) (.inl (by walk_at"k")))
 ·exact(jEA 45 (xa0 (by walk_at"k")) (.inr (.inl (by walk_at"k"))))
 ·exact(jEA 42 (xa0 (by walk_at"k")) (.inr (.inr (.inl (by walk_at"k")))))
 ·exact(jEA 60 (xa0 (by walk_at"k")) (.inr (.inr (.inr (.inl (by walk_at"k"))))))
 ·exact(jEA 61 (xa0 (by walk_at"k")) (.inr (.inr (.inr (.inr (by walk_at"k"))))))
theorem xjb{α β:Type}{R:α->β->Prop}:∀{as:List α} {bs:List β} {a:α} {b:β},All2 R as bs->R a b->All2 R (as++[a]) (bs++[b])
 |_,_,_,_,.nil,h=>.cons h .nil
 |_,_,_,_,.cons h t,k=>.cons h (xjb t k)
theorem xq0{ks:List Kn}:∀(n:Nat) (env:En) (d v:D),Evs ks n env d v->Evs ks (n+1) env d v
 |0,_,_,_,h=>.inl h
 |n+1,env,d,v,h=>by
  rcases h with h |⟨h,g⟩
  ·exact .inl h
  ·exact .inr ⟨h.mono (xq0 n),g⟩
theorem xuc{ks:List Kn}{n m:Nat}(l:n<=m){env:En}{d v:D}(h:Evs ks n env d v):Evs ks m env d v:=by
 obtain⟨k,rfl⟩:∃k,m=n+k:=⟨m-n,by omega⟩;clear l
 induction k with
 |zero=>exact h
 |succ k a=>exact xq0 _ _ _ _ a
theorem TmB.le{ks:List Kn}{n m:Nat}{bs:List (Str×Str)}{d:D}{x:Str}(h:TmB ks n bs d x)(l:n<=m):TmB ks m bs d x:=⟨λenv a=>by
 obtain⟨v,c,b⟩:=h.1 env a;exact(jEA v (xuc l c) b),λenv a=>xu5 l (h.2 env a)⟩
theorem xf7 (T:Tx K mg) {c:Nat} (G:DefIs P w K mg base n "_law_sort_of" qab xfj) (o:DefIs P w K mg base n "_law_take" qac xcl) (I:DefIs P w K mg base n "_law_number" qa8 xqh) (l:DefIs P w K mg base n "_law_small" qab (spSm smK 6)) (g:DefIs P w K mg base n "_law_term" qae (xo0 c)) :
  DefIs P w K mg base (n+1) "_law_whole_term" qae (spTw c):=by
 refine DefIs.of T.j4 scl_whole_term (by walk_at"l") (λf bu A outer s H vs Q E hr h=>?_);obtain⟨Y,kv,bv,ks,bs,x,C,m,j,rfl,bt,bd,ti,m8,am,bb,q⟩:=h;have nd:=scl_whole_term.nd;have wf:=ti.wf;have an:KIn ks 6 x:=am.mono bd
 refine⟨_,(zpn (xc6 (pd G hr (va 1 (v1 3))) (xbl (K:=K) rfl rfl (xae (pgn 6 nd) (xae (pgn 7 nd) xbh))))
   (zpn (xa8 (pR xbd (pv 6) pS (nM _)) (zpn (xa8 (PW.pt (xlr (pR xez (pv 4) pI (nM _)) (xlr (pR xbd (pv 5) pI (nM _)) (xku (pR xbd (pd o hr (va 0 (pc pI pN so))) pI (nM _)))))) (zpo (xaf (xak (pc pS (pc (pd I hr (v1 0)) pN zsc) so)))) pQ)
   (zpn (psn 8 nd (pd g hr (va 0 (va 1 (va 2 (pc pS (pc (xaj xb3 (xaj xck (pv 4) pI) pI) (pc (xaj xck (pv 5) pI) pN xaz) xaz) so))))))
   (zpn (psn 9 nd (pd g hr (va 0 (va 1 (va 2 (pc pS (pc (xaj xb3 (xaj xck (pv 4) pI) pI) (pc (xaj xck (pv 5) pI) pN xaz) xaz) so))))))
   (zpo (xaf (xak (pc pS (pc (xls xk4 pS (pd o hr (va 0 (pc pI pN so))) (λ_ _=>rfl)) (va 8 (v1 9)) ss) so))))))) pQ)
   (zpn (xa8 (pR xbd (pv 6) pS (nM _)) (zpn (xc0 (i:=10) ["_law_part","_law_room","_law_kinds_here"] [none,some 4,some 1] rfl (by kernel_rfl) nd rfl (by walk_at"o") (xa1 (K:=K) rfl (pv 7)) (λ_ _ _ _=>(pgc 0)) (λ_ _ _ _=>(xd9 (pR xez (pd l hr (va 2 (pc (px K (pv 0) pI) pN ss))) (pv 1) (nM _)))) (λ_ _ _ _=>(pv 0)))
   (zpn (xc6 (pxl K (pv 10) (pd o hr (va 0 (pc (xaq (xad (K:=K) rfl) rfl T.kQ PySem.boot_len (v1 10)) pN zsc)))) (xbl (K:=K) rfl rfl (xae (pgn 11 nd) (xae (pgn 12 nd) xbh))))
   (zpo (xaf (xak (pc pS (va 3 (va 11 (pc (pd g hr (va 0 (va 1 (va 2 (va 12 (pc (xaj xck (pv 4) pI) (v1 5) xaz)))))) pN zsc))) so)))))) pQ)
   (zpn (psn 13 nd (xaj xck (pv 4) (pd l hr (va 1 (v1 3)))))
   (zpn (psn 14 nd (xca pN))
   (zpn (xcg PassesOwn.never rfl (xa1 (K:=K) rfl (pv 7)) (xbl (K:=K) rfl rfl (xae (pgn 15 nd) (xae (pgn 12 nd) xbh)))
   (zpo (xby (xc9 PySem.F.plainAttrs_list PySem.F.slot_list_append PySem.F.type_list_append xbw (pv 14) (pc (pd g hr (va 0 (va 1 (va 2 (va 12 (pc (xaj xba (pd l hr (va 1 (v1 12))) (xaj xb3 (pv 13) (xaq (xad (K:=K) rfl) rfl T.kQ PySem.boot_len (v1 7)))) (v1 5) xaz)))))) pN zsc)))))
   (zpo (xaf (xak (pc pS (va 3 (pc (xay (xbq (K:=K) rfl) rfl T.kX PyProof.Rows.boot_tuple (v1 14)) pN zsc)) so)))))))))),xab λR1 bl=>?_⟩
 refine(xam _ rfl _ rfl kv ks x (jAA rfl ((wf.ksAt ti.kd).seq) (λt bm H1 s1 ht rp=>?_)));refine(xa2 t _ rfl (SqT.of ht) rfl _ _ rfl _ (jEAA _ rfl rfl ?_));refine bl _ _ (xab λR2 az=>?_);have t1:=ti.same s1;obtain⟨p1,q1,h1⟩:=t1.fd;obtain⟨p0,q0,hf⟩:=ti.fd;have F1:Fed Y H H1:=(Fed.refl hf).same s1;rcases am.look wf with⟨rfl,Z⟩ |⟨j',k,bc,Z,hn,a6,av⟩
 ·refine(xa4 _ rfl rfl _ rfl (iteKT (zDT (by rw[Z];rfl)) ?_))
  have RN:∀(H2:Hp) (f2:Fed Y H1 H2),∀(i:Int) (H3:Hp),Nm i->Fed Y H2 H3->∀t,H3 t=none->Q (.ref t) (upd H3 t (.tup [.str (S "num"),.int i])):=λH2 f2 i H3 hi f3 t ht=>by
   have st:=Same.new ht (.tup [.str (S "num"),.int i]);exact q _ (tNum i) _ (((F1.trans f2).trans f3).same st) (xao t _ rfl ups _ _ rfl rfl _ (jEAA _ rfl rfl rfl)) (xs3 hi)
  refine(xbg _ rfl _ _ rfl rfl _ rfl (ite2 (λc1=>?_) (λc1=>?_)))
  ·exact iteT (jEA _ rfl (xb7 Y p1 q1 rfl h1 (λi H3 hi f3=>⟨(by walk_at"s"),λt ht=>RN H1 (Fed.refl h1) i H3 hi f3 t ht⟩)))
  refine(xa4 _ rfl rfl _ rfl (ite2 (λc2=>?_) (λc2=>?_)))
  ·exact iteT (jEA _ rfl (xb7 Y p1 q1 rfl h1 (λi H3 hi f3=>⟨(by walk_at"s"),λt ht=>RN H1 (Fed.refl h1) i H3 hi f3 t ht⟩)))
  have bx:¬C<3:=λz=>c1 (zDT z);have bw:¬(m:Int)=0:=λz=>c2 (zDT (congrArg V.int z));obtain⟨m',rfl⟩:∃m',m=m'+1:=⟨m-1,by omega⟩;have aw:(((m'+1:Nat):Int))-1=(m':Int):=by omega
  refine(xaa _ rfl Y p1 q1 _ rfl h1 (by decide) (by decide) (λr H2 r0 r1 f2=>(jAEA rfl _ rfl (ite2 (λc3=>?_) (λc3=>?_)))))
  ·obtain⟨p2,q2,h2⟩:=f2.2
   exact(jEA _ rfl (xb7 Y p2 q2 rfl h2 (λi H3 hi f3=>⟨(by walk_at"s"),λt ht=>RN H2 f2 i H3 hi f3 t ht⟩)))
  have t2:=t1.fed f2;have ba:=(xmt wf).1;have ar:smK ks (S "num")<=(C-1) / 2:=by rw[ba];omega
  refine(jEA _ rfl (xap _ rfl _ rfl _ rfl _ _ rfl rfl (xb0 _ _ rfl rfl ⟨by decide,by decide⟩ (xat _ rfl _ _ rfl rfl ?_))));refine(xa7 (7*m') (by omega) Y kv bv ks (xag bs (S "num") ((C-1) / 2) m' 0 (xl4 aw) rfl (by decide) (t2.down (by omega)) (by omega) (jAA (.inl rfl) ar (λu1 d1 H3 f3 b4 b8=>?_))));have t3:=t2.fed f3;refine(jEA _ rfl (xap _ rfl _ rfl _ rfl _ _ rfl rfl (xb0 _ _ rfl rfl ⟨by decide,by decide⟩ (xat _ rfl _ _ rfl rfl ?_))));refine(xa7 (7*m') (by omega) Y kv bv ks (xag bs (S "num") ((C-1) / 2) m' 0 (xl4 aw) rfl (by decide) (t3.down (by omega)) (by omega) (jAA (.inl rfl) ar (λu2 d2 H4 f4 b3 af=>?_))));have t4:=t3.fed f4;obtain⟨p4,q4,h4⟩:=t4.fd;refine(xaa _ rfl Y p4 q4 _ rfl h4 (by decide) (by decide) (λr' H5 b6 b5 f5=>?_));obtain⟨ch,be,b9⟩:=xrn b6 b5;refine(xal _ _ ch rfl rfl (by walk_at"k") be (xa3 _ rfl _ rfl (by walk_at"s") (λt' ag=>?_)));have st:=Same.new ag (.tup [.str (S "op"),.str ⟨#[ch]⟩,.ref u1,.ref u2]);exact q _ (tOpD ⟨#[ch]⟩ d1 d2) _ (((((F1.trans f2).trans f3).trans f4).trans f5).same st) (xao t' _ rfl ups _ _ rfl rfl _ (xbj _ rfl rfl _ _ rfl (((b4.tups (xai t3.fd f4) _).tups (xai t4.fd f5) _).same st _) (xaw _ _ rfl ((b3.tups (xai t4.fd f5) _).same st _) rfl))) (TmB.le (xul wf b9 b8 af) (by omega))
 ·subst bc
  rw[Z]at rp;obtain⟨a,us,rfl,ha,ac⟩:=rp;have hl:=ac.length;rw[zLM]at hl;have h5:=wf.pts k a6;have a5:xf4 (kAt ks x)=k.sort:=by rw[Z];rfl
  have es:=(xtg wf Z).1;unfold smS at es
  cases hc:k.rc with
  | false=>
   rw[if_neg (by rw[hc];decide)]at es;refine(xa4 _ rfl rfl _ rfl (iteKF (zDF (by rw[a5,xel hc];decide +kernel)) ?_));refine az _ _ (xab λR3 ay=>?_);refine(xa4 _ rfl rfl _ rfl (iteKT (zDT (by rw[a5,xel hc];rfl)) ?_));refine(xa3 _ rfl a rfl ⟨_,SqT.of ha⟩ ?_);refine xbs (xs:=us) (λi ys H'=>Same H1 H'/\(∀z∈ys,PtAt H' ks k C z)/\(1<=i->ys≠[])) (jAA (Same.refl _) (λ_ h=>nomatch h) (λh=>absurd h (by decide))) (xa5 (by omega)) (λi ys H' _ p=>SqT.of (p.1 _ _ ha)) ?_ ?_
   ·rintro i y ys H' hy ax ai ⟨M,a3,ah⟩
    obtain⟨d',a1,a8⟩:=ac.get hy;rw[zGM]at a1;obtain⟨pr,J,rfl⟩:=zMS a1;obtain⟨b,b0,rfl,hb,_,_,rfl,rfl,_,_,rfl,rfl,rfl⟩:=a8;have O:=zMG J
    have first:i=0->smK ks pr.2<C:=λe0=>by
     subst e0
     cases au:k.parts with
     |nil=>rw[au]at J;simp at J
     |cons p r=>
      rw[au]at J es;simp at J;subst J;have es':smK ks x=1+smK ks p.2:=es;omega
    refine⟨xf0 rfl,?_⟩;refine(xam _ rfl _ rfl b _ _ (xbi _ rfl rfl (SqT.of (M _ _ hb)) rfl (xal kv ks pr.2 rfl (t1.kd.same M _) wf (xfu wf a6 O) (λH3 s3=>(xbg _ rfl _ _ rfl rfl _ rfl (ite2 (λc1=>?_) (λc1=>?_)))))))
    ·refine(jEA _ rfl (nxtG ax ai (jAA (M.trans s3) (λz hz=>?_) (λ_=>by simp))))
     rcases zMA hz with hz |hz
     ·exact(a3 z hz).tups λb us q=>s3 _ _ q
     ·rw[zMO hz]
      exact(xb0 b pr rfl (s3 _ _ (M _ _ hb)) O (of_decide_eq_true c1))
    ·refine nxtN ax ai (jAA (M.trans s3) (λz hz=>(a3 z hz).tups λb us q=>s3 _ _ q) (λ_=>?_))
     by_cases e0:i=0
     ·exact absurd (zDT (first e0)) c1
     ·exact ah (by omega)
   ·rintro ys H2 ai ⟨M,a3,ah⟩ D hD
    have bq:k.parts.length≠0:=λe=>wf.alt k a6 hc (List.length_eq_zero_iff.mp e);have al:=ah (by omega);have bn:0<ys.length:=Nat.pos_of_ne_zero λe=>al (List.length_eq_zero_iff.mp e);have sD:=Same.new hD (.lst ys);have a0:=M.trans sD;have Df:D≠Y:=Ne.symm (neN (M _ _ h1) hD);refine(xap _ rfl _ rfl _ rfl D _ rfl (.inl (SqL.of ups)) (xah Y p1 q1 _ rfl (a0 _ _ h1) (by omega) (by omega) (λr H5 r0 r1 f5=>?_)));obtain⟨i,rfl⟩:∃i:Nat,r=(i:Int):=⟨r.toNat,by omega⟩;have aj:i<ys.length:=by omega
    have t2:=t1.same a0;have b1:=xai t2.fd f5;obtain⟨b,p,eb,hb,O,bp⟩:=((a3 ys[i] (List.getElem_mem aj)).tups λb us q=>sD _ _ q).tups b1;have bf:atI ys (i:Int)=some (.ref b):=xa0 (by rw[zGA aj,eb]);refine(xbm D _ _ _ rfl rfl (SqL.of (f5.1 _ _ ups Df)) bf b (xbt _ rfl (SqT.of hb) rfl (jEEA _ _ rfl (xaw _ _ rfl rfl ?_))));have t5:=t2.fed f5;refine(xax _ rfl _ rfl _ rfl _ rfl _ rfl (xbb _ rfl _ rfl _ _ rfl rfl _ ⟨rfl,?_⟩));refine(xa7 (7*m+j') (by omega) Y kv bv ks (xag bs p.2 (C-1) m j' rfl rfl (by omega) t5 m8 (jAA (av p O) (by omega) (λu du H7 f7 ru ae=>⟨(by walk_at"s"),λt' ag=>?_⟩))));have st:=Same.new ag (.tup [.str (S "tag"),.str x,.str p.1,.ref u]);exact q _ (tTag x p.1 du) _ ((((F1.same a0).trans f5).trans f7).same st) (xao t' _ rfl ups _ _ rfl rfl _ (xbj _ rfl rfl _ _ rfl rfl (xaw _ _ rfl (ru.same st _) rfl))) (TmB.le (xs1 wf Z hc O ae) (by omega))
  | true=>
   rw[if_pos hc]at es;refine(xa4 _ rfl rfl _ rfl (iteKF (zDF (by rw[a5,xec hc];decide +kernel)) ?_));refine az _ _ (xab λR3 ay=>?_);refine(xa4 _ rfl rfl _ rfl (iteKF (zDF (by rw[a5,xec hc];decide +kernel)) ?_));refine ay _ _ (xab λR4 bj=>?_);refine(xbp _ rfl _ rfl _ rfl kv ks (xbi x rfl t1.kd wf an (λH2 s2=>(xaw _ _ rfl rfl ?_))));refine bj _ _ (xab λR5 bi=>?_);refine⟨(by walk_at"s"),λtl aq=>?_⟩;refine bi _ _ (xab λR6 bh=>?_);have a0:=s2.trans (Same.new aq (.lst []));have a7:=xav s2 aq;have ak:tl≠Y:=Ne.symm (neN h1 a7);refine(xa3 _ rfl a rfl ⟨_,SqT.of (a0 _ _ ha)⟩ ?_);refine xdp (xs:=us) (λi σ H'=>∃(ws:List V) (ds:List D) (aa a9:Option V),σ=[some (.ref Y),some kv,some bv,some (.str x),some (.int C),some (.int (m:Int)),some (.str (xf4 (kAt ks x))),some (.ref a),none,none,none,none,aa,some (.int (C-smK ks x)),some (.ref tl),a9]/\Fed Y H1 H'/\H' tl=some (.lst ws)/\RelDs H' ws ds/\All2 (λe (p:Str×Str)=>TmB ks (7*m+j'+1) bs e p.2) ds (k.parts.take i)) (xah ([]) ([]) none none rfl ((Fed.refl h1).same a0) ups rfl (by rw[List.take_zero];exact .nil)) (λi σ H' _ p=>?_) ?_ ?_
   ·obtain⟨_,_,_,_,_,fm,_⟩:=p
    exact SqT.of (xai t1.fd fm _ _ ha)
   ·rintro i vv σ H3 ao ⟨ws,ds,aa,a9,rfl,fm,a4,a2,U⟩
    have tp:=xai t1.fd fm;obtain⟨d',a1,a8⟩:=ac.get ao;rw[zGM]at a1;obtain⟨pr,J,rfl⟩:=zMS a1;obtain⟨b,b0,rfl,hb,_,_,rfl,rfl,_,_,rfl,rfl,rfl⟩:=a8;have O:=zMG J;have t3:=t1.fed fm;have bo:=a2.length;have bg:=U.length;rw[List.length_take]at bg;have aj:i<us.length:=(zES ao).1;refine(xa2 b _ rfl (SqT.of (tp _ _ hb)) rfl _ _ rfl _ (jEAA _ rfl rfl ?_));refine(xa4 _ rfl (.inl (jAE rfl _ (SqL.of a4))) _ rfl (xax _ rfl _ rfl _ rfl _ rfl _ rfl (xal kv ks pr.2 rfl t3.kd wf (xfu wf a6 O) (λH4 s4=>?_))));have br:0<=(C-smK ks x) / (us.length:Int):=Int.ediv_nonneg (by omega) (by omega);refine(xbb _ rfl _ rfl a _ rfl (.inr (SqT.of (s4 _ _ (tp _ _ ha)))) _ (xbt _ rfl rfl ⟨by omega,by omega⟩ (xaw _ _ rfl rfl (jEA _ rfl ?_))));have t4:=t3.same s4;refine(xa7 (7*m+j') (by omega) Y kv bv ks (xag bs pr.2 (smK ks pr.2+(C-smK ks x) / (us.length:Int)) m j' rfl rfl (by omega) t4 m8 (jAA (av pr O) (by omega) (λu du H5 f5 ru ae=>?_))));have ab:=f5.1 _ _ (s4 _ _ a4) ak;have b2:=(a2.same s4 _).tups (xai t4.fd f5) _;refine(xal tl ws _ rfl rfl ab (xa5 (by omega)) (xah _ (ds++[du]) _ _ rfl (Fed.put ((fm.same s4).trans f5) a7 ak _) ups ((b2.tups (xco ab _) _).append (xaw (.ref u) ([]) rfl (ru.tups (xco ab _) _) rfl)) ?_));rw[zTA,J];exact xjb U ae
   ·rintro σ H3 ⟨ws,ds,aa,a9,rfl,fm,a4,a2,U⟩
    rw[zTL (by omega)]at U;refine bh _ _ ?_;refine(jEA _ rfl (jEA _ rfl (jEEA tl ws rfl (.inl ⟨SqL.of a4,λt2 af=>⟨(by walk_at"s"),λt3 b7=>?_⟩⟩))));have y2:=Same.new af (.tup ws);have y3:=Same.new b7 (.tup [.str (S "rec"),.str x,.ref t2]);exact q _ (tRec x ds) _ ((F1.trans fm).same (y2.trans y3)) (xao t3 _ rfl ups _ _ rfl rfl _ (xbj _ rfl rfl _ _ rfl (xaw t2 ws rfl (y3 _ _ ups) (a2.same (y2.trans y3) _)) rfl)) (TmB.le (xs2 Z hc (by omega) U) (by omega))
structure Hold(R:Prop):Prop where
 go:R
theorem xqw{R A:Prop}(h:Hold R->A)(r:R):A:=h ⟨r⟩
theorem DefIs.anyP{P:Program}{w:World}{K:Fg}{e:Str->Option Value}{base:Heap}{n:Nat}{x:Str}{st:Stmt}{ps:List Str}{Pr:Nat->Prop}{sps:Nat->Sp}(T:DefTx K e x st ps)(D:∀m,Pr m->DefIs P w K e base n x ps (sps m)):DefIs P w K e base n x ps (λvs H Q E=>∃m,Pr m/\sps m vs H Q E):=by
 by_cases p:∃m,Pr m
 ·obtain⟨u,h0⟩:=p
  obtain⟨f,I,F,b,k,o,l⟩:=(D u h0).ex;refine⟨f,(xbi I ⟨?_,?_⟩ b k o l)⟩
  ·rintro vs H Q E ⟨m,g,h⟩
   obtain⟨J,i,j,_⟩:=(D m g).ex;exact j.1 vs H Q E h
  ·rintro A outer s H args us vs Q E G C z y ⟨m,g,h⟩
   obtain⟨J,i,j,U,O,a,c⟩:=(D m g).ex;rw[o]at a;cases a;obtain⟨M,od,r,l⟩:=l;obtain⟨_,_,_,c⟩:=c;rw[l]at c;cases c;exact j.2 A outer s H args us vs Q E G C z y h
 ·exact DefIs.none T λvs H Q E h=>p ⟨h.choose,h.choose_spec.1⟩
def xrm(c:Nat):Sp:=λvs H Q E=>∃m,7*m+6<c/\xjl m vs H Q E
theorem xl6{z:Str}:∀{bs:List (Str×Str)},(∀b∈bs,b.1≠z)->∀acc,valV (xcz acc (bKV bs)) (Sum.inr z)=valV acc (Sum.inr z)
 |[],_,acc=>rfl
 |b::bs,h,acc=>by
  have:=xl6 (bs:=bs) (λc a=>h c (by simp[a])) (putK acc (Sum.inr b.1) (.str b.2));show valV (xcz (putK acc (Sum.inr b.1) (.str b.2)) (bKV bs)) (Sum.inr z)=_;rw[this,xgr,if_neg];intro e;exact h b (by simp) (Sum.inr.inj e).symm
theorem xqb{z k:Str}:∀{bs:List (Str×Str)},(bs.map (·.1)).Nodup->(z,k)∈bs->∀acc,valV (xcz acc (bKV bs)) (Sum.inr z)=some (.str k)
 | b::bs,nd,h,acc=>by
  rw[List.map_cons,List.nodup_cons]at nd;show valV (xcz (putK acc (Sum.inr b.1) (.str b.2)) (bKV bs)) (Sum.inr z)=_;rcases zMC h with h |h
  ·subst h
   rw[xl6 (bs:=bs) (λc a e=>nd.1 (List.mem_map.mpr (jEA c a e))),xgr,if_pos rfl]
  ·exact xqb nd.2 h _
theorem xns{ks:List Kn}(f:KWf ks){y:Str}(h:KIn ks 6 y){H:Hp}{v:V}(b:RelD H v (xkw (kAt ks y))):∃ps,RelD H v (xda ps)/\ps.length<=5/\(xf4 (kAt ks y)=S "rec"->∃k,kAt ks y=some k/\k.rc=true/\k.parts=ps)/\(xf4 (kAt ks y)=S "alt"->∃k,kAt ks y=some k/\k.rc=false/\k.parts=ps):=by
 rcases h.look f with⟨rfl,e⟩ |⟨j,k,l,e,hn,g,i⟩
 ·rw[e]at b⊢
  exact(xbt ([]) b (by decide) (λz=>absurd z (by walk_at"k")) (λz=>absurd z (by walk_at"k")))
 ·rw[e]at b⊢
  refine(xbt k.parts b (by have:=f.pts k g;omega) (λz=>(jEAA k rfl ?_ rfl)) (λz=>(jEAA k rfl ?_ rfl)))
  ·cases c:k.rc with
   |true=>rfl
   |false=>
    have a:k.sort=S "rec":=z;rw[xel c]at a;exact absurd a (by walk_at"k")
  ·cases c:k.rc with
   |false=>rfl
   |true=>
    have a:k.sort=S "alt":=z;rw[xec c]at a;exact absurd a (by walk_at"k")
def HdAt(H:Hp)(ks:List Kn)(bs:List (Str×Str))(x:Str)(w:V):Prop:=∃(b:Addr) (z g y:Str) (k:Kn),w=.ref b/\H b=some (.tup [.str z,.str g])/\(z,y)∈bs/\kAt ks y=some k/\k.rc=true/\(g,x)∈k.parts
theorem HdAt.tups{H a:Hp}{ks:List Kn}{bs:List (Str×Str)}{x:Str}{w:V}(h:HdAt H ks bs x w)(s:∀b us,H b=some (.tup us)->a b=some (.tup us)):HdAt a ks bs x w:=by
 obtain⟨b,z,g,y,k,e,c,r⟩:=h;exact(xan b z g y k (jAA e (s _ _ c) r))
def TgOk(ks:List Kn)(bs:List (Str×Str))(z:Str):Prop:=∃(y:Str) (k:Kn),(z,y)∈bs/\kAt ks y=some k/\k.rc=false
theorem xpa (T:Tx K mg) {c:Nat} (C:DefIs P w K mg base n "_law_take" qac xcl) (a3:DefIs P w K mg base n "_law_boxed" qay xmr) (a2:DefIs P w K mg base n "_law_small" qab (spSm smK 6)) (e:DefIs P w K mg base n "_law_sort_of" qab xfj) (o:DefIs P w K mg base n "_law_term" qae (xo0 c)) (a6:DefIs P w K mg base n "_law_arms" qba (xrm c)) (M:DefIs P w K mg base n "_law_whole_term" qae (spTw c)) :
  DefIs P w K mg base (n+1) "_law_term" qae (spTw c):=by
 refine DefIs.of T.j5 scl_term (by walk_at"l") (λf da A outer s H vs Q E hr h=>?_);obtain⟨f',kv,bv,ks,bs,x,l,m,j,rfl,ac,a0,ti,m8,Z,J,q⟩:=h;have nd:=scl_term.nd;have hu:=xeh hr;have wf:=ti.wf;have ax:KIn ks 6 x:=Z.mono a0;have d8:=xkr wf x
 refine⟨_,(zpn (xc0 (i:=6) ["_law_x","_law_told","_law_kind"] [none,none,some 3] rfl (by kernel_rfl) nd rfl (by walk_at"o") (xbn (K:=K) rfl (pv 2)) (λ_ _ _ _=>(xbl (K:=K) (n:=2) rfl rfl (xae (pgc 0) (xae (pgc 1) xbh)))) (λ_ _ _ _=>(xd9 (pR xbd (pv 1) (pv 2) (nM _)))) (λ_ _ _ _=>(pv 0)))
   (zpn (psn 7 nd (pd C hr (va 0 (pc pI pN so))))
   (zpn (xa8 (PW.pt (xcj (pR xc7 (xaq (xad (K:=K) rfl) rfl T.kQ PySem.boot_len (v1 6)) pI (nM _)) (xb8 (pR xez (pv 7) pI (nM _))))) (zpo (xaf (pd a3 hr (va 0 (v1 6))))) pQ)
   (zpn (psn 8 nd (pd a2 hr (va 1 (v1 3))))
   (zpn (xa8 (PW.pt (xcj (pR xbd (pv 7) pI (nM _)) (xcj (pR xc7 (pv 5) pI (nM _)) (xb8 (pR xc7 (pv 4) (xaj xba (xaj xcr pI (pv 8)) pI) (nM _)))))) (zpn (psn 9 nd (xaj xb3 (xaj xck (xaj xck (pv 4) pI) (xaj xcr pI (pv 8))) pI))
   (zpn (psn 10 nd (pd o hr (va 0 (va 1 (va 2 (pc pS (pc (xaj xba pI (pv 9)) (pc (xaj xck (pv 5) pI) pN xaz) xaz) so))))))
   (zpn (psn 11 nd (pd o hr (va 0 (va 1 (va 2 (va 3 (pc (xaj xba (pv 8) (pv 9)) (pc (xaj xck (pv 5) pI) pN xaz) xaz)))))))
   (zpo (xaf (xak (pc pS (va 10 (va 11 (pc (pd o hr (va 0 (va 1 (va 2 (va 3 (pc (xaj xba (pv 8) (pv 9)) (pc (xaj xck (pv 5) pI) pN xaz) xaz)))))) pN zsc))) so))))))) pQ)
   (zpn (xa8 (PW.pt (xcj (pR xbd (pv 7) pI (nM _)) (xb8 (pR xc7 (pv 4) pI (nM _))))) (zpn (psn 12 nd (xca pN))
   (zpn (xcg PassesOwn.never rfl (xbn (K:=K) rfl (pv 2)) (xbl (K:=K) rfl rfl (xae (pgn 13 nd) (xae (pgn 14 nd) xbh)))
   (zpn (xc6 (pd e hr (va 1 (v1 14))) (xbl (K:=K) rfl rfl (xae (pgn 15 nd) (xae (pgn 16 nd) xbh))))
   (zpo (psn 12 nd (xaj xfp (pv 12) (xbo ["_law_f","_law_part","_law_x","_law_sort","_law_kind"] [none,none,some 13,some 15,some 3] rfl (by kernel_rfl) (xa1 (K:=K) rfl (pv 16)) (λ_ _ _ _=>(xbl (K:=K) (n:=2) rfl rfl (xae (pgc 0) (xae (pgc 1) xbh)))) (λ_ _ _ _=>(xd9 (PW.pt (xcj (pR xbd (pv 3) pS (nM _)) (xb8 (pR xbd (pv 1) (pv 4) (nM _))))))) (λ_ _ _ _=>(xak (va 2 (v1 0))))))))))
   (zpo (xa8 (pR xc7 (xaq (xad (K:=K) rfl) rfl T.kQ PySem.boot_len (v1 12)) pI (nM _)) (zpn (xc6 (pxl K (pv 12) (pd C hr (va 0 (pc (xaq (xad (K:=K) rfl) rfl T.kQ PySem.boot_len (v1 12)) pN zsc)))) (xbl (K:=K) rfl rfl (xae (pgn 13 nd) (xae (pgn 17 nd) xbh))))
   (zpo (xaf (xak (pc pS (pc (xak (pc pS (v1 13) so)) (v1 17) sT) so))))) pQ)))) pQ)
   (zpn (xa8 (PW.pt (xcj (pR xbd (pv 7) pI (nM _)) (xb8 (pR xc7 (pv 5) pI (nM _))))) (zpn (xc0 (i:=18) ["_law_x","_law_told","_law_kinds_here"] [none,none,some 1] rfl (by kernel_rfl) nd rfl (by walk_at"o") (xbn (K:=K) rfl (pv 2)) (λ_ _ _ _=>(xbl (K:=K) (n:=2) rfl rfl (xae (pgc 0) (xae (pgc 1) xbh)))) (λ_ _ _ _=>(xd9 (pR xbd (px K (pd e hr (va 2 (v1 1))) pI) pS (nM _)))) (λ_ _ _ _=>(pv 0)))
   (zpo (xa8 (pR xc7 (xaq (xad (K:=K) rfl) rfl T.kQ PySem.boot_len (v1 18)) pI (nM _)) (zpn (psn 13 nd (pxl K (pv 18) (pd C hr (va 0 (pc (xaq (xad (K:=K) rfl) rfl T.kQ PySem.boot_len (v1 18)) pN zsc)))))
   (zpn (psn 16 nd (px K (pd e hr (va 1 (pc (xci hu (xay (xc1 rfl) rfl T.kN PyProof.Rows.boot_dict (v1 2)) (pv 13) (λ_ _=>rfl)) pN ss))) pI))
   (zpo (xa8 (pR xtt (xaj xck (pv 4) pI) (xaj xcr (pv 8) (xaq (xad (K:=K) rfl) rfl T.kQ PySem.boot_len (v1 16))) (nM _)) (zpo (xaf (xak (pc pS (pc (xak (pc pS (v1 13) so)) (pc (pd a6 hr (va 0 (va 1 (va 2 (va 16 (va 3 (pc (xaj xck (pv 4) pI) (v1 5) xaz))))))) pN zsc) sT) so)))) pQ)))) pQ))) pQ)
   (zpo (xaf (pd M hr (va 0 (va 1 (va 2 (va 3 (va 4 (v1 5)))))))))))))))),?_⟩
 refine xab λR1 cw=>?_;obtain⟨p0,q0,hf⟩:=ti.fd;have cl:=ti.bx;obtain⟨bl,ub,rfl,br,bg,dc⟩:=cl;have cd:=bg.length;rw[zLM]at cd;have cm:=ti.bl;refine(xa3 _ rfl bl rfl ⟨_,SqL.of br⟩ ?_);refine xdc (xs:=ub) (λi ys I=>I=H/\∃zs:List Str,ys=zs.map V.str/\(∀z∈zs,(z,x)∈bs)/\zs.length<=i) (xga rfl ([]) rfl (λ_ h=>nomatch h) (Nat.le_refl _)) (xa5 (by omega)) (λi ys I _ p=>by obtain⟨rfl,_⟩:=p;exact SqL.of br) ?_ ?_
 ·rintro i y ys I hy a5 O ⟨rfl,zs,rfl,aa,bc⟩
  obtain⟨d',U,a9⟩:=bg.get hy;rw[zGM]at U;obtain⟨pr,am,rfl⟩:=zMS U;obtain⟨b,b7,rfl,hb,_,_,rfl,rfl,_,_,rfl,rfl,rfl⟩:=a9;refine(xa2 b _ rfl (SqT.of hb) rfl _ _ rfl _ (xbt _ rfl rfl (ext2 rfl rfl) ?_));refine(xcv _ rfl _ rfl rfl _ rfl ?_);by_cases ab:pr.2=x
  ·refine iteKT (zDT (by rw[ab])) (jEA _ rfl (nxtG a5 O (xga rfl (zs++[pr.1]) (by rw[zAP];rfl) (λz hz=>?_) (by rw[zLA,List.length_singleton];omega))))
   rcases zMA hz with hz |hz
   ·exact aa z hz
   ·rw[zMO hz,<- ab]
    exact zMG am
  ·exact iteKF (zDF λz=>ab (V.str.inj z)) (nxtN a5 O (xga rfl zs rfl aa (by omega)))
 rintro ys H2 O ⟨rfl,zs,rfl,aa,bc⟩ D hD;have sD:=Same.new hD (.lst (zs.map V.str));have t1:=ti.same sD;have F1:=(Fed.refl hf).same sD;have Df:D≠f':=Ne.symm (neN hf hD);refine cw _ _ (xab λR2 cv=>?_);refine(xaa _ rfl f' p0 q0 _ rfl (sD _ _ hf) (by decide) (by decide) (λfm H1 m0 m1 f1=>?_));have t2:=t1.fed f1;have F2:=F1.trans f1;obtain⟨p2,q2,h2⟩:=t2.fd;have bz:=f1.1 _ _ ups Df;have zl:(zs.map V.str).length=zs.length:=zLM _;refine cv _ _ (xab λR3 cu=>?_);apply xqw
 ·intro ah
  refine(xbf _ rfl D _ rfl (.inl (SqL.of bz)) _ _ rfl rfl (jEA _ rfl (ite2 (λc1=>?_) (λc1=>?_))))
  ·refine(xbg _ rfl _ _ rfl rfl _ rfl (ite2 (λc2=>?_) (λc2=>?_)))
   ·have ca:=of_decide_eq_true c1
    rw[zl]at ca;exact(xam _ rfl _ rfl f' D p2 (xa6 q2 zs rfl h2 bz (List.length_pos_iff.mp (by omega)) (by omega) ⟨Df,λz t I hz fz rz=>q t (tBox z) I (F2.trans fz) rz (xmc (aa z hz))⟩))
   ·exact ah.go
  ·exact iteF ah.go
 refine cu _ _ (xab λR4 cr=>?_);refine(xb5 _ rfl _ rfl kv ks x rfl t2.kd wf ⟨ax,λH3 s3=>?_⟩);have t3:=t2.same s3;have F3:=F2.same s3;obtain⟨p3,q3,h3⟩:=t3.fd;have bp:=t3.bx;obtain⟨de,b0,cy,ae,ak,d4⟩:=bp;cases cy;have be:=ak.length;rw[zLM]at be;refine cr _ _ (xab λR5 bu=>?_);by_cases e3:fm=3
 ·refine(xa4 _ rfl rfl _ rfl (iteKT (zDT (by rw[e3])) ?_))
  apply xqw
  ·intro ah
   refine(xbg _ rfl _ _ rfl rfl _ rfl (ite2 (λc2=>?_) (λc2=>iteF ah.go)));refine(jEA _ rfl (xat _ rfl _ _ rfl rfl (jAE (.inr ⟨by omega,by omega⟩) _ (xbj _ rfl rfl _ _ rfl rfl (jEA _ rfl (ite2 (λc3=>?_) (λc3=>ah.go)))))));have cz:(0:Int)<(m:Int):=of_decide_eq_true c2;have db:2*smK ks x+1<l:=of_decide_eq_true c3;obtain⟨m',rfl⟩:∃m',m=m'+1:=⟨m-1,by omega⟩;have b6:(((m'+1:Nat):Int))-1=(m':Int):=by omega
   refine(xbg _ rfl _ _ rfl rfl _ rfl (xb0 _ _ rfl rfl (.inr ⟨by omega,by omega⟩) (xaw _ _ rfl rfl (xb0 _ _ rfl rfl ⟨by decide,by decide⟩ ?_))));have d9:0<=(l-2-2*smK ks x) / 3:=Int.ediv_nonneg (by omega) (by decide);refine(jEA _ rfl (xap _ rfl _ rfl _ rfl _ _ rfl rfl (xat _ rfl _ _ rfl rfl ?_)));refine(xa7 (7*m') (by omega) f' kv (.ref bl) ks (xag bs (S "num") (1+(l-2-2*smK ks x) / 3) m' 0 (xl4 b6) rfl (by decide) (t3.down (by omega)) (by omega) (jAA (.inl rfl) (by rw[(xmt wf).1];omega) (λu1 d1 H5 f5 c8 al=>?_))));have t5:=t3.fed f5;refine(xax _ rfl _ rfl _ rfl _ rfl _ rfl (xbg _ rfl _ _ rfl rfl _ rfl (xaw _ _ rfl rfl ?_)));refine(xa7 (7*m'+j) (by omega) f' kv (.ref bl) ks (xag bs x (smK ks x+(l-2-2*smK ks x) / 3) m' j (xl4 b6) rfl a0 (t5.down (by omega)) (by omega) (jAA Z (by omega) (λu2 d2 H6 f6 c7 a7=>?_))));have t6:=t5.fed f6;refine(xax _ rfl _ rfl _ rfl _ rfl _ rfl (xap _ rfl _ rfl _ rfl _ _ rfl rfl (xat _ rfl _ _ rfl rfl ?_)));refine(xa7 (7*m'+j) (by omega) f' kv (.ref bl) ks (xag bs x (smK ks x+(l-2-2*smK ks x) / 3) m' j (xl4 b6) rfl a0 (t6.down (by omega)) (by omega) (jAA Z (by omega) (λu3 d3 H7 f7 c6 cf=>⟨(by walk_at"s"),λt ht=>?_⟩))));have st:=Same.new ht (.tup [.str (S "if"),.ref u1,.ref u2,.ref u3])
   exact q _ (tIfD d1 d2 d3) _ ((((F3.trans f5).trans f6).trans f7).same st) (xao t _ rfl ups _ _ rfl rfl _ (xbj _ rfl (((c8.tups (xai t5.fd f6) _).tups (xai t6.fd f7) _).same st _) _ _ rfl ((c7.tups (xai t6.fd f7) _).same st _) (xaw _ _ rfl (c6.same st _) rfl))) (TmB.le (xum wf (TmB.le al (by omega)) a7 cf) (by omega))
  refine bu _ _ (xab λR6 aq=>?_);refine(xa4 _ rfl rfl _ rfl (iteKF (zDF λz=>absurd (V.int.inj z) (by omega)) (iteF ?_)));refine aq _ _ (xab λR7 a1=>?_);refine(xa4 _ rfl rfl _ rfl (iteKF (zDF λz=>absurd (V.int.inj z) (by omega)) (iteF ?_)));refine a1 _ _ ?_;exact(xax _ rfl _ rfl _ rfl _ rfl _ rfl (xa7 _ rfl f' kv (.ref bl) ks (xag bs x l m j rfl ac a0 t3 m8 (jAA Z J (λa d I fd ra Y=>q a d I (F3.trans fd) ra Y)))))
 refine(xa4 _ rfl rfl _ rfl (iteKF (zDF λz=>e3 (V.int.inj z)) (iteF ?_)));refine bu _ _ (xab λR6 aq=>?_);by_cases e4:fm=4
 ·refine(xa4 _ rfl rfl _ rfl (iteKT (zDT (by rw[e4])) ?_))
  refine(xbg _ rfl _ _ rfl rfl _ rfl (ite2 (λc2=>?_) (λc2=>?_)))
  ·refine⟨(by walk_at"s"),λhd bm=>?_⟩
   have s4:=Same.new bm (.lst []);refine(xa3 _ rfl bl rfl ⟨_,SqL.of (s4 _ _ ae)⟩ ?_)
   refine xdw (xs:=b0) (λi σ I=>∃(Y:Addr) (ws:List V) (b5 b4 b3 b1:Option V),σ=[some (.ref f'),some kv,some (.ref bl),some (.str x),some (.int l),some (.int (m:Int)),some (.ref D),some (.int fm),some (.int (smK ks x)),none,none,none,some (.ref Y),b5,b4,b3,b1,none,none]/\Same H3 I/\I Y=some (.lst ws)/\Y≠f'/\(∀w∈ws,HdAt I ks bs x w)/\ws.length<=5*i)
    (xan hd ([]) none none none (xbx none rfl s4 ups (Ne.symm (neN h3 bm)) (λ_ h=>nomatch h) (Nat.zero_le _))) (λi σ I _ p=>?_) ?_ ?_
   ·obtain⟨_,_,_,_,_,_,_,sm,_⟩:=p
    exact SqL.of (sm _ _ ae)
   ·rintro i vv σ H4 bd ⟨Y,ws,b5,b4,b3,b1,rfl,sm,aj,bt,ao,cc⟩
    obtain⟨d',U,a9⟩:=ak.get bd;rw[zGM]at U;obtain⟨pr,am,rfl⟩:=zMS U;obtain⟨b,b7,rfl,hb,_,_,rfl,rfl,_,_,rfl,rfl,rfl⟩:=a9;have an:=zMG am;have ag:i<b0.length:=(zES bd).1;refine(xa2 b _ rfl (SqT.of (sm _ _ hb)) rfl _ _ rfl _ (jEAA _ rfl rfl ?_));refine(xam _ rfl _ rfl kv ks pr.2 (jAA rfl ((wf.ksAt (t3.kd.same sm _)).seq) (λt ba H5 s5 ht rp=>?_)));refine(xa2 t _ rfl (SqT.of ht) rfl _ _ rfl _ (jEAA _ rfl rfl ?_));obtain⟨ps,b9,h5,ay,az⟩:=xns wf (t3.kn pr an) rp;obtain⟨a,us,rfl,av,au⟩:=b9;have hl:=au.length;rw[zLM]at hl;refine(jEA _ rfl (xa3 _ rfl a rfl ⟨_,SqT.of av⟩ ?_));refine xbs (xs:=us) (λi ys I=>Same H5 I/\(∀w∈ys,HdAt I ks bs x w)/\ys.length<=i) (jAA (Same.refl _) (λ_ h=>nomatch h) (Nat.le_refl _)) (xa5 (by omega)) (λi ys I _ p=>SqT.of (p.1 _ _ av)) ?_ ?_
    ·rintro i2 y ys I hy a5 O ⟨af,ai,cb⟩
     obtain⟨d',U,a9⟩:=au.get hy;rw[zGM]at U;obtain⟨pt,ch,rfl⟩:=zMS U;obtain⟨b2,d5,rfl,cp,_,_,rfl,rfl,_,_,rfl,rfl,rfl⟩:=a9;refine(xa2 b2 _ rfl (SqT.of (af _ _ cp)) rfl _ _ rfl _ (xbt _ rfl rfl (ext2 rfl rfl) ?_));refine(xa4 _ rfl rfl _ rfl ?_);by_cases hs:xf4 (kAt ks pr.2)=S "rec"
     ·refine iteKT (zDT (congrArg V.str hs)) ?_
      refine(xcv _ rfl _ rfl rfl _ rfl ?_);by_cases ab:pt.2=x
      ·refine iteKT (zDT (by rw[ab])) (xa3 _ rfl _ rfl (by walk_at"s") (λt2 a7=>nxtG a5 O (jAA (af.trans (Same.new a7 _)) (λz hz=>?_) (by rw[zLA,List.length_singleton];omega))))
       rcases zMA hz with hz |hz
       ·exact(ai z hz).tups λb us q=>Same.new a7 _ _ _ q
       ·obtain⟨k,hk,a8,cj⟩:=ay hs
        rw[zMO hz];exact(xag t2 pr.1 pt.1 pr.2 k rfl ups an hk a8 (by rw[cj,<- ab];exact zMG ch))
      ·exact iteKF (zDF λz=>ab (V.str.inj z)) (nxtN a5 O (jAA af ai (by omega)))
     ·exact iteKF (zDF λz=>hs (V.str.inj z)) (iteF (nxtN a5 O (jAA af ai (by omega))))
    ·rintro ys H6 O ⟨af,ai,cb⟩ D2 bw
     have b8:=Same.new bw (.lst ys);have ar:=s5.trans (af.trans b8);refine(xas Y D2 _ _ rfl rfl (ar _ _ aj) ups (fits (by omega)) (λl3 bj=>?_));have sl:=Same.new bj (.lst (ws++ys));refine(xan l3 (ws++ys) _ _ _ (xbx _ rfl (sm.trans (ar.trans sl)) ups (Ne.symm (neN ((sm.trans ar) _ _ h3) bj)) (λz hz=>?_) (by rw[zLA];omega)));rcases zMA hz with hz |hz
     ·exact(ao z hz).tups λb us q=>(ar.trans sl) _ _ q
     ·exact(ai z hz).tups λb us q=>(b8.trans sl) _ _ q
   ·rintro σ H4 ⟨Y,ws,b5,b4,b3,b1,rfl,sm,aj,bt,ao,cc⟩
    have t4:=t3.same sm;have F4:=F3.same sm;refine(xbf _ rfl Y _ rfl (.inl (SqL.of aj)) _ _ rfl rfl (jEA _ rfl (ite2 (λc3=>?_) (λc3=>?_))))
    ·have d6:=of_decide_eq_true c3
     refine(xap _ rfl _ rfl _ rfl Y _ rfl (.inl (SqL.of aj)) (xah f' p3 q3 _ rfl (sm _ _ h3) (by omega) (by omega) (λr H6 r0 r1 f6=>?_)));obtain⟨i,rfl⟩:∃i:Nat,r=(i:Int):=⟨r.toNat,by omega⟩;have ag:i<ws.length:=by omega
     obtain⟨b,z,g,y,k,eb,hb,hz,hk,a8,hg⟩:=(ao ws[i] (List.getElem_mem ag)).tups (xai t4.fd f6);have cq:atI ws (i:Int)=some (.ref b):=xa0 (by rw[zGA ag,eb]);refine(xbm Y _ _ _ rfl rfl (SqL.of (f6.1 _ _ aj bt)) cq b (xbt _ rfl (SqT.of hb) rfl (jEEA _ _ rfl (xaw _ _ rfl rfl ?_))));refine(jEAA _ rfl (by walk_at"s") (λt1 al=>(jEAA _ rfl (by walk_at"s") (λt2 a7=>?_))));have y1:=Same.new al (.tup [.str (S "box"),.str z]);have y2:=Same.new a7 (.tup [.str (S "get"),.ref t1,.str g]);exact q _ (tGet (tBox z) g) _ ((F4.trans f6).same (y1.trans y2)) (xao t2 _ rfl ups _ _ rfl rfl _ (xbj _ rfl (xao t1 _ rfl (y2 _ _ ups) _ _ rfl rfl _ (jEAA _ rfl rfl rfl)) _ _ rfl rfl rfl)) (xs4 (p:=(g,x)) wf hk a8 hg (xmc hz))
    ·refine aq _ _ (xab λR7 a1=>?_)
     refine(xa4 _ rfl rfl _ rfl (iteKF (zDF λz=>absurd (V.int.inj z) (by omega)) (iteF ?_)));refine a1 _ _ ?_;exact(xax _ rfl _ rfl _ rfl _ rfl _ rfl (xa7 _ rfl f' kv (.ref bl) ks (xag bs x l m j rfl ac a0 t4 m8 (jAA Z J (λa d I fd ra Y=>q a d I (F4.trans fd) ra Y)))))
  ·refine aq _ _ (xab λR7 a1=>?_)
   refine(xa4 _ rfl rfl _ rfl (iteKF (zDF λz=>absurd (V.int.inj z) (by omega)) (iteF ?_)));refine a1 _ _ ?_;exact(xax _ rfl _ rfl _ rfl _ rfl _ rfl (xa7 _ rfl f' kv (.ref bl) ks (xag bs x l m j rfl ac a0 t3 m8 (jAA Z J (λa d I fd ra Y=>q a d I (F3.trans fd) ra Y)))))
 refine(xa4 _ rfl rfl _ rfl (iteKF (zDF λz=>e4 (V.int.inj z)) (iteF ?_)));refine aq _ _ (xab λR7 a1=>?_);by_cases e5:fm=5
 ·refine(xa4 _ rfl rfl _ rfl (iteKT (zDT (by rw[e5])) ?_))
  refine(xbg _ rfl _ _ rfl rfl _ rfl (ite2 (λc2=>?_) (λc2=>?_)))
  ·have cz:(0:Int)<(m:Int):=of_decide_eq_true c2
   refine(xa3 _ rfl bl rfl ⟨_,SqL.of ae⟩ ?_);refine xdc (xs:=b0) (λi ys I=>Same H3 I/\∃zs:List Str,ys=zs.map V.str/\(∀z∈zs,TgOk ks bs z)/\zs.length<=i) (xga (Same.refl _) ([]) rfl (λ_ h=>nomatch h) (Nat.le_refl _)) (xa5 (by omega)) (λi ys I _ p=>SqL.of (p.1 _ _ ae)) ?_ ?_
   ·rintro i y ys I hy a5 O ⟨sm,zs,rfl,aa,bc⟩
    obtain⟨d',U,a9⟩:=ak.get hy;rw[zGM]at U;obtain⟨pr,am,rfl⟩:=zMS U;obtain⟨b,b7,rfl,hb,_,_,rfl,rfl,_,_,rfl,rfl,rfl⟩:=a9;have an:=zMG am;refine(xa2 b _ rfl (SqT.of (sm _ _ hb)) rfl _ _ rfl _ (xbt _ rfl rfl (ext2 rfl rfl) ?_));refine(xam _ rfl _ rfl kv ks pr.2 (jAA rfl ((wf.ksAt (t3.kd.same sm _)).seq) (λt ba H5 s5 ht rp=>(xas t _ _ _ rfl rfl (SqT.of ht) rfl rfl (jEA _ rfl ?_)))));obtain⟨ps,b9,h5,ay,az⟩:=xns wf (t3.kn pr an) rp;by_cases hs:xf4 (kAt ks pr.2)=S "alt"
    ·refine iteKT (zDT (congrArg V.str hs)) (jEA _ rfl (nxtG a5 O (xga (sm.trans s5) (zs++[pr.1]) (by rw[zAP];rfl) (λz hz=>?_) (by rw[zLA,List.length_singleton];omega))))
     rcases zMA hz with hz |hz
     ·exact aa z hz
     ·obtain⟨k,hk,a8,_⟩:=az hs
      rw[zMO hz];exact(xaw pr.2 k an hk a8)
    ·exact iteKF (zDF λz=>hs (V.str.inj z)) (nxtN a5 O (xga (sm.trans s5) zs rfl aa (by omega)))
   rintro ys H4 O ⟨sm,a4,rfl,ce,d7⟩ G hG;have sG:=Same.new hG (.lst (a4.map V.str));have s4:=sm.trans sG;have t4:=t3.same s4;have F4:=F3.same s4;have Gf:G≠f':=Ne.symm (neN (sm _ _ h3) hG);have gl:(a4.map V.str).length=a4.length:=zLM _;refine(xbf _ rfl G _ rfl (.inl (SqL.of ups)) _ _ rfl rfl (jEA _ rfl (ite2 (λc3=>?_) (λc3=>?_))))
   ·have ck:=of_decide_eq_true c3
    rw[gl]at ck;refine(xap _ rfl _ rfl _ rfl G _ rfl (.inl (SqL.of ups)) (xah f' p3 q3 _ rfl (s4 _ _ h3) (by rw[gl];omega) (by rw[gl];omega) (λr H6 r0 r1 f6=>?_)));rw[gl]at r1;obtain⟨i,rfl⟩:∃i:Nat,r=(i:Int):=⟨r.toNat,by omega⟩;have ag:i<a4.length:=by omega
    obtain⟨y,k,bb,hk,a8⟩:=ce a4[i] (List.getElem_mem ag);have aw:=zMF hk;have t6:=t4.fed f6;have F6:=F4.trans f6;have bo:=t6.bx;obtain⟨dd,c5,cx,bq,bf,d0⟩:=bo;cases cx;refine(xah G _ _ (.str a4[i]) rfl rfl (SqL.of (f6.1 _ _ ups Gf)) (xa0 (by rw[zGM,zGA ag];rfl)) ?_);refine(xb5 _ rfl _ rfl bl c5 (bKV bs) rfl bq (xkx bf) (λp hp=>?_));have sp:=Same.new hp (.dK (xcz [] (bKV bs)));have bn:=DGet.rd (H:=upd H6 p (.dK (xcz [] (bKV bs)))) (a:=p) (kvs:=xcz [] (bKV bs)) (k:=(Sum.inr a4[i]:Key)) (Or.inl ups);rw[xqb ti.nd bb]at bn;refine(xat _ rfl p (.str y) rfl bn ?_);have t7:=t6.same sp;refine(xb7 kv ks y rfl ((wf.ksAt t7.kd).seq) (λt ba H8 s8 ht rp=>(xah t _ _ _ rfl rfl (SqT.of ht) rfl ?_)));have t8:=t7.same s8;have F8:=F6.same (sp.trans s8);rw[hk]at rp;have c9:=rp;obtain⟨a,us,rfl,av,au⟩:=rp;have hl:=au.length;rw[zLM]at hl;have h5:=wf.pts k aw;refine(xbg _ rfl _ _ rfl rfl _ rfl (xbf _ rfl a _ rfl (.inr (SqT.of av)) _ _ rfl rfl (jAE (.inl ⟨by omega,by omega⟩) _ (xa4 _ rfl rfl _ rfl (ite2 (λc4=>?_) (λc4=>?_))))))
    ·have c0:smK ks x*(us.length:Int)<=l-2:=of_decide_eq_true c4
     rw[hl]at c0;obtain⟨m',rfl⟩:∃m',m=m'+1:=⟨m-1,by omega⟩;refine(jEAA _ rfl (by walk_at"s") (λt1 al=>?_));have y1:=Same.new al (.tup [.str (S "box"),.str a4[i]]);refine(xax _ rfl _ rfl _ rfl _ rfl _ rfl (xbg _ rfl _ _ rfl rfl _ rfl (xa7 m' (by omega) f' kv (.ref bl) (.ref a) (xag ks bs k.parts x (l-2) rfl (t8.same y1) (by omega) (c9.same y1 _) (wf.alt k aw a8) (jAAA h5 (wf.pnd k aw) (λp hp=>xfu wf aw hp) (jAA ax c0 (λu rs H9 f9 ru bi bh ci cg=>⟨(by walk_at"s"),λt2 a7=>?_⟩)))))));have y2:=Same.new a7 (.tup [.str (S "case"),.ref t1,u]);have co:=xai (t8.same y1).fd f9 _ _ ups;exact q _ (xlk (tBox a4[i]) rs) _ (((F8.same y1).trans f9).same y2) (xao t2 _ rfl ups _ _ rfl rfl _ (xbj _ rfl (xao t1 _ rfl (y2 _ _ co) _ _ rfl rfl _ (jEAA _ rfl rfl rfl)) _ _ rfl (ru.same y2 _) rfl)) (TmB.le (xrg wf hk a8 (xmc bb) (by omega) ci bi bh cg) (by omega))
    ·refine a1 _ _ ?_
     exact(xax _ rfl _ rfl _ rfl _ rfl _ rfl (xa7 _ rfl f' kv (.ref bl) ks (xag bs x l m j rfl ac a0 t8 m8 (jAA Z J (λa d I fd ra Y=>q a d I (F8.trans fd) ra Y)))))
   ·refine a1 _ _ ?_
    exact(xax _ rfl _ rfl _ rfl _ rfl _ rfl (xa7 _ rfl f' kv (.ref bl) ks (xag bs x l m j rfl ac a0 t4 m8 (jAA Z J (λa d I fd ra Y=>q a d I (F4.trans fd) ra Y)))))
  ·refine a1 _ _ ?_
   exact(xax _ rfl _ rfl _ rfl _ rfl _ rfl (xa7 _ rfl f' kv (.ref bl) ks (xag bs x l m j rfl ac a0 t3 m8 (jAA Z J (λa d I fd ra Y=>q a d I (F3.trans fd) ra Y)))))
 refine(xa4 _ rfl rfl _ rfl (iteKF (zDF λz=>e5 (V.int.inj z)) (iteF ?_)));refine a1 _ _ ?_;exact(xax _ rfl _ rfl _ rfl _ rfl _ rfl (xa7 _ rfl f' kv (.ref bl) ks (xag bs x l m j rfl ac a0 t3 m8 (jAA Z J (λa d I fd ra Y=>q a d I (F3.trans fd) ra Y)))))
theorem xrf(T:Tx K e):∀c,DefIs P w K e base (3*c+10) "_law_term" qae (spTw c):=by
 intro c
 induction c using Nat.strongRecOn with
 |_ c g=>
  have take:∀k,DefIs P w K e base (k+1) "_law_take" qac xcl:=λk=>xg6 T;have b:∀k,8<=k->DefIs P w K e base k "_law_small" qab (spSm smK 6):=λk j=>(xgy T 6).mono j;have a:DefIs P w K e base (3*c+7) "_law_term" qae (xo0 c):=DefIs.anyP (Pr:=λf=>f<c) (sps:=spTw) T.j5 λf h=>(g f h).mono (by omega);exact xpa (n:=3*c+9) T (take _) (xng (n:=3*c+8) T (take _)) (b _ (by omega)) (xcs T) (a.mono (by omega)) (DefIs.anyP (Pr:=λm=>7*m+6<c) (sps:=xjl) T.j3 λm i=>xpg (n:=3*c+8) T i (take _) (a.mono (by omega))) (xf7 (n:=3*c+8) T (xcs T) (take _) (xlt T (take _)) (b _ (by omega)) (a.mono (by omega)))
def xhv:Sp:=λvs H Q _=>∃(f:Addr) (kv bv:V) (ks:List Kn) (bs:List (Str×Str)) (x:Str),vs=[.ref f,kv,bv,.str x]/\TIn H f kv bv ks bs 3/\KIn ks 6 x/\∀a d H',Fed f H H'->RelD H' (.ref a) d->TmB ks 21 bs d x->Q (.ref a) H'
def spTC:Sp:=λvs H Q E=>∃c,c<=20/\spTw c vs H Q E
theorem xib (T:Tx K j) (e:DefIs P w K j base n "_law_take" qac xcl) (b:DefIs P w K j base n "_law_small" qab (spSm smK 6)) (c:DefIs P w K j base n "_law_term" qae spTC) :
  DefIs P w K j base (n+1) "_law_new_term" qai xhv:=by
 refine DefIs.of T.j6 xh0 (by walk_at"l") (λf U A outer s H vs Q E l h=>?_);obtain⟨y,p,Y,ks,bs,x,rfl,i,g,q⟩:=h;refine(jEA _ (zpo (xaf (pd c l (va 0 (va 1 (va 2 (va 3 (pc (xaj xba (pd b l (va 1 (v1 3))) (pd e l (va 0 (pc pI pN so)))) (pc pI pN so) xaz)))))))) ?_);refine(xax _ rfl _ rfl _ rfl _ rfl _ rfl (jEA _ rfl (xal p ks x rfl i.kd i.wf g (λH1 o=>?_))));have m:=i.same o;obtain⟨p0,q0,I⟩:=i.fd;obtain⟨G,C,M⟩:=m.fd;refine(xaa _ rfl y G C _ rfl M (by decide) (by decide) (λr H2 r0 r1 u=>?_));refine(xaw _ _ rfl rfl (xa7 20 (Nat.le_refl _) y p Y ks (xag bs x _ 2 6 rfl rfl (by decide) (m.fed u) (by decide) (jAA g (by omega) (λa d Z O z J=>q a d Z ((((Fed.refl I).same o).trans u).trans O) z J)))))
theorem xj0(T:Tx K a):DefIs P w K a base 80 "_law_new_term" qai xhv:=
 xib (n:=79) T (xg6 T) ((xgy T 6).mono (by omega)) (DefIs.anyP (Pr:=λc=>c<=20) (sps:=spTw) T.j5 λc b=>(xrf T c).mono (by omega))
def spNu(F:Nat->List Kn->Str->D)(m:Nat):Sp:=λvs H Q _=>∃v ks x,vs=[v,.str x]/\RelD H v (xdk ks)/\KWf ks/\KIn ks m x/\∀u H',Same H H'->RelD H' u (F (m+1) ks x)->Q u H'
theorem xig (T:Tx K mg) (M:Sp) (g:DefIs P w K mg base n "parts_of" qah xfi) (l:DefIs P w K mg base n "sort_of" qah xkp) (c:DefIs P w K mg base n "nought" qao M) (Z:∀j,m=j+1->M=spNu nuV j) :
  DefIs P w K mg base (n+1) "nought" qao (spNu nuV m):=by
 refine DefIs.of T.jG sc_nought (by walk_at"l") (λf a8 A outer s H vs Q E hr h=>?_);obtain⟨v,ks,x,rfl,hk,J,a7,q⟩:=h;have nd:=sc_nought.nd
 refine⟨_,(zpn (xa8 (pR xbd (pv 1) pS (nM _)) (zpo (xaf pI)) pQ)
   (zpn (psn 2 nd (pd g hr (va 0 (v1 1))))
   (zpn (xa8 (pR xbd (pd l hr (va 0 (v1 1))) pS (nM _)) (zpo (xaf (xak (va 1 (pc (xay (xbq (K:=K) rfl) rfl T.kX PyProof.Rows.boot_tuple (pc (xbo ["part","kinds"] [none,some 0] rfl (by kernel_rfl) (xa1 (K:=K) rfl (pv 2)) (λ_ _ _ _=>(pgc 0)) (λ_ _ _ _=>xbv) (λ_ _ _ _=>(pd c hr (va 1 (pc (px K (pv 0) pI) pN ss))))) pN xcc)) pN zsc))))) pQ)
   (zpo (xaf (xak (va 1 (pc (px K (px K (pv 2) pI) pI) (pc (pd c hr (va 0 (pc (px K (px K (pv 2) pI) pI) pN ss))) pN zsc) ss)))))))),?_⟩
 rcases a7.nu J with⟨rfl,_,_,e⟩ |⟨j,k,rfl,a2,hn,hm,hp,a5,I⟩
 ·refine(xa4 _ rfl rfl _ rfl (iteKT (by walk_at"k") ?_))
  rw[e]at q;exact q _ _ (Same.refl _) rfl
 ·have D':=Z j rfl
  subst D';refine(xa4 _ rfl rfl _ rfl (iteKF (zDF λz=>a5 (V.str.inj z)) ?_));refine(xam _ rfl _ rfl v ks x (jAA rfl (J.ksAt hk) (λu H1 Y r1=>?_)));rw[a2]at r1;obtain⟨a,us,rfl,ha,C⟩:=r1;have hl:=C.length;rw[zLM]at hl;have h5:=J.pts k hm;refine(xam _ rfl _ rfl v ks x (jAA rfl (J.ksAt (hk.same Y _)) ?_));rw[a2];rcases I with⟨hc,_,e⟩ |⟨hc,p,r,er,_,e⟩
  ·refine(jAEA rfl _ rfl (iteKT (zDT (by show V.str k.sort=_;rw[xec hc];rfl)) ?_))
   refine(jEA _ rfl (xa3 _ rfl a rfl ⟨_,SqT.of ha⟩ ?_));refine xfe (j:=0) (xs:=us) (λi ys H'=>Same H1 H'/\RelDs H' ys ((k.parts.take i).map λp=>nuV (j+1) ks p.2)) (by rfl) ⟨Same.refl _,rfl⟩ (xa5 (by omega)) (λi ys H' _ p=>SqT.of (p.1 _ _ ha)) ?_ ?_
   ·rintro i y ys H' hy a1 ⟨O,o⟩
    obtain⟨d,hd,rd⟩:=C.get hy;rw[zGM]at hd;obtain⟨p,a0,rfl⟩:=zMS hd;obtain⟨b,ws,rfl,hb,_,_,rfl,rfl,_,_,rfl,rfl,rfl⟩:=rd;have hi:i<us.length:=(zES hy).1;refine(xam _ rfl _ rfl b _ _ (xbi _ rfl rfl (SqT.of (O _ _ hb)) rfl (xal _ ks p.2 rfl (hk.same (Y.trans O) _) J (hp p (zMG a0)) (λu H2 G r2=>nxt hi a1 ⟨O.trans G,?_⟩))));rw[zTA,a0,zAP];exact(o.same G _).append (xaw u ([]) rfl r2 rfl)
   ·rintro ys H' a1 ⟨O,o⟩ D hD
    rw[zTL (by omega)]at o;refine(jEEA D ys rfl (.inl ⟨SqL.of ups,λl' a6=>⟨(by walk_at"s"),λt ht=>?_⟩⟩));have G:=Same.new hD (.lst ys);have U:=Same.new a6 (.tup ys);have s4:=Same.new ht (.tup [.str x,.ref l']);rw[e]at q;exact q _ _ (Y.trans (O.trans (G.trans (U.trans s4)))) (xao t _ rfl ups _ _ rfl rfl _ (jEAA _ rfl (xaw l' ys rfl (s4 _ _ ups) (o.same (G.trans (U.trans s4)) _)) rfl))
  ·refine(jAEA rfl _ rfl (iteKF (zDF (by show ¬V.str k.sort=_;rw[xel hc];decide +kernel)) ?_))
   rw[er]at C;obtain⟨vp,rest,rfl,rp,_⟩:=C;obtain⟨b,ws,rfl,hb,_,_,rfl,rfl,_,_,rfl,rfl,rfl⟩:=rp;have a3:SqT K H1 a (.ref b::rest):=SqT.of ha;have a4:atI (V.ref b::rest) 0=some (.ref b):=xa0 (j:=0) rfl;refine(xam _ rfl _ rfl a _ _ (xbi _ rfl rfl a3 a4 (xah b _ _ _ rfl rfl (SqT.of hb) rfl ?_)));refine(xam _ rfl _ rfl a _ _ (xbi _ rfl rfl a3 a4 (xah b _ _ _ rfl rfl (SqT.of hb) rfl ?_)));refine(xal _ ks p.2 rfl (hk.same Y _) J (hp p (by rw[er];simp)) (λu H2 G r2=>⟨(by walk_at"s"),λt ht=>?_⟩));have U:=Same.new ht (.tup [.str x,.str p.1,u]);rw[e]at q;exact q _ _ (Y.trans (G.trans U)) (xao t _ rfl ups _ _ rfl rfl _ (xbj _ rfl rfl _ _ rfl (r2.same U _) rfl))
theorem xih(T:Tx K a):∀m,DefIs P w K a base (m+2) "nought" qao (spNu nuV m)
 |0=>xig (n:=1) T (λ_ _ _ _=>False) (xea T) (xgf T) (DefIs.none T.jG λ_ _ _ _ h=>h) (λj e=>by cases e)
 |m+1=>xig (n:=m+2) T (spNu nuV m) (xea T) (xgf T) (xih T m) (λj e=>by cases e;rfl)
def xmj:Sp:=λvs H Q _=>∃(tv:V) (x:Str) (hs:List Hand) (hd:Hand),vs=[tv,.str x]/\RelD H tv (.tup (hs.map Hand.d))/\hs.find? (λh=>decide (h.name=x))=some hd/\∀u,RelD H u hd.d->Q u H
def xe6:Sp:=λvs H Q _=>∃(mv:V) (x:Str) (mk:Mak) (hd:Hand),vs=[mv,.str x]/\RelD H mv mk.d/\xd4 mk x=some hd/\∀u,RelD H u hd.d->Q u H
def begL(mk:Mak)(hd:Hand):List (Str×D):=hd.boxes.map λb=>(b.1,nuV 7 mk.kinds b.2)
def xms:Sp:=λvs H Q _=>∃(mv:V) (x:Str) (mk:Mak) (hd:Hand),vs=[mv,.str x]/\RelD H mv mk.d/\MakOk mk/\xd4 mk x=some hd/\∀a p H',Same H H'->H p=none->StAt H' a p 0 (begL mk hd)->Q (.ref a) H'
def xmg:Sp:=λvs H Q _=>∃(sa p:Addr) (k:Nat) (bx:List (Str×D)),vs=[.ref sa]/\StAt H sa p k bx/\bx.length<=100/\∀a' p' H',Same H H'->H p'=none->StAt H' a' p' k bx->Q (.ref a') H'
def xgu:Sp:=λvs H Q _=>∃(mv:V) (x:Str) (sa p:Addr) (k:Nat) (mk:Mak) (hd:Hand) (r:Row),vs=[mv,.str x,.ref sa]/\RelD H mv mk.d/\xd4 mk x=some hd/\H sa=some (.tup [.int k,.ref p])/\hd.rows[k]?=some r/\∀u,RelD H u r.d->Q u H
def xmn:Sp:=λvs H Q _=>∃(rv:V) (ca:Addr) (r:Row),vs=[rv,.ref ca]/\RelD H rv r.d/\(match r with
 |.take _ c _=>∃kvs la us,H ca=some (.dK kvs)/\valV kvs (Sum.inr c)=some (.ref la)/\H la=some (.lst us)/\Q (us.headD .non) H
 |_=>Q .non H)
def xqf:Sp:=λvs H Q _=>∃(mv rv:V) (sa p:Addr) (k:Nat) (bx:List (Str×D)) (mk:Mak) (bs:List (Str×Str)) (r:Row),vs=[mv,rv,.ref sa]/\RelD H mv mk.d/\KWf mk.kinds/\RelD H rv r.d/\r≠.fin/\StAt H sa p k bx/\bx.length<=6/\FitB mk.kinds bs (enOf bx)/\(∀t g,r=.cond t g->TmOk mk.kinds 21 bs t (S "num"))/\∀H',Same H H'->Q (.int (xcx mk.kinds bx k r:Nat)) H'
def xte:Sp:=λvs H Q _=>∃(mv rv lv:V) (p:Addr) (kvs:List (Key×V)) (bx:List (Str×D)) (l:D) (mk:Mak) (bs:List (Str×Str)) (r:Row),vs=[mv,rv,.ref p,lv]/\RelD H mv mk.d/\KWf mk.kinds/\RelD H rv r.d/\H p=some (.dK kvs)/\KvD H kvs bx/\bx.length<=6/\FitB mk.kinds bs (enOf bx)/\(∀x t,r=.set x t->∃k,TmOk mk.kinds 21 bs t k)/\(∀n c x,r=.take n c x->RelD H lv l) ∧
 ∀p' kvs' H',Same H H'->p'=p\/H p'=none->H' p'=some (.dK kvs')->KvD H' kvs' (xes mk.kinds bx l r)->Q (.ref p') H'
theorem hd_d{H:Hp}{u:V}{hd:Hand}(h:RelD H u hd.d):∃a c b,u=.ref a/\H a=some (.tup [.str hd.name,c,b])/\RelD H c (xda hd.boxes)/\RelD H b (.tup (hd.rows.map Row.d)):=by
 obtain⟨a,us,e,f,_,_,rfl,rfl,c,_,rfl,i,b,_,rfl,g,rfl⟩:=h;exact(xcd a c b e f i g)
theorem mk_d{H:Hp}{u:V}{b:Mak}(h:RelD H u b.d):∃a c g f,u=.ref a/\H a=some (.tup [c,g,f])/\RelD H c (xdk b.kinds)/\RelD H g (.tup (b.chans.map dChn))/\RelD H f (.tup (b.hands.map Hand.d)):=by
 obtain⟨a,us,e,i,c,_,rfl,h0,g,_,rfl,l,f,_,rfl,j,rfl⟩:=h;exact(xah a c g f e i h0 l j)
theorem xjp{H:Hp}{u:V}{r:Row}(h:RelD H u r.d):∃a us,u=.ref a/\H a=some (.tup (.str r.hd::us))/\RelDs H us r.as:=by
 obtain⟨a,us,e,c,_,b,rfl,rfl,f⟩:=h;exact(xaw a b e c f)
theorem xpi(T:Tx K G):DefIs P w K G base (n+1) "named" qa4 xmj:=by
 refine DefIs.of T.jC sc_named (by walk_at"l") (λf U A outer s H vs Q E hr h=>?_);obtain⟨Y,x,hs,hd,rfl,J,r,q⟩:=h;have nd:=sc_named.nd
 refine⟨_,(zpn (xcg PassesOwn.never rfl (xa1 (K:=K) rfl (pv 0)) (pgn 2 nd)
   (zpo (xa8 (pR xbd (px K (pv 2) pI) (pv 1) (nM _)) (zpo (xaf (pv 2))) pQ)))
   (zpo (xaf xeq))),?_⟩
 obtain⟨a,us,rfl,u,y⟩:=J;refine(xa3 _ rfl a rfl ⟨_,SqT.of u⟩ ?_);have M:=y.length;rw[zLM]at M;refine xdp (xs:=us) (λi σ l=>∃o,σ=[some (.ref a),some (.str x),o]/\l=H/\(hs.take i).find? (λh=>decide (h.name=x))=none) (jEAA none rfl rfl rfl) (λi σ l _ p=>?_) ?_ ?_
 ·obtain⟨_,_,rfl,_⟩:=p
  exact SqT.of u
 ·rintro i v σ l I ⟨o,rfl,rfl,hn⟩
  obtain⟨d,j,rd⟩:=y.get I;rw[zGM]at j;obtain⟨h',g,rfl⟩:=zMS j;have m:=rd;obtain⟨b,bv,Z,rfl,O,_,_⟩:=hd_d rd;refine(xaa _ rfl b _ _ _ rfl rfl (SqT.of O) rfl (xa4 _ rfl rfl _ rfl (ite2 (λc=>?_) (λc=>?_))))
  ·have e:h'.name=x:=V.str.inj (of_decide_eq_true c)
   have C:=(xcw hn g).1 (zDT e);rw[r]at C;cases C;exact(jEA _ rfl (q _ m))
  ·have e:¬h'.name=x:=λz=>c (zDT (congrArg V.str z))
   exact(jEAA _ rfl rfl ((xcw hn g).2 (zDF e)))
 ·rintro σ l ⟨o,rfl,rfl,hn⟩
  rw[zTL (by omega),r]at hn;cases hn
theorem xlu(T:Tx K c)(b:DefIs P w K c base n "named" qa4 xmj):DefIs P w K c base (n+1) "hand_of" qaf xe6:=by
 refine DefIs.of T.jB xlo (by walk_at"l") (λf o A outer s H vs Q E g h=>?_);obtain⟨p,x,e,hd,rfl,i,j,q⟩:=h;obtain⟨a,r,y,u,rfl,l,_,_,m⟩:=mk_d i;refine(jEA _ (zpo (xaf (pd b g (pc (px K (pv 0) pI) (v1 1) ss)))) ?_);exact(xaa _ rfl a _ _ _ rfl rfl (SqT.of l) rfl (xa7 _ rfl _ x e.hands hd (jAAA rfl m j q)))
theorem xhi{H:Hp}{us:List V}{cs:List Chn}(g:RelDs H us (cs.map dChn)){i:Nat}{v:V}(a:us[i]?=some v):∃(b:Addr) (c:Chn),cs[i]?=some c/\v=.ref b/\H b=some (.tup [.str c.1,.str c.2.1,.str c.2.2.1,.str c.2.2.2]):=by
 obtain⟨d,hd,rd⟩:=g.get a;rw[zGM]at hd;obtain⟨c,e,rfl⟩:=zMS hd;obtain⟨b,ws,rfl,f,_,_,rfl,rfl,_,_,rfl,rfl,_,_,rfl,rfl,_,_,rfl,rfl,rfl⟩:=rd;exact(xaw b c e rfl f)
def Row.wy(k:Nat):Row->List Nat
 |.go g=>[g]
 |.cond _ g=>[g,k+1]
 |.fin=>[]
 |_=>[k+1]
def xht:Sp:=λvs H Q _=>∃(rv:V) (k:Nat) (r:Row),vs=[rv,.int k]/\RelD H rv r.d/\∀a H',Same H H'->H' a=some (.tup ((Row.wy k r).map λi:Nat=>V.int i))->Q (.ref a) H'
theorem xjw(T:Tx K mg):DefIs P w K mg base (n+1) "row_ways" ["row","k"] xht:=by
 refine DefIs.of T.jA xjm (by walk_at"l") (λf cdv A outer s H vs Q E hr h=>?_);obtain⟨rv,k,r,rfl,hrr,q⟩:=h;obtain⟨a,us,rfl,ha,hus⟩:=xjp hrr
 refine⟨_,(zpn (xa8 (pR xbd (px K (pv 0) pI) pS (nM _)) (zpo (xaf (xak (pc (px K (pv 0) pI) pN ss)))) pQ)
   (zpn (xa8 (pR xbd (px K (pv 0) pI) pS (nM _)) (zpo (xaf (xak (pc (px K (pv 0) pI) (pc (xaj xba (pv 1) pI) pN xaz) ss)))) pQ)
   (zpn (xa8 (pR xbd (px K (pv 0) pI) pS (nM _)) (zpo (xaf (xak pN))) pQ)
   (zpo (xaf (xak (pc (xaj xba (pv 1) pI) pN xaz))))))),?_⟩
 have hh:SqT K H a (.str r.hd::us):=SqT.of ha;have h0:atI (V.str r.hd::us) 0=some (.str r.hd):=xa0 (j:=0) rfl
 cases r with
 |go g=>
  obtain⟨_,_,rfl,rfl,rfl⟩:=hus;refine(xaa _ rfl a _ _ _ rfl rfl hh h0 (jAEA rfl _ rfl (iteKT (hdT rfl) ?_)));exact(xaa _ rfl a _ _ _ rfl rfl hh rfl ⟨(by walk_at"s"),λp hp=>q p _ (Same.new hp _) ups⟩)
 |cond t g=>
  obtain⟨_,_,rfl,_,_,_,rfl,rfl,rfl⟩:=hus;refine(xaa _ rfl a _ _ _ rfl rfl hh h0 (jAEA rfl _ rfl (iteKF (hdF (xsl (by intro _ e;cases e))) ?_)));refine(xaa _ rfl a _ _ _ rfl rfl hh h0 (jAEA rfl _ rfl (iteKT (hdT rfl) ?_)));exact(xaa _ rfl a _ _ _ rfl rfl hh rfl (xat _ rfl _ _ rfl rfl ⟨(by walk_at"s"),λp hp=>q p _ (Same.new hp _) (by rw[ups];rfl)⟩))
 |fin=>
  refine(xaa _ rfl a _ _ _ rfl rfl hh h0 (jAEA rfl _ rfl (iteKF (hdF (xsl (by intro _ e;cases e))) ?_)));refine(xaa _ rfl a _ _ _ rfl rfl hh h0 (jAEA rfl _ rfl (iteKF (hdF (xsk (by intro _ _ e;cases e))) ?_)));refine(xaa _ rfl a _ _ _ rfl rfl hh h0 (jAEA rfl _ rfl (iteKT (hdT rfl) ?_)));exact⟨(by walk_at"s"),λp hp=>q p _ (Same.new hp _) ups⟩
 |_=>
  refine(xaa _ rfl a _ _ _ rfl rfl hh h0 (jAEA rfl _ rfl (iteKF (hdF (xsl (by intro _ e;cases e))) ?_)));refine(xaa _ rfl a _ _ _ rfl rfl hh h0 (jAEA rfl _ rfl (iteKF (hdF (xsk (by intro _ _ e;cases e))) ?_)));refine(xaa _ rfl a _ _ _ rfl rfl hh h0 (jAEA rfl _ rfl (iteKF (hdF (xn6 (by intro e;cases e))) ?_)));exact(xat _ rfl _ _ rfl rfl ⟨(by walk_at"s"),λp hp=>q p _ (Same.new hp _) (by rw[ups];rfl)⟩)
theorem xni(T:Tx K mg)(D_hand_of:DefIs P w K mg base n "hand_of" qaf xe6):DefIs P w K mg base (n+1) "row_at" qak xgu:=by
 refine DefIs.of T.jN xmx (by walk_at"l") (λf cdv A outer s H vs Q E hr h=>?_);obtain⟨mv,x,sa,p,k,mk,hd,r,rfl,hm,hf,hsa,hk,q⟩:=h;refine(jEA _ (zpo (xaf (px K (px K (pd D_hand_of hr (va 0 (v1 1))) pI) (px K (pv 2) pI)))) ?_);refine(xam _ rfl _ rfl mv x mk (xbt hd rfl hm hf (λu hu=>?_)));obtain⟨a,bv,rv,rfl,ha,_,h2⟩:=hd_d hu;obtain⟨ra,us,rfl,hra,hR⟩:=h2;refine(xbm a _ _ _ rfl rfl (SqT.of ha) rfl _ (jAE rfl sa (xal _ _ _ rfl rfl (SqT.of hsa) rfl ?_)));have hl:=hR.length;rw[zLM]at hl;have hk':=(zES hk).1;have hv:us[k]?=some (us[k]'(by omega)):=zGA _;obtain⟨d,hd',rd⟩:=hR.get hv;rw[zGM,hk]at hd';cases hd';exact(xah ra _ _ _ rfl rfl (SqT.of hra) (xa0 hv) (q _ rd))
theorem xfq(T:Tx K mg):DefIs P w K mg base (n+1) "first_letter" qat xmn:=by
 refine DefIs.of T.jO xfl (by walk_at"l") (λf cdv A outer s H vs Q E hr h=>?_);obtain⟨rv,ca,r,rfl,hrr,q⟩:=h;have hu:=xeh hr;obtain⟨a,us,rfl,ha,hus⟩:=xjp hrr
 refine⟨_,(zpn (xa8 (PW.pt (xcj (pR xbd (px K (pv 0) pI) pS (nM _)) (xb8 (pR xc7 (xaq (xad (K:=K) rfl) rfl T.kQ PySem.boot_len (pc (xci hu (pv 1) (px K (pv 0) pI) (λ_ _=>rfl)) pN ss)) pI (nM _))))) (zpo (xaf (pxl K (xci hu (pv 1) (px K (pv 0) pI) (λ_ _=>rfl)) pI))) pQ)
   (zpo (xaf xeq))),?_⟩
 have hh:SqT K H a (.str r.hd::us):=SqT.of ha;have h0:atI (V.str r.hd::us) 0=some (.str r.hd):=xa0 (j:=0) rfl
 cases r with
 | take l c x=>
  obtain⟨_,_,rfl,rfl,_,_,rfl,rfl,_,_,rfl,rfl,rfl⟩:=hus;obtain⟨kvs,la,zs,hca,hv,hla,q⟩:=q
  have gd:DGet H ca (.str c) (some (.ref la)):=by
   have:=DGet.rd (k:=Sum.inr c) (.inl hca);rw[hv]at this;exact this
  refine(xaa _ rfl a _ _ _ rfl rfl hh h0 (jAEA rfl _ rfl (iteKT (hdT rfl) ?_)));refine(xam _ rfl _ rfl a _ _ (xbi _ rfl rfl hh rfl (xao ca _ rfl gd la _ rfl (.inl (SqL.of hla)) _ (xa4 _ rfl rfl _ rfl ?_))))
  cases zs with
  |nil=>exact iteKF (by decide) q
  |cons z zs=>
   refine iteKT (zDT (by show(0:Int)<((zs.length+1:Nat):Int);omega)) ?_;exact(xam _ rfl _ rfl a _ _ (xbi _ rfl rfl hh rfl (xaw ca _ rfl gd (xah la _ _ _ rfl rfl (SqL.of hla) (xa0 (j:=0) rfl) q))))
 |_=>
  exact(xaa _ rfl a _ _ _ rfl rfl hh h0 (jAEA rfl _ rfl (iteKF (hdF (xeo (by intro _ _ _ e;cases e))) (iteF q))))
theorem xg7(T:Tx K mg)(D_row_ways:DefIs P w K mg base n "row_ways" ["row","k"] xht)(D_worth:DefIs P w K mg base n "worth" qad (xc2 (λks=>Ev ks 21) 6)):DefIs P w K mg base (n+1) "row_behind" qa6 xqf:=by
 refine DefIs.of T.jQ sc_row_behind (by walk_at"l") (λf cdv A outer s H vs Q E hr h=>?_);obtain⟨mv,rv,sa,p,k,bx,mk,bs,r,rfl,hm,wf,hrr,hne,hst,h6,hfit,hcond,q⟩:=h;have nd:=sc_row_behind.nd;have hrr0:=hrr;obtain⟨a,us,rfl,ha,hus⟩:=xjp hrr;obtain⟨hsa,kvs,hp,hkv⟩:=hst;obtain⟨ma,kv,cv,hv,rfl,hma,hk0,_,_⟩:=mk_d hm
 refine⟨_,(zpn (psn 3 nd (pd D_row_ways hr (va 1 (pc (px K (pv 2) pI) pN ss))))
   (zpn (xa8 (PW.pt (xcj (pR xbd (px K (pv 1) pI) pS (nM _)) (xb8 (pR xbd (pd D_worth hr (pc (px K (pv 0) pI) (pc (px K (pv 1) pI) (pc (px K (pv 2) pI) pN ss) ss) ss)) pI (nM _))))) (zpo (xaf (px K (pv 3) pI))) pQ)
   (zpo (xaf (px K (pv 3) pI))))),?_⟩
 refine(xam _ rfl _ rfl sa _ _ (xbi _ rfl rfl (SqT.of hsa) rfl (xb7 _ k r rfl hrr0 (λwa H1 s1 hwa=>?_))));have hh:SqT K H1 a (.str r.hd::us):=SqT.of (s1 _ _ ha);have h0:atI (V.str r.hd::us) 0=some (.str r.hd):=xa0 (j:=0) rfl
 cases r with
 |fin=>exact absurd rfl hne
 | cond t g=>
  obtain⟨tv,_,rfl,ht,_,_,rfl,rfl,rfl⟩:=hus;obtain⟨ev,vk⟩:=xlg (hcond t g rfl) hfit;obtain⟨i,hi,e⟩:=xgc wf rfl vk;refine(xaa _ rfl a _ _ _ rfl rfl hh h0 (jAEA rfl _ rfl (iteKT (hdT rfl) ?_)));refine(xaa _ rfl ma _ _ _ rfl rfl (SqT.of (s1 _ _ hma)) rfl (xaa _ rfl a _ _ _ rfl rfl hh rfl (xaa _ rfl sa _ _ _ rfl rfl (SqT.of (s1 _ _ hsa)) rfl ?_)));refine(xan _ _ p mk.kinds t (xa6 (enOf bx) _ rfl (wf.ksAt (hk0.same s1 _)) (ht.same s1 _) (KvD.en (s1 _ _ hp) (hkv.tups (Same.tups s1)) h6) ev (λu H2 s2 hu=>?_)));rw[e]at hu;obtain rfl:u=.int i:=hu;refine(jAEA rfl _ rfl ?_);have s12:=s1.trans s2;by_cases h0:i=0
  ·subst h0
   refine iteKT (by decide) ?_;refine(xaa _ rfl wa _ _ _ rfl rfl (SqT.of (s2 _ _ hwa)) rfl ?_);have:=q H2 s12;rw[show xcx mk.kinds bx k (.cond t g)=k+1 from if_pos e]at this;exact this
  ·refine iteKF (zDF λz=>h0 (V.int.inj z)) ?_
   refine(xaa _ rfl wa _ _ _ rfl rfl (SqT.of (s2 _ _ hwa)) rfl ?_);have:=q H2 s12;rw[show xcx mk.kinds bx k (.cond t g)=g from if_neg λz=>h0 (by rw[e]at z;exact D.int.inj z)]at this;exact this
 |_=>
  refine(xaa _ rfl a _ _ _ rfl rfl hh h0 (jAEA rfl _ rfl (iteKF (hdF (xsk (by intro _ _ e;cases e))) (iteF ?_))));exact(xaa _ rfl wa _ _ _ rfl rfl (SqT.of hwa) rfl (q H1 s1))
theorem xfr(T:Tx K mg)(D_with_box:DefIs P w K mg base n "with_box" qan xtc)(D_worth:DefIs P w K mg base n "worth" qad (xc2 (λks=>Ev ks 21) 6)):DefIs P w K mg base (n+1) "boxes_behind" qav xte:=by
 refine DefIs.of T.jR xfm (by walk_at"l") (λf cdv A outer s H vs Q E hr h=>?_);obtain⟨mv,rv,lv,p,kvs,bx,l,mk,bs,r,rfl,hm,wf,hrr,hp,hkv,h6,hfit,hset,htake,q⟩:=h;obtain⟨a,us,rfl,ha,hus⟩:=xjp hrr;obtain⟨ma,kv,cv,hv,rfl,hma,hk0,_,_⟩:=mk_d hm;have hkl:=hkv.length
 refine⟨_,(zpn (xa8 (pR xbd (px K (pv 1) pI) pS (nM _)) (zpo (xaf (pd D_with_box hr (va 2 (pc (px K (pv 1) pI) (pc (pd D_worth hr (pc (px K (pv 0) pI) (pc (px K (pv 1) pI) (v1 2) ss) ss)) pN zsc) ss))))) pQ)
   (zpn (xa8 (pR xbd (px K (pv 1) pI) pS (nM _)) (zpo (xaf (pd D_with_box hr (va 2 (pc (px K (pv 1) pI) (v1 3) ss))))) pQ)
   (zpo (xaf (pv 2))))),?_⟩
 have hh:SqT K H a (.str r.hd::us):=SqT.of ha;have h0:atI (V.str r.hd::us) 0=some (.str r.hd):=xa0 (j:=0) rfl
 cases r with
 |set x t=>
  obtain⟨_,_,rfl,rfl,tv,_,rfl,ht,rfl⟩:=hus;obtain⟨kk,tok⟩:=hset x t rfl;obtain⟨ev,vk⟩:=xlg tok hfit;refine(xaa _ rfl a _ _ _ rfl rfl hh h0 (jAEA rfl _ rfl (iteKT (hdT rfl) ?_)));refine(xam _ rfl _ rfl a _ _ (xbi _ rfl rfl hh rfl (xaa _ rfl ma _ _ _ rfl rfl (SqT.of hma) rfl (xaa _ rfl a _ _ _ rfl rfl hh rfl (jEA _ rfl ?_)))));refine(xan _ _ p mk.kinds t (xa6 (enOf bx) _ rfl (wf.ksAt hk0) ht (KvD.en hp hkv h6) ev (λu H2 s2 hu=>?_)));refine(jEEE p x u (xbt kvs rfl (s2 _ _ hp) (by omega) (λp' H3 s3 hp' h3=>?_)));refine q p' _ H3 (s2.trans s3) (.inr (xav s2 hp')) h3 ?_;exact(hkv.tups (Same.tups (s2.trans s3))).put (hu.same s3 _)
 |take nm c x=>
  obtain⟨_,_,rfl,rfl,_,_,rfl,rfl,_,_,rfl,rfl,rfl⟩:=hus;refine(xaa _ rfl a _ _ _ rfl rfl hh h0 (jAEA rfl _ rfl (iteKF (hdF (xqz (by intro _ _ e;cases e))) ?_)));refine(xaa _ rfl a _ _ _ rfl rfl hh h0 (jAEA rfl _ rfl (iteKT (hdT rfl) ?_)));refine(xam _ rfl _ rfl a _ _ (xbi _ rfl rfl hh rfl (xa7 _ rfl p x lv kvs (jAAA rfl hp (by omega) (λp' H3 s3 hp' h3=>?_)))));refine q p' _ H3 s3 (.inr hp') h3 ?_;exact(hkv.tups (Same.tups s3)).put ((htake nm c x rfl).same s3 _)
 |_=>
  refine(xaa _ rfl a _ _ _ rfl rfl hh h0 (jAEA rfl _ rfl (iteKF (hdF (xqz (by intro _ _ e;cases e))) ?_)));refine(xaa _ rfl a _ _ _ rfl rfl hh h0 (jAEA rfl _ rfl (iteKF (hdF (xeo (by intro _ _ _ e;cases e))) ?_)));exact(jEA _ rfl (q p kvs H (Same.refl _) (.inl rfl) hp hkv))
theorem xn8{mk:Mak}{x:Str}{hd:Hand}(h:xd4 mk x=some hd):hd∈mk.hands/\hd.name=x:=⟨zMF h,by
 have:=List.find?_some h;exact of_decide_eq_true this⟩
theorem xos{mk:Mak}{hd:Hand}(h:(hd.boxes.map (·.1)).Nodup):((begL mk hd).map (·.1)).Nodup:=by
 unfold begL;rw[List.map_map];exact h
theorem xif(T:Tx K mg):DefIs P w K mg base (n+1) "own_stand" ["stand"] xmg:=by
 refine DefIs.of T.jM xh2 (by walk_at"l") (λf cdv A outer s H vs Q E hr h=>?_);obtain⟨sa,p,k,bx,rfl,⟨hsa,kvs,hp,hkv⟩,h100,q⟩:=h;refine(jEA _ (zpo (xaf (xak (pc (px K (pv 0) pI) (pc (xay xgo rfl T.kN PyProof.Rows.boot_dict (pc (px K (pv 0) pI) pN ss)) pN zsc) ss)))) ?_);refine(xaa _ rfl sa _ _ _ rfl rfl (SqT.of hsa) rfl (xaa _ rfl sa _ _ _ rfl rfl (SqT.of hsa) rfl (xaw p kvs rfl hp (λc hc=>⟨(by walk_at"s"),λt ht=>?_⟩))));have s1:=Same.new hc (.dK kvs);have s2:=Same.new ht (.tup [.int k,.ref c]);exact q t c _ (s1.trans s2) hc (jAEA ups kvs (s2 _ _ ups) (hkv.tups (Same.tups (s1.trans s2))))
theorem xjy(T:Tx K mg)(D_hand_of:DefIs P w K mg base n "hand_of" qaf xe6)(D_nought:DefIs P w K mg base n "nought" qao (spNu nuV 6)):DefIs P w K mg base (n+1) "begin_of" qaf xms:=by
 refine DefIs.of T.jL xjo (by walk_at"l") (λf cdv A outer s H vs Q E hr h=>?_);obtain⟨mv,x,mk,hd,rfl,hm,mok,hf,q⟩:=h;obtain⟨hin,hnm⟩:=xn8 hf;have hok:=mok.hok hd hin;refine(jEA _ (zpo (xaf (xak (pc pI (pc (xay (xc1 rfl) rfl T.kN PyProof.Rows.boot_dict (pc (xbo ["x","kind","make"] [none,none,some 0] rfl (by kernel_rfl) (xa1 (K:=K) rfl (px K (pd D_hand_of hr (va 0 (v1 1))) pI)) (λ_ _ _ _=>(xbl (K:=K) (n:=2) rfl rfl (xae (pgc 0) (xae (pgc 1) xbh)))) (λ_ _ _ _=>xbv) (λ_ _ _ _=>(xak (va 0 (pc (pd D_nought hr (pc (px K (pv 2) pI) (v1 1) ss)) pN zsc))))) pN xcc)) pN zsc) so)))) ?_);obtain⟨ma,kv,cv,hv,rfl,hma,hk0,_,_⟩:=mk_d hm;refine(xam _ rfl _ rfl _ x mk (xbt hd rfl hm hf (λu hu=>?_)));obtain⟨a,bv,rv,rfl,ha,hb,_⟩:=hd_d hu;obtain⟨ba,us,rfl,hba,hR⟩:=hb;have hl:=hR.length;rw[zLM]at hl;have h5:=hok.few;refine(xbm a _ _ _ rfl rfl (SqT.of ha) rfl ba (jAA rfl ⟨_,SqT.of hba⟩ ?_));refine xbs (xs:=us) (λi ys H'=>Same H H'/\∃kvs,PairsV H' ys kvs/\KvD H' kvs ((begL mk hd).take i)) (jAEA (Same.refl _) ([]) trivial (by rw[List.take_zero];trivial)) (xa5 (by omega)) (λi ys H' _ p=>SqT.of (p.1 _ _ hba)) ?_ ?_
 ·rintro i y ys H' hy hi hly ⟨sm,kvs,hpv,hkv⟩
  obtain⟨d,hd',rd⟩:=hR.get hy;rw[zGM]at hd';obtain⟨b,hb',rfl⟩:=zMS hd';obtain⟨pb,ws,rfl,hpb,_,_,rfl,rfl,_,_,rfl,rfl,rfl⟩:=rd;have hbm:=zMG hb';refine(xa2 pb _ rfl (SqT.of (sm _ _ hpb)) rfl _ _ rfl _ (xbt _ rfl rfl (ext2 rfl rfl) (xdh ?_)));refine(xam _ rfl _ rfl ma _ _ (xbi _ rfl rfl (SqT.of (sm _ _ hma)) rfl (jEA _ rfl (xal kv mk.kinds b.2 rfl (hk0.same sm _) mok.wf (hok.kin b hbm) (λu H2 s2 r2=>⟨(by walk_at"s"),λt ht=>nxtG hi hly ?_⟩)))));have s3:=Same.new ht (.tup [.str b.1,u]);refine(jAEA (sm.trans (s2.trans s3)) (kvs++[(Sum.inr b.1,u)]) ?_ ?_)
  ·exact(hpv.same (Same.tups (s2.trans s3))).append ⟨(jEA t rfl ups),trivial⟩
  ·have e:(begL mk hd).take (i+1)=(begL mk hd).take i++[(b.1,nuV 7 mk.kinds b.2)]:=by
    rw[zTA];unfold begL;rw[zGM,hb'];rfl
   rw[e];exact(hkv.tups (Same.tups (s2.trans s3))).snoc (r2.same s3 _)
 ·rintro ys H' hly ⟨sm,kvs,hpv,hkv⟩ D hD
  have sD:=Same.new hD (.lst ys);have hbl:(begL mk hd).length=us.length:=by unfold begL;rw[zLM,hl]
  rw[zTL (by omega)]at hkv;refine(xcd D ys kvs rfl ups (hpv.same (Same.tups sD)) (λc hc=>⟨(by walk_at"s"),λt ht=>?_⟩))
  have hkd:(kvs.map (·.1)).Nodup:=by
   rw[hkv.keys];exact xqx (xos hok.nd)
  rw[xee hkd]at ht⊢;have s3:=Same.new hc (.dK kvs);have s4:=Same.new ht (.tup [.int 0,.ref c]);have sA:=sD.trans (s3.trans s4);exact q t c _ (sm.trans sA) (xav (sm.trans sD) hc) (jAEA ups kvs (s4 _ _ ups) (hkv.tups (Same.tups sA)))
structure Here(H:Hp)(mv:V)(x:Str)(sa p:Addr)(k:Nat)(bx:List (Str×D))(mk:Mak)(hd:Hand)(r:Row):Prop where
 md:RelD H mv mk.d
 mok:MakOk mk
 hf:xd4 mk x=some hd
 st:StAt H sa p k bx
 few:bx.length<=6
 fit:FitB mk.kinds hd.boxes (enOf bx)
 row:hd.rows[k]?=some r
theorem Here.ok{H:Hp}{c:V}{x:Str}{b p:Addr}{k:Nat}{bx:List (Str×D)}{a:Mak}{hd:Hand}{r:Row}(h:Here H c x b p k bx a hd r):xe2 a.kinds a.chans x hd.boxes hd.rows.length r:=by
 have hi:=xn8 h.hf;have:=(h.mok.hok hd hi.1).ok r (zMG h.row)
 rwa[hi.2]at this
def xgt:Sp:=λvs H Q _=>∃(mv lv:V) (x:Str) (sa p:Addr) (k:Nat) (bx:List (Str×D)) (l:D) (mk:Mak) (hd:Hand) (r:Row),vs=[mv,.str x,.ref sa,lv]/\Here H mv x sa p k bx mk hd r ∧
 ((r=.fin/\Q .non H)\/(∃n c y,r=.take n c y/\lv=.non/\Q .non H)\/(r≠.fin/\(∀n c y,r=.take n c y->lv≠.non/\RelD H lv l)/\∀a' p' H',Same H H'->p'=p\/H p'=none->StAt H' a' p' (xcx mk.kinds bx k r) (xes mk.kinds bx l r)->Q (.ref a') H'))
def xve(H:Hp)(Q:VK)(mk:Mak)(k:Nat)(bx:List (Str×D))(p ca ga ta:Addr):Row->Prop
 |.fin=>Q .non H
 |.take _ c x=>∃kvs la us ds,H ca=some (.dK kvs)/\valV kvs (Sum.inr c)=some (.ref la)/\H la=some (.lst us)/\RelDs H us ds/\(ds=[]->Q .non H)/\∀d ds',ds=d::ds'->∀a' p' H',Chg la us.tail H H'->p'=p\/H p'=none->StAt H' a' p' (k+1) (putA bx x d)->Q (.ref a') H'
 |.send c t=>∃kvs la us,H ga=some (.dK kvs)/\valV kvs (Sum.inr c)=some (.ref la)/\H la=some (.lst us)/\us.length<=1000/\∀a' p' u H',Chg la (us++[u]) H H'->RelD H' u (wv mk.kinds bx t)->p'=p\/H p'=none->StAt H' a' p' (k+1) bx->Q (.ref a') H'
 |.tell t=>∃us,H ta=some (.lst us)/\us.length<=1000/\∀a' p' u H',Chg ta (us++[u]) H H'->RelD H' u (wv mk.kinds bx t)->p'=p\/H p'=none->StAt H' a' p' (k+1) bx->Q (.ref a') H'
 |r=>∀a' p' H',Same H H'->p'=p\/H p'=none->StAt H' a' p' (xcx mk.kinds bx k r) (xes mk.kinds bx (.int 0) r)->Q (.ref a') H'
def xmp:Sp:=λvs H Q _=>∃(mv:V) (x:Str) (sa ca ga ta p:Addr) (k:Nat) (bx:List (Str×D)) (mk:Mak) (hd:Hand) (r:Row),vs=[mv,.str x,.ref sa,.ref ca,.ref ga,.ref ta]/\Here H mv x sa p k bx mk hd r/\xve H Q mk k bx p ca ga ta r
theorem xrq{H:Hp}{d:D}{v:V}(h:RelD H v d):v≠.non:=by
 intro e;subst e
 cases d with
 |int i=>exact nomatch h
 |str x=>exact nomatch h
 |tup ds=>obtain⟨_,_,e,_⟩:=h;exact nomatch e
theorem xnh(T:Tx K mg)(o:DefIs P w K mg base n "row_at" qak xgu)(i:DefIs P w K mg base n "row_behind" qa6 xqf)(b:DefIs P w K mg base n "boxes_behind" qav xte):DefIs P w K mg base (n+1) "stride" qau xgt:=by
 refine DefIs.of T.jP sc_stride (by walk_at"l") (λf a7 A outer s H vs Q E hr h=>?_);obtain⟨mv,lv,x,sa,p,k,bx,l,mk,hd,r,rfl,m,q⟩:=h;have nd:=sc_stride.nd
 refine⟨_,(zpn (psn 4 nd (pd o hr (va 0 (va 1 (v1 2)))))
   (zpn (xa8 (PW.pt (xlr (pR xbd (px K (pv 4) pI) pS (nM _)) (xku (PW.pt (xcj (pR xbd (px K (pv 4) pI) pS (nM _)) (xb8 (pR xm7 (pv 3) xeq (nM _)))))))) (zpo (xaf xeq)) pQ)
   (zpo (xaf (xak (pc (pd i hr (va 0 (va 4 (v1 2)))) (pc (pd b hr (va 0 (va 4 (pc (px K (pv 2) pI) (v1 3) ss)))) pN zsc) zsc)))))),xab λR1 a5=>?_⟩
 refine(xbp _ rfl _ rfl _ rfl mv x (xan sa p k mk hd (xbx r rfl m.md m.hf m.st.1 m.row (λrv U=>a5 _ _ (xab λR2 a4=>?_)))));have C:=U;obtain⟨a,us,rfl,ha,a6⟩:=xjp U;have J:SqT K H a (.str r.hd::us):=SqT.of ha;have h0:atI (V.str r.hd::us) 0=some (.str r.hd):=xa0 (j:=0) rfl;have Y:=m.ok;rcases q with⟨rfl,q⟩ |⟨nn,c,y,rfl,rfl,q⟩ |⟨Z,hl,q⟩
 ·exact(xaa _ rfl a _ _ _ rfl rfl J h0 (jAEA rfl _ rfl (iteKT (hdT rfl) (iteT q))))
 ·refine(xaa _ rfl a _ _ _ rfl rfl J h0 (jAEA rfl _ rfl (iteKF (hdF (xn6 (by intro e;cases e))) ?_)))
  exact(xaa _ rfl a _ _ _ rfl rfl J h0 (jAEA rfl _ rfl (iteKT (hdT rfl) (xa4 _ rfl rfl _ rfl (iteKT (zDT rfl) q)))))
 ·have O:R2 [some mv,some (.str x),some (.ref sa),some lv,some (.ref a)] H:=by
   refine a4 _ _ ?_;refine(xbp _ rfl _ rfl _ rfl mv (.ref a) (xan sa p k bx mk (xa6 hd.boxes r rfl m.md m.mok.wf C Z (jAAA m.st m.few m.fit ⟨λt g e=>?_,λH1 z=>?_⟩))))
   ·subst e
    exact Y.1
   obtain⟨a0,kvs,hp,a2⟩:=m.st;refine(xbp _ rfl _ rfl _ rfl sa _ (xcp _ _ rfl rfl (SqT.of (z _ _ a0)) rfl (jEA _ rfl ?_)));refine(xan mv (.ref a) lv p kvs (xag bx l mk hd.boxes r rfl (m.md.same z _) m.mok.wf (C.same z _) (z _ _ hp) (jAAA (a2.tups (Same.tups z)) m.few m.fit (jAA (λu t e=>?_) (λG I u e=>(hl G I u e).2.same z _) (λp' M H2 s2 a1 h2 a3=>⟨(by walk_at"s"),λt ht=>?_⟩)))))
   ·subst e
    obtain⟨kk,_,h⟩:=Y;exact⟨kk,h⟩
   have s3:=Same.new ht (.tup [.int (xcx mk.kinds bx k r:Nat),.ref p']);exact q t p' _ (z.trans (s2.trans s3)) (a1.imp id λh=>xav z h) (jAEA ups M (s3 _ _ h2) (a3.tups (Same.tups s3)))
  refine(xaa _ rfl a _ _ _ rfl rfl J h0 (jAEA rfl _ rfl (iteKF (hdF (xn6 Z)) ?_)));by_cases ht:∃G I u,r=.take G I u
  ·obtain⟨G,I,u,rfl⟩:=ht
   exact(xaa _ rfl a _ _ _ rfl rfl J h0 (jAEA rfl _ rfl (iteKT (hdT rfl) (xa4 _ rfl rfl _ rfl (iteKF (zDF (hl G I u rfl).1) O)))))
  ·exact(xaa _ rfl a _ _ _ rfl rfl J h0 (jAEA rfl _ rfl (iteKF (hdF (xeo λG I u e=>ht (jEEE G I u e))) (iteF O))))
theorem xr3(T:Tx K mg)(Y:DefIs P w K mg base n "row_at" qak xgu)(U:DefIs P w K mg base n "stride" qau xgt)(g:DefIs P w K mg base n "first_letter" qat xmn)(o:DefIs P w K mg base n "worth" qad (xc2 (λks=>Ev ks 21) 6)):DefIs P w K mg base (n+1) "done" qaw xmp:=by
 refine DefIs.of T.jS sc_done (by walk_at"l") (λf am A outer s H vs Q E hr h=>?_);obtain⟨mv,x,sa,ca,ga,ta,p,k,bx,J,hd,r,rfl,l,q⟩:=h;have nd:=sc_done.nd;have hu:=xeh hr
 refine⟨_,(zpn (psn 6 nd (pd Y hr (va 0 (va 1 (v1 2)))))
   (zpn (psn 7 nd (pd U hr (va 0 (va 1 (va 2 (pc (pd g hr (va 6 (v1 3))) pN zsc))))))
   (zpn (xa8 (pR xm7 (pv 7) xeq (nM _)) (zpo (xaf xeq)) pQ)
   (zpn (xa8 (pR xbd (px K (pv 6) pI) pS (nM _)) (zpo (xby (xc9 PySem.F.plainAttrs_list PySem.F.slot_list_pop PySem.F.type_list_pop xhd (xci hu (pv 3) (px K (pv 6) pI) (λ_ _=>rfl)) (pc pI pN so)))) (zpo (xa8 (pR xbd (px K (pv 6) pI) pS (nM _)) (zpo (xby (xc9 PySem.F.plainAttrs_list PySem.F.slot_list_append PySem.F.type_list_append xbw (xci hu (pv 4) (px K (pv 6) pI) (λ_ _=>rfl)) (pc (pd o hr (pc (px K (pv 0) pI) (pc (px K (pv 6) pI) (pc (px K (pv 2) pI) pN ss) ss) ss)) pN zsc)))) (zpo (xa8 (pR xbd (px K (pv 6) pI) pS (nM _)) (zpo (xby (xc9 PySem.F.plainAttrs_list PySem.F.slot_list_append PySem.F.type_list_append xbw (pv 5) (pc (pd o hr (pc (px K (pv 0) pI) (pc (px K (pv 6) pI) (pc (px K (pv 2) pI) pN ss) ss) ss)) pN zsc)))) pQ)))))
   (zpo (xaf (pv 7))))))),xab λR1 aj=>?_⟩
 refine(xbp _ rfl _ rfl _ rfl mv x (xan sa p k J hd (xbx r rfl l.md l.hf l.st.1 l.row (λrv M=>aj _ _ (xab λR2 a1=>?_)))));have a9:=l.ok;obtain⟨a,us,rfl,ha,a2⟩:=xjp (id M);have O:∀{H'},Same H H'->SqT K H' a (.str r.hd::us):=λs=>SqT.of (s _ _ ha);have h0:atI (V.str r.hd::us) 0=some (.str r.hd):=xa0 (j:=0) rfl
 have wk:∀{H1 t kk u},Same H H1->TmOk J.kinds 21 hd.boxes t kk->RelD H u t->∃(ma:Addr) (kv cv hv:V),mv=.ref ma/\H1 ma=some (.tup [kv,cv,hv])/\KsAt H1 kv J.kinds/\RelD H1 u t/\EnAt H1 p 6 (enOf bx)/\Ev J.kinds 21 (enOf bx) t (wv J.kinds bx t):=λ{H1 t kk u} s1 tok hu=>by
  obtain⟨ma,kv,cv,hv,e,a0,ah,_,_⟩:=mk_d l.md;obtain⟨_,kvs,hp,ag⟩:=l.st;exact(xas ma kv cv hv e (s1 _ _ a0) (l.mok.wf.ksAt (ah.same s1 _)) (hu.same s1 _) (KvD.en (s1 _ _ hp) (ag.tups (Same.tups s1)) l.few) ((xlg tok l.fit).1))
 have shut:Q .non H->R2 [some mv,some (.str x),some (.ref sa),some (.ref ca),some (.ref ga),some (.ref ta),some (.ref a),some .non] H:=λq=>a1 _ _ (xab λR3 m=>(xa4 _ rfl rfl _ rfl (iteKT (zDT rfl) q)))
 cases r with
 |fin=>
  exact(xax _ rfl _ rfl _ rfl _ rfl _ rfl (xb7 (.ref a) ca (.fin) rfl M (xan mv (.non) x sa p (xan k bx (.int 0) J hd (jEAA (.fin) rfl l (.inl ⟨rfl,shut q⟩))))))
 | take nn c y=>
  obtain⟨kvs,la,ls,ds,ae,hv,b,ab,qn,qs⟩:=q;obtain⟨_,_,rfl,rfl,_,_,rfl,rfl,_,_,rfl,rfl,rfl⟩:=a2;refine(xax _ rfl _ rfl _ rfl _ rfl _ rfl (xb7 (.ref a) ca (.take nn c y) rfl M (xcd kvs la ls ae hv b ?_)))
  cases ds with
  |nil=>
   obtain rfl:ls=[]:=ab;exact(xan mv (.non) x sa p (xan k bx (.int 0) J hd (jEAA _ rfl l (.inr (.inl (xb7 nn c y rfl rfl (shut (qn rfl))))))))
  | cons d ds=>
   obtain⟨lv,a8,rfl,aa,ak⟩:=ab;refine(xan mv lv x sa p (xan k bx d J hd (jEAA _ rfl l (.inr (.inr (jAA (by intro e;cases e) (λ_ _ _ _=>⟨xrq aa,aa⟩) (λa' p' H' s' G C=>?_)))))));refine a1 _ _ (xab λR3 m=>(xa4 _ rfl rfl _ rfl (iteKF (zDF λz=>nomatch z) (m _ _ (xab λR4 I=>?_)))))
   have gd:DGet H' ca (.str c) (some (.ref la)):=by
    have:=DGet.rd (k:=Sum.inr c) (.inl (s' _ _ ae));rw[hv]at this;exact this
   refine(xaa _ rfl a _ _ _ rfl rfl (O s') h0 (jAEA rfl _ rfl (iteKT (hdT rfl) ?_)));refine(xam _ rfl _ rfl a _ _ (xbi _ rfl rfl (O s') rfl (xb0 ca _ rfl gd (.inl (jAE rfl _ (SqL.of (s' _ _ b)))) (xag la _ 0 0 lv rfl rfl (s' _ _ b) (by decide) (by decide) (jAA (by simp[seqIndex?]) rfl ?_)))));refine I _ _ (jEA _ rfl ?_);have ch:Chg la a8 H' (upd H' la (.lst a8)):=Chg.upd;exact qs d ds rfl a' p' _ (Chg.pre s' ch) G (C.chg (s' _ _ b) ch)
 | send c t=>
  obtain⟨kvs,la,ls,ai,hv,b,ac,qs⟩:=q;obtain⟨_,_,rfl,rfl,tv,_,rfl,a4,rfl⟩:=a2;obtain⟨al,_,_,_,tok⟩:=a9;refine(xax _ rfl _ rfl _ rfl _ rfl _ rfl (xb7 (.ref a) ca (.send c t) rfl M ?_));refine(xan mv (.non) x sa p (xan k bx (.int 0) J hd (jEAA _ rfl l (.inr (.inr (jAA (by intro e;cases e) (λ_ _ _ e=>by cases e) (λa' p' H' s' G C=>?_)))))));refine a1 _ _ (xab λR3 m=>(xa4 _ rfl rfl _ rfl (iteKF (zDF λz=>nomatch z) (m _ _ (xab λR4 I=>?_)))))
  have gd:DGet H' ga (.str c) (some (.ref la)):=by
   have:=DGet.rd (k:=Sum.inr c) (.inl (s' _ _ ai));rw[hv]at this;exact this
  obtain⟨ma,kv,cv,af,rfl,a0,a5,Z,a7,a6⟩:=wk s' tok a4;refine(xaa _ rfl a _ _ _ rfl rfl (O s') h0 (jAEA rfl _ rfl (iteKF (hdF (xeo (by intro _ _ _ e;cases e))) ?_)));refine(xaa _ rfl a _ _ _ rfl rfl (O s') h0 (jAEA rfl _ rfl (iteKT (hdT rfl) ?_)));refine(xam _ rfl _ rfl a _ _ (xbi _ rfl rfl (O s') rfl (xb0 ga _ rfl gd (.inl (jAE rfl _ (SqL.of (s' _ _ b)))) ?_)));refine(xaa _ rfl ma _ _ _ rfl rfl (SqT.of a0) rfl (xaa _ rfl a _ _ _ rfl rfl (O s') rfl (xaa _ rfl sa _ _ _ rfl rfl (SqT.of (s' _ _ l.st.1)) rfl ?_)));refine(xan _ _ p J.kinds t (xa6 (enOf bx) _ rfl a5 Z a7 a6 (λu H2 s2 a3=>?_)));have i:=s'.trans s2;refine(xal la _ u rfl rfl (i _ _ b) (xa5 (by omega)) (I _ _ (jEA _ rfl ?_)));have ch:Chg la (ls++[u]) H2 (upd H2 la (.lst (ls++[u]))):=Chg.upd;exact qs a' p' u _ (Chg.pre i ch) (a3.tups (ch.tups (i _ _ b)) _) G ((C.same s2).chg (i _ _ b) ch)
 |tell t=>
  obtain⟨ls,b,ac,qs⟩:=q;obtain⟨tv,_,rfl,a4,rfl⟩:=a2;refine(xax _ rfl _ rfl _ rfl _ rfl _ rfl (xb7 (.ref a) ca (.tell t) rfl M ?_));refine(xan mv (.non) x sa p (xan k bx (.int 0) J hd (jEAA _ rfl l (.inr (.inr (jAA (by intro e;cases e) (λ_ _ _ e=>by cases e) (λa' p' H' s' G C=>?_)))))));refine a1 _ _ (xab λR3 m=>(xa4 _ rfl rfl _ rfl (iteKF (zDF λz=>nomatch z) (m _ _ (xab λR4 I=>?_)))));obtain⟨ma,kv,cv,af,rfl,a0,a5,Z,a7,a6⟩:=wk s' a9 a4;refine(xaa _ rfl a _ _ _ rfl rfl (O s') h0 (jAEA rfl _ rfl (iteKF (hdF (xeo (by intro _ _ _ e;cases e))) ?_)));refine(xaa _ rfl a _ _ _ rfl rfl (O s') h0 (jAEA rfl _ rfl (iteKF (hdF (xn5 (by intro _ _ e;cases e))) ?_)));refine(xaa _ rfl a _ _ _ rfl rfl (O s') h0 (jAEA rfl _ rfl (iteKT (hdT rfl) ?_)));refine(jEAA _ rfl (.inl (jAE rfl _ (SqL.of (s' _ _ b)))) ?_);refine(xaa _ rfl ma _ _ _ rfl rfl (SqT.of a0) rfl (xaa _ rfl a _ _ _ rfl rfl (O s') rfl (xaa _ rfl sa _ _ _ rfl rfl (SqT.of (s' _ _ l.st.1)) rfl ?_)));refine(xan _ _ p J.kinds t (xa6 (enOf bx) _ rfl a5 Z a7 a6 (λu H2 s2 a3=>?_)));have i:=s'.trans s2;refine(xal ta _ u rfl rfl (i _ _ b) (xa5 (by omega)) (I _ _ (jEA _ rfl ?_)));have ch:Chg ta (ls++[u]) H2 (upd H2 ta (.lst (ls++[u]))):=Chg.upd;exact qs a' p' u _ (Chg.pre i ch) (a3.tups (ch.tups (i _ _ b)) _) G ((C.same s2).chg (i _ _ b) ch)
 |_=>
  refine(xax _ rfl _ rfl _ rfl _ rfl _ rfl (xb7 (.ref a) ca _ rfl M ?_));refine(xan mv (.non) x sa p (xan k bx (.int 0) J hd (jEAA _ rfl l (.inr (.inr (jAA (by intro e;cases e) (λ_ _ _ e=>by cases e) (λa' p' H' s' G C=>?_)))))));refine a1 _ _ (xab λR3 m=>(xa4 _ rfl rfl _ rfl (iteKF (zDF λz=>nomatch z) (m _ _ (xab λR4 I=>?_)))));refine(xaa _ rfl a _ _ _ rfl rfl (O s') h0 (jAEA rfl _ rfl (iteKF (hdF (xeo (by intro _ _ _ e;cases e))) ?_)));refine(xaa _ rfl a _ _ _ rfl rfl (O s') h0 (jAEA rfl _ rfl (iteKF (hdF (xn5 (by intro _ _ e;cases e))) ?_)));refine(xaa _ rfl a _ _ _ rfl rfl (O s') h0 (jAEA rfl _ rfl (iteKF (hdF (xsj (by intro _ e;cases e))) ?_)));exact I _ _ (jEA _ rfl (q a' p' H' s' G C))
structure HsHere(K:Fg)(H:Hp)(x:Addr)(mv:V)(a:HsA)(s:HSt)(mk:Mak)(N:Nat):Prop where
 at_:HsAt H (ad K "Plain") x mv mk a s
 md:RelD H mv mk.d
 mok:MakOk mk
 ok:HOk mk s N
theorem HsHere.same{K:Fg}{H e:Hp}{x:Addr}{b:V}{a:HsA}{s:HSt}{c:Mak}{N:Nat}(l:HsHere K H x b a s c N)(q:Same H e):HsHere K e x b a s c N:=⟨l.at_.same q,l.md.same q _,l.mok,l.ok⟩
structure HFr(mk:Mak)(x:Addr)(a a':HsA)(H H':Hp):Prop where
 fr:∀b o,H b=some o->¬a.F mk x b->H' b=some o
 tp:∀b vs,H b=some (.tup vs)->H' b=some (.tup vs)
 nw:∀b,a'.F mk x b->a.F mk x b\/H b=none
theorem HFr.refl{b:Mak}{x:Addr}{a:HsA}{H:Hp}:HFr b x a a H H:=⟨λ_ _ e _=>e,λ_ _ e=>e,λ_ h=>.inl h⟩
theorem HFr.trans{j:Mak}{x:Addr}{a m c:HsA}{H p i:Hp}(f:HFr j x a m H p)(g:HFr j x m c p i):HFr j x a c H i:=by
 refine⟨λb o e n=>g.fr b o (f.fr b o e n) λz=>?_,λb vs e=>g.tp b vs (f.tp b vs e),λb h=>?_⟩
 ·rcases f.nw b z with q |q
  ·exact n q
  ·rw[q]at e;cases e
 ·rcases g.nw b h with q |q
  ·exact f.nw b q
  ·by_cases l:a.F j x b
   ·exact .inl l
   ·refine .inr ?_
    cases e:H b with
    |none=>rfl
    |some o=>rw[f.fr b o e l]at q;cases q
def xe5(K:Fg):Sp:=λvs H Q _=>∃(x:Addr) (mv:V) (h:Str) (a:HsA) (s:HSt) (mk:Mak),vs=[.ref x,.str h]/\HsAt H (ad K "Plain") x mv mk a s/\h∈hn mk/\Q (.int (s.ct h:Nat)) H
def xji(K:Fg):Sp:=λvs H Q _=>∃(x:Addr) (mv:V) (h:Str) (a:HsA) (s:HSt) (mk:Mak),vs=[.ref x,.str h]/\HsAt H (ad K "Plain") x mv mk a s/\h∈hn mk/\∀l us H',Same H H'->H l=none->H' l=some (.lst us)->RelDs H' us (s.tl h)->Q (.ref l) H'
def xjj(K:Fg):Sp:=λvs H Q _=>∃(x:Addr) (mv:V) (c:Str) (a:HsA) (s:HSt) (mk:Mak),vs=[.ref x,.str c]/\HsAt H (ad K "Plain") x mv mk a s/\c∈cn mk/\∀l us H',Same H H'->H l=none->H' l=some (.lst us)->RelDs H' us (s.bt c)->Q (.ref l) H'
def xgw(K:Fg):Sp:=λvs H Q _=>∃(x:Addr) (mv:V) (h:Str) (a:HsA) (s:HSt) (mk:Mak),vs=[.ref x,.str h]/\HsAt H (ad K "Plain") x mv mk a s/\h∈hn mk/\(s.sd h).2.length<=100/\∀sa' p' H',Same H H'->H p'=none->StAt H' sa' p' (s.sd h).1 (s.sd h).2->Q (.ref sa') H'
def xgv(K:Fg):Sp:=λvs H Q _=>∃(x:Addr) (mv:V) (a:HsA) (s:HSt) (mk:Mak) (N:Nat) (hd:Hand) (r:Row),vs=[.ref x,.str hd.name]/\HsHere K H x mv a s mk N/\hd∈mk.hands/\hd.rows[(s.sd hd.name).1]?=some r/\N<=900/\(r.shutF s.bt=true->Q (.bl false) H) ∧
 (r.shutF s.bt=false->∀a' H',HFr mk x a a' H H'->HsHere K H' x mv a' (s.go mk.kinds hd.name r) mk (N+1)->Q (.bl true) H')
def xe4(K:Fg):Sp:=λvs H Q _=>∃(x l:Addr) (mv:V) (a:HsA) (s:HSt) (mk:Mak) (N:Nat) (ws:List Str),vs=[.ref x,.ref l]/\HsHere K H x mv a s mk N/\H l=some (.lst (ws.map V.str))/\(∀z∈ws,z∈hn mk)/\¬a.F mk x l/\N+ws.length<=900 ∧
 ∀(n:Nat) a' s' H',HFr mk x a a' H H'->HsHere K H' x mv a' s' mk (N+ws.length)->Rch mk s s'->s'=runH mk s ws->tot mk s'=tot mk s+n->Q (.int n) H'
theorem gdK{H:Hp}{d:Addr}{ns:List Str}{f:Str->V}{h:Str}(e:H d=some (.dK (mapK ns f)))(a:h∈ns):DGet H d (.str h) (some (f h)):=by
 have:=DGet.rd (k:=Sum.inr h) (.inl e);rw[xfb a]at this;exact this
theorem xc8(T:Tx K b):MethIs P w K b base (n+1) (ad K "Plain") "count" qaa [[]] (xe5 K):=by
 refine MethIs.of T.k8 xf6 (λvs H Q E h=>?_) (λf m A outer s H vs Q E i h=>?_)
 ·obtain⟨_,_,_,_,_,_,rfl,_⟩:=h
  rfl
 obtain⟨x,o,h,a,st,p,rfl,l,j,q⟩:=h;have g:=xeh i;obtain⟨fs,e,c⟩:=l.ob;refine(jEA _ (zpo (xaf (xci g (xdi (pv 0) rfl) (pv 1) (λ_ _=>rfl)))) ?_);exact(xa7 _ rfl x _ _ fs (xbx _ rfl e T.kZ.cl (T.kZ.no _ (by simp)) c.ct (xat _ rfl a.cd _ rfl (gdK l.inn.hcd j) q)))
theorem xed(T:Tx K i):MethIs P w K i base (n+1) (ad K "Plain") "told" qaa [[]] (xji K):=by
 refine MethIs.of T.k6 xg0 (λvs H Q E h=>?_) (λf y A outer s H vs Q E p h=>?_)
 ·obtain⟨_,_,_,_,_,_,rfl,_⟩:=h
  rfl
 obtain⟨x,z,h,a,st,C,rfl,l,e,q⟩:=h;have o:=xeh p;obtain⟨fs,m,j⟩:=l.ob;obtain⟨us,u,r⟩:=l.inn.tel h e;refine(jEA _ (zpo (xaf (xay xb1 rfl T.kR PyProof.Rows.boot_list (pc (xci o (xdi (pv 0) rfl) (pv 1) (λ_ _=>rfl)) pN ss)))) ?_);refine(xa7 _ rfl x _ _ fs (xbx _ rfl m T.kZ.cl (T.kZ.no _ (by simp)) j.tl (xbf _ rfl a.td _ rfl (gdK l.inn.htd e) (a.ta h) us rfl (.inl (SqL.of u)) (λb g=>?_))));have c:=Same.new g (.lst us);exact q b us _ c g ups (r.same c _)
theorem xdj(T:Tx K j):MethIs P w K j base (n+1) (ad K "Plain") "letters" qaq [[]] (xjj K):=by
 refine MethIs.of T.k7 xey (λvs H Q E h=>?_) (λf z A outer s H vs Q E r h=>?_)
 ·obtain⟨_,_,_,_,_,_,rfl,_⟩:=h
  rfl
 obtain⟨x,C,h,a,st,G,rfl,l,g,q⟩:=h;have p:=xeh r;obtain⟨fs,o,m⟩:=l.ob;obtain⟨us,y,u⟩:=l.inn.let_ h g;refine(jEA _ (zpo (xaf (xay xb1 rfl T.kR PyProof.Rows.boot_list (pc (xci p (xdi (pv 0) rfl) (pv 1) (λ_ _=>rfl)) pN ss)))) ?_);refine(xa7 _ rfl x _ _ fs (xbx _ rfl o T.kZ.cl (T.kZ.no _ (by simp)) m.bt (xbf _ rfl a.bd _ rfl (gdK l.inn.hbd g) (a.la h) us rfl (.inl (SqL.of y)) (λb i=>?_))));have e:=Same.new i (.lst us);exact q b us _ e i ups (u.same e _)
theorem xf9(T:Tx K e)(b:DefIs P w K e base n "own_stand" ["stand"] xmg):MethIs P w K e base (n+1) (ad K "Plain") "stand" qaa [[]] (xgw K):=by
 refine MethIs.of T.k5 xf5 (λvs H Q E h=>?_) (λf p A outer s H vs Q E g h=>?_)
 ·obtain⟨_,_,_,_,_,_,rfl,_⟩:=h
  rfl
 obtain⟨x,r,h,a,st,u,rfl,l,i,c,q⟩:=h;have o:=xeh g;obtain⟨fs,m,j⟩:=l.ob;refine(jEA _ (zpo (xaf (pd b g (pc (xci o (xdi (pv 0) rfl) (pv 1) (λ_ _=>rfl)) pN ss)))) ?_);exact(xa7 _ rfl x _ _ fs (xbx _ rfl m T.kZ.cl (T.kZ.no _ (by simp)) j.st (xat _ rfl a.sd _ rfl (gdK l.inn.hsd i) (jEEE (a.sa h) (a.pa h) ((st.sd h).1) (xbt ((st.sd h).2) rfl (l.inn.sta h i) c q)))))
theorem HsHere.here{H:Hp}{x:Addr}{e:V}{a:HsA}{s:HSt}{c:Mak}{N:Nat}(l:HsHere K H x e a s c N){hd:Hand}(b:hd∈c.hands){r:Row}(f:hd.rows[(s.sd hd.name).1]?=some r):Here H e hd.name (a.sa hd.name) (a.pa hd.name) (s.sd hd.name).1 (s.sd hd.name).2 c hd r:=
 ⟨l.md,l.mok,xdo l.mok b,l.at_.inn.sta _ (List.mem_map_of_mem b),by have:=l.ok.bxlen l.mok b;omega,l.ok.fit hd b,f⟩
theorem xg9(T:Tx K mg)(a4:DefIs P w K mg base n "done" qaw xmp):MethIs P w K mg base (n+1) (ad K "Plain") "step" qaa [[]] (xgv K):=by
 refine MethIs.of T.uA sc_Plain_step (λvs H Q E h=>?_) (λf av A outer s H vs Q E hr h=>?_)
 ·obtain⟨_,_,_,_,_,_,_,_,rfl,_⟩:=h
  rfl
 obtain⟨x,mv,a,st,m,N,hd,r,rfl,l,a3,a6,ar,qn,qs⟩:=h;have nd:=sc_Plain_step.nd;have hu:=xeh hr;have i:=l.at_.inn;obtain⟨fs,hx,lf⟩:=l.at_.ob;have hh:hd.name∈hn m:=List.mem_map_of_mem a3;have h4:(hn m).length<=4:=by rw[zLM];exact l.mok.hfew
 have he:=l.here a3 a6;have cl:=T.kZ.cl;have no:=T.kZ.no
 refine⟨_,(zpn (psn 2 nd (pd a4 hr (pc (xdi (pv 0) rfl) (va 1 (pc (xci hu (xdi (pv 0) rfl) (pv 1) (λ_ _=>rfl)) (pc (xdi (pv 0) rfl) (pc (xdi (pv 0) rfl) (pc (xci hu (xdi (pv 0) rfl) (pv 1) (λ_ _=>rfl)) pN ss) xfh) xfh) ss)) xfh)))
   (zpn (xa8 (pR xm7 (pv 2) xeq (nM _)) (zpo (xaf xjs)) pQ)
   (zpn (xg5 hu (xdi (pv 0) rfl) (pv 1) (pv 2) rfl)
   (zpn (xg5 hu (xdi (pv 0) rfl) (pv 1) (xaj xba (xci hu (xdi (pv 0) rfl) (pv 1) (λ_ _=>rfl)) pI) rfl)
   (zpo (xaf xjs)))))),xab λR1 aj=>?_⟩
 refine(xa7 _ rfl x _ _ fs (xbx _ rfl hx cl (no _ (by simp)) lf.mkv (xam _ rfl _ rfl x _ _ (xa6 fs _ rfl hx cl (no _ (by simp)) lf.st (xbg _ rfl a.sd _ rfl (gdK i.hsd hh) _ rfl (xag x _ _ fs _ rfl hx cl (no _ (by simp)) lf.bt (xa7 _ rfl x _ _ fs (xbx _ rfl hx cl (no _ (by simp)) lf.bt (xa7 _ rfl x _ _ fs (xbx _ rfl hx cl (no _ (by simp)) lf.tl (xat _ rfl a.td _ rfl (gdK i.htd hh) ?_)))))))))));refine(xan mv hd.name (a.sa hd.name) a.bd a.bd (xan (a.ta hd.name) (a.pa hd.name) _ _ m (xaw hd r rfl he ?_)));have Z:Q (.bl false) H->R1 [some (.ref x),some (.str hd.name),some .non] H:=λq=>aj _ _ (xab λR2 ai=>(xa4 _ rfl rfl _ rfl (iteKT (zDT rfl) q)))
 have C:r.shutF st.bt=false->∀{G p':Addr} {j:Hp},StAt j G p' (xcx m.kinds (st.sd hd.name).2 (st.sd hd.name).1 r) (xes m.kinds (st.sd hd.name).2 (r.letF st.bt) r)->(∀z∈cn m,∃us,j (a.la z)=some (.lst us)/\RelDs j us (r.btF m.kinds (st.sd hd.name).2 st.bt z))->(∀z∈hn m,∃us,j (a.ta z)=some (.lst us)/\RelDs j us (upF st.tl hd.name (r.told m.kinds (st.sd hd.name).2 (st.tl hd.name)) z))->
   (∀b o,H b=some o->(∀us,o≠.lst us)->j b=some o)->(∀b o,H b=some o->¬a.F m x b->j b=some o)->p'=a.pa hd.name\/H p'=none->R1 [some (.ref x),some (.str hd.name),some (.ref G)] j:=λsh {G p' j} Y U h3 a0 fr hp=>by
  refine aj _ _ (xab λR2 ai=>(xa4 _ rfl rfl _ rfl (iteKF (zDF λz=>nomatch z) (ai _ _ (xab λR3 ao=>?_)))));have a1:=a0 _ _ hx λus e=>by cases e
  have a5:=a0 _ _ i.hsd λus e=>by cases e
  have ah:=a0 _ _ i.hcd λus e=>by cases e
  have ag:∀f,(mapK (hn m) f).length<sizeLine:=λf=>by rw[xk3];exact xa5 (by omega)
  refine(xam _ rfl _ rfl x _ _ (xa6 fs _ rfl a1 cl (no _ (by simp)) lf.st (xat _ rfl a.sd _ rfl (DPut.k (k:=Sum.inr hd.name) a5 (ag _)) (ao _ _ (xab λR4 an=>?_)))));have xs:x≠a.sd:=λz=>by rw[z,a5]at a1;cases a1
  have ac:upd j a.sd (.dK (putK (mapK (hn m) λz=>.ref (a.sa z)) (Sum.inr hd.name) (.ref G))) x=some (.ins (ad K "Plain") a.dx fs):=by rw[xar xs];exact a1
  have a7:upd j a.sd (.dK (putK (mapK (hn m) λz=>.ref (a.sa z)) (Sum.inr hd.name) (.ref G))) a.cd=some (.dK (mapK (hn m) λz=>.int (st.ct z:Nat))):=by rw[xar (Ne.symm i.n1.2.2.1)];exact ah
  refine(xa7 _ rfl x _ _ fs (xbx _ rfl ac cl (no _ (by simp)) lf.ct (xbf _ rfl a.cd _ rfl (gdK a7 hh) _ _ rfl rfl (xa7 _ rfl x _ _ fs (xbx _ rfl ac cl (no _ (by simp)) lf.ct (xat _ rfl a.cd _ rfl (DPut.k (k:=Sum.inr hd.name) a7 (ag _)) (an _ _ ?_)))))));obtain⟨g1,g2,g3,g4⟩:=l.at_.stepped (s':=st.go m.kinds hd.name r) hh (by show upF _ _ _=_;rw[show(st.go m.kinds hd.name r).sd hd.name=_ from xau]) rfl (by rw[show(st.go m.kinds hd.name r).sd hd.name=_ from xau];exact Y) U h3 a0 fr hp;exact qs sh _ _ ⟨g2,g3,g4⟩ ⟨g1,l.md.tups g3 _,l.mok,l.ok.go l.mok a3 a6 sh⟩
 have ab:∀{z},z∈cn m->a.F m x (a.la z):=λhz=>.inr (.inr (.inr (.inr (.inr (.inl (jEA _ hz rfl))))));have al:∀{z},z∈hn m->a.F m x (a.ta z):=λhz=>.inr (.inr (.inr (.inr (.inr (.inr (jEA _ hz (.inl rfl)))))));have a8:∀{la:Addr} {us xs:List V} {j:Hp},H la=some (.lst us)->Chg la xs H j->∀b o,H b=some o->(∀us,o≠.lst us)->j b=some o:=λ{la us xs j} g c b o e n=>c.ne e λz=>by rw[z,g]at e;exact n us (Option.some.inj e).symm
 have a9:∀{la:Addr} {us xs:List V} {j:Hp},H la=some (.lst us)->Chg la xs H j->(∀z∈hn m,a.ta z≠la)->∀z∈hn m,∃us,j (a.ta z)=some (.lst us)/\RelDs j us (upF st.tl hd.name (st.tl hd.name) z):=λ{la us xs j} g c n z hz=>by
  obtain⟨ut,Y,U⟩:=i.tel z hz;refine(jEA ut (c.ne Y (n z hz)) ?_);have e:upF st.tl hd.name (st.tl hd.name) z=st.tl z:=by unfold upF;split <;> rename_i q <;> first |rw[q] |rfl
  rw[e];exact U.tups (c.tups g) _
 have aa:∀{c:Str} {us xs:List V} {ds:List D} {j:Hp},c∈cn m->H (a.la c)=some (.lst us)->Chg (a.la c) xs H j->RelDs j xs ds->∀z∈cn m,∃us,j (a.la z)=some (.lst us)/\RelDs j us (upF st.bt c ds z):=λ{c us xs ds j} hc g ch hx z hz=>by
  by_cases e:z=c
  ·subst e
   exact(jEA xs (ch.at g) (by rw[xau];exact hx))
  ·obtain⟨ut,Y,U⟩:=i.let_ z hz
   exact(jEA ut (ch.ne Y λq=>e (i.nl z hz c hc q)) (by rw[xa9 e];exact U.tups (ch.tups g) _))
 cases r with
 |fin=>exact Z (qn rfl)
 |take nn c y=>
  obtain⟨ch,hc,rfl,_,_⟩:=he.ok;have p:ch.1∈cn m:=List.mem_map_of_mem hc;obtain⟨us,g,J⟩:=i.let_ _ p;refine(xas _ (a.la ch.1) us (st.bt ch.1) i.hbd (xfb p) g J (λe=>Z (qn (by show(st.bt ch.1).isEmpty=true;rw[e];rfl))) (λd au e G p' j chg M I=>?_));have aq:=J;rw[e]at J;obtain⟨u,ak,rfl,a2,af⟩:=J;refine C (by show(st.bt ch.1).isEmpty=false;rw[e];rfl) (by rw[show(Row.take nn ch.1 y).letF st.bt=d by show(st.bt ch.1).headD _=d;rw[e];rfl];exact I) (aa p g chg (by show RelDs j ak (st.bt ch.1).tail;rw[e];exact af.tups (chg.tups g) _)) (a9 g chg λz hz q=>i.nlt _ p z hz q.symm) (a8 g chg) (λb o eb n=>chg.ne eb λz=>n (z ▸ ab p)) M
 |send c t=>
  obtain⟨ch,hc,rfl,_,_⟩:=he.ok;have p:ch.1∈cn m:=List.mem_map_of_mem hc;obtain⟨us,g,J⟩:=i.let_ _ p;have hb:=(l.ok.cok ch hc).1;have am:=J.length;refine(xal _ (a.la ch.1) us i.hbd (xfb p) g (by omega) (λG p' u j chg a2 M I=>?_));exact C rfl I (aa p g chg ((J.tups (chg.tups g) _).append (xaw u ([]) rfl a2 rfl))) (a9 g chg λz hz q=>i.nlt _ p z hz q.symm) (a8 g chg) (λb o eb n=>chg.ne eb λz=>n (z ▸ ab p)) M
 | tell t=>
  obtain⟨ut,O,ae⟩:=i.tel _ hh;have hb:=(l.ok.tok hd a3).1;have am:=ae.length;refine(jEAA ut O (by omega) (λG p' u j chg a2 M I=>?_));refine C rfl I (λz hz=>?_) (λz hz=>?_) (a8 O chg) (λb o eb n=>chg.ne eb λz=>n (z ▸ al hh)) M
  ·obtain⟨us,Y,U⟩:=i.let_ z hz
   exact(jEA us (chg.ne Y (i.nlt z hz _ hh)) (U.tups (chg.tups O) _))
  ·by_cases e:z=hd.name
   ·subst e
    exact(jEA (ut++[u]) (chg.at O) (by rw[xau];exact(ae.tups (chg.tups O) _).append (xaw u ([]) rfl a2 rfl)))
   ·obtain⟨us,Y,U⟩:=i.tel z hz
    exact(jEA us (chg.ne Y λq=>e (i.nt z hz _ hh q)) (by rw[xa9 e];exact U.tups (chg.tups O) _))
 | _=>
  intro G p' j s1 M I;refine C rfl I (λz hz=>?_) (λz hz=>?_) (λb o e _=>s1 b o e) (λb o e _=>s1 b o e) M
  ·obtain⟨us,Y,U⟩:=i.let_ z hz
   exact(jEA us (s1 _ _ Y) (U.same s1 _))
  ·obtain⟨us,Y,U⟩:=i.tel z hz
   refine(jEA us (s1 _ _ Y) ?_);have e:upF st.tl hd.name (st.tl hd.name) z=st.tl z:=by unfold upF;split <;> rename_i q <;> first |rw[q] |rfl
   show RelDs j us (upF st.tl hd.name (st.tl hd.name) z);rw[e];exact U.same s1 _
theorem HsHere.row{K:Fg}{H:Hp}{x:Addr}{e:V}{a:HsA}{s:HSt}{c:Mak}{N:Nat}(l:HsHere K H x e a s c N){hd:Hand}(b:hd∈c.hands):∃r,hd.rows[(s.sd hd.name).1]?=some r:=⟨_,zGA (l.ok.row hd b)⟩
theorem HsHere.mono{K:Fg}{H:Hp}{x:Addr}{b:V}{a:HsA}{s:HSt}{c:Mak}{N e:Nat}(l:HsHere K H x b a s c N)(h:N<=e):HsHere K H x b a s c e:=⟨l.at_,l.md,l.mok,l.ok.mono h⟩
theorem HsHere.keep{K:Fg}{H e:Hp}{x:Addr}{g:V}{a:HsA}{s:HSt}{c:Mak}{N:Nat}(l:HsHere K H x g a s c N)(f:∀b vs,H b=some (.tup vs)->e b=some (.tup vs))(k:∀b,a.F c x b->∀o,H b=some o->e b=some o):HsHere K e x g a s c N:=⟨l.at_.keep f k,l.md.tups f _,l.mok,l.ok⟩
theorem xf8(T:Tx K mg)(b:MethIs P w K mg base n (ad K "Plain") "step" qaa [[]] (xgv K)):MethIs P w K mg base (n+1) (ad K "Plain") "weave" qar [[]] (xe4 K):=by
 refine MethIs.of T.uB sc_Plain_weave (λvs H Q E h=>?_) (λf a1 A outer s H vs Q E hr h=>?_)
 ·obtain⟨_,_,_,_,_,_,_,_,rfl,_⟩:=h
  rfl
 obtain⟨x,l,mv,a,st,j,N,ws,rfl,hs,hl,O,nl,a0,q⟩:=h;have nd:=sc_Plain_weave.nd
 refine⟨_,(zpn (psn 2 nd pI)
   (zpn (xcg PassesOwn.never rfl (xbn (K:=K) rfl (pv 1)) (pgn 3 nd)
   (zpo (xa8 (xkv (xb2 b T.kZ.cl hr (pv 0) (v1 3))) (zpo (psn 2 nd (xaj xba (pv 2) pI))) pQ)))
   (zpo (xaf (pv 2))))),?_⟩
 refine(xa3 _ rfl l rfl ⟨_,SqL.of hl⟩ ?_);have G:(ws.map V.str).length=ws.length:=zLM ..
 refine xdw (xs:=ws.map V.str) (λi σ y=>∃(n:Nat) (m:HsA) (s':HSt) (o:Option V),σ=[some (.ref x),some (.ref l),some (.int n),o]/\HFr j x a m H y/\HsHere K y x mv m s' j (N+i)/\Rch j st s'/\s'=runH j st (ws.take i)/\tot j s'=tot j st+n)
  (xas 0 a st none rfl HFr.refl hs (.refl _) (by rw[List.take_zero];rfl) rfl) (λi σ y _ p=>?_) ?_ ?_
 ·obtain⟨_,_,_,_,_,fr,_⟩:=p
  exact SqL.of (fr.fr _ _ hl nl)
 ·rintro i v σ y U ⟨M,m,s',o,rfl,fr,c,J,u,et⟩
  have hi:=(zES U).1;rw[zGM]at U;obtain⟨z,hz,rfl⟩:=zMS U;have ew:ws.take (i+1)=ws.take i++[z]:=xch hz;obtain⟨hd,g,rfl⟩:=zMP (O z (zMG hz));obtain⟨r,e⟩:=c.row g;obtain⟨fs,hx,lf⟩:=c.at_.ob;refine(xbc _ rfl x _ fs rfl hx (lf.no _ (by walk_at"k")) _ rfl (xan x mv m s' j (xal (N+i) hd r rfl c g e (jAA (by omega) (λI=>?_) (λI a2 H2 Z Y=>?_)))))
  ·refine(jEA _ rfl (iteF ?_))
   exact(xas M m s' _ rfl fr (c.mono (by omega)) J (by rw[ew,xh3,<- u];exact(xkk hs.mok g e I).symm) et)
  ·refine(jEA _ rfl (iteT ?_))
   have C:Stp j s' (s'.go j.kinds hd.name r) hd:=(xga g r e I rfl);refine(xat _ rfl _ _ rfl rfl ?_);exact(xas (M+1) a2 _ _ rfl (fr.trans Z) Y (J.trans (.one C)) (by rw[ew,xh3,<- u];exact(xl8 hs.mok g e I).symm) (by have:=C.tot hs.mok;omega))
 ·rintro σ y ⟨M,m,s',o,rfl,fr,c,J,u,et⟩
  rw[G]at c u;rw[zTL (Nat.le_refl _)]at u;exact(jEA _ rfl (q M m s' y fr c J u et))
def xmm(K:Fg):Sp:=λvs H Q _=>∃(x dx:Addr) (mv:V) (mk:Mak),vs=[.ref x,mv]/\H x=some (.ins (ad K "Plain") dx [])/\RelD H mv mk.d/\MakOk mk ∧
 ∀a H',SameBut x H H'->(∀b,a.F mk x b->b=x\/H b=none)->a.dx=dx->H' x=some (.ins (ad K "Plain") dx (hFs a))->HsIn H' mk a (hs0 mk)->Q .non H'
def xgx(K:Fg):Sp:=λvs H Q _=>∃(x dx:Addr) (mv:V) (mk:Mak),vs=[.ref x,mv]/\H x=some (.ins (ad K "Plain") dx [])/\RelD H mv mk.d/\MakOk mk ∧
 ∀a H',SameBut x H H'->(∀b,a.F mk x b->b=x\/H b=none)->HsHere K H' x mv a (hs0 mk) mk 0->Q .non H'
theorem xdz{x:Addr}{H a:Hp}{C f:Addr}{fs:List (Str×V)}(s:SameBut x H a)(c:H x=some (.ins C f fs)):∀b vs,H b=some (.tup vs)->a b=some (.tup vs):=λb vs e=>s b _ e λz=>by rw[z,c]at e;cases e
theorem xek{x b:Addr}{H a:Hp}{o:HO}(s:SameBut x H a)(f:a x=some o)(e:a b=none):H b=none:=by
 cases h:H b with
 |none=>rfl
 |some u=>
  by_cases c:b=x
  ·rw[c,f]at e;cases e
  ·rw[s b u h c]at e;cases e
theorem xhb(T:Tx K mg)(a6:DefIs P w K mg base n "begin_of" qaf xms):MethIs P w K mg base (n+1) (ad K "House") "__init__" qag [[]] (xmm K):=by
 refine MethIs.of T.k4 xg2 (λvs H Q E h=>?_) (λf cp A outer s H vs Q E hr h=>?_)
 ·obtain⟨_,_,_,_,rfl,_⟩:=h
  rfl
 obtain⟨x,dx,mv,c,rfl,hx,md,a8,q⟩:=h;have cl:=T.kZ.cl;have no:=T.kZ.no;have h4:=a8.hfew;have h6:=a8.cfew;obtain⟨ma,kv,cv,hv,rfl,am,co,c8,c5⟩:=mk_d md;obtain⟨ha,uh,rfl,ab,bp⟩:=c5;obtain⟨ca,uc,rfl,bu,bw⟩:=c8;have bm:=bp.length;have bn:=bw.length;rw[zLM]at bm bn;have ck:(hn c).length=uh.length:=by rw[zLM,bm]
 have cm:(cn c).length=uc.length:=by rw[zLM,bn]
 have ai:(hn c).Nodup:=a8.hnd;have bx:(cn c).Nodup:=a8.cnd
 have b6:∀{i:Nat} {y:V},uh[i]?=some y->∃hd I bv rv,y=.ref I/\H I=some (.tup [.str hd.name,bv,rv])/\hd∈c.hands/\(hn c)[i]?=some hd.name:=λ{i y} hy=>by
  obtain⟨d,g,rd⟩:=bp.get hy;rw[zGM]at g;obtain⟨hd,bo,rfl⟩:=zMS g;obtain⟨I,bv,rv,rfl,r,_,_⟩:=hd_d rd;exact(jEEE hd I bv (xbt rv rfl r (zMG bo) (by rw[zGM,bo];rfl)))
 have bz:∀{i:Nat} {y:V},uc[i]?=some y->∃ch ao ws,y=.ref ao/\H ao=some (.tup (.str ch::ws))/\(cn c)[i]?=some ch:=λ{i y} hy=>by
  obtain⟨d,g,rd⟩:=bw.get hy;rw[zGM]at g;obtain⟨ch,c7,rfl⟩:=zMS g;obtain⟨ao,_,rfl,bt,_,ws,rfl,rfl,_⟩:=rd;exact(xb7 ch.1 ao ws rfl bt (by rw[zGM,c7];rfl))
 refine⟨_,(zpn (xh6 (pv 0) (xay (xc1 rfl) rfl T.kN PyProof.Rows.boot_dict (pc (xbo ["hand","make"] [none,some 1] rfl (by kernel_rfl) (xa1 (K:=K) rfl (px K (pv 1) pI)) (λ_ _ _ _=>(pgc 0)) (λ_ _ _ _=>xbv) (λ_ _ _ _=>(xak (pc (px K (pv 0) pI) (pc (pd a6 hr (va 1 (pc (px K (pv 0) pI) pN ss))) pN zsc) ss)))) pN xcc)) rfl)
   (zpn (xh6 (pv 0) (xay (xc1 rfl) rfl T.kN PyProof.Rows.boot_dict (pc (xbo ["channel"] [none] rfl (by kernel_rfl) (xa1 (K:=K) rfl (px K (pv 1) pI)) (λ_ _ _ _=>(pgc 0)) (λ_ _ _ _=>xbv) (λ_ _ _ _=>(xak (pc (px K (pv 0) pI) (pc (xca pN) pN xkn) ss)))) pN xcc)) rfl)
   (zpn (xh6 (pv 0) (xay (xc1 rfl) rfl T.kN PyProof.Rows.boot_dict (pc (xbo ["hand"] [none] rfl (by kernel_rfl) (xa1 (K:=K) rfl (px K (pv 1) pI)) (λ_ _ _ _=>(pgc 0)) (λ_ _ _ _=>xbv) (λ_ _ _ _=>(xak (pc (px K (pv 0) pI) (pc (xca pN) pN xkn) ss)))) pN xcc)) rfl)
   (zpo (xh6 (pv 0) (xay (xc1 rfl) rfl T.kN PyProof.Rows.boot_dict (pc (xbo ["hand"] [none] rfl (by kernel_rfl) (xa1 (K:=K) rfl (px K (pv 1) pI)) (λ_ _ _ _=>(pgc 0)) (λ_ _ _ _=>xbv) (λ_ _ _ _=>(xak (pc (px K (pv 0) pI) (pc pI pN so) ss)))) pN xcc)) rfl))))),xab λR1 cc=>?_⟩
 refine(xaa _ rfl ma _ _ _ rfl rfl (SqT.of am) rfl (jEAA ha rfl ⟨_,SqT.of ab⟩ ?_));refine xbs (xs:=uh) (λi ys m=>Same H m/\∃sa pa,NewSt H m (hn c) i ys (hs0 c) sa pa) (jAE (Same.refl _) (λ_=>0) ⟨λ_=>0,by rw[List.take_zero];trivial,λz hz=>by rw[List.take_zero]at hz;cases hz⟩) (xa5 (by omega)) (λi ys m _ p=>SqT.of (p.1 _ _ ab)) ?_ ?_
 ·rintro i y ys m hy hi O ⟨u,sa,pa,ns⟩
  obtain⟨hd,I,bv,rv,rfl,r,an,a9⟩:=b6 hy;refine⟨ext1 rfl,xdh ?_⟩;refine(xaa _ rfl I _ _ _ rfl rfl (SqT.of (u _ _ r)) rfl (xam _ rfl _ rfl I _ _ (xbi _ rfl rfl (SqT.of (u _ _ r)) rfl (xah _ hd.name c hd rfl (md.same u _) a8 (xdo a8 an) (λc2 p' H1 s1 c4 c1=>⟨(by walk_at"s"),λt ht=>nxtG hi O ?_⟩)))));have e0:=xgl a8 an;exact(jAE (u.trans (s1.trans (Same.new ht _))) (upF sa hd.name c2) ⟨upF pa hd.name p',ns.snoc u s1 ai a9 c4 (by rw[e0];exact c1) ht⟩)
 rintro ys m O ⟨u,sa,pa,ns⟩ D hD;have M:=Same.new hD (.lst ys);obtain⟨az,au⟩:=ns;rw[zTL (show(hn c).length<=uh.length by omega)]at az au;refine(xcd D ys _ rfl ups (az.same (Same.tups M)) (λsd hc=>?_));rw[xee (xhf ai)];have sC:=Same.new hc (.dK (mapK (hn c) λz=>.ref (sa z)));have J:=u.trans (M.trans sC)
 have af:∀z∈hn c,StAt (upd (upd m D (.lst ys)) sd (.dK (mapK (hn c) λz=>.ref (sa z)))) (sa z) (pa z) ((hs0 c).sd z).1 ((hs0 c).sd z).2/\pa z≠sd:=λz hz=>⟨(au z hz).1.same (M.trans sC),λe=>by
  obtain⟨_,kvs,h2,_⟩:=((au z hz).1.same M);rw[e,hc]at h2;cases h2⟩
 have ce:H sd=none:=xav (u.trans M) hc;have ah:upd (upd m D (.lst ys)) sd (.dK (mapK (hn c) λz=>.ref (sa z))) sd=some (.dK (mapK (hn c) λz=>.ref (sa z))):=ups;refine(xaa _ rfl x _ _ _ rfl (J _ _ hx) cl (no _ (by simp)) ⟨by decide,cc _ _ (xab λR2 cb=>?_)⟩);generalize upd (upd m D (.lst ys)) sd (.dK (mapK (hn c) λz=>.ref (sa z)))=HA at J af ah⊢;clear sC M hc;obtain⟨ae,b9⟩:∃f,f=putF (Str.ofString "stands") (.ref sd) []:=⟨_,rfl⟩;have cj:ae.length<=1:=by rw[b9];exact xbe _ _ _
 rw[<- b9];have Y:=SameBut.upd x HA (.ins (ad K "Plain") dx ae);have a0:upd HA x (.ins (ad K "Plain") dx ae) x=some (.ins (ad K "Plain") dx ae):=ups;generalize upd HA x (.ins (ad K "Plain") dx ae)=H1 at Y a0⊢;have b1:SameBut x H H1:=J.but.trans Y;have nI:∀b o,HA b=some o->(∀C d f,o≠.ins C d f)->H1 b=some o:=λb o e n=>Y b o e λz=>by rw[z,J _ _ hx]at e;exact n _ _ _ (Option.some.inj e).symm
 have aa:H1 sd=some (.dK (mapK (hn c) λz=>.ref (sa z))):=nI _ _ ah λ_ _ _ e=>by cases e
 have aw:∀z∈hn c,StAt H1 (sa z) (pa z) ((hs0 c).sd z).1 ((hs0 c).sd z).2:=λz hz=>(af z hz).1.keep (λb vs e=>nI _ _ e λ_ _ _ e=>by cases e) λo e=>by
  obtain⟨_,kvs,h2,_⟩:=(af z hz).1;rw[h2]at e;cases e;exact nI _ _ h2 λ_ _ _ e=>by cases e
 have c3:∀z∈hn c,pa z≠sd:=λz hz=>(af z hz).2;clear nI Y af ah J u az;have al:=xdz b1 hx;refine(xaa _ rfl ma _ _ _ rfl rfl (SqT.of (al _ _ am)) rfl (jEAA ca rfl ⟨_,SqT.of (al _ _ bu)⟩ ?_));refine xbs (xs:=uc) (λi ys m=>Same H1 m/\∃Z,EmpAt H1 m (cn c) i ys Z) (jAE (Same.refl _) (λ_=>0) ⟨by rw[List.take_zero];trivial,(λz hz=>by rw[List.take_zero]at hz;cases hz),λz hz=>by rw[List.take_zero]at hz;cases hz⟩) (xa5 (by omega)) (λi ys m _ p=>SqT.of (p.1 _ _ (al _ _ bu))) ?_ ?_
 ·rintro i y ys m hy hi O ⟨u,Z,em⟩
  obtain⟨ch,I,ws,rfl,r,a9⟩:=bz hy;have a5:=u _ _ (al _ _ r);refine⟨ext1 rfl,xdh ?_⟩;refine(xaa _ rfl I _ _ _ rfl rfl (SqT.of a5) (xa0 (j:=0) rfl) ⟨(by walk_at"s"),λl hl=>⟨(by walk_at"s"),λt ht=>nxtG hi O ?_⟩⟩);exact(jAE (u.trans ((Same.new hl _).trans (Same.new ht _))) (upF Z ch l) (em.snoc u bx a9 hl ht))
 rintro ys m O ⟨u,Z,em⟩ D hD;have M:=Same.new hD (.lst ys);obtain⟨a7,a3,ay⟩:=em;rw[zTL (show(cn c).length<=uc.length by omega)]at a7 a3 ay;refine(xcd D ys _ rfl ups (a7.same (Same.tups M)) (λbd hc=>?_));rw[xee (xhf bx)];have sC:=Same.new hc (.dK (mapK (cn c) λz=>.ref (Z z)));have J:=u.trans (M.trans sC);have G:∀z∈cn c,upd (upd m D (.lst ys)) bd (.dK (mapK (cn c) λz=>.ref (Z z))) (Z z)=some (.lst []):=λz hz=>(M.trans sC) _ _ (a3 z hz).1;have bb:H1 bd=none:=xav (u.trans M) hc;have g:upd (upd m D (.lst ys)) bd (.dK (mapK (cn c) λz=>.ref (Z z))) bd=some (.dK (mapK (cn c) λz=>.ref (Z z))):=ups;refine(xaa _ rfl x _ _ _ rfl (J _ _ a0) cl (no _ (by simp)) ⟨by omega,cb _ _ (xab λR3 c9=>?_)⟩);generalize upd (upd m D (.lst ys)) bd (.dK (mapK (cn c) λz=>.ref (Z z)))=HA at J G g⊢;clear sC M hc;obtain⟨ac,b8⟩:∃f,f=putF (Str.ofString "between") (.ref bd) ae:=⟨_,rfl⟩;have ci:ac.length<=2:=by rw[b8];exact Nat.le_trans (xbe _ _ _) (by omega)
 rw[<- b8];have Y:=SameBut.upd x HA (.ins (ad K "Plain") dx ac);have a4:upd HA x (.ins (ad K "Plain") dx ac) x=some (.ins (ad K "Plain") dx ac):=ups;generalize upd HA x (.ins (ad K "Plain") dx ac)=H2 at Y a4⊢;have bc:SameBut x H1 H2:=J.but.trans Y;have b2:SameBut x H H2:=b1.trans bc;have br:H2 bd=some (.dK (mapK (cn c) λz=>.ref (Z z))):=Y _ _ g λz=>by rw[z,J _ _ a0]at g;cases g
 have bf:∀z∈cn c,H2 (Z z)=some (.lst [])/\H1 (Z z)=none:=λz hz=>⟨Y _ _ (G z hz) λe=>(by have:=G z hz;rw[e,J _ _ a0]at this;cases this),(a3 z hz).2⟩;clear Y g G a3 a7 J u;have ak:=xdz b2 hx;refine(xaa _ rfl ma _ _ _ rfl rfl (SqT.of (ak _ _ am)) rfl (jEAA ha rfl ⟨_,SqT.of (ak _ _ ab)⟩ ?_));refine xbs (xs:=uh) (λi ys m=>Same H2 m/\∃Z,EmpAt H2 m (hn c) i ys Z) (jAE (Same.refl _) (λ_=>0) ⟨by rw[List.take_zero];trivial,(λz hz=>by rw[List.take_zero]at hz;cases hz),λz hz=>by rw[List.take_zero]at hz;cases hz⟩) (xa5 (by omega)) (λi ys m _ p=>SqT.of (p.1 _ _ (ak _ _ ab))) ?_ ?_
 ·rintro i y ys m hy hi O ⟨u,Z,em⟩
  obtain⟨hd,I,bv,rv,rfl,r,an,a9⟩:=b6 hy;have a5:=u _ _ (ak _ _ r);refine⟨ext1 rfl,xdh ?_⟩;refine(xaa _ rfl I _ _ _ rfl rfl (SqT.of a5) rfl ⟨(by walk_at"s"),λl hl=>⟨(by walk_at"s"),λt ht=>nxtG hi O ?_⟩⟩);exact(jAE (u.trans ((Same.new hl _).trans (Same.new ht _))) (upF Z hd.name l) (em.snoc u ai a9 hl ht))
 rintro ys m O ⟨u,ta,em⟩ D hD;have M:=Same.new hD (.lst ys);obtain⟨a7,a3,ax⟩:=em;rw[zTL (show(hn c).length<=uh.length by omega)]at a7 a3 ax;refine(xcd D ys _ rfl ups (a7.same (Same.tups M)) (λtd hc=>?_));rw[xee (xhf ai)];have sC:=Same.new hc (.dK (mapK (hn c) λz=>.ref (ta z)));have J:=u.trans (M.trans sC);have G:∀z∈hn c,upd (upd m D (.lst ys)) td (.dK (mapK (hn c) λz=>.ref (ta z))) (ta z)=some (.lst []):=λz hz=>(M.trans sC) _ _ (a3 z hz).1;have ba:H2 td=none:=xav (u.trans M) hc;have g:upd (upd m D (.lst ys)) td (.dK (mapK (hn c) λz=>.ref (ta z))) td=some (.dK (mapK (hn c) λz=>.ref (ta z))):=ups;refine(xaa _ rfl x _ _ _ rfl (J _ _ a4) cl (no _ (by simp)) ⟨by omega,c9 _ _ ?_⟩);generalize upd (upd m D (.lst ys)) td (.dK (mapK (hn c) λz=>.ref (ta z)))=HA at J G g⊢;clear sC M hc;obtain⟨a1,b7⟩:∃f,f=putF (Str.ofString "tellings") (.ref td) ac:=⟨_,rfl⟩;have cg:a1.length<=3:=by rw[b7];exact Nat.le_trans (xbe _ _ _) (by omega)
 rw[<- b7];have Y:=SameBut.upd x HA (.ins (ad K "Plain") dx a1);have ag:upd HA x (.ins (ad K "Plain") dx a1) x=some (.ins (ad K "Plain") dx a1):=ups;generalize upd HA x (.ins (ad K "Plain") dx a1)=H3 at Y ag⊢;have ar:SameBut x H2 H3:=J.but.trans Y;have b3:SameBut x H H3:=b2.trans ar;have bq:H3 td=some (.dK (mapK (hn c) λz=>.ref (ta z))):=Y _ _ g λz=>by rw[z,J _ _ a4]at g;cases g
 have be:∀z∈hn c,H3 (ta z)=some (.lst [])/\H2 (ta z)=none:=λz hz=>⟨Y _ _ (G z hz) λe=>(by have:=G z hz;rw[e,J _ _ a4]at this;cases this),(a3 z hz).2⟩;clear Y g G a3 a7 J u;have aj:=xdz b3 hx;refine(xaa _ rfl ma _ _ _ rfl rfl (SqT.of (aj _ _ am)) rfl (jEAA ha rfl ⟨_,SqT.of (aj _ _ ab)⟩ ?_));refine xbs (xs:=uh) (λi ys m=>Same H3 m/\PairsV m ys (mapK ((hn c).take i) λ_=>.int 0)) ⟨Same.refl _,by rw[List.take_zero];trivial⟩ (xa5 (by omega)) (λi ys m _ p=>SqT.of (p.1 _ _ (aj _ _ ab))) ?_ ?_
 ·rintro i y ys m hy hi O ⟨u,pr⟩
  obtain⟨hd,I,bv,rv,rfl,r,an,a9⟩:=b6 hy;have a5:=u _ _ (aj _ _ r);refine⟨ext1 rfl,xdh ?_⟩;refine(xaa _ rfl I _ _ _ rfl rfl (SqT.of a5) rfl ⟨(by walk_at"s"),λt ht=>nxtG hi O ?_⟩);have s2:=Same.new ht (.tup [.str hd.name,.int 0]);refine⟨u.trans s2,?_⟩;rw[xch a9];unfold mapK;rw[zAP];exact(pr.same (Same.tups s2)).append ⟨(jEA t rfl ups),trivial⟩
 rintro ys m O ⟨u,pr⟩ D hD;have M:=Same.new hD (.lst ys);rw[zTL (show(hn c).length<=uh.length by omega)]at pr;refine(xcd D ys _ rfl ups (pr.same (Same.tups M)) (λcd hc=>?_));rw[xee (xhf ai)];have sC:=Same.new hc (.dK (mapK (hn c) λ_=>.int 0));have J:=u.trans (M.trans sC);have a2:H3 cd=none:=xav (u.trans M) hc;have g:upd (upd m D (.lst ys)) cd (.dK (mapK (hn c) λ_=>.int 0)) cd=some (.dK (mapK (hn c) λ_=>.int 0)):=ups;refine(xaa _ rfl x _ _ _ rfl (J _ _ ag) cl (no _ (by simp)) ⟨by omega,?_⟩);generalize upd (upd m D (.lst ys)) cd (.dK (mapK (hn c) λ_=>.int 0))=HA at J g⊢;clear sC M hc;have Y:=SameBut.upd x HA (.ins (ad K "Plain") dx (putF (Str.ofString "counts") (.ref cd) a1));have bl:upd HA x (.ins (ad K "Plain") dx (putF (Str.ofString "counts") (.ref cd) a1)) x=some (.ins (ad K "Plain") dx (putF (Str.ofString "counts") (.ref cd) a1)):=ups;generalize upd HA x (.ins (ad K "Plain") dx (putF (Str.ofString "counts") (.ref cd) a1))=H4 at Y bl⊢;have aq:SameBut x H3 H4:=J.but.trans Y;have b4:SameBut x H H4:=b3.trans aq;have c0:SameBut x H1 H4:=bc.trans (ar.trans aq);have cf:SameBut x H2 H4:=ar.trans aq;have c6:H4 cd=some (.dK (mapK (hn c) λ_=>.int 0)):=Y _ _ g λz=>by rw[z,J _ _ ag]at g;cases g
 have bi:∀{b o},H1 b=some o->(∀C d f,o≠.ins C d f)->H4 b=some o:=λ{b o} e n=>c0 b o e λz=>by rw[z,a0]at e;exact n _ _ _ (Option.some.inj e).symm
 have bh:∀{b o},H2 b=some o->(∀C d f,o≠.ins C d f)->H4 b=some o:=λ{b o} e n=>cf b o e λz=>by rw[z,a4]at e;exact n _ _ _ (Option.some.inj e).symm
 have bg:∀{b o},H3 b=some o->(∀C d f,o≠.ins C d f)->H4 b=some o:=λ{b o} e n=>aq b o e λz=>by rw[z,ag]at e;exact n _ _ _ (Option.some.inj e).symm
 have b5:∀{b o},H1 b=some o->(∀C d f,o≠.ins C d f)->H2 b=some o:=λ{b o} e n=>bc b o e λz=>by rw[z,a0]at e;exact n _ _ _ (Option.some.inj e).symm
 have b0:∀{b o},H2 b=some o->(∀C d f,o≠.ins C d f)->H3 b=some o:=λ{b o} e n=>ar b o e λz=>by rw[z,a4]at e;exact n _ _ _ (Option.some.inj e).symm
 have U:∀{kv:List (Key×V)},∀C d f,HO.dK kv≠.ins C d f:=λC d f e=>by cases e
 have bj:∀C d f,HO.lst []≠.ins C d f:=λC d f e=>by cases e
 have av:∀z∈hn c,∃kvs,H1 (pa z)=some (.dK kvs):=λz hz=>by
  obtain⟨_,kvs,h2,_⟩:=aw z hz;exact⟨kvs,h2⟩
 refine q ⟨dx,sd,bd,td,cd,sa,pa,Z,ta⟩ H4 b4 (λb hb=>?_) rfl (by rw[bl,b7,b8,b9];rfl) ⟨bi aa U,bh br U,bg bq U,c6,λz hz=>?_,λz hz=>(jEA ([]) (bh (bf z hz).1 bj) rfl),λz hz=>(jEA ([]) (bg (be z hz).1 bj) rfl),ay,ax,λz hz y hy e=>?_,?_,λz hz=>⟨?_,?_⟩⟩
 ·rcases hb with h |h |h |h |h |⟨z,hz,h⟩ |⟨z,hz,h |h⟩
  ·exact .inl h
  ·exact .inr (by rw[h];exact ce)
  ·exact .inr (by rw[h];exact xek b1 a0 bb)
  ·exact .inr (by rw[h];exact xek b2 a4 ba)
  ·exact .inr (by rw[h];exact xek b3 ag a2)
  ·exact .inr (by rw[h];exact xek b1 a0 (bf z hz).2)
  ·exact .inr (by rw[h];exact xek b2 a4 (be z hz).2)
  ·exact .inr (by rw[h];exact(au z hz).2)
 ·refine(aw z hz).keep (xdz c0 a0) λo e=>?_
  obtain⟨kvs,h2⟩:=av z hz;rw[h2]at e;cases e;exact bi h2 U
 ·have e':Z z=ta y:=e
  have h1:=(be y hy).2;rw[<- e',(bf z hz).1]at h1;cases h1
 ·refine(jAAA (λe=>?_) (λe=>?_) (λe=>?_) ⟨λe=>?_,λe=>?_⟩)
  ·have e':sd=bd:=e
   rw[<- e',aa]at bb;cases bb
  ·have e':sd=td:=e
   rw[<- e',b5 aa U]at ba;cases ba
  ·have e':sd=cd:=e
   rw[<- e',b0 (b5 aa U) U]at a2;cases a2
  ·have e':cd=bd:=e
   rw[e',b0 br U]at a2;cases a2
  ·have e':cd=td:=e
   rw[e',bq]at a2;cases a2
 ·exact c3 z hz
 ·intro e
  have e':pa z=cd:=e;obtain⟨kvs,h2⟩:=av z hz;rw[<- e',b0 (b5 h2 U) U]at a2;cases a2
theorem xha(T:Tx K r)(c:MethIs P w K r base n (ad K "House") "__init__" qag [[]] (xmm K)):MethIs P w K r base (n+1) (ad K "Plain") "__init__" qag [[]] (xgx K):=by
 refine MethIs.of T.k9 xg1 (λvs H Q E h=>?_) (λf Y A outer s H vs Q E M h=>?_)
 ·obtain⟨_,_,_,_,rfl,_⟩:=h
  rfl
 obtain⟨x,G,p,J,rfl,y,u,g,q⟩:=h
 refine⟨_,(zpn (xby (xo7 c T.k3 M T.k0 (va 0 (v1 1))))
   (zpo (xh6 (pv 0) (pv 1) rfl))),?_⟩
 refine(xam _ rfl _ rfl x G p (xbi J rfl y u g (λa H1 Z fr U i j=>?_)));refine(xam _ rfl _ rfl x _ _ (xbx _ rfl i T.kZ.cl (T.kZ.no _ (by simp)) ?_ ?_))
 ·exact Nat.lt_of_le_of_lt (show(hFs a).length<=4 from Nat.le_trans (xbe _ _ _) (Nat.succ_le_succ (Nat.le_trans (xbe _ _ _) (Nat.succ_le_succ (Nat.le_trans (xbe _ _ _) (Nat.succ_le_succ (Nat.le_trans (xbe _ _ _) (Nat.le_refl _)))))))) (by decide)
 ·have m:=SameBut.upd x H1 (.ins (ad K "Plain") G (putF (Str.ofString "make") p (hFs a)))
  have l:=xdz m i;have I:=Z.trans m;refine q a _ I fr ⟨⟨(jEA _ (by rw[U];exact ups) Hf.init),?_⟩,u.tups (xdz I y) _,g,hok0 g⟩;refine j.keep (x:=a.sd) l λb O o e=>m b o e λz=>?_;obtain⟨o',C,n⟩:=j.there b O;rw[z,i]at C;exact n _ _ _ (Option.some.inj C).symm
structure GIn(H:Hp)(f nb:Addr)(kv:V)(ks:List Kn)(nms:List Str):Prop where
 fd:∃p q:Int,H f=some (.lst [.int p,.int q])
 nl:H nb=some (.lst (nms.map V.str))
 ok:xhk nms
 ne:nb≠f
 nby:∀z∈nms,NoBy z
 kd:RelD H kv (xdk ks)
 wf:KWf ks
 pb:PNB ks
theorem GIn.same{H e:Hp}{f b:Addr}{c:V}{ks:List Kn}{a:List Str}(g:GIn H f b c ks a)(s:Same H e):GIn e f b c ks a:=by
 obtain⟨p,q,h⟩:=g.fd;exact⟨(jEE p q (s _ _ h)),s _ _ g.nl,g.ok,g.ne,g.nby,g.kd.same s _,g.wf,g.pb⟩
theorem GIn.fed{H e:Hp}{f b:Addr}{c:V}{ks:List Kn}{a:List Str}(g:GIn H f b c ks a)(s:Fed f H e):GIn e f b c ks a:=⟨s.2,s.1 _ _ g.nl g.ne,g.ok,g.ne,g.nby,g.kd.tups (xai g.fd s) _,g.wf,g.pb⟩
theorem GIn.refl{H:Hp}{f b:Addr}{c:V}{ks:List Kn}{a:List Str}(g:GIn H f b c ks a):Fed f H H:=by
 obtain⟨p,q,h⟩:=g.fd;exact Fed.refl h
theorem GIn.name{H:Hp}{f b:Addr}{c:V}{ks:List Kn}{a:List Str}(g:GIn H f b c ks a){i:Nat}(h:i<26):∃z,a[i]?=some z/\atI (a.map V.str) (i:Int)=some (.str z):=by
 have e:=g.ok.1;exact(jEA (a[i]'(by omega)) (zGA _) (xa0 (by rw[zGM,zGA (by omega)];rfl)))
structure ChsOk(ks:List Kn)(nms:List Str)(hn:Nat)(cs:List Chn):Prop where
 len:cs.length<=6
 nm:cs.map (·.1)=(nms.drop 12).take cs.length
 kin:∀c∈cs,KIn ks ks.length c.2.2.2
 ends:∀c∈cs,c.2.1∈nms.take hn/\c.2.2.1∈nms.take hn
def xqi:Sp:=λvs H Q _=>∃(f nb:Addr) (kv:V) (ks:List Kn) (nms:List Str) (hn:Nat),vs=[.ref f,kv,.ref nb,.int hn]/\GIn H f nb kv ks nms/\1<=hn/\hn<=4/\∀cv cs H',Fed f H H'->RelD H' cv (.tup (cs.map dChn))->ChsOk ks nms hn cs->Q cv H'
theorem xj4{a:List Str}{i hn:Nat}{z:Str}(h:a[i]?=some z)(hi:i<hn):z∈a.take hn:=zMG (i:=i) (by rw[List.getElem?_take,if_pos hi];exact h)
theorem xid(T:Tx K mg)(a:DefIs P w K mg base n "_law_take" qac xcl)(j:DefIs P w K mg base n "_law_any_kind" qam xo1):DefIs P w K mg base (n+1) "_law_channels" qbb xqi:=by
 refine DefIs.of T.j8 scl_channels (by walk_at"l") (λf bz A outer s H vs Q E hr h=>?_);obtain⟨p,nb,kv,ks,y,hn,rfl,g,h1,h4,q⟩:=h;have nd:=scl_channels.nd
 refine⟨_,(zpn (psn 4 nd (xca pN))
   (zpn (psn 5 nd (pd a hr (va 0 (v1 3))))
   (zpn (xcg PassesOwn.never rfl (xbz rfl T.kU (pc (xaq (xoq rfl) rfl T.kS PyProof.Rows.boot_max (pc (pd a hr (va 0 (pc pI pN so))) (pc (xaj xcr (pv 3) (xay xf1 rfl T.kO PyProof.Rows.boot_int (pc (xdn xc7 (pd a hr (va 0 (pc pI pN so))) pI (nM _)) pN xko))) pN xaz) zsc)) pN zsc)) (pgn 6 nd)
   (zpn (psn 7 nd (xak (pc (pxl K (pv 2) (pd a hr (va 0 (v1 3)))) (pc (pxl K (pv 2) (pd a hr (va 0 (v1 3)))) pN ss) ss)))
   (zpn (xa8 (PW.pt (xcj (pR xez (pv 6) (pv 3) (nM _)) (xb8 (pR xc7 (pd a hr (va 0 (pc pI pN so))) pI (nM _))))) (zpo (psn 7 nd (xak (pc (px K (pv 7) pI) (pc (pxl K (pv 2) (xaj xcb (xaj xba (pv 5) (pv 6)) (pv 3))) pN ss) ss)))) pQ)
   (zpo (xby (xc9 PySem.F.plainAttrs_list PySem.F.slot_list_append PySem.F.type_list_append xbw (pv 4) (pc (xak (pc (pxl K (pv 2) (xaj xba pI (pv 6))) (pc (px K (pv 7) pI) (pc (px K (pv 7) pI) (pc (pd j hr (va 0 (v1 1))) pN zsc) ss) ss) ss)) pN sT)))))))
   (zpo (xaf (xay (xbq (K:=K) rfl) rfl T.kX PyProof.Rows.boot_tuple (v1 4))))))),xab λR1 bd=>?_⟩
 refine⟨(by walk_at"s"),λl hl=>bd _ _ (xab λR2 bc=>?_)⟩;have s0:=Same.new hl (.lst []);have g0:=g.same s0;obtain⟨p0,q0,b8⟩:=g.fd;have I:l≠p:=Ne.symm (neN b8 hl);obtain⟨p1,q1,b7⟩:=g0.fd;refine(xam _ rfl _ rfl p p1 q1 (xbi hn rfl b7 (by omega) (by omega) (λtn H1 t0 t1 f1=>bc _ _ (xab λR3 bb=>?_))));have F1:Fed p H H1:=(g.refl.same s0).trans f1;have aw:=f1.1 _ _ ups I;obtain⟨p2,q2,b6⟩:=F1.2;refine(xaa _ rfl p p2 q2 6 rfl b6 (by decide) (by decide) (λr1 H2 bu bt f2=>?_));have F2:=F1.trans f2;have av:=f2.1 _ _ aw I;obtain⟨p3,q3,b5⟩:=F2.2;refine(xam _ rfl _ rfl p p3 q3 (xbi 5 rfl b5 (by decide) (by decide) (λr2 H3 br bq f3=>?_)));have F3:=F2.trans f3;have au:=f3.1 _ _ av I;refine(xaw _ _ rfl rfl (.inr (xat _ rfl _ _ rfl rfl (jAE (.inl ⟨by omega,by omega⟩) _ (jEA _ rfl ?_)))))
 obtain⟨N,hN,bx⟩:∃N:Nat,(if (hn:Int)*(if decide (r2 > 0)=true then 1 else 0) > r1 then (hn:Int)*(if decide (r2 > 0)=true then 1 else 0) else r1)=(N:Int)/\N<=5:=by
  have hb:(hn:Int)*(if decide (r2 > 0)=true then (1:Int) else 0)=0\/(hn:Int)*(if decide (r2 > 0)=true then (1:Int) else 0)=hn:=by
   by_cases m:decide (r2 > 0)=true
   ·rw[if_pos m];exact .inr (Int.mul_one _)
   ·rw[if_neg m];exact .inl (Int.mul_zero _)
  generalize (hn:Int)*(if decide (r2 > 0)=true then (1:Int) else 0)=b at hb;refine(jEA ((if b > r1 then b else r1).toNat) ?_ ?_) <;> split <;> omega
 rw[hN];refine(xbt _ rfl (by omega) (by omega) ?_)
 refine xcq (λi σ H'=>∃us,∃cs:List Chn,∃o6 o7,σ=[some (.ref p),some kv,some (.ref nb),some (.int hn),some (.ref l),some (.int tn),o6,o7]/\Fed p H H'/\H' l=some (.lst us)/\RelDs H' us (cs.map dChn)/\cs.length=i/\ChsOk ks y hn cs)
  (xas ([]) ([]) none none rfl F3 au rfl rfl ⟨by decide,rfl,(λ_ h=>nomatch h),λ_ h=>nomatch h⟩) ?_ ?_
 ·rintro i σ H4 hi ⟨us,cs,o6,o7,rfl,F4,a4,C,a5,x⟩
  have bw:i<5:=by omega
  have e0:(0+(i:Int))=(i:Int):=by omega
  have g4:=g.fed F4;obtain⟨p4,q4,b4⟩:=F4.2;have an:=C.length;rw[zLM]at an;refine xab λS1 ba=>?_;refine(xbp _ rfl _ rfl _ rfl p p4 (xcp q4 hn rfl b4 (by omega) (by omega) (λra H5 bp bo f5=>?_)));obtain⟨ia,rfl⟩:∃i:Nat,ra=(i:Int):=⟨ra.toNat,by omega⟩;have g5:=g4.fed f5;obtain⟨za,ak,bi⟩:=g5.name (i:=ia) (by omega);refine(xah nb _ _ _ rfl rfl (SqL.of g5.nl) bi ?_);obtain⟨p5,q5,b3⟩:=f5.2;refine(xbp _ rfl _ rfl _ rfl p p5 (xcp q5 hn rfl b3 (by omega) (by omega) (λrb H6 bn bm f6=>?_)));obtain⟨ib,rfl⟩:∃i:Nat,rb=(i:Int):=⟨rb.toNat,by omega⟩;have g6:=g5.fed f6;obtain⟨zb,aj,bh⟩:=g6.name (i:=ib) (by omega);refine(xas nb _ _ _ rfl rfl (SqL.of g6.nl) bh (by walk_at"s") (λte ao=>ba _ _ (xab λS2 b9=>?_)));have s7:=Same.new ao (.tup [.str za,.str zb]);have F6:=F4.trans (f5.trans f6);have ae:=xai g4.fd (f5.trans f6)
  have a1:∀(Z:Addr) (Y U:Str) (O:Hp),Fed p H O->O l=some (.lst us)->RelDs O us (cs.map dChn)->O Z=some (.tup [.str Y,.str U])->Y∈y.take hn->U∈y.take hn->S2 [some (.ref p),some kv,some (.ref nb),some (.int hn),some (.ref l),some (.int tn),some (.int (0+(i:Int))),some (.ref Z)] O:=λZ Y U O F8 aa a8 G am al=>by
   refine b9 _ _ ?_;have g8:=g.fed F8;obtain⟨zc,ai,bg⟩:=g8.name (i:=12+i) (by omega)
   have ac:atI (y.map V.str) (12+(0+(i:Int)))=some (.str zc):=by
    rw[e0];exact bg
   refine(jEAA _ rfl (.inl (jAE rfl _ (SqL.of aa))) ?_);refine(xbb _ rfl _ rfl _ _ rfl rfl nb (xal _ _ _ rfl rfl (SqL.of g8.nl) ac ?_));refine(xaa _ rfl Z _ _ _ rfl rfl (SqT.of G) rfl (xaa _ rfl Z _ _ _ rfl rfl (SqT.of G) rfl ?_));obtain⟨p8,q8,b2⟩:=F8.2;obtain⟨ka,ag,be,az,ay⟩:=id g8.kd;subst be;have ab:=g.wf.few;refine(xam _ rfl _ rfl p ka p8 (xal q8 ag ks rfl b2 (.inr az) ay ⟨ab,λkx H9 ax f9=>⟨(by walk_at"s"),λt ht=>?_⟩⟩));have st:=Same.new ht (.tup [.str zc,.str Y,.str U,.str kx]);have a2:=f9.1 _ _ aa I;have af:=xai g8.fd f9;refine(xal l us _ rfl rfl (st _ _ a2) (xa5 (by omega)) ?_);have bv:l≠t:=neN a2 ht;have aq:H l=none:=hl;refine(xas (us++[.ref t]) (cs++[(zc,Y,U,kx)]) _ _ rfl ?_ ups ?_ (by rw[zLA,List.length_singleton,a5]) ?_)
   ·refine⟨λb o e hb=>?_,?_⟩
    ·rw[xar (neN e aq)]
     exact st _ _ ((F8.trans f9).1 b o e hb)
    ·obtain⟨p9,q9,b1⟩:=f9.2
     exact(jEE p9 q9 (by rw[xar (Ne.symm I)];exact st _ _ b1))
   ·have a6:∀b vs,upd H9 t (.tup [.str zc,.str Y,.str U,.str kx]) b=some (.tup vs)->upd (upd H9 t (.tup [.str zc,.str Y,.str U,.str kx])) l (.lst (us++[.ref t])) b=some (.tup vs):=λb vs e=>by
     rw[xar λz=>by rw[z,st _ _ a2]at e;cases e];exact e
    rw[zAP];refine(((a8.tups af _).same st _).tups a6 _).append (xaw (.ref t) ([]) rfl (xao t _ rfl (a6 _ _ ups) _ _ rfl rfl _ (xbj _ rfl rfl _ _ rfl rfl (xaw _ _ rfl rfl rfl))) rfl)
   ·refine⟨by rw[zLA,List.length_singleton];omega,?_,λc m=>?_,λc m=>?_⟩
    ·rw[zAP,zLA,List.length_singleton,x.nm,zTA,List.getElem?_drop,a5,ai]
     rfl
    ·rcases zMA m with m |m
     ·exact x.kin c m
     ·rw[zMO m];exact ax
    ·rcases zMA m with m |m
     ·exact x.ends c m
     ·rw[zMO m];exact⟨am,al⟩
  have F7:=F6.same s7;have ar:=(f5.trans f6).1 _ _ a4 I;have a3:=s7 _ _ ar;have r:=(C.tups ae _).same s7 _;have a0:=xj4 ak (by omega:ia<hn);have a7:=xj4 aj (by omega:ib<hn);refine(xbb _ rfl _ rfl _ _ rfl rfl _ ⟨rfl,ite2 (λc1=>?_) (λc1=>?_)⟩)
  ·obtain⟨p7,q7,u⟩:=F7.2
   refine(xaa _ rfl p p7 q7 6 rfl u (by decide) (by decide) (λrc O bl bj M=>(xaw _ _ rfl rfl (jEA _ rfl (ite2 (λc2=>?_) (λc2=>?_))))))
   ·have a9:=xai (jEE p7 q7 u) M _ _ ups
    have F8:=F7.trans M;have g8:=g.fed F8;have J:(0:Int)<(hn:Int):=by omega
    have m0:=Int.emod_nonneg (tn+(0+(i:Int))) (by omega:(hn:Int)≠0);have m1:=Int.emod_lt_of_pos (tn+(0+(i:Int))) J;obtain⟨im,b0⟩:∃im:Nat,(tn+(0+(i:Int)))%(hn:Int)=(im:Int):=⟨((tn+(0+(i:Int)))%(hn:Int)).toNat,by omega⟩;obtain⟨zm,ah,bf⟩:=g8.name (i:=im) (by omega);refine(xaa _ rfl te _ _ _ rfl rfl (SqT.of a9) rfl (xap _ rfl _ rfl _ rfl _ _ rfl rfl (xat _ rfl _ _ rfl rfl (jAE J nb (xal _ _ _ rfl rfl (SqL.of g8.nl) (by rw[b0];exact bf) ⟨(by walk_at"s"),λZ G=>?_⟩)))));have s9:=Same.new G (.tup [.str za,.str zm]);exact a1 Z za zm _ (F8.same s9) (s9 _ _ (M.1 _ _ a3 I)) ((r.tups (xai (jEE p7 q7 u) M) _).same s9 _) ups a0 (xj4 ah (by omega))
   ·exact a1 te za zb O (F7.trans M) (M.1 _ _ a3 I) (r.tups (xai (jEE p7 q7 u) M) _) (xai (jEE p7 q7 u) M _ _ ups) a0 a7
  ·exact iteF (a1 te za zb _ F7 a3 r ups a0 a7)
 ·rintro σ H4 ⟨us,cs,o6,o7,rfl,F4,a4,C,a5,x⟩
  refine bb _ _ ?_;refine(jEA _ rfl (jEEA l us rfl (.inl ⟨SqL.of a4,λt ht=>?_⟩)));have st:=Same.new ht (.tup us);exact q _ cs _ (F4.same st) (xaw t us rfl ups (C.same st _)) x
structure BsOk(ks:List Kn)(nms:List Str)(bs:List (Str×Str)):Prop where
 len:bs.length<=5
 nd:(bs.map (·.1)).Nodup
 nm:∀b∈bs,b.1∈nms
 kin:∀b∈bs,KIn ks 6 b.2
def xtd:Sp:=λvs H Q _=>∃(f nb:Addr) (kv cv:V) (ks:List Kn) (nms:List Str) (cs:List Chn) (x:Str),vs=[.ref f,kv,cv,.str x,.ref nb]/\GIn H f nb kv ks nms/\RelD H cv (.tup (cs.map dChn))/\cs.length<=6/\(∀c∈cs,KIn ks ks.length c.2.2.2)/\∀bv bs H',Fed f H H'->RelD H' bv (xda bs)->BsOk ks nms bs->Q bv H'
def xui(cs:List Chn)(x:Str)(bs:List (Str×Str))(c y:Str):Prop:=∃ch∈cs,ch.1=c/\ch.2.2.1=x/\(y,ch.2.2.2)∈bs
def IntoAt(H:Hp)(cs:List Chn)(x:Str)(bs:List (Str×Str))(w:V):Prop:=∃(b:Addr) (c y:Str),w=.ref b/\H b=some (.tup [.str c,.str y])/\xui cs x bs c y
theorem IntoAt.tups{H a:Hp}{cs:List Chn}{x:Str}{bs:List (Str×Str)}{w:V}(h:IntoAt H cs x bs w)(s:∀b vs,H b=some (.tup vs)->a b=some (.tup vs)):IntoAt a cs x bs w:=by
 obtain⟨b,c,y,e,f,r⟩:=h;exact(xb7 b c y e (s _ _ f) r)
def xkq:Sp:=λvs H Q _=>∃(cv bv:V) (cs:List Chn) (x:Str) (bs:List (Str×Str)),vs=[cv,.str x,bv]/\RelD H cv (.tup (cs.map dChn))/\cs.length<=6/\RelD H bv (xda bs)/\bs.length<=5/\∀l ws H',Same H H'->H l=none->H' l=some (.lst ws)->(∀w∈ws,IntoAt H' cs x bs w)->ws.length<=30->Q (.ref l) H'
theorem xix(xs:List Str):(xs.map V.str).all xe0=true:=by
 rw[List.all_map];exact List.all_eq_true.mpr λ_ _=>rfl
theorem xm5{H:Hp}{us:List V}{bs:List (Str×Str)}(g:RelDs H us (bs.map xkb)){i:Nat}{v:V}(a:us[i]?=some v):∃(b:Addr) (p:Str×Str),bs[i]?=some p/\v=.ref b/\H b=some (.tup [.str p.1,.str p.2]):=by
 obtain⟨d,hd,rd⟩:=g.get a;rw[zGM]at hd;obtain⟨c,e,rfl⟩:=zMS hd;obtain⟨b,ws,rfl,f,_,_,rfl,rfl,_,_,rfl,rfl,rfl⟩:=rd;exact(xaw b c e rfl f)
theorem xpe(T:Tx K mg):DefIs P w K mg base (n+1) "_law_into" qap xkq:=by
 refine DefIs.of T.kA scl_into (by walk_at"l") (λf aa A outer s H vs Q E hr h=>?_);obtain⟨cv,bv,cs,x,bs,rfl,a4,h6,a5,h5,q⟩:=h;have nd:=scl_into.nd
 refine⟨_,(zpn (psn 3 nd (xca pN))
   (zpn (xcg PassesOwn.never rfl (xa1 (K:=K) rfl (pv 0)) (xbl (K:=K) rfl rfl (xae (pgn 4 nd) (xae (pgn 5 nd) (xae (pgn 6 nd) (xae (pgn 7 nd) xbh)))))
   (zpo (psn 3 nd (xaj xfp (pv 3) (xbo ["_law_x","_law_told","_law_c","_law_to","_law_h","_law_kind"] [none,none,some 4,some 6,some 1,some 7] rfl (by kernel_rfl) (xa1 (K:=K) rfl (pv 2)) (λ_ _ _ _=>(xbl (K:=K) (n:=2) rfl rfl (xae (pgc 0) (xae (pgc 1) xbh)))) (λ_ _ _ _=>(xd9 (PW.pt (xcj (pR xbd (pv 3) (pv 4) (nM _)) (xb8 (pR xbd (pv 1) (pv 5) (nM _))))))) (λ_ _ _ _=>(xak (va 2 (v1 0)))))))))
   (zpo (xaf (pv 3))))),xab λR1 a9=>?_⟩
 refine⟨(by walk_at"s"),λl0 J=>a9 _ _ (xab λR2 a8=>?_)⟩;have s0:=Same.new J (.lst []);obtain⟨ca,us,rfl,M,hR⟩:=a4;obtain⟨ba,ub,rfl,O,hB⟩:=a5;have a2:=hR.length;have a6:=hB.length;rw[zLM]at a2 a6;refine(xa3 _ rfl ca rfl ⟨_,SqT.of (s0 _ _ M)⟩ ?_)
 refine xdp (xs:=us) (λi σ r=>∃(l:Addr) (ws:List V) (o4 Z Y U:Option V),σ=[some (.ref ca),some (.str x),some (.ref ba),some (.ref l),o4,Z,Y,U]/\Same H r/\H l=none/\r l=some (.lst ws)/\(∀w∈ws,IntoAt r cs x bs w)/\ws.length<=5*i)
  (xan l0 ([]) none none none (xbx none rfl s0 J ups (λ_ h=>nomatch h) (Nat.zero_le _))) (λi σ r _ p=>?_) ?_ ?_
 ·obtain⟨_,_,_,_,_,_,_,m,_⟩:=p
  exact SqT.of (m _ _ M)
 ·rintro i v σ H1 hv ⟨l,ws,o4,Z,Y,U,rfl,m,hl,z,g,a1⟩
  obtain⟨b,c,hc,rfl,hb⟩:=xhi hR hv;have hi:i<us.length:=(zES hv).1;refine(xa2 b _ rfl (SqT.of (m _ _ hb)) rfl _ _ rfl _ (jEA _ rfl (jEEA _ _ rfl (xaw _ _ rfl rfl ?_))));refine(jEA _ rfl (xa3 _ rfl ba rfl ⟨_,SqT.of (m _ _ O)⟩ ?_));refine xbs (xs:=ub) (λj ys r=>Same H1 r/\(∀w∈ys,IntoAt r cs x bs w)/\ys.length<=j) (jAA (Same.refl _) (λ_ h=>nomatch h) (Nat.le_refl _)) (xa5 (by omega)) (λj ys r _ p=>SqT.of ((m.trans p.1) _ _ O)) ?_ ?_
  ·rintro j y ys H2 hy hj o ⟨C,a,a0⟩
   obtain⟨b2,pb,a3,rfl,a7⟩:=xm5 hB hy;refine(xa2 b2 _ rfl (SqT.of ((m.trans C) _ _ a7)) rfl _ _ rfl _ (xbt _ rfl rfl (ext2 rfl rfl) ?_));refine(xcv _ rfl _ rfl rfl _ rfl (ite2 (λc1=>?_) (λc1=>iteF (nxtN hj o (jAA C a (by omega))))));refine(xcv _ rfl _ rfl rfl _ rfl (ite2 (λc2=>?_) (λc2=>nxtN hj o (jAA C a (by omega)))));refine(xa3 _ rfl _ rfl (by walk_at"s") (λt ht=>nxtG hj o ?_));have st:=Same.new ht (.tup [.str c.1,.str pb.1]);refine(jAA (C.trans st) (λw e=>?_) (by rw[zLA,List.length_singleton];omega));rcases zMA e with e |e
   ·exact(a w e).tups (Same.tups st)
   ·rw[zMO e]
    have e1:c.2.2.1=x:=V.str.inj (of_decide_eq_true c1);have e2:pb.2=c.2.2.2:=V.str.inj (of_decide_eq_true c2);exact(xb7 t c.1 pb.1 rfl ups (xbt c (zMG hc) rfl e1 (by rw[<- e2];exact zMG a3)))
  ·rintro ys H2 o ⟨C,a,a0⟩ D hD
   have sD:=Same.new hD (.lst ys);have u:=C.trans sD;refine(xas l D ws ys rfl rfl (u _ _ z) ups (fits (by omega)) (λl2 I=>?_));have sl:=Same.new I (.lst (ws++ys));have G:=u.trans sl;refine(xan l2 (ws++ys) _ _ _ (xbx _ rfl (m.trans G) (xav (m.trans u) I) ups (λw e=>?_) (by rw[zLA];omega)));rcases zMA e with e |e
   ·exact(g w e).tups (Same.tups G)
   ·exact(a w e).tups (Same.tups (sD.trans sl))
 ·rintro σ H1 ⟨l,ws,o4,Z,Y,U,rfl,m,hl,z,g,a1⟩
  exact a8 _ _ (jEA _ rfl (q l ws H1 m hl z g (by omega)))
theorem xnf(T:Tx K mg)(a:DefIs P w K mg base n "_law_take" qac xcl)(m:DefIs P w K mg base n "_law_any_kind" qam xo1):DefIs P w K mg base (n+1) "_law_boxes" qbc xtd:=by
 refine DefIs.of T.j9 scl_boxes (by walk_at"l") (λf b3 A outer s H vs Q E hr h=>?_);obtain⟨U,nb,kv,cv,ks,a8,cs,x,rfl,g,aj,h6,ak,q⟩:=h;have nd:=scl_boxes.nd
 refine⟨_,(zpn (psn 5 nd (xca pN))
   (zpn (xcg PassesOwn.never rfl (xa1 (K:=K) rfl (pv 2)) (xbl (K:=K) rfl rfl (xae (pgn 6 nd) (xae (pgn 7 nd) (xae (pgn 8 nd) (xae (pgn 9 nd) xbh)))))
   (zpo (xa8 (PW.pt (xcj (pR xbd (pv 8) (pv 3) (nM _)) (xb8 (pR xer (pv 9) (pv 5) (by with_unfolding_all rfl))))) (zpo (xby (xc9 PySem.F.plainAttrs_list PySem.F.slot_list_append PySem.F.type_list_append xbw (pv 5) (v1 9)))) pQ)))
   (zpn (xcg PassesOwn.never rfl (xbz rfl T.kU (pc (pd a hr (va 0 (pc pI pN so))) pN zsc)) (pgn 10 nd)
   (zpo (xby (xc9 PySem.F.plainAttrs_list PySem.F.slot_list_append PySem.F.type_list_append xbw (pv 5) (pc (pd m hr (va 0 (v1 1))) pN zsc)))))
   (zpn (psn 11 nd (xaj xb3 (pd a hr (va 0 (pc pI pN so))) pI))
   (zpo (xaf (xay (xbq (K:=K) rfl) rfl T.kX PyProof.Rows.boot_tuple (pc (xbo ["_law_k","_law_names_here","_law_wants","_law_turn"] [none,some 4,some 5,some 11] rfl (by kernel_rfl) (xbz rfl T.kU (pc (xaq (xi4 rfl) rfl T.kT PyProof.Rows.boot_min (pc pI (pc (xaq (xad (K:=K) rfl) rfl T.kQ PySem.boot_len (v1 5)) pN zsc) so)) pN zsc)) (λ_ _ _ _=>(pgc 0)) (λ_ _ _ _=>xbv) (λ_ _ _ _=>(xak (pc (pxl K (pv 1) (xaj xba pI (xaj xcb (xaj xba (pv 0) (pv 3)) pI))) (pc (pxl K (pv 2) (pv 0)) pN ss) ss)))) pN xcc)))))))),xab λR1 ao=>?_⟩
 refine⟨(by walk_at"s"),λl M=>ao _ _ (xab λR2 an=>?_)⟩;have s0:=Same.new M (.lst []);obtain⟨p0,q0,a4⟩:=g.fd;have lf:l≠U:=Ne.symm (neN a4 M);have ay:nb≠l:=neN g.nl M;obtain⟨ca,us,rfl,a5,hR⟩:=aj;have aa:=hR.length;rw[zLM]at aa;have O:=g.wf.few;refine(xa3 _ rfl ca rfl ⟨_,SqT.of (s0 _ _ a5)⟩ ?_);have ar:∀{C:Hp} {xs:List Str} (k:Str),SameBut l H C->C l=some (.lst (xs.map V.str))->SameBut l H (upd C l (.lst ((xs++[k]).map V.str))):=λk s _=>s.trans (SameBut.upd _ _ _)
 refine xdp (xs:=us) (λi σ C=>∃(xs:List Str) (o6 o7 o8 o9:Option V),σ=[some (.ref U),some kv,some (.ref ca),some (.str x),some (.ref nb),some (.ref l),o6,o7,o8,o9,none,none]/\SameBut l H C/\C l=some (.lst (xs.map V.str))/\(∀k∈xs,KIn ks ks.length k)/\xs.length<=i)
  (xan ([]) none none none none (jAAA rfl s0.but ups ⟨(λ_ h=>nomatch h),Nat.zero_le _⟩)) (λi σ C _ p=>?_) ?_ ?_
 ·obtain⟨_,_,_,_,_,_,I,_⟩:=p
  exact SqT.of (I _ _ a5 (neN a5 M))
 ·rintro i v σ H1 hv ⟨xs,o6,o7,o8,o9,rfl,I,r,J,a0⟩
  obtain⟨b,c,hc,rfl,u⟩:=xhi hR hv;have hi:i<us.length:=(zES hv).1;refine(xa2 b _ rfl (SqT.of (I _ _ u (neN u M))) rfl _ _ rfl _ (jEA _ rfl (jEEA _ _ rfl (xaw _ _ rfl rfl ?_))));refine(xcv _ rfl _ rfl rfl _ rfl (ite2 (λc1=>?_) (λc1=>iteF (xan xs _ _ _ _ (jAAA rfl I r ⟨J,by omega⟩)))));refine(jEA _ rfl (xat _ rfl l _ rfl (.inl (SqL.of r)) (jAA rfl (xix xs) (jEA _ rfl (ite2 (λc2=>?_) (λc2=>(xan xs _ _ _ _ (jAAA rfl I r ⟨J,by omega⟩))))))));refine(xa4 _ rfl (.inl (jAE rfl _ (SqL.of r))) _ rfl (xal l _ _ rfl rfl r (xa5 (by rw[zLM];omega)) ?_));refine(xan (xs++[c.2.2.2]) _ _ _ _ (jAAA rfl (I.trans (SameBut.upd _ _ _)) (by rw[ups,zAP];rfl) ⟨λk a2=>?_,by rw[zLA,List.length_singleton];omega⟩));rcases zMA a2 with h |h
  ·exact J k h
  ·rw[zMO h];exact ak c (zMG hc)
 rintro σ H1 ⟨xs,o6,o7,o8,o9,rfl,I,r,J,a0⟩;refine an _ _ (xab λR3 am=>?_);have F1:Fed U H H1:=(jAE (λb o e _=>I b o e (neN e M)) p0 ⟨q0,I _ _ a4 (neN a4 M)⟩);have g1:=g.fed F1;obtain⟨p1,q1,ai⟩:=F1.2;refine(xaa _ rfl U p1 q1 3 rfl ai (by decide) (by decide) (λr1 H2 ax aw f2=>(xbt _ rfl (by omega) (by omega) ?_)))
 refine xcq (λi σ C=>∃(xs:List Str) (Y:Option V),σ=[some (.ref U),some kv,some (.ref ca),some (.str x),some (.ref nb),some (.ref l),o6,o7,o8,o9,Y,none]/\Fed U H C/\C l=some (.lst (xs.map V.str))/\(∀k∈xs,KIn ks ks.length k)/\xs.length<=6+i)
  (xcp xs none rfl (F1.trans f2) (f2.1 _ _ r lf) J (by omega)) ?_ ?_
 ·rintro i σ H3 hi ⟨xs,Y,rfl,F3,r,J,a0⟩
  have g3:=g.fed F3;obtain⟨p3,q3,a3⟩:=F3.2;obtain⟨ka,a9,aq,ag,af⟩:=id g3.kd;subst aq;refine(xa4 _ rfl (.inl (jAE rfl _ (SqL.of r))) _ rfl (xa7 _ rfl U ka p3 q3 (xa6 a9 ks rfl a3 (.inr ag) af O (λkx H4 ae f4=>?_))));have y:=f4.1 _ _ r lf;refine(xal l _ _ rfl rfl y (xa5 (by rw[zLM];omega)) ?_);have F4:=F3.trans f4;refine(xcp (xs++[kx]) _ rfl ?_ (by rw[ups,zAP];rfl) (λk a2=>?_) (by rw[zLA,List.length_singleton];omega))
  ·refine⟨λb o e u=>by rw[xar (neN e M)];exact F4.1 b o e u,?_⟩
   obtain⟨p4,q4,ah⟩:=F4.2;exact(jEE p4 q4 (by rw[xar (Ne.symm lf)];exact ah))
  ·rcases zMA a2 with h |h
   ·exact J k h
   ·rw[zMO h];exact ae
 rintro σ H3 ⟨xs,Y,rfl,F3,r,J,a0⟩;refine am _ _ (xab λR4 al=>?_);obtain⟨p3,q3,a3⟩:=F3.2;refine(xaa _ rfl U p3 q3 4 rfl a3 (by decide) (by decide) (λr4 H4 av au f4=>(xb0 _ _ rfl rfl ⟨by decide,by decide⟩ (al _ _ ?_))));have F4:=F3.trans f4;have g4:=g.fed F4;have y:=f4.1 _ _ r lf;have xl:(xs.map V.str).length=xs.length:=zLM _;refine(xat _ rfl l _ rfl (.inl (SqL.of y)) (jEEA _ _ rfl ?_))
 obtain⟨N,hN,b2,b1⟩:∃N:Nat,(if ((xs.map V.str).length:Int)<5 then ((xs.map V.str).length:Int) else 5)=(N:Int)/\N<=5/\N<=xs.length:=by
  rw[xl];refine(jEAA ((if (xs.length:Int)<5 then (xs.length:Int) else 5).toNat) ?_ ?_ ?_) <;> split <;> omega
 rw[hN];refine(xbt _ rfl (by omega) (by omega) ?_);have tn:0<=r4 / 2/\r4 / 2<=1:=by omega
 obtain⟨tt,ab⟩:∃t:Nat,r4 / 2=(t:Int):=⟨(r4 / 2).toNat,by omega⟩;have ix:∀i:Nat,(18+((0+(i:Int))+r4 / 2)%6)=((18+(i+tt)%6:Nat):Int):=λi=>by rw[ab];omega
 refine xdb (j:=0) (λi ys C=>Same H4 C/\∃bs:List (Str×Str),RelDs C ys (bs.map xkb)/\bs.length=i/\(∀(j:Nat) b,bs[j]?=some b->a8[18+(j+tt)%6]?=some b.1)/\∀b∈bs,KIn ks 6 b.2) (by rfl) (xga (Same.refl _) ([]) rfl rfl ⟨(λj b h=>by simp at h),λ_ h=>nomatch h⟩) (xa5 (by omega)) ?_ ?_
 ·rintro i ys H5 hi a7 ⟨s5,bs,Z,a6,G,a1⟩
  have g5:=g4.same s5;obtain⟨z,hz,az⟩:=g5.name (i:=18+(i+tt)%6) (by omega);have hx:i<xs.length:=by omega
  refine(xap _ rfl _ rfl _ rfl _ _ rfl rfl (xb0 _ _ rfl rfl (by show(0:Int)<6;decide) (xaw _ _ rfl rfl (xah nb _ _ _ rfl rfl (SqL.of g5.nl) (by rw[ix];exact az) ?_))));refine(xam _ rfl _ rfl l _ _ (xbx (.str xs[i]) rfl rfl (SqL.of (s5 _ _ y)) ?_ (by walk_at"s") (λt ht=>nxt hi a7 ?_)))
  ·rw[show(0+(i:Int))=(i:Int) by omega]
   exact xa0 (by rw[zGM,zGA hx];rfl)
  have st:=Same.new ht (.tup [.str z,.str xs[i]]);refine(xga (s5.trans st) (bs++[(z,xs[i])]) ?_ (by rw[zLA,List.length_singleton,a6]) ⟨λj b u=>?_,λb u=>?_⟩)
  ·rw[zAP]
   exact(Z.same st _).append (xaw (.ref t) ([]) rfl (xao t _ rfl ups _ _ rfl rfl _ (jEAA _ rfl rfl rfl)) rfl)
  ·by_cases hj:j<bs.length
   ·rw[List.getElem?_append_left hj]at u
    exact G j b u
   ·have ac:=(zES u).1
    rw[zLA,List.length_singleton]at ac;have e0:j=i:=by omega
    subst e0;rw[List.getElem?_append_right (by omega),a6,Nat.sub_self]at u;simp at u;subst u;exact hz
  ·rcases zMA u with h |h
   ·exact a1 b h
   ·rw[zMO h]
    exact(J _ (List.getElem_mem hx)).mono O
 ·rintro ys H5 a7 ⟨s5,bs,Z,a6,G,a1⟩ D hD
  have sD:=Same.new hD (.lst ys);refine(jEEA D ys rfl (.inl ⟨SqL.of ups,λt ht=>?_⟩));have st:=Same.new ht (.tup ys);have sA:=sD.trans st;refine q _ bs _ (F4.same (s5.trans sA)) (xaw t ys rfl ups (Z.same sA _)) ⟨by omega,?_,λb u=>?_,a1⟩
  ·refine List.pairwise_iff_getElem.mpr λi j hi hj b0 e=>?_
   rw[zLM]at hi hj;rw[List.getElem_map,List.getElem_map]at e;have h1:=G i _ (zGA hi);have h2:=G j _ (zGA hj);rw[e]at h1;obtain⟨k1,e1⟩:=zES h1;obtain⟨k2,e2⟩:=zES h2;have:=(List.getElem_inj (h₀:=k1) (h₁:=k2) g.ok.2.1).mp (e1.trans e2.symm);omega
  ·obtain⟨j,hj,e⟩:=zMI u
   have:=G j b (by rw[<- e];exact zGA hj);exact zMG this
def Sb2(f m:Addr)(H H':Hp):Prop:=(∀b o,H b=some o->b≠f->b≠m->H' b=some o)/\∃p q:Int,H' f=some (.lst [.int p,.int q])
theorem Sb2.of{f m:Addr}{H a:Hp}(h:Fed f H a):Sb2 f m H a:=⟨λb o e n _=>h.1 b o e n,h.2⟩
theorem Sb2.same{f m:Addr}{H c a:Hp}(h:Sb2 f m H c)(s:Same c a):Sb2 f m H a:=by
 obtain⟨l,p,q,j⟩:=h;exact(jAE (λb o e i g=>s _ _ (l b o e i g)) p ⟨q,s _ _ j⟩)
theorem Sb2.upd{f m:Addr}{H c:Hp}(h:Sb2 f m H c)(n:m≠f)(o:HO):Sb2 f m H (L2.upd c m o):=by
 obtain⟨j,p,q,i⟩:=h;exact(jAE (λb u e g a=>by rw[xar a];exact j b u e g a) p ⟨q,by rw[xar (Ne.symm n)];exact i⟩)
structure DIn(H:Hp)(f:Addr)(kv cv bv:V)(ks:List Kn)(cs:List Chn)(bs:List (Str×Str)):Prop where
 fd:∃p q:Int,H f=some (.lst [.int p,.int q])
 kd:RelD H kv (xdk ks)
 wf:KWf ks
 pb:PNB ks
 cd:RelD H cv (.tup (cs.map dChn))
 c6:cs.length<=6
 ck:∀c∈cs,KIn ks 6 c.2.2.2
 bd:RelD H bv (xda bs)
 b5:bs.length<=5
 bn:(bs.map (·.1)).Nodup
 bb:∀b∈bs,NoBy b.1
 bk:∀b∈bs,KIn ks 6 b.2
theorem DIn.keep{H a:Hp}{f:Addr}{c e g:V}{ks:List Kn}{cs:List Chn}{bs:List (Str×Str)}(d:DIn H f c e g ks cs bs)(s:∀b vs,H b=some (.tup vs)->a b=some (.tup vs))(h:∃p q:Int,a f=some (.lst [.int p,.int q])):DIn a f c e g ks cs bs:=
 ⟨h,d.kd.tups s _,d.wf,d.pb,d.cd.tups s _,d.c6,d.ck,d.bd.tups s _,d.b5,d.bn,d.bb,d.bk⟩
theorem DIn.same{H e:Hp}{f:Addr}{a b c:V}{ks:List Kn}{cs:List Chn}{bs:List (Str×Str)}(d:DIn H f a b c ks cs bs)(s:Same H e):DIn e f a b c ks cs bs:=d.keep (Same.tups s) (by obtain⟨p,q,h⟩:=d.fd;exact(jEE p q (s _ _ h)))
theorem DIn.fed{H e:Hp}{f:Addr}{a b c:V}{ks:List Kn}{cs:List Chn}{bs:List (Str×Str)}(d:DIn H f a b c ks cs bs)(s:Fed f H e):DIn e f a b c ks cs bs:=d.keep (xai d.fd s) s.2
theorem DIn.tin{H:Hp}{f c:Addr}{g l m:V}{ks:List Kn}{cs:List Chn}{bs:List (Str×Str)}(d:DIn H f g l m ks cs bs){us:List V}(a:H c=none)(e:RelDs H us (bs.map xkb)):TIn (upd H c (.lst us)) f g (.ref c) ks bs 3:=by
 have s:=Same.new a (.lst us);have d':=d.same s;obtain⟨p,q,h⟩:=d.fd;exact⟨d'.fd,d'.kd,d.wf,d.pb,(xb0 c us rfl ups (e.same s _) (Ne.symm (neN h a))),d.bn,by have:=d.b5;omega,λb i j _=>d.bb b i j,d.bk⟩
theorem xti{k n:Nat}(h:k<n):seqIndex? (k:Int) n=some k:=by
 unfold seqIndex?;have:¬(k:Int)<0:=by omega
 simp only[if_neg this];rw[if_pos (by simp;omega),Int.toNat_natCast]
theorem xq1:∀(l:List Str) (i:Nat),(l.map V.str).eraseIdx i=(l.eraseIdx i).map V.str
 |[],i=>rfl
 |a::l,0=>rfl
 |a::l,i+1=>by
  rw[List.map_cons,List.eraseIdx_cons_succ,List.eraseIdx_cons_succ,List.map_cons,xq1 l i]
def xmq:Sp:=λvs H Q _=>∃(f m:Addr) (kv cv bv:V) (ks:List Kn) (cs:List Chn) (bs:List (Str×Str)) (x:Str) (ms:List Str),vs=[.ref f,kv,cv,.str x,bv,.ref m]/\DIn H f kv cv bv ks cs bs/\H m=some (.lst (ms.map V.str))/\m≠f/\ms.length<=100 ∧
 ∀u r ms' H',Sb2 f m H H'->H' m=some (.lst (ms'.map V.str))->ms'.length<=ms.length->((∀l c y,r≠.take l c y)->ms'=ms)->RelD H' u r.d->(∀n,xe2 ks cs x bs n r)->(∀b vs,H b=some (.tup vs)->H' b=some (.tup vs))->Q u H'
theorem xpf(T:Tx K mg)(a:DefIs P w K mg base n "_law_take" qac xcl)(C:DefIs P w K mg base n "_law_into" qap xkq)(g:DefIs P w K mg base n "_law_new_term" qai xhv):DefIs P w K mg base (n+1) "_law_deal" qaz xmq:=by
 refine DefIs.of T.kB scl_deal (by walk_at"l") (λf c4 A outer s H vs Q E hr h=>?_);obtain⟨G,ml,kv,cv,bv,ks,cs,bs,x,O,rfl,d,aq,mf,bx,q⟩:=h;have nd:=scl_deal.nd;have c6:=d.c6;have b5:=d.b5
 refine⟨_,(zpn (psn 6 nd (pd a hr (va 0 (pc pI pN so))))
   (zpn (psn 7 nd (pd C hr (va 2 (va 3 (v1 4)))))
   (zpn (xc0 (i:=8) ["_law_c","_law_come","_law_to","_law_kind","_law_h"] [none,none,none,none,some 3] rfl (by kernel_rfl) nd rfl (by walk_at"o") (xa1 (K:=K) rfl (pv 2)) (λ_ _ _ _=>(xbl (K:=K) (n:=4) rfl rfl (xae (pgc 0) (xae (pgc 1) (xae (pgc 2) (xae (pgc 3) xbh)))))) (λ_ _ _ _=>(xd9 (pR xbd (pv 1) (pv 4) (nM _)))) (λ_ _ _ _=>(xak (va 0 (v1 3)))))
   (zpn (xa8 (PW.pt (xcj (pR xez (pv 6) pI (nM _)) (xcj (pR xc7 (xaq (xad (K:=K) rfl) rfl T.kQ PySem.boot_len (v1 7)) pI (nM _)) (xb8 (pR xc7 (xaq (xad (K:=K) rfl) rfl T.kQ PySem.boot_len (v1 5)) pI (nM _)))))) (zpn (xc6 (pxl K (pv 7) (pd a hr (va 0 (pc (xaq (xad (K:=K) rfl) rfl T.kQ PySem.boot_len (v1 7)) pN zsc)))) (xbl (K:=K) rfl rfl (xae (pgn 9 nd) (xae (pgn 10 nd) xbh))))
   (zpo (xaf (xak (pc pS (pc (xc9 PySem.F.plainAttrs_list PySem.F.slot_list_pop PySem.F.type_list_pop xhd (pv 5) (pc (pd a hr (va 0 (pc (xaq (xad (K:=K) rfl) rfl T.kQ PySem.boot_len (v1 5)) pN zsc))) pN zsc)) (va 9 (v1 10)) zsc) so))))) pQ)
   (zpn (xa8 (PW.pt (xcj (pR xez (pv 6) pI (nM _)) (xb8 (pR xc7 (xaq (xad (K:=K) rfl) rfl T.kQ PySem.boot_len (v1 8)) pI (nM _))))) (zpn (xc6 (pxl K (pv 8) (pd a hr (va 0 (pc (xaq (xad (K:=K) rfl) rfl T.kQ PySem.boot_len (v1 8)) pN zsc)))) (xbl (K:=K) rfl rfl (xae (pgn 9 nd) (xae (pgn 11 nd) xbh))))
   (zpo (xaf (xak (pc pS (va 9 (pc (pd g hr (va 0 (va 1 (pc (xay xb1 rfl T.kR PyProof.Rows.boot_list (v1 4)) (v1 11) zsc)))) pN zsc)) so))))) pQ)
   (zpn (xa8 (PW.pt (xcj (pR xez (pv 6) pI (nM _)) (xb8 (pR xc7 (xaq (xad (K:=K) rfl) rfl T.kQ PySem.boot_len (v1 4)) pI (nM _))))) (zpn (xc6 (px K (pv 4) (pd a hr (va 0 (pc (xaq (xad (K:=K) rfl) rfl T.kQ PySem.boot_len (v1 4)) pN zsc)))) (xbl (K:=K) rfl rfl (xae (pgn 10 nd) (xae (pgn 11 nd) xbh))))
   (zpo (xaf (xak (pc pS (va 10 (pc (pd g hr (va 0 (va 1 (pc (xay xb1 rfl T.kR PyProof.Rows.boot_list (v1 4)) (v1 11) zsc)))) pN zsc)) so))))) pQ)
   (zpo (xaf (xak (pc pS (pc (pd g hr (va 0 (va 1 (pc (xay xb1 rfl T.kR PyProof.Rows.boot_list (v1 4)) (pc pS pN so) zsc)))) pN zsc) so)))))))))),xab λR1 bn=>?_⟩
 obtain⟨p0,q0,b8⟩:=d.fd;refine(xaa _ rfl G p0 q0 8 rfl b8 (by decide) (by decide) (λfm H1 c0 bz f1=>bn _ _ (xab λR2 bm=>?_)));have d1:=d.fed f1;have ac:=f1.1 _ _ aq mf;refine(xbp _ rfl _ rfl _ rfl cv bv (xal cs x bs rfl d1.cd c6 d1.bd ⟨b5,λil ws H2 s2 ar b6 ae bu=>bm _ _ (xab λR3 bj=>?_)⟩));have d2:=d1.same s2;have ao:=s2 _ _ ac;have F2:Fed G H H2:=f1.same s2;obtain⟨ca,uc,bo,ax,ay⟩:=id d2.cd;subst bo;have bb:=ay.length;rw[zLM]at bb;refine(xa3 _ rfl ca rfl ⟨_,SqT.of ax⟩ ?_);refine xbs (xs:=uc) (λi ys H'=>Same H2 H'/\(∀w∈ys,∃(b:Addr) (ch:Chn),w=.ref b/\H' b=some (.tup [.str ch.1,.str ch.2.2.2])/\ch∈cs/\ch.2.1=x)/\ys.length<=i) (jAA (Same.refl _) (λ_ h=>nomatch h) (Nat.le_refl _)) (xa5 (by omega)) (λi ys H' _ p=>SqT.of (p.1 _ _ ax)) ?_ ?_
 ·rintro i y ys H3 hy hi af ⟨s3,a0,b1⟩
  obtain⟨b,c,hc,rfl,hb⟩:=xhi ay hy;refine(xa2 b _ rfl (SqT.of (s3 _ _ hb)) rfl _ _ rfl _ (jEA _ rfl (jEEA _ _ rfl (xb0 _ _ rfl rfl (ext4 rfl rfl rfl rfl) ?_))));refine(xcv _ rfl _ rfl rfl _ rfl (ite2 (λc1=>?_) (λc1=>nxtN hi af (jAA s3 a0 (by omega)))));refine(xa3 _ rfl _ rfl (by walk_at"s") (λt ht=>nxtG hi af ?_));have st:=Same.new ht (.tup [.str c.1,.str c.2.2.2]);refine(jAA (s3.trans st) (λw hw=>?_) (by rw[zLA,List.length_singleton];omega));rcases zMA hw with hw |hw
  ·obtain⟨b',ch,e,bf,r⟩:=a0 w hw
   exact(xaw b' ch e (st _ _ bf) r)
  ·rw[zMO hw]
   exact(xb0 t c rfl ups (zMG hc) (V.str.inj (of_decide_eq_true c1)))
 rintro ys H3 af ⟨s3,a0,b1⟩ D hD;have sD:=Same.new hD (.lst ys);obtain⟨H4,a8⟩:∃H4,H4=upd H3 D (.lst ys):=⟨_,rfl⟩;have ai:H4 D=some (.lst ys):=by rw[a8];exact ups
 rw[<- a8]at sD;have s4:=s3.trans sD;have d4:=d2.same s4;have F4:Fed G H H4:=F2.same s4;have a2:=s4 _ _ ao;have a3:=s4 _ _ b6;obtain⟨p1,q1,av⟩:=f1.2;have b0:il≠G:=Ne.symm (neN av ar);have bt:il≠ml:=Ne.symm (neN ac ar);have Df:D≠G:=Ne.symm (neN (s3 _ _ (s2 _ _ av)) hD);obtain⟨p4,q4,M⟩:=F4.2;obtain⟨ba,ub,bp,U,a6⟩:=id d4.bd;subst bp;have bc:=a6.length;rw[zLM]at bc;have az:(O.map V.str).length=O.length:=zLM _;have ah:∀w∈ws,IntoAt H4 cs x bs w:=λw hw=>(ae w hw).tups (Same.tups s4)
 have al:∀w∈ys,∃(b:Addr) (ch:Chn),w=.ref b/\H4 b=some (.tup [.str ch.1,.str ch.2.2.2])/\ch∈cs/\ch.2.1=x:=λw hw=>by
  obtain⟨b,ch,e,hb,r⟩:=a0 w hw;exact(xaw b ch e (sD _ _ hb) r)
 rw[<- a8];clear a8 ae a0
 have a7:∀{H5 H6:Hp} {u:V} {r:Row},Fed G H4 H5->Same H5 H6->(∀l c y,r≠.take l c y)->RelD H6 u r.d->(∀n,xe2 ks cs x bs n r)->Q u H6:=λ{H5 H6 u r} o s6 bw hu b2=>by
  have F5:=(F4.trans o).same s6;exact q u r O H6 (Sb2.of F5) (s6 _ _ (o.1 _ _ a2 mf)) (Nat.le_refl _) (λ_=>rfl) hu b2 (xai d.fd F5)
 refine bj _ _ (xab λR4 bi=>?_)
 have Z:R4 [some (.ref G),some kv,some (.ref ca),some (.str x),some (.ref ba),some (.ref ml),some (.int fm),some (.ref il),some (.ref D),none,none,none] H4:=by
  refine bi _ _ (xab λR5 bh=>?_)
  have aa:R5 [some (.ref G),some kv,some (.ref ca),some (.str x),some (.ref ba),some (.ref ml),some (.int fm),some (.ref il),some (.ref D),none,none,none] H4:=by
   refine bh _ _ (xab λR6 bg=>?_)
   have a9:R6 [some (.ref G),some kv,some (.ref ca),some (.str x),some (.ref ba),some (.ref ml),some (.int fm),some (.ref il),some (.ref D),none,none,none] H4:=by
    refine bg _ _ ?_;refine(xap _ rfl _ rfl _ rfl ba ub rfl (.inr (SqT.of U)) (λbl j=>?_));have sb:=Same.new j (.lst ub);refine(xan G kv (.ref bl) ks bs (xbt (S "num") rfl (d4.tin j a6) (.inl rfl) (λta td H5 o rd tb=>⟨(by walk_at"s"),λt ht=>?_⟩)));have st:=Same.new ht (.tup [.str (S "tell"),.ref ta]);exact a7 (r:=.tell td) (((Fed.refl M).same sb).trans o) st (by intro _ _ _ e;cases e) (xao t _ rfl ups _ _ rfl rfl _ (jEAA _ rfl (rd.same st _) rfl)) λ_=>tb.1
   refine(xbg _ rfl _ _ rfl rfl _ rfl (ite2 (λc1=>?_) (λc1=>iteF a9)));refine(xbf _ rfl ba _ rfl (.inr (SqT.of U)) _ _ rfl rfl (jEA _ rfl (ite2 (λc2=>?_) (λc2=>a9))));have ab:=of_decide_eq_true c2;refine xab λS1 a5=>?_;refine(xap _ rfl _ rfl _ rfl ba _ rfl (.inr (SqT.of U)) (xah G p4 q4 _ rfl M (by omega) (by omega) (λr5 H5 ak aj o=>?_)));obtain⟨i5,rfl⟩:∃i:Nat,r5=(i:Int):=⟨r5.toNat,by omega⟩;have I:i5<ub.length:=by omega
   have m:=xai (jEE p4 q4 M) o;obtain⟨J,pb,b4,eb,a4⟩:=xm5 a6 (zGA I);refine(xbm ba _ _ (.ref J) rfl rfl (SqT.of (m _ _ U)) (xa0 (by rw[zGA I,eb])) J (xbt _ rfl (SqT.of (m _ _ a4)) rfl (jEEA _ _ rfl (xaw _ _ rfl rfl (a5 _ _ ?_)))));have am:=zMG b4;have d5:=d4.fed o;refine(jEA _ rfl (xap _ rfl _ rfl _ rfl ba ub rfl (.inr (SqT.of (m _ _ U))) (λbl j=>?_)));have sb:=Same.new j (.lst ub);refine(xa7 _ rfl G kv (.ref bl) ks (xb0 bs pb.2 rfl (d5.tin j (a6.tups m _)) (d.bk pb am) (λta td H6 f6 rd tb=>⟨(by walk_at"s"),λt ht=>?_⟩)));have st:=Same.new ht (.tup [.str (S "set"),.str pb.1,.ref ta]);exact a7 (r:=.set pb.1 td) ((o.same sb).trans f6) st (by intro _ _ _ e;cases e) (xao t _ rfl ups _ _ rfl rfl _ (xbj _ rfl rfl _ _ rfl (rd.same st _) rfl)) λ_=>(jEA pb.2 am tb.1)
  refine(xbg _ rfl _ _ rfl rfl _ rfl (ite2 (λc1=>?_) (λc1=>iteF aa)));refine(xbf _ rfl D _ rfl (.inl (SqL.of ai)) _ _ rfl rfl (jEA _ rfl (ite2 (λc2=>?_) (λc2=>aa))));have ab:=of_decide_eq_true c2;refine xab λS1 a5=>?_;refine(xap _ rfl _ rfl _ rfl D _ rfl (.inl (SqL.of ai)) (xah G p4 q4 _ rfl M (by omega) (by omega) (λr5 H5 ak aj o=>?_)));obtain⟨i5,rfl⟩:∃i:Nat,r5=(i:Int):=⟨r5.toNat,by omega⟩;have I:i5<ys.length:=by omega
  have m:=xai (jEE p4 q4 M) o;obtain⟨J,ch,eb,a4,aw,b9⟩:=al _ (List.getElem_mem I);refine(xbm D _ _ (.ref J) rfl rfl (SqL.of (o.1 _ _ ai Df)) (xa0 (by rw[zGA I,eb])) J (xbt _ rfl (SqT.of (m _ _ a4)) rfl (jEEA _ _ rfl (xaw _ _ rfl rfl (a5 _ _ ?_)))));have d5:=d4.fed o;refine(jEA _ rfl (xap _ rfl _ rfl _ rfl ba ub rfl (.inr (SqT.of (m _ _ U))) (λbl j=>?_)));have sb:=Same.new j (.lst ub);refine(xa7 _ rfl G kv (.ref bl) ks (xb0 bs ch.2.2.2 rfl (d5.tin j (a6.tups m _)) (d.ck ch aw) (λta td H6 f6 rd tb=>⟨(by walk_at"s"),λt ht=>?_⟩)));have st:=Same.new ht (.tup [.str (S "send"),.str ch.1,.ref ta]);exact a7 (r:=.send ch.1 td) ((o.same sb).trans f6) st (by intro _ _ _ e;cases e) (xao t _ rfl ups _ _ rfl rfl _ (xbj _ rfl rfl _ _ rfl (rd.same st _) rfl)) λ_=>(xbt ch aw rfl b9 tb.1)
 refine(xbg _ rfl _ _ rfl rfl _ rfl (ite2 (λc1=>?_) (λc1=>iteF Z)));refine(xbf _ rfl il _ rfl (.inl (SqL.of a3)) _ _ rfl rfl (jEA _ rfl (ite2 (λc2=>?_) (λc2=>iteF Z))));refine(xbf _ rfl ml _ rfl (.inl (SqL.of a2)) _ _ rfl rfl (jEA _ rfl (ite2 (λc3=>?_) (λc3=>Z))));have ab:=of_decide_eq_true c2;have b3:=of_decide_eq_true c3;refine xab λS1 a5=>?_;refine(xap _ rfl _ rfl _ rfl il _ rfl (.inl (SqL.of a3)) (xah G p4 q4 _ rfl M (by omega) (by omega) (λr5 H5 ak aj o=>?_)));obtain⟨i5,rfl⟩:∃i:Nat,r5=(i:Int):=⟨r5.toNat,by omega⟩;have I:i5<ws.length:=by omega
 have m:=xai (jEE p4 q4 M) o;obtain⟨J,c5,y5,eb,a4,ag⟩:=ah _ (List.getElem_mem I);refine(xbm il _ _ (.ref J) rfl rfl (SqL.of (o.1 _ _ a3 b0)) (xa0 (by rw[zGA I,eb])) J (xbt _ rfl (SqT.of (m _ _ a4)) rfl (jEEA _ _ rfl (xaw _ _ rfl rfl (a5 _ _ ?_)))));have a1:=o.1 _ _ a2 mf;obtain⟨p5,q5,b7⟩:=o.2;refine(jEAA _ rfl (.inl (jAE rfl _ (SqL.of a1))) ?_);refine(xbb _ rfl _ rfl ml _ rfl (.inl (SqL.of a1)) G (xal p5 q5 _ rfl b7 (by omega) (by omega) (λr6 H6 br bq f6=>?_)));obtain⟨Y,rfl⟩:∃i:Nat,r6=(i:Int):=⟨r6.toNat,by omega⟩;have au:Y<O.length:=by omega
 have an:=f6.1 _ _ a1 mf;refine(xag ml _ (Y:Int) Y (.str O[Y]) rfl rfl an (by omega) (by omega) (jAA (xti (by rw[az];exact au)) (by rw[zGM,zGA au];rfl) ?_));have er:(O.map V.str).eraseIdx Y=(O.eraseIdx Y).map V.str:=xq1 O Y;rw[er];refine(xa3 _ rfl _ rfl (by walk_at"s") (λt ht=>?_));have st:=Same.new ht (.tup [.str (S "take"),.str O[Y],.str c5,.str y5]);have F6:Fed G H H6:=F4.trans (o.trans f6);have sb:Sb2 G ml H (upd (upd H6 ml (.lst ((O.eraseIdx Y).map V.str))) t (.tup [.str (S "take"),.str O[Y],.str c5,.str y5])):=((Sb2.of F6).upd mf _).same st
 refine q _ (.take O[Y] c5 y5) (O.eraseIdx Y) _ sb (st _ _ ups) (by rw[List.length_eraseIdx];split <;> omega) (λh=>absurd rfl (h _ _ _)) (xao t _ rfl ups _ _ rfl rfl _ (xbj _ rfl rfl _ _ rfl rfl (xaw _ _ rfl rfl rfl))) (λ_=>ag) λb vs e=>st _ _ (by
  rw[xar λz=>by rw[z,aq]at e;cases e];exact xai d.fd F6 b vs e)
structure RowsOk(ks:List Kn)(cs:List Chn)(x:Str)(bs:List (Str×Str))(rs:List Row):Prop where
 len:rs.length<=30
 ok:∀r∈rs,xe2 ks cs x bs rs.length r
 last:∃r,rs.getLast?=some r/\r.ends
theorem xlq{ks:List Kn}{cs:List Chn}{x:Str}{bs:List (Str×Str)}{n a:Nat}{r:Row}(h:xe2 ks cs x bs n r)(l:n<=a):xe2 ks cs x bs a r:=by
 cases r with
 |go g=>exact Nat.lt_of_lt_of_le h l
 |cond t g=>exact⟨h.1,Nat.lt_of_lt_of_le h.2 l⟩
 |_=>exact h
def xrl:Sp:=λvs H Q _=>∃(f nb:Addr) (kv cv bv:V) (ks:List Kn) (cs:List Chn) (bs:List (Str×Str)) (x:Str) (nms:List Str),vs=[.ref f,kv,cv,.str x,bv,.ref nb]/\DIn H f kv cv bv ks cs bs/\H nb=some (.lst (nms.map V.str))/\nms.length=26/\nb≠f/\∀rv rs H',Fed f H H'->RelD H' rv (.tup (rs.map Row.d))->RowsOk ks cs x bs rs->Q rv H'
theorem xsr{a:List Str}(h:a.length=26):cutV (a.map V.str) (some 20) (some 26)=((a.drop 20).take 6).map V.str:=by
 unfold cutV HT.sIx;rw[zLM,h,List.map_take,List.map_drop];rfl
theorem xtj{H:Hp}{us:List V}{rs:List Row}(h:RelDs H us (rs.map Row.d)){i:Nat}{v:V}(c:us[i]?=some v):∃(b:Addr) (r:Row) (zs:List V),rs[i]?=some r/\v=.ref b/\H b=some (.tup (.str r.hd::zs)):=by
 obtain⟨d,hd,rd⟩:=h.get c;rw[zGM]at hd;obtain⟨r,f,rfl⟩:=zMS hd;obtain⟨a,zs,e,g,_⟩:=xjp rd;exact(xb7 a r zs f e g)
theorem xrr{H:Hp}{us:List V}{ds:List D}{v:V}{d:D}(h:RelDs H us ds)(c:RelD H v d)(i:Nat):RelDs H (us.take i++v::us.drop i) (ds.take i++d::ds.drop i):=by
 have a:∀(i:Nat) {us:List V} {ds:List D},RelDs H us ds->RelDs H (us.take i) (ds.take i)/\RelDs H (us.drop i) (ds.drop i):=by
  intro i
  induction i with
  |zero=>intro us ds h;exact⟨rfl,h⟩
  | succ i b=>
   intro us ds h
   cases ds with
   |nil=>rw[show us=[] from h];exact⟨rfl,rfl⟩
   |cons d ds=>
    obtain⟨v,r,e,g,f⟩:=h;subst e;have:=b f;exact⟨(xaw v _ rfl g this.1),this.2⟩
 have:=a i h;exact this.1.append (xaw v _ rfl c this.2)
theorem xj7{f l:Addr}{H H1:Hp}{o:HO}(F:Fed f H H1)(hl:H l=none)(lf:l≠f):Fed f H (upd H1 l o):=by
 obtain⟨h1,p,q,h2⟩:=F;exact(jAE (λb u e n=>by rw[xar (neN e hl)];exact h1 b u e n) p ⟨q,by rw[xar (Ne.symm lf)];exact h2⟩)
theorem xpb(T:Tx K mg)(m:DefIs P w K mg base n "_law_take" qac xcl)(ab:DefIs P w K mg base n "_law_into" qap xkq)(U:DefIs P w K mg base n "_law_new_term" qai xhv)(ac:DefIs P w K mg base n "_law_deal" qaz xmq):DefIs P w K mg base (n+1) "_law_rows" qa0 xrl:=by
 refine DefIs.of T.kC scl_rows (by walk_at"l") (λf ej A outer s H vs Q E hr h=>?_);obtain⟨I,nb,kv,cv,bv,ks,cs,bs,x,d1,rfl,d,d8,cq,ed,q⟩:=h;have nd:=scl_rows.nd;have c6:=d.c6;have b5:=d.b5
 refine⟨_,(zpn (psn 6 nd (xay xb1 rfl T.kR PyProof.Rows.boot_list (pc (xcn xde (pv 5) (xcm pI) (xcm pI)) pN ss)))
   (zpn (psn 7 nd (xca pN))
   (zpn (psn 8 nd (xaj xba pI (pd m hr (va 0 (pc pI pN so)))))
   (zpn (xcg PassesOwn.never rfl (xbz rfl T.kU (pc (xaj xck (pv 8) pI) pN xaz)) (pgn 9 nd)
   (zpn (psn 10 nd (pd m hr (va 0 (pc pI pN so))))
   (zpo (xa8 (pR xez (pv 10) pI (nM _)) (zpn (psn 11 nd (pd U hr (va 0 (va 1 (pc (xay xb1 rfl T.kR PyProof.Rows.boot_list (v1 4)) (pc pS pN so) zsc)))))
   (zpo (xby (xc9 PySem.F.plainAttrs_list PySem.F.slot_list_append PySem.F.type_list_append xbw (pv 7) (pc (xak (pc pS (va 11 (pc (pd m hr (va 0 (v1 8))) pN zsc)) so)) pN sT))))) (zpo (xa8 (pR xbd (pv 10) pI (nM _)) (zpo (xby (xc9 PySem.F.plainAttrs_list PySem.F.slot_list_append PySem.F.type_list_append xbw (pv 7) (pc (pxl K (xca (pc (xak (pc pS pN so)) (pc (xak (pc pS (pc (pd m hr (va 0 (v1 8))) pN zsc) so)) pN sT) sT)) (pd m hr (va 0 (pc pI pN so)))) pN ss)))) (zpo (xby (xc9 PySem.F.plainAttrs_list PySem.F.slot_list_append PySem.F.type_list_append xbw (pv 7) (pc (pd ac hr (va 0 (va 1 (va 2 (va 3 (va 4 (v1 6))))))) pN zsc))))))))))
   (zpn (psn 12 nd (pd ab hr (va 2 (va 3 (v1 4)))))
   (zpn (xa8 (PW.pt (xcj (pR xc7 (xaq (xad (K:=K) rfl) rfl T.kQ PySem.boot_len (v1 12)) pI (nM _)) (xb8 (pR xer pS (xbo ["_law_row"] [none] rfl (by kernel_rfl) (xbn (K:=K) rfl (pv 7)) (λ_ _ _ _=>(pgc 0)) (λ_ _ _ _=>xbv) (λ_ _ _ _=>(px K (pv 0) pI))) (by with_unfolding_all rfl))))) (zpn (xc6 (pxl K (pv 12) (pd m hr (va 0 (pc (xaq (xad (K:=K) rfl) rfl T.kQ PySem.boot_len (v1 12)) pN zsc)))) (xbl (K:=K) rfl rfl (xae (pgn 13 nd) (xae (pgn 14 nd) xbh))))
   (zpo (xby (xc9 PySem.F.plainAttrs_list PySem.F.slot_list_insert PySem.F.type_list_insert xnp (pv 7) (pc (pd m hr (va 0 (pc (xaj xba (xaq (xad (K:=K) rfl) rfl T.kQ PySem.boot_len (v1 7)) pI) pN xaz))) (pc (xak (pc pS (pc (xc9 PySem.F.plainAttrs_list PySem.F.slot_list_pop PySem.F.type_list_pop xhd (pv 6) (pc pI pN so)) (va 13 (v1 14)) zsc) so)) pN sT) zsc))))) pQ)
   (zpn (xa8 (pR xc7 (pd m hr (va 0 (pc pI pN so))) pI (nM _)) (zpo (xaf (xaj (xk5 (K:=K) rfl) (xay (xbq (K:=K) rfl) rfl T.kX PyProof.Rows.boot_tuple (v1 7)) (xak (pc (xak (pc pS (pc (pd m hr (va 0 (v1 8))) pN zsc) so)) pN sT))))) pQ)
   (zpo (xaf (xaj (xk5 (K:=K) rfl) (xay (xbq (K:=K) rfl) rfl T.kX PyProof.Rows.boot_tuple (v1 7)) (xak (pc (xak (pc pS pN so)) pN sT)))))))))))),xab λR1 ds=>?_⟩
 obtain⟨p0,q0,bu⟩:=d.fd;refine(xap _ rfl _ rfl _ rfl nb _ rfl (SqL.of d8) (λc0 df=>?_));rw[xsr cq];obtain⟨a9,b8⟩:∃a9,(d1.drop 20).take 6=a9:=⟨_,rfl⟩;have da:a9.length=6:=by rw[<- b8,List.length_take,List.length_drop,cq];rfl
 rw[b8];have bg:=Same.new df (.lst (a9.map V.str));refine(xaw c0 _ rfl (.inl (SqL.of ups)) (λml b9=>ds _ _ (xab λR2 dr=>?_)));have c4:=Same.new b9 (.lst (a9.map V.str));refine⟨(by walk_at"s"),λO ah=>dr _ _ (xab λR3 dq=>?_)⟩;have c3:=Same.new ah (.lst []);have s0:=bg.trans (c4.trans c3);obtain⟨H0,b3⟩:∃H0,H0=upd (upd (upd H c0 (.lst (a9.map V.str))) ml (.lst (a9.map V.str))) O (.lst []):=⟨_,rfl⟩;have cg:H0 O=some (.lst []):=by rw[b3];exact ups
 have ci:H0 ml=some (.lst (a9.map V.str)):=by rw[b3];exact c3 _ _ ups
 rw[<- b3]at s0⊢;clear b3;have bm:H ml=none:=xav bg b9;have bj:H O=none:=xav (bg.trans c4) ah;have aa:ml≠I:=Ne.symm (neN bu bm);have a0:O≠I:=Ne.symm (neN bu bj);have bi:O≠ml:=λz=>by rw[z,ups]at ah;cases ah
 have F0:Fed I H H0:=(Fed.refl bu).same s0;obtain⟨pA,qA,de⟩:=F0.2;refine(xaa _ rfl I pA qA 10 rfl de (by decide) (by decide) (λrm H1 e3 e2 f1=>(xaw _ _ rfl rfl ?_)));obtain⟨many,bq,eg,e1⟩:∃many:Nat,1+rm=(many:Int)/\1<=many/\many<=10:=(jEAA ((1+rm).toNat) (by omega) (by omega) (by omega))
 suffices ca:R3 [some (.ref I),some kv,some cv,some (.str x),some bv,some (.ref nb),some (.ref ml),some (.ref O),some (.int (many:Int)),none,none,none,none,none,none] H1 by
  rw[<- bq]at ca;exact ca
 refine dq _ _ (xab λR4 dn=>?_);refine(xbg _ rfl _ _ rfl rfl _ rfl (jAA (by omega) (by omega) ?_))
 refine xcq (λi σ H'=>∃us,∃(rs:List Row) (ms:List Str) (o9 a2 a1:Option V),σ=[some (.ref I),some kv,some cv,some (.str x),some bv,some (.ref nb),some (.ref ml),some (.ref O),some (.int many),o9,a2,a1,none,none,none]/\Fed I H H'/\H' O=some (.lst us)/\RelDs H' us (rs.map Row.d)/\rs.length=i/\(∀r∈rs,xe2 ks cs x bs many r)/\H' ml=some (.lst (ms.map V.str))/\ms.length<=6/\((∀r∈rs,r.hd≠S "take")->ms.length=6))
  (xan ([]) ([]) a9 none none (xbx none rfl (F0.trans f1) (f1.1 _ _ cg a0) rfl rfl (jAAA (λ_ h=>nomatch h) (f1.1 _ _ ci aa) (by omega) (λ_=>da)))) ?_ ?_
 ·rintro i σ H2 hi ⟨us,rs,ms,o9,a2,a1,rfl,F2,av,an,b6,a7,b0,ai,aw⟩
  have d2:=d.keep (xai d.fd F2) F2.2;obtain⟨p2,q2,bt⟩:=F2.2;have bn:=an.length;rw[zLM]at bn
  have put:∀{H5:Hp} {u:V} {r:Row} {a5:List Str} (a2 a1:Option V),Fed I H H5->H5 O=some (.lst us)->RelDs H5 us (rs.map Row.d)->RelD H5 u r.d->xe2 ks cs x bs many r->H5 ml=some (.lst (a5.map V.str))->a5.length<=6->((∀l c y,r≠.take l c y)->a5=ms)->
    (λi σ H'=>∃us,∃(rs:List Row) (ms:List Str) (o9 a2 a1:Option V),σ=[some (.ref I),some kv,some cv,some (.str x),some bv,some (.ref nb),some (.ref ml),some (.ref O),some (.int many),o9,a2,a1,none,none,none]/\Fed I H H'/\H' O=some (.lst us)/\RelDs H' us (rs.map Row.d)/\rs.length=i/\(∀r∈rs,xe2 ks cs x bs many r)/\H' ml=some (.lst (ms.map V.str))/\ms.length<=6/\((∀r∈rs,r.hd≠S "take")->ms.length=6)) (i+1) [some (.ref I),some kv,some cv,some (.str x),some bv,some (.ref nb),some (.ref ml),some (.ref O),some (.int many),some (.int (0+(i:Int))),a2,a1,none,none,none] (upd H5 O (.lst (us++[u]))):=λ{H5 u r a5} a2 a1 F5 C a6 hu au ay db bp=>by
   have tp:∀b vs,H5 b=some (.tup vs)->upd H5 O (.lst (us++[u])) b=some (.tup vs):=λb vs e=>by
    rw[xar λz=>by rw[z,C]at e;cases e];exact e
   refine(xan (us++[u]) (rs++[r]) a5 _ a2 (xbx a1 rfl (xj7 F5 bj a0) ups ?_ (by rw[zLA,List.length_singleton,b6]) (jAAA (λr' a4=>?_) (by rw[xar (Ne.symm bi)];exact ay) db (λhT=>?_))))
   ·rw[zAP]
    exact(a6.tups tp _).append (xaw u ([]) rfl (hu.tups tp _) rfl)
   ·rcases zMA a4 with h |h
    ·exact a7 r' h
    ·rw[zMO h];exact au
   ·rw[bp λl c y e=>hT r (by simp) (by rw[e];rfl)]
    exact aw λr' a4=>hT r' (List.mem_append_left _ a4)
  refine xab λS1 bw=>?_;refine(xaa _ rfl I p2 q2 16 rfl bt (by decide) (by decide) (λfm H3 ei eh f3=>bw _ _ ?_));have F3:=F2.trans f3;have d3:=d2.fed f3;have cy:=xai d2.fd f3;have G:=f3.1 _ _ av a0;have a8:=f3.1 _ _ b0 aa;have M:=an.tups cy _;obtain⟨p3,q3,b2⟩:=F3.2;obtain⟨ba,ub,dw,dg,dj⟩:=id d3.bd;refine(xbg _ rfl _ _ rfl rfl _ rfl (ite2 (λc1=>?_) (λc1=>?_)))
  ·
   refine xab λS2 di=>?_;refine(xap _ rfl _ rfl _ rfl ba ub (congrArg (λv=>[v]) dw) (.inr (SqT.of dg)) (λbl bf=>?_));have sb:=Same.new bf (.lst ub);refine(xan I kv (.ref bl) ks bs (xbt (S "num") rfl (d3.tin bf dj) (.inl rfl) (λta td H4 f4 rd tb=>di _ _ ?_)));have ak:Fed I H3 H4:=((Fed.refl b2).same sb).trans f4;have bz:=xai d3.fd ak;have Y:=ak.1 _ _ G a0;obtain⟨p4,q4,af⟩:=f4.2;refine(jEAA _ rfl (.inl (jAE rfl _ (SqL.of Y))) ?_);refine(xbp _ rfl _ rfl _ rfl I p4 (xcp q4 many rfl af (by omega) (by omega) (λg H5 g0 g1 f5=>⟨(by walk_at"s"),λt ht=>?_⟩)));obtain⟨gn,rfl⟩:∃i:Nat,g=(i:Int):=⟨g.toNat,by omega⟩;have st:=Same.new ht (.tup [.str (S "if"),.ref ta,.int gn]);have Z:=(ak.trans f5).same st;have aj:=xai d3.fd Z;have C:=Z.1 _ _ G a0;refine(xal O us _ rfl rfl C (xa5 (by omega)) ?_);exact put (r:=.cond td gn) _ _ (F3.trans Z) C (M.tups aj _) (xao t _ rfl ups _ _ rfl rfl _ (xbj _ rfl ((rd.tups (xai (jEE p4 q4 af) f5) _).same st _) _ _ rfl rfl rfl)) ⟨tb.1,by omega⟩ (Z.1 _ _ a8 aa) ai λ_=>rfl
  ·refine(xa4 _ rfl rfl _ rfl (ite2 (λc2=>?_) (λc2=>?_)))
   ·
    refine(jEAA _ rfl (.inl (jAE rfl _ (SqL.of G))) ?_);refine⟨(by walk_at"s"),λt1 ar=>?_⟩;have s1:=Same.new ar (.tup [.str (S "end")]);refine(xam _ rfl _ rfl I p3 q3 (xbi many rfl (s1 _ _ b2) (by omega) (by omega) (λg H4 g0 g1 f4=>⟨(by walk_at"s"),λt2 aq=>⟨(by walk_at"s"),λll cl=>?_⟩⟩)));obtain⟨gn,rfl⟩:∃i:Nat,g=(i:Int):=⟨g.toNat,by omega⟩;have s2:=Same.new aq (.tup [.str (S "go"),.int gn]);have s3:=Same.new cl (.lst [.ref t1,.ref t2]);have ak:Fed I H3 _:=(((Fed.refl b2).same s1).trans f4).same (s2.trans s3);obtain⟨p5,q5,ae⟩:=ak.2
    have d4:ll≠I:=by
     obtain⟨p6,q6,h6⟩:=f4.2;exact Ne.symm (neN (s2 _ _ h6) cl)
    refine(xaa _ rfl I p5 q5 2 rfl ae (by decide) (by decide) (λr2 H5 ec ea f5=>?_));have Z:=ak.trans f5;have C:=Z.1 _ _ G a0;have ce:H4 t1=some (.tup [.str (S "end")]):=xai (jEE p3 q3 (s1 _ _ b2)) f4 _ _ ups;have bx:=xai (jEE p5 q5 ae) f5;have du:=bx _ _ ((s2.trans s3) _ _ ce);have dt:=bx _ _ (s3 _ _ ups);have bb:=f5.1 _ _ ups d4;have cz:r2=0\/r2=1:=by omega
    rcases cz with rfl |rfl
    ·refine(xbm ll _ _ (.ref t1) rfl rfl (SqL.of bb) rfl O (xcp us _ rfl rfl C (xa5 (by omega)) ?_))
     exact put (r:=.fin) _ _ (F3.trans Z) C (M.tups (xai d3.fd Z) _) (xaw t1 _ rfl du (xaw _ _ rfl rfl rfl)) trivial (Z.1 _ _ a8 aa) ai λ_=>rfl
    ·refine(xbm ll _ _ (.ref t2) rfl rfl (SqL.of bb) rfl O (xcp us _ rfl rfl C (xa5 (by omega)) ?_))
     exact put (r:=.go gn) _ _ (F3.trans Z) C (M.tups (xai d3.fd Z) _) (xao t2 _ rfl dt _ _ rfl rfl _ (jEAA _ rfl rfl rfl)) (by show gn<many;omega) (Z.1 _ _ a8 aa) ai λ_=>rfl
   ·
    refine(jEAA _ rfl (.inl (jAE rfl _ (SqL.of G))) ?_);refine(xax _ rfl _ rfl _ rfl _ rfl _ rfl (xa7 _ rfl I ml kv cv (xan bv ks cs bs x (xbx ms rfl d3 a8 aa (by omega) (λu r a5 H4 bh az e0 bp hu au bz=>?_)))));have Y:=bh.1 _ _ G a0 bi;have F4:Fed I H H4:=⟨λb o e c9=>bh.1 b o (F3.1 b o e c9) c9 (neN e bm),bh.2⟩;refine(xal O us _ rfl rfl Y (xa5 (by omega)) ?_);exact put (r:=r) _ _ F4 Y (M.tups bz _) hu (au many) az (by omega) bp
 rintro σ H2 ⟨us,rs,ms,o9,a2,a1,rfl,F2,av,an,b6,a7,b0,ai,aw⟩;have dx:rs.length<=9:=by omega
 have d2:=d.keep (xai d.fd F2) F2.2;refine dn _ _ (xab λR5 dm=>?_);refine(xbp _ rfl _ rfl _ rfl cv bv (xal cs x bs rfl d2.cd c6 d2.bd ⟨b5,λil ws H3 s3 dd ck cp ee=>dm _ _ (xab λR6 dl=>?_)⟩));have F3:Fed I H H3:=F2.same s3;have G:=s3 _ _ av;have a8:=s3 _ _ b0;have M:=an.same s3 _;obtain⟨p2,q2,bt⟩:=F2.2;have d5:il≠I:=Ne.symm (neN bt dd);have bn:=an.length;rw[zLM]at bn
 have am:∀(c8 c7:Option V) (H4:Hp) (us:List V) (rs:List Row),Fed I H H4->H4 O=some (.lst us)->RelDs H4 us (rs.map Row.d)->rs.length<=10->many<=rs.length+1->(∀r∈rs,xe2 ks cs x bs many r)->R6 [some (.ref I),some kv,some cv,some (.str x),some bv,some (.ref nb),some (.ref ml),some (.ref O),some (.int many),o9,a2,a1,some (.ref il),c8,c7] H4:=λc8 c7 H4 us rs F4 Y ag dy ef au=>by
  refine dl _ _ (xab λR7 dk=>?_);obtain⟨p4,q4,af⟩:=F4.2;have cc:=ag.length;rw[zLM]at cc;refine(xaa _ rfl I p4 q4 4 rfl af (by decide) (by decide) (λr4 H5 e9 e8 f5=>(xaw _ _ rfl rfl (jEA _ rfl ?_))));have aj:=xai (jEE p4 q4 af) f5;have F5:=F4.trans f5;have C:=f5.1 _ _ Y a0;have a6:=ag.tups aj _
  have fin:∀{H6 H7:Hp} {tr tl:Addr} {v:V} {r:Row},Fed I H H6->Same H6 H7->H6 tr=some (.tup us)->RelDs H6 us (rs.map Row.d)->RelD H6 v r.d->r.ends->xe2 ks cs x bs (rs.length+1) r->H7 tl=some (.tup (us++[v]))->Q (.ref tl) H7:=λ{H6 H7 tr tl v r} F6 s7 _ J hv he cf ao=>by
   refine q (.ref tl) (rs++[r]) H7 (F6.same s7) (xaw tl _ rfl ao ?_) ⟨by rw[zLA,List.length_singleton];omega,λr' a4=>?_,(jEA r (by simp) he)⟩
   ·rw[zAP]
    exact(J.same s7 _).append (xaw v ([]) rfl (hv.same s7 _) rfl)
   ·rw[zLA,List.length_singleton]
    rcases zMA a4 with h |h
    ·exact xlq (au r' h) (by omega)
    ·rw[zMO h];exact cf
  refine ite2 (λc1=>?_) (λc1=>?_)
  ·refine(jEA _ rfl (jEEA O us rfl (.inl ⟨SqL.of C,λtr bo=>?_⟩)))
   have sr:=Same.new bo (.tup us);obtain⟨p5,q5,ae⟩:=f5.2;refine(xam _ rfl _ rfl I p5 q5 (xbi many rfl (sr _ _ ae) (by omega) (by omega) (λg H6 g0 g1 f6=>⟨(by walk_at"s"),λt1 ar=>⟨(by walk_at"s"),λt2 aq=>?_⟩⟩)));obtain⟨gn,rfl⟩:∃i:Nat,g=(i:Int):=⟨g.toNat,by omega⟩;have s1:=Same.new ar (.tup [.str (S "go"),.int gn]);have s2:=Same.new aq (.tup [.ref t1]);have b1:=xai (jEE p5 q5 (sr _ _ ae)) f6;have F6:Fed I H _:=((F5.same sr).trans f6).same (s1.trans s2);have a3:=(s1.trans s2) _ _ (b1 _ _ ups);have J:=((a6.same sr _).tups b1 _).same (s1.trans s2) _;have hv:RelD (upd (upd H6 t1 (.tup [.str (S "go"),.int gn])) t2 (.tup [.ref t1])) (.ref t1) (Row.go gn).d:=(xao t1 _ rfl (s2 _ _ ups) _ _ rfl rfl _ (jEAA _ rfl rfl rfl));refine(xas tr t2 _ _ rfl rfl (SqT.of a3) (SqT.of ups) (fits (by rw[List.length_singleton];omega)) (jAA (λe=>?_) (λ_ e=>nomatch e) (λ_ _ tl ao=>?_)))
   ·exact fin F6 (Same.refl _) a3 J hv trivial (by show gn<_;omega) (by rw[ups,e];rfl)
   ·have s7:=Same.new ao (.tup (us++[.ref t1]))
    exact fin F6 s7 a3 J hv trivial (by show gn<_;omega) ups
  ·refine dk _ _ ?_
   refine(jEA _ rfl (jEEA O us rfl (.inl ⟨SqL.of C,λtr bo=>?_⟩)));have sr:=Same.new bo (.tup us);refine⟨(by walk_at"s"),λt1 ar=>⟨(by walk_at"s"),λt2 aq=>?_⟩⟩;have s1:=Same.new ar (.tup [.str (S "end")]);have s2:=Same.new aq (.tup [.ref t1]);have sA:=sr.trans (s1.trans s2);have F6:Fed I H _:=F5.same sA;have a3:=(s1.trans s2) _ _ (show upd H5 tr (.tup us) tr=some (.tup us) from ups);have J:=a6.same sA _;have hv:RelD (upd (upd (upd H5 tr (.tup us)) t1 (.tup [.str (S "end")])) t2 (.tup [.ref t1])) (.ref t1) Row.fin.d:=(xaw t1 _ rfl (s2 _ _ ups) (xaw _ _ rfl rfl rfl));refine(xas tr t2 _ _ rfl rfl (SqT.of a3) (SqT.of ups) (fits (by rw[List.length_singleton];omega)) (jAA (λe=>?_) (λ_ e=>nomatch e) (λ_ _ tl ao=>?_)))
   ·exact fin F6 (Same.refl _) a3 J hv trivial trivial (by rw[ups,e];rfl)
   ·have s7:=Same.new ao (.tup (us++[.ref t1]))
    exact fin F6 s7 a3 J hv trivial trivial ups
 have plain:R6 [some (.ref I),some kv,some cv,some (.str x),some bv,some (.ref nb),some (.ref ml),some (.ref O),some (.int many),o9,a2,a1,some (.ref il),none,none] H3:=am none none H3 us rs F3 G M (by omega) (by omega) a7;refine(xbf _ rfl il _ rfl (.inl (SqL.of ck)) _ _ rfl rfl (jEA _ rfl (ite2 (λc1=>?_) (λc1=>iteF plain))));have dz:=of_decide_eq_true c1;refine(xa3 _ rfl O rfl ⟨_,SqL.of G⟩ ?_);refine xdc (xs:=us) (λi ys H'=>H'=H3/\ys=((rs.take i).map Row.hd).map V.str) ⟨rfl,rfl⟩ (xa5 (by omega)) (λi ys H' _ p=>by obtain⟨rfl,_⟩:=p;exact SqL.of G) ?_ ?_
 ·rintro i y ys H' hy hi cj ⟨rfl,rfl⟩
  obtain⟨b,r,zs,a4,rfl,hb⟩:=xtj M hy;refine⟨ext1 rfl,xdh ?_⟩;refine(xaa _ rfl b _ _ _ rfl rfl (SqT.of hb) (xa0 (j:=0) rfl) (nxtG hi cj ⟨rfl,?_⟩));rw[zTA,a4,zAP,zAP];rfl
 rintro ys H' cj ⟨rfl,rfl⟩ D hD;rw[zTL (by omega)];have sD:=Same.new hD (.lst ((rs.map Row.hd).map V.str));refine(xcp D _ rfl (.inl (SqL.of ups)) rfl (xix _) (jEA _ rfl (ite2 (λc2=>?_) (λc2=>?_))))
 ·have d0:∀r∈rs,r.hd≠S "take":=λr a4 e=>by
   have dc:inV (.str (Str.ofString "take")) ((rs.map Row.hd).map V.str)=true:=by
    unfold inV;refine List.any_eq_true.mpr (jEA (.str r.hd) (List.mem_map_of_mem (List.mem_map_of_mem a4)) ?_);rw[e];decide +kernel
   have cr:(!inV (.str (Str.ofString "take")) ((rs.map Row.hd).map V.str))=true:=c2;rw[dc]at cr;cases cr
  have d9:=aw d0;have F4:=F3.same sD;have Y:=sD _ _ G;have az:=sD _ _ a8;have be:=sD _ _ ck;have ag:=M.same sD _;obtain⟨p4,q4,af⟩:=F4.2;refine xab λS1 bw=>?_;refine(xap _ rfl _ rfl _ rfl il _ rfl (.inl (SqL.of be)) (xah I p4 q4 _ rfl af (by omega) (by omega) (λr5 H5 e7 e6 f5=>?_)));obtain⟨i5,rfl⟩:∃i:Nat,r5=(i:Int):=⟨r5.toNat,by omega⟩;have co:i5<ws.length:=by omega
  have aj:=xai (jEE p4 q4 af) f5;obtain⟨cu,c5,y5,eb,dh,br⟩:=cp _ (List.getElem_mem co);refine(xbm il _ _ (.ref cu) rfl rfl (SqL.of (f5.1 _ _ be d5)) (xa0 (by rw[zGA co,eb])) cu (xbt _ rfl (SqT.of (aj _ _ (sD _ _ dh))) rfl (jEEA _ _ rfl (xaw _ _ rfl rfl (bw _ _ ?_)))));have C:=f5.1 _ _ Y a0;have ay:=f5.1 _ _ az aa;have a6:=ag.tups aj _;obtain⟨p5,q5,ae⟩:=f5.2;refine(jEAA _ rfl (.inl (jAE rfl _ (SqL.of C))) ?_);refine(xbb _ rfl _ rfl O _ rfl (.inl (SqL.of C)) _ (jEAA _ rfl rfl (xah I p5 q5 _ rfl ae (by omega) (by omega) (λr6 H6 e5 e4 f6=>?_))));obtain⟨i6,rfl⟩:∃i:Nat,r6=(i:Int):=⟨r6.toNat,by omega⟩;have b1:=xai (jEE p5 q5 ae) f6;have ch:=f6.1 _ _ C a0;have ax:=f6.1 _ _ ay aa;have J:=a6.tups b1 _
  obtain⟨m0,a5,dv⟩:∃m0 a5,ms=m0::a5:=by
   cases ms with
   |nil=>cases d9
   |cons a l=>exact(jEE a l rfl)
  subst dv;refine(jEAA _ rfl (.inl (jAE rfl _ (SqL.of ax))) (xag ml _ 0 0 (.str m0) rfl rfl ax (by decide) (by decide) (jAA (xti (k:=0) (by simp)) rfl ?_)));refine(xa3 _ rfl _ rfl (by walk_at"s") (λt ht=>?_));have F6:Fed I H H6:=F4.trans (f5.trans f6);obtain⟨H7,al⟩:∃H7,H7=upd (upd H6 ml (.lst ((m0::a5).map V.str |>.eraseIdx 0))) t (.tup [.str (Str.ofString "take"),.str m0,.str c5,.str y5]):=⟨_,rfl⟩;have F7:Fed I H H7:=by rw[al];exact(xj7 F6 bm aa).same (Same.new ht _)
  have b7:H7 O=some (.lst us):=by
   rw[al];exact Same.new ht _ _ _ (by rw[xar bi];exact ch)
  have cx:∀b vs,H6 b=some (.tup vs)->H7 b=some (.tup vs):=λb vs e=>by
   rw[al];exact Same.new ht _ _ _ (by rw[xar λz=>by rw[z,ax]at e;cases e];exact e)
  have d6:H7 t=some (.tup [.str (Str.ofString "take"),.str m0,.str c5,.str y5]):=by rw[al];exact ups
  have b4:=J.tups cx _;have cb:=b4.length;rw[zLM]at cb;refine(xas O us i6 (.ref t) rfl rfl (by rw[<- al];exact b7) (by omega) (by omega) ?_);rw[<- al]
  have cw:∀b vs,H7 b=some (.tup vs)->upd H7 O (.lst (us.take i6++.ref t::us.drop i6)) b=some (.tup vs):=λb vs e=>by
   rw[xar λz=>by rw[z,b7]at e;cases e];exact e
  have d7:RelD H7 (.ref t) (Row.take m0 c5 y5).d:=(xao t _ rfl d6 _ _ rfl rfl _ (xbj _ rfl rfl _ _ rfl rfl (xaw _ _ rfl rfl rfl)));have bc:=(xrr b4 d7 i6).tups cw _
  have em:(rs.map Row.d).take i6++(Row.take m0 c5 y5).d::(rs.map Row.d).drop i6=(rs.take i6++Row.take m0 c5 y5::rs.drop i6).map Row.d:=by
   rw[zAP,List.map_cons,List.map_take,List.map_drop]
  rw[em]at bc
  have cm:(rs.take i6++Row.take m0 c5 y5::rs.drop i6).length=rs.length+1:=by
   rw[zLA,List.length_cons,List.length_take,List.length_drop];omega
  refine am _ _ _ _ _ (xj7 F7 bj a0) ups bc (by rw[cm];omega) (by rw[cm];omega) λr a4=>?_;rcases zMA a4 with h |h
  ·exact a7 r (List.mem_of_mem_take h)
  ·rcases zMC h with h |h
   ·rw[h];exact br
   ·exact a7 r (List.mem_of_mem_drop h)
 ·exact am none none _ us rs (F3.same sD) (sD _ _ G) (M.same sD _) (by omega) (by omega) a7
structure NIn(H:Hp)(nb:Addr)(nms:List Str):Prop where
 nl:H nb=some (.lst (nms.map V.str))
 ok:xhk nms
 nby:∀z∈nms,NoBy z
theorem NIn.same{H c:Hp}{b:Addr}{a:List Str}(g:NIn H b a)(s:Same H c):NIn c b a:=⟨s _ _ g.nl,g.ok,g.nby⟩
theorem NIn.name{H:Hp}{b:Addr}{a:List Str}(g:NIn H b a){i:Nat}(h:i<26):∃z,a[i]?=some z/\atI (a.map V.str) (i:Int)=some (.str z):=by
 have c:=g.ok.1;exact(jEA (a[i]'(by omega)) (zGA _) (xa0 (by rw[zGM,zGA (by omega)];rfl)))
def xjk(K:Fg):Sp:=λvs H Q _=>∃(a nb:Addr) (ns:List Int) (at_ many:Nat) (kv cv:V) (ks:List Kn) (cs:List Chn) (nms:List Str),vs=[.ref a,.int at_,kv,cv,.int many,.ref nb]/\SqL K H a (ns.map V.int)/\ns.length<=63/\NIn H nb nms/\RelD H kv (xdk ks)/\KWf ks/\PNB ks/\RelD H cv (.tup (cs.map dChn))/\ChsOk ks nms many cs/\1<=many/\many<=4 ∧
 ∀v mk H',Same H H'->RelD H' v mk.d->MakOk mk->mk.hands.map Hand.name=nms.take many->mk.chans=cs->Q v H'
def xmk(K:Fg):Sp:=λvs H Q _=>∃(a nb:Addr) (ns:List Int) (at_:Nat) (nms:List Str),vs=[.ref a,.int at_,.ref nb]/\SqL K H a (ns.map V.int)/\ns.length<=63/\NIn H nb nms ∧
 ∀v mk H',Same H H'->RelD H' v mk.d->MakOk mk->mk.hands≠[]->Q v H'
theorem xsm{ks:List Kn}{cs:List Chn}{a:List Str}{bs:List (Str×Str)}{rs:List Row}{x:Str}(b:BsOk ks a bs)(r:RowsOk ks cs x bs rs):HandOk ks cs ⟨x,bs,rs⟩:=⟨b.nd,b.len,b.kin,r.len,r.ok,r.last⟩
theorem xne(T:Tx K mg)(p:DefIs P w K mg base n "_law_feed" qal (xhw K))(j:DefIs P w K mg base n "_law_boxes" qbc xtd)(m:DefIs P w K mg base n "_law_rows" qa0 xrl):DefIs P w K mg base (n+1) "_law_hands" qa2 (xjk K):=by
 refine DefIs.of T.kE scl_hands (by walk_at"l") (λf ar A outer s H vs Q E hr h=>?_);obtain⟨a,O,ns,ao,many,kv,cv,ks,cs,x,rfl,hS,al,g,hk,wf,pb,hc,u,h1,h4,q⟩:=h;have nd:=scl_hands.nd;have am:=g.ok.1
 refine⟨_,(zpn (psn 6 nd (xca pN))
   (zpn (xcg PassesOwn.never rfl (xbz rfl T.kU (v1 4)) (pgn 7 nd)
   (zpn (psn 8 nd (pd p hr (va 0 (pc (xaj xba (pv 1) (pv 7)) pN xaz))))
   (zpn (psn 9 nd (pd j hr (va 8 (va 2 (va 3 (pc (pxl K (pv 5) (pv 7)) (v1 5) ss))))))
   (zpo (xby (xc9 PySem.F.plainAttrs_list PySem.F.slot_list_append PySem.F.type_list_append xbw (pv 6) (pc (xak (pc (pxl K (pv 5) (pv 7)) (va 9 (pc (pd m hr (va 8 (va 2 (va 3 (pc (pxl K (pv 5) (pv 7)) (va 9 (v1 5)) ss))))) pN zsc)) ss)) pN sT)))))))
   (zpo (xaf (xak (va 2 (va 3 (pc (xay (xbq (K:=K) rfl) rfl T.kX PyProof.Rows.boot_tuple (v1 6)) pN zsc)))))))),xab λR1 ak=>?_⟩
 refine⟨(by walk_at"s"),λl hl=>ak _ _ (xab λR2 aj=>?_)⟩;have s0:=Same.new hl (.lst []);refine(xa3 _ rfl _ rfl (by omega) ⟨by omega,?_⟩)
 refine xcq (λi σ H'=>∃us,∃(hs:List Hand) (o7 o8 o9:Option V),σ=[some (.ref a),some (.int ao),some kv,some cv,some (.int many),some (.ref O),some (.ref l),o7,o8,o9]/\Same H H'/\H' l=some (.lst us)/\RelDs H' us (hs.map Hand.d)/\hs.length=i/\hs.map Hand.name=x.take i/\∀h∈hs,HandOk ks cs h)
  (xag ([]) ([]) none none none rfl s0 ups rfl rfl ⟨rfl,λ_ h=>nomatch h⟩) ?_ ?_
 ·rintro i σ H1 hi ⟨us,hs,o7,o8,o9,rfl,s1,J,I,a6,M,Y⟩
  have aq:i<4:=by omega
  have e0:(0+(i:Int))=(i:Int):=by omega
  have aa:=I.length;rw[zLM]at aa;refine xab λS1 ai=>?_;refine(xap _ rfl _ rfl _ rfl _ _ rfl rfl (xal a ns _ rfl (s1.seq hS) al (by omega) (λr p1 q1 nr=>ai _ _ (xab λS2 ah=>?_))));have sr:=Same.new nr (.lst [.int p1,.int q1]);obtain⟨H2,a0⟩:∃H2,H2=upd H1 r (.lst [.int p1,.int q1]):=⟨_,rfl⟩;have af:H2 r=some (.lst [.int p1,.int q1]):=by rw[a0];exact ups
  rw[<- a0]at sr⊢;clear a0;have G:=s1.trans sr;have g2:=g.same G;have a3:O≠r:=neN (g.same s1).nl nr;have lr:l≠r:=neN J nr;obtain⟨z,hz,az⟩:=g2.name (i:=i) (by omega);have a1:atI (x.map V.str) (0+(i:Int))=some (.str z):=by rw[e0];exact az
  have G2:GIn H2 r O kv ks x:=⟨(jEE p1 q1 af),g2.nl,g.ok,a3,g.nby,hk.same G _,wf,pb⟩;refine(xax _ rfl _ rfl _ rfl _ rfl _ rfl (xbm O _ _ _ rfl rfl (SqL.of g2.nl) a1 _ (jAE rfl r (xan O kv cv ks x (xa6 cs z rfl G2 (hc.same G _) u.len u.kin (λbv bs H3 f3 a7 y=>ah _ _ ?_))))));have G3:=G2.fed f3;have a8:=xai G2.fd f3;have a5:=f3.1 _ _ (sr _ _ J) lr;have d3:DIn H3 r kv cv bv ks cs bs:=⟨G3.fd,G3.kd,wf,pb,(hc.same G _).tups a8 _,u.len,λc Z=>(u.kin c Z).mono wf.few,a7,y.len,y.nd,λb hb=>g.nby _ (y.nm b hb),y.kin⟩;refine(jEAA _ rfl (.inl (jAE rfl _ (SqL.of a5))) ?_);refine(xam _ rfl _ rfl O _ _ (xbi _ rfl rfl (SqL.of G3.nl) a1 (jEA _ rfl ?_)));refine(xax _ rfl _ rfl _ rfl _ rfl _ rfl (xbm O _ _ _ rfl rfl (SqL.of G3.nl) a1 _ (jAEA rfl _ rfl (xan r O kv cv bv (xag ks cs bs z x rfl d3 G3.nl am a3 (λrv rs H4 f4 ac ae=>⟨(by walk_at"s"),λt ht=>?_⟩))))));have st:=Same.new ht (.tup [.str z,bv,rv]);have an:=f3.trans f4;have a4:=f4.1 _ _ a5 lr;have a9:Same H1 H4:=Fed.back nr sr an;refine(xal l us _ rfl rfl (st _ _ a4) (xa5 (by omega)) ?_);have a2:=a9.trans st
  have C:∀b vs,upd H4 t (.tup [.str z,bv,rv]) b=some (.tup vs)->upd (upd H4 t (.tup [.str z,bv,rv])) l (.lst (us++[.ref t])) b=some (.tup vs):=λb vs e=>by
   rw[xar λz=>by rw[z,st _ _ a4]at e;cases e];exact e
  refine(xag (us++[.ref t]) (hs++[⟨z,bs,rs⟩]) _ _ _ rfl (λb o e=>?_) ups ?_ (by rw[zLA,List.length_singleton,a6]) ⟨?_,λh hh=>?_⟩)
  ·rw[xar (neN e hl)]
   exact a2 _ _ (s1 _ _ e)
  ·rw[zAP]
   refine((I.same a2 _).tups C _).append (xaw (.ref t) ([]) rfl ?_ rfl);exact(xao t _ rfl (C _ _ ups) _ _ rfl rfl _ (xbj _ rfl (((a7.tups (xai G3.fd f4) _).same st _).tups C _) _ _ rfl ((ac.same st _).tups C _) rfl))
  ·rw[zAP,M,zTA,hz]
   rfl
  ·rcases zMA hh with h' | h'
   ·exact Y h h'
   ·rw[zMO h']
    exact xsm y ae
 ·rintro σ H1 ⟨us,hs,o7,o8,o9,rfl,s1,J,I,a6,M,Y⟩
  refine aj _ _ ?_;refine(xbp _ rfl _ rfl _ rfl l us ⟨rfl,.inl ⟨SqL.of J,λt ht=>⟨(by walk_at"s"),λt2 ab=>?_⟩⟩⟩);have st:=Same.new ht (.tup us);have U:=Same.new ab (.tup [kv,cv,.ref t]);have sA:=s1.trans (st.trans U)
  have ag:(cs.map (·.1)).Nodup:=by
   rw[u.nm];exact(g.ok.2.1.sublist (List.drop_sublist _ _)).sublist (List.take_sublist _ _)
  refine q _ ⟨ks,cs,hs⟩ _ sA (xao t2 _ rfl ups _ _ rfl (hk.same sA _) _ (xbj _ rfl (hc.same sA _) _ _ rfl (xaw t us rfl (U _ _ ups) (I.same (st.trans U) _)) rfl)) ⟨wf,ag,u.len,λc Z=>(u.kin c Z).mono wf.few,?_,by show hs.length<=4;omega,Y⟩ ?_ rfl
  ·show(hs.map Hand.name).Nodup
   rw[M];exact g.ok.2.1.sublist (List.take_sublist _ _)
  ·exact M
theorem xpc(T:Tx K U)(b:DefIs P w K U base n "_law_feed" qal (xhw K))(m:DefIs P w K U base n "_law_take" qac xcl)(i:DefIs P w K U base n "_law_kinds" qa9 xml)(c:DefIs P w K U base n "_law_channels" qbb xqi)(l:DefIs P w K U base n "_law_hands" qa2 (xjk K)):DefIs P w K U base (n+1) "_law_make" qa1 (xmk K):=by
 refine DefIs.of T.kD scl_make (by walk_at"l") (λf ak A outer s H vs Q E Y h=>?_);obtain⟨a,y,ns,o,u,rfl,hS,M,g,q⟩:=h;have nd:=scl_make.nd
 refine⟨_,(zpn (psn 3 nd (pd i Y (pc (pd b Y (va 0 (v1 1))) (v1 2) zsc)))
   (zpn (psn 4 nd (pd b Y (va 0 (pc (xaj xba (pv 1) pI) pN xaz))))
   (zpn (psn 5 nd (xaj xba pI (pd m Y (va 4 (pc pI pN so)))))
   (zpo (xaf (pd l Y (va 0 (pc (xaj xba (pv 1) pI) (va 3 (pc (pd c Y (va 4 (va 3 (va 2 (v1 5))))) (va 5 (v1 2)) zsc)) xaz)))))))),xab λR1 af=>?_⟩
 refine(xb5 _ rfl _ rfl a ns o rfl hS M ⟨by omega,λr p1 q1 nr=>?_⟩);have sr:=Same.new nr (.lst [.int p1,.int q1]);have g1:=g.same sr;have a7:y≠r:=neN g.nl nr;refine(xa7 _ rfl r y p1 q1 (xbx u rfl ups g1.nl g.ok a7 (λkv ks H1 f1 a3 aa ag=>af _ _ (xab λR2 ae=>?_))));have O:Same H H1:=Fed.back nr sr f1;obtain⟨wf,h4,aj,a9⟩:=aa
 have pb:PNB ks:=λk hk p hp j=>by
  have hm:p.1∈u:=by
   have h9:=(a9 k hk).2;have a6:p.1∈k.parts.map (·.1):=List.mem_map_of_mem hp;rw[h9]at a6;exact List.mem_of_mem_drop (List.mem_of_mem_take (List.mem_of_mem_take a6))
  exact g.nby _ hm j
 refine(xbb _ rfl _ rfl _ _ rfl rfl a (xcp ns _ rfl (O.seq hS) M (by omega) (λr2 p2 q2 x=>ae _ _ (xab λR3 ac=>?_))));have G:=Same.new x (.lst [.int p2,.int q2]);have g2:=(g.same O).same G;have a0:y≠r2:=neN (g.same O).nl x;refine(xaa _ rfl r2 p2 q2 4 rfl ups (by decide) (by decide) (λhm H3 ai ah f3=>(xaw _ _ rfl rfl ?_)));obtain⟨many,J,C,z⟩:∃many:Nat,1+hm=(many:Int)/\1<=many/\many<=4:=(jEAA ((1+hm).toNat) (by omega) (by omega) (by omega))
 suffices a1:R3 [some (.ref a),some (.int o),some (.ref y),some kv,some (.ref r2),some (.int (many:Int))] H3 by
  rw[<- J]at a1;exact a1
 refine ac _ _ ?_;have I:Same H1 H3:=Fed.back x G f3;have g3:=(g.same O).same I;have s3:=O.trans I;have a8:=f3.2;have G3:GIn H3 r2 y kv ks u:=⟨a8,g3.nl,g.ok,a0,g.nby,a3.same I _,wf,pb⟩;refine(xbb _ rfl _ rfl _ _ rfl rfl _ (jAEA rfl _ rfl (xbp _ rfl _ rfl _ rfl r2 y (xah kv ks u many rfl G3 C z (λcv cs H4 f4 ab a5=>?_)))));have Z:Same H1 H4:=Fed.back x G (f3.trans f4);have s4:=O.trans Z;refine(xam _ rfl _ rfl a y ns (xan (o+2) many kv cv ks (xa6 cs u ?_ (s4.seq hS) M (g.same s4) (a3.same Z _) (jAAA wf pb ab (jAAA a5 C z (λv mk H5 s5 hv a2 a4 _=>q v mk H5 (s4.trans s5) hv a2 λe=>?_))))))
 ·show[V.ref a,V.int ((o:Int)+2),kv,cv,V.int many,V.ref y]=_
  rw[show((o:Int)+2)=((o+2:Nat):Int) by omega]
 ·rw[e]at a4
  have:=congrArg List.length a4;rw[List.length_take,g.ok.1]at this;simp at this;omega
def xdl:Sp:=λvs H Q _=>∃(mv:V) (mk:Mak),vs=[mv]/\RelD H mv mk.d/\mk.hands.length<=4/\∀l,H l=none->Q (.ref l) (upd H l (.lst ((hn mk).map V.str)))
def xhs(K:Fg):Sp:=λvs H Q _=>∃(a:Addr) (ns:List Int) (at_:Nat) (mv:V) (mk:Mak),vs=[.ref a,.int at_,mv]/\SqL K H a (ns.map V.int)/\ns.length<=63/\RelD H mv mk.d/\mk.hands.length<=4/\mk.hands≠[]/\at_<=100 ∧
 ∀l (ws:List Str) H',Same H H'->H l=none->H' l=some (.lst (ws.map V.str))->(∀z∈ws,z∈hn mk)->ws.length<=315->Q (.ref l) H'
def HSeen(H:Hp)(mk:Mak)(s:HSt)(u:V)(hd:Hand):Prop:=∃b sa p lt ut,u=.ref b/\H b=some (.tup [.str hd.name,.ref sa,.ref lt,.int (s.ct hd.name:Nat)])/\StAt H sa p (s.sd hd.name).1 (s.sd hd.name).2/\H lt=some (.lst ut)/\RelDs H ut (s.tl hd.name)
def CSeen(H:Hp)(s:HSt)(u:V)(c:Chn):Prop:=∃b lt ut,u=.ref b/\H b=some (.tup [.str c.1,.ref lt])/\H lt=some (.lst ut)/\RelDs H ut (s.bt c.1)
structure StateAt(H:Hp)(t:Addr)(mk:Mak)(s:HSt):Prop where
 ex:∃l1 l2 us1 us2,H t=some (.tup [.ref l1,.ref l2])/\H l1=some (.lst us1)/\H l2=some (.lst us2)/\us1.length=mk.hands.length/\us2.length=mk.chans.length/\(∀(i:Nat) u hd,us1[i]?=some u->mk.hands[i]?=some hd->HSeen H mk s u hd)/\∀(i:Nat) u c,us2[i]?=some u->mk.chans[i]?=some c->CSeen H s u c
theorem HSeen.same{H c:Hp}{a:Mak}{s:HSt}{u:V}{hd:Hand}(h:HSeen H a s u hd)(q:Same H c):HSeen c a s u hd:=by
 obtain⟨b,f,p,lt,e,m,l,j,i,g⟩:=h;exact(xan b f p lt e (jAAA m (q _ _ l) (j.same q) ⟨q _ _ i,g.same q _⟩))
theorem CSeen.same{H a:Hp}{s:HSt}{u:V}{c:Chn}(h:CSeen H s u c)(q:Same H a):CSeen a s u c:=by
 obtain⟨b,lt,e,j,i,g,f⟩:=h;exact(xcd b lt e j (q _ _ i) (q _ _ g) (f.same q _))
theorem StateAt.same{H j:Hp}{t:Addr}{g:Mak}{s:HSt}(h:StateAt H t g s)(q:Same H j):StateAt j t g s:=by
 obtain⟨m,l,f,e,y,x,w,r,p,o,n⟩:=h.ex;exact⟨m,(xal l f e (q _ _ y) (q _ _ x) (q _ _ w) r (jAA p (λi u hd a b=>(o i u hd a b).same q) (λi u c a b=>(n i u c a b).same q)))⟩
def xjg(K:Fg):Sp:=λvs H Q _=>∃(x:Addr) (mv:V) (a:HsA) (s:HSt) (mk:Mak) (N:Nat),vs=[.ref x,mv]/\HsHere K H x mv a s mk N/\∀t H',Same H H'->StateAt H' t mk s->Q (.ref t) H'
def xe1(H:Hp)(l:Addr):Hp:=λb=>if b=l then none else H b
theorem xfd{H:Hp}{l b:Addr}{o:HO}(e:H b=some o)(n:b≠l):xe1 H l b=some o:=by unfold xe1;rw[if_neg n];exact e
theorem xl3{H a:Hp}{l:Addr}(s:Same H a):Same (xe1 H l) (xe1 a l):=λb o e=>by
 unfold xe1 at e;by_cases h:b=l
 ·rw[if_pos h]at e;cases e
 ·rw[if_neg h]at e
  exact xfd (s b o e) h
theorem xp1{H:Hp}{l:Addr}:Same (xe1 H l) H:=λb o e=>by
 unfold xe1 at e;by_cases h:b=l
 ·rw[if_pos h]at e;cases e
 ·rw[if_neg h]at e
  exact e
theorem xof{H:Hp}{l:Addr}{o:HO}:xe1 (upd H l o) l=xe1 H l:=by
 funext b
 unfold xe1;by_cases h:b=l
 ·rw[if_pos h,if_pos h]
 ·rw[if_neg h,if_neg h,xar h]
theorem xl2{H:Hp}{l:Addr}{us:List V}(e:H l=some (.lst us)):∀b vs,H b=some (.tup vs)->xe1 H l b=some (.tup vs):=λb vs h=>xfd h λz=>by rw[z,e]at h;cases h
theorem xic(T:Tx K C):DefIs P w K C base (n+1) "_law_hands_of" qaj xdl:=by
 refine DefIs.of T.kF xh1 (by walk_at"l") (λf U A outer s H vs Q E hr h=>?_);obtain⟨Z,z,rfl,G,h4,q⟩:=h;obtain⟨I,kv,cv,hv,rfl,l,_,_,r⟩:=mk_d G;obtain⟨M,x,rfl,c,e⟩:=r;have m:=e.length;rw[zLM]at m;refine(jEA _ (zpo (xaf (xbo ["_law_hand"] [none] rfl (by kernel_rfl) (xa1 (K:=K) rfl (px K (pv 0) pI)) (λ_ _ _ _=>(pgc 0)) (λ_ _ _ _=>xbv) (λ_ _ _ _=>(px K (pv 0) pI))))) ?_);refine(xaa _ rfl I _ _ _ rfl rfl (SqT.of l) rfl (jEAA M rfl ⟨_,SqT.of c⟩ ?_));refine xbs (xs:=x) (λi ys j=>j=H/\ys=((hn z).take i).map V.str) ⟨rfl,by rw[List.take_zero];rfl⟩ (xa5 (by omega)) (λi ys j _ p=>by rw[p.1];exact SqT.of c) ?_ ?_
 ·rintro i y ys j J hi a ⟨rfl,rfl⟩
  obtain⟨d,g,rd⟩:=e.get J;rw[zGM]at g;obtain⟨hd,o,rfl⟩:=zMS g;obtain⟨u,bv,Y,rfl,b,_,_⟩:=hd_d rd;refine⟨ext1 rfl,xdh ?_⟩;refine(xaa _ rfl u _ _ _ rfl rfl (SqT.of b) rfl (nxtG hi a ⟨rfl,?_⟩));rw[zTA,zGM,o,zAP];rfl
 ·rintro ys j a ⟨rfl,rfl⟩ D O
  rw[zTL (by rw[zLM];omega)];exact q D O
theorem xm9(T:Tx K mg)(g:DefIs P w K mg base n "_law_hands_of" qaj xdl)(m:MethIs P w K mg base n (ad K "Plain") "stand" qaa [[]] (xgw K))(C:MethIs P w K mg base n (ad K "Plain") "told" qaa [[]] (xji K))(l:MethIs P w K mg base n (ad K "Plain") "letters" qaq [[]] (xjj K))(r:MethIs P w K mg base n (ad K "Plain") "count" qaa [[]] (xe5 K)):DefIs P w K mg base (n+1) "_law_state" qa3 (xjg K):=by
 refine DefIs.of T.kH scl_state (by walk_at"l") (λf b3 A outer s H vs Q E hr h=>?_);obtain⟨x,mv,a,st,J,N,rfl,hs,q⟩:=h;have nd:=scl_state.nd;have h4:=hs.mok.hfew;have h6:=hs.mok.cfew;obtain⟨fs,hx,lf⟩:=hs.at_.ob
 refine⟨_,(zpn (psn 2 nd (xca pN))
   (zpn (xcg PassesOwn.never rfl (xbn (K:=K) rfl (pd g hr (v1 1))) (pgn 3 nd)
   (zpo (xby (xc9 PySem.F.plainAttrs_list PySem.F.slot_list_append PySem.F.type_list_append xbw (pv 2) (pc (xak (va 3 (pc (xb2 m T.kZ.cl hr (pv 0) (v1 3)) (pc (xb2 C T.kZ.cl hr (pv 0) (v1 3)) (pc (xb2 r T.kZ.cl hr (pv 0) (v1 3)) pN zsc) zsc) zsc))) pN sT)))))
   (zpo (xaf (xak (va 2 (pc (xbo ["_law_channel","_law_house"] [none,some 0] rfl (by kernel_rfl) (xa1 (K:=K) rfl (px K (pv 1) pI)) (λ_ _ _ _=>(pgc 0)) (λ_ _ _ _=>xbv) (λ_ _ _ _=>(xak (pc (px K (pv 0) pI) (pc (xb2 l T.kZ.cl hr (pv 1) (pc (px K (pv 0) pI) pN ss)) pN zsc) ss)))) pN xcc))))))),xab λR1 b1=>?_⟩
 refine⟨(by walk_at"s"),λY ak=>b1 _ _ (xab λR2 b0=>?_)⟩;have s1:=Same.new ak (.lst []);refine(xat _ rfl mv J rfl (hs.md.same s1 _) ⟨h4,λl2 a2=>?_⟩);have s2:=Same.new a2 (.lst ((hn J).map V.str));have a5:upd (upd H Y (.lst [])) l2 (.lst ((hn J).map V.str)) Y=some (.lst []):=s2 _ _ ups;have a0:upd (upd H Y (.lst [])) l2 (.lst ((hn J).map V.str)) l2=some (.lst ((hn J).map V.str)):=ups;have ah:=s1.trans s2;have aw:l2≠Y:=λz=>by rw[z,ups]at a2;cases a2
 generalize upd (upd H Y (.lst [])) l2 (.lst ((hn J).map V.str))=H2 at a5 a0 ah⊢;clear s1 s2 a2;refine(jEAA l2 rfl ⟨_,SqL.of a0⟩ ?_)
 refine xdw (xs:=(hn J).map V.str) (λi σ H'=>∃(us:List V) (o:Option V),σ=[some (.ref x),some mv,some (.ref Y),o]/\Same H H'/\H' Y=some (.lst us)/\H' l2=some (.lst ((hn J).map V.str))/\us.length=i/\∀(j:Nat) u hd,us[j]?=some u->J.hands[j]?=some hd->HSeen (xe1 H' Y) J st u hd)
  (xa6 ([]) none rfl ah a5 a0 rfl (λj u hd h=>by simp at h)) (λi σ H' _ p=>by obtain⟨_,_,_,_,_,h,_⟩:=p;exact SqL.of h) ?_ ?_
 ·rintro i v σ H' hv ⟨us,o,rfl,sm,G,a4,M,a8⟩
  rw[zGM,zGM]at hv;obtain⟨z,hz,rfl⟩:=zMS hv;obtain⟨hd,af,rfl⟩:=zMS hz;have al:=zMG af;have ab:hd.name∈hn J:=List.mem_map_of_mem al;have hi:i<J.hands.length:=(zES af).1;have l':=hs.at_.same sm;refine(jEAA _ rfl (.inl (jAE rfl _ (SqL.of G))) ?_);refine(xb5 _ rfl _ rfl x _ fs rfl (sm _ _ hx) (lf.no _ (by walk_at"k")) (xa7 _ rfl x mv hd.name a (xcp st J rfl l' ab (by have:=hs.ok.bxlen hs.mok al;omega) (λsa p H3 U ai av=>?_))));refine(xbc _ rfl x _ fs rfl (U _ _ (sm _ _ hx)) (lf.no _ (by walk_at"k")) _ rfl (xan x mv hd.name a st (xbt J rfl (l'.same U) ab (λlt ut H4 s4 ac aa a9=>?_))));refine(xbc _ rfl x _ fs rfl (s4 _ _ (U _ _ (sm _ _ hx))) (lf.no _ (by walk_at"k")) _ rfl (xan x mv hd.name a st (xbi J rfl ((l'.same U).same s4) ab (by walk_at"s") (λt ht=>?_))));have O:=Same.new ht (.tup [.str hd.name,.ref sa,.ref lt,.int (st.ct hd.name:Nat)]);have I:=U.trans (s4.trans O);have ar:=I _ _ G;refine(xal Y us (.ref t) rfl rfl ar (xa5 (by omega)) ?_);refine(xa6 (us++[.ref t]) _ rfl (λb o e=>?_) ups (by rw[xar aw];exact I _ _ a4) (by rw[zLA,List.length_singleton,M]) (λj u a3 hj hh=>?_))
  ·rw[xar (neN e ak)]
   exact I _ _ (sm _ _ e)
  ·rw[xof]
   by_cases ae:j<us.length
   ·rw[List.getElem?_append_left ae]at hj
    exact(a8 j u a3 hj hh).same (xl3 I)
   ·have Z:=(zES hj).1
    rw[zLA,List.length_singleton]at Z;have ej:j=i:=by omega
    subst ej;rw[af]at hh;cases hh;rw[List.getElem?_append_right (by omega),M,Nat.sub_self]at hj;cases hj;have a6:=xl2 ar;have b2:=U _ _ G;refine(xan t sa p lt ut (jAAA rfl (a6 _ _ ups) ((av.same (s4.trans O)).keep a6 λo e=>xfd e λz=>?_) ⟨xfd (O _ _ aa) λz=>?_,(a9.same O _).tups a6 _⟩))
    ·rw[z,G]at ai;cases ai
    ·rw[z,b2]at ac;cases ac
 ·rintro σ H' ⟨us,o,rfl,sm,G,a4,M,a8⟩
  rw[zLM,zLM]at M;obtain⟨ma,kv,cv,hv,rfl,ax,_,az,_⟩:=mk_d (hs.md.same sm _);obtain⟨ca,uc,rfl,ao,aq⟩:=az;have ay:=aq.length;rw[zLM]at ay;refine b0 _ _ (xam _ rfl _ rfl ma _ _ (xbi _ rfl rfl (SqT.of ax) rfl (jEAA ca rfl ⟨_,SqT.of ao⟩ ?_)));refine xbs (xs:=uc) (λi ys H3=>Same H' H3/\ys.length=i/\∀(j:Nat) u c,ys[j]?=some u->J.chans[j]?=some c->CSeen H3 st u c) (jAA (Same.refl _) rfl (λj u c h=>by simp at h)) (xa5 (by omega)) (λi ys H' _ p=>SqT.of (p.1 _ _ ao)) ?_ ?_
  ·rintro i y ys H3 hy hi aj ⟨U,a7,ag⟩
   obtain⟨d,a3,rd⟩:=aq.get hy;rw[zGM]at a3;obtain⟨ch,am,rfl⟩:=zMS a3;obtain⟨au,_,rfl,an,_,ws,rfl,rfl,_⟩:=rd;have a1:=U _ _ an;have l3:=(hs.at_.same sm).same U;refine⟨ext1 rfl,xdh ?_⟩;refine(xaa _ rfl au _ _ _ rfl rfl (SqT.of a1) (xa0 (j:=0) rfl) ?_);refine(xbc _ rfl x _ fs rfl (U _ _ (sm _ _ hx)) (lf.no _ (by walk_at"k")) _ rfl (xbm au _ _ _ rfl rfl (SqT.of a1) (xa0 (j:=0) rfl) x (xan _ ch.1 a st J (jAAA rfl l3 (List.mem_map_of_mem (zMG am)) (λlt ut H4 s4 ac aa a9=>⟨(by walk_at"s"),λt ht=>nxtG hi aj ?_⟩)))));have O:=Same.new ht (.tup [.str ch.1,.ref lt]);refine(jAA (U.trans (s4.trans O)) (by rw[zLA,List.length_singleton,a7]) (λj u c hj hh=>?_));by_cases ae:j<ys.length
   ·rw[List.getElem?_append_left ae]at hj
    exact(ag j u c hj hh).same (s4.trans O)
   ·have Z:=(zES hj).1
    rw[zLA,List.length_singleton]at Z;have ej:j=i:=by omega
    subst ej;rw[am]at hh;cases hh;rw[List.getElem?_append_right (by omega),a7,Nat.sub_self]at hj;cases hj;exact(xcd t lt ut rfl ups (O _ _ aa) (a9.same O _))
  ·rintro ys H3 aj ⟨U,a7,ag⟩ D hD
   have sD:=Same.new hD (.lst ys);refine⟨(by walk_at"s"),λt ht=>?_⟩;have O:=Same.new ht (.tup [.ref Y,.ref D]);have I:=U.trans (sD.trans O);exact q t _ (sm.trans I) ⟨Y,(xal D us ys ups (I _ _ G) (O _ _ ups) (by omega) (jAA (by omega) (λj u hd a b=>((a8 j u hd a b).same xp1).same I) (λj u c a b=>(ag j u c a b).same (sD.trans O))))⟩
theorem xnw{H:Hp}:∀{kvs:List (Key×V)} {bx:List (Str×D)},KvD H kvs bx->∀p∈kvs,∃b∈bx,p.1=Sum.inr b.1/\RelD H p.2 b.2
 |[],[],_=>λp h=>nomatch h
 | j::kvs,b::bx,⟨i,g,f⟩=>λp h=>by
  rcases zMC h with rfl |h
  ·exact(jEAA b (by simp) i g)
  ·obtain⟨c,a,e⟩:=xnw f p h
   exact(jEA c (List.mem_cons_of_mem _ a) e)
 |[],_::_,h=>h.elim
 |_::_,[],h=>h.elim
theorem xpy{H:Hp}{a b:Addr}{g f:List (Key×V)}{bx:List (Str×D)}{n:Nat}(u:H a=some (.dK g))(s:H b=some (.dK f))(j:KvD H g bx)(i:KvD H f bx)(nd:(bx.map (·.1)).Nodup)(dp:∀b∈bx,b.2.deep<=12):EqS H (n+1) (.ref a) (.ref b):=by
 refine .inr (.inr (xas a b g f rfl rfl u s (j.length.trans i.length.symm) (λp o=>?_)));obtain⟨c,h,e,r⟩:=xnw j p o;obtain⟨v,m,l⟩:=i.val.2 _ (xj9 nd h);exact(jEA v (by rw[e];exact m) (.inl (jEAA c.2 r l (Nat.le_trans (dp c h) (by decide)))))
theorem xoy{H:Hp}{t t':Addr}{c:Mak}{s:HSt}{N:Nat}(h:StateAt H t c s)(h':StateAt H t' c s)(e:MakOk c)(o:HOk c s N):EqS H 12 (.ref t) (.ref t'):=by
 obtain⟨l1,l2,G,C,a1,a2,a3,a4,a5,a6,a7⟩:=h.ex;obtain⟨k1,k2,w,r,b1,b2,b3,b4,b5,b6,b7⟩:=h'.ex;have j:∀{n:Nat} (i:Int),EqS H n (.int i) (.int i):=λi=>EqS.dat (.inl (jEAA (.int i) rfl rfl (by show D.deep (.int i)<=100;unfold D.deep;decide)));have g:∀{n:Nat} (i:Str),EqS H n (.str i) (.str i):=λi=>EqS.dat (.inl (jEAA (.str i) rfl rfl (by show D.deep (.str i)<=100;unfold D.deep;decide)));refine .inr (.inl (xah t t' _ _ rfl rfl (.inl ⟨a1,b1⟩) rfl (λi u z a hz=>?_)));rcases i with _ |_ |i
 ·cases a;cases hz
  refine .inr (.inl (xah l1 k1 G w rfl rfl (.inr ⟨a2,b2⟩) (by omega) (λi u z a hz=>?_)));have hi:=(zES a).1;have f:c.hands[i]?=some (c.hands[i]'(by omega)):=zGA _;obtain⟨c1,sa,p,lt,y,rfl,e1,⟨e2,kb,a0,m⟩,Z,Y⟩:=a6 i u _ a f;obtain⟨d1,sb,p',I,x,rfl,U,⟨g2,a8,O,l⟩,M,J⟩:=b6 i z _ hz f;have b:=zMG f;generalize c.hands[i]=hd at *
  refine .inr (.inl (xah c1 d1 _ _ rfl rfl (.inl ⟨e1,U⟩) rfl (λi u z a hz=>?_)));rcases i with _ |_ |_ |_ |i
  ·cases a;cases hz;exact g _
  ·cases a;cases hz
   refine .inr (.inl (xah sa sb _ _ rfl rfl (.inl ⟨e2,g2⟩) rfl (λi u z a hz=>?_)));rcases i with _ |_ |i
   ·cases a;cases hz;exact j _
   ·cases a;cases hz
    exact xpy a0 O m l (by rw[o.keys hd b];exact(e.hok hd b).nd) (o.bxdeep e b)
   ·cases a
  ·cases a;cases hz
   exact EqS.dat (.inr (xag lt I y x _ rfl rfl Z M Y ⟨J,Nat.le_trans (xdy (o.tok hd b).2) (by decide)⟩))
  ·cases a;cases hz;exact j _
  ·cases a
 ·cases a;cases hz
  refine .inr (.inl (xah l2 k2 C r rfl rfl (.inr ⟨a3,b3⟩) (by omega) (λi u z a hz=>?_)));have hi:=(zES a).1;have f:c.chans[i]?=some (c.chans[i]'(by omega)):=zGA _;obtain⟨c1,lt,y,rfl,e1,Z,Y⟩:=a7 i u _ a f;obtain⟨d1,I,x,rfl,U,M,J⟩:=b7 i z _ hz f;have b:=zMG f;generalize c.chans[i]=ch at *
  refine .inr (.inl (xah c1 d1 _ _ rfl rfl (.inl ⟨e1,U⟩) rfl (λi u z a hz=>?_)));rcases i with _ |_ |i
  ·cases a;cases hz;exact g _
  ·cases a;cases hz
   exact EqS.dat (.inr (xag lt I y x _ rfl rfl Z M Y ⟨J,Nat.le_trans (xdy λd hd=>xgq e.wf (e.ckin ch b) ((o.cok ch b).2 d hd)) (by decide)⟩))
  ·cases a
 ·cases a
theorem xju(T:Tx K mg)(c:DefIs P w K mg base n "_law_feed" qal (xhw K))(b:DefIs P w K mg base n "_law_take" qac xcl):DefIs P w K mg base (n+1) "_law_weaving" qbd (xhs K):=by
 refine DefIs.of T.kG scl_weaving (by walk_at"l") (λf an A outer s H vs Q E hr h=>?_);obtain⟨a,ns,y,mv,mk,rfl,hS,a8,md,h4,ae,al,q⟩:=h;have nd:=scl_weaving.nd
 refine⟨_,(zpn (psn 3 nd (xca pN))
   (zpn (xcg PassesOwn.never rfl (xm2 rfl T.kU (va 1 (pc (xaq (xi4 rfl) rfl T.kT PyProof.Rows.boot_min (pc (xaq (xad (K:=K) rfl) rfl T.kQ PySem.boot_len (v1 0)) (pc pI pN so) zsc)) pN zsc))) (pgn 4 nd)
   (zpn (psn 5 nd (pd c hr (va 0 (v1 4))))
   (zpo (psn 3 nd (xaj xfp (pv 3) (xbo ["_law_j","_law_make_here","_law_feed_here"] [none,some 2,some 5] rfl (by kernel_rfl) (xbz rfl T.kU (pc pI pN so)) (λ_ _ _ _=>(pgc 0)) (λ_ _ _ _=>xbv) (λ_ _ _ _=>(px K (px K (px K (pv 1) pI) (pd b hr (va 2 (pc (xaq (xad (K:=K) rfl) rfl T.kQ PySem.boot_len (pc (px K (pv 1) pI) pN ss)) pN zsc)))) pI))))))))
   (zpo (xaf (pv 3))))),?_⟩
 refine⟨(by walk_at"s"),λl0 a0=>?_⟩;have s0:=Same.new a0 (.lst []);have ak:0<mk.hands.length:=List.length_pos_iff.mpr ae;have ac:(ns.map V.int).length=ns.length:=zLM ..;refine(xbb _ rfl _ rfl a _ rfl (.inl (s0.seq hS)) _ (jEA _ rfl ?_))
 obtain⟨M,hM,am⟩:∃M:Nat,(if (63:Int)<((ns.map V.int).length:Nat) then (63:Int) else ((ns.map V.int).length:Nat))=(M:Nat)/\M<=63:=by
  refine(jEA ns.length ?_ a8);rw[ac,if_neg (by omega)]
 rw[hM];refine(xaw _ _ rfl (jAAA (by omega) (by omega) (by omega) (by omega)) ?_);have a7:((M:Int)-(y:Nat)).toNat<=63:=by omega
 generalize ((M:Int)-(y:Nat)).toNat=aj at a7⊢
 refine xcq (n:=aj) (λi σ H'=>∃(x:Addr) (ws:List Str) (o4 o5:Option V),σ=[some (.ref a),some (.int y),some mv,some (.ref x),o4,o5]/\Same H H'/\H x=none/\H' x=some (.lst (ws.map V.str))/\(∀z∈ws,z∈hn mk)/\ws.length<=5*i)
  (xas l0 ([]) none none rfl s0 a0 ups (λz h=>nomatch h) (Nat.le_refl _)) ?_ ?_
 ·rintro i σ H1 hi ⟨x,ws,o4,o5,rfl,C,O,u,o,aa⟩
  refine(xb5 _ rfl _ rfl a ns _ rfl (C.seq hS) a8 ⟨by omega,λfd J I nfd=>?_⟩);have s2:=Same.new nfd (.lst [.int J,.int I]);have g:upd H1 fd (.lst [.int J,.int I]) fd=some (.lst [.int J,.int I]):=ups;generalize upd H1 fd (.lst [.int J,.int I])=H2 at s2 g⊢;have a9:=C.trans s2;obtain⟨ma,kv,cv,hv,rfl,Z,_,_,ah⟩:=mk_d (md.same a9 _);obtain⟨ha,uh,rfl,a2,a3⟩:=ah;have af:=a3.length;rw[zLM]at af;refine(xa3 _ rfl 5 rfl (by decide) ⟨by decide,?_⟩);refine xdb (j:=0) (λj ys H'=>Fed fd H2 H'/\∃vs:List Str,ys=vs.map V.str/\∀z∈vs,z∈hn mk) (by rfl) (jAEA (Fed.refl g) ([]) rfl (λ_ h=>nomatch h)) (xa5 (by decide)) ?_ ?_
  ·rintro j ys H3 hj l ⟨f3,vs,rfl,p⟩
   have e:=xai (jEE J I g) f3;obtain⟨p3,q3,a5⟩:=f3.2;refine(xaa _ rfl ma _ _ _ rfl rfl (SqT.of (e _ _ Z)) rfl (xam _ rfl _ rfl ma _ _ (xbi _ rfl rfl (SqT.of (e _ _ Z)) rfl (xaw ha _ rfl (.inr (SqT.of (e _ _ a2))) (xah fd p3 q3 _ rfl a5 (by omega) (by omega) (λr H4 r0 r1 f4=>?_))))));have G:=xai (jEE p3 q3 a5) f4;obtain⟨ri,rfl⟩:∃i:Nat,r=(i:Int):=⟨r.toNat,by omega⟩;have ab:ri<uh.length:=by omega
   have U:uh[ri]?=some uh[ri]:=zGA ab;obtain⟨d,a6,rd⟩:=a3.get U;rw[zGM]at a6;obtain⟨hd,ag,rfl⟩:=zMS a6;obtain⟨ai,bv,rv,eh,a1,_,_⟩:=hd_d rd;refine(xah ha _ _ _ rfl rfl (SqT.of (G _ _ (e _ _ a2))) (xa0 U) ?_);rw[eh];refine(xah ai _ _ _ rfl rfl (SqT.of (G _ _ (e _ _ a1))) rfl (nxt hj l (jAEA (f3.trans f4) (vs++[hd.name]) (by rw[zAP];rfl) (λz hz=>?_))));rcases zMA hz with hz |hz
   ·exact p z hz
   ·rw[zMO hz];exact List.mem_map_of_mem (zMG ag)
  ·rintro ys H3 l ⟨f3,vs,rfl,p⟩ D hD
   have m:Same H1 H3:=Fed.back nfd s2 f3;have sD:=Same.new hD (.lst (vs.map V.str));have a4:=sD _ _ (m _ _ u);have e5:vs.length=5:=by rw[zLM]at l;exact l
   refine(xas x D _ _ rfl rfl a4 ups (fits (by rw[zLM,zLM];omega)) (λnp Y=>?_));have sN:=Same.new Y (.lst (ws.map V.str++vs.map V.str));have sA:=m.trans (sD.trans sN);refine(xas np (ws++vs) _ _ rfl (C.trans sA) (xav C (xav (m.trans sD) Y)) (by rw[zAP];exact ups) (λz hz=>?_) (by rw[zLA];omega));rcases zMA hz with hz |hz
   ·exact o z hz
   ·exact p z hz
 ·rintro σ H1 ⟨x,ws,o4,o5,rfl,C,O,u,o,aa⟩
  exact(jEA _ rfl (q x ws H1 C O u o (by omega)))
theorem xlb(us:List V)(k:Nat):cutV us none (some (k:Int))=us.take k:=by
 unfold cutV;rw[HT.sIx_none,HT.sIx_nat,List.drop_zero,Nat.sub_zero];rcases Nat.le_total k us.length with h |h
 ·rw[Nat.min_eq_left h]
 ·rw[Nat.min_eq_right h,zTL (Nat.le_refl _),zTL h]
theorem xp5(us:List V)(k:Nat):cutV us (some (k:Int)) none=us.drop k:=by
 unfold cutV;rw[HT.sIx_none,HT.sIx_nat];rcases Nat.le_total k us.length with h |h
 ·rw[Nat.min_eq_left h,zTL (by rw[List.length_drop];exact Nat.le_refl _)]
 ·rw[Nat.min_eq_right h,Nat.sub_self,List.take_zero,List.drop_eq_nil_of_le h]
theorem xiy{f:Str->Int}:∀(ns:List Str),eqVs (ns.map λz=>V.int (f z)) (ns.map λz=>V.int (f z))=true
 |[]=>rfl
 |y::ns=>by
  show(eqV (.int (f y)) (.int (f y)) && eqVs _ _)=true;rw[xiy ns,Bool.and_true];exact zDT rfl
structure OtI(K:Fg)(HB:Hp)(fd x:Addr)(mv:V)(mk:Mak)(a0:HsA)(H:Hp)(a:HsA)(s:HSt):Prop where
 fr:∀b o,HB b=some o->¬a0.F mk x b->b≠fd->H b=some o
 nw:∀b,a.F mk x b->a0.F mk x b\/HB b=none
 f0:¬a0.F mk x fd/\∃o,HB fd=some o
 f:∃p q:Int,H fd=some (.lst [.int p,.int q])
 hs:HsHere K H x mv a s mk (tot mk s)
section
variable {K:Fg}{HB H H':Hp}{fd x:Addr}{mv:V}{mk:Mak}{a0 a a':HsA}{s s':HSt}
theorem OtI.nfd(o:OtI K HB fd x mv mk a0 H a s):¬a.F mk x fd:=λh=>by
 obtain⟨h0,u,hu⟩:=o.f0;rcases o.nw fd h with q |q
 ·exact h0 q
 ·rw[hu]at q;cases q
theorem OtI.same(o:OtI K HB fd x mv mk a0 H a s)(q:Same H H'):OtI K HB fd x mv mk a0 H' a s:=by
 obtain⟨p1,p2,e⟩:=o.f;exact⟨λb u h n m=>q _ _ (o.fr b u h n m),o.nw,o.f0,(jEE p1 p2 (q _ _ e)),o.hs.same q⟩
theorem OtI.take(o:OtI K HB fd x mv mk a0 H a s)(q:Fed fd H H'):OtI K HB fd x mv mk a0 H' a s:=
 ⟨λb u h n m=>q.1 b u (o.fr b u h n m) m,o.nw,o.f0,q.2,o.hs.keep (xai o.f q) λb hb u e=>q.1 b u e λz=>o.nfd (z ▸ hb)⟩
theorem OtI.step(o:OtI K HB fd x mv mk a0 H a s)(q:HFr mk x a a' H H')(h:HsHere K H' x mv a' s' mk (tot mk s')):OtI K HB fd x mv mk a0 H' a' s':=by
 obtain⟨p1,p2,e⟩:=o.f;refine⟨λb u hb n m=>q.fr b u (o.fr b u hb n m) λz=>?_,λb hb=>?_,o.f0,(jEE p1 p2 (q.fr _ _ e o.nfd)),h⟩
 ·rcases o.nw b z with w |w
  ·exact n w
  ·rw[hb]at w;cases w
 ·rcases q.nw b hb with w |w
  ·exact o.nw b w
  ·by_cases hb0:a0.F mk x b
   ·exact .inl hb0
   ·refine .inr ?_
    cases e':HB b with
    |none=>rfl
    |some u=>
     by_cases m:b=fd
     ·rw[m,e]at w;cases w
     ·rw[o.fr b u e' hb0 m]at w;cases w
theorem OtI.trans{H2:Hp}{a2:HsA}{s2:HSt}(o:OtI K HB fd x mv mk a0 H a s)(o2:OtI K H fd x mv mk a H2 a2 s2):OtI K HB fd x mv mk a0 H2 a2 s2:=by
 refine⟨λb u hb n m=>o2.fr b u (o.fr b u hb n m) (λz=>?_) m,λb hb=>?_,o.f0,o2.f,o2.hs⟩
 ·rcases o.nw b z with w |w
  ·exact n w
  ·rw[hb]at w;cases w
 ·rcases o2.nw b hb with w |w
  ·exact o.nw b w
  ·by_cases hb0:a0.F mk x b
   ·exact .inl hb0
   ·refine .inr ?_
    cases e':HB b with
    |none=>rfl
    | some u=>
     by_cases m:b=fd
     ·obtain⟨p1,p2,e⟩:=o.f
      rw[m,e]at w;cases w
     ·rw[o.fr b u e' hb0 m]at w;cases w
theorem OtI.put{l:Addr}{us xs:List V}(o:OtI K HB fd x mv mk a0 H a s)(hl:∀b u,HB b=some u->¬a0.F mk x b->b≠fd->b≠l)(lf:l≠fd)(e:H l=some (.lst us))(n:¬a.F mk x l):OtI K HB fd x mv mk a0 (upd H l (.lst xs)) a s:=by
 obtain⟨p1,p2,ef⟩:=o.f;exact⟨λb u hb m k=>by rw[xar (hl b u hb m k)];exact o.fr b u hb m k,o.nw,o.f0,(jEE p1 p2 (by rw[xar (Ne.symm lf)];exact ef)),o.hs.keep (λb vs eb=>by rw[xar λz=>by rw[z,e]at eb;cases eb];exact eb) λb hb u eb=>by rw[xar λz=>n (by rw[<- z];exact hb)];exact eb⟩
theorem OtI.bas(o:OtI K HB fd x mv mk a0 H a s):OtI K H fd x mv mk a H a s:=by
 obtain⟨p1,p2,ef⟩:=o.f;exact⟨λ_ _ e _ _=>e,λb h=>.inl h,(jAE o.nfd _ ef),o.f,o.hs⟩
theorem OtI.out{l:Addr}(o:OtI K HB fd x mv mk a0 H a s)(hl:H l=none):¬a.F mk x l:=λh=>by
 obtain⟨u,e,_⟩:=o.hs.at_.there l h;rw[hl]at e;cases e
end
structure Rnd(mk:Mak)(t s0 s:HSt)(A:List Str):Prop where
 r0:Rch mk s0 s
 rt:Rch mk s t
 no:s=s0->∀h∈mk.hands,h.name∈A->∀s',Stp mk s0 s' h->¬s0.ct h.name<t.ct h.name
theorem Rnd.shut{mk:Mak}{t s0 s:HSt}{A:List Str}(r:Rnd mk t s0 s A)(mok:MakOk mk){hd:Hand}(hin:hd∈mk.hands)(h:s=s0->∀s',Stp mk s0 s' hd->¬s0.ct hd.name<t.ct hd.name):Rnd mk t s0 s (A++[hd.name]):=by
 refine⟨r.r0,r.rt,λe h' hin' hm=>?_⟩;rcases zMA hm with hm |hm
 ·exact r.no e h' hin' hm
 ·have:h'=hd:=xb6 mok.hnd hin' hin (zMO hm)
  subst this;exact h e
theorem Rnd.go{mk:Mak}{t s0 s s':HSt}{A B:List Str}(r:Rnd mk t s0 s A)(mok:MakOk mk){hd:Hand}(stp:Stp mk s s' hd)(lt:s.ct hd.name<t.ct hd.name):Rnd mk t s0 s' B:=by
 refine⟨r.r0.trans (.one stp),r.rt.to mok stp lt,λe=>?_⟩;have h1:=r.r0.tot mok;have h2:=stp.tot mok;rw[e]at h2;omega
theorem Rnd.end_{mk:Mak}{t s0 s:HSt}{A:List Str}(r:Rnd mk t s0 s A)(mok:MakOk mk)(all:∀z∈hn mk,z∈A){k:Nat}(h:min k (tot mk t)<=tot mk s0):min (k+1) (tot mk t)<=tot mk s:=by
 have h0:=r.r0.tot mok;have h1:=r.rt.tot mok;by_cases e:tot mk s<=tot mk s0
 ·have es:s0=s:=r.r0.eq_tot mok e
  by_cases et:s=t
  ·rw[et];omega
  ·obtain⟨hd,s',stp,lt⟩:=r.rt.next et
   subst es;exact absurd lt (r.no rfl hd stp.1 (all _ (List.mem_map_of_mem stp.1)) s' stp)
 ·omega
def xmh(K:Fg):Sp:=λvs H Q _=>∃(x d fd:Addr) (p q:Int) (mv:V) (a:HsA) (s t:HSt) (mk:Mak),vs=[.ref x,mv,.ref d,.ref fd]/\HsHere K H x mv a s mk (tot mk s)/\Rch mk s t/\H d=some (.dK (mapK (hn mk) λz=>.int (t.ct z:Nat)))/\H fd=some (.lst [.int p,.int q])/\¬a.F mk x fd/\¬a.F mk x d/\mk.hands≠[]/\tot mk t<=800 ∧
 ∀a' H',OtI K H fd x mv mk a H' a' t->Q (.bl true) H'
theorem xnb(T:Tx K mg)(Dl_hands_of:DefIs P w K mg base n "_law_hands_of" qaj xdl)(Dl_take:DefIs P w K mg base n "_law_take" qac xcl)(D_Plain_count:MethIs P w K mg base n (ad K "Plain") "count" qaa [[]] (xe5 K))(D_Plain_step:MethIs P w K mg base n (ad K "Plain") "step" qaa [[]] (xgv K)):DefIs P w K mg base (n+1) "_law_other" qbe (xmh K):=by
 refine DefIs.of T.kI scl_other (by walk_at"l") (λf cdv A outer s H vs Q E hr h=>?_);obtain⟨x,d,fd,p0,q0,mv,a,s0,t,mk,rfl,hs,rt,hd0,hfd,nfd,nd0,hne,h800,q⟩:=h;have nd:=scl_other.nd;have hu:=xeh hr;have mok:=hs.mok;have h4:=mok.hfew;have hpos:0<mk.hands.length:=List.length_pos_iff.mpr hne;have hnl:(hn mk).length=mk.hands.length:=zLM ..;have hnl4:((hn mk).map V.str).length=mk.hands.length:=by rw[zLM,hnl]
 refine⟨_,(zpn (psn 4 nd (pd Dl_hands_of hr (v1 1)))
   (zpn (xcg PassesOwn.never rfl (xbz rfl T.kU (pc (xge rfl rfl T.kW (pv 2)) pN zsc)) (pgn 5 nd)
   (zpn (psn 6 nd (pd Dl_take hr (va 3 (pc (xaq (xad (K:=K) rfl) rfl T.kQ PySem.boot_len (v1 4)) pN zsc))))
   (zpn (psn 7 nd (xaj xba pI (pd Dl_take hr (va 3 (pc pI pN so)))))
   (zpn (psn 8 nd (xaj xfp (xcn xde (pv 4) (xcm (pv 6)) xdm) (xcn xde (pv 4) xdm (xcm (pv 6)))))
   (zpn (xa8 (pR xbd (pd Dl_take hr (va 3 (pc pI pN so))) pI (nM _)) (zpo (xby (xqo PySem.F.plainAttrs_list PySem.F.slot_list_reverse PySem.F.type_list_reverse xgh (pv 8)))) pQ)
   (zpo (xcg PassesOwn.never rfl (xbn (K:=K) rfl (pv 8)) (pgn 9 nd)
   (zpo (xcg PassesOwn.never rfl (xbz rfl T.kU (v1 7)) (pgn 10 nd)
   (zpo (xa8 (pR xez (xb2 D_Plain_count T.kZ.cl hr (pv 0) (v1 9)) (xci hu (pv 2) (pv 9) (λ_ _=>rfl)) (nM _)) (zpo (xby (xb2 D_Plain_step T.kZ.cl hr (pv 0) (v1 9)))) pQ)))))))))))
   (zpo (xaf (xdn (xtu (Nat.lt_of_succ_lt hu)) (xbo ["_law_h","_law_house"] [none,some 0] rfl (by kernel_rfl) (xbn (K:=K) rfl (pv 4)) (λ_ _ _ _=>(pgc 0)) (λ_ _ _ _=>xbv) (λ_ _ _ _=>(xb2 D_Plain_count T.kZ.cl hr (pv 1) (v1 0)))) (xbo ["_law_h","_law_counts"] [none,some 2] rfl (by kernel_rfl) (xbn (K:=K) rfl (pv 4)) (λ_ _ _ _=>(pgc 0)) (λ_ _ _ _=>xbv) (λ_ _ _ _=>(xci hu (pv 1) (pv 0) (λ_ _=>rfl)))) (nM _)))))),xab λR1 hR1=>?_⟩
 refine(xat _ rfl mv mk rfl hs.md ⟨h4,λhl hhl=>hR1 _ _ (xab λR2 hR2=>?_)⟩);have s1:=Same.new hhl (.lst ((hn mk).map V.str));have hhl1:upd H hl (.lst ((hn mk).map V.str)) hl=some (.lst ((hn mk).map V.str)):=ups;have o1:OtI K H fd x mv mk a (upd H hl (.lst ((hn mk).map V.str))) a s0:=(show OtI K H fd x mv mk a H a s0 from⟨λ_ _ e _ _=>e,λb h=>.inl h,(jAE nfd _ hfd),(jEE p0 q0 hfd),hs⟩).same s1
 have nhl:¬a.F mk x hl:=λh=>by
  obtain⟨u,e,_⟩:=hs.at_.there hl h;rw[hhl]at e;cases e
 generalize upd H hl (.lst ((hn mk).map V.str))=H1 at s1 hhl1 o1⊢;have hd1:=s1 _ _ hd0;have base1:OtI K H1 fd x mv mk a H1 a s0:=⟨λ_ _ e _ _=>e,λb h=>.inl h,(jAE nfd _ (s1 _ _ hfd)),(jEE p0 q0 (s1 _ _ hfd)),o1.hs⟩;have hfl:hl≠fd:=λz=>by rw[z,hfd]at hhl;cases hhl
 have hfdd:d≠fd:=λz=>by rw[z,hfd]at hd0;cases hd0
 have keepL:∀{H' a' s'},OtI K H1 fd x mv mk a H' a' s'->H' hl=some (.lst ((hn mk).map V.str)):=λo=>o.fr _ _ hhl1 nhl hfl;have keepD:∀{H' a' s'},OtI K H1 fd x mv mk a H' a' s'->H' d=some (.dK (mapK (hn mk) λz=>.int (t.ct z:Nat))):=λo=>o.fr _ _ hd1 nd0 hfdd
 have esum:(mapK (hn mk) λz=>V.int (t.ct z:Nat)).map (·.2)=((hn mk).map λz=>((t.ct z:Nat):Int)).map V.int:=by
  generalize hn mk=ns;unfold mapK;rw[List.map_map,List.map_map];rfl
 have esum2:((hn mk).map λz=>((t.ct z:Nat):Int)).sum=(tot mk t:Nat):=by
  unfold tot;generalize hn mk=ns
  induction ns with
  |nil=>rfl
  |cons y ys ih=>rw[List.map_cons,List.sum_cons,ih,List.map_cons,List.sum_cons];omega
 refine(xbc _ rfl d _ _ rfl hd1 esum _ rfl (jAA (by rw[esum2];omega) (by rw[esum2];omega) ?_));rw[esum2];refine xcq (n:=_) (λi σ H'=>∃(a':HsA) (s':HSt) (o5 o6 o7 o8 o9 o10:Option V),σ=[some (.ref x),some mv,some (.ref d),some (.ref fd),some (.ref hl),o5,o6,o7,o8,o9,o10]/\OtI K H1 fd x mv mk a H' a' s'/\Rch mk s' t/\min i (tot mk t)<=tot mk s') (xan a s0 none none none (xcd none none none rfl base1 rt (by omega))) ?_ ?_
 ·rintro i σ H2 hi ⟨a2,s2,o5,o6,o7,o8,o9,o10,rfl,o2,rt2,hmin⟩
  refine xab λS1 hS1=>?_;obtain⟨p2,q2,hf2⟩:=o2.f;refine(xbb _ rfl _ rfl hl _ rfl (.inl (SqL.of (keepL o2))) fd (xal p2 q2 _ rfl hf2 (by omega) (by omega) (λr H3 r0 r1 f3=>hS1 _ _ (xab λS2 hS2=>?_))));obtain⟨at_,rfl⟩:∃i:Nat,r=(i:Int):=⟨r.toNat,by omega⟩;have o3:=o2.take f3;obtain⟨p3,q3,hf3⟩:=o3.f;refine(xaa _ rfl fd p3 q3 3 rfl hf3 (by decide) (by decide) (λr H4 r0' r1' f4=>(xaw _ _ rfl rfl (hS2 _ _ (xab λS3 hS3=>?_)))));obtain⟨mm,rfl⟩:∃i:Nat,r=(i:Int):=⟨r.toNat,by omega⟩;have o4:=o3.take f4;refine(xap _ rfl _ rfl _ rfl hl _ rfl (SqL.of (keepL o4)) (λn1 hn1=>?_));rw[xp5,<- List.map_drop];have q1:=Same.new hn1 (.lst (((hn mk).drop at_).map V.str));have o5':=o4.same q1;refine(xap _ rfl _ rfl _ rfl hl _ rfl (SqL.of (keepL o5')) (λn2 hn2=>?_));rw[xlb,<- List.map_take];have q2':=Same.new hn2 (.lst (((hn mk).take at_).map V.str));have o6':=o5'.same q2';refine(xas n1 n2 _ _ rfl rfl (q2' _ _ ups) ups (fits (by rw[zLM,zLM,List.length_drop,List.length_take,hnl];omega)) (λnp hnp=>hS3 _ _ (xab λS4 hS4=>?_)));rw[<- zAP];have q3':=Same.new hnp (.lst (((hn mk).drop at_++(hn mk).take at_).map V.str));have o7':=o6'.same q3';have nnp:¬a2.F mk x np:=o6'.out hnp;have hnp7:upd (upd (upd H4 n1 (.lst (((hn mk).drop at_).map V.str))) n2 (.lst (((hn mk).take at_).map V.str))) np (.lst (((hn mk).drop at_++(hn mk).take at_).map V.str)) np=some (.lst (((hn mk).drop at_++(hn mk).take at_).map V.str)):=ups
  have hnp1:∀b u,H1 b=some u->¬a.F mk x b->b≠fd->b≠np:=λb u e n m z=>by
   have:=o6'.fr b u e n m;rw[z,hnp]at this;cases this
  have npf:np≠fd:=λz=>by
   obtain⟨_,_,e⟩:=o6'.f;rw[z,e]at hnp;cases hnp
  generalize upd (upd (upd H4 n1 (.lst (((hn mk).drop at_).map V.str))) n2 (.lst (((hn mk).take at_).map V.str))) np (.lst (((hn mk).drop at_++(hn mk).take at_).map V.str))=H7 at o7' hnp7⊢
  have hin0:∀z∈hn mk,z∈(hn mk).drop at_++(hn mk).take at_:=λz hz=>by
   rw[<- List.take_append_drop at_ (hn mk)]at hz;rcases zMA hz with h |h
   ·exact List.mem_append_right _ h
   ·exact List.mem_append_left _ h
  have hin1:∀z∈(hn mk).drop at_++(hn mk).take at_,z∈hn mk:=λz hz=>by
   rcases zMA hz with h |h
   ·exact List.mem_of_mem_drop h
   ·exact List.mem_of_mem_take h
  generalize (hn mk).drop at_++(hn mk).take at_=ws at hnp7 hin0 hin1⊢
  have KT:∀H8 (ws:List Str),OtI K H1 fd x mv mk a H8 a2 s2->H8 np=some (.lst (ws.map V.str))->(∀z∈hn mk,z∈ws)->(∀z∈ws,z∈hn mk)->S4 [some (.ref x),some mv,some (.ref d),some (.ref fd),some (.ref hl),some (.int (0+(i:Int))),some (.int at_),some (.int (1+(mm:Int))),some (.ref np),o9,o10] H8:=by
   intro H8 ws o8' hnp8 all sub;refine hS4 _ _ ?_;have b8:=o8'.bas;have keepT:∀{H' a' s'},OtI K H8 fd x mv mk a2 H' a' s'->H' np=some (.lst (ws.map V.str)):=λo=>o.fr _ _ hnp8 nnp npf;refine(xa3 _ rfl np rfl ⟨_,SqL.of hnp8⟩ ?_);refine xdw (xs:=ws.map V.str) (λi2 σ H'=>∃(a':HsA) (s':HSt) (o9 o10:Option V),σ=[some (.ref x),some mv,some (.ref d),some (.ref fd),some (.ref hl),some (.int (0+(i:Int))),some (.int at_),some (.int (1+(mm:Int))),some (.ref np),o9,o10]/\OtI K H8 fd x mv mk a2 H' a' s'/\Rnd mk t s2 s' (ws.take i2)) (jEEE a2 s2 o9 (jEAA o10 rfl b8 ⟨.refl _,rt2,λ_ h _ hm=>by rw[List.take_zero]at hm;cases hm⟩)) (λi2 σ H' _ p=>by obtain⟨_,_,_,_,_,o,_⟩:=p;exact SqL.of (keepT o)) ?_ ?_
   ·rintro i2 v σ H9 hv ⟨a9,s9,o9,o10,rfl,o9',rn⟩
    rw[zGM]at hv;obtain⟨z,hz,rfl⟩:=zMS hv;have hzn:=sub z (zMG hz);obtain⟨hd,hin,rfl⟩:=zMP hzn;have ew:ws.take (i2+1)=ws.take i2++[hd.name]:=xch hz;refine(xa3 _ rfl _ rfl (by omega) ⟨by omega,?_⟩);refine xcq (n:=_) (λj σ H'=>∃(a':HsA) (s':HSt) (o10:Option V),σ=[some (.ref x),some mv,some (.ref d),some (.ref fd),some (.ref hl),some (.int (0+(i:Int))),some (.int at_),some (.int (1+(mm:Int))),some (.ref np),some (.str hd.name),o10]/\OtI K H8 fd x mv mk a2 H' a' s'/\Rnd mk t s2 s' (ws.take i2)/\(0<j->Rnd mk t s2 s' (ws.take (i2+1)))) (xcd a9 s9 o10 rfl o9' rn (λh=>absurd h (Nat.lt_irrefl _))) ?_ ?_
    ·rintro j σ H10 hj ⟨a10,s10,o10,rfl,o10',rn10,_⟩
     have hs10:=o10'.hs;obtain⟨fs,hxx,lf⟩:=hs10.at_.ob;have hd10:=keepD (o8'.trans o10');refine(xbc _ rfl x _ fs rfl hxx (lf.no _ (by walk_at"k")) _ rfl (xan x mv hd.name a10 s10 (xbt mk rfl hs10.at_ hzn ?_)));refine(xbb _ rfl _ rfl d _ rfl (gdK hd10 hzn) _ (xa4 _ rfl rfl _ rfl (ite2 (λc=>?_) (λc=>?_))))
     ·have lt:s10.ct hd.name<t.ct hd.name:=by have:=of_decide_eq_true c;omega
      obtain⟨r,hrow⟩:=hs10.row hin;have hle:=rn10.rt.tot mok;refine(xbc _ rfl x _ fs rfl hxx (lf.no _ (by walk_at"k")) _ rfl (xan x mv a10 s10 mk (xal _ hd r rfl hs10 hin hrow (jAA (by omega) (λsh=>?_) (λsh a11 H11 f11 h11=>?_)))))
      ·refine(xcd a10 s10 _ rfl o10' rn10 (λ_=>?_))
       rw[ew];refine rn10.shut mok hin λe s' stp=>?_;obtain⟨_,r',hr',sh',_⟩:=stp;rw[<- e,hrow]at hr';cases hr';rw[<- e,sh]at sh';cases sh'
      ·have stp:Stp mk s10 (s10.go mk.kinds hd.name r) hd:=(xga hin r hrow sh rfl)
       refine(xcd a11 _ _ rfl (o10'.step f11 (by rw[stp.tot mok];exact h11)) (rn10.go mok stp lt) (λ_=>rn10.go mok stp lt))
     ·refine(xcd a10 s10 _ rfl o10' rn10 (λ_=>?_))
      rw[ew];refine rn10.shut mok hin λe s' stp lt=>?_;rw[e]at c;exact c (zDT (by omega))
    ·rintro σ H10 ⟨a10,s10,o10,rfl,o10',rn10,last⟩
     exact(jEEE a10 s10 _ (jEAA _ rfl o10' (last (by omega))))
   ·rintro σ H9 ⟨a9,s9,o9,o10,rfl,o9',rn⟩
    rw[zLM,zTL (Nat.le_refl _)]at rn;exact(xan a9 s9 _ _ _ (xcd _ _ _ rfl (o8'.trans o9') rn.rt (rn.end_ mok all hmin)))
  obtain⟨p7,q7,hf7⟩:=o7'.f;refine(xaa _ rfl fd p7 q7 2 rfl hf7 (by decide) (by decide) (λr H8 r0'' r1'' f8=>(jAEA rfl _ rfl (ite2 (λc=>?_) (λc=>?_)))))
  ·have o8':=o7'.take f8
   have hnp8:=f8.1 _ _ hnp7 npf;refine(xbj _ rfl (.inl (jAE rfl _ (SqL.of hnp8))) np _ rfl rfl ⟨hnp8,?_⟩);rw[<- List.map_reverse];exact KT _ ws.reverse (o8'.put hnp1 npf hnp8 nnp) ups (λz hz=>List.mem_reverse.mpr (hin0 z hz)) λz hz=>hin1 z (List.mem_reverse.mp hz)
  ·exact KT _ ws (o7'.take f8) (f8.1 _ _ hnp7 npf) hin0 hin1
 ·rintro σ H2 ⟨a2,s2,o5,o6,o7,o8,o9,o10,rfl,o2,rt2,hmin⟩
  have ht:s2=t:=rt2.eq_tot mok (by omega);subst ht;refine hR2 _ _ ?_;obtain⟨fs,hxx,lf⟩:=o2.hs.at_.ob;refine(xa3 _ rfl hl rfl ⟨_,SqL.of (keepL o2)⟩ ?_);refine xdc (xs:=(hn mk).map V.str) (λi ys H'=>H'=H2/\ys=((hn mk).take i).map λz=>V.int (s2.ct z:Nat)) ⟨rfl,by rw[List.take_zero];rfl⟩ (xa5 (by omega)) (λi ys H' _ p=>by rw[p.1];exact SqL.of (keepL o2)) ?_ ?_
  ·rintro i y ys H' hy hi hly ⟨rfl,rfl⟩
   rw[zGM]at hy;obtain⟨z,hz,rfl⟩:=zMS hy;refine⟨ext1 rfl,xdh ?_⟩;refine(xbc _ rfl x _ fs rfl hxx (lf.no _ (by walk_at"k")) _ rfl (xan x mv z a2 s2 (xbt mk rfl o2.hs.at_ (zMG hz) (nxtG hi hly ⟨rfl,?_⟩))));rw[xch hz,zAP];rfl
  rintro ys H' hly ⟨rfl,rfl⟩ D1 hD1;rw[zTL (show(hn mk).length<=((hn mk).map V.str).length by rw[hnl4,hnl];exact Nat.le_refl _)];have sD1:=Same.new hD1 (.lst ((hn mk).map λz=>V.int (s2.ct z:Nat)));have o3:=o2.same sD1;refine(xa3 _ rfl hl rfl ⟨_,SqL.of (keepL o3)⟩ ?_);have hD11:upd H' D1 (.lst ((hn mk).map λz=>V.int (s2.ct z:Nat))) D1=some (.lst ((hn mk).map λz=>V.int (s2.ct z:Nat))):=ups;generalize upd H' D1 (.lst ((hn mk).map λz=>V.int (s2.ct z:Nat)))=H3 at o3 hD11⊢;refine xdc (xs:=(hn mk).map V.str) (λi ys H'=>H'=H3/\ys=((hn mk).take i).map λz=>V.int (s2.ct z:Nat)) ⟨rfl,by rw[List.take_zero];rfl⟩ (xa5 (by omega)) (λi ys H' _ p=>by rw[p.1];exact SqL.of (keepL o3)) ?_ ?_
  ·rintro i y ys H' hy hi hly ⟨rfl,rfl⟩
   rw[zGM]at hy;obtain⟨z,hz,rfl⟩:=zMS hy;refine⟨ext1 rfl,xdh ?_⟩;refine(jEA _ rfl (xat _ rfl d _ rfl (gdK (keepD o3) (zMG hz)) (nxtG hi hly ⟨rfl,?_⟩)));rw[xch hz,zAP];rfl
  rintro ys H'' hly ⟨rfl,rfl⟩ D2 hD2;rw[zTL (show(hn mk).length<=((hn mk).map V.str).length by rw[hnl4,hnl];exact Nat.le_refl _)];have sD2:=Same.new hD2 (.lst ((hn mk).map λz=>V.int (s2.ct z:Nat)));have o4:=o3.same sD2;refine(xas D1 D2 _ _ rfl rfl (SqL.of (sD2 _ _ hD11)) (SqL.of ups) ?_ ⟨?_,?_⟩)
  ·exact List.all_eq_true.mpr λv hv=>by obtain⟨z,_,rfl⟩:=zMP hv;rfl
  ·exact List.all_eq_true.mpr λv hv=>by obtain⟨z,_,rfl⟩:=zMP hv;rfl
  ·rw[xiy (f:=λz=>((s2.ct z:Nat):Int))]
   exact q a2 _ (o1.trans o4)
theorem xjz{a i:Hp}{C x f:Addr}(g:a x=none)(c:a f=none)(s:SameBut x (upd (upd a f (.own x)) x (.ins C f [])) i):Same a i/\∀b,(b=x\/upd (upd a f (.own x)) x (.ins C f []) b=none)->a b=none:=by
 refine⟨λb o e=>s b o ?_ (neN e g),λb h=>?_⟩
 ·rw[xar (neN e g),xar (neN e c)]
  exact e
 ·rcases h with rfl |h
  ·exact g
  ·cases e:a b with
   |none=>rfl
   |some o=>
    rw[xar (neN e g),xar (neN e c),e]at h;cases h
structure HsOn(K:Fg)(HB H:Hp)(x:Addr)(mv:V)(a:HsA)(s:HSt)(mk:Mak)(N:Nat):Prop where
 sm:Same HB H
 fr:∀b,a.F mk x b->HB b=none
 hs:HsHere K H x mv a s mk N
theorem HsOn.same{K:Fg}{e H f:Hp}{x:Addr}{b:V}{a:HsA}{s:HSt}{c:Mak}{N:Nat}(o:HsOn K e H x b a s c N)(q:Same H f):HsOn K e f x b a s c N:=⟨o.sm.trans q,o.fr,o.hs.same q⟩
theorem HsOn.step{K:Fg}{m H j:Hp}{x:Addr}{g:V}{a i:HsA}{s s':HSt}{c:Mak}{N l:Nat}(o:HsOn K m H x g a s c N)(f:HFr c x a i H j)(h:HsHere K j x g i s' c l):HsOn K m j x g i s' c l:=by
 refine⟨λb u e=>f.fr b u (o.sm b u e) λz=>?_,λb n=>?_,h⟩
 ·rw[o.fr b z]at e;cases e
 ·rcases f.nw b n with q |q
  ·exact o.fr b q
  ·exact xav o.sm q
theorem HsOn.out{K:Fg}{g H:Hp}{x l:Addr}{c:V}{a:HsA}{s:HSt}{b:Mak}{N:Nat}(o:HsOn K g H x c a s b N)(f:H l=none):¬a.F b x l:=λh=>by
 obtain⟨u,e,_⟩:=o.hs.at_.there l h;rw[f]at e;cases e
theorem xuf{us:List V}{i j:Nat}(h:i<=j)(a:j<=us.length):cutV us (some (i:Int)) (some (j:Int))=(us.drop i).take (j-i):=by
 unfold cutV;rw[HT.sIx_nat,HT.sIx_nat,Nat.min_eq_left a,Nat.min_eq_left (Nat.le_trans h a)]
theorem xbu{H:Hp}{t:Addr}{us:List V}{ds:List D}(a:H t=none)(h:RelDs H us ds):RelD (upd H t (.tup us)) (.ref t) (.tup ds):=(xaw t us rfl ups (h.same (Same.new a _) _))
theorem xbk{H:Hp}{u:V}{d:D}{us:List V}{ds:List D}(h:RelD H u d)(r:RelDs H us ds):RelDs H (u::us) (d::ds):=(xaw u us rfl h r)
theorem xmz(v:Str)(k:Nat):(List.replicate k [V.str v]).flatten=(List.replicate k v).map V.str:=by
 induction k with
 |zero=>rfl
 |succ k a=>rw[List.replicate_succ,List.flatten_cons,a,List.replicate_succ];rfl
theorem xjq{H:Hp}:∀(l:List Nat),RelDs H (l.map λi:Nat=>V.int (1+(i:Int))) (l.map λi:Nat=>D.int ((i+1:Nat):Int))
 |[]=>rfl
 |i::l=>(xaw _ _ rfl (show V.int (1+(i:Int))=V.int ((i+1:Nat):Int) by congr 1;omega) (xjq l))
theorem xk9(k:Nat):xep ((List.range k).map λi:Nat=>D.int ((i+1:Nat):Int))<=100:=xdy λd hd=>by
 obtain⟨i,_,rfl⟩:=zMP hd;show D.deep (.int _)<=100;unfold D.deep;decide
theorem iteN{p:Prop}[Decidable p]{A B:Prop}(a:p)(h:B):if (!decide p)=true then A else B:=by
 rw[zDT a];exact h
def xqg(K:Fg):Sp:=λvs H Q _=>∃(nb:Addr) (many:Nat) (nms:List Str),vs=[.ref nb,.int many]/\H nb=some (.lst (nms.map V.str))/\xhk nms/\many<=80/\∀H',Same H H'->Q (.bl true) H'
theorem xpd(T:Tx K mg)(M:MethIs P w K mg base n (ad K "Plain") "__init__" qag [[]] (xgx K))(u:MethIs P w K mg base (n+1) (ad K "Plain") "weave" qar [[]] (xe4 K))(p:MethIs P w K mg base (n+1) (ad K "Plain") "letters" qaq [[]] (xjj K))(J:MethIs P w K mg base (n+1) (ad K "Plain") "told" qaa [[]] (xji K)):DefIs P w K mg base (n+2) "_law_long" qbf (xqg K):=by
 refine DefIs.of T.kJ scl_long (by walk_at"l") (λf cp A outer s H vs Q E hr h=>?_);obtain⟨nb,many,O,rfl,ba,b8,ci,q⟩:=h;have nd:=scl_long.nd;have hu:=xeh hr;have b5:=xqy hr
 refine⟨_,(zpn (xc6 (xcn xde (pv 0) xdm (xcm pI)) (xm4 (K:=K) rfl rfl (xae (pgn 2 nd) (xae (pgn 3 nd) xbh))))
   (zpn (xc6 (xcn xde (pv 0) (xcm pI) (xcm pI)) (xm4 (K:=K) rfl rfl (xae (pgn 4 nd) (xae (pgn 5 nd) xbh))))
   (zpn (psn 6 nd (xak (pc pS (pc pS (pc (xak (pc pS (v1 5) so)) (pc (xak (pc pS (pc pI pN so) so)) pN sT) sT) so) so)))
   (zpn (psn 7 nd (xak (pc (xak (pc pS (va 5 (v1 6)) so)) (pc (xak (pc pS (va 4 (pc (xak (pc pS (v1 5) so)) pN sT)) so)) (pc (xak (pc pS (pc pI pN so) so)) pN sT) sT) sT)))
   (zpn (psn 8 nd (xak (pc (xak (pc pS (va 5 (va 4 (v1 5))) so)) (pc (xak (pc pS (pc (xak (pc pS (v1 5) so)) pN sT) so)) (pc (xak (pc pS (pc pI pN so) so)) pN sT) sT) sT)))
   (zpn (psn 9 nd (xak (pc (xak (va 5 (pc pS pN so))) pN sT)))
   (zpn (psn 10 nd (xak (pc (xak (va 2 (va 9 (v1 7)))) (pc (xak (va 3 (va 9 (v1 8)))) pN sT) sT)))
   (zpn (psn 11 nd (xfo (ds:=[]) (dvs:=[]) M T.kZ hr T.kY (by simp) .nil (pc (xak (pc (xak pN) (pc (xak (pc (xak (va 4 (va 2 (va 3 (pc pS pN so))))) pN sT)) (v1 10) sT) sT)) pN sT)))
   (zpn (psn 12 nd (xh8 rfl rfl T.kR rfl T.kU (pc pI (pc (xaj xba (pv 1) pI) pN xaz) so)))
   (zpn (xa8 (PW.pt (xlr (pR xr0 (xb2 u T.kZ.cl hr (pv 11) (pc (xaj xqq (xca (v1 2)) (xaj xcr pI (pv 1))) pN xaz)) (xaj xcr pI (pv 1)) (nM _)) (xku (pR (xm6 b5) (xb2 p T.kZ.cl hr (pv 11) (v1 4)) (pv 12) (nM _))))) (zpo (xaf xjs)) pQ)
   (zpn (xa8 (pR xr0 (xb2 u T.kZ.cl hr (pv 11) (pc (xaj xqq (xca (v1 3)) (xaj xba (xaj xcr pI (pv 1)) pI)) pN xaz)) (xaj xcr pI (pv 1)) (nM _)) (zpo (xaf xjs)) pQ)
   (zpo (xaf (xqp (xdn (xm8 b5) (xb2 J T.kZ.cl hr (pv 11) (v1 3)) (pv 12) (nM _)) (xqn (xdn (xtv (Nat.lt_of_succ_lt hu)) (xb2 p T.kZ.cl hr (pv 11) (v1 4)) (xca pN) (nM _))))))))))))))))),xab λR1 bw=>?_⟩
 have ag:=b8.1
 obtain⟨o,g,an⟩:∃o g,O.take 2=[o,g]:=by
  match O,ag with
  |a::b::_,_=>exact(jEE a b rfl)
 obtain⟨r,m,ch⟩:∃o g,(O.drop 12).take 2=[o,g]:=by
  have:(O.drop 12).length=14:=by rw[List.length_drop,ag]
  match O.drop 12,this with
  |a::b::_,_=>exact(jEE a b rfl)
 have a5:o≠g:=λe=>by
  have C:O[0]?=some o:=by
   have:=congrArg (λl=>l[0]?) an;simpa[List.getElem?_take] using this
  have y:O[1]?=some g:=by
   have:=congrArg (λl=>l[1]?) an;simpa[List.getElem?_take] using this
  have:=(List.getElem?_inj (by omega) b8.2.1).mp (C.trans (by rw[e];exact y.symm));omega
 refine(jEA _ rfl (xat _ rfl nb _ rfl (SqL.of ba) (λn1 bc=>?_)));rw[show cutV (O.map V.str) none (some (2:Int))=[.str o,.str g] from(xlb _ 2).trans (by rw[<- List.map_take,an];rfl)]at *
 have s1:=Same.new bc (.lst [.str o,.str g]);refine(xa2 n1 _ rfl (SqL.of ups) rfl _ _ rfl _ (jEAA _ rfl rfl (bw _ _ (xab λR2 br=>?_))));refine(xap _ rfl _ rfl _ rfl nb _ rfl (SqL.of (s1 _ _ ba)) (λn2 bb=>?_));rw[show cutV (O.map V.str) (some (12:Int)) (some (14:Int))=[.str r,.str m] from(xuf (i:=12) (j:=14) (by decide) (by rw[zLM];omega)).trans (by rw[<- List.map_drop,<- List.map_take,ch];rfl)]at *
 have s2:=s1.trans (Same.new bb (.lst [.str r,.str m]));refine(xa2 n2 _ rfl (SqL.of ups) rfl _ _ rfl _ (jEAA _ rfl rfl (br _ _ (xab λR3 bq=>?_))));generalize upd (upd H n1 (.lst [.str o,.str g])) n2 (.lst [.str r,.str m])=H2 at s2⊢;clear bb s1 bc
 suffices K3:∀H3 t3,Same H H3->RelD H3 (.ref t3) (tOpD (S "+") (tBox m) (tNum 1))->R3 [some (.ref nb),some (.int many),some (.str o),some (.str g),some (.str r),some (.str m),some (.ref t3),none,none,none,none,none,none] H3 by
  refine(jEAA _ rfl (by walk_at"s") (λU C=>⟨(by walk_at"s"),λG y=>⟨(by walk_at"s"),λu3 h3=>?_⟩⟩));have I:=Same.new C (.tup [.str (S "box"),.str m]);have Z:=Same.new y (.tup [.str (S "num"),.int 1]);have r1:RelD _ (.ref U) (tBox m):=xbu C (xbk rfl (xbk rfl rfl));have r2:RelD _ (.ref G) (tNum 1):=xbu y (xbk rfl (xbk rfl rfl));exact K3 _ u3 (s2.trans (I.trans (Z.trans (Same.new h3 _)))) (xbu h3 (xbk rfl (xbk rfl (xbk (r1.same Z _) (xbk r2 rfl)))))
 intro H3 t3 s3 r3;refine bq _ _ (xab λR4 bp=>?_)
 suffices K4:∀H4 t4,Same H3 H4->RelD H4 (.ref t4) (.tup ((lgS r m).map Row.d))->R4 [some (.ref nb),some (.int many),some (.str o),some (.str g),some (.str r),some (.str m),some (.ref t3),some (.ref t4),none,none,none,none,none] H4 by
  refine(xa3 _ rfl _ rfl (by walk_at"s") (λU C=>(xa3 _ rfl _ rfl (by walk_at"s") (λG y=>⟨(by walk_at"s"),λu3 h3=>⟨(by walk_at"s"),λu4 h4=>⟨(by walk_at"s"),λu5 h5=>?_⟩⟩⟩))));have I:=Same.new C (.tup [.str (S "set"),.str m,.ref t3]);have Z:=Same.new y (.tup [.str (S "box"),.str m]);have q3:=Same.new h3 (.tup [.str (S "send"),.str r,.ref G]);have q4:=Same.new h4 (.tup [.str (S "go"),.int 0]);have r1:RelD _ (.ref U) (Row.set m (tOpD (S "+") (tBox m) (tNum 1))).d:=xbu C (xbk rfl (xbk rfl (xbk r3 rfl)));have r2:RelD _ (.ref G) (tBox m):=xbu y (xbk rfl (xbk rfl rfl));have ak:RelD _ (.ref u3) (Row.send r (tBox m)).d:=xbu h3 (xbk rfl (xbk rfl (xbk r2 rfl)));have r4:RelD _ (.ref u4) (Row.go 0).d:=xbu h4 (xbk rfl (xbk rfl rfl));exact K4 _ u5 (I.trans (Z.trans (q3.trans (q4.trans (Same.new h5 _))))) (xbu h5 (xbk (r1.same (Z.trans (q3.trans q4)) _) (xbk (ak.same q4 _) (xbk r4 rfl))))
 intro H4 t4 s4 r4;refine bp _ _ (xab λR5 bo=>?_)
 suffices K5:∀H5 t5,Same H4 H5->RelD H5 (.ref t5) (.tup ((lgT r m).map Row.d))->R5 [some (.ref nb),some (.int many),some (.str o),some (.str g),some (.str r),some (.str m),some (.ref t3),some (.ref t4),some (.ref t5),none,none,none,none] H5 by
  refine(jEA _ rfl (xa3 _ rfl _ rfl (by walk_at"s") (λU C=>(jEAA _ rfl (by walk_at"s") (λG y=>⟨(by walk_at"s"),λu3 h3=>⟨(by walk_at"s"),λu4 h4=>⟨(by walk_at"s"),λu5 h5=>?_⟩⟩⟩)))));have I:=Same.new C (.tup [.str (S "take"),.str m,.str r,.str m]);have Z:=Same.new y (.tup [.str (S "box"),.str m]);have q3:=Same.new h3 (.tup [.str (S "tell"),.ref G]);have q4:=Same.new h4 (.tup [.str (S "go"),.int 0]);have r1:RelD _ (.ref U) (Row.take m r m).d:=xbu C (xbk rfl (xbk rfl (xbk rfl (xbk rfl rfl))));have r2:RelD _ (.ref G) (tBox m):=xbu y (xbk rfl (xbk rfl rfl));have ak:RelD _ (.ref u3) (Row.tell (tBox m)).d:=xbu h3 (xbk rfl (xbk r2 rfl));have c4:RelD _ (.ref u4) (Row.go 0).d:=xbu h4 (xbk rfl (xbk rfl rfl));exact K5 _ u5 (I.trans (Z.trans (q3.trans (q4.trans (Same.new h5 _))))) (xbu h5 (xbk (r1.same (Z.trans (q3.trans q4)) _) (xbk (ak.same q4 _) (xbk c4 rfl))))
 intro H5 t5 s5 r5;refine bo _ _ (xab λR6 bn=>?_)
 suffices K6:∀H6 t6,Same H5 H6->RelD H6 (.ref t6) (xda [(m,S "num")])->R6 [some (.ref nb),some (.int many),some (.str o),some (.str g),some (.str r),some (.str m),some (.ref t3),some (.ref t4),some (.ref t5),some (.ref t6),none,none,none] H6 by
  refine(jEAA _ rfl (by walk_at"s") (λU C=>⟨(by walk_at"s"),λG y=>?_⟩));have I:=Same.new C (.tup [.str m,.str (S "num")]);exact K6 _ G (I.trans (Same.new y _)) (xbu y (xbk (xbu C (xbk rfl (xbk rfl rfl))) rfl))
 intro H6 t6 s6 r6;refine bn _ _ (xab λR7 bm=>?_)
 suffices K7:∀H7 t7,Same H6 H7->RelD H7 (.ref t7) (.tup ((lgM o g r m).hands.map Hand.d))->R7 [some (.ref nb),some (.int many),some (.str o),some (.str g),some (.str r),some (.str m),some (.ref t3),some (.ref t4),some (.ref t5),some (.ref t6),some (.ref t7),none,none] H7 by
  refine(jEA _ rfl (xa3 _ rfl _ rfl (by walk_at"s") (λU C=>(jEA _ rfl (xa3 _ rfl _ rfl (by walk_at"s") (λG y=>⟨(by walk_at"s"),λu3 h3=>?_⟩))))));have I:=Same.new C (.tup [.str o,.ref t6,.ref t4]);have Z:=Same.new y (.tup [.str g,.ref t6,.ref t5]);have r1:RelD _ (.ref U) (lgA o r m).d:=xbu C (xbk rfl (xbk r6 (xbk (r4.same (s5.trans s6) _) rfl)));have r2:RelD _ (.ref G) (lgB g r m).d:=xbu y (xbk rfl (xbk (r6.same I _) (xbk (r5.same (s6.trans I) _) rfl)));exact K7 _ u3 (I.trans (Z.trans (Same.new h3 _))) (xbu h3 (xbk (r1.same Z _) (xbk r2 rfl)))
 intro H7 t7 s7 r7;refine bm _ _ (xab λR8 cg=>?_);have c3:Same H H7:=s3.trans (s4.trans (s5.trans (s6.trans s7)));clear s3 s4 s5 s6 s7 r3 r4 r5 r6 bw br bq bp bo bn bm R1 R2 R3 R4 R5 R6 R7;have c8:=xnu (c:=r) (x:=m) a5
 suffices K8:∀HB H8 x mv a,Same H HB->HsOn K HB H8 x mv a (hs0 (lgM o g r m)) (lgM o g r m) 0->R8 [some (.ref nb),some (.int many),some (.str o),some (.str g),some (.str r),some (.str m),some (.ref t3),some (.ref t4),some (.ref t5),some (.ref t6),some (.ref t7),some (.ref x),none] H8 by
  refine⟨(by walk_at"s"),λU C=>(jEA _ rfl (xa3 _ rfl _ rfl (by walk_at"s") (λG y=>⟨(by walk_at"s"),λu3 h3=>(jEAA _ rfl (by walk_at"s") (λu4 h4=>λx dx hx bj ne=>?_))⟩)))⟩;have I:=Same.new C (.tup []);have Z:=Same.new y (.tup [.str r,.str o,.str g,.str (S "num")]);have q3:=Same.new h3 (.tup [.ref G]);have r1:RelD _ (.ref U) (xdk (lgM o g r m).kinds):=xbu C rfl;have r2:RelD _ (.ref G) (dChn (r,o,g,S "num")):=xbu y (xbk rfl (xbk rfl (xbk rfl (xbk rfl rfl))));have r3:RelD _ (.ref u3) (.tup ((lgM o g r m).chans.map dChn)):=xbu h3 (xbk r2 rfl);have r4:RelD _ (.ref u4) (lgM o g r m).d:=xbu h4 (xbk (r1.same (Z.trans q3) _) (xbk r3 (xbk (r7.same (I.trans (Z.trans q3)) _) rfl)));refine(xah x dx (.ref u4) (lgM o g r m) rfl ups (r4.same ((Same.new bj _).trans (Same.new (by rw[xar (Ne.symm ne)];exact hx) _)) _) c8 (λa H8 sb fr hs=>⟨rfl,?_⟩));obtain⟨sA,nw⟩:=xjz hx bj sb;exact K8 _ _ x _ a (c3.trans (I.trans (Z.trans (q3.trans (Same.new h4 _))))) ⟨sA,λb hb=>nw b (fr b hb),hs⟩
 intro HB H8 x mv a s8 ax;refine cg _ _ (xab λR9 cf=>?_);refine(xbf _ rfl _ _ rfl rfl 1 _ rfl (jAAA (by omega) (by omega) (by omega) (by omega)) (λl9 h9=>cf _ _ (xab λcr bv=>?_)));have q9:=Same.new h9 (.lst ((List.range ((many:Int)+1-1).toNat).map λ(k:Nat)=>V.int (1+(k:Int))))
 have bd:upd H8 l9 (.lst ((List.range ((many:Int)+1-1).toNat).map λ(k:Nat)=>V.int (1+(k:Int)))) l9=some (.lst ((List.range many).map λ(k:Nat)=>V.int (1+(k:Int)))):=by
  rw[ups,show((many:Int)+1-1).toNat=many by omega]
 have az:¬a.F (lgM o g r m) x l9:=ax.out h9;have a7:=ax.same q9;generalize upd H8 l9 (.lst ((List.range ((many:Int)+1-1).toNat).map λ(k:Nat)=>V.int (1+(k:Int))))=H9 at a7 bd⊢;obtain⟨fs,b3,lf⟩:=a7.hs.at_.ob;have c9:=lg0 (c:=r) (x:=m) a5;refine(xbc _ rfl x _ fs rfl b3 (lf.no _ (by walk_at"k")) _ rfl ⟨(by walk_at"s"),λU C=>?_⟩);refine(xat _ rfl _ _ rfl rfl (jAE (.inl ⟨by decide,by decide⟩) U (xa6 _ _ rfl rfl ups (by omega) (by omega) ⟨?_,λG y=>?_⟩)))
 ·refine fits ?_
  show 1*(3*(many:Int)).toNat<=_;omega
 have e3:(3*(many:Int)).toNat=3*many:=by omega
 rw[e3,xmz]at *
 have I:=(Same.new C (.lst [.str o])).trans (Same.new y (.lst ((List.replicate (3*many) o).map V.str)));have am:=(a7.same (Same.new C (.lst [.str o]))).out y;have Y:upd (upd H9 U (.lst [.str o])) G (.lst ((List.replicate (3*many) o).map V.str)) G=some (.lst ((List.replicate (3*many) o).map V.str)):=ups;have a4:=a7.same I;have a6:=I _ _ bd;generalize upd (upd H9 U (.lst [.str o])) G (.lst ((List.replicate (3*many) o).map V.str))=cz at a4 Y a6⊢;clear C y I b3 lf;have cd:∀(k:Nat),∀z∈List.replicate k o,z∈hn (lgM o g r m):=λk z hz=>by rw[List.eq_of_mem_replicate hz];exact List.mem_cons_self ..
 have b9:∀(k:Nat),∀z∈List.replicate k g,z∈hn (lgM o g r m):=λk z hz=>by rw[List.eq_of_mem_replicate hz];exact List.mem_cons_of_mem _ (List.mem_cons_self ..)
 refine(xan x G mv a _ (xal (lgM o g r m) 0 (List.replicate (3*many) o) rfl a4.hs Y (cd _) (jAA am (by rw[List.length_replicate];omega) (λc7 aq aj cy ao b7 _ er et=>?_))));obtain⟨la,ta⟩:=c9.all a5 many (by omega);rw[<- er]at la ta;have a3:=a4.step ao b7;have bi:=ao.fr _ _ a6 az;have b2:c7=3*many:=by omega
 subst b2;refine(xat _ rfl _ _ rfl rfl (jAA (.inl ⟨by decide,by decide⟩) rfl (jEA _ rfl (iteN (by show V.int _=V.int _;congr 1) ?_))));have bl:r∈cn (lgM o g r m):=List.mem_cons_self ..;have ce:g∈hn (lgM o g r m):=List.mem_cons_of_mem _ (List.mem_cons_self ..);obtain⟨fs,b4,lf⟩:=a3.hs.at_.ob;refine(xbc _ rfl x _ fs rfl b4 (lf.no _ (by walk_at"k")) _ rfl (xan x mv r aq aj (xbt _ rfl a3.hs.at_ bl (λcc us c1 aw cm bh af=>?_))));have a2:=a3.same aw;have ah:=aw _ _ bi;rw[la.bt]at af;refine(xbt _ rfl (EqS.dat (.inr (xag cc l9 us _ _ rfl rfl bh ah af ⟨xjq _,xk9 _⟩))) (jEEA _ _ rfl rfl) (jEA _ rfl (iteF (bv _ _ (xab λcq bu=>?_)))))
 have b0:¬aq.F (lgM o g r m) x l9:=λz=>by
  rcases ao.nw l9 z with w |w
  ·exact az w
  ·rw[a6]at w;cases w
 obtain⟨fs,ab,lf⟩:=a2.hs.at_.ob;refine(xbc _ rfl x _ fs rfl ab (lf.no _ (by walk_at"k")) _ rfl ⟨(by walk_at"s"),λU C=>?_⟩);refine(xat _ rfl _ _ rfl rfl (jAE (.inl ⟨by decide,by decide⟩) _ (jEAA _ rfl rfl (xal U _ _ rfl rfl ups (by omega) (jAA (by omega) ?_ (λG y=>?_))))))
 ·refine fits ?_
  show 1*(3*(many:Int)+5).toNat<=_;omega
 have e5:(3*(many:Int)+5).toNat=3*many+5:=by omega
 rw[e5,xmz]at *
 have I:=(Same.new C (.lst [.str g])).trans (Same.new y (.lst ((List.replicate (3*many+5) g).map V.str)));have am:=(a2.same (Same.new C (.lst [.str g]))).out y;have Y:upd (upd c1 U (.lst [.str g])) G (.lst ((List.replicate (3*many+5) g).map V.str)) G=some (.lst ((List.replicate (3*many+5) g).map V.str)):=ups;have a1:=a2.same I;have ai:=I _ _ ah;generalize upd (upd c1 U (.lst [.str g])) G (.lst ((List.replicate (3*many+5) g).map V.str))=cx at a1 Y ai⊢;clear C y I ab lf;refine(xan x G mv aq aj (xal (lgM o g r m) _ (List.replicate (3*many+5) g) rfl a1.hs Y (b9 _) (jAA am (by rw[List.length_replicate,List.length_replicate];omega) (λc6 c0 av cw bx b6 _ bz co=>?_))));have lb:LgB o g r m many 0 aj:=⟨la.sb,by rw[la.bt,List.drop_zero],la.tl⟩;obtain⟨a8,c2⟩:=lb.all a5 many (Nat.le_refl _);rw[show List.replicate (3*many+5) g=List.replicate (3*many) g++List.replicate 5 g from List.replicate_append_replicate.symm,xg3,a8.rest a5]at bz;rw[<- bz]at a8 c2;have a0:=a1.step bx b6;have bg:=bx.fr _ _ ai b0;have b1:c6=3*many:=by omega
 subst b1;refine(xat _ rfl _ _ rfl rfl (jAA (.inl ⟨by decide,by decide⟩) rfl (jEA _ rfl (iteN (by show V.int _=V.int _;congr 1) (bu _ _ ?_)))));obtain⟨fs,aa,lf⟩:=a0.hs.at_.ob;refine(xbc _ rfl x _ fs rfl aa (lf.no _ (by walk_at"k")) _ rfl (xan x mv g c0 av (xbt _ rfl a0.hs.at_ ce (λcb au cv al ck bf ae=>?_))));rw[a8.tl]at ae;have a9:=a0.same al;refine(xbt _ rfl (EqS.dat (.inr (xag cb l9 au _ _ rfl rfl bf (al _ _ bg) ae ⟨xjq _,xk9 _⟩))) (jEEA _ _ rfl rfl) (jEA _ rfl (iteT ?_)));refine(xbc _ rfl x _ fs rfl (al _ _ aa) (lf.no _ (by walk_at"k")) _ rfl (xan x mv r c0 av (xbt _ rfl a9.hs.at_ bl (λca ar cu c5 cj be ac=>?_))));rw[a8.bt,List.drop_of_length_le (by rw[zLM,List.length_range];exact Nat.le_refl _)]at ac;obtain rfl:ar=[]:=ac;have ay:=a9.same c5;refine⟨(by walk_at"s"),λe he=>(xal ca e ([]) rfl rfl (SqL.of (Same.new he _ _ _ be)) (SqL.of ups) ?_)⟩;exact q _ (s8.trans (ay.sm.trans (Same.new he _)))
def spLaw(K:Fg):Sp:=λvs H Q _=>∃(a:Addr) (ns:List Int),vs=[.ref a]/\SqL K H a (ns.map V.int)/\ns.length<=63/\∀H',Q (.bl true) H'
theorem tot0(a:Mak):tot a (hs0 a)=0:=by
 unfold tot;generalize hn a=ns
 induction ns with
 |nil=>rfl
 |cons y ys b=>rw[List.map_cons,List.sum_cons,b];rfl
theorem xpp{ns:List Str}(nd:ns.Nodup){f:Str->V}{i:Nat}{z:Str}(hz:ns[i]?=some z):putK (mapK (ns.take i) f) (Sum.inr z) (f z)=mapK (ns.take (i+1)) f:=by
 unfold putK;rw[if_neg]
 ·rw[xch hz]
  unfold mapK;rw[zAP];rfl
 ·intro h
  obtain⟨c,b,e⟩:=List.any_eq_true.mp h;obtain⟨y,a,rfl⟩:=zMP b;exact xgs nd hz y a (Sum.inr.inj (of_decide_eq_true e))
theorem xtb(a:Mak)(t:HSt):((hn a).map λz=>((t.ct z:Nat):Int)).sum=(tot a t:Nat):=by
 unfold tot;generalize hn a=ns
 induction ns with
 |nil=>rfl
 |cons y ys b=>rw[List.map_cons,List.sum_cons,b,List.map_cons,List.sum_cons];omega
theorem xq9(a:Mak)(t:HSt):(mapK (hn a) λz=>V.int (t.ct z:Nat)).map (·.2)=((hn a).map λz=>((t.ct z:Nat):Int)).map V.int:=by
 generalize hn a=ns;unfold mapK;rw[List.map_map,List.map_map];rfl
theorem xma{a:Mak}(b:MakOk a){s:HSt}{z:Str}{r:Row}:tot a (s.go a.kinds z r)<=tot a s+1:=by
 have h:=xmd (f:=s.ct) (x:=z) b.hnd;by_cases e:z∈hn a
 ·exact Nat.le_of_eq (h.1 e)
 ·exact Nat.le_succ_of_le (Nat.le_of_eq (h.2 e))
theorem xrd{a:Mak}(b:MakOk a){s:HSt}{z:Str}:tot a (s.try_ a z)<=tot a s+1:=by
 unfold HSt.try_;split
 ·split
  ·split
   ·exact Nat.le_succ _
   ·exact xma b
  ·exact Nat.le_succ _
 ·exact Nat.le_succ _
theorem xl9{a:Mak}(b:MakOk a):∀(ws:List Str) (s:HSt),tot a (runH a s ws)<=tot a s+ws.length
 |[],s=>Nat.le_refl _
 |z::ws,s=>by
  have e:=xl9 b ws (s.try_ a z);have c:=xrd (s:=s) (z:=z) b;show tot a (runH a (s.try_ a z) ws)<=_;rw[List.length_cons];omega
theorem xg4{H:Hp}:∀(l:List Str),RelDs H (l.map V.str) (l.map D.str)
 |[]=>rfl
 |i::l=>(xaw _ _ rfl rfl (xg4 l))
theorem xme(l:List Str):xep (l.map D.str)<=100:=xdy λd hd=>by
 obtain⟨i,_,rfl⟩:=zMP hd;show D.deep (.str _)<=100;unfold D.deep;decide
theorem xtx (T:Tx K mg) (a9:DefIs P w K mg base (n+2) "_law_feed" qal (xhw K)) (a0:DefIs P w K mg base (n+2) "_law_names" qa7 xmi) (a7:DefIs P w K mg base (n+2) "_law_make" qa1 (xmk K)) (o:DefIs P w K mg base (n+2) "_law_hands_of" qaj xdl) (r:DefIs P w K mg base (n+2) "_law_weaving" qbd (xhs K)) (l:DefIs P w K mg base (n+2) "_law_state" qa3 (xjg K)) (Z:DefIs P w K mg base (n+2) "_law_other" qbe (xmh K)) (a8:DefIs P w K mg base (n+2) "_law_long" qbf (xqg K))
  (m:MethIs P w K mg base (n+1) (ad K "Plain") "__init__" qag [[]] (xgx K)) (O:MethIs P w K mg base (n+2) (ad K "Plain") "weave" qar [[]] (xe4 K)) (U:MethIs P w K mg base (n+2) (ad K "Plain") "count" qaa [[]] (xe5 K)) :
  DefIs P w K mg base (n+3) "law" ["_law_script"] (spLaw K):=by
 refine DefIs.of T.kK sc_law (by walk_at"l") (λf e3 A outer s H vs Q E hr h=>?_);obtain⟨a,ns,rfl,hS,c5,k⟩:=h;have nd:=sc_law.nd;have hu:=xeh hr;have ck:=xqy hr
 refine⟨_,(zpn (psn 1 nd (pd a0 hr (pc (xe8 (pR xc7 (xaq (xad (K:=K) rfl) rfl T.kQ PySem.boot_len (v1 0)) pI (nM _)) (xaj xb3 (pxl K (pv 0) pI) pI) pI) (pc pI pN so) xoz)))
   (zpn (psn 2 nd (pd a7 hr (va 0 (pc pI (v1 1) so))))
   (zpn (psn 3 nd (xfo (ds:=[]) (dvs:=[]) m T.kZ hr T.kY (by simp) .nil (v1 2)))
   (zpn (psn 4 nd (xfo (ds:=[]) (dvs:=[]) m T.kZ hr T.kY (by simp) .nil (v1 2)))
   (zpn (psn 5 nd (xcn xde (pd r hr (va 0 (pc pI (v1 2) so))) xdm (xcm pI)))
   (zpn (psn 6 nd (xay xb1 rfl T.kR PyProof.Rows.boot_list (v1 5)))
   (zpn (psn 7 nd (xb2 O T.kZ.cl hr (pv 3) (v1 6)))
   (zpn (psn 8 nd xo6)
   (zpn (xcg PassesOwn.never rfl (xbn (K:=K) rfl (pd o hr (v1 2))) (pgn 9 nd)
   (zpo (xg5 hu (pv 8) (pv 9) (xb2 U T.kZ.cl hr (pv 3) (v1 9)) rfl)))
   (zpn (xa8 (PW.pt (xlr (pR xr0 (pv 7) (xge rfl rfl T.kW (pv 8)) (nM _)) (xlr (xkv (xaq xkd rfl T.kP PyProof.Rows.boot_isinstance (va 7 (pc (xts T.kM PyProof.Rows.boot_bool) pN zsn)))) (xku (pR (xm6 ck) (pv 6) (pv 5) (nM _)))))) (zpo (xaf xjs)) pQ)
   (zpn (xa8 (xql (xkv (pd Z hr (va 4 (va 2 (va 8 (pc (pd a9 hr (va 0 (pc pI pN so))) pN zsc))))))) (zpo (xaf xjs)) pQ)
   (zpn (psn 10 nd (xaj xb3 (xaq (xoo rfl) rfl T.kW PyProof.Rows.boot_sum (pc (xcn xde (pv 0) xdm (xcm pI)) pN ss)) pI))
   (zpn (xa8 (PW.pt (xcj (pR xbd (xaj xcb (pv 10) pI) pI (nM _)) (xb8 (xql (xkv (pd a8 hr (va 1 (pc (xaj xba pI (xaj xcb (xaj xb3 (pv 10) pI) pI)) pN xaz)))))))) (zpo (xaf xjs)) pQ)
   (zpo (xaf (xdn (xm8 ck) (pd l hr (va 3 (v1 2))) (pd l hr (va 4 (v1 2))) (nM _))))))))))))))))),xab λR1 dl=>?_⟩
 have K1:∀b H1 Y,Same H H1->H1 b=some (.lst (Y.map V.str))->xhk Y->(∀z∈Y,NoBy z/\NoMo z)->R1 [some (.ref a),some (.ref b),none,none,none,none,none,none,none,none,none] H1:=by
  intro b H1 Y s1 hb au av;refine dl _ _ (xab λR2 dk=>?_);refine(xam _ rfl _ rfl a b ns (xcp 1 Y rfl (s1.seq hS) c5 ⟨hb,au,λz hz=>(av z hz).1⟩ (λmv g H2 s2 md ar cq=>dk _ _ (xab λR3 dj=>?_))));have bw:=s1.trans s2;have db:=s2 _ _ hb;have h4:=ar.hfew;have d8:((hn g).map V.str).length=g.hands.length:=by rw[zLM,zLM]
  clear hb av;refine(jEA _ rfl (λx dx hx c4 ne=>?_));refine(xah x dx mv g rfl ups (md.same (show Same H2 _ from(Same.new c4 _).trans (Same.new (by rw[xar (Ne.symm ne)];exact hx) _)) _) ar (λa1 H3 cd cz cp=>⟨rfl,dj _ _ (xab λR4 di=>?_)⟩));obtain⟨ce,cg⟩:=xjz hx c4 cd;have ay:HsOn K H2 H3 x mv a1 (hs0 g) g 0:=⟨ce,λb hb=>cg b (cz b hb),cp⟩;clear cd cz cg cp hx c4 ne;refine(jEA _ rfl (λy dy hy c3 ne=>?_));refine(xah y dy mv g rfl ups (ay.hs.md.same (show Same H3 _ from(Same.new c3 _).trans (Same.new (by rw[xar (Ne.symm ne)];exact hy) _)) _) ar (λb1 H4 cc cy co=>⟨rfl,di _ _ (xab λR5 dh=>?_)⟩));obtain⟨bu,cf⟩:=xjz hy c3 cc;have be:HsOn K H3 H4 y mv b1 (hs0 g) g 0:=⟨bu,λb hb=>cf b (cy b hb),co⟩;clear cc cy cf co hy c3 ne
  have c7:∀c,b1.F g y c->¬a1.F g x c:=λc h1 h2=>by
   obtain⟨u,e,_⟩:=ay.hs.at_.there c h2;rw[be.fr c h1]at e;cases e
  have aj:=ay.same bu;have fB:∀c,b1.F g y c->H2 c=none:=λc h=>xav ay.sm (be.fr c h);have am:=be.hs;clear ay be bu ce;refine(xam _ rfl _ rfl a ns 7 (xa6 mv g rfl ((bw.trans aj.sm).seq hS) c5 am.md h4 (jAA cq (by decide) (λl0 aw H5 s5 d9 bt bp cj=>?_))));refine(xat _ rfl l0 _ rfl (SqL.of bt) (λlw bh=>dh _ _ (xab λR6 dg=>?_)));rw[show cutV (aw.map V.str) none (some (150:Int))=(aw.take 150).map V.str from(xlb _ 150).trans (List.map_take ..).symm]at *
  have d6:∀z∈aw.take 150,z∈hn g:=λz hz=>bp z (List.mem_of_mem_take hz);have e0:(aw.take 150).length<=150:=List.length_take_le ..;generalize aw.take 150=ws at *
  have sW:=Same.new bh (.lst (ws.map V.str));have ai:=(aj.same s5).same sW;have b0:=(am.same s5).same sW;have ch:=(aj.same s5).out bh;have an:upd H5 lw (.lst (ws.map V.str)) lw=some (.lst (ws.map V.str)):=ups
  have e4:¬b1.F g y lw:=λh=>by
   obtain⟨u,e,_⟩:=(am.same s5).at_.there lw h;rw[bh]at e;cases e
  generalize upd H5 lw (.lst (ws.map V.str))=H6 at ai b0 an⊢;clear bp cj bt d9 s5 sW bh aj am;refine(xat _ rfl lw _ rfl (.inl (SqL.of an)) (λlh c2=>dg _ _ (xab λR7 df=>?_)));have sH:=Same.new c2 (.lst (ws.map V.str));have aa:=ai.same sH;have al:=b0.same sH;have bx:=ai.out c2;have ao:upd H6 lh (.lst (ws.map V.str)) lh=some (.lst (ws.map V.str)):=ups;have b7:=sH _ _ an;generalize upd H6 lh (.lst (ws.map V.str))=H7 at aa al ao b7⊢;clear sH c2 ai b0 an;obtain⟨c6,bg,bf⟩:=aa.hs.at_.ob;refine(xbc _ rfl x _ c6 rfl bg (bf.no _ (by walk_at"k")) _ rfl (xan x lh mv a1 _ (xal g 0 ws rfl aa.hs ao d6 (jAA bx (by omega) (λe2 a2 t H8 f8 cm rc er et=>df _ _ (xab λR8 de=>?_))))));rw[tot0,Nat.zero_add]at et;subst et;have ah:=aa.step f8 cm;have bq:=f8.fr _ _ b7 ch;have br:=f8.fr _ _ ao bx;have ak:HsHere K H8 y mv b1 (hs0 g) g 0:=al.keep f8.tp λc hc u e=>f8.fr c u e (c7 c hc)
  have e1:tot g t<=150:=by
   have:=xl9 ar ws (hs0 g);rw[<- er,tot0]at this;omega
  have dt:∀c,b1.F g y c->¬a2.F g x c:=λc h1 h2=>by
   rcases f8.nw c h2 with w |w
   ·exact c7 c h1 w
   ·obtain⟨u,e,_⟩:=al.at_.there c h1
    rw[w]at e;cases e
  clear f8 aa al ao b7 bg bf c7 bx ch er cm;refine λd hd=>de _ _ (xab λR9 dd=>?_);have d3:¬a2.F g x d:=ah.out hd
  have ci:¬b1.F g y d:=λh=>by
   obtain⟨u,e,_⟩:=ak.at_.there d h;rw[hd]at e;cases e
  have aq:=Same.new hd (.dK []);have bz:=(ak.same aq).md;have bj:upd H8 d (.dK []) d=some (.dK []):=ups;have ax:=ah.same aq;have az:=ak.same aq;have b6:=aq _ _ bq;have b9:=aq _ _ br;have dr:H2 d=none:=xav ah.sm hd;generalize upd H8 d (.dK [])=H9 at bj ax az b6 b9 bz⊢;clear ah ak bq br aq hd;refine(xat _ rfl mv g rfl bz ⟨h4,λhl bi=>?_⟩);have sl:=Same.new bi (.lst ((hn g).map V.str));have a5:upd H9 hl (.lst ((hn g).map V.str)) hl=some (.lst ((hn g).map V.str)):=ups;have da:hl≠d:=λz=>by rw[z,bj]at bi;cases bi
  have a3:=sl _ _ bj;have I:=ax.same sl;have ag:=az.same sl;have J:=sl _ _ b6;have M:=sl _ _ b9;generalize upd H9 hl (.lst ((hn g).map V.str))=c9 at a5 a3 I ag J M⊢;clear ax az b6 b9 sl bi bz bj;have d4:lw≠d:=λz=>by rw[z,a3]at J;cases J
  have d5:lh≠d:=λz=>by rw[z,a3]at M;cases M
  have kp:∀{H':Hp},(∀c,c≠d->H' c=c9 c)->(∃kv,H' d=some (.dK kv))->HsOn K H2 H' x mv a2 t g (0+ws.length)/\HsHere K H' y mv b1 (hs0 g) g 0:=λ{H'} e ⟨kv,ed⟩=>by
   have tp:∀c vs,c9 c=some (.tup vs)->H' c=some (.tup vs):=λc vs h=>by rw[e c λz=>by rw[z,a3]at h;cases h];exact h
   refine⟨⟨λc u h=>?_,I.fr,I.hs.keep tp λc hc u h=>?_⟩,ag.keep tp λc hc u h=>?_⟩
   ·rw[e c λz=>by rw[z,dr]at h;cases h]
    exact I.sm c u h
   ·rw[e c λz=>d3 (by rw[<- z];exact hc)];exact h
   ·rw[e c λz=>ci (by rw[<- z];exact hc)];exact h
  refine(jEAA hl rfl ⟨_,SqL.of a5⟩ ?_);refine xdw (xs:=(hn g).map V.str) (λi σ H'=>∃(o9:Option V),σ=[some (.ref a),some (.ref b),some mv,some (.ref x),some (.ref y),some (.ref lw),some (.ref lh),some (.int (tot g t:Nat)),some (.ref d),o9,none]/\(∀c,c≠d->H' c=c9 c)/\H' d=some (.dK (mapK ((hn g).take i) λz=>.int (t.ct z:Nat)))) (jEAA none rfl (λ_ _=>rfl) (by rw[List.take_zero];exact a3)) (λi σ H' _ p=>by obtain⟨_,_,e,_⟩:=p;exact SqL.of (by rw[e hl da];exact a5)) ?_ ?_
  ·rintro i v σ H' hv ⟨o9,rfl,e,ed⟩
   have hi:=(zES hv).1;rw[zGM]at hv;obtain⟨z,hz,rfl⟩:=zMS hv;have bo:=(kp e ⟨_,ed⟩).1;obtain⟨c6,bg,bf⟩:=bo.hs.at_.ob;refine(xbc _ rfl x _ c6 rfl bg (bf.no _ (by walk_at"k")) _ rfl (xan x mv z a2 t (xbt g rfl bo.hs.at_ (zMG hz) ?_)));refine(jEA _ rfl (xat _ rfl d _ rfl (DPut.k (k:=Sum.inr z) ed (xa5 (by rw[xk3,List.length_take];omega))) ?_));refine(jEAA _ rfl (λc hc=>by rw[xar hc];exact e c hc) ?_);rw[ups,<- xpp ar.hnd hz]
  rintro σ bm ⟨o9,rfl,bl,ab⟩;rw[d8,zTL (show(hn g).length<=g.hands.length by rw[zLM];exact Nat.le_refl _)]at ab;obtain⟨G,af⟩:=kp bl ⟨_,ab⟩;have b8:bm lw=some (.lst (ws.map V.str)):=by rw[bl lw d4];exact J
  have ba:bm lh=some (.lst (ws.map V.str)):=by rw[bl lh d5];exact M
  clear kp I ag J M bl a3 a5;refine dd _ _ (xab λe7 cx=>?_);refine(xb5 _ rfl _ rfl d _ _ rfl ab (xq9 g t) (jAEA rfl _ rfl (iteN (by rw[xtb]) ?_)));refine(xa7 _ rfl _ _ _ _ (xbi _ rfl (λu d7=>d7) (TyOf.int _) rfl (jEA _ rfl (iteF ?_))));refine(xa3 _ rfl _ rfl (EqS.dat (.inr (xag lh lw _ _ _ rfl rfl ba b8 (xg4 ws) ⟨xg4 ws,xme ws⟩))) (jAEA (jEEA _ _ rfl rfl) _ rfl (iteF (cx _ _ (xab λe6 cw=>?_)))));refine(jEA _ rfl (xbp _ rfl _ rfl _ rfl a ns (xbi 7 rfl ((bw.trans G.sm).seq hS) c5 (by decide) (λfd p0 q0 nfd=>?_))));have sf:=Same.new nfd (.lst [.int p0,.int q0]);have a6:upd bm fd (.lst [.int p0,.int q0]) fd=some (.lst [.int p0,.int q0]):=ups;have C:=G.same sf;have a4:=af.same sf;have bb:=sf _ _ ab
  have dm:¬b1.F g y fd:=λh=>by
   obtain⟨u,e,_⟩:=af.at_.there fd h;rw[nfd]at e;cases e
  have dn:¬a2.F g x fd:=G.out nfd;have dq:H2 fd=none:=xav G.sm nfd;generalize upd bm fd (.lst [.int p0,.int q0])=dw at a6 C a4 bb⊢;clear G af ab sf b8 ba;refine(xan y d fd p0 q0 (xag mv b1 (hs0 g) t g rfl (by rw[tot0];exact a4) rc bb a6 (jAAA dm ci cq ⟨by omega,λb2 c8 ot=>(jEA _ rfl (iteF (cw _ _ (xab λe5 cv=>?_))))⟩)))
  have bn:∀c vs,dw c=some (.tup vs)->c8 c=some (.tup vs):=λc vs h=>ot.fr c _ h (λz=>by
   obtain⟨u,e,n⟩:=a4.at_.there c z;rw[h]at e;exact n vs (Option.some.inj e).symm) λz=>by rw[z,a6]at h;cases h
  have ae:HsOn K H2 c8 x mv a2 t g (0+ws.length):=⟨λc u h=>ot.fr c u (C.sm c u h) (λz=>by rw[fB c z]at h;cases h) (λz=>by rw[z,dq]at h;cases h),C.fr,C.hs.keep bn λc hc u h=>ot.fr c u h (λz=>dt c z hc) λz=>dn (by rw[<- z];exact hc)⟩;have b4:=ot.hs;clear ot bn C a4 bb a6;refine(jEA _ rfl (xat _ rfl a _ rfl ((bw.trans ae.sm).seq hS) (λn1 cr=>?_)));rw[show cutV (ns.map V.int) none (some (1:Int))=(ns.take 1).map V.int from(xlb _ 1).trans (List.map_take ..).symm]at *
  have bv:=Same.new cr (.lst ((ns.take 1).map V.int));refine(xaw n1 (ns.take 1) rfl (SqL.of ups) (xb0 _ _ rfl rfl ⟨by decide,by decide⟩ (cv _ _ (xab λdu cu=>?_))));have ac:=ae.same bv;have b3:=b4.same bv;generalize upd c8 n1 (.lst ((ns.take 1).map V.int))=dv at ac b3⊢;clear ae b4 bv cr
  have d0:∀bc,Same dv bc->du [some (.ref a),some (.ref b),some mv,some (.ref x),some (.ref y),some (.ref lw),some (.ref lh),some (.int (tot g t:Nat)),some (.ref d),o9,some (.int ((ns.take 1).sum / 2))] bc:=λbc bd=>by
   refine cu _ _ ?_;have b5:=ac.hs.same bd;have c0:=b3.same bd;refine(xam _ rfl _ rfl x mv a2 (xb7 t g _ rfl b5 (λt1 e9 d2 cb=>?_)));refine(xam _ rfl _ rfl y mv b2 (xb7 t g _ rfl (c0.same d2) (λt2 e8 d1 ca=>?_)));exact(jAA (xoy (cb.same d1) ca ar b5.ok) (jEEA _ _ rfl rfl) (k _))
  refine(xat _ rfl _ _ rfl rfl (jAA (by show(0:Int)<8;decide) rfl (jEA _ rfl (ite2 (λc1=>?_) (λc1=>?_)))))
  ·have m0:0<=(ns.take 1).sum / 2 / 8%60:=Int.emod_nonneg _ (by decide)
   have dz:(ns.take 1).sum / 2 / 8%60<60:=Int.emod_lt_of_pos _ (by decide);obtain⟨many,hm⟩:∃k:Nat,20+(ns.take 1).sum / 2 / 8%60=(k:Nat):=⟨(20+(ns.take 1).sum / 2 / 8%60).toNat,by omega⟩;refine(jEA _ rfl (xat _ rfl _ _ rfl rfl (jAE ⟨by decide,by decide⟩ _ (xbt _ rfl rfl (by show(0:Int)<60;decide) (xaw _ _ rfl rfl ?_)))));exact(xal b many Y (congrArg (λz=>[V.ref b,V.int z]) hm) (ac.sm _ _ db) au (by omega) (λbc bd=>(jEA _ rfl (iteF (d0 bc bd)))))
  ·exact iteF (d0 _ (Same.refl _))
 refine(xbf _ rfl a _ rfl (.inl hS) _ _ rfl rfl (jEA _ rfl (ite2 (λc1=>?_) (λc1=>?_))))
 ·cases ns with
  |nil=>exact absurd (of_decide_eq_true c1) (by decide)
  |cons n0 ns=>
   refine(xaa _ rfl a _ _ _ rfl rfl hS (xa0 (j:=0) rfl) (xb0 _ _ rfl rfl ⟨by decide,by decide⟩ (jEA _ rfl (λb H1 Y s1 dc hb au av=>K1 b H1 Y s1 hb au av))))
 ·exact(jEA _ rfl (λb H1 Y s1 dc hb au av=>K1 b H1 Y s1 hb au av))
theorem law_is(T:Tx K a):DefIs P w K a base 100 "law" ["_law_script"] (spLaw K):=by
 have take:∀k,DefIs P w K a base (k+1) "_law_take" qac xcl:=λk=>xg6 T;have size:DefIs P w K a base 28 "_law_size" qab (xgd 6):=(xmu T 6 (by omega)).mono (by omega);have p:DefIs P w K a base 30 "_law_parts" qax xjh:=xna T (take 28) (size.mono (by omega));have l:∀k,DefIs P w K a base (k+2) "_law_any_kind" qam xo1:=λk=>xie T (take k);have b:DefIs P w K a base 45 "worth" qad (xc2 (λks=>Ev ks 21) 6):=xki T 21 6 (by omega);have c:∀k,DefIs P w K a base (k+2) "hand_of" qaf xe6:=λk=>xlu (n:=k+1) T (xpi T);have f:∀k,DefIs P w K a base (k+3) "row_at" qak xgu:=λk=>xni (n:=k+2) T (c k);have g:DefIs P w K a base 50 "stride" qau xgt:=xnh (n:=49) T (f 46) (xg7 (n:=48) T (xjw T) (b.mono (by omega))) (xfr (n:=48) T (xqt T) (b.mono (by omega)));have x:DefIs P w K a base 51 "done" qaw xmp:=xr3 (n:=50) T (f 47) g (xfq T) (b.mono (by omega));have step:∀k,52<=k->MethIs P w K a base k (ad K "Plain") "step" qaa [[]] (xgv K):=λk z=>(xg9 (n:=51) T x).mono z;have o:∀k,MethIs P w K a base (k+2) (ad K "Plain") "stand" qaa [[]] (xgw K):=λk=>xf9 (n:=k+1) T (xif T);have e:∀k,53<=k->MethIs P w K a base k (ad K "Plain") "weave" qar [[]] (xe4 K):=λk z=>(xf8 (n:=52) T (step 52 (by omega))).mono z;have init:MethIs P w K a base 97 (ad K "Plain") "__init__" qag [[]] (xgx K):=xha (n:=96) T (xhb (n:=95) T (xjy (n:=94) T (c 92) ((xih T 6).mono (by omega))));have r:∀k,DefIs P w K a base (k+1) "_law_hands_of" qaj xdl:=λk=>xic T
 have m:∀k,DefIs P w K a base (k+3) "_law_state" qa3 (xjg K):=λk=>xm9 (n:=k+2) T (r (k+1)) (o k) (xed T) (xdj T) (xc8 T);have i:DefIs P w K a base 80 "_law_new_term" qai xhv:=xj0 T;have j:∀k,DefIs P w K a base (k+1) "_law_into" qap xkq:=λk=>xpe T;have y:DefIs P w K a base 81 "_law_deal" qaz xmq:=xpf (n:=80) T (take 79) (j 79) i;have u:DefIs P w K a base 82 "_law_rows" qa0 xrl:=xpb (n:=81) T (take 80) (j 80) (i.mono (by omega)) y;have s:DefIs P w K a base 83 "_law_hands" qa2 (xjk K):=xne (n:=82) T (xe9 T) (xnf (n:=81) T (take 80) (l 79)) u;have make:DefIs P w K a base 84 "_law_make" qa1 (xmk K):=xpc (n:=83) T (xe9 T) (take 82) ((xnd T (take 29) p).mono (by omega)) (xid (n:=82) T (take 81) (l 80)) s;exact xtx (n:=97) T (xe9 T) (xnc T) (make.mono (by omega)) (r 98) (xju (n:=98) T (xe9 T) (take 97)) (m 96) (xnb (n:=98) T (r 97) (take 97) (xc8 T) (step 98 (by omega))) (xpd (n:=97) T init (e 98 (by omega)) (xdj T) (xed T)) (init.mono (by omega)) (e 99 (by omega)) (xc8 T)
end
end K37
end
end
namespace PySem.W.Fast
theorem tw9946497040295747414:0=0:=rfl
theorem tw13349500787111912150:0=0:=rfl
theorem tw4777136096629010427:0=0:=rfl
theorem tw12775021177172342289:0=0:=rfl
theorem tw11210618979164653291:0=0:=rfl
theorem tw5296980122790882456:0=0:=rfl
theorem tw6830634728892126515:0=0:=rfl
theorem tw12007538397920083284:0=0:=rfl
theorem tw10430872934384168017:0=0:=rfl
theorem tw2688799275960980479:0=0:=rfl
theorem tw11767125876496050149:0=0:=rfl
theorem tw16168136550648882071:0=0:=rfl
theorem tw15473328051542176491:0=0:=rfl
theorem tw10740806476366927916:0=0:=rfl
theorem tw3766082005683375157:0=0:=rfl
theorem tw10812023807329414148:0=0:=rfl
theorem tw6724955057440047794:0=0:=rfl
theorem tw9794886938691448751:0=0:=rfl
theorem tw4493098957219201186:0=0:=rfl
theorem tw11040519627323963689:0=0:=rfl
theorem tw16644739876004542490:0=0:=rfl
theorem tw5006489844005568628:0=0:=rfl
theorem tw5605128637436086595:0=0:=rfl
theorem tw9110611704158870767:0=0:=rfl
theorem tw15045604623270496677:0=0:=rfl
theorem tw10884744565984113367:0=0:=rfl
theorem tw7520455023591201874:0=0:=rfl
theorem tw5406428175251938492:0=0:=rfl
theorem tw5128289992775020736:0=0:=rfl
theorem tw8105297045765170084:0=0:=rfl
theorem tw10262594017274736351:0=0:=rfl
theorem tw15231477945844199319:0=0:=rfl
theorem tw1667805274237524295:0=0:=rfl
theorem tw12574971386684232466:0=0:=rfl
theorem tw15589666260426132589:0=0:=rfl
theorem tw17000319199638358057:0=0:=rfl
theorem tw8154658316438252061:0=0:=rfl
theorem tw17255250397484293893:0=0:=rfl
theorem tw16434275898794516567:0=0:=rfl
theorem tw7149976615619665895:0=0:=rfl
theorem tw16507386933251233632:0=0:=rfl
theorem tw1888647300373422386:0=0:=rfl
theorem tw15934632895482986768:0=0:=rfl
theorem tw14639116941775335846:0=0:=rfl
theorem tw14794628977623154926:0=0:=rfl
theorem tw11106152311517875367:0=0:=rfl
theorem tw16020258455334246450:0=0:=rfl
theorem tw5154472452478013052:0=0:=rfl
theorem tw4630992106892773011:0=0:=rfl
theorem tw16486130665546415233:0=0:=rfl
theorem tw10585842026729176820:0=0:=rfl
theorem tw4619214627924251763:0=0:=rfl
theorem tw2202707117465059028:0=0:=rfl
theorem tw11442557738010474389:0=0:=rfl
theorem tw5561921411994497835:0=0:=rfl
theorem tw11125949908776468244:0=0:=rfl
theorem tw7133474694757688013:0=0:=rfl
theorem tw9923517759939251580:0=0:=rfl
theorem tw14631268244539840292:0=0:=rfl
theorem tw8830539049442263990:0=0:=rfl
theorem tw5039501854337756034:0=0:=rfl
theorem tw2910060259254194454:0=0:=rfl
theorem tw11086152451241887380:0=0:=rfl
theorem tw14108321896881856062:0=0:=rfl
theorem tw16417327566543149270:0=0:=rfl
theorem tw18048239516806983260:0=0:=rfl
theorem tw8542203319659225906:0=0:=rfl
theorem tw11495649362507301586:0=0:=rfl
theorem tw10589030193604161898:0=0:=rfl
theorem tw7244392220816557114:0=0:=rfl
theorem tw9266146313044708793:0=0:=rfl
theorem tw14967432003827042973:0=0:=rfl
theorem tw10060824527335354532:0=0:=rfl
theorem tw15635378326477516723:0=0:=rfl
theorem tw3368897021345133210:0=0:=rfl
theorem tw510914633709760360:0=0:=rfl
theorem tw15031356698904366301:0=0:=rfl
theorem tw9392423778341150795:0=0:=rfl
theorem tw4191072079397652115:0=0:=rfl
theorem tw3977316139308815408:0=0:=rfl
theorem tw671182157273971257:0=0:=rfl
theorem tw13277633907957923915:0=0:=rfl
theorem tw10033172119171489725:0=0:=rfl
theorem tw16909041205976308994:0=0:=rfl
theorem tw11866278544172480792:0=0:=rfl
theorem tw16212830892637526073:0=0:=rfl
theorem tw15630160230148582051:0=0:=rfl
theorem tw9505870505723003593:0=0:=rfl
theorem tw17298343521773458805:0=0:=rfl
theorem tw7220346425626988553:0=0:=rfl
theorem tw4023440025147971743:0=0:=rfl
theorem tw3981945673572535466:0=0:=rfl
theorem tw1688794479913872119:0=0:=rfl
theorem tw1128189025951333076:0=0:=rfl
theorem tw8279555596733326570:0=0:=rfl
theorem tw214606895328340539:0=0:=rfl
theorem tw6444371764511868802:0=0:=rfl
theorem tw316491308832608403:0=0:=rfl
theorem tw10419680782841138149:0=0:=rfl
theorem tw12483281719980350785:0=0:=rfl
theorem tw12126460874919417949:0=0:=rfl
theorem tw16208847112112479211:0=0:=rfl
theorem tw13997310887276569344:0=0:=rfl
theorem tw7984631892504294155:0=0:=rfl
theorem tw5687494653402876762:0=0:=rfl
theorem tw392815412212484183:0=0:=rfl
theorem tw527355019176648004:0=0:=rfl
theorem tw18155711381794456822:0=0:=rfl
theorem tw10187380649362909092:0=0:=rfl
theorem tw11532431478278535032:0=0:=rfl
theorem tw11419786215650287431:0=0:=rfl
theorem tw884131874794044198:0=0:=rfl
theorem tw6736094526281782359:0=0:=rfl
theorem tw10237479784439224984:0=0:=rfl
theorem tw6466927775945717575:0=0:=rfl
theorem tw16034681724920138889:0=0:=rfl
theorem tw1340075367139633982:0=0:=rfl
theorem tw1475331336026578154:0=0:=rfl
theorem tw15037222450453529843:0=0:=rfl
theorem tw11421733598652903838:0=0:=rfl
theorem tw5768590449626190561:0=0:=rfl
theorem tw8615358058506697389:0=0:=rfl
theorem tw2864016741851296965:0=0:=rfl
theorem tw1690636448765816545:0=0:=rfl
theorem tw16403305897217519715:0=0:=rfl
theorem tw13863119032524111432:0=0:=rfl
theorem tw2812270850339928555:0=0:=rfl
theorem tw8889474178480786984:0=0:=rfl
theorem tw12378984394805630170:0=0:=rfl
theorem tw123823403661514675:0=0:=rfl
theorem tw5626424657934538148:0=0:=rfl
theorem tw2710068867381502934:0=0:=rfl
theorem tw3025295313812644326:0=0:=rfl
theorem tw12724273725487251950:0=0:=rfl
theorem tw4684167998158699938:0=0:=rfl
theorem tw1302086393356153323:0=0:=rfl
theorem tw5749639763411322804:0=0:=rfl
theorem tw15975264821068160755:0=0:=rfl
theorem tw10203757364148909157:0=0:=rfl
theorem tw8370277649181159418:0=0:=rfl
theorem tw3260846333451743459:0=0:=rfl
theorem tw11318668936184257418:0=0:=rfl
theorem tw11812139008423791687:0=0:=rfl
theorem tw9834899395067006282:0=0:=rfl
theorem tw17133972262725053923:0=0:=rfl
theorem tw1038070970136278869:0=0:=rfl
theorem tw8850254201865597856:0=0:=rfl
theorem tw18360848093919956663:0=0:=rfl
theorem tw1426232452674536724:0=0:=rfl
theorem tw3019554984556058601:0=0:=rfl
theorem tw11772988754047237685:0=0:=rfl
theorem tw11787023314481904088:0=0:=rfl
theorem tw13297589801151410227:0=0:=rfl
theorem tw7226012090084984684:0=0:=rfl
theorem tw7197679611802829623:0=0:=rfl
theorem tw11233901110013842159:0=0:=rfl
theorem tw14341307425019467979:0=0:=rfl
theorem tw11341105785223291100:0=0:=rfl
theorem tw201667993586414251:0=0:=rfl
theorem tw3320205427185964639:0=0:=rfl
theorem tw148696497366280529:0=0:=rfl
theorem tw4074593083937874994:0=0:=rfl
theorem tw7317909940407271636:0=0:=rfl
theorem tw6914088553588756187:0=0:=rfl
theorem tw16388504477860411918:0=0:=rfl
theorem tw8839818286642685788:0=0:=rfl
theorem tw10545102209723294298:0=0:=rfl
theorem tw9409793772076387642:0=0:=rfl
theorem tw6292066062511178417:0=0:=rfl
theorem tw5716747953072691253:0=0:=rfl
theorem tw11383113893585111199:0=0:=rfl
theorem tw12817683246095493:0=0:=rfl
theorem tw8272900832400925469:0=0:=rfl
theorem tw3327404097572984149:0=0:=rfl
theorem tw14838136610974621187:0=0:=rfl
theorem tw13042326287481496939:0=0:=rfl
theorem tw16728045171311252267:0=0:=rfl
theorem tw13490966134539218687:0=0:=rfl
theorem tw2553212647633443971:0=0:=rfl
theorem tw12657995417812454907:0=0:=rfl
theorem tw10683914191107303332:0=0:=rfl
theorem tw2809062042498929290:0=0:=rfl
theorem tw6007151682480180726:0=0:=rfl
theorem tw17143674012788536820:0=0:=rfl
theorem tw8411024118551118719:0=0:=rfl
theorem tw12401169095850250252:0=0:=rfl
theorem tw9597855850136458138:0=0:=rfl
theorem tw3840587502019241500:0=0:=rfl
theorem tw8560138227895695709:0=0:=rfl
theorem tw10882055269182369500:0=0:=rfl
theorem tw14876971957286975061:0=0:=rfl
theorem tw8773880973017072674:0=0:=rfl
theorem tw11042028042441131755:0=0:=rfl
theorem tw14076936591882595590:0=0:=rfl
theorem tw15560218403602449646:0=0:=rfl
theorem tw11034047340741150106:0=0:=rfl
theorem tw13701747581240494083:0=0:=rfl
theorem tw10836782236503929984:0=0:=rfl
theorem tw364565404352336017:0=0:=rfl
theorem tw9587521968364472107:0=0:=rfl
theorem tw6050436558575928290:0=0:=rfl
theorem tw7103550160811869540:0=0:=rfl
theorem tw5155321059133864078:0=0:=rfl
theorem tw15187523376017699486:0=0:=rfl
theorem tw5624953334021608902:0=0:=rfl
theorem tw1393276422098710768:0=0:=rfl
theorem tw2233548792374622504:0=0:=rfl
theorem tw3075832368701255623:0=0:=rfl
theorem tw1164232624175945501:0=0:=rfl
theorem tw13888649330710883342:0=0:=rfl
theorem tw2626443647726098593:0=0:=rfl
theorem tw16990433395364995957:0=0:=rfl
theorem tw7474095210120668111:0=0:=rfl
theorem tw16055990660703782381:0=0:=rfl
theorem tw15012554000932595625:0=0:=rfl
theorem tw1071712667351607848:0=0:=rfl
theorem tw16876737519030579503:0=0:=rfl
theorem tw17813119984651945501:0=0:=rfl
theorem tw10463872029914664706:0=0:=rfl
theorem tw8814863075399570345:0=0:=rfl
theorem tw11526480197991590603:0=0:=rfl
theorem tw9867108655096335083:0=0:=rfl
theorem tw17500047916967738817:0=0:=rfl
theorem tw11264667935180589373:0=0:=rfl
theorem tw9704391058855735444:0=0:=rfl
theorem tw7909581293258060880:0=0:=rfl
theorem tw3951703186507401393:0=0:=rfl
theorem tw12940864692039146009:0=0:=rfl
theorem tw3839845033132767854:0=0:=rfl
theorem tw6698611736640542739:0=0:=rfl
theorem tw10642803727585306346:0=0:=rfl
theorem tw4874674555481523985:0=0:=rfl
theorem tw12683968154253657068:0=0:=rfl
theorem tw8888370675495709214:0=0:=rfl
theorem tw2149778181111378794:0=0:=rfl
theorem tw5431559288723437776:0=0:=rfl
theorem tw7364908345644211912:0=0:=rfl
theorem tw2241405566246340326:0=0:=rfl
theorem tw10504841843351356297:0=0:=rfl
theorem tw6905403827647934872:0=0:=rfl
theorem tw16884491381528060650:0=0:=rfl
theorem tw6231516082859482891:0=0:=rfl
theorem tw6694054034307487430:0=0:=rfl
theorem tw15381543138787805410:0=0:=rfl
theorem tw10219691469923718025:0=0:=rfl
theorem tw17346070230190862498:0=0:=rfl
theorem tw5277049130833785200:0=0:=rfl
theorem tw10312261637192397177:0=0:=rfl
theorem tw14634806191460435406:0=0:=rfl
theorem tw14498964928632126765:0=0:=rfl
theorem tw11952730969876944214:0=0:=rfl
theorem tw15833021175287890636:0=0:=rfl
end PySem.W.Fast
open PySem PySem.W PyProof.Rows
set_option maxRecDepth 100000 in
set_option maxHeartbeats 0 in
theorem PySem.Challenge.cw_swapstride_k37_whole_two_weavings_holds : PySem.Challenge.rw_swapstride_k37_whole_two_weavings.Holds := by
 w_on;o_law;k_head;(case hw=>w_witness2)
 k_fill
 refine L2.walk_of (l:=PySem.Challenge.rw_swapstride_k37_whole_two_weavings) (n:=63) (k:=100) (x:="_law_script") (CX:=λ_=>L2.CX0) (sp:=λ_=>K37.spLaw _) rfl (by decide) rfl ⟨rfl,by decide,by decide⟩ (λw h Y=>PySem.W.kIn_of Y) ?F (λ_ _ a ns hl _ hS=>⟨a,ns,rfl,hS,hl,λ_=>rfl⟩) λ_ _ _ _ _ z=>z
 case F=>
  intro w mg fa h KX G hmg
  have jA:L2.DefTx (L2.KOf KX) mg "row_ways" K37.s_row_ways ["row","k"]:=by
   walk_at"d"
  have jB:L2.DefTx (L2.KOf KX) mg "hand_of" K37.s_hand_of L2.qaf:=by
   walk_at"d"
  have jC:L2.DefTx (L2.KOf KX) mg "named" K37.s_named L2.qa4:=by
   walk_at"d"
  have jD:L2.DefTx (L2.KOf KX) mg "sort_of" K37.s_sort_of L2.qah:=by
   walk_at"d"
  have jE:L2.DefTx (L2.KOf KX) mg "parts_of" K37.s_parts_of L2.qah:=by
   walk_at"d"
  have jF:L2.DefTx (L2.KOf KX) mg "with_box" K37.s_with_box L2.qan:=by
   walk_at"d"
  have jG:L2.DefTx (L2.KOf KX) mg "nought" K37.s_nought L2.qao:=by
   walk_at"d"
  have jH:L2.DefTx (L2.KOf KX) mg "field" K37.s_field L2.qa5:=by
   walk_at"d"
  have jI:L2.DefTx (L2.KOf KX) mg "worth" K37.s_worth L2.qad:=by
   walk_at"d"
  have jJ:L2.DefTx (L2.KOf KX) mg "op_worth" K37.s_op_worth L2.qas:=by
   walk_at"d"
  have jK:L2.DefTx (L2.KOf KX) mg "case_worth" K37.s_case_worth L2.qad:=by
   walk_at"d"
  have jL:L2.DefTx (L2.KOf KX) mg "begin_of" K37.s_begin_of L2.qaf:=by
   walk_at"d"
  have jM:L2.DefTx (L2.KOf KX) mg "own_stand" K37.s_own_stand ["stand"]:=by
   walk_at"d"
  have jN:L2.DefTx (L2.KOf KX) mg "row_at" K37.s_row_at L2.qak:=by
   walk_at"d"
  have jO:L2.DefTx (L2.KOf KX) mg "first_letter" K37.s_first_letter L2.qat:=by
   walk_at"d"
  have jP:L2.DefTx (L2.KOf KX) mg "stride" K37.s_stride L2.qau:=by
   walk_at"d"
  have jQ:L2.DefTx (L2.KOf KX) mg "row_behind" K37.s_row_behind L2.qa6:=by
   walk_at"d"
  have jR:L2.DefTx (L2.KOf KX) mg "boxes_behind" K37.s_boxes_behind L2.qav:=by
   walk_at"d"
  have jS:L2.DefTx (L2.KOf KX) mg "done" K37.s_done L2.qaw:=by
   walk_at"d"
  have jT:L2.DefTx (L2.KOf KX) mg "_law_feed" K37.sl_feed L2.qal:=by
   walk_at"d"
  have jU:L2.DefTx (L2.KOf KX) mg "_law_take" K37.sl_take L2.qac:=by
   walk_at"d"
  have jV:L2.DefTx (L2.KOf KX) mg "_law_names" K37.sl_names L2.qa7:=by
   walk_at"d"
  have jW:L2.DefTx (L2.KOf KX) mg "_law_number" K37.sl_number L2.qa8:=by
   walk_at"d"
  have jX:L2.DefTx (L2.KOf KX) mg "_law_sort_of" K37.sl_sort_of L2.qab:=by
   walk_at"d"
  have jY:L2.DefTx (L2.KOf KX) mg "_law_size" K37.sl_size L2.qab:=by
   walk_at"d"
  have jZ:L2.DefTx (L2.KOf KX) mg "_law_small" K37.sl_small L2.qab:=by
   walk_at"d"
  have j0:L2.DefTx (L2.KOf KX) mg "_law_parts" K37.sl_parts L2.qax:=by
   walk_at"d"
  have j1:L2.DefTx (L2.KOf KX) mg "_law_kinds" K37.sl_kinds L2.qa9:=by
   walk_at"d"
  have j2:L2.DefTx (L2.KOf KX) mg "_law_boxed" K37.sl_boxed L2.qay:=by
   walk_at"d"
  have j3:L2.DefTx (L2.KOf KX) mg "_law_arms" K37.sl_arms L2.qba:=by
   walk_at"d"
  have j4:L2.DefTx (L2.KOf KX) mg "_law_whole_term" K37.sl_whole_term L2.qae:=by
   walk_at"d"
  have j5:L2.DefTx (L2.KOf KX) mg "_law_term" K37.sl_term L2.qae:=by
   walk_at"d"
  have j6:L2.DefTx (L2.KOf KX) mg "_law_new_term" K37.sl_new_term L2.qai:=by
   walk_at"d"
  have j7:L2.DefTx (L2.KOf KX) mg "_law_any_kind" K37.sl_any_kind L2.qam:=by
   walk_at"d"
  have j8:L2.DefTx (L2.KOf KX) mg "_law_channels" K37.sl_channels L2.qbb:=by
   walk_at"d"
  have j9:L2.DefTx (L2.KOf KX) mg "_law_boxes" K37.sl_boxes L2.qbc:=by
   walk_at"d"
  have kA:L2.DefTx (L2.KOf KX) mg "_law_into" K37.sl_into L2.qap:=by
   walk_at"d"
  have kB:L2.DefTx (L2.KOf KX) mg "_law_deal" K37.sl_deal L2.qaz:=by
   walk_at"d"
  have kC:L2.DefTx (L2.KOf KX) mg "_law_rows" K37.sl_rows L2.qa0:=by
   walk_at"d"
  have kD:L2.DefTx (L2.KOf KX) mg "_law_make" K37.sl_make L2.qa1:=by
   walk_at"d"
  have kE:L2.DefTx (L2.KOf KX) mg "_law_hands" K37.sl_hands L2.qa2:=by
   walk_at"d"
  have kF:L2.DefTx (L2.KOf KX) mg "_law_hands_of" K37.sl_hands_of L2.qaj:=by
   walk_at"d"
  have kG:L2.DefTx (L2.KOf KX) mg "_law_weaving" K37.sl_weaving L2.qbd:=by
   walk_at"d"
  have kH:L2.DefTx (L2.KOf KX) mg "_law_state" K37.sl_state L2.qa3:=by
   walk_at"d"
  have kI:L2.DefTx (L2.KOf KX) mg "_law_other" K37.sl_other L2.qbe:=by
   walk_at"d"
  have kJ:L2.DefTx (L2.KOf KX) mg "_law_long" K37.sl_long L2.qbf:=by
   walk_at"d"
  have kK:L2.DefTx (L2.KOf KX) mg "law" K37.s_law ["_law_script"]:=by
   walk_at"d"
  have kL:∃t,mg "WIDE"=some (.int 4294967296 t):=by
   refine' L2.gint_mk KX G ?a
   (case a=>k_is)
  have kM:mg "bool"=none:=by
   refine' PySem.W.mg_none_of KX G ?a
   (case a=>k_is)
  have kN:mg "dict"=none:=by
   refine' PySem.W.mg_none_of KX G ?a
   (case a=>k_is)
  have kO:mg "int"=none:=by
   refine' PySem.W.mg_none_of KX G ?a
   (case a=>k_is)
  have kP:mg "isinstance"=none:=by
   refine' PySem.W.mg_none_of KX G ?a
   (case a=>k_is)
  have kQ:mg "len"=none:=by
   refine' PySem.W.mg_none_of KX G ?a
   (case a=>k_is)
  have kR:mg "list"=none:=by
   refine' PySem.W.mg_none_of KX G ?a
   (case a=>k_is)
  have kS:mg "max"=none:=by
   refine' PySem.W.mg_none_of KX G ?a
   (case a=>k_is)
  have kT:mg "min"=none:=by
   refine' PySem.W.mg_none_of KX G ?a
   (case a=>k_is)
  have kU:mg "range"=none:=by
   refine' PySem.W.mg_none_of KX G ?a
   (case a=>k_is)
  have kW:mg "sum"=none:=by
   refine' PySem.W.mg_none_of KX G ?a
   (case a=>k_is)
  have kX:mg "tuple"=none:=by
   refine' PySem.W.mg_none_of KX G ?a
   (case a=>k_is)
  have kY:mg "Plain"=some (.ref (L2.ad (L2.KOf KX) "Plain")):=by
   refine' PySem.W.mg_of KX G ?a
   (case a=>kernel_rfl)
  have kZ:L2.DTab (L2.KOf KX) "Plain" ["make","stands","between","tellings","counts"]:=by
   refine' L2.dtab_of ?a
   (case a=>kernel_rfl)
  have k0:mg "House"=some (.ref (L2.ad (L2.KOf KX) "House")):=by
   refine' PySem.W.mg_of KX G ?a
   (case a=>kernel_rfl)
  have k3:L2.CTab (L2.KOf KX) "House" "__init__":=by
   refine' L2.ctab_of ?a
   (case a=>kernel_rfl)
  have k4:L2.MethTx (L2.KOf KX) "House.__init__" (L2.ad (L2.KOf KX) "House") "__init__" K37.s_House_init L2.qag [[]]:=by
   dsimp only[L2.KOf];refine' L2.meth_mk ?a ?i ?n ?l ?c ?k ?b
   (case a=>k_is);(case i=>k_is);(case n=>k_is);(case l=>k_is);(case c=>k_is);(case k=>k_is)
   (case b=>exact λ_ _ _ _ _ _ us hl=>match us,hl with |[_,_],_=>rfl)
  have k5:L2.MethTx (L2.KOf KX) "House.stand" (L2.ad (L2.KOf KX) "Plain") "stand" K37.s_Plain_stand L2.qaa [[]]:=by
   dsimp only[L2.KOf];refine' L2.meth_mk ?a ?i ?n ?l ?c ?k ?b
   (case a=>k_is);(case i=>k_is);(case n=>k_is);(case l=>k_is);(case c=>k_is);(case k=>k_is)
   (case b=>exact λ_ _ _ _ _ _ us hl=>match us,hl with |[_,_],_=>rfl)
  have k6:L2.MethTx (L2.KOf KX) "House.told" (L2.ad (L2.KOf KX) "Plain") "told" K37.s_Plain_told L2.qaa [[]]:=by
   dsimp only[L2.KOf];refine' L2.meth_mk ?a ?i ?n ?l ?c ?k ?b
   (case a=>k_is);(case i=>k_is);(case n=>k_is);(case l=>k_is);(case c=>k_is);(case k=>k_is)
   (case b=>exact λ_ _ _ _ _ _ us hl=>match us,hl with |[_,_],_=>rfl)
  have k7:L2.MethTx (L2.KOf KX) "House.letters" (L2.ad (L2.KOf KX) "Plain") "letters" K37.s_Plain_letters L2.qaq [[]]:=by
   dsimp only[L2.KOf];refine' L2.meth_mk ?a ?i ?n ?l ?c ?k ?b
   (case a=>k_is);(case i=>k_is);(case n=>k_is);(case l=>k_is);(case c=>k_is);(case k=>k_is)
   (case b=>exact λ_ _ _ _ _ _ us hl=>match us,hl with |[_,_],_=>rfl)
  have k8:L2.MethTx (L2.KOf KX) "House.count" (L2.ad (L2.KOf KX) "Plain") "count" K37.s_Plain_count L2.qaa [[]]:=by
   dsimp only[L2.KOf];refine' L2.meth_mk ?a ?i ?n ?l ?c ?k ?b
   (case a=>k_is);(case i=>k_is);(case n=>k_is);(case l=>k_is);(case c=>k_is);(case k=>k_is)
   (case b=>exact λ_ _ _ _ _ _ us hl=>match us,hl with |[_,_],_=>rfl)
  have k9:L2.MethTx (L2.KOf KX) "Plain.__init__" (L2.ad (L2.KOf KX) "Plain") "__init__" K37.s_Plain_init L2.qag [[]]:=by
   dsimp only[L2.KOf];refine' L2.meth_mk ?a ?i ?n ?l ?c ?k ?b
   (case a=>k_is);(case i=>k_is);(case n=>k_is);(case l=>k_is);(case c=>k_is);(case k=>k_is)
   (case b=>exact λ_ _ _ _ _ _ us hl=>match us,hl with |[_,_],_=>rfl)
  have uA:L2.MethTx (L2.KOf KX) "Plain.step" (L2.ad (L2.KOf KX) "Plain") "step" K37.s_Plain_step L2.qaa [[]]:=by
   dsimp only[L2.KOf];refine' L2.meth_mk ?a ?i ?n ?l ?c ?k ?b
   (case a=>k_is);(case i=>k_is);(case n=>k_is);(case l=>k_is);(case c=>k_is);(case k=>k_is)
   (case b=>exact λ_ _ _ _ _ _ us hl=>match us,hl with |[_,_],_=>rfl)
  have uB:L2.MethTx (L2.KOf KX) "Plain.weave" (L2.ad (L2.KOf KX) "Plain") "weave" K37.s_Plain_weave L2.qar [[]]:=by
   dsimp only[L2.KOf];refine' L2.meth_mk ?a ?i ?n ?l ?c ?k ?b
   (case a=>k_is);(case i=>k_is);(case n=>k_is);(case l=>k_is);(case c=>k_is);(case k=>k_is)
   (case b=>exact λ_ _ _ _ _ _ us hl=>match us,hl with |[_,_],_=>rfl)
  have T:K37.Tx (L2.KOf KX) mg:=⟨jA,jB,jC,jD,jE,jF,jG,jH,jI,jJ,jK,jL,jM,jN,jO,jP,jQ,jR,jS,jT,jU,jV,jW,jX,jY,jZ,j0,j1,j2,j3,j4,j5,j6,j7,j8,j9,kA,kB,kC,kD,kE,kF,kG,kH,kI,kJ,kK,kL,kM,kN,kO,kP,kQ,kR,kS,kT,kU,kW,kX,kY,kZ,k0,k3,k4,k5,k6,k7,k8,k9,uA,uB⟩;exact L2.law_top kK hmg λbase=>K37.law_is T
