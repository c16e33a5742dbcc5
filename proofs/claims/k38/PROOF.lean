import PyProof.Rows.All
import Wide.All
import OpenK.AllK
import Wide.FinOn
import Lean
import PyProof.EqAt
import PyProof.EqKinds
import PyProof.TupleCall
import PyProof.ZipIter
import PyProof.ListNew
import PyProof.TupleIter
import PyProof.WalksMore
import KE.KIntText
import PyProof.Rows.EqBoolInt
import PyProof.Rows.ZipGen
import PySem.Str
import PyProof.StrLawsTight
import PyProof.StrLawsIdx
import PyProof.StrLawsIn
import PyProof.Rows.SetFrom
import KE.KDictSum
import PyProof.Rows.SortWalk
import PyProof.NeKinds
import KE.KDictList
import KE.KRevIter
import PyProof.EnumMake
import PyProof.Rows.EnumRows
import PyProof.ExcInit
import PyProof.InstStoreFacts
import PyProof.ExcArgsOwn
import PyProof.ExcAttrAll.ValueError
import PyProof.ExcBaseAll.ValueError
import PyProof.ConsumeWalk
import PyProof.AttrMissHeap
import KE.KItemsList
import KE.KEqDict
import PyProof.StationsW
import PyProof.RulesAs
import PyProof.NsDelKeeps
import PyProof.ListMulRoad
import PyProof.FactsAll.tuple
import OpenK.KMore
import PyProof.DictWalks
import KE.KPairComp
import PyProof.AutoListH
import PySem.Challenge.RW_swapstride_k38_still_houses
set_option Elab.async false
set_option linter.all false
set_option maxRecDepth 100000
set_option maxHeartbeats 4000000
abbrev Fg:=PySem.W.Frag
local macro_rules | `(tactic| walk_at"o")=>`(tactic| first |exact Or.inl rfl |exact Or.inr rfl)
local macro_rules | `(tactic| walk_at"q")=>`(tactic| exact⟨rfl,rfl,rfl,by decide +kernel,rfl,by decide +kernel,by decide +kernel⟩)
local macro_rules | `(tactic| walk_at"k")=>`(tactic| decide +kernel)
local macro_rules | `(tactic| walk_at"c")=>`(tactic| ((case a=>k_is);(case l=>k_is);(case c=>k_is);(case k=>k_is)))
set_option hygiene false in
local macro_rules | `(tactic| walk_at"d")=>`(tactic| (dsimp only[L2.KOf];refine' L2.deftx_mk KX G ?a ?l ?c ?k ?b;(case a=>k_is);(case l=>k_is);(case c=>k_is);(case k=>k_is);(case b=>(intro _ _ _ _ _ _ us hl;first |(obtain⟨_,rfl⟩:=L2.ln1 hl;rfl) |(obtain⟨_,_,rfl⟩:=L2.ln2 hl;rfl) |(obtain⟨_,_,_,rfl⟩:=L2.ln3 hl;rfl) |(obtain⟨_,_,_,_,rfl⟩:=L2.ln4 hl;rfl) |(obtain⟨_,_,_,_,_,rfl⟩:=L2.ln5 hl;rfl) |(obtain⟨_,_,_,_,_,_,rfl⟩:=L2.ln6 hl;rfl) |(obtain⟨_,_,_,_,_,_,_,rfl⟩:=L2.ln7 hl;rfl)))))
set_option hygiene false in
local macro_rules | `(tactic| walk_at"i")=>`(tactic| first |intro f cdv A outer s H vs Q E hr h |intro vs H Q E h)
local macro_rules | `(tactic| walk_at"s")=>`(tactic| first |(show 2 ≤ PySem.sizeLine;decide) |(show 3 ≤ PySem.sizeLine;decide) |(show 1 ≤ PySem.sizeLine;decide) |(show 0 ≤ PySem.sizeLine;decide) |(show 4 ≤ PySem.sizeLine;decide) |(show 5 ≤ PySem.sizeLine;decide) |(show 6 ≤ PySem.sizeLine;decide) |(show 8 ≤ PySem.sizeLine;decide))
theorem zGA{α:Type _}{l:List α}{i:Nat}(h:i<l.length):l[i]?=some l[i]:=List.getElem?_eq_getElem h
theorem zMS{α β:Type _}{f:α→β}{x:Option α}{b:β}(h:x.map f=some b):∃a,x=some a∧f a=b:=Option.map_eq_some_iff.mp h
theorem zLM{α β:Type _}{as:List α}(f:α→β):(as.map f).length=as.length:=List.length_map f
theorem zGM{α β:Type _}{f:α→β}{l:List α}{i:Nat}:(l.map f)[i]?=l[i]?.map f:=List.getElem?_map
theorem zES{α:Type _}{l:List α}{i:Nat}{a:α}(h:l[i]?=some a):∃h:i<l.length,l[i]=a:=List.getElem?_eq_some_iff.mp h
theorem zMG{α:Type _}{l:List α}{i:Nat}{a:α}(e:l[i]?=some a):a∈l:=List.mem_of_getElem? e
theorem zTL{α:Type _}{i:Nat}{l:List α}(h:l.length ≤ i):l.take i=l:=List.take_of_length_le h
theorem zMA{α:Type _}{a:α}{s t:List α}(h:a∈s++t):a∈s∨a∈t:=List.mem_append.mp h
theorem zMO{α:Type _}{a b:α}(h:a∈[b]):a=b:=List.mem_singleton.mp h
theorem zDT{p:Prop}[Decidable p](h:p):decide p=true:=decide_eq_true h
theorem zDF{p:Prop}[Decidable p](h:¬p):decide p=false:=decide_eq_false h
local macro_rules | `(tactic| walk_at"l")=>`(tactic| (intro vs H Q E h;(repeat (rcases h with⟨_,h⟩)) <;> (subst_vars;rfl)))
local macro_rules | `(tactic| walk_at"rd1")=>`(tactic| first
 |refine⟨_,rfl,?_⟩
 |refine⟨_,_,rfl,rfl,?_⟩
 |refine⟨_,_,_,_,rfl,rfl,(by assumption),(by first |rfl |assumption),?_⟩
 |refine⟨rfl,?_⟩
 |refine M.iteKF (by walk_at"k") ?_
 |refine M.iteKT (by walk_at"k") ?_)
local macro_rules | `(tactic| walk_at"rd")=>`(tactic| repeat walk_at"rd1")
local macro_rules | `(tactic| walk_at"rd1")=>`(tactic| first
 |refine⟨_,rfl,?_⟩
 |refine⟨_,_,rfl,rfl,?_⟩
 |refine⟨_,_,_,_,rfl,rfl,(by assumption),(by first |rfl |assumption),?_⟩
 |refine⟨_,_,rfl,.inl (by assumption),?_⟩
 |refine⟨(by first |exact .inr ⟨by decide,by decide⟩ |exact .inl ⟨by decide,by decide⟩ |exact⟨by decide,by decide,by decide⟩ |exact⟨by decide,by decide⟩ |exact⟨by assumption,by assumption⟩ |(show(0:Int)<_;first |decide |assumption)),?_⟩
 |refine⟨rfl,?_⟩)
section
open PySem
theorem zPO{h:Heap}{a:Addr}{u:Obj}(o:Obj)(e:h.get? a=some u):(h.push o).get? a=some u:=Heap.get?_push_of_some o e
theorem zLA{α:Type _}{as bs:List α}:(as++bs).length=as.length+bs.length:=List.length_append
theorem zMF{α:Type _}{p:α→Bool}{a:α}{l:List α}(h:l.find? p=some a):a∈l:=List.mem_of_find?_eq_some h
theorem zTA{α:Type _}{l:List α}{i:Nat}:l.take (i+1)=l.take i++l[i]?.toList:=List.take_add_one
theorem zMI{α:Type _}{a:α}{l:List α}(h:a∈l):∃(i:Nat) (h:i<l.length),l[i]=a:=List.mem_iff_getElem.mp h
theorem zMC{α:Type _}{a b:α}{l:List α}(h:a∈b::l):a=b∨a∈l:=List.mem_cons.mp h
theorem zMP{α β:Type _}{b:β}{f:α→β}{l:List α}(h:b∈l.map f):∃a,a∈l∧f a=b:=List.mem_map.mp h
theorem zAP{α β:Type _}{f:α→β}{as bs:List α}:(as++bs).map f=as.map f++bs.map f:=List.map_append
end
namespace L2
theorem ln1{α:Type}{l:List α}(h:l.length=1):∃a,l=[a]:=match l,h with |[a],_=>⟨a,rfl⟩
theorem ln2{α:Type}{l:List α}(h:l.length=2):∃a b,l=[a,b]:=match l,h with |[a,b],_=>⟨a,b,rfl⟩
theorem ln3{α:Type}{l:List α}(h:l.length=3):∃a b c,l=[a,b,c]:=match l,h with |[a,b,c],_=>⟨a,b,c,rfl⟩
theorem ln4{α:Type}{l:List α}(h:l.length=4):∃a b c d,l=[a,b,c,d]:=match l,h with |[a,b,c,d],_=>⟨a,b,c,d,rfl⟩
theorem ln5{α:Type}{l:List α}(h:l.length=5):∃a b c d e,l=[a,b,c,d,e]:=match l,h with |[a,b,c,d,e],_=>⟨a,b,c,d,e,rfl⟩
theorem ln6{α:Type}{l:List α}(h:l.length=6):∃a b c d e f,l=[a,b,c,d,e,f]:=match l,h with |[a,b,c,d,e,f],_=>⟨a,b,c,d,e,f,rfl⟩
theorem ln7{α:Type}{l:List α}(h:l.length=7):∃a b c d e f g,l=[a,b,c,d,e,f,g]:=match l,h with |[a,b,c,d,e,f,g],_=>⟨a,b,c,d,e,f,g,rfl⟩
end L2
section
theorem gcut{A:Prop}(h:∀G:Prop,(A->G)->G):A:=h A id
theorem jAA{p:Prop}{q:Prop}{F:Prop}(H0:p)(H1:q)(k:F):p/\q/\F:=⟨H0,H1,k⟩
theorem jAAA{p:Prop}{q:Prop}{r:Prop}{F:Prop}(H0:p)(H1:q)(H2:r)(k:F):p/\q/\r/\F:=⟨H0,H1,H2,k⟩
theorem jAE{p:Prop}{a:Sort _}{F:a->Prop}(H0:p)(u:a)(k:F u):p/\∃u,F u:=⟨H0,u,k⟩
theorem jAEA{p:Prop}{a:Sort _}{q:a->Prop}{F:a->Prop}(H0:p)(u:a)(H1:q u)(k:F u):p/\∃u,q u/\F u:=⟨H0,u,H1,k⟩
theorem xf7{p:Prop}{a:Sort _}{q:a->Prop}{r:a->Prop}{F:a->Prop}(H0:p)(u:a)(H1:q u)(H2:r u)(k:F u):p/\∃u,q u/\r u/\F u:=⟨H0,u,H1,H2,k⟩
theorem jEA{a:Sort _}{p:a->Prop}{F:a->Prop}(u:a)(H0:p u)(k:F u):∃u,p u/\F u:=⟨u,H0,k⟩
theorem jEAA{a:Sort _}{p:a->Prop}{q:a->Prop}{F:a->Prop}(u:a)(H0:p u)(H1:q u)(k:F u):∃u,p u/\q u/\F u:=⟨u,H0,H1,k⟩
theorem xby{a:Sort _}{p:a->Prop}{q:a->Prop}{r:a->Prop}{F:a->Prop}(u:a)(H0:p u)(H1:q u)(H2:r u)(k:F u):∃u,p u/\q u/\r u/\F u:=⟨u,H0,H1,H2,k⟩
theorem xbl{a:Sort _}{p:a->Prop}{q:a->Prop}{r:a->Prop}{i:a->Prop}{F:a->Prop}(u:a)(H0:p u)(H1:q u)(H2:r u)(H3:i u)(k:F u):∃u,p u/\q u/\r u/\i u/\F u:=⟨u,H0,H1,H2,H3,k⟩
theorem xbh{a:Sort _}{p:a->Prop}{q:a->Prop}{r:a->Prop}{i:a->Prop}{j:a->Prop}{F:a->Prop}(u:a)(H0:p u)(H1:q u)(H2:r u)(H3:i u)(H4:j u)(k:F u):∃u,p u/\q u/\r u/\i u/\j u/\F u:=⟨u,H0,H1,H2,H3,H4,k⟩
theorem xa3{a:Sort _}{p:a->Prop}{q:a->Prop}{b:Sort _}{r:a->b->Prop}{F:a->b->Prop}(u:a)(H0:p u)(H1:q u)(v:b)(H2:r u v)(k:F u v):∃u,p u/\q u/\∃v,r u v/\F u v:=⟨u,H0,H1,v,H2,k⟩
theorem xbn{a:Sort _}{p:a->Prop}{q:a->Prop}{b:Sort _}{c:Sort _}{r:a->b->c->Prop}{i:a->b->c->Prop}{F:a->b->c->Prop}(u:a)(H0:p u)(H1:q u)(v:b)(w:c)(H2:r u v w)(H3:i u v w)(k:F u v w):∃u,p u/\q u/\∃v,∃w,r u v w/\i u v w/\F u v w:=⟨u,H0,H1,v,w,H2,H3,k⟩
theorem xbd{a:Sort _}{p:a->Prop}{b:Sort _}{q:a->b->Prop}{r:a->b->Prop}{F:a->b->Prop}(u:a)(H0:p u)(v:b)(H1:q u v)(H2:r u v)(k:F u v):∃u,p u/\∃v,q u v/\r u v/\F u v:=⟨u,H0,v,H1,H2,k⟩
theorem xcp{a:Sort _}{p:a->Prop}{b:Sort _}{q:a->b->Prop}{r:a->b->Prop}{c:Sort _}{i:a->b->c->Prop}{F:a->b->c->Prop}(u:a)(H0:p u)(v:b)(H1:q u v)(H2:r u v)(w:c)(H3:i u v w)(k:F u v w):∃u,p u/\∃v,q u v/\r u v/\∃w,i u v w/\F u v w:=⟨u,H0,v,H1,H2,w,H3,k⟩
theorem xar{a:Sort _}{p:a->Prop}{b:Sort _}{q:a->b->Prop}{c:Sort _}{r:a->b->c->Prop}{d:Sort _}{i:a->b->c->d->Prop}{e:Sort _}{j:a->b->c->d->e->Prop}{F:a->b->c->d->e->Prop}(u:a)(H0:p u)(v:b)(H1:q u v)(w:c)(H2:r u v w)(x:d)(H3:i u v w x)(y:e)(H4:j u v w x y)(k:F u v w x y):∃u,p u/\∃v,q u v/\∃w,r u v w/\∃x,i u v w x/\∃y,j u v w x y/\F u v w x y:=⟨u,H0,v,H1,w,H2,x,H3,y,H4,k⟩
theorem xbu{a:Sort _}{p:a->Prop}{b:Sort _}{q:a->b->Prop}{c:Sort _}{r:a->b->c->Prop}{d:Sort _}{e:Sort _}{F:a->b->c->d->e->Prop}(u:a)(H0:p u)(v:b)(H1:q u v)(w:c)(H2:r u v w)(x:d)(y:e)(k:F u v w x y):∃u,p u/\∃v,q u v/\∃w,r u v w/\∃x,∃y,F u v w x y:=⟨u,H0,v,H1,w,H2,x,y,k⟩
theorem xaq{a:Sort _}{p:a->Prop}{b:Sort _}{q:a->b->Prop}{c:Sort _}{r:a->b->c->Prop}{d:Sort _}{e:Sort _}{i:a->b->c->d->e->Prop}{j:a->b->c->d->e->Prop}{F:a->b->c->d->e->Prop}(u:a)(H0:p u)(v:b)(H1:q u v)(w:c)(H2:r u v w)(x:d)(y:e)(H3:i u v w x y)(H4:j u v w x y)(k:F u v w x y):∃u,p u/\∃v,q u v/\∃w,r u v w/\∃x,∃y,i u v w x y/\j u v w x y/\F u v w x y:=⟨u,H0,v,H1,w,H2,x,y,H3,H4,k⟩
theorem xbe{a:Sort _}{p:a->Prop}{b:Sort _}{q:a->b->Prop}{c:Sort _}{d:Sort _}{r:a->b->c->d->Prop}{i:a->b->c->d->Prop}{e:Sort _}{F:a->b->c->d->e->Prop}(u:a)(H0:p u)(v:b)(H1:q u v)(w:c)(x:d)(H2:r u v w x)(H3:i u v w x)(y:e)(k:F u v w x y):∃u,p u/\∃v,q u v/\∃w,∃x,r u v w x/\i u v w x/\∃y,F u v w x y:=⟨u,H0,v,H1,w,x,H2,H3,y,k⟩
theorem xai{a:Sort _}{p:a->Prop}{b:Sort _}{q:a->b->Prop}{c:Sort _}{d:Sort _}{e:Sort _}{F:a->b->c->d->e->Prop}(u:a)(H0:p u)(v:b)(H1:q u v)(w:c)(x:d)(y:e)(k:F u v w x y):∃u,p u/\∃v,q u v/\∃w,∃x,∃y,F u v w x y:=⟨u,H0,v,H1,w,x,y,k⟩
theorem xb4{a:Sort _}{p:a->Prop}{b:Sort _}{q:a->b->Prop}{c:Sort _}{d:Sort _}{e:Sort _}{r:a->b->c->d->e->Prop}{i:a->b->c->d->e->Prop}{j:a->b->c->d->e->Prop}{F:a->b->c->d->e->Prop}(u:a)(H0:p u)(v:b)(H1:q u v)(w:c)(x:d)(y:e)(H2:r u v w x y)(H3:i u v w x y)(H4:j u v w x y)(k:F u v w x y):∃u,p u/\∃v,q u v/\∃w,∃x,∃y,r u v w x y/\i u v w x y/\j u v w x y/\F u v w x y:=⟨u,H0,v,H1,w,x,y,H2,H3,H4,k⟩
theorem xa0{a:Sort _}{p:a->Prop}{b:Sort _}{c:Sort _}{q:a->b->c->Prop}{r:a->b->c->Prop}{F:a->b->c->Prop}(u:a)(H0:p u)(v:b)(w:c)(H1:q u v w)(H2:r u v w)(k:F u v w):∃u,p u/\∃v,∃w,q u v w/\r u v w/\F u v w:=⟨u,H0,v,w,H1,H2,k⟩
theorem xbc{a:Sort _}{p:a->Prop}{b:Sort _}{c:Sort _}{q:a->b->c->Prop}{r:a->b->c->Prop}{d:Sort _}{i:a->b->c->d->Prop}{F:a->b->c->d->Prop}(u:a)(H0:p u)(v:b)(w:c)(H1:q u v w)(H2:r u v w)(x:d)(H3:i u v w x)(k:F u v w x):∃u,p u/\∃v,∃w,q u v w/\r u v w/\∃x,i u v w x/\F u v w x:=⟨u,H0,v,w,H1,H2,x,H3,k⟩
theorem xbg{a:Sort _}{p:a->Prop}{b:Sort _}{c:Sort _}{q:a->b->c->Prop}{r:a->b->c->Prop}{d:Sort _}{e:Sort _}{i:a->b->c->d->e->Prop}{j:a->b->c->d->e->Prop}{F:a->b->c->d->e->Prop}(u:a)(H0:p u)(v:b)(w:c)(H1:q u v w)(H2:r u v w)(x:d)(y:e)(H3:i u v w x y)(H4:j u v w x y)(k:F u v w x y):∃u,p u/\∃v,∃w,q u v w/\r u v w/\∃x,∃y,i u v w x y/\j u v w x y/\F u v w x y:=⟨u,H0,v,w,H1,H2,x,y,H3,H4,k⟩
theorem xbf{a:Sort _}{p:a->Prop}{b:Sort _}{c:Sort _}{d:Sort _}{q:a->b->c->d->Prop}{r:a->b->c->d->Prop}{i:a->b->c->d->Prop}{e:Sort _}{j:a->b->c->d->e->Prop}{F:a->b->c->d->e->Prop}(u:a)(H0:p u)(v:b)(w:c)(x:d)(H1:q u v w x)(H2:r u v w x)(H3:i u v w x)(y:e)(H4:j u v w x y)(k:F u v w x y):∃u,p u/\∃v,∃w,∃x,q u v w x/\r u v w x/\i u v w x/\∃y,j u v w x y/\F u v w x y:=⟨u,H0,v,w,x,H1,H2,H3,y,H4,k⟩
theorem xaz{a:Sort _}{p:a->Prop}{b:Sort _}{c:Sort _}{d:Sort _}{e:Sort _}{F:a->b->c->d->e->Prop}(u:a)(H0:p u)(v:b)(w:c)(x:d)(y:e)(k:F u v w x y):∃u,p u/\∃v,∃w,∃x,∃y,F u v w x y:=⟨u,H0,v,w,x,y,k⟩
theorem xaa{a:Sort _}{p:a->Prop}{b:Sort _}{c:Sort _}{d:Sort _}{e:Sort _}{q:a->b->c->d->e->Prop}{r:a->b->c->d->e->Prop}{i:a->b->c->d->e->Prop}{j:a->b->c->d->e->Prop}{F:a->b->c->d->e->Prop}(u:a)(H0:p u)(v:b)(w:c)(x:d)(y:e)(H1:q u v w x y)(H2:r u v w x y)(H3:i u v w x y)(H4:j u v w x y)(k:F u v w x y):∃u,p u/\∃v,∃w,∃x,∃y,q u v w x y/\r u v w x y/\i u v w x y/\j u v w x y/\F u v w x y:=⟨u,H0,v,w,x,y,H1,H2,H3,H4,k⟩
theorem jEE{a:Sort _}{b:Sort _}{F:a->b->Prop}(u:a)(v:b)(k:F u v):∃u,∃v,F u v:=⟨u,v,k⟩
theorem jEEA{a:Sort _}{b:Sort _}{p:a->b->Prop}{F:a->b->Prop}(u:a)(v:b)(H0:p u v)(k:F u v):∃u,∃v,p u v/\F u v:=⟨u,v,H0,k⟩
theorem xas{a:Sort _}{b:Sort _}{p:a->b->Prop}{q:a->b->Prop}{F:a->b->Prop}(u:a)(v:b)(H0:p u v)(H1:q u v)(k:F u v):∃u,∃v,p u v/\q u v/\F u v:=⟨u,v,H0,H1,k⟩
theorem xbv{a:Sort _}{b:Sort _}{p:a->b->Prop}{q:a->b->Prop}{r:a->b->Prop}{F:a->b->Prop}(u:a)(v:b)(H0:p u v)(H1:q u v)(H2:r u v)(k:F u v):∃u,∃v,p u v/\q u v/\r u v/\F u v:=⟨u,v,H0,H1,H2,k⟩
theorem xcf{a:Sort _}{b:Sort _}{p:a->b->Prop}{q:a->b->Prop}{r:a->b->Prop}{i:a->b->Prop}{F:a->b->Prop}(u:a)(v:b)(H0:p u v)(H1:q u v)(H2:r u v)(H3:i u v)(k:F u v):∃u,∃v,p u v/\q u v/\r u v/\i u v/\F u v:=⟨u,v,H0,H1,H2,H3,k⟩
theorem xa5{a:Sort _}{b:Sort _}{p:a->b->Prop}{q:a->b->Prop}{r:a->b->Prop}{i:a->b->Prop}{j:a->b->Prop}{F:a->b->Prop}(u:a)(v:b)(H0:p u v)(H1:q u v)(H2:r u v)(H3:i u v)(H4:j u v)(k:F u v):∃u,∃v,p u v/\q u v/\r u v/\i u v/\j u v/\F u v:=⟨u,v,H0,H1,H2,H3,H4,k⟩
theorem xa2{a:Sort _}{b:Sort _}{p:a->b->Prop}{q:a->b->Prop}{r:a->b->Prop}{c:Sort _}{d:Sort _}{i:a->b->c->d->Prop}{e:Sort _}{F:a->b->c->d->e->Prop}(u:a)(v:b)(H0:p u v)(H1:q u v)(H2:r u v)(w:c)(x:d)(H3:i u v w x)(y:e)(k:F u v w x y):∃u,∃v,p u v/\q u v/\r u v/\∃w,∃x,i u v w x/\∃y,F u v w x y:=⟨u,v,H0,H1,H2,w,x,H3,y,k⟩
theorem xam{a:Sort _}{b:Sort _}{p:a->b->Prop}{q:a->b->Prop}{c:Sort _}{d:Sort _}{r:a->b->c->d->Prop}{i:a->b->c->d->Prop}{e:Sort _}{F:a->b->c->d->e->Prop}(u:a)(v:b)(H0:p u v)(H1:q u v)(w:c)(x:d)(H2:r u v w x)(H3:i u v w x)(y:e)(k:F u v w x y):∃u,∃v,p u v/\q u v/\∃w,∃x,r u v w x/\i u v w x/\∃y,F u v w x y:=⟨u,v,H0,H1,w,x,H2,H3,y,k⟩
theorem jEEE{a:Sort _}{b:Sort _}{c:Sort _}{F:a->b->c->Prop}(u:a)(v:b)(w:c)(k:F u v w):∃u,∃v,∃w,F u v w:=⟨u,v,w,k⟩
theorem xbo{a:Sort _}{b:Sort _}{c:Sort _}{p:a->b->c->Prop}{q:a->b->c->Prop}{F:a->b->c->Prop}(u:a)(v:b)(w:c)(H0:p u v w)(H1:q u v w)(k:F u v w):∃u,∃v,∃w,p u v w/\q u v w/\F u v w:=⟨u,v,w,H0,H1,k⟩
theorem xb0{a:Sort _}{b:Sort _}{c:Sort _}{p:a->b->c->Prop}{q:a->b->c->Prop}{r:a->b->c->Prop}{F:a->b->c->Prop}(u:a)(v:b)(w:c)(H0:p u v w)(H1:q u v w)(H2:r u v w)(k:F u v w):∃u,∃v,∃w,p u v w/\q u v w/\r u v w/\F u v w:=⟨u,v,w,H0,H1,H2,k⟩
theorem xap{a:Sort _}{b:Sort _}{c:Sort _}{p:a->b->c->Prop}{q:a->b->c->Prop}{r:a->b->c->Prop}{i:a->b->c->Prop}{F:a->b->c->Prop}(u:a)(v:b)(w:c)(H0:p u v w)(H1:q u v w)(H2:r u v w)(H3:i u v w)(k:F u v w):∃u,∃v,∃w,p u v w/\q u v w/\r u v w/\i u v w/\F u v w:=⟨u,v,w,H0,H1,H2,H3,k⟩
theorem xb9{a:Sort _}{b:Sort _}{c:Sort _}{p:a->b->c->Prop}{q:a->b->c->Prop}{r:a->b->c->Prop}{i:a->b->c->Prop}{j:a->b->c->Prop}{g:a->b->c->Prop}{F:a->b->c->Prop}(u:a)(v:b)(w:c)(H0:p u v w)(H1:q u v w)(H2:r u v w)(H3:i u v w)(H4:j u v w)(H5:g u v w)(k:F u v w):∃u,∃v,∃w,p u v w/\q u v w/\r u v w/\i u v w/\j u v w/\g u v w/\F u v w:=⟨u,v,w,H0,H1,H2,H3,H4,H5,k⟩
theorem xag{a:Sort _}{b:Sort _}{c:Sort _}{d:Sort _}{p:a->b->c->d->Prop}{q:a->b->c->d->Prop}{r:a->b->c->d->Prop}{i:a->b->c->d->Prop}{F:a->b->c->d->Prop}(u:a)(v:b)(w:c)(x:d)(H0:p u v w x)(H1:q u v w x)(H2:r u v w x)(H3:i u v w x)(k:F u v w x):∃u,∃v,∃w,∃x,p u v w x/\q u v w x/\r u v w x/\i u v w x/\F u v w x:=⟨u,v,w,x,H0,H1,H2,H3,k⟩
theorem xav{a:Sort _}{b:Sort _}{c:Sort _}{d:Sort _}{p:a->b->c->d->Prop}{q:a->b->c->d->Prop}{r:a->b->c->d->Prop}{i:a->b->c->d->Prop}{j:a->b->c->d->Prop}{F:a->b->c->d->Prop}(u:a)(v:b)(w:c)(x:d)(H0:p u v w x)(H1:q u v w x)(H2:r u v w x)(H3:i u v w x)(H4:j u v w x)(k:F u v w x):∃u,∃v,∃w,∃x,p u v w x/\q u v w x/\r u v w x/\i u v w x/\j u v w x/\F u v w x:=⟨u,v,w,x,H0,H1,H2,H3,H4,k⟩
theorem xa8{a:Sort _}{b:Sort _}{c:Sort _}{d:Sort _}{p:a->b->c->d->Prop}{q:a->b->c->d->Prop}{r:a->b->c->d->Prop}{i:a->b->c->d->Prop}{e:Sort _}{F:a->b->c->d->e->Prop}(u:a)(v:b)(w:c)(x:d)(H0:p u v w x)(H1:q u v w x)(H2:r u v w x)(H3:i u v w x)(y:e)(k:F u v w x y):∃u,∃v,∃w,∃x,p u v w x/\q u v w x/\r u v w x/\i u v w x/\∃y,F u v w x y:=⟨u,v,w,x,H0,H1,H2,H3,y,k⟩
theorem xal{a:Sort _}{b:Sort _}{c:Sort _}{d:Sort _}{e:Sort _}{F:a->b->c->d->e->Prop}(u:a)(v:b)(w:c)(x:d)(y:e)(k:F u v w x y):∃u,∃v,∃w,∃x,∃y,F u v w x y:=⟨u,v,w,x,y,k⟩
theorem xch{a:Sort _}{b:Sort _}{c:Sort _}{d:Sort _}{e:Sort _}{p:a->b->c->d->e->Prop}{q:a->b->c->d->e->Prop}{r:a->b->c->d->e->Prop}{i:a->b->c->d->e->Prop}{F:a->b->c->d->e->Prop}(u:a)(v:b)(w:c)(x:d)(y:e)(H0:p u v w x y)(H1:q u v w x y)(H2:r u v w x y)(H3:i u v w x y)(k:F u v w x y):∃u,∃v,∃w,∃x,∃y,p u v w x y/\q u v w x y/\r u v w x y/\i u v w x y/\F u v w x y:=⟨u,v,w,x,y,H0,H1,H2,H3,k⟩
theorem xah{a:Sort _}{b:Sort _}{c:Sort _}{d:Sort _}{e:Sort _}{p:a->b->c->d->e->Prop}{q:a->b->c->d->e->Prop}{r:a->b->c->d->e->Prop}{i:a->b->c->d->e->Prop}{j:a->b->c->d->e->Prop}{F:a->b->c->d->e->Prop}(u:a)(v:b)(w:c)(x:d)(y:e)(H0:p u v w x y)(H1:q u v w x y)(H2:r u v w x y)(H3:i u v w x y)(H4:j u v w x y)(k:F u v w x y):∃u,∃v,∃w,∃x,∃y,p u v w x y/\q u v w x y/\r u v w x y/\i u v w x y/\j u v w x y/\F u v w x y:=⟨u,v,w,x,y,H0,H1,H2,H3,H4,k⟩
end
section
namespace L2
open PySem PySem.Spec PyProof.Rows
abbrev Key:=Sum Int Str
def xlr:Key->Value->Bool
 |.inl k,v=>Value.isInt k v
 |.inr x,v=>Value.isStrOf x v
def keyH(w:World):Key->Int
 |.inl k=>hashInt k
 |.inr x=>hashStr w x
theorem xbz:∀{k:Key} {v:Value},xlr k v=true->(∃i t,k=Sum.inl i/\v=Value.int i t)\/(∃x t,k=Sum.inr x/\v=Value.str x t)
 |.inl i,v,h=>by
  obtain⟨t,e⟩:=Value.isInt_shape (k:=i) (v:=v) h;exact .inl ⟨i,t,rfl,e⟩
 |.inr x,v,h=>by
  obtain⟨t,e⟩:=Value.isStrOf_shape (x:=x) (v:=v) h;exact .inr ⟨x,t,rfl,e⟩
theorem xnk(i:Int)(t:Tok):xlr (.inl i) (.int i t)=true:=by simp[xlr,Value.isInt]
theorem xnj(x:Str)(t:Tok):xlr (.inr x) (.str x t)=true:=by simp[xlr,Value.isStrOf]
theorem xs2(a b:Int):decide ((Sum.inl a:Key)=Sum.inl b)=(a == b):=by
 by_cases e:a=b
 ·subst e;simp
 ·have h:¬(Sum.inl a:Key)=Sum.inl b:=λq=>e (Sum.inl.inj q)
  rw[zDF h];exact(beq_eq_false_iff_ne.mpr e).symm
theorem xsz(a b:Str):decide ((Sum.inr a:Key)=Sum.inr b)=decide (a=b):=by
 by_cases e:a=b
 ·subst e;simp
 ·have h:¬(Sum.inr a:Key)=Sum.inr b:=λq=>e (Sum.inr.inj q)
  rw[zDF h,zDF e]
theorem xs1(a:Int)(b:Str):decide ((Sum.inl a:Key)=Sum.inr b)=false:=zDF (λq=>nomatch q)
theorem xs0(a:Str)(b:Int):decide ((Sum.inr a:Key)=Sum.inl b)=false:=zDF (λq=>nomatch q)
def xce(prog:Program)(w:World):PySem.KeyKind prog w Key where
 is:=xlr
 hash:=keyH w
 inj:=λv a b ha hb=>by
  rcases xbz ha with⟨i,t,rfl,rfl⟩ |⟨x,t,rfl,rfl⟩
  ·rcases xbz hb with⟨j,u,rfl,e⟩ |⟨y,u,rfl,e⟩
   ·injection e with e1 _;rw[e1]
   ·exact nomatch e
  ·rcases xbz hb with⟨j,u,rfl,e⟩ |⟨y,u,rfl,e⟩
   ·exact nomatch e
   ·injection e with e1 _;rw[e1]
 byValue:=λk v h=>by
  rcases xbz h with⟨i,t,rfl,rfl⟩ |⟨x,t,rfl,rfl⟩ <;> rfl
 pyHash:=λhv h=>by
  rcases xbz hv with⟨i,t,rfl,rfl⟩ |⟨x,t,rfl,rfl⟩
  ·exact wpAny_pyHash_int h
  ·exact wpAny_pyHash_str h
 eqBool:=λhu hv h=>by
  rcases xbz hu with⟨i,t,rfl,rfl⟩ |⟨x,t,rfl,rfl⟩
  ·rcases xbz hv with⟨j,u,rfl,rfl⟩ |⟨y,u,rfl,rfl⟩
   ·rw[xs2]at h;exact wpAny_eqBool_int h
   ·rw[xs1]at h;exact SeqAt.EqAt.int_str i t y u _ _ _ _ h
  ·rcases xbz hv with⟨j,u,rfl,rfl⟩ |⟨y,u,rfl,rfl⟩
   ·rw[xs0]at h;exact SeqAt.EqAt.str_int x t j u _ _ _ _ h
   ·rw[xsz]at h;exact wpAny_eqBool_str h
 «strs»:=λk x t v h=>by
  rcases xbz h with⟨i,u,rfl,e⟩ |⟨y,u,rfl,e⟩
  ·exact nomatch e
  ·injection e with e1 _
   subst e1;cases v <;> rfl
theorem xjv(prog:Program)(w:World)(i:Int)(t:Tok):(xce prog w).is (.inl i) (.int i t)=true:=xnk i t
theorem xju(prog:Program)(w:World)(x:Str)(t:Tok):(xce prog w).is (.inr x) (.str x t)=true:=xnj x t
inductive V where
 |non |bl (b:Bool) |int (i:Int) |str (x:Str) |byt (b:Array UInt8) |flt (b:UInt64) |ref (a:Addr) |ty (n:String)
 deriving DecidableEq
def RelV:V->Value->Prop
 |.non,u=>u=Value.none
 |.bl b,u=>u=Value.bool b
 |.int i,u=>∃t,u=Value.int i t
 |.str x,u=>∃t,u=Value.str x t
 |.byt b,u=>∃t,u=Value.bytes b t
 |.flt b,u=>∃t,u=Value.float b t
 |.ref a,u=>u=Value.ref a
 |.ty n,u=>u=Value.type n
abbrev Vals:List V->List Value->Prop:=Paired RelV
theorem Vals.length{xs:List V}{us:List Value}(r:Vals xs us):xs.length=us.length:=Paired.length r
theorem Vals.get:∀{xs:List V} {us:List Value} {i:Nat} {x:V},Vals xs us->xs[i]?=some x->∃u,us[i]?=some u/\RelV x u
 |_,_,_,_,.nil,e=>by simp at e
 |_,_,0,_,.cons r _,e=>by simp at e;subst e;exact⟨_,rfl,r⟩
 |_,_,i+1,x,.cons _ t,e=>by
  obtain⟨u,h1,h2⟩:=Vals.get (i:=i) (x:=x) t (by simpa using e);exact⟨u,by simpa using h1,h2⟩
theorem Vals.set{x:V}{u:Value}(r:RelV x u):∀{xs:List V} {us:List Value} (i:Nat),Vals xs us->Vals (xs.set i x) (us.set i u)
 |_,_,_,.nil=>.nil
 |_,_,0,.cons _ t=>.cons r t
 |_,_,i+1,.cons q t=>.cons q (Vals.set r i t)
theorem Vals.append:∀{xs ys:List V} {us ws:List Value},Vals xs us->Vals ys ws->Vals (xs++ys) (us++ws)
 |_,_,_,_,.nil,s=>s
 |_,_,_,_,.cons r t,s=>.cons r (Vals.append t s)
theorem Vals.take:∀{xs:List V} {us:List Value} (n:Nat),Vals xs us->Vals (xs.take n) (us.take n)
 |_,_,0,_=>.nil
 |_,_,_+1,.nil=>.nil
 |_,_,n+1,.cons r t=>.cons r (Vals.take n t)
theorem Vals.drop:∀{xs:List V} {us:List Value} (n:Nat),Vals xs us->Vals (xs.drop n) (us.drop n)
 |_,_,0,r=>r
 |_,_,_+1,.nil=>.nil
 |_,_,n+1,.cons _ t=>Vals.drop n t
def RelO:Option V->Option Value->Prop
 |some v,some u=>RelV v u
 |none,none=>True
 |_,_=>False
def KV{κ:Type}:List (κ×V)->List (κ×Value)->Prop:=Paired λ(p:κ×V) (q:κ×Value)=>p.1=q.1/\RelV p.2 q.2
def kV:Key->V
 |.inl i=>.int i
 |.inr x=>.str x
inductive HO where
 |lst (xs:List V)
 |tup (xs:List V)
 |dK (kvs:List (Key×V)) |dT (kvs:List (List Key×V))
 |set (S:Int->Bool) (n:Nat)
 |ins (C dx:Addr) (fs:List (Str×V))
 |own (x:Addr)
 |xd (fs:List (Str×V))
 |met (f x:Addr)
 |rng (lo hi:Int)
 |frz (o:Obj) (u:HO)
 |tbl (ps:Array Value)
 |ext (φ:Heap->Prop)
abbrev Hp:=Addr->Option HO
def upd(H:Hp)(a:Addr)(o:HO):Hp:=λb=>if b=a then some o else H b
theorem ups{H:Hp}{a:Addr}{o:HO}:upd H a o a=some o:=by unfold upd;rw[if_pos rfl]
theorem xao{H:Hp}{a b:Addr}{o:HO}(h:b≠a):upd H a o b=H b:=by unfold upd;rw[if_neg h]
theorem xt5{H:Hp}{a b:Addr}{o u:HO}(h:H a=some o)(h':H b=some u)(d:o≠u):a≠b:=by
 intro e;subst e;rw[h]at h';exact d (Option.some.inj h')
theorem neN{H:Hp}{a b:Addr}{o:HO}(h:H a=some o)(h':H b=none):a≠b:=by
 intro e;subst e;rw[h]at h';cases h'
section
variable (P:Program)(w:World)
def ObjOk(H:Hp)(h:Heap)(a:Addr):HO->Prop
 |.lst xs=>xs.length<=sizeLine/\∃(its:List Value) (n:Nat),Vals xs its/\h.get? a=some {cls:=.type "list",data:=.seq its.toArray n}
 |.tup xs=>xs.length<=sizeLine/\∃its:List Value,Vals xs its/\∃o,h.get? a=some o/\o.cls=.type "tuple"/\∃n,o.data=.seq its.toArray n/\o.dict=none
 |.dK kvs=>kvs.length<=sizeLine/\(a == sysModules)=false/\∃vs,KV kvs vs/\h.DictOf (xce P w) a vs
 | .dT kvs=>kvs.length<=sizeLine/\(a == sysModules)=false/\∃xs:List (List Key×Addr×Value),
   Paired (λ(p:List Key×V) (q:List Key×Addr×Value)=>p.1=q.1/\H q.2.1=some (.tup (p.1.map kV))/\RelV p.2 q.2.2) kvs xs ∧
   ∃o es ep,h.get? a=some o/\o.ExactDict/\o.data=.dict es ep/\es.toList=xs.map (entryOfKey (tupleKind (xce P w)))/\(xs.map (·.1)).Nodup
 |.set S n=>h.SetOf (intKind P w) a S n
 | .ins C dx fs=>H dx=some (.own a)/\fs.length<=1000/\dx≠a/\h.get? a=some (PySem.W.instObj C dx) ∧
   ∃mA,h.Ns1 dx mA/\(∀f,RelO (fs.lookup f) (mA f))/\PySem.Within mA (fs.map (·.1))
 |.own _=>∃o,h.get? a=some o
 |.xd fs=>∃mA,h.Ns1 a mA/\∀f,RelO (fs.lookup f) (mA f)
 |.rng lo hi=>∃t u v,h.get? a=some {cls:=.type "range",data:=.fields #[.int lo t,.int hi u,.int 1 v]}
 |.frz o u=>h.get? a=some o/\ObjOk H h a u
 |.tbl ps=>h.get? a=some {cls:=.none,data:=.fields ps}
 |.met f x=>h.get? a=some (PySem.W.methodObj (.ref f) (.ref x))
 |.ext φ=>φ h/\(∃o,h.get? a=some o)/\∀h1 h2:Heap,φ h1->(∀o,h1.get? a=some o->h2.get? a=some o)->φ h2
def HOk(H:Hp)(h:Heap):Prop:=∀a o,H a=some o->ObjOk P w H h a o
end
section
variable {P:Program}{w:World}{H H':Hp}{h h':Heap}{a:Addr}{o:HO}
theorem ObjOk.lt(x:ObjOk P w H h a o):a<h.objs.size:=by
 cases o with
 |lst xs=>obtain⟨_,_,_,_,e⟩:=x;exact Heap.lt_size e
 |tup xs=>obtain⟨_,_,_,_,e,_⟩:=x;exact Heap.lt_size e
 |dK kvs=>obtain⟨_,_,_,_,o,_,_,e,_⟩:=x;exact Heap.lt_size e
 |dT kvs=>obtain⟨_,_,_,_,o,_,_,e,_⟩:=x;exact Heap.lt_size e
 |set S n=>obtain⟨o,_,_,_,e,_⟩:=x;exact Heap.lt_size e
 |ins C dx fs=>obtain⟨_,_,_,e,_⟩:=x;exact Heap.lt_size e
 |own y=>obtain⟨_,e⟩:=x;exact Heap.lt_size e
 |xd fs=>obtain⟨_,⟨_,_,_,e,_⟩,_⟩:=x;exact Heap.lt_size e
 |rng lo hi=>obtain⟨_,_,_,e⟩:=x;exact Heap.lt_size e
 |frz b u=>obtain⟨e,_⟩:=x;exact Heap.lt_size e
 |tbl ps=>exact Heap.lt_size (show h.get? a=some _ from x)
 |met f y=>exact Heap.lt_size (show h.get? a=some _ from x)
 |ext φ=>obtain⟨_,⟨_,e⟩,_⟩:=x;exact Heap.lt_size e
theorem Paired.mapP{α β:Type}{F G:α->β->Prop}:∀{e:List α} {c:List β},Paired F e c->(∀a b,F a b->G a b)->Paired G e c
 |_,_,.nil,_=>.nil
 |_,_,.cons r t,f=>.cons (f _ _ r) (Paired.mapP t f)
theorem ObjOk.stay (x:ObjOk P w H h a o) (k:∀b u,(b=a\/H b=some (.own a))->h.get? b=some u->h'.get? b=some u)
  (ho:∀b,H b=some (.own a)->H' b=some (.own a)) (ht:∀b xs,H b=some (.tup xs)->H' b=some (.tup xs)):ObjOk P w H' h' a o:=by
 induction o with
 |lst xs=>obtain⟨z,its,n,r,e⟩:=x;exact⟨z,its,n,r,k _ _ (.inl rfl) e⟩
 |tup xs=>obtain⟨z,its,r,ob,e,c⟩:=x;exact⟨z,its,r,ob,k _ _ (.inl rfl) e,c⟩
 |dK kvs=>obtain⟨z,y,vs,r,ob,es,ep,e,c⟩:=x;exact⟨z,y,vs,r,ob,es,ep,k _ _ (.inl rfl) e,c⟩
 |dT kvs=>
  obtain⟨z,y,xs,r,ob,es,ep,e,c⟩:=x;exact⟨z,y,xs,Paired.mapP r λp q z=>⟨z.1,ht _ _ z.2.1,z.2.2⟩,ob,es,ep,k _ _ (.inl rfl) e,c⟩
 |set S n=>obtain⟨ob,es,ep,t,e,c⟩:=x;exact⟨ob,es,ep,t,k _ _ (.inl rfl) e,c⟩
 |ins C dx fs=>
  obtain⟨d,z,ne,e,mA,⟨od,es,ep,e2,c⟩,r⟩:=x;exact⟨ho _ d,z,ne,k _ _ (.inl rfl) e,mA,⟨od,es,ep,k _ _ (.inr d) e2,c⟩,r⟩
 |own y=>obtain⟨ob,e⟩:=x;exact⟨ob,k _ _ (.inl rfl) e⟩
 |xd fs=>obtain⟨mA,⟨od,es,ep,e,c⟩,r⟩:=x;exact⟨mA,⟨od,es,ep,k _ _ (.inl rfl) e,c⟩,r⟩
 |rng lo hi=>obtain⟨t,u,v,e⟩:=x;exact⟨t,u,v,k _ _ (.inl rfl) e⟩
 |frz ob u ih=>obtain⟨e,q⟩:=x;exact⟨k _ _ (.inl rfl) e,ih q⟩
 |tbl ps=>
  have e:h.get? a=some {cls:=.none,data:=.fields ps}:=x;show h'.get? a=some {cls:=.none,data:=.fields ps};exact k a _ (.inl rfl) e
 |met f y=>
  have e:h.get? a=some (PySem.W.methodObj (.ref f) (.ref y)):=x;show h'.get? a=some (PySem.W.methodObj (.ref f) (.ref y));exact k a _ (.inl rfl) e
 |ext φ=>obtain⟨p,⟨o,e⟩,st⟩:=x;exact⟨st _ _ p λo q=>k _ _ (.inl rfl) q,⟨o,k _ _ (.inl rfl) e⟩,st⟩
theorem HOk.lt(x:HOk P w H h)(e:H a=some o):a<h.objs.size:=(x a o e).lt
theorem HOk.fresh(x:HOk P w H h)(e:h.objs.size<=a):H a=none:=by
 cases q:H a with
 |none=>rfl
 |some u=>exact absurd (Nat.lt_of_lt_of_le (x.lt q) e) (Nat.lt_irrefl _)
theorem HOk.kept(x:HOk P w H h)(k:∀b u,h.get? b=some u->h'.get? b=some u):HOk P w H h':=λa o e=>
 (x a o e).stay (λb u _ q=>k b u q) (λ_ q=>q) λ_ _ q=>q
theorem HOk.laid(x:HOk P w H h)(k:∀b u,h.get? b=some u->h'.get? b=some u)(hp:h.objs.size<=a)(new:ObjOk P w (upd H a o) h' a o):HOk P w (upd H a o) h':=λb u e=>by
 have hn:=x.fresh hp;by_cases hb:b=a
 ·subst hb;rw[ups]at e;cases e;exact new
 ·rw[xao hb]at e
  exact(x b u e).stay (λc v _ q=>k c v q) (λc q=>by rw[xao (neN q hn)];exact q) λc xs q=>by rw[xao (neN q hn)];exact q
end
def Rd(H:Hp)(a:Addr)(u:HO):Prop:=H a=some u\/∃o,H a=some (.frz o u)
theorem Rd.ok{P:Program}{w:World}{H:Hp}{h:Heap}{a:Addr}{u:HO}(r:Rd H a u)(x:HOk P w H h):ObjOk P w H h a u:=by
 rcases r with r |⟨o,r⟩
 ·exact x a u r
 ·obtain⟨_,q⟩:=x a _ r
  exact q
def Mut:Option HO->Prop
 |some (.lst _)=>True
 |some (.dK _)=>True
 |some (.dT _)=>True
 |some (.set _ _)=>True
 |some (.ins _ _ _)=>True
 |some (.ext _)=>True
 |_=>False
section
variable {P:Program}{w:World}{H:Hp}{h h':Heap}{x e:Addr}{o':HO}
theorem HOk.write (ok:HOk P w H h) (mu:Mut (H x)) (he:e=x\/H e=some (.own x)) (k:∀b u,b≠e->h.get? b=some u->h'.get? b=some u) (heo:∃u,h'.get? e=some u)
  (new:ObjOk P w (upd H x o') h' x o'):HOk P w (upd H x o') h':=λb u q=>by
 have nown:∀c y,H c=some (.own y)->c≠x:=λc y r z=>by subst z;rw[r]at mu;exact mu
 have ntup:∀c xs,H c=some (.tup xs)->c≠x:=λc xs r z=>by subst z;rw[r]at mu;exact mu
 by_cases hb:b=x
 ·subst hb;rw[ups]at q;cases q;exact new
 ·rw[xao hb]at q
  by_cases hbe:b=e
  ·have q':H b=some (.own x):=by
    rcases he with z |z
    ·exact absurd (hbe.trans z) hb
    ·rw[hbe];exact z
   rw[q]at q';cases q';obtain⟨v,hv⟩:=heo;exact⟨v,by rw[hbe];exact hv⟩
  ·refine(ok b u q).stay (λc v hc r=>k c v ?_ r) (λc r=>by rw[xao (nown c b r)];exact r) λc xs r=>by rw[xao (ntup c xs r)];exact r
   rcases hc with rfl |hc
   ·exact hbe
   ·rintro rfl
    rcases he with z |z
    ·exact nown c b hc z
    ·rw[hc]at z;cases z;exact hb rfl
end
structure Un(fs ex:List Addr)(H H':Hp)(h h':Heap):Prop where
 keep:∀b o,h.get? b=some o->H b=none->b ∉fs->b ∉ex->h'.get? b=some o
 slot:∀b o,h.get? b=some o->H b=none->b∈fs->b ∉ex->∃sl,h'.get? b=some {o with slots:=sl}
 free:∀b o,h.get? b=some o->H b=none->b ∉ex->H' b=none
 there:∀b o,h.get? b=some o->b ∉ex->∃o',h'.get? b=some o'
 tups:∀b xs,H b=some (.tup xs)->H' b=some (.tup xs)
 frzs:∀b o u,H b=some (.frz o u)->H' b=some (.frz o u)
 tbls:∀b ps,H b=some (.tbl ps)->∃more,H' b=some (.tbl (ps++more))
section
variable {fs fs' ex ex':List Addr}{H H1 H2:Hp}{h h1 h2 h':Heap}{a x e:Addr}{o:HO}
theorem Un.any(u:Un fs ex H H1 h h1){b:Addr}{a:Obj}(q:h.get? b=some a)(n:H b=none)(c:b ∉ex):∃sl,h1.get? b=some {a with slots:=sl}:=by
 by_cases e:b∈fs
 ·exact u.slot b a q n e c
 ·exact⟨a.slots,u.keep b a q n e c⟩
theorem Un.kept(k:∀b u,h.get? b=some u->h'.get? b=some u):Un fs ex H H h h':=
 ⟨λb a q _ _ _=>k b a q,λb a q _ _ _=>⟨a.slots,k b a q⟩,λ_ _ _ n _=>n,λb a q _=>⟨a,k b a q⟩,λ_ _ q=>q,λ_ _ _ q=>q,λ_ ps q=>⟨#[],by rw[q];simp⟩⟩
theorem Un.refl:Un fs ex H H h h:=Un.kept λ_ _ q=>q
theorem Un.laid(k:∀b u,h.get? b=some u->h'.get? b=some u)(c:h.objs.size<=a)(hn:H a=none):Un fs ex H (upd H a o) h h' where
 keep:=λb u q _ _ _=>k b u q
 slot:=λb u q _ _ _=>⟨u.slots,k b u q⟩
 free:=λb u q n _=>by rw[xao (Nat.ne_of_lt (Nat.lt_of_lt_of_le (Heap.lt_size q) c))];exact n
 there:=λb u q _=>⟨u,k b u q⟩
 tups:=λb xs q=>by rw[xao (neN q hn)];exact q
 frzs:=λb u xs q=>by rw[xao (neN q hn)];exact q
 tbls:=λb ps q=>⟨#[],by rw[xao (neN q hn),q];simp⟩
theorem Un.write(c:Mut (H x))(l:e=x\/H e=some (.own x))(k:∀b u,b≠e->h.get? b=some u->h'.get? b=some u)(g:∃u,h'.get? e=some u):Un fs ex H (upd H x o) h h':=by
 have i:∀b,H b=none->b≠x:=λb n z=>by subst z;rw[n]at c;exact c
 have j:∀b,H b=none->b≠e:=λb n z=>by
  subst z;rcases l with r |r
  ·exact i b n r
  ·rw[n]at r;cases r
 have f:∀b u,H b=some u->¬Mut (some u)->b≠x:=λb u q nm z=>by subst z;rw[q]at c;exact nm c
 refine⟨λb u q n _ _=>k b u (j b n) q,λb u q n _ _=>⟨u.slots,k b u (j b n) q⟩,λb u q n _=>by rw[xao (i b n)];exact n,λb u q _=>?_,
  λb xs q=>by rw[xao (f b _ q λz=>z)];exact q,λb u xs q=>by rw[xao (f b _ q λz=>z)];exact q,λb ps q=>⟨#[],by rw[xao (f b _ q λz=>z),q];simp⟩⟩
 by_cases a:b=e
 ·subst a;exact g
 ·exact⟨u,k b u a q⟩
end
def trk(h:Heap)(H:Hp):List Addr:=(List.range h.objs.size).filter λa=>(H a).isSome
def hidT(h:Heap)(H:Hp):Heap:=PySem.W.hideAll h (trk h H)
theorem xnp(h:Heap)(H:Hp):(hidT h H).objs.size=h.objs.size:=PySem.W.hideAll_size _ _
theorem xo9{h:Heap}{H:Hp}{b:Addr}{o:Obj}(e:h.get? b=some o)(n:H b=none):(hidT h H).get? b=some o:=
 PySem.W.hideAll_get _ e λa=>by
  have q:(H b).isSome=true:=(List.mem_filter.mp a).2;rw[n]at q;simp at q
theorem xqy{h:Heap}{H:Hp}{b:Addr}{o:Obj}(e:(hidT h H).get? b=some o):h.get? b=some o/\H b=none:=by
 have a:h.get? b=some o:=PySem.W.of_hideAll (trk h H) e;refine⟨a,?_⟩
 cases q:H b with
 |none=>rfl
 |some x=>
  have c:b∈trk h H:=List.mem_filter.mpr ⟨List.mem_range.mpr (Heap.lt_size a),by simp[q]⟩;have z:(hidT h H).get? b=none:=PySem.W.hideAll_none (trk h H) c;rw[z]at e;cases e
structure Mod(K:Fg)(mg:Str->Option Value)(base:Heap):Prop where
 kin:K.In base
 glob:base.Ns mainGlobals mg
 blt:∃mb,base.Ns builtinsNs mb/\∀x:Str,x≠"__name__"->mb x=bootBuiltins x
 nolimit:base.NoLimit
structure Cx where
 prog:Program
 w:World
 K:Fg
 mg:Str->Option Value
 base:Heap
 A:Around
 N:List Str
 s₀:Shared
 H₀:Hp
 env:Env
 outer:List Env
 stack:List Env
 ex:List Addr
 fn:Str->Bool
 calm:Bool
 pn:List (Addr×Obj)
 xe:Value->Shared->Prop
def frs(l:List Env):List Addr:=l.filterMap (·.frame)
abbrev Cx.fs(X:Cx):List Addr:=frs X.outer
def Vis(sc:Scope)(x:Str):Prop:=sc.names.lookup x=some .local\/sc.names.lookup x=some .cell\/sc.names.lookup x=some .free
def Loc(sc:Scope)(x:Str):Prop:=sc.names.lookup x=some .local\/sc.names.lookup x=some .cell
def Look(env:Env)(h:Heap)(m:Str->Option Value)(x:Str)(u:Value):Prop:=
 (env.kindOf x=some .local/\m x=some u)\/((env.kindOf x=some .cell\/env.kindOf x=some .free)/\∃c,env.cells.lookup x=some c/\h.IsCell c (some u))
structure Cx.Ok(X:Cx):Prop where
 mod:Mod X.K X.mg X.base
 kind:X.env.scope.kind=.function
 glob:X.env.globals=mainGlobals
 blt:X.env.builtins=builtinsNs
 above:X.s₀.heap.objs.size<=X.env.locals
 inj:∀x y c,X.env.cells.lookup x=some c->X.env.cells.lookup y=some c->x=y
 has:∀x,(X.env.kindOf x=some .cell\/X.env.kindOf x=some .free)->∃c,X.env.cells.lookup x=some c
 cab:∀x c,X.fn x=true->X.env.cells.lookup x=some c->X.s₀.heap.objs.size<=c
 hd:X.calm=true->X.A.handled=none
 frames:X.A.frames=some X.stack
 stk:X.stack=X.outer\/(X.stack=X.env::X.outer/\X.env.frame=some X.env.locals)
 exf:∀b∈X.ex,b≠X.env.locals/\∀x c,X.env.cells.lookup x=some c->c≠b
 bs:∀b o,X.base.get? b=some o->X.s₀.heap.get? b=some o/\X.H₀ b=none
 bsz:X.base.objs.size<=X.s₀.heap.objs.size
 noex:∀b o,X.base.get? b=some o->b ∉X.ex
 exfs:∀b∈X.ex,b ∉X.fs
 funs:X.s₀.heap.FunFrames X.base X.outer
 frf:∀b∈X.fs,X.H₀ b=none
structure Inv(X:Cx)(pins:List (Addr×Obj))(σ:List (Option V))(H:Hp)(s:Shared):Prop where
 ok:X.Ok
 os:s.os=X.s₀.os
 bare:AllBare s.gens
 base:Un X.fs X.ex X.H₀ H X.s₀.heap s.heap
 loc:∃m,s.heap.Ns X.env.locals m/\∀(i:Nat) (x:Str) (v:V),X.N[i]?=some x->σ[i]?=some (some v)->Vis X.env.scope x->∃u,RelV v u/\Look X.env s.heap m x u
 cell:∀x c,X.env.cells.lookup x=some c->∃v,s.heap.IsCell c v
 free:H X.env.locals=none
 freeC:∀x c,X.env.cells.lookup x=some c->H c=none
 pin:∀p∈X.pn++pins,s.heap.get? p.1=some p.2/\H p.1=none/\p.1≠X.env.locals/\p.1 ∉X.fs/\∀v,p.2.data≠.cell v
 hok:HOk X.prog X.w H s.heap
 len:σ.length=X.N.length
section
variable {X:Cx}{pins:List (Addr×Obj)}{σ:List (Option V)}{H H':Hp}{s:Shared}{h':Heap}
theorem Cx.Ok.nofr(ok:X.Ok){b:Addr}{o:Obj}(e:X.base.get? b=some o):b ∉X.fs:=λa=>by
 have:=(ok.funs.mem a).1;rw[e]at this;cases this
theorem Inv.bs(I:Inv X pins σ H s):∀b o,X.base.get? b=some o->s.heap.get? b=some o/\H b=none:=λb o e=>
 ⟨I.base.keep b o (I.ok.bs b o e).1 (I.ok.bs b o e).2 (I.ok.nofr e) (I.ok.noex b o e),I.base.free b o (I.ok.bs b o e).1 (I.ok.bs b o e).2 (I.ok.noex b o e)⟩
theorem Inv.bk(I:Inv X pins σ H s):∀b o,X.base.get? b=some o->s.heap.get? b=some o:=λb o e=>(I.bs b o e).1
theorem Inv.mod(I:Inv X pins σ H s):Mod X.K X.mg X.base:=I.ok.mod
theorem Inv.kIn(I:Inv X pins σ H s):X.K.In s.heap:=I.ok.mod.kin.keeps I.bk
theorem Inv.lt(I:Inv X pins σ H s):X.env.locals<s.heap.objs.size:=let ⟨_,hn,_⟩:=I.loc;hn.lt
theorem Inv.sz(I:Inv X pins σ H s):X.s₀.heap.objs.size<=s.heap.objs.size:=Nat.le_trans I.ok.above (Nat.le_of_lt I.lt)
theorem Inv.nofs(I:Inv X pins σ H s){a:Addr}(h:s.heap.objs.size<=a):a ∉X.fs:=λc=>by
 obtain⟨_,o,b,_⟩:=I.ok.funs.mem c;exact absurd (Nat.lt_of_lt_of_le (Heap.lt_size b) (Nat.le_trans I.sz h)) (Nat.lt_irrefl _)
theorem Inv.cne(I:Inv X pins σ H s):∀x c,X.env.cells.lookup x=some c->c≠X.env.locals:=λx c e z=>by
 obtain⟨v,o,f,hd⟩:=I.cell x c e;obtain⟨m,⟨o',es,ep,a,b,_⟩,_⟩:=I.loc;rw[z,a]at f;cases f;rw[b]at hd;cases hd
theorem Inv.funs(I:Inv X pins σ H s):s.heap.FunFrames X.base X.outer:=by
 have all:∀(l:List Env),(∀b∈frs l,b∈X.fs)->X.s₀.heap.FunFrames X.base l->s.heap.FunFrames X.base l:=by
  intro l
  induction l with
  |nil=>intro _ _;trivial
  |cons env r g=>
   intro hs j;obtain⟨m,⟨L,o,a,hn,i,hd⟩,h⟩:=j;have f:L∈X.fs:=hs L (by unfold frs;rw[List.filterMap_cons,a];exact List.mem_cons_self);obtain⟨sl,e⟩:=I.base.slot L o i (I.ok.frf L f) f λz=>I.ok.exfs L z f;exact⟨m,⟨L,_,a,hn,e,hd⟩,g (λb c=>hs b (by unfold frs;rw[List.filterMap_cons,a];exact List.mem_cons_of_mem _ c)) h⟩
 exact all X.outer (λ_ c=>c) I.ok.funs
theorem Inv.stack(I:Inv X pins σ H s):s.heap.FunFrames X.base X.stack:=by
 rcases I.ok.stk with e |⟨e,hf⟩
 ·rw[e];exact I.funs
 ·rw[e]
  obtain⟨m,hn,_⟩:=I.loc;refine .cons (by rw[I.ok.kind];decide) hf hn ?_ I.funs;exact Heap.get?_none_of_le (Nat.le_trans I.ok.bsz I.ok.above)
theorem Inv.stkSub(I:Inv X pins σ H s):∀b∈frs X.stack,b∈X.env.locals::X.fs:=λb a=>by
 rcases I.ok.stk with e |⟨e,c⟩
 ·rw[e]at a;exact List.mem_cons_of_mem _ a
 ·rw[e]at a
  unfold frs at a;rw[List.filterMap_cons,c]at a;exact a
theorem Inv.stkFree(I:Inv X pins σ H s):∀b∈frs X.stack,H b=none:=λb a=>by
 rcases zMC (I.stkSub b a) with e |a
 ·rw[e];exact I.free
 ·obtain⟨_,o,c,_⟩:=I.ok.funs.mem a
  exact I.base.free b o c (I.ok.frf b a) λz=>I.ok.exfs b z a
theorem Inv.step {g':Array GenState} {t':Nat} {d':Drawn} {ch:List Addr} (I:Inv X pins σ H s)
  (hch:∀b∈ch,(b∈X.ex\/X.s₀.heap.objs.size<=b)/\b≠X.env.locals/\(∀x c,X.env.cells.lookup x=some c->c≠b)/\∀p∈X.pn++pins,p.1≠b)
  (keep:∀b o,b≠X.env.locals->b ∉X.fs->b ∉ch->s.heap.get? b=some o->H b=none->h'.get? b=some o)
  (slot:∀b o,b≠X.env.locals->b∈X.fs->b ∉ch->s.heap.get? b=some o->H b=none->∃sl,h'.get? b=some {o with slots:=sl}) (free:∀b o,b ∉ch->s.heap.get? b=some o->H b=none->H' b=none)
  (there:∀b o,b ∉ch->s.heap.get? b=some o->∃o',h'.get? b=some o')
  (tups:∀b xs,H b=some (.tup xs)->H' b=some (.tup xs)) (frzs:∀b o u,H b=some (.frz o u)->H' b=some (.frz o u)) (tbls:∀b ps,H b=some (.tbl ps)->∃more,H' b=some (.tbl (ps++more)))
  (ns:∀m,s.heap.Ns X.env.locals m->h'.Ns X.env.locals m) (hok:HOk X.prog X.w H' h') (hg:AllBare g') :
  Inv X pins σ H' {s with heap:=h',gens:=g',drawn:=d',toks:=t'}:=by
 have neL:∀b o,X.s₀.heap.get? b=some o->b≠X.env.locals:=λb o e=>Nat.ne_of_lt (Nat.lt_of_lt_of_le (Heap.lt_size e) I.ok.above)
 have neC:∀b o,X.s₀.heap.get? b=some o->b ∉X.ex->b ∉ch:=λb o e hx hb=>by
  rcases(hch b hb).1 with z |z
  ·exact hx z
  ·exact absurd (Nat.lt_of_lt_of_le (Heap.lt_size e) z) (Nat.lt_irrefl _)
 have cellK:∀x c,X.env.cells.lookup x=some c->∀v,s.heap.IsCell c v->h'.IsCell c v:=λx c e v ⟨o,ho,hd⟩=>by
  have nch:c ∉ch:=λz=>(hch c z).2.2.1 x c e rfl;by_cases hc:c∈X.fs
  ·obtain⟨sl,q⟩:=slot c o (I.cne x c e) hc nch ho (I.freeC x c e)
   exact⟨_,q,hd⟩
  ·exact⟨o,keep c o (I.cne x c e) hc nch ho (I.freeC x c e),hd⟩
 refine⟨I.ok,I.os,hg,⟨λb o e n hb hx=>?_,λb o e n hb hx=>?_,λb o e n hx=>?_,λb o e hx=>?_,λb xs e=>tups b xs (I.base.tups b xs e),λb o xs e=>frzs b o xs (I.base.frzs b o xs e),λb ps e=>?_⟩,?_,λx c e=>?_,?_,λx c e=>?_,λp hp=>?_,hok,I.len⟩
 ·exact keep b o (neL b o e) hb (neC b o e hx) (I.base.keep b o e n hb hx) (I.base.free b o e n hx)
 ·obtain⟨sl,e1⟩:=I.base.slot b o e n hb hx
  obtain⟨sl',e2⟩:=slot b _ (neL b o e) hb (neC b o e hx) e1 (I.base.free b o e n hx);exact⟨sl',e2⟩
 ·obtain⟨o',e1⟩:=I.base.there b o e hx
  exact free b o' (neC b o e hx) e1 (I.base.free b o e n hx)
 ·obtain⟨o',e1⟩:=I.base.there b o e hx
  exact there b o' (neC b o e hx) e1
 ·obtain⟨m1,e1⟩:=I.base.tbls b ps e
  obtain⟨m2,e2⟩:=tbls b _ e1;exact⟨m1++m2,by rw[e2,Array.append_assoc]⟩
 ·obtain⟨m,hn,hl⟩:=I.loc
  refine⟨m,ns m hn,λi x v e1 e2 e3=>?_⟩;obtain⟨u,r,l⟩:=hl i x v e1 e2 e3;refine⟨u,r,?_⟩;rcases l with l |⟨k,c,e,z⟩
  ·exact .inl l
  ·exact .inr ⟨k,c,e,cellK x c e _ z⟩
 ·obtain⟨v,z⟩:=I.cell x c e
  exact⟨v,cellK x c e v z⟩
 ·obtain⟨m,⟨o,_,_,ho,_⟩,_⟩:=I.loc
  exact free _ o (λz=>(hch _ z).2.1 rfl) ho I.free
 ·obtain⟨v,o,ho,hd⟩:=I.cell x c e
  exact free c o (λz=>(hch c z).2.2.1 x c e rfl) ho (I.freeC x c e)
 ·obtain⟨e,n,ne,nf,d⟩:=I.pin p hp
  have nch:p.1 ∉ch:=λz=>(hch p.1 z).2.2.2 p hp rfl;exact⟨keep p.1 p.2 ne nf nch e n,free p.1 p.2 nch e n,ne,nf,d⟩
theorem Inv.un{t':Nat}(I:Inv X pins σ H s)(u:Un X.fs [] H H' s.heap h')(hok:HOk X.prog X.w H' h'):Inv X pins σ H' {s with heap:=h',toks:=t'}:=by
 obtain⟨m,⟨o,es,ep,ho,r⟩,_⟩:=id I.loc;obtain⟨sl,hL⟩:=u.any ho I.free (by simp)
 exact I.step (g':=s.gens) (d':=s.drawn) (ch:=[]) (λ_ z=>nomatch z) (λb o _ hb _ e n=>u.keep b o e n hb (by simp)) (λb o _ hb _ e n=>u.slot b o e n hb (by simp)) (λb o _ e n=>u.free b o e n (by simp)) (λb o _ e=>u.there b o e (by simp)) u.tups u.frzs u.tbls (λm' hm=>by
  obtain⟨o',es',ep',ho',r'⟩:=hm;rw[ho]at ho';cases ho';exact⟨_,es',ep',hL,r'⟩) hok I.bare
theorem Inv.call {g':Array GenState} {t':Nat} {d':Drawn} {ch:List Addr} (I:Inv X pins σ H s) (u:Un (frs X.stack) ch H H' s.heap h') (hok:HOk X.prog X.w H' h') (hg:AllBare g')
  (hch:∀b∈ch,(b∈X.ex\/X.s₀.heap.objs.size<=b)/\b≠X.env.locals/\(∀x c,X.env.cells.lookup x=some c->c≠b)/\∀p∈X.pn++pins,p.1≠b) :
  Inv X pins σ H' {s with heap:=h',gens:=g',drawn:=d',toks:=t'}:=by
 obtain⟨m,⟨o,es,ep,ho,r⟩,_⟩:=id I.loc;obtain⟨sl,hL⟩:=u.any ho I.free λz=>(hch _ z).2.1 rfl
 exact I.step (ch:=ch) hch (λb o hL hb hc e n=>u.keep b o e n (λz=>(zMC (I.stkSub b z)).elim hL hb) hc) (λb o _ _ hc e n=>u.any e n hc) (λb o hc e n=>u.free b o e n hc) (λb o hc e=>u.there b o e hc) u.tups u.frzs u.tbls (λm' hm=>by
  obtain⟨o',es',ep',ho',r'⟩:=hm;rw[ho]at ho';cases ho';exact⟨_,es',ep',hL,r'⟩) hok hg
theorem Inv.turned {t':Nat} {it:Addr} (I:Inv X pins σ H s) (k:∀b o,b≠it->s.heap.get? b=some o->h'.get? b=some o) (hn:H it=none) (hL:it≠X.env.locals)
  (h1:it∈X.ex\/X.s₀.heap.objs.size<=it) (h2:∀x c,X.env.cells.lookup x=some c->c≠it) (h3:∀p∈X.pn++pins,p.1≠it):Inv X pins σ H {s with heap:=h',toks:=t'}:=by
 have nit:∀b u,H b=some u->b≠it:=λb u e z=>by rw[z,hn]at e;cases e
 refine I.step (g':=s.gens) (d':=s.drawn) (ch:=[it]) (λb hb=>?_) (λb o _ _ hc e _=>k b o (λz=>hc (by simp[z])) e) (λb o _ _ hc e _=>⟨o.slots,k b o (λz=>hc (by simp[z])) e⟩) (λ_ _ _ _ n=>n)
  (λb o hc e=>⟨o,k b o (λz=>hc (by simp[z])) e⟩) (λ_ _ e=>e) (λ_ _ _ e=>e) (λb ps e=>⟨#[],by rw[e];simp⟩) (λm hm=>?_) (λb u e=>?_) I.bare
 ·have e:b=it:=by simpa using hb
  subst e;exact⟨h1,hL,h2,h3⟩
 ·obtain⟨o,es,ep,ho,r⟩:=hm
  exact⟨o,es,ep,k _ o (Ne.symm hL) ho,r⟩
 ·refine(I.hok b u e).stay (λc v hc q=>k c v ?_ q) (λ_ q=>q) λ_ _ q=>q
  rcases hc with z |z
  ·rw[z];exact nit b u e
  ·exact nit c _ z
theorem Inv.tok(I:Inv X pins σ H s)(t:Nat):Inv X pins σ H {s with toks:=t}:=I.un (h':=s.heap) (t':=t) Un.refl I.hok
theorem Inv.kept{t':Nat}(I:Inv X pins σ H s)(k:∀b u,s.heap.get? b=some u->h'.get? b=some u):Inv X pins σ H {s with heap:=h',toks:=t'}:=I.un (Un.kept k) (I.hok.kept k)
theorem Inv.laid {a:Addr} {o:HO} {t':Nat} (I:Inv X pins σ H s) (k:∀b u,s.heap.get? b=some u->h'.get? b=some u) (hp:s.heap.objs.size<=a) (new:ObjOk X.prog X.w (upd H a o) h' a o) :
  Inv X pins σ (upd H a o) {s with heap:=h',toks:=t'}:=I.un (Un.laid k hp (I.hok.fresh hp)) (I.hok.laid k hp new)
theorem Inv.write {x e:Addr} {o:HO} {t':Nat} (I:Inv X pins σ H s) (mu:Mut (H x)) (he:e=x\/H e=some (.own x)) (k:∀b u,b≠e->s.heap.get? b=some u->h'.get? b=some u) (heo:∃u,h'.get? e=some u)
  (new:ObjOk X.prog X.w (upd H x o) h' x o):Inv X pins σ (upd H x o) {s with heap:=h',toks:=t'}:=I.un (Un.write mu he k heo) (I.hok.write mu he k heo new)
theorem Inv.weak{σ':List (Option V)}(I:Inv X pins σ H s)(hl:σ'.length=σ.length)(w:∀(i:Nat) v,σ'[i]?=some (some v)->σ[i]?=some (some v)):Inv X pins σ' H s:=
 ⟨I.ok,I.os,I.bare,I.base,let ⟨m,hn,hl'⟩:=I.loc;⟨m,hn,λi x v e1 e2 e3=>hl' i x v e1 (w i v e2) e3⟩,I.cell,I.free,I.freeC,I.pin,I.hok,hl.trans I.len⟩
theorem Inv.pins_of{a:List (Addr×Obj)}(I:Inv X pins σ H s)(h:∀p∈a,s.heap.get? p.1=some p.2/\H p.1=none/\p.1≠X.env.locals/\p.1 ∉X.fs/\∀v,p.2.data≠.cell v):Inv X a σ H s:=
 ⟨I.ok,I.os,I.bare,I.base,I.loc,I.cell,I.free,I.freeC,λp b=>(zMA b).elim (λz=>I.pin p (List.mem_append_left _ z)) (h p),I.hok,I.len⟩
theorem xkv{N:List Str}(c:N.Nodup){i j:Nat}{x:Str}(a:N[i]?=some x)(b:N[j]?=some x):i=j:=by
 obtain⟨h1,f⟩:=zES a;obtain⟨h2,e⟩:=zES b;exact(List.getElem_inj c).mp (f.trans e.symm)
theorem xhl {M:Model} {A:Around} {E:Value->Shared->Prop} {i:Nat} {x:Str} {v:V} {u:Value} {Q:Unit->Shared->Prop} (I:Inv X pins σ H s) (hN:X.N.Nodup) (hi:X.N[i]?=some x) (hx:Loc X.env.scope x) (r:RelV v u)
  (h:∀s',Inv X pins (σ.set i (some v)) H s'->(∃a,Heap.SameBut a s.heap s'.heap/\(a=X.env.locals\/X.env.cells.lookup x=some a))->Q () s') (hf:X.fn x=true\/X.env.scope.names.lookup x=some .local:=by first |exact .inl rfl |exact .inr rfl |assumption):wpAny M A (storeName X.env x u) Q E s:=by
 obtain⟨m,hn,hl⟩:=id I.loc;have hcls:(X.env.scope.kind == .class || (X.env.scope.kind == .module && X.env.locals != X.env.globals))=false:=by rw[I.ok.kind];rfl
 have hiσ:i<σ.length:=by rw[I.len];exact(zES hi).1
 have cne:=I.cne
 have tracked:∀{a:Addr} {h':Heap},(∃o,s.heap.get? a=some o/\H a=none)->Heap.SameBut a s.heap h'->HOk X.prog X.w H h':=λ{a h'} ha hs b ob e=>by
  obtain⟨_,_,hfree⟩:=ha;refine(I.hok b ob e).stay (λc w' hc q=>(hs.2 c ?_).trans q) (λ_ q=>q) λ_ _ q=>q;rintro rfl;rcases hc with rfl |hc
  ·rw[hfree]at e;cases e
  ·rw[hfree]at hc;cases hc
 rcases hx with hk |hk
 ·refine wpAny_storeName_local hk hn (λh' hn' hs=>?_) hcls
  obtain⟨oL,_,_,hoL,_⟩:=id hn;refine h _ ⟨I.ok,I.os,I.bare,⟨λb o e n hb hx=>?_,λb o e n hb hx=>?_,I.base.free,λb o e hx=>?_,I.base.tups,I.base.frzs,I.base.tbls⟩,⟨_,hn',λj y v' e1 e2 e3=>?_⟩,λy c e=>?_,I.free,I.freeC,λp hp=>?_,tracked ⟨oL,hoL,I.free⟩ hs,by simpa using I.len⟩ ⟨_,hs,.inl rfl⟩
  ·exact(hs.2 b (Nat.ne_of_lt (Nat.lt_of_lt_of_le (Heap.lt_size e) I.ok.above))).trans (I.base.keep b o e n hb hx)
  ·obtain⟨sl,e1⟩:=I.base.slot b o e n hb hx
   exact⟨sl,(hs.2 b (Nat.ne_of_lt (Nat.lt_of_lt_of_le (Heap.lt_size e) I.ok.above))).trans e1⟩
  ·obtain⟨o',e1⟩:=I.base.there b o e hx
   exact⟨o',(hs.2 b (Nat.ne_of_lt (Nat.lt_of_lt_of_le (Heap.lt_size e) I.ok.above))).trans e1⟩
  ·by_cases hj:j=i
   ·subst hj
    rw[hi]at e1;cases e1;rw[List.getElem?_set_self hiσ]at e2;cases e2;exact⟨u,r,.inl ⟨hk,by simp⟩⟩
   ·rw[List.getElem?_set_ne (Ne.symm hj)]at e2
    obtain⟨u',r',q⟩:=hl j y v' e1 e2 e3;refine⟨u',r',?_⟩;rcases q with⟨k,e⟩ |⟨k,c,e,z⟩
    ·refine .inl ⟨k,?_⟩
     have:y≠x:=λe=>hj (xkv hN e1 (e ▸ hi));simp[this,e]
    ·exact .inr ⟨k,c,e,z.sameBut hs (cne y c e)⟩
  ·obtain⟨w',z⟩:=I.cell y c e
   exact⟨w',z.sameBut hs (cne y c e)⟩
  ·obtain⟨e,n,ne,nf,d⟩:=I.pin p hp
   exact⟨(hs.2 p.1 ne).trans e,n,ne,nf,d⟩
 ·have hfn:X.fn x=true:=by
   rcases hf with z |z
   ·exact z
   ·rw[z]at hk;cases hk
  obtain⟨c,hc⟩:=I.ok.has x (.inl hk);obtain⟨w',z⟩:=I.cell x c hc;refine wpAny_storeName_cell I.ok.kind hk hc z (λh' hc' hs=>?_);obtain⟨oc,hoc,hocd⟩:=id z;refine h {s with heap:=h'} ⟨I.ok,I.os,I.bare,⟨λb o e n hb hx=>?_,λb o e n hb hx=>?_,I.base.free,λb o e hx=>?_,I.base.tups,I.base.frzs,I.base.tbls⟩,⟨m,hn.sameBut hs (Ne.symm (cne x c hc)),λj y v' e1 e2 e3=>?_⟩,λy c' e=>?_,I.free,I.freeC,λp hp=>?_,tracked ⟨oc,hoc,I.freeC x c hc⟩ hs,by simpa using I.len⟩ ⟨c,hs,.inr hc⟩
  ·exact(hs.2 b (Nat.ne_of_lt (Nat.lt_of_lt_of_le (Heap.lt_size e) (I.ok.cab x c hfn hc)))).trans (I.base.keep b o e n hb hx)
  ·obtain⟨sl,e1⟩:=I.base.slot b o e n hb hx
   exact⟨sl,(hs.2 b (Nat.ne_of_lt (Nat.lt_of_lt_of_le (Heap.lt_size e) (I.ok.cab x c hfn hc)))).trans e1⟩
  ·obtain⟨o',e1⟩:=I.base.there b o e hx
   exact⟨o',(hs.2 b (Nat.ne_of_lt (Nat.lt_of_lt_of_le (Heap.lt_size e) (I.ok.cab x c hfn hc)))).trans e1⟩
  ·by_cases hj:j=i
   ·subst hj
    rw[hi]at e1;cases e1;rw[List.getElem?_set_self hiσ]at e2;cases e2;exact⟨u,r,.inr ⟨.inl hk,c,hc,hc'⟩⟩
   ·rw[List.getElem?_set_ne (Ne.symm hj)]at e2
    obtain⟨u',r',q⟩:=hl j y v' e1 e2 e3;refine⟨u',r',?_⟩;rcases q with q |⟨k,c',e,z'⟩
    ·exact .inl q
    ·refine .inr ⟨k,c',e,z'.sameBut hs ?_⟩
     rintro rfl;exact hj (xkv hN e1 (I.ok.inj _ _ _ e hc ▸ hi))
  ·by_cases hcc:c'=c
   ·subst hcc;exact⟨_,hc'⟩
   ·obtain⟨w2,z2⟩:=I.cell y c' e
    exact⟨w2,z2.sameBut hs hcc⟩
  ·obtain⟨e,n,ne,nf,d⟩:=I.pin p hp
   refine⟨(hs.2 p.1 ?_).trans e,n,ne,nf,d⟩;intro q;rw[q,hoc]at e;have q':oc=p.2:=Option.some.inj e;exact d w' (by rw[<- q'];exact hocd)
theorem xkc {M:Model} {A:Around} {E:Value->Shared->Prop} {i:Nat} {x:Str} {v:V} {u:Value} {Q:Unit->Shared->Prop} (I:Inv X pins σ H s) (c:X.N.Nodup) (hi:X.N[i]?=some x) (a:Loc X.env.scope x) (r:RelV v u)
  (h:∀s',Inv X pins (σ.set i (some v)) H s'->Q () s') (b:X.fn x=true\/X.env.scope.names.lookup x=some .local:=by first |exact .inl rfl |exact .inr rfl |assumption):wpAny M A (storeName X.env x u) Q E s:=
 xhl I c hi a r (λs' e _=>h s' e) b
theorem Inv.call' {s':Shared} {ch:List Addr} (I:Inv X pins σ H s) (ho:s'.os=s.os) (u:Un (frs X.stack) ch H H' s.heap s'.heap) (hok:HOk X.prog X.w H' s'.heap) (hg:AllBare s'.gens)
  (hch:∀b∈ch,(b∈X.ex\/X.s₀.heap.objs.size<=b)/\b≠X.env.locals/\(∀x c,X.env.cells.lookup x=some c->c≠b)/\∀p∈X.pn++pins,p.1≠b):Inv X pins σ H' s':=by
 obtain⟨h',g',d',t',o'⟩:=s';have e:o'=s.os:=ho;subst e;exact I.call (g':=g') (t':=t') (d':=d') u hok hg hch
end
abbrev XK:=Value->Option Addr->Hp->Prop
abbrev St:=List (Option V)
abbrev VK:=V->Hp->Prop
abbrev TE:=St->Hp->VK->Prop
abbrev TT:=St->Hp->(Bool->Hp->Prop)->Prop
abbrev TA:=St->Hp->(List V->Hp->Prop)->Prop
structure Ends where
 nx:St->Hp->Prop
 rt:VK
 bk:St->Hp->Prop:=λ_ _=>False
 ct:St->Hp->Prop:=λ_ _=>False
abbrev TS:=Ends->St->Hp->Prop
def EP(X:Cx)(pins:List (Addr×Obj))(σ:St)(Q:VK)(u:Value)(s':Shared):Prop:=∃v H',Inv X pins σ H' s'/\RelV v u/\Q v H'
def TP(X:Cx)(pins:List (Addr×Obj))(σ:St)(Q:Bool->Hp->Prop)(b:Bool)(s':Shared):Prop:=∃H',Inv X pins σ H' s'/\Q b H'
def AP(X:Cx)(pins:List (Addr×Obj))(σ:St)(Q:List V->Hp->Prop)(us:List Value)(s':Shared):Prop:=∃vs H',Inv X pins σ H' s'/\Vals vs us/\Q vs H'
def SP(X:Cx)(pins:List (Addr×Obj))(D:Ends)(f:Flow)(s':Shared):Prop:=
 match f with
 |.next=>∃σ' H',Inv X pins σ' H' s'/\D.nx σ' H'
 |.brk=>∃σ' H',Inv X pins σ' H' s'/\D.bk σ' H'
 |.cont=>∃σ' H',Inv X pins σ' H' s'/\D.ct σ' H'
 |.ret u=>∃v σ' H',Inv X pins σ' H' s'/\RelV v u/\D.rt v H'
def PE(X:Cx)(e:Expr)(t:TE):Prop:=
 ∀(pins:List (Addr×Obj)) (s:Shared) (σ:St) (H:Hp) (Q:VK),Inv X pins σ H s->t σ H Q->wpAny (model X.prog X.w) X.A (eval e X.env) (EP X pins σ Q) X.xe s
def PT(X:Cx)(e:Expr)(t:TT):Prop:=
 ∀(pins:List (Addr×Obj)) (s:Shared) (σ:St) (H:Hp) (Q:Bool->Hp->Prop),Inv X pins σ H s->t σ H Q->wpAny (model X.prog X.w) X.A (isTrue e X.env (eval e X.env)) (TP X pins σ Q) X.xe s
def PW(X:Cx)(e:Expr)(t:TT):Prop:=
 ∀(whole:Sem Value) (pins:List (Addr×Obj)) (s:Shared) (σ:St) (H:Hp) (Q:Bool->Hp->Prop),Inv X pins σ H s->t σ H Q->wpAny (model X.prog X.w) X.A (isTrue e X.env whole) (TP X pins σ Q) X.xe s
theorem PW.pt{X:Cx}{e:Expr}{t:TT}(h:PW X e t):PT X e t:=h _
def PA(X:Cx)(es:List Expr)(t:TA):Prop:=
 ∀(pos:Pos) (pins:List (Addr×Obj)) (s:Shared) (σ:St) (H:Hp) (Q:List V->Hp->Prop),Inv X pins σ H s->t σ H Q->wpAny (model X.prog X.w) X.A (spliced (backTo pos (starEach es X.env))) (AP X pins σ Q) X.xe s
def PS(X:Cx)(st:Stmt)(t:TS):Prop:=
 ∀(pins:List (Addr×Obj)) (s:Shared) (σ:St) (H:Hp) (D:Ends),Inv X pins σ H s->t D σ H->wpAny (model X.prog X.w) X.A (exec st X.env) (SP X pins D) X.xe s
def PSs(X:Cx)(st:List Stmt)(t:TS):Prop:=
 ∀(pins:List (Addr×Obj)) (s:Shared) (σ:St) (H:Hp) (D:Ends),Inv X pins σ H s->t D σ H->wpAny (model X.prog X.w) X.A (execs st X.env) (SP X pins D) X.xe s
theorem thn{α:Type}{t:Sem α}{Q Q':α->Shared->Prop}{M:Model}{A:Around}{E:Value->Shared->Prop}{s:Shared}(h:wpAny M A t Q E s)(hQ:∀a s,Q a s->Q' a s):wpAny M A t Q' E s:=wpAny_mono h hQ λ_ _ x=>x
section
variable {X:Cx}
def tVar(i:Nat):TE:=λσ H Q=>∃v,σ[i]?=some (some v)/\Q v H
def tC(v:V):TE:=λ_ H Q=>Q v H
theorem xsn{i:Nat}{x:Str}{pos:Pos}(p:X.N[i]?=some x)(j:Vis X.env.scope x)(hd:(x == ("__debug__":Str))=false:=by decide)(f:(x == ("__classdict__":Str))=false:=by decide):PE X (.Name x pos) (tVar i):=by
 intro pins s σ H Q I h;obtain⟨v,e,h⟩:=h;obtain⟨m,hn,o⟩:=I.loc;obtain⟨u,r,l⟩:=o i x v p e j;have fin:EP X pins σ Q u s:=⟨v,H,I,r,h⟩;rcases l with⟨b,n⟩ |⟨b,c,g,a⟩
 ·exact wpAny_Name (wpAny_loadName_local I.ok.kind b hn n fin) hd
 ·rcases b with b |b
  ·exact wpAny_Name (wpAny_loadName_cell I.ok.kind b g a fin) hd
  ·exact wpAny_Name (wpAny_loadName_free I.ok.kind b g a fin f) hd
theorem pI{i j pos}:PE X (.Constant (.int i) j pos) (tC (.int i)):=λ_ _ _ H _ I h=>wpAny_Constant_int ⟨.int i,H,I.tok _,⟨_,rfl⟩,h⟩
theorem xgz{b j pos}:PE X (.Constant (.bool b) j pos) (tC (.bl b)):=λ_ _ _ H _ I h=>Constant_bool ⟨.bl b,H,I,rfl,h⟩
theorem xeb{j pos}:PE X (.Constant .none j pos) (tC .non):=λ_ _ _ H _ I h=>Constant_none ⟨.non,H,I,rfl,h⟩
theorem pS{x j pos}:PE X (.Constant (.str x) j pos) (tC (.str x)):=λ_ _ _ H _ I h=>Calls.Constant_str ⟨.str x,H,I.tok _,⟨_,rfl⟩,h⟩
def Gl(X:Cx)(x:Str):Prop:=X.env.kindOf x=some .globalImplicit
theorem xhc {E:Value->Shared->Prop} {pins:List (Addr×Obj)} {s:Shared} {σ:St} {H:Hp} {x:Str} {u:Value} {pos:Pos} {Q:Value->Shared->Prop} (I:Inv X pins σ H s) (b:Gl X x) (a:X.mg x=some u) (h:Q u s)
  (hd:(x == ("__debug__":Str))=false:=by decide):wpAny (model X.prog X.w) X.A (eval (.Name x pos) X.env) Q E s:=
 Calls.Name_function_global I.ok.kind b (Calls.loadGlobal_global (by rw[I.ok.glob];exact I.mod.glob.keeps I.bk) a h) hd
theorem xim {E:Value->Shared->Prop} {pins:List (Addr×Obj)} {s:Shared} {σ:St} {H:Hp} {x:Str} {u:Value} {pos:Pos} {Q:Value->Shared->Prop} (I:Inv X pins σ H s) (c:Gl X x) (b:X.mg x=none) (a:bootBuiltins x=some u) (h:Q u s)
  (hn:x≠"__name__":=by decide) (hd:(x == ("__debug__":Str))=false:=by decide):wpAny (model X.prog X.w) X.A (eval (.Name x pos) X.env) Q E s:=by
 obtain⟨e,h1,h2⟩:=I.mod.blt;exact Calls.Name_function_global I.ok.kind c (Calls.loadGlobal_builtin (by rw[I.ok.glob];exact I.mod.glob.keeps I.bk) b (by rw[I.ok.blt];exact h1.keeps I.bk) ((h2 x hn).trans a) h) hd
theorem xqr{x:Str}{v:V}{u:Value}{pos:Pos}(hg:Gl X x)(hm:X.mg x=some u)(r:RelV v u)(hd:(x == ("__debug__":Str))=false:=by decide):PE X (.Name x pos) (tC v):=
 λ_ _ _ H _ I h=>xhc I hg hm ⟨v,H,I,r,h⟩ hd
theorem xqt{x:Str}{v:V}{u:Value}{pos:Pos}(c:Gl X x)(b:X.mg x=none)(a:bootBuiltins x=some u)(r:RelV v u)(hn:x≠"__name__":=by decide)(hd:(x == ("__debug__":Str))=false:=by decide):PE X (.Name x pos) (tC v):=
 λ_ _ _ H _ I h=>xim I c b a ⟨v,H,I,r,h⟩ hn hd
variable {a b:Expr}{ta tb:TE}{pos:Pos}
def tB(t:TE):TT:=λσ H Q=>t σ H λx H1=>∃c,x=.bl c/\Q c H1
theorem xgd{e:Expr}{t:TE}(h:PE X e t)(he:∀whole,isTrue e X.env whole=(do let v <- whole;standAt e.pos;holding [v] (truthy v)):=by intro _;rfl):PT X e (tB t):=by
 intro pins s σ H Q I hw;refine isTrue_plain (thn (h pins s σ H _ I hw) λv s1 ⟨x,H1,I1,r1,q1⟩=>?_) (he _);obtain⟨d,rfl,q⟩:=q1;cases r1;exact wpAny_truthy_bool ⟨H1,I1,q⟩
variable {tA tB':TT}{rest:List Expr}
def tAnd(t u:TT):TT:=λσ H Q=>t σ H λc H1=>if c=true then u σ H1 Q else Q false H1
def tOr(t u:TT):TT:=λσ H Q=>t σ H λc H1=>if c=true then Q true H1 else u σ H1 Q
def tNot(t:TT):TT:=λσ H Q=>t σ H λc H1=>Q (!c) H1
theorem xb3(b:PT X a tA):PW X (.BoolOp .And [a] pos) tA:=by
 intro f pins s σ H Q I h;refine isTrue_and (thn (b pins s σ H Q I h) λc g e=>?_)
 cases c with
 |true=>exact isTrue_and_nil e
 |false=>exact e
theorem xml(b:PT X a tA):PW X (.BoolOp .Or [a] pos) tA:=by
 intro f pins s σ H Q I h;refine isTrue_or (thn (b pins s σ H Q I h) λc g e=>?_)
 cases c with
 |false=>exact isTrue_or_nil e
 |true=>exact e
theorem xci(l:PT X a tA)(j:PW X (.BoolOp .And (b::rest) pos) tB'):PW X (.BoolOp .And (a::b::rest) pos) (tAnd tA tB'):=by
 intro g pins s σ H Q I h;refine isTrue_and (thn (l pins s σ H _ I h) λc i ⟨H1,f,e⟩=>?_)
 cases c with
 |true=>exact j g pins i σ H1 Q f e
 |false=>exact⟨H1,f,e⟩
theorem xol(l:PT X a tA)(j:PW X (.BoolOp .Or (b::rest) pos) tB'):PW X (.BoolOp .Or (a::b::rest) pos) (tOr tA tB'):=by
 intro g pins s σ H Q I h;refine isTrue_or (thn (l pins s σ H _ I h) λc i ⟨H1,f,e⟩=>?_)
 cases c with
 |true=>exact⟨H1,f,e⟩
 |false=>exact j g pins i σ H1 Q f e
theorem xhz(b:PT X a tA):PT X (.UnaryOp .Not a pos) (tNot tA):=by
 intro pins s σ H Q I h;exact isTrue_not (b pins s σ H (λc H1=>Q (!c) H1) I h)
def xtu(ta tb:TE):TE:=λσ H Q=>ta σ H λx H1=>∃c,x=.bl c/\if c=true then tb σ H1 Q else Q (.bl false) H1
def tOrV(ta tb:TE):TE:=λσ H Q=>ta σ H λx H1=>∃c,x=.bl c/\if c=true then Q (.bl true) H1 else tb σ H1 Q
def xtq(ta:TE):TE:=λσ H Q=>ta σ H λx H1=>∃c,x=.bl c/\Q (.bl (!c)) H1
theorem xge{op}{t:TE}(h:PE X a t):PE X (.BoolOp op [a] pos) t:=λpins s σ H Q I b=>BoolOp_one (h pins s σ H Q I b)
theorem xkp(l:PE X a ta)(j:PE X (.BoolOp .And (b::rest) pos) tb):PE X (.BoolOp .And (a::b::rest) pos) (xtu ta tb):=by
 intro pins s σ H Q I h;refine BoolOp_and (thn (l pins s σ H _ I h) λv g ⟨x,H1,f,i,e⟩=>?_);obtain⟨c,rfl,e⟩:=e;cases i;refine wpAny_truthy_bool ?_
 cases c with
 |true=>exact j pins g σ H1 Q f e
 |false=>exact⟨.bl false,H1,f,rfl,e⟩
theorem xso(l:PE X a ta)(j:PE X (.BoolOp .Or (b::rest) pos) tb):PE X (.BoolOp .Or (a::b::rest) pos) (tOrV ta tb):=by
 intro pins s σ H Q I h;refine BoolOp_or (thn (l pins s σ H _ I h) λv g ⟨x,H1,f,i,e⟩=>?_);obtain⟨c,rfl,e⟩:=e;cases i;refine wpAny_truthy_bool ?_
 cases c with
 |false=>exact j pins g σ H1 Q f e
 |true=>exact⟨.bl true,H1,f,rfl,e⟩
theorem xsp(f:PE X a ta):PE X (.UnaryOp .Not a pos) (xtq ta):=by
 intro pins s σ H Q I h;refine UnaryOp_ (thn (f pins s σ H _ I h) λv i ⟨x,H1,g,e,b⟩=>?_);obtain⟨c,rfl,b⟩:=b;cases e;exact not_of (wpAny_truthy_bool ⟨.bl (!c),H1,g,rfl,b⟩)
def tIf(t:TT)(ta tb:TE):TE:=λσ H Q=>t σ H λc H1=>if c=true then ta σ H1 Q else tb σ H1 Q
theorem xe2{c:Expr}(i:PT X c tA)(l:PE X a ta)(j:PE X b tb):PE X (.IfExp c a b pos) (tIf tA ta tb):=by
 intro pins s σ H Q I h;refine wpAny_IfExp (thn (i pins s σ H _ I h) λd e ⟨H1,g,f⟩=>?_)
 cases d with
 |true=>exact l pins e σ H1 Q g f
 |false=>exact j pins e σ H1 Q g f
end
def SqL(K:Fg)(H:Hp)(a:Addr)(xs:List V):Prop:=
 Rd H a (.lst xs) ∨
  ∃(o:Obj) (its:Array Value) (n:Nat),K.lookup a=some o/\o.cls=.type "list"/\o.dict=none/\o.data=.seq its n/\its.size<=sizeLine/\Vals xs its.toList
def SqT(K:Fg)(H:Hp)(a:Addr)(xs:List V):Prop:=
 Rd H a (.tup xs) ∨
  ∃(o:Obj) (its:Array Value) (n:Nat),K.lookup a=some o/\o.cls=.type "tuple"/\o.data=.seq its n/\its.size<=sizeLine/\Vals xs its.toList
def absV:Value->Option V
 |.none=>some .non
 |.bool b=>some (.bl b)
 |.int i _=>some (.int i)
 |.str x _=>some (.str x)
 |.bytes b _=>some (.byt b)
 |.float b _=>some (.flt b)
 |.ref a=>some (.ref a)
 |.type n=>some (.ty n)
 |_=>none
theorem RelV.abs{x:V}{u:Value}(r:RelV x u):absV u=some x:=by
 cases x with
 |non=>cases r;rfl
 |bl _=>cases r;rfl
 |int _=>obtain⟨t,rfl⟩:=r;rfl
 |str _=>obtain⟨t,rfl⟩:=r;rfl
 |byt _=>obtain⟨t,rfl⟩:=r;rfl
 |flt _=>obtain⟨t,rfl⟩:=r;rfl
 |ref _=>cases r;rfl
 |ty _=>cases r;rfl
theorem RelV.inj{x y:V}{u:Value}(r:RelV x u)(q:RelV y u):x=y:=Option.some.inj (r.abs.symm.trans q.abs)
theorem Vals.inj:∀{xs ys:List V} {us:List Value},Vals xs us->Vals ys us->xs=ys
 |_,_,_,.nil,.nil=>rfl
 |_,_,_,.cons r t,.cons a t'=>by rw[r.inj a,Vals.inj t t']
section
variable {X:Cx}{pins:List (Addr×Obj)}{σ:St}{H:Hp}{s:Shared}{a:Addr}{xs ys:List V}
theorem SqL.of{K:Fg}(h:H a=some (.lst xs)):SqL K H a xs:=.inl (.inl h)
theorem SqT.of{K:Fg}(h:H a=some (.tup xs)):SqT K H a xs:=.inl (.inl h)
theorem Inv.list(I:Inv X pins σ H s)(h:SqL X.K H a xs):∃its:List Value,Vals xs its/\PlainL s.heap a its.toArray/\xs.length<=sizeLine:=by
 rcases h with h |⟨o,its,n,b,c,hd,hs,hz,r⟩
 ·obtain⟨z,its,n,r,e⟩:=h.ok I.hok
  exact⟨its,r,⟨_,n,e,rfl,rfl,rfl⟩,z⟩
 ·refine⟨its.toList,r,⟨o,n,I.kIn a o b,c,hd,by simpa using hs⟩,?_⟩
  have e:=r.length;simp only[Array.length_toList]at e;omega
theorem Inv.tuple(I:Inv X pins σ H s)(h:SqT X.K H a xs):∃its:List Value,Vals xs its/\IsTup s.heap a its.toArray/\xs.length<=sizeLine:=by
 rcases h with h |⟨o,its,n,b,f,hs,hz,r⟩
 ·obtain⟨z,its,r,o,e,c,n,d,_⟩:=h.ok I.hok
  exact⟨its,r,⟨o,e,c,n,d⟩,z⟩
 ·refine⟨its.toList,r,⟨o,I.kIn a o b,f,n,by simpa using hs⟩,?_⟩
  have e:=r.length;simp only[Array.length_toList]at e;omega
theorem Inv.list_inj(I:Inv X pins σ H s)(h:SqL X.K H a xs)(h':SqL X.K H a ys):xs=ys:=by
 obtain⟨its,r,⟨o,n,e,_,_,d⟩,_⟩:=I.list h;obtain⟨its',c,⟨o',g,b,_,_,d'⟩,_⟩:=I.list h';rw[e]at b;cases b;rw[d]at d';injection d' with f _;have:its=its':=by simpa using congrArg Array.toList f
 subst this;exact r.inj c
theorem Inv.tuple_inj(I:Inv X pins σ H s)(h:SqT X.K H a xs)(h':SqT X.K H a ys):xs=ys:=by
 obtain⟨its,r,⟨o,e,_,n,d⟩,_⟩:=I.tuple h;obtain⟨its',c,⟨o',b,_,g,d'⟩,_⟩:=I.tuple h';rw[e]at b;cases b;rw[d]at d';injection d' with f _;have:its=its':=by simpa using congrArg Array.toList f
 subst this;exact r.inj c
end
abbrev Cx.wish(X:Cx)(E:Value->Shared->Prop):Cx:={X with xe:=E}
abbrev Cx.nox(X:Cx):Cx:=X.wish λ_ _=>False
theorem Cx.Ok.wish{X:Cx}(ok:X.Ok)(E:Value->Shared->Prop):(X.wish E).Ok:=
 ⟨ok.mod,ok.kind,ok.glob,ok.blt,ok.above,ok.inj,ok.has,ok.cab,ok.hd,ok.frames,ok.stk,ok.exf,ok.bs,ok.bsz,ok.noex,ok.exfs,ok.funs,ok.frf⟩
theorem Cx.Ok.unwish{X:Cx}{E:Value->Shared->Prop}(ok:(X.wish E).Ok):X.Ok:=
 ⟨ok.mod,ok.kind,ok.glob,ok.blt,ok.above,ok.inj,ok.has,ok.cab,ok.hd,ok.frames,ok.stk,ok.exf,ok.bs,ok.bsz,ok.noex,ok.exfs,ok.funs,ok.frf⟩
section
variable {X:Cx}{pins:List (Addr×Obj)}{σ:St}{H:Hp}{s:Shared}{E:Value->Shared->Prop}
theorem Inv.wish(I:Inv X pins σ H s)(E:Value->Shared->Prop):Inv (X.wish E) pins σ H s:=⟨I.ok.wish E,I.os,I.bare,I.base,I.loc,I.cell,I.free,I.freeC,I.pin,I.hok,I.len⟩
theorem Inv.unwish(I:Inv (X.wish E) pins σ H s):Inv X pins σ H s:=⟨I.ok.unwish,I.os,I.bare,I.base,I.loc,I.cell,I.free,I.freeC,I.pin,I.hok,I.len⟩
theorem SP.unwish{D:Ends}{f:Flow}{s':Shared}(h:SP (X.wish E) pins D f s'):SP X pins D f s':=by
 cases f with
 |next=>obtain⟨a,H',I,q⟩:=h;exact⟨a,H',I.unwish,q⟩
 |brk=>obtain⟨a,H',I,q⟩:=h;exact⟨a,H',I.unwish,q⟩
 |cont=>obtain⟨a,H',I,q⟩:=h;exact⟨a,H',I.unwish,q⟩
 |ret u=>obtain⟨v,a,H',I,r,q⟩:=h;exact⟨v,a,H',I.unwish,r,q⟩
theorem PSs.nox{st:List Stmt}{t:TS}(h:PSs X.nox st t):PSs X st t:=λpins s σ H D I a=>
 wpAny_mono (h pins s σ H D (I.wish _) a) (λ_ _ q=>q.unwish) λ_ _ z=>False.elim z
end
section
variable {X:Cx}{st:Stmt}{rest:List Stmt}{t u:TS}{e:Expr}{te:TE}{pos:Pos}
def xtr:TS:=λD σ H=>D.nx σ H
def tSeq(t u:TS):TS:=λD σ H=>t {D with nx:=u D} σ H
theorem pQ:PSs X [] xtr:=λ_ _ σ H _ I h=>wpAny_execs_nil ⟨σ,H,I,h⟩
theorem zpn(h1:PS X st t)(h2:PSs X rest u):PSs X (st::rest) (tSeq t u):=by
 intro pins s σ H D I h;refine wpAny_execs_cons (thn (h1 pins s σ H {D with nx:=u D} I h) λf b q=>?_)
 cases f with
 |next=>
  obtain⟨a,H',c,q⟩:=q;exact h2 pins b a H' D c q
 |ret v=>exact q
 |brk=>exact q
 |cont=>exact q
theorem zpo(h1:PS X st t):PSs X [st] t:=by
 intro pins s σ H D I h;refine wpAny_execs_cons (thn (h1 pins s σ H D I h) λf a q=>?_)
 cases f with
 |next=>exact wpAny_execs_nil q
 |ret v=>exact q
 |brk=>exact q
 |cont=>exact q
theorem Inv.quiet{pins:List (Addr×Obj)}{σ:St}{H:Hp}{s:Shared}(I:Inv X pins σ H s):interactive X.env=false:=by simp[interactive,I.ok.kind]
def xts(te:TE):TS:=λD σ H=>te σ H λ_ H1=>D.nx σ H1
theorem xbx(b:PE X e te)(hs:swapsWith e none pos.line X.env=pure false:=by rfl):PS X (.Expr e pos) (xts te):=by
 intro pins s σ H D I h;exact wpAny_Expr_any (thn (b pins s σ H _ I h) λv f ⟨x,H1,c,g,a⟩=>⟨σ,H1,c,a⟩) I.quiet hs
def tRet(te:TE):TS:=λD σ H=>te σ H D.rt
theorem xae(c:PE X e te):PS X (.Return (some e) pos) (tRet te):=by
 intro pins s σ H D I h;exact wpAny_Return_some (thn (c pins s σ H _ I h) λv g ⟨x,H1,f,a,b⟩=>⟨x,σ,H1,f,a,b⟩)
def tIfS(c:TT)(t u:TS):TS:=λD σ H=>c σ H λb H1=>if b=true then t D σ H1 else u D σ H1
theorem xa6{c:Expr}{a b:List Stmt}{tc:TT}(i:PT X c tc)(l:PSs X a t)(j:PSs X b u):PS X (.If c a b pos) (tIfS tc t u):=by
 intro pins s σ H D I h;refine wpAny_If (thn (i pins s σ H _ I h) λd e ⟨H1,g,f⟩=>?_)
 cases d with
 |true=>exact l pins e σ H1 D g f
 |false=>exact j pins e σ H1 D g f
end
abbrev TG:=V->St->Hp->(St->Hp->Prop)->Prop
abbrev TGs:=List V->St->Hp->(St->Hp->Prop)->Prop
def PG(X:Cx)(target:Expr)(t:TG):Prop:=
 ∀(pins:List (Addr×Obj)) (s:Shared) (σ:St) (H:Hp) (v:V) (u:Value) (Q:St->Hp->Prop),Inv X pins σ H s->RelV v u->t v σ H Q->
  wpAny (model X.prog X.w) X.A (assign target X.env u) (λ_ s'=>∃σ' H',Inv X pins σ' H' s'/\Q σ' H') X.xe s
def PGs(X:Cx)(ts:List Expr)(t:TGs):Prop:=
 ∀(pins:List (Addr×Obj)) (s:Shared) (σ:St) (H:Hp) (vs:List V) (us:List Value) (Q:St->Hp->Prop),Inv X pins σ H s->Vals vs us->t vs σ H Q->
  wpAny (model X.prog X.w) X.A (assignInOrder ((assignEach ts X.env).map (·.2)) us) (λ_ s'=>∃σ' H',Inv X pins σ' H' s'/\Q σ' H') X.xe s
abbrev TSet:=V->V->V->Hp->(Hp->Prop)->Prop
def PSet(X:Cx)(t:TSet):Prop:=
 ∀(pins:List (Addr×Obj)) (s:Shared) (σ:St) (H:Hp) (o i v:V) (ov iv u:Value) (Q:Hp->Prop),Inv X pins σ H s->RelV o ov->RelV i iv->RelV v u->t o i v H Q->
  wpAny (model X.prog X.w) X.A (setItem ov iv u) (λ_ s'=>∃H',Inv X pins σ H' s'/\Q H') X.xe s
section
variable {X:Cx}{pos:Pos}
def xfq(i:Nat):TG:=λv σ H Q=>Q (σ.set i (some v)) H
theorem xmo{i:Nat}{x:Str}(c:X.N.Nodup)(hi:X.N[i]?=some x)(a:Loc X.env.scope x)(b:X.fn x=true\/X.env.scope.names.lookup x=some .local:=by first |exact .inl rfl |exact .inr rfl |assumption):PG X (.Name x pos) (xfq i):=by
 intro pins s σ H v u Q I r h;exact wpAny_assign_Name (xkc I c hi a r (λs' e=>⟨_,H,e,h⟩) b)
def gNil:TGs:=λvs σ H Q=>vs=[]/\Q σ H
def xua(t:TG)(u:TGs):TGs:=λvs σ H Q=>∃v r,vs=v::r/\t v σ H λσ' H'=>u r σ' H' Q
theorem xbj:PGs X [] gNil:=by
 intro pins s σ H vs us Q I r h;obtain⟨e,h⟩:=h;subst e;cases r;exact assignInOrder_nil ⟨σ,H,I,h⟩
theorem xaf {e:Expr} {es:List Expr} {t:TG} {u:TGs} (h1:PG X e t) (h2:PGs X es u)
  (hs:(assignEach (e::es) X.env).map (·.2)=assign e X.env::(assignEach es X.env).map (·.2):=by rfl):PGs X (e::es) (xua t u):=by
 intro pins s σ H vs us Q I r h;obtain⟨v,j,g,h⟩:=h;subst g
 cases r with
 |cons r c=>
  rw[hs];refine assignInOrder_cons (thn (h1 pins s σ H _ _ _ I r h) λ_ b ⟨a,H1,i,f⟩=>?_);exact h2 pins b a H1 _ _ Q i c f
def gTup(K:Fg)(n:Nat)(t:TGs):TG:=λv σ H Q=>∃a xs,v=.ref a/\SqT K H a xs/\xs.length=n/\t xs σ H Q
theorem xsm {es:List Expr} {k:Nat} {t:TGs} {n:Nat} (p:X.calm=true) (h:PGs X es t)
  (hn:(assignEach es X.env).length=n:=by rfl) (f:(assignEach es X.env).findIdx? (·.1)=none:=by rfl):PG X (.Tuple es k pos) (gTup X.K n t):=by
 intro pins s σ H v u Q I r c;obtain⟨a,xs,w,l,m,c⟩:=c;subst w;cases r;obtain⟨its,g,j,hz⟩:=I.tuple l;refine assign_Tuple_tuple (I.ok.hd p) j (by simp[hn,<- m,g.length]) f λh' i=>?_;have x:Inv X pins σ H {s with heap:=h'}:=I.kept (t':=s.toks) λb o e=>i b o (Nat.ne_of_lt (Heap.lt_size e)) e;exact h pins _ σ H xs _ Q x (by simpa using g) c
def gSub(to ti:TE)(t:TSet):TG:=λv σ H Q=>to σ H λo H1=>ti σ H1 λi H2=>t o i v H2 λH3=>Q σ H3
theorem xpt {o i:Expr} {to c:TE} {t:TSet} (p:PE X o to) (hi:PE X i c) (hs:PSet X t)
  (w:∀v,assign (.Subscript o i pos) X.env v=(do
   let a <- holding [v] (eval o X.env)
   let b <- holding [v,a] (eval i X.env)
   standAt pos
   holding [v,a,b] (setItem a b v)
   release [v,a,b] []):=by intro _;rfl):PG X (.Subscript o i pos) (gSub to c t):=by
 intro pins s σ H v u Q I r h;rw[w];refine wpAny_bind (wpAny_holding (thn (p pins s σ H _ I h) λa f ⟨x,H1,G,j,n⟩=>?_));refine wpAny_bind (wpAny_holding (thn (hi pins f σ H1 _ G n) λb e ⟨y,H2,C,g,m⟩=>?_));refine wpAny_bind (wpAny_standAt (wpAny_bind (wpAny_holding (thn (hs pins e σ H2 x y v a b u _ C j g r m) λ_ M ⟨J,z,l⟩=>?_))));exact wpAny_release ⟨σ,J,z,l⟩
def tAsg(te:TE)(g:TG):TS:=λD σ H=>te σ H λx H1=>g x σ H1 D.nx
theorem xde {tg e:Expr} {te:TE} {g:TG} (j:PE X e te) (i:PG X tg g) (hs:swapsWithSole [tg] e pos.line X.env=pure false:=by rfl) (f:swappedStores [tg] e X.env=pure none:=by rfl)
  (h1:(assignEach [tg] X.env).map (·.2)=[assign tg X.env]:=by rfl):PS X (.Assign [tg] e pos) (tAsg te g):=by
 intro pins s σ H D I h;refine wpAny_Assign_stores (thn (j pins s σ H _ I h) λv a ⟨x,H1,l,b,c⟩=>?_) hs f;rw[h1];exact thn (i pins a σ H1 x v _ l b c) λ_ m q=>q
theorem xsj {i:Nat} {x:Str} {e:Expr} {te:TE} {pos':Pos} (hN:X.N.Nodup) (hi:X.N[i]?=some x) (hx:Loc X.env.scope x) (he:PE X e te) (hs:swapsWith e (some (.Name x pos')) pos.line X.env=pure false:=by rfl) (hf:X.fn x=true\/X.env.scope.names.lookup x=some .local:=by first |exact .inl rfl |exact .inr rfl |assumption) :
  PS X (.Assign [.Name x pos'] e pos) (tAsg te (xfq i)):=by
 intro pins s σ H D I h;refine wpAny_Assign_Name (thn (he pins s σ H _ I h) λv s1 ⟨y,H1,I1,r1,q1⟩=>?_) hs;exact xkc I1 hN hi hx r1 (λs2 I2=>⟨_,H1,I2,q1⟩) hf
end
structure It where
 go:Nat->Hp->Prop
 yld:Nat->Hp->V->Hp->Prop
 stop:Nat->Hp->Prop
def FpOk(X:Cx)(pins:List (Addr×Obj))(H:Hp)(b:Addr):Prop:=
 H b=none/\b≠X.env.locals/\b ∉X.fs/\(b∈X.ex\/X.s₀.heap.objs.size<=b)/\(∀x c,X.env.cells.lookup x=some c->c≠b)/\∀p∈X.pn++pins,p.1≠b
theorem Inv.fpOk{X:Cx}{pins:List (Addr×Obj)}{σ:St}{H H':Hp}{s:Shared}{b:Addr}(I:Inv X pins σ H s)(a:s.heap.objs.size<=b)(hn:H' b=none):FpOk X pins H' b:=by
 refine⟨hn,Nat.ne_of_gt (Nat.lt_of_lt_of_le I.lt a),I.nofs a,.inr (Nat.le_trans I.sz a),λx c e z=>?_,λp f z=>?_⟩
 ·obtain⟨v,q⟩:=I.cell x c e
  exact absurd (Nat.lt_of_lt_of_le q.lt (by rw[z];exact a)) (Nat.lt_irrefl _)
 ·exact absurd (Nat.lt_of_lt_of_le (Heap.lt_size (I.pin p f).1) (by rw[z];exact a)) (Nat.lt_irrefl _)
structure Turn(P:Program)(w:World)(K:Fg)(tg:Expr)(J:It)(fp:List Addr)(it:Addr)(tn:Nat->Heap->Prop):Prop where
 mem:it∈fp
 obj:∀i h,tn i h->∀b∈fp,∃o,h.get? b=some o/\∀v,o.data≠.cell v
 keep:∀i h h',tn i h->(∀b∈fp,∀o,h.get? b=some o->h'.get? b=some o)->tn i h'
 item:∀(X:Cx),X.prog=P->X.w=w->X.K=K->X.calm=true->∀(i:Nat) (pins:List (Addr×Obj)) (s:Shared) (σ:St) (H:Hp) (E:Value->Shared->Prop),Inv X pins σ H s->(∀b∈fp,FpOk X pins H b)->tn i s.heap->J.go i H->
  wpAny (model P w) X.A (pyNext (.ref it)) (λr s1=>∃u,r=some u ∧
   wpAny (model P w) X.A (letOwnedTupleGo tg (.ref it) u) (λ_ s2=>∃x H',Inv X pins σ H' s2/\RelV x u/\J.yld i H x H'/\tn (i+1) s2.heap/\∀b∈fp,H' b=none) E s1) E s
 done:∀(X:Cx),X.prog=P->X.w=w->X.K=K->X.calm=true->∀(i:Nat) (pins:List (Addr×Obj)) (s:Shared) (σ:St) (H:Hp) (E:Value->Shared->Prop),Inv X pins σ H s->(∀b∈fp,FpOk X pins H b)->tn i s.heap->J.stop i H->
  wpAny (model P w) X.A (pyNext (.ref it)) (λr s1=>r=none/\Inv X pins σ H s1) E s
 self:∀(A:Around) (i:Nat) (s:Shared) (Q:Value->Shared->Prop) (E:Value->Shared->Prop),tn i s.heap->Q (.ref it) s->wpAny (model P w) A (pyIter (.ref it)) Q E s
abbrev TI:=St->Hp->(It->Hp->Prop)->Prop
def PIE(X:Cx)(pins:List (Addr×Obj))(σ:St)(tg:Expr)(R:It->Hp->Prop)(itv:Value)(s2:Shared):Prop:=
 ∃(it:Addr) (fp:List Addr) (tn:Nat->Heap->Prop) (J:It) (H':Hp),itv=.ref it/\Inv X pins σ H' s2/\Turn X.prog X.w X.K tg J fp it tn/\tn 0 s2.heap/\(∀b∈fp,FpOk X pins H' b)/\R J H'
def PI(X:Cx)(tg iter:Expr)(wi:TI):Prop:=
 ∀(pins:List (Addr×Obj)) (s:Shared) (σ:St) (H:Hp) (R:It->Hp->Prop),Inv X pins σ H s->wi σ H R->
  wpAny (model X.prog X.w) X.A (eval iter X.env) (λv s1=>wpAny (model X.prog X.w) X.A (pyIter v) (PIE X pins σ tg R) X.xe s1) X.xe s
theorem xrh {M:Model} {A:Around} {E:Value->Shared->Prop} {s:Shared} {tg:Expr} {it:Addr} {u:Value} {o:Obj} {n:String} {vs:Array Value} {Q:Unit->Shared->Prop} (ho:s.heap.get? it=some o) (hc:o.cls=.type n) (hd:o.data=.fields vs)
    (hn:["enumerate","zip","dict_itemiterator","dict_reverseitemiterator","odict_iterator","itertools.zip_longest","itertools.pairwise"].contains n=false) (hQ:Q () s):wpAny M A (letOwnedTupleGo tg (.ref it) u) Q E s:=by
  unfold letOwnedTupleGo
  cases tg <;> first
    |exact wpAny_pure hQ
    |(cases u <;> first
        |exact wpAny_pure hQ
        | (refine wpAny_bind (wpAny_load ho ?_)
           rw[hc,hd];show wpAny M A (if (["enumerate","zip","dict_itemiterator","dict_reverseitemiterator","odict_iterator","itertools.zip_longest","itertools.pairwise"].contains n && vs[0]? == some (rawInt _))=true then _ else _) Q E s;rw[if_neg (by intro h;rw[hn,Bool.false_and]at h;cases h)];exact wpAny_pure hQ))
def Itl(K:Fg)(a:Addr):It:=
 ⟨λi H=>∃xs x,SqL K H a xs/\xs[i]?=some x,λi H x H'=>H'=H/\∀xs,SqL K H a xs->xs[i]?=some x,λi H=>∃xs,SqL K H a xs/\xs.length<=i⟩
def Itt(K:Fg)(a:Addr):It:=
 ⟨λi H=>∃xs x,SqT K H a xs/\xs[i]?=some x,λi H x H'=>H'=H/\∀xs,SqT K H a xs->xs[i]?=some x,λi H=>∃xs,SqT K H a xs/\xs.length<=i⟩
def Itr(lo:Int)(n:Nat):It:=⟨λi _=>i<n,λi H x H'=>H'=H/\x=.int (lo+i),λi _=>n<=i⟩
theorem xlx{P:Program}{w:World}{K:Fg}{tg:Expr}(a it:Addr):Turn P w K tg (Itl K a) [it] it (λi h=>h.IsListIter it a i) where
 mem:=by simp
 obj:=λi h st b f=>by
  have e:b=it:=by simpa using f
  subst e;obtain⟨o,e,c,d⟩:=st;exact⟨o,e,λv z=>by rw[d]at z;cases z⟩
 keep:=λi h h' st k=>st.at λo e=>k it (by simp) o e
 item:=by
  intro X C r G Z i pins s σ H E I l st y;subst C r G;obtain⟨xs,x,j,n⟩:=y;obtain⟨its,m,p,hz⟩:=I.list j;obtain⟨u,hu,ru⟩:=m.get n;obtain⟨Y,U,f2,O,M,J⟩:=l it (by simp);refine wpAny_pyNext_list_item st p.isList (x:=u) (by simpa using hu) λh' g sb=>?_;have I1:Inv X pins σ H {s with heap:=h'}:=I.turned (t':=s.toks) (λb o f e=>(sb.2 b f).trans e) Y U O M J;obtain⟨o,e,c,d⟩:=id g;exact⟨u,rfl,xrh (s:={s with heap:=h'}) e c d (by decide) ⟨x,H,I1,ru,⟨rfl,λys hy=>by rw[I.list_inj hy j];exact n⟩,g,λb f=>(l b f).1⟩⟩
 done:=by
  intro X C r G Z i pins s σ H E I l st y;subst C r G;obtain⟨xs,j,n⟩:=y;obtain⟨its,m,p,hz⟩:=I.list j;obtain⟨Y,U,f2,O,M,J⟩:=l it (by simp);have hl:=m.length;exact wpAny_pyNext_list_end (I.ok.hd Z) st p.isList (by simp;omega) λh' eb=>⟨rfl,I.turned (t':=s.toks) (λb o f e=>eb b o f e) Y U O M J⟩
 self:=λ_ _ _ _ _ st h=>wpAny_pyIter_listiter st h
theorem xla{P:Program}{w:World}{K:Fg}{tg:Expr}(a it:Addr):Turn P w K tg (Itt K a) [it] it (λi h=>h.IsTupleIter it a i) where
 mem:=by simp
 obj:=λi h st b f=>by
  have e:b=it:=by simpa using f
  subst e;obtain⟨o,e,c,d⟩:=st;exact⟨o,e,λv z=>by rw[d]at z;cases z⟩
 keep:=λi h h' st k=>st.at λo e=>k it (by simp) o e
 item:=by
  intro X C r G Z i pins s σ H E I l st y;subst C r G;obtain⟨xs,x,j,n⟩:=y;obtain⟨its,m,p,hz⟩:=I.tuple j;obtain⟨u,hu,ru⟩:=m.get n;obtain⟨Y,U,f2,O,M,J⟩:=l it (by simp);refine wpAny_pyNext_tuple_item st (show s.heap.IsTuple a its.toArray from p) (x:=u) (by simpa using hu) λh' g sb=>?_;have I1:Inv X pins σ H {s with heap:=h'}:=I.turned (t':=s.toks) (λb o f e=>(sb.2 b f).trans e) Y U O M J;obtain⟨o,e,c,d⟩:=id g;exact⟨u,rfl,xrh (s:={s with heap:=h'}) e c d (by decide) ⟨x,H,I1,ru,⟨rfl,λys hy=>by rw[I.tuple_inj hy j];exact n⟩,g,λb f=>(l b f).1⟩⟩
 done:=by
  intro X C r G Z i pins s σ H E I l st y;subst C r G;obtain⟨xs,j,n⟩:=y;obtain⟨its,m,p,hz⟩:=I.tuple j;obtain⟨Y,U,f2,O,M,J⟩:=l it (by simp);have hl:=m.length;exact wpAny_pyNext_tuple_end (I.ok.hd Z) st (show s.heap.IsTuple a its.toArray from p) (by simp;omega) λh' eb=>⟨rfl,I.turned (t':=s.toks) (λb o f e=>eb b o f e) Y U O M J⟩
 self:=λ_ _ _ _ _ st h=>wpAny_pyIter_tupleiter st h
theorem xlb{P:Program}{w:World}{K:Fg}{tg:Expr}(it:Addr)(lo:Int)(n:Nat):Turn P w K tg (Itr lo n) [it] it (λi h=>IsRangeIter h it (lo+(i:Nat)*1) ((n:Int)-(i:Nat)) 1) where
 mem:=by simp
 obj:=λi h st b a=>by
  have e:b=it:=by simpa using a
  subst e
  exact⟨_,st,λv z=>by
   have G:Data.fields _=Data.cell v:=z;cases G⟩
 keep:=λi h h' st k=>k it (by simp) _ st
 item:=by
  intro X m g p l i pins s σ H E I f st j;subst m g p;obtain⟨C,y,O,x,u,r⟩:=f it (by simp);have W:=Walks.range (prog:=X.prog) (w:=X.w) (I.ok.hd l) it lo 1 n;refine W.item i s _ _ j st λv h' tk M c J=>?_;obtain⟨t,rfl⟩:=M;have Y:Inv X pins σ H {s with heap:=h',toks:=tk}:=I.turned (λb o a e=>J b o (by simpa using a) e) C y x u r;refine⟨_,rfl,xrh (s:={s with heap:=h',toks:=tk}) (n:="range_iterator") c rfl rfl (by decide) ⟨.int (lo+i),H,Y,⟨t,?_⟩,⟨rfl,rfl⟩,c,λb a=>(f b a).1⟩⟩;rw[Int.mul_one]
 done:=by
  intro X m g p l i pins s σ H E I f st j;subst m g p;obtain⟨C,y,O,x,u,r⟩:=f it (by simp);exact wpAny_pyNext_range_end (I.ok.hd l) st (by have:n<=i:=j;omega) λh' U=>⟨rfl,I.turned (t':=s.toks) (λb o a e=>U b o a e) C y x u r⟩
 self:=λ_ _ _ _ _ st h=>wpAny_pyIter_rangeiter st h
section
variable {X:Cx}{tg:Expr}
def xs7(K:Fg)(tl:TE):TI:=λσ H R=>tl σ H λx H1=>∃a,x=.ref a/\(∃xs,SqL K H1 a xs)/\R (Itl K a) H1
def iTup(K:Fg)(tl:TE):TI:=λσ H R=>tl σ H λx H1=>∃a,x=.ref a/\(∃xs,SqT K H1 a xs)/\R (Itt K a) H1
theorem xqo{l:Expr}{tl:TE}(m:PE X l tl):PI X tg l (xs7 X.K tl):=by
 intro pins s σ H R I h;refine thn (m pins s σ H _ I h) λv c ⟨x,H1,f,g,i⟩=>?_;obtain⟨a,e,⟨xs,j⟩,q⟩:=i;subst e;cases g;obtain⟨its,r,p,hz⟩:=f.list j;refine wpAny_pyIter_list p.isList ?_;refine⟨c.heap.objs.size,[c.heap.objs.size],_,_,H1,rfl,f.kept (t':=c.toks) λb o e=>zPO _ e,xlx a _,⟨_,Heap.get?_push_size _ rfl,rfl,rfl⟩,λb n=>?_,q⟩;have e:b=c.heap.objs.size:=by simpa using n
 subst e;exact f.fpOk (Nat.le_refl _) (f.hok.fresh (Nat.le_refl _))
theorem xsk{l:Expr}{tl:TE}(m:PE X l tl):PI X tg l (iTup X.K tl):=by
 intro pins s σ H R I h;refine thn (m pins s σ H _ I h) λv c ⟨x,H1,f,g,i⟩=>?_;obtain⟨a,e,⟨xs,j⟩,q⟩:=i;subst e;cases g;obtain⟨its,r,p,hz⟩:=f.tuple j;refine wpAny_pyIter_tuple (show c.heap.IsTuple a its.toArray from p) ?_;refine⟨c.heap.objs.size,[c.heap.objs.size],_,_,H1,rfl,f.kept (t':=c.toks) λb o e=>zPO _ e,xla a _,⟨_,Heap.get?_push_size _ rfl,rfl,rfl⟩,λb n=>?_,q⟩;have e:b=c.heap.objs.size:=by simpa using n
 subst e;exact f.fpOk (Nat.le_refl _) (f.hok.fresh (Nat.le_refl _))
theorem xko {pins:List (Addr×Obj)} {σ:St} {H:Hp} {s:Shared} {R:It->Hp->Prop} {E:Value->Shared->Prop} {lo hi:Int} {t u v:Tok} {tk:Nat} (I:Inv X pins σ H s) (h1:-(2 ^ 62)<=lo) (h2:lo<2 ^ 62) (h3:-(2 ^ 62)<=hi) (h4:hi<2 ^ 62)
  (q:R (Itr lo (hi-lo).toNat) H):wpAny (model X.prog X.w) X.A (pyIter (.ref s.heap.objs.size)) (PIE X pins σ tg R) E {s with heap:=s.heap.push {cls:=.type "range",data:=.fields #[.int lo t,.int hi u,.int 1 v]},toks:=tk}:=by
 refine wpAny_pyIter_range (IsRange.new ..) (small_one h1 h2 h3 h4) ?_;have I1:Inv X pins σ H {s with heap:=s.heap.push {cls:=.type "range",data:=.fields #[.int lo t,.int hi u,.int 1 v]},toks:=tk}:=I.kept λb o e=>zPO _ e
 refine⟨(s.heap.push {cls:=.type "range",data:=.fields #[.int lo t,.int hi u,.int 1 v]}).objs.size,[(s.heap.push {cls:=.type "range",data:=.fields #[.int lo t,.int hi u,.int 1 v]}).objs.size],_,_,H,rfl,
  I1.kept (t':=tk) λb o e=>zPO _ e,xlb _ lo (hi-lo).toNat,?_,λb hb=>?_,q⟩
 ·have e1:lo+((0:Nat):Int)*1=lo:=by simp
  have e2:(((hi-lo).toNat:Nat):Int)-((0:Nat):Int)=Builtin.Range.rangeSize lo hi 1:=by rw[rangeSize_one];split <;> omega
  show IsRangeIter _ _ (lo+((0:Nat):Int)*1) ((((hi-lo).toNat:Nat):Int)-((0:Nat):Int)) 1;rw[e1,e2];exact Heap.get?_push_size _ rfl
 ·have e:b=(s.heap.push {cls:=.type "range",data:=.fields #[.int lo t,.int hi u,.int 1 v]}).objs.size:=by simpa using hb
  subst e;exact I1.fpOk (Nat.le_refl _) (I1.hok.fresh (Nat.le_refl _))
def xt9(ta:TA):TI:=λσ H R=>ta σ H λvs H1=>∃j:Int,vs=[.int j]/\-(2 ^ 62)<=j/\j<2 ^ 62/\R (Itr 0 j.toNat) H1
def xt8(ta:TA):TI:=λσ H R=>ta σ H λvs H1=>∃i j:Int,vs=[.int i,.int j]/\(-(2 ^ 62)<=i/\i<2 ^ 62/\-(2 ^ 62)<=j/\j<2 ^ 62)/\R (Itr i (j-i).toNat) H1
theorem xb1{a:Expr}{ta:TA}{p pos:Pos}(l:Gl X "range")(i:X.mg "range"=none)(m:PA X [a] ta)(hs:starEach [a] X.env=[(false,eval a X.env)]:=by rfl):PI X tg (.Call (.Name "range" p) [a] [] pos) (xt9 ta):=by
 intro pins s σ H R I h;refine Call_ (xim I l i boot_range (PyProof.Rows.callWith_type1 (thn (m pos pins s σ H _ I h) λus o ⟨vs,H1,n,f,b⟩=>?_) hs rfl));obtain⟨j,e,b,g,q⟩:=b;subst e
 cases f with
 |cons r c=>
  cases c;obtain⟨t,rfl⟩:=r;exact call_range_1 (xko n (by omega) (by omega) b g (by simpa using q))
theorem xmn {a b:Expr} {ta:TA} {p pos:Pos} (x:Gl X "range") (w:X.mg "range"=none) (y:PA X [a,b] ta) (hs:starEach [a,b] X.env=[(false,eval a X.env),(false,eval b X.env)]:=by rfl) (c:starEach [b] X.env=[(false,eval b X.env)]:=by rfl) :
  PI X tg (.Call (.Name "range" p) [a,b] [] pos) (xt8 ta):=by
 intro pins s σ H R I h;refine Call_ (xim I x w boot_range (PyProof.Rows.callWith_type1 (thn (y pos pins s σ H _ I h) λus C ⟨vs,H1,z,l,g⟩=>?_) (by rw[hs,c]) (by rw[c];rfl)));obtain⟨i,j,e,⟨g,u,o,n⟩,q⟩:=g;subst e
 cases l with
 | cons r f=>
  cases f with
  |cons m f=>
   cases f;obtain⟨t,rfl⟩:=r;obtain⟨t',rfl⟩:=m;exact call_range_2 (xko z g u o n q)
def tFor(wi:TI)(g:TG)(tb:TS):TS:=λD σ H=>wi σ H λJ H1=>∃W:Nat->Nat->St->Hp->Prop,(∃m,W 0 m σ H1)/\∀i m σ H,W i m σ H->
 (J.stop i H/\D.nx σ H)\/(J.go i H/\∃N:St->Hp->Prop,(∀σ' H',N σ' H'->∃m',m'<m/\W (i+1) m' σ' H')/\∀x H',J.yld i H x H'->g x σ H' λσ2 H2=>tb {D with nx:=N,ct:=N,bk:=D.nx} σ2 H2)
def xh1(fp:List Addr)(h:Heap):List (Addr×Obj):=fp.filterMap λb=>(h.get? b).map λo=>(b,o)
theorem xds{a:List Addr}{h:Heap}{b:Addr}{o:Obj}(c:b∈a)(e:h.get? b=some o):(b,o)∈xh1 a h:=List.mem_filterMap.mpr ⟨b,c,by rw[e];rfl⟩
theorem xm4{a:List Addr}{h:Heap}{p:Addr×Obj}(c:p∈xh1 a h):p.1∈a/\h.get? p.1=some p.2:=by
 obtain⟨b,f,e⟩:=List.mem_filterMap.mp c
 cases q:h.get? b with
 |none=>rw[q]at e;cases e
 |some o=>
  rw[q]at e;have g:(b,o)=p:=Option.some.inj e;subst g;exact⟨f,q⟩
theorem Inv.pinned{pins:List (Addr×Obj)}{σ:St}{H:Hp}{s:Shared}{a:List Addr}(I:Inv X pins σ H s)(i:∀b∈a,FpOk X pins H b)(h:∀b∈a,∃o,s.heap.get? b=some o/\∀v,o.data≠.cell v):Inv X (pins++xh1 a s.heap) σ H s:=
 I.pins_of λp g=>(zMA g).elim (λz=>I.pin p (List.mem_append_right _ z)) λz=>by
  obtain⟨c,e⟩:=xm4 z;obtain⟨m,l,j,_⟩:=i p.1 c;obtain⟨o,f,d⟩:=h p.1 c;rw[e]at f;cases f;exact⟨e,m,l,j,d⟩
theorem Inv.unpinned{pins pl:List (Addr×Obj)}{σ:St}{H:Hp}{s:Shared}(I:Inv X (pins++pl) σ H s):Inv X pins σ H s:=I.pins_of λp a=>I.pin p (List.mem_append_right _ (List.mem_append_left _ a))
theorem xca {j:Expr} {G:List Stmt} {wi:TI} {g:TG} {tb:TS} {pos:Pos} (hp:PassesOwn (model X.prog X.w) X.A X.env X.xe) (hc:X.calm=true) (hi:PI X tg j wi) (hg:PG X tg g) (l:PSs X G tb)
  (hs:∀x,foldedSetIterable j X.env x=pure x:=by intro _;rfl):PS X (.For tg j G [] pos) (tFor wi g tb):=by
 intro pins s σ H D I h;refine wpAny_For (thn (hi pins s σ H _ I h) λv s1 h1=>thn h1 λa5 s2 h2=>?_) hs;obtain⟨it,fp,tn,J,H2,e,I2,T,a2,f2,W,⟨m0,w0⟩,Y⟩:=h2;subst e;have c:∀{H':Hp},(∀b∈fp,H' b=none)->∀b∈fp,FpOk X pins H' b:=λhn b l=>⟨hn b l,(f2 b l).2⟩;refine codeAny_forLoop_any (λn s'=>∃i U H',Inv X pins U H' s'/\tn i s'.heap/\(∀b∈fp,H' b=none)/\W i n U H') ?_ m0 ⟨0,σ,H2,I2,a2,λb l=>(f2 b l).1,w0⟩;rintro n s3 ⟨i,O,H3,I3,a0,a1,w3⟩;rcases Y i n O H3 w3 with⟨Z,qn⟩ |⟨go,N,hN,step⟩
 ·refine wpAny_passesOwn hp (thn (T.done X rfl rfl rfl hc i pins s3 O H3 X.xe I3 (c a1) a0 Z) λr s4 ⟨hr,I4⟩=>?_)
  subst hr;exact wpAny_execs_nil ⟨O,H3,I4,qn⟩
 ·refine wpAny_passesOwn hp (thn (T.item X rfl rfl rfl hc i pins s3 O H3 X.xe I3 (c a1) a0 go) λr s4 ⟨u,hr,h4⟩=>?_)
  subst hr;refine wpAny_passesOwn hp (thn h4 λ_ s5 ⟨x,H5,I5,r5,y5,M,a3⟩=>?_);have a4:=I5.pinned (c a3) (T.obj _ _ M);refine wpAny_passesOwn hp (thn (hg _ s5 O H5 x u _ a4 r5 (step x H5 y5)) λ_ s6 ⟨σ6,H6,I6,q6⟩=>?_);refine wpAny_passesOwn hp (thn (l _ s6 σ6 H6 _ I6 q6) λf s7 C=>?_)
  have p:∀{a:St} {z:Hp},Inv X (pins++xh1 fp s5.heap) a z s7->N a z->∃m,m<n/\∃i U H',Inv X pins U H' s7/\tn i s7.heap/\(∀b∈fp,H' b=none)/\W i m U H':=λ{a z} y n7=>by
   obtain⟨m',hm,w7⟩:=hN a z n7;refine⟨m',hm,i+1,a,z,y.unpinned,T.keep _ _ _ M λb l o e=>(y.pin (b,o) (List.mem_append_right _ (List.mem_append_right _ (xds l e)))).1,λb l=>?_,w7⟩;obtain⟨o,e,d⟩:=T.obj _ _ M b l;exact(y.pin (b,o) (List.mem_append_right _ (List.mem_append_right _ (xds l e)))).2.1
  cases f with
  |next=>obtain⟨a,z,y,n7⟩:=C;exact p y n7
  |cont=>obtain⟨a,z,y,n7⟩:=C;exact p y n7
  |brk=>obtain⟨a,z,y,C⟩:=C;exact⟨a,z,y.unpinned,C⟩
  |ret v=>obtain⟨x7,a,z,y,r7,C⟩:=C;exact⟨x7,a,z,y.unpinned,r7,C⟩
end
theorem xdb {K:Fg} {a:Addr} {xs:List V} {g:TG} {tb:TS} {D:Ends} {σ:St} {H:Hp} (Pv:Nat->St->Hp->Prop) (h0:Pv 0 σ H) (hl:∀i σ H,i<=xs.length->Pv i σ H->SqL K H a xs)
  (hs:∀i x σ H,xs[i]?=some x->Pv i σ H->g x σ H λσ2 H2=>tb {D with nx:=Pv (i+1),ct:=Pv (i+1),bk:=D.nx} σ2 H2) (hd:∀σ H,Pv xs.length σ H->D.nx σ H) :
  ∃W:Nat->Nat->St->Hp->Prop,(∃m,W 0 m σ H)/\∀i m σ H,W i m σ H->
   ((Itl K a).stop i H/\D.nx σ H)\/((Itl K a).go i H/\∃N:St->Hp->Prop,(∀σ' H',N σ' H'->∃m',m'<m/\W (i+1) m' σ' H')/\∀x H',(Itl K a).yld i H x H'->g x σ H' λσ2 H2=>tb {D with nx:=N,ct:=N,bk:=D.nx} σ2 H2):=by
 refine⟨λi m σ H=>m=xs.length-i/\i<=xs.length/\Pv i σ H,⟨xs.length,by simp,Nat.zero_le _,h0⟩,?_⟩;rintro i m σ H ⟨rfl,hi,p⟩;have q:=hl i σ H hi p;by_cases hlt:i<xs.length
 ·refine .inr ⟨⟨xs,xs[i],q,by simp[hlt]⟩,Pv (i+1),λσ' H' p'=>⟨xs.length-(i+1),by omega,rfl,hlt,p'⟩,λx H' y=>?_⟩
  obtain⟨e,y⟩:=y;subst e;exact hs i x σ _ (y xs q) p
 ·have e:i=xs.length:=by omega
  subst e;exact .inl ⟨⟨xs,q,Nat.le_refl _⟩,hd σ H p⟩
theorem xdl {K:Fg} {a:Addr} {xs:List V} {g:TG} {tb:TS} {D:Ends} {σ:St} {H:Hp} (b:Nat->St->Hp->Prop) (h0:b 0 σ H) (n:∀i σ H,i<=xs.length->b i σ H->SqT K H a xs)
  (hs:∀i x σ H,xs[i]?=some x->b i σ H->g x σ H λf H2=>tb {D with nx:=b (i+1),ct:=b (i+1),bk:=D.nx} f H2) (hd:∀σ H,b xs.length σ H->D.nx σ H) :
  ∃W:Nat->Nat->St->Hp->Prop,(∃m,W 0 m σ H)/\∀i m σ H,W i m σ H->
   ((Itt K a).stop i H/\D.nx σ H)\/((Itt K a).go i H/\∃N:St->Hp->Prop,(∀h H',N h H'->∃j,j<m/\W (i+1) j h H')/\∀x H',(Itt K a).yld i H x H'->g x σ H' λf H2=>tb {D with nx:=N,ct:=N,bk:=D.nx} f H2):=by
 refine⟨λi m σ H=>m=xs.length-i/\i<=xs.length/\b i σ H,⟨xs.length,by simp,Nat.zero_le _,h0⟩,?_⟩;rintro i m σ H ⟨rfl,hi,p⟩;have q:=n i σ H hi p;by_cases c:i<xs.length
 ·refine .inr ⟨⟨xs,xs[i],q,by simp[c]⟩,b (i+1),λh H' l=>⟨xs.length-(i+1),by omega,rfl,c,l⟩,λx H' y=>?_⟩
  obtain⟨e,y⟩:=y;subst e;exact hs i x σ _ (y xs q) p
 ·have e:i=xs.length:=by omega
  subst e;exact .inl ⟨⟨xs,q,Nat.le_refl _⟩,hd σ H p⟩
theorem xcr {lo:Int} {n:Nat} {g:TG} {tb:TS} {D:Ends} {σ:St} {H:Hp} (b:Nat->St->Hp->Prop) (h0:b 0 σ H)
  (hs:∀i σ H,i<n->b i σ H->g (.int (lo+i)) σ H λc H2=>tb {D with nx:=b (i+1),ct:=b (i+1),bk:=D.nx} c H2) (hd:∀σ H,b n σ H->D.nx σ H) :
  ∃W:Nat->Nat->St->Hp->Prop,(∃m,W 0 m σ H)/\∀i m σ H,W i m σ H->
   ((Itr lo n).stop i H/\D.nx σ H)\/((Itr lo n).go i H/\∃N:St->Hp->Prop,(∀f H',N f H'->∃h,h<m/\W (i+1) h f H')/\∀x H',(Itr lo n).yld i H x H'->g x σ H' λc H2=>tb {D with nx:=N,ct:=N,bk:=D.nx} c H2):=by
 refine⟨λi m σ H=>m=n-i/\i<=n/\b i σ H,⟨n,by simp,Nat.zero_le _,h0⟩,?_⟩;rintro i m σ H ⟨rfl,hi,p⟩;by_cases a:i<n
 ·refine .inr ⟨a,b (i+1),λf H' j=>⟨n-(i+1),by omega,rfl,a,j⟩,λx H' y=>?_⟩
  obtain⟨e,y⟩:=y;subst e y;exact hs i σ _ a p
 ·have e:i=n:=by omega
  subst e;exact .inl ⟨Nat.le_refl _,hd σ H p⟩
abbrev R2:=V->V->Hp->VK->Prop
def OpR(X:Cx)(f:Value->Value->Sem Value)(r:R2):Prop:=
 ∀(pins:List (Addr×Obj)) (s:Shared) (σ:St) (H:Hp) (x y:V) (v u:Value) (Q:VK),Inv X pins σ H s->RelV x v->RelV y u->r x y H Q->
  wpAny (model X.prog X.w) X.A (f v u) (EP X pins σ Q) X.xe s
def xdy(X:Cx)(f:Value)(r:List V->Hp->VK->Prop):Prop:=
 ∀(pins:List (Addr×Obj)) (s:Shared) (σ:St) (H:Hp) (xs:List V) (us:List Value) (Q:VK),Inv X pins σ H s->Vals xs us->r xs H Q->
  wpAny (model X.prog X.w) X.A (call f us) (EP X pins σ Q) X.xe s
def tOp(r:R2)(ta tb:TE):TE:=λσ H Q=>ta σ H λx H1=>tb σ H1 λy H2=>r x y H2 Q
def rI(C:Int->Int->Prop)(g:Int->Int->V):R2:=λx y H Q=>∃i j,x=.int i/\y=.int j/\C i j/\Q (g i j) H
def rI0(g:Int->Int->V):R2:=λx y H Q=>∃i j,x=.int i/\y=.int j/\Q (g i j) H
section
variable {X:Cx}{a b c:Expr}{ta tb tc:TE}{pos:Pos}
theorem binT (r:PE X a ta) (p:PE X b tb) {pins:List (Addr×Obj)} {s:Shared} {σ:St} {H:Hp} {R:V->V->Hp->Prop} (I:Inv X pins σ H s)
  (h:ta σ H λx H1=>tb σ H1 λy H2=>R x y H2) {Q:Value->Shared->Prop} {f:Value->Value->Sem Value}
  (o:∀v u c x y H2,Inv X pins σ H2 c->RelV x v->RelV y u->R x y H2->wpAny (model X.prog X.w) X.A (f v u) Q X.xe c) :
  wpAny (model X.prog X.w) X.A (eval a X.env) (λv g=>wpAny (model X.prog X.w) X.A (eval b X.env) (λu e=>wpAny (model X.prog X.w) X.A (f v u) Q X.xe e) X.xe g) X.xe s:=by
 refine thn (r pins s σ H _ I h) λv i ⟨x,H1,C,l,n⟩=>?_;refine thn (p pins i σ H1 _ C n) λu c ⟨y,H2,z,j,m⟩=>?_;exact o v u c x y H2 z l j m
theorem xak{op:Operator}{r:R2}(g:OpR X (binaryOp op) r)(j:PE X a ta)(i:PE X b tb):PE X (.BinOp a op b pos) (tOp r ta tb):=by
 intro pins s σ H Q I h;exact wpAny_BinOp (binT j i I h λv u c x y H2 l f e q=>g pins c σ H2 x y v u Q l f e q)
theorem opI {f:Value->Value->Sem Value} {C:Int->Int->Prop} {g:Int->Int->Int}
  (a:∀(i j:Int) (t u:Tok) (s:Shared) (Q:Value->Shared->Prop) (E:Value->Shared->Prop),C i j->Q (.int (g i j) s.toks) {s with toks:=s.toks+1}->wpAny (model X.prog X.w) X.A (f (.int i t) (.int j u)) Q E s) :
  OpR X f (rI C λi j=>.int (g i j)):=by
 intro pins s σ H x y v u Q I c b h;obtain⟨i,j,rfl,rfl,e,q⟩:=h;obtain⟨t,rfl⟩:=c;obtain⟨t',rfl⟩:=b;exact a i j t t' s _ _ e ⟨.int (g i j),H,I.tok _,⟨_,rfl⟩,q⟩
theorem opI0 {f:Value->Value->Sem Value} {g:Int->Int->Int}
  (a:∀(i j:Int) (t u:Tok) (s:Shared) (Q:Value->Shared->Prop) (E:Value->Shared->Prop),Q (.int (g i j) s.toks) {s with toks:=s.toks+1}->wpAny (model X.prog X.w) X.A (f (.int i t) (.int j u)) Q E s) :
  OpR X f (rI0 λi j=>.int (g i j)):=by
 intro pins s σ H x y v u Q I c b h;obtain⟨i,j,rfl,rfl,q⟩:=h;obtain⟨t,rfl⟩:=c;obtain⟨t',rfl⟩:=b;exact a i j t t' s _ _ ⟨.int (g i j),H,I.tok _,⟨_,rfl⟩,q⟩
theorem opB0 {f:Value->Value->Sem Value} {g:Int->Int->Bool}
  (a:∀(i j:Int) (t u:Tok) (s:Shared) (Q:Value->Shared->Prop) (E:Value->Shared->Prop),Q (.bool (g i j)) s->wpAny (model X.prog X.w) X.A (f (.int i t) (.int j u)) Q E s) :
  OpR X f (rI0 λi j=>.bl (g i j)):=by
 intro pins s σ H x y v u Q I c b h;obtain⟨i,j,rfl,rfl,q⟩:=h;obtain⟨t,rfl⟩:=c;obtain⟨t',rfl⟩:=b;exact a i j t t' s _ _ ⟨.bl (g i j),H,I,rfl,q⟩
def CPow(i j:Int):Prop:=0<=j/\j<=1000000/\i.natAbs<2 ^ 64
def CMul(i j:Int):Prop:=(-(2 ^ 64)<i/\i<2 ^ 64)\/(-(2 ^ 64)<j/\j<2 ^ 64)
theorem CMul.ok{i j:Int}(h:CMul i j):IntMulOk i j:=by
 rcases h with⟨h1,h2⟩ |⟨h1,h2⟩
 ·exact .of_left (intBits_le_64 h1 h2)
 ·exact .of_right (intBits_le_64 h1 h2)
theorem xba:OpR X (binaryOp .Add) (rI0 λi j=>.int (i+j)):=opI0 λ_ _ _ _ _ _ _ q=>add_int q
theorem xcg:OpR X (binaryOp .Sub) (rI0 λi j=>.int (i-j)):=opI0 λ_ _ _ _ _ _ _ q=>sub_int q
theorem xc5:OpR X (binaryOp .Mult) (rI CMul λi j=>.int (i*j)):=opI λ_ _ _ _ _ _ _ a q=>mul_int q a.ok
theorem xcc:OpR X (binaryOp .Mod) (rI (λ_ j=>0<j) λi j=>.int (i%j)):=opI λi j _ _ _ _ _ hc q=>by
 have h1:(0:Int)<j:=hc;exact mod_int' (by omega) (by rw[Int.fmod_eq_emod_of_nonneg i (by omega)];exact q)
theorem xpu:OpR X (binaryOp .Pow) (rI CPow λi j=>.int (i ^ j.toNat)):=opI λ_ _ _ _ _ _ _ a q=>pow_int_small a.1 a.2.1 a.2.2 q
end
def scal:V->V->Bool
 |.non,.non=>true |.non,.int _=>true |.int _,.non=>true |.non,.bl _=>true |.bl _,.non=>true |.non,.str _=>true |.str _,.non=>true
 |.int _,.int _=>true |.bl _,.bl _=>true |.str _,.str _=>true |.byt _,.byt _=>true
 |.int _,.str _=>true |.str _,.int _=>true |.bl _,.str _=>true |.str _,.bl _=>true
 |_,_=>false
def rEq:R2:=λx y H Q=>scal x y=true/\Q (.bl (decide (x=y))) H
theorem xro{i j:Int}:decide (V.int i=V.int j)=(i == j):=by
 rw[Bool.eq_iff_iff];simp
theorem xte{i j:Bool}:decide (V.bl i=V.bl j)=(i == j):=by
 rw[Bool.eq_iff_iff];simp
theorem xrn{i j:Str}:decide (V.str i=V.str j)=(i == j):=by
 rw[Bool.eq_iff_iff];simp
theorem xrp{i j:Array UInt8}:decide (V.byt i=V.byt j)=(i.toList == j.toList):=by
 rw[Bool.eq_iff_iff];cases i;cases j;simp
section
variable {X:Cx}{a b c:Expr}{ta tb tc:TE}{pos:Pos}
theorem xct{pins:List (Addr×Obj)}{σ:St}{H:Hp}{s:Shared}{Q:VK}{k k':Bool}(I:Inv X pins σ H s)(q:Q (.bl k) H)(e:k=k'):EP X pins σ Q (.bool k') s:=by
 subst e;exact⟨.bl k,H,I,rfl,q⟩
theorem xa9:OpR X (compareOp .Eq) rEq:=by
 intro pins s σ H x y v u Q I b a h;obtain⟨hs,q⟩:=h
 cases x with
 |non=>
  cases b
  cases y with
  |non=>cases a;exact PySem.EqNone.eq_none_none (xct I q (by simp))
  |bl j=>cases a;exact PySem.EqNone.eq_none_bool (xct I q (by simp))
  |int j=>obtain⟨t',rfl⟩:=a;exact PySem.EqNone.eq_none_int (xct I q (by simp))
  |str j=>obtain⟨t',rfl⟩:=a;exact PySem.EqNone.eq_none_str (xct I q (by simp))
  |_=>exact absurd (show false=true from hs) Bool.false_ne_true
 |bl i=>
  cases b
  cases y with
  |non=>cases a;exact PySem.EqNone.eq_bool_none (xct I q (by simp))
  |bl j=>cases a;exact eq_bool (xct I q xte)
  |str j=>obtain⟨t',rfl⟩:=a;exact PySem.EqMixed.eq_bool_str (xct I q (by simp))
  |_=>exact absurd (show false=true from hs) Bool.false_ne_true
 |int i=>
  obtain⟨t,rfl⟩:=b
  cases y with
  |non=>cases a;exact PySem.EqNone.eq_int_none (xct I q (by simp))
  |int j=>obtain⟨t',rfl⟩:=a;exact eq_int (xct I q xro)
  |str j=>obtain⟨t',rfl⟩:=a;exact PySem.EqMixed.eq_int_str (xct I q (by simp))
  |_=>exact absurd (show false=true from hs) Bool.false_ne_true
 |str i=>
  obtain⟨t,rfl⟩:=b
  cases y with
  |non=>cases a;exact PySem.EqNone.eq_str_none (xct I q (by simp))
  |bl j=>cases a;exact PySem.EqMixed.eq_str_bool (xct I q (by simp))
  |int j=>obtain⟨t',rfl⟩:=a;exact PySem.EqMixed.eq_str_int (xct I q (by simp))
  |str j=>obtain⟨t',rfl⟩:=a;exact eq_str (xct I q xrn)
  |_=>exact absurd (show false=true from hs) Bool.false_ne_true
 |byt i=>
  obtain⟨t,rfl⟩:=b
  cases y with
  |byt j=>obtain⟨t',rfl⟩:=a;exact PySem.W.eq_bytes (xct I q xrp)
  |_=>exact absurd (show false=true from hs) Bool.false_ne_true
 |_=>cases y <;> exact absurd (show false=true from hs) Bool.false_ne_true
theorem xfi:OpR X (compareOp .Lt) (rI0 λi j=>.bl (decide (i<j))):=opB0 λ_ _ _ _ _ _ _ q=>lt_int q
theorem xc2:OpR X (compareOp .Gt) (rI0 λi j=>.bl (decide (j<i))):=opB0 λ_ _ _ _ _ _ _ q=>gt_int q
theorem xst:OpR X (compareOp .GtE) (rI0 λi j=>.bl (decide (j<=i))):=opB0 λ_ _ _ _ _ _ _ q=>ge_int q
theorem xkt:OpR X (compareOp .Is) (λx y H Q=>y=.non/\Q (.bl (decide (x=.non))) H):=by
 intro pins s σ H x y v u Q I rx ry h;obtain⟨rfl,q⟩:=h;cases ry;refine is_none_gen (xct I q ?_)
 cases x <;> first
  |(cases rx;rfl)
  |(obtain⟨t,rfl⟩:=rx;rfl)
theorem nM(b:Expr){op:CmpOp}(h:op≠.In:=by decide)(h2:op≠.NotIn:=by decide):behindInMarks op b=false:=by
 have c:(op == CmpOp.In)=false:=by cases op <;> first |rfl |exact absurd rfl h
 have a:(op == CmpOp.NotIn)=false:=by cases op <;> first |rfl |exact absurd rfl h2
 cases b <;> simp[behindInMarks,c,a]
theorem xcu{op:CmpOp}{r:R2}(ho:OpR X (compareOp op) r)(ha:PE X a ta)(hb:PE X b tb)(hm:behindInMarks op b=false):PE X (.Compare a [op] [b] pos) (tOp r ta tb):=by
 intro pins s σ H Q I h;exact wpAny_Compare1 (binT ha hb I h λv u s2 x y H2 I2 rx ry q=>ho pins s2 σ H2 x y v u Q I2 rx ry q) hm
def xto(t:TE):TT:=λσ H Q=>t σ H λx H'=>∃k,x=.bl k/\Q k H'
theorem pR{op:CmpOp}{r:R2}(p:OpR X (compareOp op) r)(G:PE X a ta)(C:PE X b tb)(w:behindInMarks op b=false):PT X (.Compare a [op] [b] pos) (xto (tOp r ta tb)):=by
 intro pins s σ H Q I h
 refine wpAny_isTrue_Compare1 (thn (G pins s σ H _ I h) λv g ⟨x,H1,O,l,o⟩=>thn (C pins g σ H1 _ O o) λu f ⟨y,H2,M,j,n⟩=>
  thn (p pins f σ H2 x y v u _ M l j n) λc Y ⟨z,U,J,i,k,e,m⟩=>?_) w
 subst e;cases i;exact wpAny_truthy_bool ⟨U,J,m⟩
theorem xih:(sizeLine:Nat)<2 ^ 63:=by rw[sizeLine_eq];decide
theorem xdr:OpR X (binaryOp .Add) (λx y H Q=>∃i j,x=.str i/\y=.str j/\i.length+j.length<=sizeLine/\Q (.str (i++j)) H):=by
 intro pins s σ H x y v u Q I b a h;obtain⟨i,j,rfl,rfl,hz,q⟩:=h;obtain⟨t,rfl⟩:=b;obtain⟨t',rfl⟩:=a;exact add_str (λt' tk=>⟨.str (i++j),H,I.tok _,⟨_,rfl⟩,q⟩) hz
theorem xfx{x:V}{us:List Value}(r:Vals [x] us):∃u,us=[u]/\RelV x u:=by
 cases r with
 |cons b a=>cases a;exact⟨_,rfl,b⟩
theorem xrt{x y:V}{us:List Value}(r:Vals [x,y] us):∃u a,us=[u,a]/\RelV x u/\RelV y a:=by
 cases r with
 |cons f e=>
  cases e with
  |cons c b=>cases b;exact⟨_,_,rfl,f,c⟩
theorem xn6(b:X.calm=true):xdy X (.builtin "max") (λxs H Q=>∃i j,xs=[.int i,.int j]/\Q (.int (if j > i then j else i)) H):=by
 intro pins s σ H xs us Q I r h;obtain⟨i,j,rfl,q⟩:=h;obtain⟨u,c,rfl,⟨t,rfl⟩,⟨t',rfl⟩⟩:=xrt r;refine max_two_ints (I.ok.hd b) λh' tk k=>⟨_,H,I.kept k,?_,q⟩;by_cases a:j > i
 ·rw[if_pos a,if_pos a];exact⟨_,rfl⟩
 ·rw[if_neg a,if_neg a];exact⟨_,rfl⟩
theorem xiy(b:X.calm=true):xdy X (.builtin "min") (λxs H Q=>∃i j,xs=[.int i,.int j]/\Q (.int (if j<i then j else i)) H):=by
 intro pins s σ H xs us Q I r h;obtain⟨i,j,rfl,q⟩:=h;obtain⟨u,c,rfl,⟨t,rfl⟩,⟨t',rfl⟩⟩:=xrt r;refine min_two_ints (I.ok.hd b) λh' tk k=>⟨_,H,I.kept k,?_,q⟩;by_cases a:j<i
 ·rw[if_pos a,if_pos a];exact⟨_,rfl⟩
 ·rw[if_neg a,if_neg a];exact⟨_,rfl⟩
theorem xfu:xdy X (.type "int") (λxs H Q=>(∃i,xs=[.int i]/\Q (.int i) H)\/∃k,xs=[.bl k]/\Q (.int (if k then 1 else 0)) H):=by
 intro pins s σ H xs us Q I r h;rcases h with⟨i,rfl,q⟩ |⟨k,rfl,q⟩
 ·obtain⟨u,rfl,t,rfl⟩:=xfx r
  exact call_int_int ⟨.int i,H,I,⟨_,rfl⟩,q⟩
 ·obtain⟨u,rfl,a⟩:=xfx r
  cases a;exact call_int_bool ⟨.int (if k then 1 else 0),H,I.tok _,⟨_,rfl⟩,q⟩
end
structure ObjM(h:Heap)(x dx C:Addr)(mA:Str->Option Value):Prop where
 obj:h.get? x=some (PySem.W.instObj C dx)
 ns:h.Ns1 dx mA
 ne:dx≠x
theorem xnf{h:Heap}{dx:Addr}{mA:Str->Option Value}(n:h.Ns1 dx mA):∃od,h.get? dx=some od/\∀name,PySem.W.lookIn name od=some (mA name):=by
 obtain⟨o,es,ep,f,hd,i,_,g⟩:=n;refine⟨o,f,λname=>?_⟩;have e:=g name;unfold nsFind findBy at e;rw[<- Array.find?_toList]at e;unfold PySem.W.lookIn;rw[hd];dsimp only;split
 ·rename_i y q
  rw[q]at e;exact congrArg some e
 ·rename_i q
  rw[q]at e
  have a:es.toList.any (·.refKey)=false:=by
   rw[List.any_eq_false];intro y c;obtain⟨z,t,b⟩:=i y (Array.mem_toList_iff.mp c);simp[DictEntry.refKey,b]
  have j:¬es.toList.any (·.refKey)=true:=by rw[a];exact Bool.false_ne_true
  rw[if_neg j];exact congrArg some e
theorem ObjM.look{h:Heap}{x dx C:Addr}{mA:Str->Option Value}(I:ObjM h x dx C mA):∃od,PySem.W.InstAt h x (PySem.W.instObj C dx) C (some od)/\∀name,PySem.W.lookIn name od=some (mA name):=
 let ⟨od,a,b⟩:=xnf I.ns
 ⟨od,⟨I.obj,rfl,rfl,a⟩,b⟩
section
variable {prog:Program}{w:World}{A:Around}{E:Value->Shared->Prop}{s:Shared}{K:Fg}{x dx C f:Addr}{mA:Str->Option Value}{name:Str}{v:Value}
theorem xri {a:Bool} {Q:Value->Shared->Prop} (X:K.In s.heap) (I:ObjM s.heap x dx C mA) (g:PySem.W.plainGet K C name=true) (f:PySem.W.hasDictIn K C=true)
  (i:PySem.W.findIn K (.ref C) name=some none) (c:mA name=some v) (b:PySem.W.handedIn v=true) (h:Q v {s with toks:=s.toks+1}) :
  wpAny (model prog w) A (getAttr (.ref x) name a) Q E s:=by
 obtain⟨od,J,e⟩:=I.look;exact PySem.W.get_value X J (PySem.W.plainGet_of g).1 (PySem.W.findObj_own f i rfl (by rw[e,c])) b h
theorem xpb {pl:Sem Bool} {Q:Value×List Value->Shared->Prop} (X:K.In s.heap) (I:ObjM s.heap x dx C mA) (a:PySem.W.plainGet K C name=true)
  (g:PySem.W.findIn K (.ref C) name=some (some (.ref f))) (c:PySem.W.isFn K (.ref f)=true) (b:mA name=none) (h:Q (.ref f,[.ref x]) s) :
  wpAny (model prog w) A (getMethod (.ref x) name pl) Q E s:=by
 obtain⟨od,J,e⟩:=I.look;exact PySem.W.method_fn X J (PySem.W.plainGet_of a).1 (PySem.W.plainGet_of a).2 g (beq_iff_eq.mp c) (by show(PySem.W.lookIn name od).map (·.isSome)=some false;rw[e,b];rfl) h
theorem xqk {ns:List Str} {Q:Unit->Shared->Prop} (X:K.In s.heap) (I:ObjM s.heap x dx C mA)
  (hs:PySem.W.findIn K (.ref C) "__setattr__"=some (some (.builtin "object.__setattr__"))) (o:PySem.W.plainOver K C=true) (n:PySem.W.takerIn K C name=some none) (p:PySem.W.hasDictIn K C=true)
  (m:PySem.Within mA ns) (hsz:ns.length<=sizeLine)
  (h:∀h',ObjM h' x dx C (λy=>if y=name then some v else mA y)->Heap.SameBut dx s.heap h'->Q () {s with heap:=h',toks:=s.toks+2}) :
  wpAny (model prog w) A (setAttr (.ref x) name v) Q E s:=by
 obtain⟨od,J,O⟩:=I.look;refine PySem.W.set_plain X J hs (PySem.W.osa_open (s:={s with toks:=s.toks+1}) (r:=none) X J o n λb=>?_);obtain⟨U,u,i⟩:=PySem.W.any_some p;have l:s.heap.get? x=some ⟨.ref C,some dx,.plain,#[]⟩:=I.obj;refine wpAny_bind (wpAny_pure (wpAny_bind (wpAny_bind (wpAny_loadPart l (wpAny_bind (PySem.W.Looks.here (s:={s with toks:=s.toks+1}) (PySem.W.looks_clsIn X u) ?_))))));rw[i];refine wpAny_pure (a:=some dx) (wpAny_bind (wpAny_pure (wpAny_bind ?_)));refine wpAny_nsSet1 (s:={s with toks:=s.toks+1}) I.ns λh' e c=>?_;obtain⟨M,z,G,f,g,j⟩:=e.count (PySem.Within.cons name v m);refine wpAny_bind (wpAny_lookBehind f (by rw[g];exact pastItsLine_dict (Nat.le_trans j (by rw[List.length_cons];omega))) ?_);exact wpAny_pure (h _ ⟨(c.2 _ (Ne.symm I.ne)).trans I.obj,e,I.ne⟩ c)
theorem xo4 {R:Result->Shared->Prop} {vs:List Value} {kw:List (Str×Value)} (X:K.In s.heap) (hm:PySem.W.makesIn K C=true)
  (hi:PySem.W.findIn K (.ref C) "__init__"=some (some (.ref f))) (hf:PySem.W.typeIn K (.ref f)=some (.type "function"))
  (h:codeAny (model prog w) (A.under (.builtin "type.__call__" ⟨.ref C::vs,kw⟩)) (.call (.ref f) ⟨.ref (s.heap.objs.size+1)::vs,kw⟩) (PySem.W.InitBack (s.heap.objs.size+1) R)
   {s with heap:=(s.heap.push PySem.W.emptyDict).push (PySem.W.instObj C s.heap.objs.size)}) :
  codeAny (model prog w) A (.call (.ref C) ⟨vs,kw⟩) R s:=by
 obtain⟨hh,g,d,t,os⟩:=s;exact PySem.W.make_core (PySem.W.makes_of X hm) (PySem.W.looks_findIn X hi) (λself=>PySem.W.bind_fn X self hf) (.inl rfl) h
end
def putF(f:Str)(v:V):List (Str×V)->List (Str×V)
 |[]=>[(f,v)]
 |(g,x)::r=>if g=f then (g,v)::r else (g,x)::putF f v r
theorem xc1(f g:Str)(v:V):∀fs:List (Str×V),(putF f v fs).lookup g=if g=f then some v else fs.lookup g
 | []=>by
  show List.lookup g [(f,v)]=_;by_cases h:g=f
  ·have a:(g == f)=true:=beq_iff_eq.mpr h
   simp only[List.lookup,a,if_pos h]
  ·have a:(g == f)=false:=beq_eq_false_iff_ne.mpr h
   simp only[List.lookup,a,if_neg h]
 | (k,x)::r=>by
  have c:=xc1 f g v r;rw[show putF f v ((k,x)::r)=(if k=f then (k,v)::r else (k,x)::putF f v r) from rfl];by_cases b:k=f
  ·rw[if_pos b]
   by_cases h:g=k
   ·have a:(g == k)=true:=beq_iff_eq.mpr h
    simp only[List.lookup,a,if_pos (h.trans b)]
   ·have a:(g == k)=false:=beq_eq_false_iff_ne.mpr h
    simp only[List.lookup,a,if_neg (λe:g=f=>h (e.trans b.symm))]
  ·rw[if_neg b]
   by_cases h:g=k
   ·have a:(g == k)=true:=beq_iff_eq.mpr h
    simp only[List.lookup,a,if_neg (λe:g=f=>b (h.symm.trans e))]
   ·have a:(g == k)=false:=beq_eq_false_iff_ne.mpr h
    simp only[List.lookup,a];exact c
theorem xfn(f:Str)(v:V):∀fs:List (Str×V),f∈(putF f v fs).map (·.1)/\∀g,g∈fs.map (·.1)->g∈(putF f v fs).map (·.1)
 |[]=>⟨by simp[putF],λg h=>by simp at h⟩
 | (k,x)::r=>by
  obtain⟨c,b⟩:=xfn f v r;rw[show putF f v ((k,x)::r)=(if k=f then (k,v)::r else (k,x)::putF f v r) from rfl];by_cases a:k=f
  ·rw[if_pos a]
   subst a;exact⟨by simp,λg h=>by simpa using h⟩
  ·rw[if_neg a]
   refine⟨?_,λg h=>?_⟩
   ·rw[List.map_cons]
    exact List.mem_cons_of_mem _ c
   ·rw[List.map_cons]at h⊢
    rcases zMC h with e |e
    ·exact List.mem_cons.mpr (.inl e)
    ·exact List.mem_cons_of_mem _ (b g e)
theorem xbb(f:Str)(v:V):∀fs:List (Str×V),(putF f v fs).length<=fs.length+1
 |[]=>by simp[putF]
 |(k,x)::r=>by
  have b:=xbb f v r;rw[show putF f v ((k,x)::r)=(if k=f then (k,v)::r else (k,x)::putF f v r) from rfl];by_cases a:k=f
  ·rw[if_pos a,List.length_cons,List.length_cons];omega
  ·rw[if_neg a,List.length_cons,List.length_cons];omega
theorem RelO.some_of{v:V}{o:Option Value}(r:RelO (some v) o):∃u,o=some u/\RelV v u:=by
 cases o with
 |none=>exact(show False from r).elim
 |some u=>exact⟨u,rfl,r⟩
theorem RelO.none_of{o:Option Value}(r:RelO none o):o=none:=by
 cases o with
 |none=>rfl
 |some u=>exact(show False from r).elim
theorem xnr{v:V}{u:Value}(r:RelV v u):PySem.W.handedIn u=true:=by
 cases v with
 |non=>cases (show u=Value.none from r);rfl
 |bl b=>cases (show u=Value.bool b from r);rfl
 |int i=>obtain⟨t,e⟩:=(show ∃t,u=Value.int i t from r);cases e;rfl
 |str x=>obtain⟨t,e⟩:=(show ∃t,u=Value.str x t from r);cases e;rfl
 |byt b=>obtain⟨t,e⟩:=(show ∃t,u=Value.bytes b t from r);cases e;rfl
 |flt b=>obtain⟨t,e⟩:=(show ∃t,u=Value.float b t from r);cases e;rfl
 |ref a=>cases (show u=Value.ref a from r);rfl
 |ty n=>cases (show u=Value.type n from r);rfl
section
variable {P:Program}{w:World}{H H':Hp}{h h':Heap}{a C dx:Addr}{fs fs':List (Str×V)}
theorem xhd(b:HOk P w H h)(e:H a=some (.ins C dx fs)):∃mA,ObjM h a dx C mA/\(∀f,RelO (fs.lookup f) (mA f))/\PySem.Within mA (fs.map (·.1))/\fs.length<=1000/\H dx=some (.own a):=by
 obtain⟨d,z,ne,c,mA,n,r,q⟩:=(show ObjOk P w H h a (.ins C dx fs) from b a _ e);exact⟨mA,⟨c,n,ne⟩,r,q,z,d⟩
end
structure Cls(K:Fg)(C:Addr):Prop where
 pg:PySem.W.plainGet K C Str.empty=true
 hd:PySem.W.hasDictIn K C=true
 po:PySem.W.plainOver K C=true
 sa:PySem.W.findIn K (.ref C) "__setattr__"=some (some (.builtin "object.__setattr__"))
theorem Cls.get{K:Fg}{C:Addr}(c:Cls K C)(f:Str):PySem.W.plainGet K C f=true:=c.pg
def NoAttr(K:Fg)(C:Addr)(f:Str):Prop:=PySem.W.findIn K (.ref C) f=some none
theorem NoAttr.taker{K:Fg}{C:Addr}{f:Str}(n:NoAttr K C f):PySem.W.takerIn K C f=some none:=by
 unfold PySem.W.takerIn;rw[show PySem.W.findIn K (.ref C) f=some none from n];rfl
structure Meth(K:Fg)(C:Addr)(m:Str)(f:Addr):Prop where
 at_:PySem.W.findIn K (.ref C) m=some (some (.ref f))
 fn:PySem.W.isFn K (.ref f)=true
 kp:PySem.W.keepIn K (.ref f)=true
section
variable {X:Cx}{pins:List (Addr×Obj)}{σ:St}{H:Hp}{s:Shared}{a C dx:Addr}{fs:List (Str×V)}{f:Str}{v:V}{A:Around}{E:Value->Shared->Prop}
theorem xls {b:Bool} {Q:Value->Shared->Prop} (I:Inv X pins σ H s) (e:H a=some (.ins C dx fs)) (c:Cls X.K C) (n:NoAttr X.K C f) (l:fs.lookup f=some v)
  (h:∀u s',Inv X pins σ H s'->RelV v u->Q u s'):wpAny (model X.prog X.w) A (getAttr (.ref a) f b) Q E s:=by
 obtain⟨mA,O,r,_,_,_⟩:=xhd I.hok e;obtain⟨u,i,g⟩:=RelO.some_of (v:=v) (o:=mA f) (by rw[<- l];exact r f);exact xri I.kIn O (c.get f) c.hd n i (xnr g) (h u _ (I.tok _) g)
theorem xgl {m:Str} {g:Addr} {pl:Sem Bool} {Q:Value×List Value->Shared->Prop} (I:Inv X pins σ H s) (e:H a=some (.ins C dx fs)) (c:Cls X.K C) (k:Meth X.K C m g) (l:fs.lookup m=none)
  (h:Q (.ref g,[.ref a]) s):wpAny (model X.prog X.w) A (getMethod (.ref a) m pl) Q E s:=by
 obtain⟨mA,O,r,_,_,_⟩:=xhd I.hok e;have hn:mA m=none:=RelO.none_of (by rw[<- l];exact r m);exact xpb I.kIn O (c.get m) k.at_ k.fn hn h
theorem xlf {y:V} {u:Value} {Q:Unit->Shared->Prop} (I:Inv X pins σ H s) (e:H a=some (.ins C dx fs)) (c:Cls X.K C) (n:NoAttr X.K C f) (U:fs.length<1000) (p:RelV y u)
  (h:∀s',Inv X pins σ (upd H a (.ins C dx (putF f y fs))) s'->Q () s'):wpAny (model X.prog X.w) A (setAttr (.ref a) f u) Q E s:=by
 obtain⟨mA,O,r,j,_,l⟩:=xhd I.hok e;have hz:(fs.map (·.1)).length<=sizeLine:=by rw[zLM,sizeLine_eq];omega
 refine xqk I.kIn O c.sa c.po n.taker c.hd j hz λh' i m=>h _ ?_;have hd:∃o,h'.get? dx=some o:=let ⟨o,_,_,M,_⟩:=i.ns;⟨o,M⟩;refine I.write (x:=a) (e:=dx) (by rw[e];exact True.intro) (.inr l) (λb q J z=>(m.2 b J).trans z) hd ?_;refine⟨by rw[xao O.ne];exact l,?_,O.ne,i.obj,_,i.ns,λg=>?_,λg G=>?_⟩
 ·have:=xbb f y fs;omega
 ·show RelO ((putF f y fs).lookup g) (if g=f then some u else mA g)
  rw[xc1];by_cases q:g=f
  ·rw[if_pos q,if_pos q];exact p
  ·rw[if_neg q,if_neg q];exact r g
 ·by_cases q:g=f
  ·rw[q];exact(xfn f y fs).1
  ·refine(xfn f y fs).2 g (j g λz=>G ?_)
   show(if g=f then some u else mA g)=none;rw[if_neg q];exact z
theorem Inv.made (I:Inv X pins σ H s):Inv X pins σ (upd (upd H s.heap.objs.size (.own (s.heap.objs.size+1))) (s.heap.objs.size+1) (.ins C s.heap.objs.size []))
  {s with heap:=(s.heap.push PySem.W.emptyDict).push (PySem.W.instObj C s.heap.objs.size)}:=by
 have e1:(s.heap.push PySem.W.emptyDict).get? s.heap.objs.size=some PySem.W.emptyDict:=Heap.get?_push_size s.heap rfl
 have e2:((s.heap.push PySem.W.emptyDict).push (PySem.W.instObj C s.heap.objs.size)).get? (s.heap.objs.size+1)=some (PySem.W.instObj C s.heap.objs.size):=by
  have:=Heap.get?_push_size (s.heap.push PySem.W.emptyDict) (o:=PySem.W.instObj C s.heap.objs.size) rfl
  rwa[Heap.size_push]at this
 have e3:(s.heap.push PySem.W.emptyDict).Ns s.heap.objs.size (λ_=>none):=⟨PySem.W.emptyDict,#[],_,e1,rfl,(λe he=>absurd he (by simp)),λ_=>rfl⟩;have I1:=I.laid (a:=s.heap.objs.size) (o:=.own (s.heap.objs.size+1)) (h':=s.heap.push PySem.W.emptyDict) (t':=s.toks) (λb u q=>zPO _ q) (Nat.le_refl _) ⟨_,e1⟩;refine I1.laid (a:=s.heap.objs.size+1) (o:=.ins C s.heap.objs.size []) (t':=s.toks) (λb u q=>zPO _ q) (Nat.le_of_eq (Heap.size_push _ _)) ?_;have ne:s.heap.objs.size≠s.heap.objs.size+1:=Nat.ne_of_lt (Nat.lt_succ_self _);refine⟨by rw[xao ne,ups],Nat.zero_le _,ne,e2,λ_=>none,(Heap.Ns1.of_empty e3).at λo q=>zPO _ q,λ_=>True.intro,λy hy=>absurd rfl hy⟩
theorem xrs {prog:Program} {w:World} {env:Env} {e:Expr} {f:Str} {pos:Pos} {s:Shared} {Q:Value->Shared->Prop} (hb:attributeBase e f env (eval e env)=eval e env)
  (h:wpAny (model prog w) A (eval e env) (λo s₁=>wpAny (model prog w) A (getAttr o f true) Q E s₁) E s):wpAny (model prog w) A (eval (.Attribute e f pos) env) Q E s:=
 Attribute_any_ h (by rw[arm_eval_Attribute,hb])
end
def tFld(K:Fg)(ta:TE)(f:Str):TE:=λσ H Q=>ta σ H λx H1=>∃a C dx fs v,x=.ref a/\H1 a=some (.ins C dx fs)/\Cls K C/\NoAttr K C f/\fs.lookup f=some v/\Q v H1
def sFld(K:Fg)(ta tv:TE)(f:Str):TS:=λD σ H=>tv σ H λy H1=>ta σ H1 λx H2=>∃a C dx fs,x=.ref a/\H2 a=some (.ins C dx fs)/\Cls K C/\NoAttr K C f/\fs.length<1000 ∧
 D.nx σ (upd H2 a (.ins C dx (putF f y fs)))
section
variable {X:Cx}{o e value:Expr}{f:Str}{pos pos' tpos:Pos}{ta tv:TE}
theorem xcq(i:PE X e ta)(j:attributeBase e f X.env (eval e X.env)=eval e X.env):PE X (.Attribute e f pos) (tFld X.K ta f):=by
 intro pins s σ H Q I h;refine xrs j (thn (i pins s σ H _ I h) λu y ⟨x,H1,p,b,a,C,dx,fs,v,ex,m,c,n,l,q⟩=>?_);subst ex;obtain rfl:u=Value.ref a:=b;exact xls p m c n l λr w o g=>⟨v,H1,o,g,q⟩
theorem xh0(p:PE X o ta)(m:PE X value tv)(hs:swapsWith value (some (.Attribute o f pos')) pos.line X.env=pure false):PS X (.Assign [.Attribute o f pos'] value pos) (sFld X.K ta tv f):=by
 intro pins s σ H D I h;refine plainObj_wpAny_Assign_Attribute (thn (m pins s σ H _ I h) λu b ⟨y,H1,G,e,q⟩=>thn (p pins b σ H1 _ G q) λj M ⟨x,H2,z,g,a,C,dx,fs,ex,r,c,n,l,i⟩=>?_) hs;subst ex;obtain rfl:j=Value.ref a:=g;exact xlf z r c n l e λJ w=>⟨σ,_,w,i⟩
end
section
variable {X:Cx}{pins:List (Addr×Obj)}{σ:St}{H:Hp}{s:Shared}{A:Around}{E:Value->Shared->Prop}{Q:Value->Shared->Prop}{c:Value}{b:Bool}
inductive TyOf(K:Fg)(H:Hp):V->Value->Prop where
 |non:TyOf K H .non (.type "NoneType")
 |bl (x:Bool):TyOf K H (.bl x) (.type "bool")
 |int (i:Int):TyOf K H (.int i) (.type "int")
 |str (x:Str):TyOf K H (.str x) (.type "str")
 |flt (x:UInt64):TyOf K H (.flt x) (.type "float")
 |lst {a:Addr} {xs:List V} (e:H a=some (.lst xs)):TyOf K H (.ref a) (.type "list")
 |frz {a:Addr} {o:Obj} {xs:List V} (e:H a=some (.frz o (.lst xs))):TyOf K H (.ref a) (.type "list")
 |tup {a:Addr} {xs:List V} (e:H a=some (.tup xs)):TyOf K H (.ref a) (.type "tuple")
 |dK {a:Addr} {kvs:List (Key×V)} (e:H a=some (.dK kvs)):TyOf K H (.ref a) (.type "dict")
 |dT {a:Addr} {kvs:List (List Key×V)} (e:H a=some (.dT kvs)):TyOf K H (.ref a) (.type "dict")
 | ins {a C dx:Addr} {fs:List (Str×V)} (e:H a=some (.ins C dx fs)) (cl:Cls K C) (ha:PySem.W.findIn K (.ref C) "__class__"=some (some (.builtin "object.__class__")))
   (hn:PySem.W.specialIn K (.builtin "object.__class__") "__get__"=some (some (.builtin "getset_descriptor.__get__"))) (htk:PySem.W.takesIn K (.builtin "object.__class__")=some true)
   (hm:PySem.W.mroIn K C (.type "object")=some true):TyOf K H (.ref a) (.ref C)
theorem xnn {x:V} {u t:Value} (I:Inv X pins σ H s) (rx:RelV x u) (ty:TyOf X.K H x t) (e:PySem.W.kitOne X.K t c=some b) (h:∀tk,Q (.bool b) {s with toks:=tk}) :
  wpAny (model X.prog X.w) A (call (.builtin "isinstance") [u,c]) Q E s:=by
 cases ty with
 |non=>cases (show u=Value.none from rx);exact PySem.W.kia_one PySem.W.kitx_none I.kIn True.intro e (λz=>nomatch z) h
 |bl y=>cases (show u=Value.bool y from rx);exact PySem.W.kia_one PySem.W.kitx_bool I.kIn True.intro e (λz=>nomatch z) h
 |int i=>obtain⟨t,q⟩:=(show ∃t,u=Value.int i t from rx);cases q;exact PySem.W.kia_one PySem.W.kitx_int I.kIn True.intro e (λz=>nomatch z) h
 |str y=>obtain⟨t,q⟩:=(show ∃t,u=Value.str y t from rx);cases q;exact PySem.W.kia_one PySem.W.kitx_str I.kIn True.intro e (λz=>nomatch z) h
 |flt y=>obtain⟨t,q⟩:=(show ∃t,u=Value.float y t from rx);cases q;exact PySem.W.kia_one PySem.W.kitx_float I.kIn True.intro e (λz=>nomatch z) h
 |@lst a xs ea=>
  cases (show u=Value.ref a from rx);obtain⟨_,_,n,_,h1⟩:=(show ObjOk X.prog X.w H s.heap a (.lst xs) from I.hok a _ ea);exact PySem.W.kia_one PySem.W.kitx_list I.kIn ⟨_,h1,rfl⟩ e (λz=>nomatch z) h
 |@frz a ob xs ea=>
  cases (show u=Value.ref a from rx);obtain⟨_,_,_,n,_,h1⟩:=(show ObjOk X.prog X.w H s.heap a (.frz ob (.lst xs)) from I.hok a _ ea);exact PySem.W.kia_one PySem.W.kitx_list I.kIn ⟨_,h1,rfl⟩ e (λz=>nomatch z) h
 |@tup a xs ea=>
  cases (show u=Value.ref a from rx);obtain⟨_,_,_,p⟩:=(show ObjOk X.prog X.w H s.heap a (.tup xs) from I.hok a _ ea);obtain⟨o,h1,h2,_⟩:=p;exact PySem.W.kia_one PySem.W.kitx_tuple I.kIn ⟨o,h1,h2⟩ e (λz=>nomatch z) h
 |@dK a kvs ea=>
  cases (show u=Value.ref a from rx);obtain⟨_,_,vs,_,p⟩:=(show ObjOk X.prog X.w H s.heap a (.dK kvs) from I.hok a _ ea);obtain⟨o,es,ep,h1,h2,_⟩:=p;exact PySem.W.kia_one PySem.W.kitx_dict I.kIn ⟨o,h1,h2.1⟩ e (λz=>nomatch z) h
 |@dT a kvs ea=>
  cases (show u=Value.ref a from rx);obtain⟨_,_,xs,_,o,es,ep,h1,h2,_⟩:=(show ObjOk X.prog X.w H s.heap a (.dT kvs) from I.hok a _ ea);exact PySem.W.kia_one PySem.W.kitx_dict I.kIn ⟨o,h1,h2.1⟩ e (λz=>nomatch z) h
 |@ins a C dx fs ea cl ha hn htk hm=>
  cases (show u=Value.ref a from rx);obtain⟨mA,O,_⟩:=xhd I.hok ea;obtain⟨od,J,_⟩:=O.look;exact PySem.W.kia_one (PySem.W.kitx_own (cl.get _) cl.hd ha hn htk hm) I.kIn J e (λz=>nomatch z) h
end
structure Room(k:Nat)(A:Around):Prop where
 hd:A.handled=none
 dp:A.depth+3*k+5<recursionLimit
 un:A.units+16*k+200<cLine
theorem Room.mono{j k:Nat}{A:Around}(r:Room k A)(h:j<=k):Room j A:=⟨r.hd,by have:=r.dp;omega,by have:=r.un;omega⟩
theorem Room.deeper{k:Nat}{A:Around}(r:Room (k+1) A)(env:Env):Room k (A.deeper env):=
 ⟨r.hd,by have:=r.dp;show A.depth+1+3*k+5<_;omega,by have:=r.un;show A.units+3+16*k+200<_;omega⟩
theorem xlq{A:Around}{C:Addr}{us:List Value}{kw:List (Str×Value)}:(A.under (.builtin "type.__call__" ⟨.ref C::us,kw⟩)).depth=A.depth+1:=by
 first |rfl |simp[Around.under,Code.weight,Code.isCreation,Code.isGuard,Code.isCaller,Code.frames,Code.isFrame,guardIds]
theorem xlp{A:Around}{C:Addr}{us:List Value}{kw:List (Str×Value)}:(A.under (.builtin "type.__call__" ⟨.ref C::us,kw⟩)).units=A.units+1:=by
 first |rfl |simp[Around.under,Code.cUnits,Code.frames,Code.isFrame]
theorem Room.make{k:Nat}{A:Around}(r:Room (k+1) A)(C:Addr)(us:List Value)(kw:List (Str×Value)):Room k (A.under (.builtin "type.__call__" ⟨.ref C::us,kw⟩)):=
 ⟨r.hd,by have:=r.dp;rw[xlq];omega,by have:=r.un;rw[xlp];omega⟩
theorem Room.depth{k:Nat}{A:Around}(r:Room k A):A.depth<recursionLimit:=by have:=r.dp;omega
theorem Room.units{k:Nat}{A:Around}(r:Room k A):A.units+64<cLine:=by have:=r.un;omega
def tNil:TA:=λ_ H Q=>Q [] H
def xqe(ta:TE)(tr:TA):TA:=λσ H Q=>ta σ H λx H1=>tr σ H1 λxs H2=>Q (x::xs) H2
section
variable {X:Cx}{e:Expr}{es:List Expr}{te:TE}{t:TA}{pos:Pos}
theorem pN:PA X [] tNil:=λ_ _ _ _ H Q I h=>Calls.spliced_nil ⟨[],H,I,.nil,h⟩
theorem pc(j:PE X e te)(i:PA X es t)(hs:starEach (e::es) X.env=(false,eval e X.env)::starEach es X.env:=by rfl):PA X (e::es) (xqe te t):=by
 intro pos pins s σ H Q I h;rw[hs];show wpAny _ _ (spliced ((false,eval e X.env)::backTo pos (starEach es X.env))) _ _ s;refine Calls.spliced_cons (thn (j pins s σ H _ I h) λu a ⟨x,H1,m,c,g⟩=>?_);exact thn (i pos pins a σ H1 _ m g) λus n ⟨xs,H2,l,b,f⟩=>⟨x::xs,H2,l,.cons c b,f⟩
def tTup(t:TA):TE:=λσ H Q=>t σ H λxs H1=>xs.length<=sizeLine/\∀p,H1 p=none->Q (.ref p) (upd H1 p (.tup xs))
def tLst(t:TA):TE:=λσ H Q=>t σ H λxs H1=>xs.length<=sizeLine/\∀p,H1 p=none->Q (.ref p) (upd H1 p (.lst xs))
theorem xau{f}(h:PA X es t):PE X (.Tuple es f pos) (tTup t):=by
 intro pins s σ H Q I g;refine wpAny_Tuple_spliced (thn (h pos pins s σ H _ I g) λus a ⟨xs,H1,c,r,z,q⟩=>⟨by rw[<- r.length];exact z,?_⟩);have i:H1 a.heap.objs.size=none:=c.hok.fresh (Nat.le_refl _);refine⟨.ref a.heap.objs.size,upd H1 a.heap.objs.size (.tup xs),c.laid (t':=a.toks) (λb u e=>zPO _ e) (Nat.le_refl _) ?_,rfl,q _ i⟩;exact⟨z,us,r,⟨_,Heap.get?_push_size _ rfl,rfl,_,rfl,rfl⟩⟩
theorem xcb(h:PA X es t):PE X (.List es pos) (tLst t):=by
 intro pins s σ H Q I f;refine wpAny_List_spliced (thn (h pos pins s σ H _ I f) λus a ⟨xs,H1,c,r,z,q⟩=>⟨by rw[<- r.length];exact z,?_⟩);have g:H1 a.heap.objs.size=none:=c.hok.fresh (Nat.le_refl _);refine⟨.ref a.heap.objs.size,upd H1 a.heap.objs.size (.lst xs),c.laid (t':=a.toks) (λb u e=>zPO _ e) (Nat.le_refl _) ?_,rfl,q _ g⟩;exact⟨z,us,0,r,Heap.get?_push_size _ rfl⟩
end
abbrev Sp:=List V->Hp->VK->XK->Prop
abbrev CXT:=List Env->Hp->Shared->XK->Value->Shared->Prop
structure Env0(P:Program)(w:World)(K:Fg)(mg:Str->Option Value)(base:Heap)(A:Around)(outer:List Env)(s:Shared)(H:Hp):Prop where
 frames:A.frames=some outer
 mod:Mod K mg base
 bs:∀b o,base.get? b=some o->s.heap.get? b=some o/\H b=none
 bsz:base.objs.size<=s.heap.objs.size
 funs:s.heap.FunFrames base outer
 frf:∀b∈frs outer,H b=none
 hok:HOk P w H s.heap
 bare:AllBare s.gens
def CE(outer:List Env)(P:Program)(w:World)(H:Hp)(s:Shared)(Q:VK)(u:Value)(s':Shared):Prop:=
 ∃v H',s'.os=s.os/\AllBare s'.gens/\Un (frs outer) [] H H' s.heap s'.heap/\HOk P w H' s'.heap/\RelV v u/\Q v H'
def CR(CX:CXT)(outer:List Env)(P:Program)(w:World)(H:Hp)(s:Shared)(Q:VK)(E:XK)(r:Result)(s':Shared):Prop:=
 match r with
 |.ok (.ret u)=>CE outer P w H s Q u s'
 |.ok _=>False
 |.error e=>CX outer H s E e s'
structure FnOk(P:Program)(w:World)(K:Fg)(mg:Str->Option Value)(base:Heap)(CX:CXT)(k:Nat)(f:Addr)(fd:FuncData)(ps:List Str)(sp:Sp):Prop where
 len:∀vs H Q E,sp vs H Q E->vs.length=ps.length
 run:∀(A:Around) (outer:List Env) (s:Shared) (H:Hp) (args:Args) (us:List Value) (vs:List V) (Q:VK) (E:XK),Room k A->Env0 P w K mg base A outer s H->BindsTo s fd args (ps.zip us)->Vals vs us->sp vs H Q E->
  codeAny (model P w) A (.call (.ref f) args) (CR CX outer P w H s Q E) s
theorem FnOk.mono {P:Program} {w:World} {K:Fg} {mg:Str->Option Value} {base:Heap} {CX:CXT} {j k:Nat} {f:Addr} {fd:FuncData} {ps:List Str} {sp:Sp} (F:FnOk P w K mg base CX j f fd ps sp) (h:j<=k) :
  FnOk P w K mg base CX k f fd ps sp:=⟨F.len,λA outer s H args us vs Q E a=>F.run A outer s H args us vs Q E (a.mono h)⟩
theorem FnOk.imp {P:Program} {w:World} {K:Fg} {mg:Str->Option Value} {base:Heap} {CX:CXT} {k:Nat} {f:Addr} {fd:FuncData} {ps:List Str} {sp sp':Sp} (F:FnOk P w K mg base CX k f fd ps sp)
  (h:∀vs H Q E,sp' vs H Q E->sp vs H Q E):FnOk P w K mg base CX k f fd ps sp':=
 ⟨λvs H Q E q=>F.len vs H Q E (h _ _ _ _ q),λA outer s H args us vs Q E hr he hb hv hs=>F.run A outer s H args us vs Q E hr he hb hv (h _ _ _ _ hs)⟩
theorem Env0.make {P:Program} {w:World} {K:Fg} {mg:Str->Option Value} {base:Heap} {A:Around} {outer:List Env} {s:Shared} {H:Hp} (e:Env0 P w K mg base A outer s H) (C:Addr) (us:List Value) (kw:List (Str×Value)) :
  Env0 P w K mg base (A.under (.builtin "type.__call__" ⟨.ref C::us,kw⟩)) outer s H:=⟨by first |exact e.frames |(simpa[Around.under,Code.envs,Code.isFrame,pushEnvs] using e.frames),e.mod,e.bs,e.bsz,e.funs,e.frf,e.hok,e.bare⟩
section
variable {X:Cx}{pins:List (Addr×Obj)}{σ:St}{H:Hp}{s s':Shared}
theorem Inv.env0(I:Inv X pins σ H s):Env0 X.prog X.w X.K X.mg X.base X.A X.stack s H:=
 ⟨I.ok.frames,I.ok.mod,I.bs,Nat.le_trans I.ok.bsz I.sz,I.stack,I.stkFree,I.hok,I.bare⟩
theorem Inv.after{Q:VK}{u:Value}(I:Inv X pins σ H s)(h:CE X.stack X.prog X.w H s Q u s'):EP X pins σ Q u s':=by
 obtain⟨v,H',os,bare,un,hok,r,q⟩:=h;obtain⟨hh,g,d,t,os'⟩:=s';obtain rfl:os'=s.os:=os;exact⟨v,H',I.call (h':=hh) (g':=g) (d':=d) (t':=t) (ch:=[]) un hok bare (λb z=>absurd z (by simp)),r,q⟩
end
def xqf(sp:Sp)(dvs:List V)(E:XK)(t:TA):TE:=λσ H Q=>t σ H λvs H1=>sp (vs++dvs) H1 Q E
def xoc(C:Addr)(m:Str)(sp:Sp)(dvs:List V)(E:XK)(ta:TE)(t:TA):TE:=λσ H Q=>ta σ H λx H1=>∃a dx fs,x=.ref a/\H1 a=some (.ins C dx fs)/\fs.lookup m=none ∧
 t σ H1 λvs H2=>sp (x::(vs++dvs)) H2 Q E
def xr4(C:Addr)(sp:Sp)(dvs:List V)(E:XK)(t:TA):TE:=λσ H Q=>t σ H λvs H1=>∀x dx,H1 x=none->H1 dx=none->dx≠x->
 sp (.ref x::(vs++dvs)) (upd (upd H1 dx (.own x)) x (.ins C dx [])) (λv H2=>v=.non/\Q (.ref x) H2) E
def Binds(K:Fg)(fd:FuncData)(ps:List Str)(ds:List Value):Prop:=
 ∀(s:Shared) (us:List Value),K.In s.heap->(us++ds).length=ps.length->BindsTo s fd ⟨us,[]⟩ (ps.zip (us++ds))
theorem Binds.all{K:Fg}{fd:FuncData}{ps:List Str}(h:∀us:List Value,us.length=ps.length->bindArgs fd ⟨us,[]⟩=pure (ps.zip us)):Binds K fd ps []:=λs us _ hl=>by
 rw[List.append_nil]at hl⊢;exact .of_eq (h us hl)
def xfv(CX:CXT)(X:Cx)(E:XK):Prop:=∀(pins:List (Addr×Obj)) (σ:St) (H:Hp) (s:Shared) (e:Value) (s':Shared),Inv X pins σ H s->CX X.stack H s E e s'->X.xe e s'
section
variable {X:Cx}{CX:CXT}{k:Nat}{f C:Addr}{fd:FuncData}{ps:List Str}{sp:Sp}{dvs:List V}{ds:List Value}{E:XK}{x m:Str}{p pos apos:Pos}{e o:Expr}{es:List Expr}{ta:TE}{t:TA}
theorem xkn {pins:List (Addr×Obj)} {σ:St} {H:Hp} {s:Shared} {Q:VK} {us:List Value} {vs:List V} (F:FnOk X.prog X.w X.K X.mg X.base CX k f fd ps sp) (hr:Room k X.A) (hb:Binds X.K fd ps ds) (hd:Vals dvs ds) (hx:xfv CX X E)
  (I:Inv X pins σ H s) (r:Vals vs us) (h:sp (vs++dvs) H Q E):wpAny (model X.prog X.w) X.A (call (.ref f) us) (EP X pins σ Q) X.xe s:=by
 have r2:Vals (vs++dvs) (us++ds):=r.append hd;have hl:(us++ds).length=ps.length:=by rw[<- r2.length];exact F.len _ _ _ _ h
 refine wpAny_call (codeAny_mono (F.run X.A X.stack s H ⟨us,[]⟩ (us++ds) (vs++dvs) Q E hr I.env0 (hb s us I.kIn hl) r2 h) λr s' hq=>?_)
 cases r with
 |error e=>exact hx pins σ H s e s' I hq
 |ok fl=>
  cases fl with
  |ret u=>exact I.after hq
  |next=>exact False.elim hq
  |brk=>exact False.elim hq
  |cont=>exact False.elim hq
theorem xqs (F:FnOk X.prog X.w X.K X.mg X.base CX k f fd ps sp) (i:Room k X.A) (m:Gl X x) (j:X.mg x=some (.ref f)) (l:PySem.W.keepIn X.K (.ref f)=true) (o:Binds X.K fd ps ds) (hd:Vals dvs ds) (g:xfv CX X E)
  (u:PA X (e::es) t) (b:(x == ("__debug__":Str))=false:=by decide) (n:starEach (e::es) X.env=(false,eval e X.env)::starEach es X.env:=by rfl) (a:(backTo pos (starEach es X.env)).any (·.1)=false:=by rfl) :
  PE X (.Call (.Name x p) (e::es) [] pos) (xqf sp dvs E t):=by
 intro pins s σ H Q I h;refine wpAny_Call_Name_kw (xhc I m j ?_ b);refine PySem.W.callWith_K (h₀:=X.base) I.ok.mod.kin l (thn (u pos pins s σ H _ I h) λus y ⟨vs,H1,c,r,q⟩=>⟨c.kIn,?_⟩) n a;exact xkn F i o hd g c r q
theorem xqp {pl:Sem Bool} (he:PE X o ta) (c:Cls X.K C) (hm:Meth X.K C m f) (F:FnOk X.prog X.w X.K X.mg X.base CX k f fd ps sp) (hr:Room k X.A) (hb:Binds X.K fd ps ds) (hd:Vals dvs ds) (hx:xfv CX X E) (ha:PA X (e::es) t)
  (hst:starEach (e::es) X.env=(false,eval e X.env)::starEach es X.env:=by rfl) (hpl:(backTo pos (starEach es X.env)).any (·.1)=false:=by rfl)
  (ht:eval (.Call (.Attribute o m apos) (e::es) [] pos) X.env=(do
   let ov <- eval o X.env
   standAt apos.atName
   let (f,first) <- holding [ov] (getMethod ov m pl)
   callWith pos f first (backTo pos (starEach (e::es) X.env)) (backToKw pos (keywordEach [] X.env))):=by rfl) :
  PE X (.Call (.Attribute o m apos) (e::es) [] pos) (xoc C m sp dvs E ta t):=by
 intro pins s σ H Q I h;refine PySem.W.methodCall_KW (pl:=pl) (thn (he pins s σ H _ I h) λu s1 ⟨x,H1,I1,rx,a,dx,fs,ex,ea,l,q⟩=>?_) ht;subst ex;obtain rfl:u=Value.ref a:=rx;refine xgl I1 ea c hm l ?_;refine PySem.W.callWith_K (first:=[.ref a]) (h₀:=X.base) I.ok.mod.kin hm.kp (thn (ha pos pins s1 σ H1 _ I1 q) λus s2 ⟨vs,H2,I2,r,q2⟩=>⟨I2.kIn,?_⟩) hst hpl;exact xkn (us:=.ref a::us) (vs:=.ref a::vs) F hr hb hd hx I2 (.cons rfl r) q2
theorem xom {pl:Sem Bool} (he:PE X o ta) (c:Cls X.K C) (hm:Meth X.K C m f) (F:FnOk X.prog X.w X.K X.mg X.base CX k f fd ps sp) (hr:Room k X.A) (hb:Binds X.K fd ps ds) (hd:Vals dvs ds) (hx:xfv CX X E)
  (ht:eval (.Call (.Attribute o m apos) [] [] pos) X.env=(do
   let ov <- eval o X.env
   standAt apos.atName
   let (f,first) <- holding [ov] (getMethod ov m pl)
   callWith pos f first (backTo pos (starEach [] X.env)) (backToKw pos (keywordEach [] X.env))):=by rfl) :
  PE X (.Call (.Attribute o m apos) [] [] pos) (xoc C m sp dvs E ta tNil):=by
 intro pins s σ H Q I h;refine PySem.W.methodCall_KW (pl:=pl) (thn (he pins s σ H _ I h) λu s1 ⟨x,H1,I1,rx,a,dx,fs,ex,ea,l,q⟩=>?_) ht;subst ex;obtain rfl:u=Value.ref a:=rx;refine xgl I1 ea c hm l ?_;exact PySem.W.callWith_K0 (first:=[.ref a]) I1.kIn hm.kp (xkn (us:=[.ref a]) (vs:=[.ref a]) F hr hb hd hx I1 (.cons rfl .nil) q)
structure Mk(K:Fg)(C f:Addr):Prop where
 makes:PySem.W.makesIn K C=true
 init:PySem.W.findIn K (.ref C) "__init__"=some (some (.ref f))
 fn:PySem.W.isFn K (.ref f)=true
 kp:PySem.W.keepIn K (.ref C)=true
theorem xoi {pins:List (Addr×Obj)} {σ:St} {H:Hp} {s:Shared} {Q:VK} {us:List Value} {vs:List V} (M:Mk X.K C f) (F:FnOk X.prog X.w X.K X.mg X.base CX k f fd ps sp) (m:Room (k+1) X.A) (o:Binds X.K fd ps ds) (hd:Vals dvs ds)
  (l:xfv CX X E) (I:Inv X pins σ H s) (r:Vals vs us)
  (h:∀x dx,H x=none->H dx=none->dx≠x->sp (.ref x::(vs++dvs)) (upd (upd H dx (.own x)) x (.ins C dx [])) (λv H2=>v=.non/\Q (.ref x) H2) E) :
  wpAny (model X.prog X.w) X.A (call (.ref C) us) (EP X pins σ Q) X.xe s:=by
 have g:=h (s.heap.objs.size+1) s.heap.objs.size (I.hok.fresh (Nat.le_succ _)) (I.hok.fresh (Nat.le_refl _)) (Nat.ne_of_lt (Nat.lt_succ_self _));have b:=Inv.made (C:=C) I;have c:Vals (V.ref (s.heap.objs.size+1)::(vs++dvs)) (Value.ref (s.heap.objs.size+1)::(us++ds)):=.cons rfl (r.append hd)
 have n:(Value.ref (s.heap.objs.size+1)::us++ds).length=ps.length:=by
  have e:=c.length;rw[F.len _ _ _ _ g]at e;exact e.symm
 refine wpAny_call (xo4 (f:=f) I.kIn M.makes M.init (beq_iff_eq.mp M.fn) (codeAny_mono (F.run _ X.stack _ _ ⟨Value.ref (s.heap.objs.size+1)::us,[]⟩ (Value.ref (s.heap.objs.size+1)::(us++ds)) _ _ E (m.make C us [])
  (b.env0.make C us []) (o _ (Value.ref (s.heap.objs.size+1)::us) b.kIn n) c g) λr s' a=>?_))
 cases r with
 |error e=>exact l pins σ _ _ e s' b a
 | ok p=>
  cases p with
  |ret u=>
   obtain⟨v,H',z,i,y,j⟩:=b.after a;subst y;exact⟨i,⟨V.ref (s.heap.objs.size+1),H',z,rfl,j⟩⟩
  |next=>exact False.elim a
  |brk=>exact False.elim a
  |cont=>exact False.elim a
theorem xqq (M:Mk X.K C f) (F:FnOk X.prog X.w X.K X.mg X.base CX k f fd ps sp) (i:Room (k+1) X.A) (l:Gl X x) (j:X.mg x=some (.ref C)) (n:Binds X.K fd ps ds) (hd:Vals dvs ds) (g:xfv CX X E)
  (o:PA X (e::es) t) (b:(x == ("__debug__":Str))=false:=by decide) (m:starEach (e::es) X.env=(false,eval e X.env)::starEach es X.env:=by rfl) (a:(backTo pos (starEach es X.env)).any (·.1)=false:=by rfl) :
  PE X (.Call (.Name x p) (e::es) [] pos) (xr4 C sp dvs E t):=by
 intro pins s σ H Q I h;refine wpAny_Call_Name_kw (xhc I l j ?_ b);refine PySem.W.callWith_K (h₀:=X.base) I.ok.mod.kin M.kp (thn (o pos pins s σ H _ I h) λus u ⟨vs,H1,c,r,q⟩=>⟨c.kIn,?_⟩) m a;exact xoi M F i n hd g c r q
end
structure FnScope(N P:List Str)(sc:Scope):Prop where
 kind:sc.kind=.function
 co:sc.isCoroutine=false
 gen:sc.isGenerator=false
 nd:N.Nodup
 pre:N.take P.length=P
 par:∀x∈P,sc.names.lookup x=some .local\/sc.names.lookup x=some .cell
 nofree:∀y∈sc.names,y.2≠.free
theorem xi0{a:Str->Option NameKind}{x:Str}:∀{binds:List (Str×Value)} {m:Str->Option Value},(∀v,(x,v) ∉binds)->bindL a binds m x=m x
 |[],_,_=>rfl
 | (n,v)::r,m,h=>by
  unfold bindL;rw[xi0 λw b=>h w (List.mem_cons_of_mem _ b)];split
  ·have:x≠n:=by rintro rfl;exact h v List.mem_cons_self
   simp[this]
  ·rfl
theorem xi2{a:Str->Option NameKind}{x:Str}:∀{binds:List (Str×Value)} {m:Str->Option Value},(∀v,(x,v) ∉binds)->bindC a binds m x=m x
 |[],_,_=>rfl
 | (n,v)::r,m,h=>by
  unfold bindC;rw[xi2 λw b=>h w (List.mem_cons_of_mem _ b)];split
  ·rfl
  ·have:x≠n:=by rintro rfl;exact h v List.mem_cons_self
   simp[this]
theorem xi1 {a:Str->Option NameKind} {x:Str} {v:Value}:∀{P:List Str} {vs:List Value} {i:Nat} {m:Str->Option Value},P.Nodup->P[i]?=some x->vs[i]?=some v->a x=some .local->
  bindL a (P.zip vs) m x=some v
 |[],_,_,_,_,h,_,_=>by simp at h
 |_::_,[],_,_,_,_,h,_=>by simp at h
 |p::P,w::vs,0,m,nd,h1,h2,b=>by
  simp at h1 h2;subst h1;subst h2;show bindL a ((p,w)::P.zip vs) m p=_;unfold bindL;rw[xi0 λv c=>(List.nodup_cons.mp nd).1 (List.of_mem_zip c).1,if_pos b];simp
 |p::P,w::vs,i+1,m,nd,h1,h2,b=>by
  show bindL a ((p,w)::P.zip vs) m x=_;unfold bindL;exact xi1 (i:=i) (List.nodup_cons.mp nd).2 (by simpa using h1) (by simpa using h2) b
theorem xi3 {a:Str->Option NameKind} {x:Str} {v:Value}:∀{P:List Str} {vs:List Value} {i:Nat} {m:Str->Option Value},P.Nodup->P[i]?=some x->vs[i]?=some v->a x≠some .local->
  bindC a (P.zip vs) m x=some v
 |[],_,_,_,_,h,_,_=>by simp at h
 |_::_,[],_,_,_,_,h,_=>by simp at h
 |p::P,w::vs,0,m,nd,h1,h2,b=>by
  simp at h1 h2;subst h1;subst h2;show bindC a ((p,w)::P.zip vs) m p=_;unfold bindC;rw[xi2 λv c=>(List.nodup_cons.mp nd).1 (List.of_mem_zip c).1,if_neg b];simp
 |p::P,w::vs,i+1,m,nd,h1,h2,b=>by
  show bindC a ((p,w)::P.zip vs) m x=_;unfold bindC;exact xi3 (i:=i) (List.nodup_cons.mp nd).2 (by simpa using h1) (by simpa using h2) b
def xer(N:List Str)(vs:List V):St:=vs.map some++List.replicate (N.length-vs.length) none
def cxOf(CX:CXT)(P:Program)(w:World)(K:Fg)(mg:Str->Option Value)(base:Heap)(N:List Str)(qual:Str)(scope:Scope)(f:Addr)(cd:Value)(A:Around)(outer:List Env)(s:Shared)(H:Hp)(E:XK):Cx where
 prog:=P
 w:=w
 K:=K
 mg:=mg
 base:=base
 A:=A.deeper (envOfC qual scope s.heap.objs.size f cd)
 N:=N
 s₀:=s
 H₀:=H
 env:=envOfC qual scope s.heap.objs.size f cd
 outer:=outer
 stack:=envOfC qual scope s.heap.objs.size f cd::outer
 ex:=[]
 calm:=true
 fn:=λ_=>true
 pn:=[]
 xe:=λe s'=>wpAny (model P w) (A.deeper (envOfC qual scope s.heap.objs.size f cd)) (leaving (envOfC qual scope s.heap.objs.size f cd) e) (λ_ s''=>CX outer H s E e s'') (λe' s''=>CX outer H s E e' s'') s'
theorem xk5{a:Scope}{n:Nat}{x:Str}(h:a.names.lookup x=some .cell):∃c,(cellsFrom n a.names []).lookup x=some c:=by
 have q:=PySem.W.cellsFrom_some a.names n [] (.inl h);exact Option.isSome_iff_exists.mp q
theorem xno {CX:CXT} {P:Program} {w:World} {K:Fg} {mg:Str->Option Value} {base:Heap} {N ps:List Str} {j:Str} {g:Scope} {f:Addr} {I:Value} {A:Around} {outer:List Env} {s J:Shared} {H:Hp} {E:XK} {us:List Value} {vs:List V}
  (S:FnScope N ps g) (hd:A.handled=none) (l:Env0 P w K mg base A outer s H) (hl:vs.length=ps.length) (r:Vals vs us)
  (x:InCallC s s.heap.objs.size (bindL (envOfC j g s.heap.objs.size f I).kindOf (ps.zip us) λ_=>none) (cellsFrom (s.heap.objs.size+1) g.names []) (bindC (envOfC j g s.heap.objs.size f I).kindOf (ps.zip us) λ_=>none) J) :
  Inv (cxOf CX P w K mg base N j g f I A outer s H E) [] (xer N vs) H J:=by
 have Y:ps.length<=N.length:=by have:=congrArg List.length S.pre;rw[List.length_take]at this;omega
 obtain⟨h1,tk,rfl,O⟩:=x.done;have m:∀b:Addr,b ∉(cxOf CX P w K mg base N j g f I A outer s H E).ex:=λb z=>absurd (show b∈([]:List Addr) from z) (by simp)
 refine⟨⟨l.mod,S.kind,rfl,rfl,Nat.le_refl _,λy z c h1 h2=>?_,λy o=>?_,λy c _ h=>?_,λ_=>hd,Around.frames_deeper l.frames,.inr ⟨rfl,rfl⟩,λb z=>absurd z (m b),l.bs,l.bsz,λb _ _=>m b,λb z=>absurd z (m b),l.funs,l.frf⟩,
  rfl,l.bare,Un.kept O,⟨_,x.toInCall.ns,λi y v h1 h2 h3=>?_⟩,λy c h=>⟨_,x.cell y c h⟩,l.hok.fresh (Nat.le_refl _),λy c h=>?_,λp G=>absurd (show p∈([]:List (Addr×Obj)) from G) (by simp),l.hok.kept O,?_⟩
 ·exact name_of_addr x.apart (PySem.mem_of_lookup h1) (PySem.mem_of_lookup h2)
 ·have o:g.names.lookup y=some .cell\/g.names.lookup y=some .free:=o
  rcases o with o |o
  ·exact xk5 o
  ·exact absurd rfl (S.nofree _ (PySem.mem_of_lookup o))
 ·exact Nat.le_of_lt (x.above y c (PySem.mem_of_lookup h))
 ·have hi:i<vs.length:=by
   unfold xer at h2;by_cases hi:i<vs.length
   ·exact hi
   ·rw[List.getElem?_append_right (by simpa using hi)]at h2
    rw[List.getElem?_replicate]at h2;split at h2 <;> cases h2
  have Z:vs[i]?=some v:=by
   unfold xer at h2;rw[List.getElem?_append_left (by simpa using hi),zGM]at h2
   cases e:vs[i]? with
   |none=>rw[e]at h2;cases h2
   |some a=>rw[e]at h2;cases h2;rfl
  obtain⟨u,M,U⟩:=r.get Z
  have G:ps[i]?=some y:=by
   rw[<- S.pre,List.getElem?_take_of_lt (by omega)];exact h1
  have C:ps.Nodup:=by rw[<- S.pre];exact S.nd.sublist (List.take_sublist _ _)
  refine⟨u,U,?_⟩;rcases S.par y (zMG G) with k |k
  ·exact .inl ⟨k,xi1 C G M k⟩
  ·obtain⟨c,e⟩:=xk5 (n:=s.heap.objs.size+1) k
   refine .inr ⟨.inl k,c,e,?_⟩;have q:=x.cell y c e;rw[xi3 C G M (by show g.names.lookup y≠_;rw[k];decide)]at q;exact q
 ·exact l.hok.fresh (Nat.le_of_lt (x.above y c (PySem.mem_of_lookup h)))
 ·unfold xer
  show _=N.length;rw[zLA,zLM,List.length_replicate];omega
theorem xs9 {CX:CXT} {P:Program} {w:World} {K:Fg} {mg:Str->Option Value} {base:Heap} {k:Nat} {f:Addr} {name qual:Str} {params:Arguments} {body:List Stmt} {scope:Scope} {dV kV doc pm cdv ct oc:Value} {an od:Option Addr}
  {osl:Array (Option Value)} {N ps:List Str} {sp:Sp} (lk:K.lookup f=some ⟨oc,od,.func (PySem.W.fnOf name qual params body scope dV kV doc pm an cdv ct),osl⟩) (hcd:PySem.W.codeIn K cdv qual=true) (S:FnScope N ps scope)
  (len:∀vs H Q E,sp vs H Q E->vs.length=ps.length)
  (hbody:∀(A:Around) (outer:List Env) (s:Shared) (H:Hp) (vs:List V) (Q:VK) (E:XK),Room k (A.deeper (envOfC qual scope s.heap.objs.size f cdv))->sp vs H Q E->
   ∃t,PSs (cxOf CX P w K mg base N qual scope f cdv A outer s H E) body t/\t {nx:=λ_ H'=>Q .non H',rt:=Q} (xer N vs) H) :
  FnOk P w K mg base CX (k+1) f (PySem.W.fnOf name qual params body scope dV kV doc pm an cdv ct) ps sp:=by
 refine⟨len,λA outer s H args us vs Q E hr e0 hb r hsp=>?_⟩;have hl:=len _ _ _ _ hsp;have KX:K.In s.heap:=e0.mod.kin.keeps λb o e=>(e0.bs b o e).1;have lim:s.heap.NoLimit:=e0.mod.nolimit.keeps λb o e=>(e0.bs b o e).1
 have hkind:∀y∈ps.zip us,scope.names.lookup y.1=some .local\/(scope.names.lookup y.1=some .cell/\((cellsFrom (s.heap.objs.size+1) scope.names []).lookup y.1).isSome=true):=λ⟨n,v⟩ hy=>by
  rcases S.par n (List.of_mem_zip hy).1 with q |q
  ·exact .inl q
  ·exact .inr ⟨q,PySem.W.cellsFrom_some _ _ _ (.inl q)⟩
 refine codeAny_call_function hr.depth (KX _ _ lk) rfl S.co S.gen rfl (PySem.W.codeRec_of KX hcd) (hb _ _ _ _ ?_);refine wpAny_newFunctionEnv_cells S.kind hkind λenv he s1 x=>?_;subst he;refine⟨lim.keeps x.toInCall.keep,codeAny_func ?_⟩;obtain⟨t,ht,hq⟩:=hbody A outer s H vs Q E (hr.deeper _) hsp;have I:Inv (cxOf CX P w K mg base N qual scope f cdv A outer s H E) [] (xer N vs) H s1:=xno S hr.hd e0 hl r x;refine wpAny_mono (ht [] s1 (xer N vs) H _ I hq) (λfl s' hs=>?_) λe s' hs=>hs
 have fin:∀{σ':St} {H':Hp} {v:V} {u:Value},Inv (cxOf CX P w K mg base N qual scope f cdv A outer s H E) [] σ' H' s'->RelV v u->Q v H'->CE outer P w H s Q u s':=
  λ{σ' H' v u} J rv q=>⟨v,H',J.os,J.bare,J.base,J.hok,rv,q⟩
 cases fl with
 |ret u=>
  obtain⟨v,σ',H',J,rv,q⟩:=hs;exact fin J rv q
 |next=>
  obtain⟨σ',H',J,q⟩:=hs;exact fin (v:=V.non) (u:=Value.none) J rfl q
 |brk=>
  obtain⟨_,_,_,q⟩:=hs;exact False.elim q
 |cont=>
  obtain⟨_,_,_,q⟩:=hs;exact False.elim q
section
variable {X:Cx}{x:Str}{p pos:Pos}{e:Expr}{es:List Expr}{t:TA}{id T:String}{r:List V->Hp->VK->Prop}
def tCB(r:List V->Hp->VK->Prop)(t:TA):TE:=λσ H Q=>t σ H λvs H1=>r vs H1 Q
theorem xan (hc:xdy X (.builtin id) r) (hg:Gl X x) (hm:X.mg x=none) (hv:bootBuiltins x=some (.builtin id)) (ha:PA X (e::es) t) (hn:x≠"__name__":=by decide) (hdb:(x == ("__debug__":Str))=false:=by decide)
  (he:starEach (e::es) X.env=(false,eval e X.env)::starEach es X.env:=by rfl) (hpl:(backTo pos (starEach es X.env)).any (·.1)=false:=by rfl):PE X (.Call (.Name x p) (e::es) [] pos) (tCB r t):=by
 intro pins s σ H Q I h;refine wpAny_Call_Name_kw (xim I hg hm hv ?_ hn hdb);exact PyProof.Rows.callWith_builtin1 (thn (ha pos pins s σ H _ I h) λus s1 ⟨vs,H1,I1,r1,q1⟩=>hc pins s1 σ H1 vs us Q I1 r1 q1) he hpl
theorem xat (hc:xdy X (.type T) r) (hg:Gl X x) (hm:X.mg x=none) (hv:bootBuiltins x=some (.type T)) (ha:PA X (e::es) t) (hn:x≠"__name__":=by decide) (hdb:(x == ("__debug__":Str))=false:=by decide)
  (he:starEach (e::es) X.env=(false,eval e X.env)::starEach es X.env:=by rfl) (hpl:(backTo pos (starEach es X.env)).any (·.1)=false:=by rfl):PE X (.Call (.Name x p) (e::es) [] pos) (tCB r t):=by
 intro pins s σ H Q I h;refine wpAny_Call_Name_kw (xim I hg hm hv ?_ hn hdb);exact PyProof.Rows.callWith_type1 (thn (ha pos pins s σ H _ I h) λus s1 ⟨vs,H1,I1,r1,q1⟩=>hc pins s1 σ H1 vs us Q I1 r1 q1) he hpl
end
end L2
namespace HT
open PySem PyProof.Rows
section
variable {prog:Program}{w:World}{A:Around}{E:Value->Shared->Prop}{s:Shared}
theorem cat_tup {t b:Addr} {vs ws:List Value} {Q:Value->Shared->Prop} (ht:IsTup s.heap t vs.toArray) (hb:IsTup s.heap b ws.toArray) (hv:vs≠[])
  (h1:ws=[]->Q (.ref t) s) (h2:ws≠[]->Q (.ref s.heap.objs.size) {s with heap:=s.heap.push {cls:=.type "tuple",data:=.seq (vs++ws).toArray}})
  (hsz:vs.length+ws.length<=sizeLine):wpAny (model prog w) A (binaryOp .Add (.ref t) (.ref b)) Q E s:=by
 obtain⟨⟨cls,dd,data,sl⟩,ho,hc,n,hd⟩:=id ht;obtain⟨⟨cls2,dd2,data2,sl2⟩,ho2,hc2,n2,hd2⟩:=id hb;simp only at hc hd hc2 hd2;subst hc hd hc2 hd2;have e:vs.toArray++ws.toArray=(vs++ws).toArray:=by simp
 by_cases hw:ws=[]
 ·exact concat_meets ⟨_,ho,rfl⟩ ⟨_,ho2,rfl⟩ noFill_tuple_add seq_tuple_add PySem.F.slot_tuple_add PySem.F.entry_tuple_add (PySem.F.args_tuple_add_2 _ _)
   (tuple_addW1 t b vs.toArray ws.toArray n n2 dd dd2 sl sl2 (by simpa using hv) (by simp[hw])) ⟨ho,ho2,h1 hw⟩
 ·refine concat_meets ⟨_,ho,rfl⟩ ⟨_,ho2,rfl⟩ noFill_tuple_add seq_tuple_add PySem.F.slot_tuple_add PySem.F.entry_tuple_add (PySem.F.args_tuple_add_2 _ _)
   (tuple_addW2 t b vs.toArray ws.toArray n n2 dd dd2 sl sl2 (by simpa using hv) (by simpa using hw) (by rw[List.size_toArray,List.size_toArray];exact hsz)) ⟨ho,ho2,?_⟩
  rw[e];exact h2 hw
def sIx(n d:Nat):Option Int->Nat
 |none=>d
 |some v=>if v<0 then (v+(n:Int)).toNat else min v.toNat n
theorem sIx_none(n d:Nat):sIx n d none=d:=rfl
theorem sIx_nat(n d k:Nat):sIx n d (some (k:Int))=min k n:=by
 show(if (k:Int)<0 then ((k:Int)+(n:Int)).toNat else min (k:Int).toNat n)=min k n;rw[if_neg (by omega),Int.toNat_natCast]
end
end HT
namespace L2
open PySem PySem.Spec PyProof.Rows
abbrev TO:=St->Hp->(Option Int->Hp->Prop)->Prop
def PO(X:Cx)(e:Option Expr)(t:TO):Prop:=
 ∀(pins:List (Addr×Obj)) (s:Shared) (σ:St) (H:Hp) (Q:Option Int->Hp->Prop),Inv X pins σ H s->t σ H Q->
  wpAny (model X.prog X.w) X.A (evalPart e X.env) (λu s'=>∃o H',Inv X pins σ H' s'/\IsPart u o/\Q o H') X.xe s
def xqd:TO:=λ_ H Q=>Q none H
def xtp(t:TE):TO:=λσ H Q=>t σ H λx H1=>∃i,x=.int i/\Q (some i) H1
theorem xgj{ns:List Int}:∀{us:List Value},Vals (ns.map V.int) us->IntsAre us ns:=by
 induction ns with
 |nil=>intro us r;rw[List.map_nil]at r;cases r;exact .nil
 | cons n ns c=>
  intro us r;rw[List.map_cons]at r
  cases r with
  |cons b a=>
   obtain⟨t,e⟩:=b;subst e;exact .cons n t (c a)
section
variable {X:Cx}{e:Expr}{te:TE}{lo hi:Option Expr}{tl th:TO}{pos p2:Pos}
theorem xgy:PO X none xqd:=by
 intro pins s σ H Q I h;rw[evalPart_none];exact wpAny_pure ⟨none,H,I,.none,h⟩
theorem xdj(h:PE X e te):PO X (some e) (xtp te):=by
 intro pins s σ H Q I c;rw[evalPart_some];refine thn (h pins s σ H _ I c) λu g ⟨x,H1,f,a,b⟩=>?_;obtain⟨i,rfl,q⟩:=b;obtain⟨t,rfl⟩:=a;exact⟨some i,H1,f,.int i t,q⟩
def SlR(X:Cx)(r:V->Option Int->Option Int->Hp->VK->Prop):Prop:=
 ∀(pins:List (Addr×Obj)) (s:Shared) (σ:St) (H:Hp) (x:V) (v vl vu:Value) (lo hi:Option Int) (sl:Addr) (Q:VK),Inv X pins σ H s->RelV x v->s.heap.IsSliceOf sl vl vu .none->IsPart vl lo->IsPart vu hi->r x lo hi H Q->
  ∃T id,typeLookup (.type T) "__getitem__"=pure (some (.builtin id))/\s.TypeIs v T/\wpAny (model X.prog X.w) X.A (getItem v (.ref sl)) (EP X pins σ Q) X.xe s
def tSl(r:V->Option Int->Option Int->Hp->VK->Prop)(te:TE)(tl th:TO):TE:=λσ H Q=>te σ H λx H1=>tl σ H1 λl H2=>th σ H2 λu H3=>r x l u H3 Q
theorem xdq{r:V->Option Int->Option Int->Hp->VK->Prop}(hr:SlR X r)(he:PE X e te)(hl:PO X lo tl)(hu:PO X hi th):PE X (.Subscript e (.Slice lo hi none p2) pos) (tSl r te tl th):=by
 intro pins s σ H Q I h;refine Subscript_ (thn (he pins s σ H _ I h) λv s1 ⟨x,H1,I1,r1,q1⟩=>?_);refine wpAny_Slice (thn (hl pins s1 σ H1 _ I1 q1) λvl s2 ⟨l,H2,I2,pl,q2⟩=>thn (hu pins s2 σ H2 _ I2 q2) λvu s3 ⟨u,H3,I3,pu,q3⟩=>?_);rw[evalPart_none];refine wpAny_pure ?_;have I4:Inv X pins σ H3 {s3 with heap:=s3.heap.push {cls:=.type "slice",data:=.fields #[vl,vu,.none]}}:=I3.kept (t':=s3.toks) λb ob q=>zPO _ q;obtain⟨T,id,hT,ht,hg⟩:=hr pins {s3 with heap:=s3.heap.push {cls:=.type "slice",data:=.fields #[vl,vu,.none]}} σ H3 x v vl vu l u s3.heap.objs.size Q I4 r1 (Heap.IsSliceOf.new ..) pl pu q3;show wpAny (model X.prog X.w) X.A (subscriptTail e (.Slice lo hi none p2) v (.ref s3.heap.objs.size)) (EP X pins σ Q) X.xe {s3 with heap:=s3.heap.push {cls:=.type "slice",data:=.fields #[vl,vu,.none]}};exact tail_any (ops:=[.ref s3.heap.objs.size,v]) ht hT hg (by with_unfolding_all rfl)
def cutV(xs:List V)(lo hi:Option Int):List V:=(xs.drop (HT.sIx xs.length 0 lo)).take (HT.sIx xs.length xs.length hi-HT.sIx xs.length 0 lo)
theorem xj3(xs:List V)(lo hi:Option Int):(cutV xs lo hi).length<=xs.length:=by
 unfold cutV;rw[List.length_take,List.length_drop];omega
def xt2(K:Fg):R2:=λx y H Q=>∃a b xs ys,x=.ref a/\y=.ref b/\SqT K H a xs/\SqT K H b ys/\xs≠[]/\xs.length+ys.length<=sizeLine ∧
 (ys=[]->Q (.ref a) H)/\(ys≠[]->∀p,H p=none->Q (.ref p) (upd H p (.tup (xs++ys))))
theorem Vals.nil_iff{xs:List V}{us:List Value}(r:Vals xs us):us=[] ↔ xs=[]:=by
 cases r with
 |nil=>simp
 |cons _ _=>simp
theorem xqw:OpR X (binaryOp .Add) (xt2 X.K):=by
 intro pins s σ H x y v u Q I i g h;obtain⟨a,b,xs,ys,rfl,rfl,r,p,n,hz,l,j⟩:=h;cases i;cases g;obtain⟨its,e,m,_⟩:=I.tuple r;obtain⟨f,c,p2,_⟩:=I.tuple p;refine HT.cat_tup m p2 (λz=>n (e.nil_iff.mp z)) (λz=>⟨.ref a,H,I,rfl,l (c.nil_iff.mp z)⟩) (λz=>?_) (by rw[<- e.length,<- c.length];exact hz);refine⟨.ref s.heap.objs.size,_,I.laid (t':=s.toks) (o:=.tup (xs++ys)) (λb C q=>zPO _ q) (Nat.le_refl _) ?_,rfl,j (λw=>z (c.nil_iff.mpr w)) _ (I.hok.fresh (Nat.le_refl _))⟩;exact⟨by rw[zLA];exact hz,_,e.append c,_,Heap.get?_push_size _ rfl,rfl,_,rfl,rfl⟩
end
def ixN(n:Nat)(i:Int):Option Nat:=if 0<=i then (if i<n then some i.toNat else none) else if -(n:Int)<=i then some (i+n).toNat else none
def atI{α:Type}(xs:List α)(i:Int):Option α:=(ixN xs.length i).bind λj=>xs[j]?
theorem xnm{n:Nat}{i:Int}{j:Nat}(h:ixN n i=some j):seqIndex? i n=some j/\j<n/\-(n:Int)<=i/\i<n:=by
 unfold ixN at h;by_cases h0:0<=i
 ·rw[if_pos h0]at h
  by_cases h1:i<n
  ·rw[if_pos h1]at h
   have e:i.toNat=j:=Option.some.inj h;exact⟨by rw[seqIndex_of h0 h1,e],by omega,by omega,h1⟩
  ·rw[if_neg h1]at h;cases h
 ·rw[if_neg h0]at h
  by_cases h1:-(n:Int)<=i
  ·rw[if_pos h1]at h
   have e:(i+n).toNat=j:=Option.some.inj h;exact⟨by rw[seqIndex_neg (by omega) h1,e],by omega,h1,by omega⟩
  ·rw[if_neg h1]at h;cases h
theorem xj6{α:Type}{xs:List α}{i:Int}{v:α}(h:atI xs i=some v):∃j,seqIndex? i xs.length=some j/\xs[j]?=some v/\j<xs.length/\-(xs.length:Int)<=i/\i<xs.length:=by
 unfold atI at h
 cases e:ixN xs.length i with
 |none=>rw[e]at h;cases h
 |some j=>
  rw[e]at h;obtain⟨h1,h2,b,a⟩:=xnm e;exact⟨j,h1,h,h2,b,a⟩
theorem xax{α:Type}{xs:List α}{j:Nat}{v:α}(h:xs[j]?=some v):atI xs (j:Int)=some v:=by
 have a:j<xs.length:=(zES h).1
 have e:ixN xs.length (j:Int)=some j:=by
  unfold ixN;rw[if_pos (by omega),if_pos (by omega)];simp
 unfold atI;rw[e];exact h
def xj8(b:Expr):Prop:=∀o i,subscripted b false o i=operate [o,i] (getItem o i)
def IxR(X:Cx)(r:R2):Prop:=
 ∀(value slice:Expr) (pins:List (Addr×Obj)) (s:Shared) (σ:St) (H:Hp) (x y:V) (v u:Value) (Q:VK),Inv X pins σ H s->RelV x v->RelV y u->r x y H Q->
  subscripted slice false v u=operate [v,u] (getItem v u)->wpAny (model X.prog X.w) X.A (subscriptTail value slice v u) (EP X pins σ Q) X.xe s
def MtR(X:Cx)(id:String)(r:V->List V->Hp->VK->Prop):Prop:=
 ∀(pins:List (Addr×Obj)) (s:Shared) (σ:St) (H:Hp) (x:V) (xs:List V) (v:Value) (us:List Value) (Q:VK),Inv X pins σ H s->RelV x v->Vals xs us->r x xs H Q->
  wpAny (model X.prog X.w) X.A (call (.builtin id) (v::us)) (EP X pins σ Q) X.xe s
section
variable {X:Cx}{a b:Expr}{ta tb:TE}{pos:Pos}
theorem xlj{r:R2}(hr:IxR X r)(ha:PE X a ta)(hb:PE X b tb)(hs:xj8 b):PE X (.Subscript a b pos) (tOp r ta tb):=by
 intro pins s σ H Q I h;exact Subscript_ (binT ha hb I h λv u s2 x y H2 I2 rx ry q=>hr a b pins s2 σ H2 x y v u Q I2 rx ry q (hs _ _))
def rIxL(K:Fg):R2:=λx y H Q=>∃p xs i v,x=.ref p/\y=.int i/\SqL K H p xs/\atI xs i=some v/\Q v H
def rIxT(K:Fg):R2:=λx y H Q=>∃p xs i v,x=.ref p/\y=.int i/\SqT K H p xs/\atI xs i=some v/\Q v H
def rIxS:R2:=λx y H Q=>∃z i c,x=.str z/\y=.int i/\z.length<=sizeLine/\atI z.cps.toList i=some c/\Q (.str ⟨#[c]⟩) H
theorem iL:IxR X (rIxL X.K):=by
 intro value a pins s σ H x y v u Q I g f h hs;obtain⟨p,xs,i,z,rfl,rfl,l,n,q⟩:=h;cases g;obtain⟨t,rfl⟩:=f;obtain⟨its,r,pl,hz⟩:=I.list l;obtain⟨j,h1,h2,G,C,o⟩:=xj6 n;obtain⟨w,e,b⟩:=r.get h2;have m:=r.length;have hn:=xih;have fin:EP X pins σ Q w s:=⟨z,H,I,b,q⟩;by_cases h0:0<=i
 ·have c:i.toNat=j:=by
   rw[seqIndex_of h0 o]at h1;exact Option.some.inj h1
  exact item_listR pl.isList h0 (by omega) (by rw[c];simpa using e) fin hs
 ·have c:(i+(its.toArray.size:Int)).toNat=j:=by
   rw[seqIndex_neg (by omega) C]at h1;rw[List.size_toArray,<- m];exact Option.some.inj h1
  exact subscriptTail_builtinR (x:=w) pl.isList.typeIs slot_list_getitem.lookup
   (wpAny_getItem_list_neg (Q:=λr s'=>r=w/\EP X pins σ Q r s') pl.isList (by omega) (by rw[List.size_toArray] <;> omega) (by omega) (by rw[c];simpa using e) ⟨rfl,fin⟩) hs
theorem xs5:IxR X (rIxT X.K):=by
 intro value a pins s σ H x y v u Q I e c h hs;obtain⟨p,xs,i,z,rfl,rfl,f,l,q⟩:=h;cases e;obtain⟨t,rfl⟩:=c;obtain⟨its,r,pl,hz⟩:=I.tuple f;obtain⟨j,h1,h2,C,o,n⟩:=xj6 l;obtain⟨w,m,b⟩:=r.get h2;have g:=r.length;have hn:=xih;have fin:EP X pins σ Q w s:=⟨z,H,I,b,q⟩
 exact subscriptTail_builtinR (x:=w) pl.typeIs slot_tuple_getitem.lookup
  (getItem_tuple (j:=j) (Q:=λr s'=>r=w/\EP X pins σ Q r s') pl (by omega) (by omega) (by rw[List.size_toArray,<- g];exact h1) (by simpa using m) ⟨rfl,fin⟩) hs
theorem xky:IxR X rIxS:=by
 intro value a pins s σ H x y v u Q I e b h hs;obtain⟨z,i,c,rfl,rfl,hz,g,q⟩:=h;obtain⟨t,rfl⟩:=e;obtain⟨t',rfl⟩:=b;obtain⟨j,h1,h2,p,m,l⟩:=xj6 g;have f:z.cps.toList.length=z.length:=by simp[Str.length]
 rw[f]at h1 m l;have hn:=xih
 exact tail_any (typeIs_str s z t) slot_str_getitem.lookup (getItem_str (c:=c) (by
  have o:decide (i < -(2 ^ 63:Int))=false:=zDF (by omega);have n:decide (i ≥ 2 ^ 63)=false:=zDF (by omega);rw[o,n,Bool.or_false]) (by rw[h1];simpa using h2) ⟨.str ⟨#[c]⟩,H,I.tok _,⟨_,rfl⟩,q⟩) hs
theorem xlo(its:List Value)(n j:Nat)(u:Value):Obj.mapSeq (·.setIfInBounds j u) {cls:=.type "list",data:=.seq its.toArray n}={cls:=.type "list",data:=.seq (its.set j u).toArray n}:=by
 simp[Obj.mapSeq]
theorem Inv.lst {pins:List (Addr×Obj)} {σ:St} {H:Hp} {s:Shared} {p:Addr} {xs:List V} (I:Inv X pins σ H s) (h:H p=some (.lst xs)) :
  ∃(its:List Value) (n:Nat),Vals xs its/\s.heap.get? p=some {cls:=.type "list",data:=.seq its.toArray n}/\xs.length<=sizeLine:=by
 obtain⟨z,its,n,r,e⟩:=I.hok p _ h;exact⟨its,n,r,e,z⟩
theorem Inv.lstUpd {pins:List (Addr×Obj)} {σ:St} {H:Hp} {s:Shared} {p:Addr} {xs ys:List V} {its its':List Value} {n n':Nat} {f:Obj->Obj} (I:Inv X pins σ H s) (h:H p=some (.lst xs))
  (ho:s.heap.get? p=some {cls:=.type "list",data:=.seq its.toArray n}) (hf:f {cls:=.type "list",data:=.seq its.toArray n}={cls:=.type "list",data:=.seq its'.toArray n'}) (r:Vals ys its') (hz:ys.length<=sizeLine) (t:Nat) :
  Inv X pins σ (upd H p (.lst ys)) {s with heap:=s.heap.update p f,toks:=t}:=by
 have e:(s.heap.update p f).get? p=some {cls:=.type "list",data:=.seq its'.toArray n'}:=by
  rw[Heap.get?_update_self f ho (by rw[hf] <;> rfl),hf]
 refine I.write (x:=p) (e:=p) (by rw[h];trivial) (.inl rfl) (λb u hb q=>(Heap.get?_update_other _ _ (Ne.symm hb)).trans q) ⟨_,e⟩ ?_;exact⟨hz,its',n',r,e⟩
def xt0:V->V->V->Hp->(Hp->Prop)->Prop:=λo i v H Q=>∃p xs k j,o=.ref p/\i=.int k/\H p=some (.lst xs)/\ixN xs.length k=some j/\Q (upd H p (.lst (xs.set j v)))
theorem xkm:PSet X xt0:=by
 intro pins s σ H o i v z C u Q I w x m h;obtain⟨p,xs,k,j,rfl,rfl,e,y,q⟩:=h;cases w;obtain⟨t,rfl⟩:=x;obtain⟨its,n,r,a,hz⟩:=I.lst e;obtain⟨h1,h2,g,f⟩:=xnm y;have b:=r.length;have hn:=xih
 have l:Inv X pins σ (upd H p (.lst (xs.set j v))) {s with heap:=s.heap.update p (Obj.mapSeq (·.setIfInBounds j u))}:=
  I.lstUpd e a (xlo its n j u) (r.set m j) (by rw[List.length_set];exact hz) s.toks
 by_cases h0:0<=k
 ·have c:k.toNat=j:=by
   rw[seqIndex_of h0 f]at h1;exact Option.some.inj h1
  exact PySem.W.ki_setAt a h0 (by omega) (by rw[List.size_toArray,<- b];exact f) (by rw[c];exact⟨_,l,q⟩)
 ·have c:(k+(its.toArray.size:Int)).toNat=j:=by
   rw[seqIndex_neg (by omega) g]at h1;rw[List.size_toArray,<- b];exact Option.some.inj h1
  exact PySem.W.ki_setBack a (by omega) (by rw[List.size_toArray,<- b];exact g) (by omega) (by rw[c];exact⟨_,l,q⟩)
theorem xht(lo hi:Option Int)(n:Nat):(sliceBounds lo hi none n).1=((HT.sIx n 0 lo:Nat):Int)/\(sliceBounds lo hi none n).2.1=((HT.sIx n n hi:Nat):Int)/\(sliceBounds lo hi none n).2.2=1:=by
 refine⟨?_,?_,rfl⟩
 ·cases lo with
  |none=>simp[sliceBounds,HT.sIx]
  |some i=>
   simp only[sliceBounds,HT.sIx,Option.getD_none,show(1:Int) > 0 by decide,if_true];by_cases h:i<0
   ·simp only[h,if_true] <;> omega
   ·simp only[h,if_false] <;> omega
 ·cases hi with
  |none=>simp[sliceBounds,HT.sIx]
  |some i=>
   simp only[sliceBounds,HT.sIx,Option.getD_none,show(1:Int) > 0 by decide,if_true];by_cases h:i<0
   ·simp only[h,if_true] <;> omega
   ·simp only[h,if_false] <;> omega
theorem xgt(its:List Value)(lo hi:Option Int):slicePick its.toArray lo hi none=((its.drop (HT.sIx its.length 0 lo)).take (HT.sIx its.length its.length hi-HT.sIx its.length 0 lo)).toArray:=by
 obtain⟨h1,h2,a⟩:=xht lo hi its.toArray.size;unfold slicePick;rw[h1,h2,a];simp only[sliceRange_one,pick_run,List.size_toArray] <;> rfl
def rSlL(K:Fg):V->Option Int->Option Int->Hp->VK->Prop:=λx lo hi H Q=>∃a xs,x=.ref a/\SqL K H a xs/\∀p,H p=none->Q (.ref p) (upd H p (.lst (cutV xs lo hi)))
theorem xgu:SlR X (rSlL X.K):=by
 intro pins s σ H x v l j lo hi sl Q I f hs pl g h;obtain⟨a,xs,rfl,i,q⟩:=h;cases f;obtain⟨its,r,e,hz⟩:=I.list i;have c:=r.length;refine⟨"list",_,slot_list_getitem.lookup,e.isList.typeIs,?_⟩;refine wpAny_getItem_list_slice e.isList hs pl g .none (by simp) ?_ (by rw[List.size_toArray] <;> omega);rw[xgt,<- c];refine⟨.ref s.heap.objs.size,_,I.laid (t':=s.toks) (o:=.lst (cutV xs lo hi)) (λb m q=>zPO _ q) (Nat.le_refl _) ?_,rfl,q _ (I.hok.fresh (Nat.le_refl _))⟩;exact⟨Nat.le_trans (xj3 xs lo hi) hz,_,0,(r.drop (HT.sIx xs.length 0 lo)).take (HT.sIx xs.length xs.length hi-HT.sIx xs.length 0 lo),Heap.get?_push_size _ rfl⟩
def xf8:V->Bool
 |.non=>true
 |.bl _=>true
 |.int _=>true
 |.str _=>true
 |_=>false
def eqV:V->V->Bool
 |.non,.non=>true
 |.bl a,.bl b=>a == b
 |.bl a,.int b=>(if a then 1 else 0) == b
 |.int a,.bl b=>a == (if b then 1 else 0)
 |.int a,.int b=>a == b
 |.str a,.str b=>a == b
 |_,_=>false
theorem xtb{A:Around}{s:Shared}{y x:V}{u v:Value}(e:RelV y u)(c:RelV x v)(g:xf8 y=true)(f:xf8 x=true):SeqAt.EqAt A s u v (eqV y x):=by
 cases y with
 |non=>
  cases e
  cases x with
  |non=>cases c;exact SeqAt.EqAt.same _
  |bl b=>cases c;exact SeqAt.EqAt.none_bool b
  |int b=>obtain⟨t,rfl⟩:=c;exact SeqAt.EqAt.none_int b t
  |str b=>obtain⟨t,rfl⟩:=c;exact SeqAt.EqAt.none_str b t
  |_=>exact absurd (show false=true from f) Bool.false_ne_true
 |bl a=>
  cases e
  cases x with
  |non=>cases c;exact SeqAt.EqAt.bool_none a
  |bl b=>cases c;exact SeqAt.EqAt.bool_bool a b
  |int b=>obtain⟨t,rfl⟩:=c;exact SeqAt.EqAt.bool_int a b t
  |str b=>obtain⟨t,rfl⟩:=c;exact SeqAt.EqAt.bool_str a b t
  |_=>exact absurd (show false=true from f) Bool.false_ne_true
 |int a=>
  obtain⟨t',rfl⟩:=e
  cases x with
  |non=>cases c;exact SeqAt.EqAt.int_none a t'
  |bl b=>cases c;exact SeqAt.EqAt.int_bool a t' b
  |int b=>obtain⟨t,rfl⟩:=c;exact SeqAt.EqAt.int_int a t' b t
  |str b=>obtain⟨t,rfl⟩:=c;exact SeqAt.EqAt.int_str a t' b t
  |_=>exact absurd (show false=true from f) Bool.false_ne_true
 |str a=>
  obtain⟨t',rfl⟩:=e
  cases x with
  |non=>cases c;exact SeqAt.EqAt.str_none a t'
  |bl b=>cases c;exact SeqAt.EqAt.str_bool a t' b
  |int b=>obtain⟨t,rfl⟩:=c;exact SeqAt.EqAt.str_int a t' b t
  |str b=>obtain⟨t,rfl⟩:=c;exact SeqAt.EqAt.str_str a t' b t
  |_=>exact absurd (show false=true from f) Bool.false_ne_true
 |_=>exact absurd (show false=true from g) Bool.false_ne_true
def eqU(x:V)(u:Value):Bool:=match u with
 |.none=>eqV .non x
 |.bool b=>eqV (.bl b) x
 |.int i _=>eqV (.int i) x
 |.str z _=>eqV (.str z) x
 |_=>false
theorem xnz{x y:V}{u:Value}(r:RelV y u)(f:xf8 y=true):eqU x u=eqV y x:=by
 cases y with
 |non=>cases r;rfl
 |bl b=>cases r;rfl
 |int i=>obtain⟨t,rfl⟩:=r;rfl
 |str z=>obtain⟨t,rfl⟩:=r;rfl
 |_=>exact absurd (show false=true from f) Bool.false_ne_true
theorem xj7{x:V}:∀{xs:List V} {us:List Value},Vals xs us->xs.all xf8=true->us.any (eqU x)=xs.any λy=>eqV y x
 |_,_,.nil,_=>rfl
 |y::xs,u::us,.cons r t,f=>by
  rw[List.all_cons,Bool.and_eq_true]at f;rw[List.any_cons,List.any_cons,xnz r f.1,xj7 t f.2]
theorem xe3{A:Around}{s:Shared}{x:V}{v:Value}(b:RelV x v)(c:xf8 x=true):∀{xs:List V} {us:List Value},Vals xs us->xs.all xf8=true->∀u∈us,SeqAt.EqAt A s u v (eqU x u)
 |_,_,.nil,_=>λu a=>by cases a
 |y::xs,u::us,.cons r t,f=>λe a=>by
  rw[List.all_cons,Bool.and_eq_true]at f;rcases zMC a with rfl |a
  ·rw[xnz r f.1];exact xtb r b f.1 c
  ·exact xe3 b c t f.2 e a
def inV(x:V)(xs:List V):Bool:=xs.any λy=>eqV y x
def rIn(K:Fg)(neg:Bool):R2:=λx y H Q=>∃p xs,y=.ref p/\(SqL K H p xs\/SqT K H p xs)/\xf8 x=true/\xs.all xf8=true/\Q (.bl (if neg then !inV x xs else inV x xs)) H
theorem xeo:OpR X (compareOp .NotIn) (rIn X.K true):=by
 intro pins s σ H x y v u Q I c f h;obtain⟨p,xs,rfl,a,e,fs,q⟩:=h;cases f;rcases a with a |a
 ·obtain⟨its,r,pl,hz⟩:=I.list a
  refine SeqAt.notIn_listAt (eqU x) pl.isList (λw b=>xe3 c e r fs w (by simpa using b)) ⟨.bl _,H,I,rfl,?_⟩;rw[show its.toArray.any (eqU x)=its.any (eqU x) by simp,xj7 r fs];exact q
 ·obtain⟨its,r,pl,hz⟩:=I.tuple a
  refine SeqAt.notIn_tupleAt (eqU x) pl (λw b=>xe3 c e r fs w (by simpa using b)) ⟨.bl _,H,I,rfl,?_⟩;rw[show its.toArray.any (eqU x)=its.any (eqU x) by simp,xj7 r fs];exact q
theorem xiz:xdy X (.builtin "len") (λxs H Q=>∃p ys,xs=[.ref p]/\(SqL X.K H p ys\/SqT X.K H p ys)/\Q (.int ys.length) H):=by
 intro pins s σ H xs us Q I r h;obtain⟨p,ys,rfl,b,q⟩:=h;obtain⟨u,rfl,e⟩:=xfx r;cases e;have hn:=xih;rcases b with b |b
 ·obtain⟨its,c,pl,hz⟩:=I.list b
  have a:=c.length;exact Calls.call_len_list pl.isList (by simp only[List.size_toArray] <;> omega) ⟨.int ys.length,H,I.tok _,⟨s.toks+1,by rw[List.size_toArray,a]⟩,q⟩
 ·obtain⟨its,c,pl,hz⟩:=I.tuple b
  have a:=c.length;exact len_tuple pl (by simp only[List.size_toArray] <;> omega) ⟨.int ys.length,H,I.tok _,⟨s.toks+1,by rw[List.size_toArray,a]⟩,q⟩
theorem xb5:xdy X (.type "list") (λxs H Q=>∃p ys,xs=[.ref p]/\(SqL X.K H p ys\/SqT X.K H p ys)/\∀l,H l=none->Q (.ref l) (upd H l (.lst ys))):=by
 intro pins s σ H xs us Q I r h;obtain⟨p,ys,rfl,g,q⟩:=h;obtain⟨u,rfl,x⟩:=xfx r;cases x
 have fin:∀(its:List Value),Vals ys its->ys.length<=sizeLine->∀(h':Heap) (c:Nat),(∀b o',s.heap.get? b=some o'->h'.get? b=some o')->
   h'.get? s.heap.objs.size=some {cls:=.type "list",dict:=none,data:=.seq its.toArray c,slots:=#[]}->EP X pins σ Q (.ref s.heap.objs.size) {s with heap:=h'}:=λits a hz h' c f e=>
  ⟨.ref s.heap.objs.size,_,I.laid (t':=s.toks) f (Nat.le_refl _) (show ObjOk X.prog X.w _ h' _ (.lst ys) from⟨hz,its,c,a,e⟩),rfl,q _ (I.hok.fresh (Nat.le_refl _))⟩
 rcases g with g |g
 ·obtain⟨its,a,pl,hz⟩:=I.list g
  have i:=a.length;obtain⟨o,j,m,n,hd⟩:=pl.isList;exact call_list_seq p (.inl rfl) j m hd (λh' c f e=>fin its a hz h' c f e) (by simp only[List.size_toArray] <;> omega)
 ·obtain⟨its,a,pl,hz⟩:=I.tuple g
  have i:=a.length;obtain⟨o,j,m,n,hd⟩:=pl;exact call_list_seq p (.inr rfl) j m hd (λh' c f e=>fin its a hz h' c f e) (by simp only[List.size_toArray] <;> omega)
theorem xhf:xdy X (.type "tuple") (λxs H Q=>∃p ys,xs=[.ref p]/\((SqL X.K H p ys/\∀l,H l=none->Q (.ref l) (upd H l (.tup ys)))\/(SqT X.K H p ys/\Q (.ref p) H))):=by
 intro pins s σ H xs us Q I r h;obtain⟨p,ys,rfl,h⟩:=h;obtain⟨u,rfl,i⟩:=xfx r;cases i;rcases h with⟨c,q⟩ |⟨c,q⟩
 ·obtain⟨its,a,pl,hz⟩:=I.list c
  have f:=a.length;refine call_tuple_list pl.isList (λh' j=>?_) (by simp only[List.size_toArray] <;> omega);have g:Inv X pins σ H {s with heap:=h'}:=I.kept (t':=s.toks) j
  have m:Inv X pins σ (upd H h'.objs.size (.tup ys)) {s with heap:=h'.push {cls:=.type "tuple",data:=.seq its.toArray}}:=
   g.laid (t':=s.toks) (λb o e=>zPO _ e) (Nat.le_refl _) (show ObjOk X.prog X.w _ _ _ (.tup ys) from⟨hz,its,a,_,Heap.get?_push_size _ rfl,rfl,_,rfl,rfl⟩)
  exact⟨.ref h'.objs.size,_,m,rfl,q _ (g.hok.fresh (Nat.le_refl _))⟩
 ·obtain⟨its,a,pl,hz⟩:=I.tuple c
  exact call_tuple_same pl ⟨.ref p,H,I,rfl,q⟩
def tyV(K:Fg)(T:String)(x:V)(H:Hp):Prop:=match x with
 |.str _=>T="str"
 |.int _=>T="int"
 | .ref p=>(T="list"/\∃xs,SqL K H p xs)\/(T="tuple"/\∃o,K.lookup p=some o/\o.cls=.type "tuple"/\o.dict=none) ∨
   (T="dict"/\((∃kvs,H p=some (.dK kvs))\/∃kvs,H p=some (.dT kvs)))\/(T="set"/\∃S n,H p=some (.set S n))
 |_=>False
theorem xpm {pins:List (Addr×Obj)} {σ:St} {H:Hp} {s:Shared} {T:String} {x:V} {v:Value} (I:Inv X pins σ H s) (r:RelV x v) (f:tyV X.K T x H) :
  s.TypeIs v T/\∀a,v=.ref a->∃h,s.heap.get? a=some h/\h.dict=none:=by
 cases x with
 |str z=>
  obtain⟨t,rfl⟩:=r;cases (show T="str" from f);exact⟨typeIs_str s z t,λ_ e=>nomatch e⟩
 |int i=>
  obtain⟨t,rfl⟩:=r;cases (show T="int" from f);exact⟨typeIs_int s i t,λ_ e=>nomatch e⟩
 | ref p=>
  cases r;rcases f with⟨rfl,xs,j⟩ |⟨rfl,o,b,l,hd⟩ |⟨rfl,b⟩ |⟨rfl,S,n,b⟩
  ·obtain⟨its,_,pl,_⟩:=I.list j
   refine⟨pl.isList.typeIs,λa e=>?_⟩;cases e;obtain⟨o,n,e,c,hd,_⟩:=pl;exact⟨o,e,hd⟩
  ·refine⟨⟨o,I.kIn p o b,l⟩,λa e=>?_⟩
   cases e;exact⟨o,I.kIn _ o b,hd⟩
  ·have z:∃o,s.heap.get? p=some o/\o.ExactDict:=by
    rcases b with⟨kvs,b⟩ |⟨kvs,b⟩
    ·obtain⟨_,_,_,_,o,_,_,e,ex,_⟩:=I.hok p _ b
     exact⟨o,e,ex⟩
    ·obtain⟨_,_,_,_,o,_,_,e,ex,_⟩:=I.hok p _ b
     exact⟨o,e,ex⟩
   obtain⟨o,e,ex⟩:=z;refine⟨⟨o,e,ex.1⟩,λa g=>?_⟩;cases g;exact⟨o,e,ex.2.1⟩
  ·obtain⟨o,_,_,_,e,ex,_⟩:=I.hok p _ b
   refine⟨⟨o,e,ex.1⟩,λa g=>?_⟩;cases g;exact⟨o,e,ex.2.1⟩
 |_=>exact False.elim f
def tBM0(K:Fg)(T:String)(r:V->List V->Hp->VK->Prop)(to:TE):TE:=λσ H Q=>to σ H λx H1=>tyV K T x H1/\r x [] H1 Q
def tBM(K:Fg)(T:String)(r:V->List V->Hp->VK->Prop)(to:TE)(t:TA):TE:=λσ H Q=>to σ H λx H1=>tyV K T x H1/\t σ H1 λxs H2=>r x xs H2 Q
variable {o e:Expr}{es:List Expr}{to:TE}{t:TA}{name:Str}{apos cpos:Pos}{T id:String}{r:V->List V->Hp->VK->Prop}
theorem xsr (pa:PlainAttrs T) (c:Slot T name id) (e:typeOf (.builtin id)=pure (.type "method_descriptor")) (n:MtR X id r) (m:PE X o to)
  (b:attributeBase o name X.env (eval o X.env)=eval o X.env:=by rfl) (a:(apos.endLine == cpos.line)=true:=by rfl):PE X (.Call (.Attribute o name apos) [] [] cpos) (tBM0 X.K T r to):=by
 intro pins s σ H Q I h;refine wpAny_Call_method0_late b a (thn (m pins s σ H _ I h) λv j ⟨x,H1,g,f,i,l⟩=>?_);obtain⟨h1,h2⟩:=xpm g f i;exact⟨T,id,pa,c,e,h1,h2,Calls.callWith_builtin rfl (PySem.evalArgs_none (n pins j σ H1 x [] v [] Q g f .nil l))⟩
theorem xc7 (pa:PlainAttrs T) (f:Slot T name id) (i:typeOf (.builtin id)=pure (.type "method_descriptor")) (G:MtR X id r) (C:PE X o to) (J:PA X (e::es) t)
  (c:attributeBase o name X.env (eval o X.env)=eval o X.env:=by rfl)
  (g:((backTo cpos (starEach (e::es) X.env)).all (λx=>!x.1) && (backToKw cpos (keywordEach [] X.env)).all (λx=>x.1.isSome)
   && decide ((e::es).length+([]:List Keyword).length+(if ([]:List Keyword).isEmpty then 0 else 1)<30))=true:=by rfl)
  (b:(apos.endLine == cpos.line)=true:=by rfl) (hs:starEach (e::es) X.env=(false,eval e X.env)::starEach es X.env:=by rfl) (a:(backTo cpos (starEach es X.env)).any (·.1)=false:=by rfl) :
  PE X (.Call (.Attribute o name apos) (e::es) [] cpos) (tBM X.K T r to t):=by
 intro pins s σ H Q I h;refine wpAny_Call_method_late c g b rfl (thn (C pins s σ H _ I h) λv u ⟨x,H1,m,j,n,z⟩=>?_);obtain⟨h1,h2⟩:=xpm m j n;refine⟨T,id,pa,f,i,h1,h2,?_⟩;have l:=J cpos pins u σ H1 _ m z;rw[hs]at l⊢;refine Calls.callWith_builtin (by show(false || (backTo cpos (starEach es X.env)).any (·.1))=false;rw[a] <;> rfl) (Calls.evalArgs_plain ?_);exact thn l λus p ⟨vs,H2,M,w,y⟩=>G pins p σ H2 x vs v us Q M j w y
end
def MtM(X:Cx)(id:String)(r:V->List V->Hp->VK->Prop):Prop:=
 ∀(pins:List (Addr×Obj)) (s:Shared) (σ:St) (H:Hp) (x:V) (xs:List V) (v:Value) (us:List Value) (Q:VK),Inv X pins σ H s->RelV x v->Vals xs us->r x xs H Q->
  wpAny (model X.prog X.w) X.A (call (.builtin id) (v::us)) (EP X pins σ Q) X.xe s
theorem Vals.one:∀{x:V} {us:List Value},Vals [x] us->∃u,us=[u]/\RelV x u
 |_,_,.cons r .nil=>⟨_,rfl,r⟩
theorem Vals.two:∀{x y:V} {us:List Value},Vals [x,y] us->∃u v,us=[u,v]/\RelV x u/\RelV y v
 |_,_,_,.cons r (.cons q .nil)=>⟨_,_,rfl,r,q⟩
theorem Vals.zero:∀{us:List Value},Vals [] us->us=[]
 |_,.nil=>rfl
theorem Vals.eraseIdx:∀{xs:List V} {us:List Value} (i:Nat),Vals xs us->Vals (xs.eraseIdx i) (us.eraseIdx i)
 |_,_,_,.nil=>.nil
 |_,_,0,.cons _ t=>t
 |_,_,i+1,.cons r t=>.cons r (Vals.eraseIdx i t)
theorem Vals.reverse{xs:List V}{us:List Value}(h:Vals xs us):Vals xs.reverse us.reverse:=by
 induction h with
 |nil=>exact .nil
 |cons r t a=>rw[List.reverse_cons,List.reverse_cons];exact Vals.append a (.cons r .nil)
theorem Vals.rep{xs:List V}{us:List Value}(h:Vals xs us):∀k:Nat,Vals (List.replicate k xs).flatten (List.replicate k us).flatten
 |0=>.nil
 |k+1=>by
  rw[List.replicate_succ,List.replicate_succ,List.flatten_cons,List.flatten_cons];exact Vals.append h (Vals.rep h k)
theorem xij{α:Type}:∀(l:List α) (i:Nat),(l.eraseIdx i).length<=l.length
 |[],_=>Nat.le_refl _
 |_::_,0=>Nat.le_succ _
 |_::r,i+1=>Nat.succ_le_succ (xij r i)
theorem xis (its:List Value):∀(k:Nat) (acc:List Value),
  List.foldl (λb a=>b++a) acc.toArray (List.replicate k its.toArray)=(acc++(List.replicate k its).flatten).toArray
 |0,acc=>by simp
 | k+1,acc=>by
  have e:acc.toArray++its.toArray=(acc++its).toArray:=by simp
  have c:(acc++its)++(List.replicate k its).flatten=acc++(List.replicate (k+1) its).flatten:=by
   rw[List.replicate_succ,List.flatten_cons,List.append_assoc]
  rw[<- c,<- xis its k (acc++its),<- e,List.replicate_succ,List.foldl_cons]
section
variable {X:Cx}{pins:List (Addr×Obj)}{σ:St}{H:Hp}{s:Shared}{l b:Addr}{xs ys zs:List V}
theorem Inv.lset {its its':List Value} {n:Nat} {f:Array Value->Array Value} {t':Nat} (I:Inv X pins σ H s) (h:H l=some (.lst xs))
  (e:s.heap.get? l=some {cls:=.type "list",data:=.seq its.toArray n}) (c:f its.toArray=its'.toArray) (a:Vals ys its') (hz:ys.length<=sizeLine) :
  Inv X pins σ (upd H l (.lst ys)) {s with heap:=s.heap.update l (Obj.mapSeq f),toks:=t'}:=by
 have q:=PySem.IsL.update e f;rw[c]at q;refine I.write (x:=l) (e:=l) (by rw[h];exact trivial) (.inl rfl) (λi u g b=>(Heap.get?_update_other s.heap (Obj.mapSeq f) (Ne.symm g)).trans b) ⟨_,q⟩ ?_;exact⟨hz,its',_,a,q⟩
theorem Inv.lnew {its:List Value} {t':Nat} (I:Inv X pins σ H s) (a:Vals ys its) (hz:ys.length<=sizeLine) :
  Inv X pins σ (upd H s.heap.objs.size (.lst ys)) {s with heap:=s.heap.push {cls:=.type "list",data:=.seq its.toArray},toks:=t'}:=
 I.laid (λ_ _ q=>zPO _ q) (Nat.le_refl _) ⟨hz,its,0,a,Heap.get?_push_size _ rfl⟩
theorem Inv.fresh(I:Inv X pins σ H s):H s.heap.objs.size=none:=I.hok.fresh (Nat.le_refl _)
theorem Inv.lstM(I:Inv X pins σ H s)(a:H l=some (.lst xs)):xs.length<=sizeLine/\∃(its:List Value) (n:Nat),Vals xs its/\xs.length=its.length/\s.heap.get? l=some {cls:=.type "list",data:=.seq its.toArray n}:=by
 obtain⟨z,its,n,r,e⟩:=I.hok l _ a;exact⟨z,its,n,r,r.length,e⟩
theorem xoy{n:Nat}(h:n<=sizeLine):Builtin.List.listTooLong n=false:=by
 unfold Builtin.List.listTooLong;exact zDF (by omega)
end
section
variable {X:Cx}
def xqn:V->List V->Hp->VK->Prop:=λx vs H Q=>∃l xs y,x=.ref l/\vs=[y]/\H l=some (.lst xs)/\xs.length<sizeLine/\Q .non (upd H l (.lst (xs++[y])))
theorem xbt:MtM X "list.append" xqn:=by
 intro pins s σ H x vs v us Q I b c h;obtain⟨l,xs,y,rfl,rfl,a,hz,q⟩:=h;cases b;obtain⟨u,rfl,f⟩:=c.one;obtain⟨z,its,n,r,g,e⟩:=I.lstM a;refine call_meets F.slot_list_append ⟨_,e,rfl⟩ F.entry_list_append (F.args_list_append_2 _ _) (PySem.list_append l its.toArray n u (by rw[List.size_toArray];omega)) ⟨e,?_⟩;refine⟨.non,_,I.lset (its':=its++[u]) a e (by simp) (r.append (.cons f .nil)) ?_,rfl,q⟩;rw[zLA,List.length_singleton];omega
def xsh:V->List V->Hp->VK->Prop:=λx vs H Q=>∃l xs i k y,x=.ref l/\vs=[.int i]/\H l=some (.lst xs)/\-(2 ^ 63)<=i/\i<2 ^ 63/\seqIndex? i xs.length=some k/\xs[k]?=some y/\Q y (upd H l (.lst (xs.eraseIdx k)))
theorem xg9:MtM X "list.pop" xsh:=by
 intro pins s σ H x vs v us Q I c f h;obtain⟨l,xs,i,k,y,rfl,rfl,b,h1,h2,p,j,q⟩:=h;cases c;obtain⟨u,rfl,g⟩:=f.one;obtain⟨t,rfl⟩:=g;obtain⟨z,its,n,r,o,e⟩:=I.lstM b;obtain⟨w,m,a⟩:=r.get j
 refine call_meets F.slot_list_pop ⟨_,e,rfl⟩ F.entry_list_pop (F.args_list_pop_2 _ _)
  (MeetsSeq.list_pop_at l its.toArray n i t k w (fitsIndex_both h1 h2) (by rw[List.size_toArray,<- o];exact p) (by rw[<- Array.getElem?_toList];exact m) (by rw[List.size_toArray];omega)) ⟨e,?_⟩
 refine⟨y,_,I.lset (its':=its.eraseIdx k) b e ?_ (r.eraseIdx k) ?_,a,q⟩
 ·show its.toArray.eraseIdxIfInBounds k=(its.eraseIdx k).toArray
  rw[List.eraseIdxIfInBounds_toArray]
 ·have:=xij xs k
  omega
def xok:V->List V->Hp->VK->Prop:=λx vs H Q=>∃l xs,x=.ref l/\vs=[]/\H l=some (.lst xs)/\Q .non (upd H l (.lst xs.reverse))
theorem xln:MtM X "list.reverse" xok:=by
 intro pins s σ H x vs v us Q I c f h;obtain⟨l,xs,rfl,rfl,b,q⟩:=h;cases c;have a:=f.zero;subst a;obtain⟨z,its,n,r,g,e⟩:=I.lstM b;refine call_meets F.slot_list_reverse ⟨_,e,rfl⟩ F.entry_list_reverse (F.args_list_reverse_1 _) (AutoSeq1.list_reverse_list_0 l its.toArray n (by rw[List.size_toArray];omega)) ⟨e,?_⟩;refine⟨.non,_,I.lset (its':=its.reverse) b e (by simp) r.reverse ?_,rfl,q⟩;rw[List.length_reverse];omega
def rCat:R2:=λx y H Q=>∃l b xs zs,x=.ref l/\y=.ref b/\H l=some (.lst xs)/\H b=some (.lst zs)/\xs.length+zs.length<=sizeLine/\∀p,H p=none->Q (.ref p) (upd H p (.lst (xs++zs)))
theorem xgf:OpR X (binaryOp .Add) rCat:=by
 intro pins s σ H x y v u Q I f c h;obtain⟨l,b,xs,zs,rfl,rfl,j,m,hz,q⟩:=h;cases f;cases c;obtain⟨z,its,n,r,G,e⟩:=I.lstM j;obtain⟨w,a,C,g,i,p⟩:=I.lstM m;refine PySem.P.add_list e p ?_ (by rw[List.size_toArray,List.size_toArray];omega);have o:its.toArray++a.toArray=(its++a).toArray:=by simp
 rw[o];exact⟨.ref _,_,I.lnew (t':=s.toks) (r.append g) (by rw[zLA];omega),rfl,q _ I.fresh⟩
def rRep:R2:=λx y H Q=>∃l k xs,x=.ref l/\y=.int k/\H l=some (.lst xs)/\-(2 ^ 63)<=k/\k<2 ^ 63/\xs.length*k.toNat<=sizeLine ∧
 ∀p,H p=none->Q (.ref p) (upd H p (.lst (List.replicate k.toNat xs).flatten))
theorem xra{α:Type}(xs:List α)(k:Nat):(List.replicate k xs).flatten.length=k*xs.length:=by
 induction k with
 |zero=>simp
 |succ k a=>rw[List.replicate_succ,List.flatten_cons,zLA,a,Nat.succ_mul,Nat.add_comm]
theorem xss:OpR X (binaryOp .Mult) rRep:=by
 intro pins s σ H x y v u Q I w p h;obtain⟨l,k,xs,rfl,rfl,G,h1,h2,hz,q⟩:=h;cases w;obtain⟨t,rfl⟩:=p;obtain⟨z,its,n,r,C,e⟩:=I.lstM G;have f:its.toArray.size*k.toNat<=sizeLine:=by rw[List.size_toArray,<- C];exact hz
 have i:¬its.toArray.size*k.toNat > (2 ^ 63-1) / 8:=by
  have:(sizeLine:Nat)<=(2 ^ 63-1) / 8:=by decide
  omega
 have g:¬(!Builtin.List.listFitsIndex k)=true:=by
  rw[fitsIndex_both h1 h2];exact Bool.false_ne_true
 have b:¬Builtin.List.listTooLong (its.toArray.size*k.toNat)=true:=by
  rw[xoy f];exact Bool.false_ne_true
 have c:List.foldl (λo j=>o++j) #[] (List.replicate (if its.toArray.isEmpty=true then 0 else k.toNat) its.toArray)=(List.replicate k.toNat its).flatten.toArray:=by
  have J:∀m:Nat,List.foldl (λo j=>o++j) #[] (List.replicate m its.toArray)=(List.replicate m its).flatten.toArray:=λm=>by
   have:=xis its m [];rw[List.nil_append]at this;exact this
  rw[J]
  cases its with
  |nil=>simp
  |cons a M=>rw[if_neg (by simp)]
 refine wpAny_binaryOp_repeat_ref (T:="list") (U:="int") (by decide) ⟨_,e,rfl⟩ (λs'=>typeIs_int s' k t) noFill_list_mul F.fills_int_mul F.slot_int_rmul repeat_list F.slot_int_index.lookup
  (call_meets F.slot_int_rmul (typeIs_int s k t) F.entry_int_rmul (F.args_int_rmul_2 _ _) (int___rmul___int_list k t l its.toArray n)
   ⟨e,rfl,⟨_,e,rfl⟩,call_meets F.slot_list_mul ⟨_,e,rfl⟩ F.entry_list_mul (F.args_list_mul_2 _ _) (AutoListH.list___mul___list_int_3 l its.toArray n k t g i b) ⟨e,?_⟩⟩)
 rw[c];exact⟨.ref _,_,I.lnew (t':=s.toks) (r.rep k.toNat) (by rw[xra,Nat.mul_comm];exact hz),rfl,q _ I.fresh⟩
end
end L2
namespace Att
open PySem PySem.W PySem.Calls PyProof.Rows
theorem xfo{P:Params}{h:Heap}:∀(ns:List Int) (vs:List Value),WellAll P h vs (ns.map WData.int)->IntsAre vs ns:=by
 intro ns
 induction ns with
 |nil=>
  intro vs w;rw[List.map_nil]at w;cases w;exact .nil
 | cons n ns c=>
  intro vs w;rw[List.map_cons]at w
  cases w with
  |cons a b=>
   cases a;exact .cons _ _ (c _ b)
theorem xmh {l:OpenLaw} {n:Nat} (hn:l.most=some n) {P:Params} {h:Heap} {args:List WData} {b:List Value}
  (c:l.row.toRowW.claim.pre args=true) (j:WellAll P h b args) :
  ∃a vs ns,b=[Value.ref a]/\args=[WData.list (ns.map WData.int)]/\h.get? a=some {cls:=.type "list",data:=.seq vs.toArray}/\IntsAre vs ns/\ns.length<=n:=by
 have m:WShape.hasAll [] args [.list .int]=true:=(pre_splitW c).1;have o:l.pre.holds [] {args:=args}=true:=(pre_splitW c).2;obtain⟨d,r,rfl,h1,h2⟩:=hasAllW_cons m;obtain rfl:=hasAllW_nil h2;obtain⟨xs,rfl,x⟩:=hasW_list h1;obtain⟨ns,rfl⟩:=items_int x
 have e:ns.length<=n:=by
  unfold OpenLaw.pre at o
  have i:(WTm.not (.lt (.lit (.int (n:Int))) (.len (.arg 0)))).holds [] {args:=[.list (ns.map .int)]}=true:=by
   have i:=(holds_andW o).1;rw[hn]at i;exact i
  have g:=condW_of i (w_not (w_lt w_lit (w_len_list (w_arg rfl))));rw[zLM]at g;refine Nat.le_of_not_lt λq=>?_;have u:(n:Int)<((ns.length:Nat):Int):=by omega
  first
   |(rw[zDT u]at g;exact absurd g (by decide))
   |(simp at g;omega)
 cases j with
 |cons s p=>
  cases p
  cases s with
  |list w f=>exact⟨_,_,ns,rfl,rfl,w,xfo ns _ f,e⟩
theorem xmm(l:OpenLaw)(args:List WData):l.row.toRowW.claim.post args (.bool true) args=true:=
 postW_of (r:=l.row.toRowW) (X:=(true == true))
  (show WShape.has [] (.bool true) .bool=true by first |rfl |decide |simp[WShape.has,WShape.arms,WShape.armsAll])
  (show(WTm.eq .res (.lit (.bool true))).value [] {args:=args,res:=some (.bool true),after:=args}=some (.bool (true == true)) from w_eq_bool (w_res rfl) w_lit) rfl
theorem attach_call {l:OpenLaw} {n:Nat} {q:Program} {loose:List Str} {XP:(Str->Option Value)->Heap->Prop} {YP:World->Heap->Prop} {d:DefRec}
  (hn:l.most=some n) (hdf:d.params.defaults=[])
  (call:∀(w:World) (s₀ s₁:Shared) (mg mb:Str->Option Value) (fa:Addr) (o:Obj) (pm cd doc:Value) (a:Addr) (vs:List Value) (ns:List Int),
   Ground q loose [] XP w s₀ mg mb s₁.heap->YP w s₁.heap->
   s₁.heap.get? fa=some o->o.data=.func (docDef d.name d.params d.body d.scope pm cd doc)->s₁.heap.CodeRec cd d.name->mg d.name=some (.ref fa)->
   s₁.heap.get? a=some {cls:=.type "list",data:=.seq vs.toArray}->IntsAre vs ns->ns.length<=n->s₁.gens=#[]->
   codeAny (model l.prog w) callerA (.call (.ref fa) ⟨[.ref a],[]⟩) (λr s'=>r=.ok (.ret (.bool true))/\OldK s₁.heap s'.heap/\s'.os=s₁.os/\AllBare s'.gens) s₁) :
  WalkO q loose XP YP l.row.toRowW d [] (λf vs=>PySem.call f vs):=by
 intro w s₀ s₁ mg mb G Y fa o pm cd doc dV kV ho hd hcd hD hmg hg args vals as hpre hlay hrd hwl hlo;obtain rfl:dV=.none:=Dflts.none hD hdf;obtain rfl:kV=.none:=Dflts.noKw hD;obtain⟨a,vs,ns,rfl,rfl,hobj,hints,hlen⟩:=xmh hn hpre hwl;refine enter_call (codeAny_mono (call w s₀ s₁ mg mb fa o pm cd doc a vs ns G Y ho (fd_plain hd) hcd hmg hobj hints hlen hg) λr s' hq=>?_);obtain⟨rfl,h2,h3,h4⟩:=hq;exact⟨.inl ⟨.bool true,.bool true,[],rfl,λ_=>rfl,.bool true,xmm l _,λ_=>⟨List.Pairwise.nil,λ_ hm=>(nomatch hm)⟩⟩,h2,h3,h4⟩
end Att
namespace L2
open PySem PySem.Spec PyProof.Rows
theorem xhh:∀{vs:List Value} {ns:List Int},IntsAre vs ns->Vals (ns.map V.int) vs
 |_,_,.nil=>.nil
 |_,_,.cons n t h=>.cons ⟨t,rfl⟩ (xhh h)
def Only(H:Hp):Prop:=∀b,H b=none\/∃o xs,H b=some (.frz o (.lst xs))
theorem xo5 {P:Program} {w:World} {K:Fg} {mg mb:Str->Option Value} {CX:CXT} {k:Nat} {fa a:Addr} {fd:FuncData} {x:Str} {sp:Sp} {s₁:Shared} {vs:List Value} {ns:List Int}
  (KX:K.In s₁.heap) (hns:s₁.heap.Ns mainGlobals mg) (hb:s₁.heap.Ns builtinsNs mb) (hbb:∀x:Str,x≠"__name__"->mb x=bootBuiltins x) (hlim:s₁.heap.NoLimit) (hg:s₁.gens=#[])
  (ha:s₁.heap.get? a=some {cls:=.type "list",data:=.seq vs.toArray}) (hi:IntsAre vs ns) (hl:ns.length<=sizeLine) (hr:Room k callerA)
  (F:∀base:Heap,K.In base->base.Ns mainGlobals mg->FnOk P w K mg base CX k fa fd [x] sp) (hbind:∀(s:Shared) (u:Value),BindsTo s fd ⟨[u],[]⟩ [(x,u)])
  (hsp:∀H:Hp,Only H->SqL K H a (ns.map V.int)->sp [.ref a] H (λv _=>v=.bl true) λ_ _ _=>False)
  (hCX:∀H e s',CX [] H s₁ (λ_ _ _=>False) e s'->False) :
  codeAny (model P w) callerA (.call (.ref fa) ⟨[.ref a],[]⟩) (λr s'=>r=.ok (.ret (.bool true))/\OldK s₁.heap s'.heap/\s'.os=s₁.os/\AllBare s'.gens) s₁:=by
 have rv:=xhh hi;have lenV:=hi.length
 have core:∀H:Hp,Only H->SqL K H a (ns.map V.int)->HOk P w H s₁.heap->(∀b,H b≠none->b=a)->(H a≠none->K.lookup a=none)->
   codeAny (model P w) callerA (.call (.ref fa) ⟨[.ref a],[]⟩) (λr s'=>r=.ok (.ret (.bool true))/\OldK s₁.heap s'.heap/\s'.os=s₁.os/\AllBare s'.gens) s₁:=by
  intro H hO hS hok hA hK;have base_of:∀{b:Addr} {o:Obj},s₁.heap.get? b=some o->H b=none->(hidT s₁.heap H).get? b=some o:=λe n=>xo9 e n
  have noA:∀{b:Addr} {o:Obj} {es:Array DictEntry} {ep:Nat},s₁.heap.get? b=some o->o.data=.dict es ep->H b=none:=λ{b o es ep} e d=>by
   cases q:H b with
   |none=>rfl
   |some u=>
    have e':b=a:=hA b (by rw[q];simp);subst e';rw[ha]at e;cases e;have d':Data.seq vs.toArray _=Data.dict es ep:=d;cases d'
  have nsK:∀{b:Addr} {m:Str->Option Value},s₁.heap.Ns b m->(hidT s₁.heap H).Ns b m:=λ{b m} ⟨o,es,ep,e,d,r⟩=>⟨o,es,ep,base_of e (noA e d),d,r⟩
  have hKb:K.In (hidT s₁.heap H):=λb o e=>base_of (KX b o e) (by
   cases q:H b with
   |none=>rfl
   |some u=>
    have e':b=a:=hA b (by rw[q];simp);subst e';rw[hK (by rw[q];simp)]at e;cases e)
  have hM:Mod K mg (hidT s₁.heap H):=⟨hKb,nsK hns,⟨mb,nsK hb,hbb⟩,let ⟨mc,h1,h2⟩:=hlim;⟨mc,nsK h1,h2⟩⟩;have e0:Env0 P w K mg (hidT s₁.heap H) callerA [] s₁ H:=⟨rfl,hM,λb o e=>xqy e,Nat.le_of_eq (xnp _ _),trivial,λb hb=>absurd (show b∈([]:List Addr) from hb) (by simp),hok,.of_eq hg⟩;refine codeAny_mono ((F _ hKb (nsK hns)).run callerA [] s₁ H ⟨[.ref a],[]⟩ [.ref a] [.ref a] _ _ hr e0 (hbind s₁ (.ref a)) (.cons rfl .nil) (hsp H hO hS)) λr s' h=>?_
  cases r with
  |error e=>exact(hCX H e s' h).elim
  | ok fl=>
   cases fl with
   |next=>exact False.elim h
   |brk=>exact False.elim h
   |cont=>exact False.elim h
   | ret u=>
    obtain⟨v,H',os,bare,un,hok',r',q⟩:=h;have q':v=.bl true:=q;subst q';obtain rfl:u=Value.bool true:=r';refine⟨rfl,OldK.of_keep λb o e=>?_,os,bare⟩
    cases q:H b with
    |none=>exact un.keep b o e q (by intro z;exact absurd (show b∈([]:List Addr) from z) (by simp)) (by simp)
    | some u=>
     rcases hO b with z |⟨ob,xs,z⟩
     ·rw[q]at z;cases z
     ·have z2:=un.frzs b ob _ z
      obtain⟨e1,_⟩:=hok b _ z;obtain⟨e2,_⟩:=hok' b _ z2;rw[e]at e1;cases e1;exact e2
 cases hk:K.lookup a with
 |some o=>
  have e:=KX a o hk;rw[ha]at e;cases e;refine core (λ_=>none) (λ_=>.inl rfl) (.inr ⟨_,vs.toArray,_,hk,rfl,rfl,rfl,by rw[List.size_toArray,lenV];exact hl,by simpa using rv⟩) (λb u z=>by have z':(none:Option HO)=some u:=z;cases z') (λb z=>absurd rfl z) λz=>absurd rfl z
 | none=>
  refine core (λb=>if b=a then some (.frz {cls:=.type "list",data:=.seq vs.toArray} (.lst (ns.map V.int))) else none) (λb=>?_) (.inl (.inr ⟨{cls:=.type "list",data:=.seq vs.toArray},if_pos rfl⟩)) (λb u z=>?_) (λb z=>?_) λ_=>hk
  ·by_cases hb:b=a
   ·exact .inr ⟨_,_,if_pos hb⟩
   ·exact .inl (if_neg hb)
  ·by_cases hb:b=a
   ·have z':=(if_pos hb).symm.trans z
    cases z';subst hb;exact⟨ha,by rw[zLM];exact hl,vs,_,rv,ha⟩
   ·have z':=(if_neg hb).symm.trans z
    cases z'
  ·by_cases hb:b=a
   ·exact hb
   ·exact absurd (if_neg hb) z
abbrev KOf{K:Fg}{h:Heap}(_:K.In h):Fg:=K
theorem walk_of {l:PySem.W.OpenLaw} {n k:Nat} {q:Program} {loose:List Str} {XP:(Str->Option Value)->Heap->Prop} {YP:World->Heap->Prop} {d:DefRec} {K:Params->Fg} {CX:World->CXT} {sp:World->Sp} {x:Str}
  (hn:l.most=some n) (hn2:n<=sizeLine) (hdf:d.params.defaults=[]) (hr:Room k callerA)
  (hY:∀(w:World) (h:Heap),YP w h->(K w.params).In h)
  (F:∀(w:World) (mg:Str->Option Value) (fa:Addr) (h:Heap),(K w.params).In h->h.Ns mainGlobals mg->mg d.name=some (.ref fa)->
   ∃fd:FuncData,(∀(s:Shared) (u:Value),BindsTo s fd ⟨[u],[]⟩ [(x,u)]) ∧
    ∀base:Heap,(K w.params).In base->base.Ns mainGlobals mg->FnOk l.prog w (K w.params) mg base (CX w) k fa fd [x] (sp w))
  (hsp:∀(w:World) (H:Hp) (a:Addr) (ns:List Int),ns.length<=n->Only H->SqL (K w.params) H a (ns.map V.int)->sp w [.ref a] H (λv _=>v=.bl true) λ_ _ _=>False)
  (hCX:∀(w:World) (H:Hp) (s:Shared) (e:Value) (s':Shared),CX w [] H s (λ_ _ _=>False) e s'->False) :
  PySem.W.WalkO q loose XP YP l.row.toRowW d [] (λf vs=>PySem.call f vs):=by
 refine Att.attach_call hn hdf λw s₀ s₁ mg mb fa o pm cd doc a vs ns G Y ho hd hcd hmg hobj hints hlen hg=>?_;have KX:=hY w _ Y;obtain⟨fd,hb,hF⟩:=F w mg fa _ KX G.T.g hmg;exact xo5 KX G.T.g G.T.b G.T.builtins G.T.nolimit hg hobj hints (Nat.le_trans hlen hn2) hr hF hb (λH hO hS=>hsp w H a ns hlen hO hS) λH e s'=>hCX w H s₁ e s'
def xdc(s:Stmt):Arguments:=match s with
 |.FunctionDef _ a _ _ _ _ _ _ _ _=>a
 |_=>{posonlyargs:=[],args:=[],vararg:=none,kwonlyargs:=[],kw_defaults:=[],kwarg:=none,defaults:=[]}
def xcw(s:Stmt):List Stmt:=match s with
 |.FunctionDef _ _ b _ _ _ _ _ _ _=>b
 |_=>[]
def xac(s:Stmt):Scope:=match s with
 |.FunctionDef _ _ _ _ _ _ sc _ _ _=>sc
 |_=>{kind:=.function,names:=[],isGenerator:=false,isCoroutine:=false}
abbrev CX0:CXT:=λ_ _ _ _ _ _=>False
abbrev E0:XK:=λ_ _ _=>False
theorem xmp{X:Cx}:xfv CX0 X E0:=λ_ _ _ _ _ _ _ h=>h.elim
structure Fun(K:Fg)(x qual:Str)(st:Stmt)(f:Addr)(fd:FuncData):Prop where
 ex:∃(oc:Value) (od:Option Addr) (kV doc pm:Value) (an:Option Addr) (cdv ct:Value) (osl:Array (Option Value)),
  fd=PySem.W.fnOf x qual (xdc st) (xcw st) (xac st) .none kV doc pm an cdv ct/\K.lookup f=some ⟨oc,od,.func fd,osl⟩/\PySem.W.codeIn K cdv qual=true
 kp:PySem.W.keepIn K (.ref f)=true
section
variable {P:Program}{w:World}{K:Fg}{mg:Str->Option Value}{base:Heap}
theorem Fun.ok {x qual:Str} {st:Stmt} {f:Addr} {fd:FuncData} {N ps:List Str} {k:Nat} {sp:Sp} (F:Fun K x qual st f fd) (S:FnScope N ps (xac st)) (len:∀vs H Q E,sp vs H Q E->vs.length=ps.length)
  (hbody:∀(cdv:Value) (A:Around) (outer:List Env) (s:Shared) (H:Hp) (vs:List V) (Q:VK) (E:XK),Room k (A.deeper (envOfC qual (xac st) s.heap.objs.size f cdv))->sp vs H Q E->
   ∃t,PSs (cxOf CX0 P w K mg base N qual (xac st) f cdv A outer s H E).nox (xcw st) t/\t {nx:=λ_ H'=>Q .non H',rt:=Q} (xer N vs) H):FnOk P w K mg base CX0 (k+1) f fd ps sp:=by
 obtain⟨oc,od,kV,doc,pm,an,cdv,ct,osl,rfl,lk,hcd⟩:=F.ex;refine xs9 lk hcd S len λA outer s H vs Q E hr hsp=>?_;obtain⟨t,h,q⟩:=hbody cdv A outer s H vs Q E hr hsp;exact⟨t,h.nox,q⟩
theorem xs8 {x a:Str} {st:Stmt} {f:Addr} {j:Value} {od i:Option Addr} {g:Array (Option Value)} {kV e h b ct:Value} (l:K.lookup f=some ⟨j,od,.func (PySem.W.fnOf x a (xdc st) (xcw st) (xac st) .none kV e h i b ct),g⟩)
  (c:PySem.W.codeIn K b a=true) (k:PySem.W.keepIn K (.ref f)=true):Fun K x a st f (PySem.W.fnOf x a (xdc st) (xcw st) (xac st) .none kV e h i b ct):=⟨⟨j,od,kV,e,h,i,b,ct,g,rfl,l,c⟩,k⟩
end
theorem xeg{A:Around}{k:Nat}(a:Room k A):A.units+1<cLine:=Nat.lt_of_le_of_lt (Nat.add_le_add_left (by decide:1<=64) _) a.units
section
variable {X:Cx}
theorem pv (i:Nat) {x:Str} {pos:Pos} (c:X.N[i]?=some x:=by rfl) (b:Vis X.env.scope x:=by first |exact Or.inl rfl |exact Or.inr (Or.inl rfl) |exact Or.inr (Or.inr rfl)) (hd:(x == ("__debug__":Str))=false:=by decide)
  (a:(x == ("__classdict__":Str))=false:=by decide):PE X (.Name x pos) (tVar i):=xsn c b hd a
end
theorem iteF{A B:Prop}(h:B):if false=true then A else B:=by
 rw[if_neg Bool.false_ne_true];exact h
theorem iteT{A B:Prop}(h:A):if true=true then A else B:=by
 rw[if_pos rfl];exact h
theorem ite2{c A B:Prop}[Decidable c](h1:c->A)(h2:¬c->B):if c then A else B:=by
 by_cases h:c
 ·rw[if_pos h]
  exact h1 h
 ·rw[if_neg h]
  exact h2 h
def Same(H H':Hp):Prop:=∀b o,H b=some o->H' b=some o
theorem Same.refl(H:Hp):Same H H:=λ_ _ h=>h
theorem Same.trans{H H1 H2:Hp}(a:Same H H1)(b:Same H1 H2):Same H H2:=λc o h=>b c o (a c o h)
theorem Same.seq{K:Fg}{H H':Hp}{a:Addr}{xs:List V}(e:Same H H')(h:SqL K H a xs):SqL K H' a xs:=by
 rcases h with(h |⟨o,h⟩) |h
 ·exact .inl (.inl (e _ _ h))
 ·exact .inl (.inr ⟨o,e _ _ h⟩)
 ·exact .inr h
def clOf(env:Env):List (Str×NameKind)->List (Str×Addr)->List (Str×Addr)
 |[],cs=>cs
 |(n,k)::r,cs=>clOf env r (if k == .free then match env.cells.lookup n with |some a=>(n,a)::cs |none=>cs else cs)
theorem xiw{env:Env}{x:Str}{c:Addr}:∀{ns:List (Str×NameKind)} {cs:List (Str×Addr)},(∀p∈cs,env.cells.lookup p.1=some p.2)->(clOf env ns cs).lookup x=some c->env.cells.lookup x=some c
 |[],cs,h,e=>by
  unfold clOf at e;exact h (x,c) (PySem.mem_of_lookup e)
 | (n,k)::r,cs,h,e=>by
  unfold clOf at e;refine xiw (ns:=r) ?_ e;intro p b;split at b
  ·split at b
   ·rename_i a f
    rcases zMC b with rfl |b
    ·exact f
    ·exact h p b
   ·exact h p b
  ·exact h p b
theorem xd0{x:Str}:∀{cs:List (Str×Addr)},(∃c,(x,c)∈cs)->∃c,cs.lookup x=some c
 |[],⟨_,h⟩=>nomatch h
 | (n,a)::r,⟨c,h⟩=>by
  rw[List.lookup_cons]
  cases e:x == n with
  |true=>exact⟨a,rfl⟩
  | false=>
   rcases zMC h with h |h
   ·cases h
    rw[beq_self_eq_true]at e;cases e
   ·exact xd0 ⟨c,h⟩
theorem xk4{env:Env}{x:Str}:∀{ns:List (Str×NameKind)} {cs:List (Str×Addr)},((∃c,(x,c)∈cs)\/((x,NameKind.free)∈ns/\∃c,env.cells.lookup x=some c))->∃c,(x,c)∈clOf env ns cs
 |[],cs,h=>by
  unfold clOf;rcases h with h |⟨h,_⟩
  ·exact h
  ·cases h
 | (n,k)::r,cs,h=>by
  unfold clOf;refine xk4 (ns:=r) ?_;rcases h with⟨c,h⟩ |⟨h,c,a⟩
  ·refine .inl ⟨c,?_⟩
   split
   ·split
    ·exact List.mem_cons_of_mem _ h
    ·exact h
   ·exact h
  ·rcases zMC h with h |h
   ·cases h
    refine .inl ⟨c,?_⟩;rw[if_pos (by decide),a];exact List.mem_cons_self
   ·exact .inr ⟨h,c,a⟩
theorem xej{a:Scope}{env:Env}(h:∀p∈a.names,p.2=NameKind.free->∃c,env.cells.lookup p.1=some c):closureFor a env=pure (clOf env a.names []):=by
 have go:∀(ns:List (Str×NameKind)) (cs:List (Str×Addr)),(∀p∈ns,p.2=NameKind.free->∃c,env.cells.lookup p.1=some c)->
   (forIn ns cs λ(x:Str×NameKind) (r:List (Str×Addr))=>(if (x.2 == NameKind.free)=true then do
     let y <- cellOf env x.1
     pure (ForInStep.yield ((x.1,y)::r)) else pure (ForInStep.yield r):Sem (ForInStep (List (Str×Addr)))))=(pure (clOf env ns cs):Sem (List (Str×Addr))):=by
  intro ns
  induction ns with
  |nil=>intro cs _;rfl
  | cons p r f=>
   intro cs e;obtain⟨n,k⟩:=p;rw[List.forIn_cons];unfold clOf;by_cases g:k=NameKind.free
   ·subst g
    obtain⟨c,i⟩:=e (n,.free) List.mem_cons_self rfl;have l:cellOf env n=pure c:=by unfold cellOf;rw[i]
    simp only[beq_self_eq_true,if_true,l,i,pure_bind];exact f _ λq b=>e q (List.mem_cons_of_mem _ b)
   ·have j:(k == NameKind.free)=false:=by simpa using g
    simp only[j,Bool.false_eq_true,if_false,pure_bind];exact f _ λq b=>e q (List.mem_cons_of_mem _ b)
 unfold closureFor;have:=go a.names [] h;simp only[bind_pure_comp,id_map']at this⊢;rw[this];rfl
theorem xcn {env:Env} {x:Str} {k':NameKind}:∀{ns:List (Str×NameKind)},
  (ns.map λ(n,k)=>if (k == NameKind.free && env.scope.kind == .function && env.kindOf n == some .cell) then (n,NameKind.cell) else (n,k)).lookup x=some k'->
  ∃k,ns.lookup x=some k/\(k'=k\/(k=.free/\k'=.cell))
 |[],h=>by simp at h
 | (n,k)::r,h=>by
  have h':List.lookup x ((if (k == NameKind.free && env.scope.kind == .function && env.kindOf n == some .cell)=true then (n,NameKind.cell) else (n,k))::(r.map λ(n,k)=>if (k == NameKind.free && env.scope.kind == .function && env.kindOf n == some .cell) then (n,NameKind.cell) else (n,k)))=some k':=h;rw[List.lookup_cons];by_cases a:(k == NameKind.free && env.scope.kind == .function && env.kindOf n == some .cell)=true
  ·rw[if_pos a,List.lookup_cons]at h'
   cases e:x == n with
   |true=>
    rw[e]at h';cases h';refine⟨k,rfl,.inr ⟨?_,rfl⟩⟩;rw[Bool.and_eq_true,Bool.and_eq_true]at a;exact eq_of_beq a.1.1
   |false=>
    rw[e]at h';exact xcn h'
  ·rw[if_neg a,List.lookup_cons]at h'
   cases e:x == n with
   |true=>
    rw[e]at h';cases h';exact⟨_,rfl,.inl rfl⟩
   |false=>
    rw[e]at h';exact xcn h'
theorem xd5 {env:Env} {x:Str} {k:NameKind}:∀{ns:List (Str×NameKind)},ns.lookup x=some k->
  ∃k',(ns.map λ(n,k)=>if (k == NameKind.free && env.scope.kind == .function && env.kindOf n == some .cell) then (n,NameKind.cell) else (n,k)).lookup x=some k'/\(k'=k\/(k=.free/\k'=.cell))
 |[],h=>by simp at h
 | (n,b)::r,h=>by
  show ∃k',List.lookup x ((if (b == NameKind.free && env.scope.kind == .function && env.kindOf n == some .cell)=true then (n,NameKind.cell) else (n,b))::(r.map λ(n,k)=>if (k == NameKind.free && env.scope.kind == .function && env.kindOf n == some .cell) then (n,NameKind.cell) else (n,k)))=some k'/\_;rw[List.lookup_cons]at h;by_cases a:(b == NameKind.free && env.scope.kind == .function && env.kindOf n == some .cell)=true
  ·rw[if_pos a,List.lookup_cons]
   cases e:x == n with
   |true=>
    rw[e]at h;cases h;refine⟨_,rfl,.inr ⟨?_,rfl⟩⟩;rw[Bool.and_eq_true,Bool.and_eq_true]at a;exact eq_of_beq a.1.1
   |false=>
    rw[e]at h;exact xd5 h
  ·rw[if_neg a,List.lookup_cons]
   cases e:x == n with
   |true=>
    rw[e]at h;cases h;exact⟨_,rfl,.inl rfl⟩
   |false=>
    rw[e]at h;exact xd5 h
abbrev Cap:=List (Option Nat)
def capt(ix:Cap)(σ:St):St:=ix.map λo=>(o.bind λj=>σ[j]?).join
def xph(N N':List Str)(sc sc':Scope)(ix:Cap):Bool:=
 (ix.length == N'.length) && (sc'.kind == .function) &&
 (sc'.names.all λp=>p.2 != .cell && (p.2 != .local || sc'.names.lookup p.1 == some .local) && (p.2 != .free || (sc.names.lookup p.1 == some .cell || sc.names.lookup p.1 == some .free))) &&
 (List.range ix.length).all λk=>match ix[k]? with
  |some (some j)=>match N'[k]? with
   |some x=>N[j]? == some x && sc'.names.lookup x == some .free
   |none=>false
  |_=>true
structure CapOk(N N':List Str)(sc sc':Scope)(ix:Cap):Prop where
 len:ix.length=N'.length
 kind:sc'.kind=.function
 nocell:∀p∈sc'.names,p.2≠.cell
 loc:∀p∈sc'.names,p.2=.local->sc'.names.lookup p.1=some .local
 fre:∀p∈sc'.names,p.2=.free->sc.names.lookup p.1=some .cell\/sc.names.lookup p.1=some .free
 cap:∀(k j:Nat),ix[k]?=some (some j)->∃x,N'[k]?=some x/\N[j]?=some x/\sc'.names.lookup x=some .free
theorem xk6{N g:List Str}{i a:Scope}{ix:Cap}(h:xph N g i a ix=true):CapOk N g i a ix:=by
 unfold xph at h;simp only[Bool.and_eq_true,List.all_eq_true,beq_iff_eq]at h;obtain⟨⟨⟨s,r⟩,f⟩,o⟩:=h;refine⟨s,r,λp b=>?_,λp b m=>?_,λp b n=>?_,λk j l=>?_⟩
 ·have:=(f p b).1.1
  simpa using this
 ·have:=(f p b).1.2
  rw[m]at this;simpa using this
 ·have:=(f p b).2
  rw[n]at this;simpa using this
 ·have c:k<ix.length:=(zES l).1
  have:=o k (List.mem_range.mpr c);rw[l]at this;simp only at this
  cases e:g[k]? with
  |none=>rw[e]at this;simp at this
  |some x=>
   rw[e]at this;simp only[Bool.and_eq_true,beq_iff_eq]at this;exact⟨x,rfl,this.1,this.2⟩
abbrev Cx.comp(X:Cx)(sc:Scope)(N':List Str)(C:Addr)(s₀:Shared)(H₀:Hp)(ex:List Addr):Cx:=
 {X with N:=N',s₀:=s₀,H₀:=H₀,env:=compEnvC sc (clOf X.env sc.names []) C X.env,outer:=X.stack,stack:=X.stack,ex:=ex,fn:=λ_=>false,pn:=[],xe:=λ_ _=>False}
def Ext(σ σ':St):Prop:=σ.length=σ'.length/\∀(i:Nat) v,σ[i]?=some (some v)->σ'[i]?=some (some v)
theorem xfs{σ:St}{i:Nat}{v:Option V}(h:σ[i]?=some none):Ext σ (σ.set i v):=by
 refine⟨by simp,λj w e=>?_⟩;by_cases a:i=j
 ·subst a;rw[h]at e;cases e
 ·rw[List.getElem?_set_ne a];exact e
def PTs(X:Cx)(ifs:List Expr)(t:TT):Prop:=
 ∀(pins:List (Addr×Obj)) (s:Shared) (σ:St) (H:Hp) (Q:Bool->Hp->Prop),Inv X pins σ H s->t σ H Q->
  wpAny (model X.prog X.w) X.A (forIn ifs true λc r=>if r=true then do let ok <- isTrue c X.env (eval c X.env);pure (ForInStep.yield ok) else pure (ForInStep.yield r)) (TP X pins σ Q) X.xe s
def tYes:TT:=λ_ H Q=>Q true H
theorem xbr{X:Cx}:PTs X [] tYes:=λ_ _ _ H _ I h=>wpAny_tests_nil ⟨H,I,h⟩
theorem xd6{X:Cx}{c:Expr}{t:TT}(h:PT X c t):PTs X [c] t:=λa s σ H Q I b=>wpAny_tests_one (h a s σ H Q I b)
def xfw(J:It)(ix:Cap)(g:TG)(tt:TT)(te:TE)(σ:St)(H1:Hp)(Q:VK):Prop:=∃W:Nat->Nat->List V->Hp->Prop,(∃m,W 0 m [] H1)/\∀i m ys H,W i m ys H->
 (J.stop i H/\∀D,H D=none->Q (.ref D) (upd H D (.lst ys))) ∨
 (J.go i H/\ys.length<sizeLine/\∀x H',J.yld i H x H'->g x (capt ix σ) H' λσ2 H2=>Ext (capt ix σ) σ2/\tt σ2 H2 λb H3=>
  if b=true then te σ2 H3 λy H4=>∃m',m'<m/\W (i+1) m' (ys++[y]) H4 else ∃m',m'<m/\W (i+1) m' ys H3)
def xr5(ix:Cap)(wi:TI)(g:TG)(tt:TT)(te:TE):TE:=λσ H Q=>wi σ H λJ H1=>xfw J ix g tt te σ H1 Q
theorem HOk.track{P:Program}{w:World}{H:Hp}{h:Heap}{a:Addr}{o:HO}(x:HOk P w H h)(hn:H a=none)(new:ObjOk P w (upd H a o) h a o):HOk P w (upd H a o) h:=λb u e=>by
 by_cases f:b=a
 ·subst f;rw[ups]at e;cases e;exact new
 ·rw[xao f]at e
  exact(x b u e).stay (λc v _ q=>q) (λc q=>by rw[xao (neN q hn)];exact q) λc xs q=>by rw[xao (neN q hn)];exact q
theorem xdx {prog:Program} {w:World} {A:Around} {R:Result->Shared->Prop} {s:Shared} {i a f:Expr} {g:List Expr} {b:Scope} {pos:Pos} {it acc:Value} {env:Env} (I:Nat->Shared->Prop)
  (j:∀ n s,I n s->wpAny (model prog w) A (pyNext it) (λr p=>match r with
   |none=>R (.ok .next) p
   | some v=>wpAny (model prog w) A (letOwnedTupleGo a it v) (λ_ l=>wpAny (model prog w) A (assign a env v) (λ_ C=>
     wpAny (model prog w) A (forIn g true λc r=>if r=true then do let ok <- isTrue c env (eval c env);pure (ForInStep.yield ok) else pure (ForInStep.yield r)) (λok o=>
      if ok=true then wpAny (model prog w) A (eval i env) (λx z=>
       wpAny (model prog w) A (call (.builtin "list.append") [acc,x]) (λ_ y=>∃m,m<n/\I m y) (notedBy (model prog w) A env λe s'=>R (.error e) s') z) (notedBy (model prog w) A env λe s'=>R (.error e) s') o
      else ∃m,m<n/\I m o) (notedBy (model prog w) A env λe s'=>R (.error e) s') C) (notedBy (model prog w) A env λe s'=>R (.error e) s') l) (notedBy (model prog w) A env λe s'=>R (.error e) s') p) (notedBy (model prog w) A env λe s'=>R (.error e) s') s)
  (n:Nat) (h:I n s) :
  codeAny (model prog w) A (.compLoop (.ListComp i [⟨a,f,g,0⟩] b pos) 0 it acc env) R s:=by
 refine codeAny_loop rfl I (λn s U=>?_) n h;show wpAny _ A ((compTurn (.ListComp i [⟨a,f,g,0⟩] b pos) 0 it acc env).onRaise (λx=>do noteFrame x env;theTreesLotGoes x)) _ _ s;refine wpAny_noted ?_;rw[compTurn_list];refine wpAny_bind (wpAny_standAt (wpAny_bind (wpAny_mono (j n s U) (λr p h₁=>?_) λ_ _ h'=>h')))
 cases r with
 |none=>exact wpAny_pure h₁
 | some v=>
  refine wpAny_bind (wpAny_mono h₁ (λ_ l u=>?_) λ_ _ h'=>h');refine wpAny_bind (wpAny_mono u (λ_ C O=>wpAny_bind (wpAny_mono O (λok o G=>?_) λ_ _ h'=>h')) λ_ _ h'=>h')
  cases ok with
  |false=>exact wpAny_pure ⟨rfl,G⟩
  |true=>
   exact wpAny_bind (wpAny_bind (wpAny_mono G (λx z M=>wpAny_bind (wpAny_mono M (λ_ y J=>wpAny_pure (wpAny_pure ⟨rfl,J⟩)) λ_ _ h'=>h')) λ_ _ h'=>h'))
section
variable {X:Cx}
theorem xgh{M:Model}{A:Around}{α:Type}{t:Sem α}{Q:α->Shared->Prop}{E:Value->Shared->Prop}{s:Shared}(h:wpAny M A t Q (λ_ _=>False) s):wpAny M A t Q E s:=wpAny_mono h (λ_ _ q=>q) λ_ _ z=>z.elim
theorem xgm {elt tg iter:Expr} {ifs:List Expr} {sc:Scope} {pos:Pos} {N':List Str} {ix:Cap} {g:TG} {tt:TT} {te:TE} {pins:List (Addr×Obj)} {σ:St} {s:Shared} {Q:VK} {RR:Value->Addr->Result->Shared->Prop} {E:Value->Shared->Prop}
  {itv:Value} (hc:X.calm=true) (ok:CapOk X.N N' X.env.scope sc ix)
  (hg:∀C s₀ H₀ ex,PG (X.comp sc N' C s₀ H₀ ex) tg g) (ht:∀C s₀ H₀ ex,PTs (X.comp sc N' C s₀ H₀ ex) ifs tt) (he:∀C s₀ H₀ ex,PE (X.comp sc N' C s₀ H₀ ex) elt te)
  (hi:PIE X pins σ tg (λJ H1=>xfw J ix g tt te σ H1 Q) itv s)
  (fin:∀(D C:Addr) (s':Shared) (H':Hp) (m:Str->Option Value),Inv X pins σ H' s'->Q (.ref D) H'->s'.heap.Ns C m->H' C=none->C≠X.env.locals->X.s₀.heap.objs.size<=C->(∀x c,X.env.cells.lookup x=some c->c≠C)->(∀p∈X.pn++pins,p.1≠C)->
   RR (.ref D) C (.ok .next) s') :
  wpAny (model X.prog X.w) X.A (newList []) (λacc s₃=>wpAny (model X.prog X.w) X.A (newFunctionEnv sc X.env.globals (clOf X.env sc.names []) [] X.env.qual none .none (some X.env)) (λcenv s₄=>
   codeAny (model X.prog X.w) X.A (.compStart (.ListComp elt [⟨tg,iter,ifs,0⟩] sc pos) 0 itv acc {cenv with scope:=relabel sc X.env}) (RR acc cenv.locals) s₄) E s₃) E s:=by
 obtain⟨it,fp,tn,J,H2,rfl,I2,T,st2,f2,W,⟨m0,w0⟩,turn⟩:=hi;refine wpAny_newObj_type (wpAny_newFunctionEnv ok.nocell (by intro y hy;simp at hy) (λh₁ hns₁ hsb₁=>?_) ok.kind);dsimp only at hns₁ hsb₁⊢;generalize hHD:s.heap.push {cls:=.type "list",dict:=none,data:=.seq ([]:List Value).toArray}=hD at hns₁ hsb₁⊢;have hCs:hD.objs.size=s.heap.objs.size+1:=by rw[<- hHD,Heap.size_push]
 have upC:s.heap.objs.size<hD.objs.size:=by rw[hCs];exact Nat.lt_succ_self _
 have hDC:s.heap.objs.size≠hD.objs.size:=by rw[hCs];exact Nat.ne_of_lt (Nat.lt_succ_self _)
 have below:∀b o,s.heap.get? b=some o->b≠hD.objs.size/\b≠s.heap.objs.size:=λb o e=>by
  have:=Heap.lt_size e;exact⟨Nat.ne_of_lt (by rw[hCs];exact Nat.lt_succ_of_lt this),Nat.ne_of_lt this⟩
 have old:∀b o,s.heap.get? b=some o->h₁.get? b=some o:=λb o e=>hsb₁.extBut b o (below b o e).1 (zPO _ (hHD ▸ zPO _ e));have hacc:h₁.get? s.heap.objs.size=some {cls:=.type "list",data:=.seq ([]:List Value).toArray 0}:=hsb₁.extBut _ _ hDC (zPO _ (hHD ▸ Heap.get?_push_size _ rfl));have fpo:∀b∈fp,b<s.heap.objs.size:=λb hb=>let ⟨o,e,_⟩:=T.obj _ _ st2 b hb;Heap.lt_size e;have cellX:∀x c,(clOf X.env sc.names []).lookup x=some c->X.env.cells.lookup x=some c:=λx c e=>xiw (λp hp=>absurd hp (by simp)) e;have cellLt:∀x c,X.env.cells.lookup x=some c->c<s.heap.objs.size:=λx c e=>let ⟨v,z⟩:=I2.cell x c e;z.lt
 have hasC:∀x,(x,NameKind.free)∈sc.names->∃c,(clOf X.env sc.names []).lookup x=some c:=λx hx=>by
  have h1:=I2.ok.has x (ok.fre (x,.free) hx rfl);exact xd0 (xk4 (.inr ⟨hx,h1⟩))
 have okX:(X.comp sc N' hD.objs.size s H2 fp).Ok:=by
  refine⟨I2.ok.mod,ok.kind,I2.ok.glob,I2.ok.blt,?_,?_,?_,?_,I2.ok.hd,I2.ok.frames,.inl rfl,?_,I2.bs,Nat.le_trans I2.ok.bsz I2.sz,?_,?_,I2.stack,I2.stkFree⟩
  ·exact Nat.le_of_lt upC
  ·intro x y c h1 h2
   exact I2.ok.inj x y c (cellX x c h1) (cellX y c h2)
  ·intro x hx
   have hx':(relabel sc X.env).names.lookup x=some .cell\/(relabel sc X.env).names.lookup x=some .free:=hx
   have:∃k,sc.names.lookup x=some k/\(k=.free\/k=.cell):=by
    rcases hx' with h |h
    ·obtain⟨k,e,z⟩:=xcn h
     rcases z with z |⟨z,_⟩
     ·exact⟨k,e,.inr z.symm⟩
     ·exact⟨k,e,.inl z⟩
    ·obtain⟨k,e,z⟩:=xcn h
     rcases z with z |⟨_,z⟩
     ·exact⟨k,e,.inl z.symm⟩
     ·cases z
   obtain⟨k,e,z⟩:=this;rcases z with rfl |rfl
   ·exact hasC x (PySem.mem_of_lookup e)
   ·exact absurd rfl (ok.nocell _ (PySem.mem_of_lookup e))
  ·intro x c h _
   cases h
  ·intro b hb
   refine⟨?_,λx c e=>(f2 b hb).2.2.2.2.1 x c (cellX x c e)⟩;exact Nat.ne_of_lt (by rw[hCs];exact Nat.lt_succ_of_lt (fpo b hb))
  ·intro b o e hb
   rcases(f2 b hb).2.2.2.1 with z |z
   ·exact I2.ok.noex b o e z
   ·exact absurd (Nat.lt_of_lt_of_le (Heap.lt_size (I2.ok.bs b o e).1) z) (Nat.lt_irrefl _)
  ·intro b hb z
   rcases zMC (I2.stkSub b z) with z |z
   ·exact(f2 b hb).2.1 z
   ·exact(f2 b hb).2.2.1 z
 have hnD:H2 s.heap.objs.size=none:=I2.hok.fresh (Nat.le_refl _);have hnC:H2 hD.objs.size=none:=I2.hok.fresh (Nat.le_of_lt upC)
 have nofsD:∀a,s.heap.objs.size<=a->a ∉frs X.stack:=λa ha z=>by
  rcases zMC (I2.stkSub a z) with z |z
  ·exact absurd (Nat.lt_of_lt_of_le I2.lt ha) (by rw[z];exact Nat.lt_irrefl _)
  ·exact I2.nofs ha z
 have xer:Inv (X.comp sc N' hD.objs.size s H2 fp) [(s.heap.objs.size,{cls:=.type "list",data:=.seq ([]:List Value).toArray 0})] (capt ix σ) H2 {s with heap:=h₁,toks:=s.toks+([]:List (Str×Value)).length}:=by
  refine⟨okX,rfl,I2.bare,Un.kept old,⟨_,hns₁,?_⟩,λx c e=>?_,hnC,λx c e=>I2.freeC x c (cellX x c e),λp hp=>?_,I2.hok.kept old,?_⟩
  ·intro i x v hN hv hvis
   have hl:i<ix.length:=by rw[ok.len];exact(zES hN).1
   have hv':(ix.map λo=>(o.bind λj=>σ[j]?).join)[i]?=some (some v):=hv;rw[zGM,zGA hl]at hv';have hv'':((ix[i].bind λj=>σ[j]?).join)=some v:=Option.some.inj hv'
   cases ej:ix[i] with
   |none=>rw[ej]at hv'';cases hv''
   | some j=>
    rw[ej]at hv''
    have hσ:σ[j]?=some (some v):=by
     have z:(σ[j]?).join=some v:=hv''
     cases q:σ[j]? with
     |none=>rw[q]at z;cases z
     |some o=>rw[q]at z;exact congrArg some z
    obtain⟨x',e1,e2,e3⟩:=ok.cap i j (by rw[zGA hl,ej]);rw[show N'[i]?=some x from hN]at e1;cases e1;have hk:=ok.fre (x,.free) (PySem.mem_of_lookup e3) rfl;obtain⟨m,hm,hl'⟩:=I2.loc;obtain⟨u,ru,lk⟩:=hl' j x v e2 hσ (hk.elim (λz=>.inr (.inl z)) λz=>.inr (.inr z));refine⟨u,ru,.inr ⟨?_,?_⟩⟩
    ·show(relabel sc X.env).names.lookup x=some .cell\/(relabel sc X.env).names.lookup x=some .free
     obtain⟨k',q1,q2⟩:=xd5 (env:=X.env) e3;rcases q2 with q2 |⟨_,q2⟩
     ·exact .inr (q1.trans (congrArg some q2))
     ·exact .inl (q1.trans (congrArg some q2))
    ·obtain⟨c,hc'⟩:=hasC x (PySem.mem_of_lookup e3)
     refine⟨c,hc',?_⟩;rcases lk with⟨z,_⟩ |⟨_,c',ec,⟨o,ho,hd⟩⟩
     ·have z':X.env.scope.names.lookup x=some .local:=z
      rcases hk with hk |hk
      ·rw[z']at hk;cases hk
      ·rw[z']at hk;cases hk
     ·rw[cellX x c hc']at ec
      cases ec;exact⟨o,old _ _ ho,hd⟩
  ·obtain⟨v,o,ho,hd⟩:=I2.cell x c (cellX x c e)
   exact⟨v,o,old _ _ ho,hd⟩
  ·have e:p=(s.heap.objs.size,{cls:=.type "list",data:=.seq ([]:List Value).toArray 0}):=by simpa using hp
   subst e;exact⟨hacc,hnD,hDC,nofsD _ (Nat.le_refl _),λv z=>by cases z⟩
  ·show(ix.map _).length=N'.length
   rw[zLM];exact ok.len
 have st1:tn 0 h₁:=T.keep _ _ _ st2 λb hb o e=>old b o e
 have loop:∀s₃:Shared,s₃={s with heap:=h₁,toks:=s.toks+([]:List (Str×Value)).length}->
   codeAny (model X.prog X.w) X.A (.compLoop (.ListComp elt [⟨tg,iter,ifs,0⟩] sc pos) 0 (.ref it) (.ref s.heap.objs.size) (compEnvC sc (clOf X.env sc.names []) hD.objs.size X.env))
    (RR (.ref s.heap.objs.size) hD.objs.size) s₃:=by
  rintro s₃ rfl
  have fpI:∀{H':Hp} {o:Obj},(∀b∈fp,H' b=none)->∀b∈fp,FpOk (X.comp sc N' hD.objs.size s H2 fp) [(s.heap.objs.size,o)] H' b:=λ{H' o} hn b hb=>by
   have hlt:=fpo b hb;refine⟨hn b hb,(okX.exf b hb).1,okX.exfs b hb,.inl hb,(okX.exf b hb).2,λp hp=>?_⟩;have e:p=(s.heap.objs.size,o):=by simpa using hp
   subst e;exact Nat.ne_of_gt hlt
  refine xdx (λn s'=>∃i ys its k H',Inv (X.comp sc N' hD.objs.size s H2 fp) [(s.heap.objs.size,{cls:=.type "list",data:=.seq its.toArray k})] (capt ix σ) H' s'/\Vals ys its/\ys.length<=sizeLine/\tn i s'.heap/\(∀b∈fp,H' b=none)/\W i n ys H')
   ?_ m0 ⟨0,[],[],0,H2,xer,.nil,Nat.zero_le _,st1,λb hb=>(f2 b hb).1,w0⟩
  rintro n s4 ⟨i,ys,its,k,H4,I4,r4,z4,st4,fr4,w4⟩;rcases turn i n ys H4 w4 with⟨stop,q⟩ |⟨go,hz,step⟩
  ·refine xgh (thn (T.done (X.comp sc N' hD.objs.size s H2 fp) rfl rfl rfl hc i _ s4 _ H4 (λ_ _=>False) I4 (fpI fr4) st4 stop) λr s5 ⟨hr,I5⟩=>?_)
   subst hr;show RR (.ref s.heap.objs.size) hD.objs.size (.ok .next) s5;obtain⟨pD,nD,_,_,_⟩:=I5.pin (s.heap.objs.size,{cls:=.type "list",data:=.seq its.toArray k}) (by simp);obtain⟨m5,hm5,_⟩:=I5.loc;have okD:HOk X.prog X.w (upd H4 s.heap.objs.size (.lst ys)) s5.heap:=I5.hok.track nD ⟨z4,its,k,r4,pD⟩
   have un:Un (frs X.stack) fp H2 (upd H4 s.heap.objs.size (.lst ys)) s.heap s5.heap:=by
    have B:Un (frs X.stack) fp H2 H4 s.heap s5.heap:=I5.base;have ne:∀b u,H2 b=some u->b≠s.heap.objs.size:=λb u e=>neN e hnD;refine⟨B.keep,B.slot,λb o e n hb=>?_,B.there,λb xs e=>?_,λb o u e=>?_,λb ps e=>?_⟩
    ·rw[xao (below b o e).2];exact B.free b o e n hb
    ·rw[xao (ne b _ e)];exact B.tups b xs e
    ·rw[xao (ne b _ e)];exact B.frzs b o u e
    ·rw[xao (ne b _ e)];exact B.tbls b ps e
   have IX:Inv X pins σ (upd H4 s.heap.objs.size (.lst ys)) s5:=I2.call' (ch:=fp) I5.os un okD I5.bare λb hb=>⟨(f2 b hb).2.2.2.1,(f2 b hb).2.1,(f2 b hb).2.2.2.2.1,(f2 b hb).2.2.2.2.2⟩;refine fin _ _ s5 _ m5 IX (q _ nD) hm5 ?_ (Nat.ne_of_gt (Nat.lt_trans I2.lt upC)) (Nat.le_of_lt (Nat.lt_of_le_of_lt I2.sz upC)) (λx c e=>Nat.ne_of_lt (Nat.lt_trans (cellLt x c e) upC)) (λp hp=>Nat.ne_of_lt (Nat.lt_trans (Heap.lt_size (I2.pin p hp).1) upC));rw[xao (Ne.symm hDC)];exact I5.free
  ·refine xgh (thn (T.item (X.comp sc N' hD.objs.size s H2 fp) rfl rfl rfl hc i _ s4 _ H4 (λ_ _=>False) I4 (fpI fr4) st4 go) λr s5 ⟨u,hr,h5⟩=>?_)
   subst hr;refine xgh (thn h5 λ_ s6 ⟨x,H6,I6,r6,y6,st6,fr6⟩=>?_);have I6':=I6.pinned (fpI fr6) (T.obj _ _ st6);refine xgh (thn (hg _ _ _ _ _ s6 _ H6 x u _ I6' r6 (step x H6 y6)) λ_ s7 ⟨σ7,H7,I7,x7,q7⟩=>?_);refine xgh (thn (ht _ _ _ _ _ s7 σ7 H7 _ I7 q7) λb s8 ⟨H8,I8,q8⟩=>?_)
   have back:∀{s9:Shared} {H9:Hp},Inv (X.comp sc N' hD.objs.size s H2 fp) ([(s.heap.objs.size,{cls:=.type "list",data:=.seq its.toArray k})]++xh1 fp s6.heap) σ7 H9 s9->
     Inv (X.comp sc N' hD.objs.size s H2 fp) [(s.heap.objs.size,{cls:=.type "list",data:=.seq its.toArray k})] (capt ix σ) H9 s9/\tn (i+1) s9.heap/\(∀b∈fp,H9 b=none):=λ{s9 H9} J9=>by
    refine⟨(J9.unpinned).weak x7.1 x7.2,T.keep _ _ _ st6 λb hb o e=>(J9.pin (b,o) (List.mem_append_right _ (List.mem_append_right _ (xds hb e)))).1,λb hb=>?_⟩;obtain⟨o,e,d⟩:=T.obj _ _ st6 b hb;exact(J9.pin (b,o) (List.mem_append_right _ (List.mem_append_right _ (xds hb e)))).2.1
   cases b with
   |false=>
    rw[if_neg Bool.false_ne_true]at q8⊢;obtain⟨m',hm,w8⟩:=q8;obtain⟨J8,st8,fr8⟩:=back I8;exact⟨m',hm,i+1,ys,its,k,H8,J8,r4,z4,st8,fr8,w8⟩
   | true=>
    rw[if_pos rfl]at q8⊢;refine xgh (thn (he _ _ _ _ _ s8 σ7 H8 _ I8 q8) λy s9 ⟨v9,H9,I9,r9,q9⟩=>?_);obtain⟨m',hm,w9⟩:=q9;obtain⟨J9,st9,fr9⟩:=back I9;obtain⟨pD,nD,neC,nf,_⟩:=J9.pin (s.heap.objs.size,{cls:=.type "list",data:=.seq its.toArray k}) (by simp);have hlen:=r4.length;refine call_meets F.slot_list_append ⟨_,pD,rfl⟩ F.entry_list_append (F.args_list_append_2 _ _) (PySem.list_append s.heap.objs.size its.toArray k y (by rw[List.size_toArray];omega)) ⟨pD,?_⟩;have q:=PySem.IsL.update pD (·.push y);have ep:its.toArray.push y=(its++[y]).toArray:=by simp
    dsimp only at q;rw[ep]at q;obtain⟨k',q⟩:∃k',(s9.heap.update s.heap.objs.size (Obj.mapSeq (·.push y))).get? s.heap.objs.size=some {cls:=.type "list",data:=.seq (its++[y]).toArray k'}:=⟨_,q⟩;have J0:Inv (X.comp sc N' hD.objs.size s H2 fp) [] (capt ix σ) H9 s9:=J9.pins_of λp hp=>absurd hp (by simp)
    have J1:Inv (X.comp sc N' hD.objs.size s H2 fp) [] (capt ix σ) H9 {s9 with heap:=s9.heap.update s.heap.objs.size (Obj.mapSeq (·.push y))}:=
     J0.turned (it:=s.heap.objs.size) (t':=s9.toks) (λb o hb e=>(Heap.get?_update_other _ _ (Ne.symm hb)).trans e) nD neC (.inr (Nat.le_refl _)) (λx c e=>Nat.ne_of_lt (cellLt x c (cellX x c e))) λp hp=>absurd hp (by simp)
    refine⟨m',hm,i+1,ys++[v9],its++[y],k',H9,J1.pins_of λp hp=>?_,r4.append (.cons r9 .nil),?_,T.keep _ _ _ st9 λb hb o e=>(Heap.get?_update_other _ _ ?_).trans e,fr9,w9⟩
    ·have e:p=_:=zMO hp
     subst e;exact⟨q,nD,neC,nf,λv z=>by cases z⟩
    ·rw[zLA,List.length_singleton];omega
    ·exact Nat.ne_of_gt (fpo b hb)
 exact codeAny_compStart_list (loop _ rfl) (T.self _ 0 _ _ _ st1 (loop _ rfl))
theorem Inv.letGo {pins:List (Addr×Obj)} {σ:St} {H:Hp} {s:Shared} {C:Addr} {h':Heap} (I:Inv X pins σ H s) (hs:Heap.SameBut C s.heap h') (h0:H C=none) (h1:C≠X.env.locals) (h2:X.s₀.heap.objs.size<=C) (h3:∀x c,X.env.cells.lookup x=some c->c≠C)
  (h4:∀p∈X.pn++pins,p.1≠C):Inv X pins σ H {s with heap:=h'}:=I.turned (t':=s.toks) (λb o hb e=>(hs.2 b hb).trans e) h0 h1 (.inr h2) h3 h4
theorem xbp {elt tg iter:Expr} {ifs:List Expr} {sc:Scope} {pos:Pos} (N':List Str) (ix:Cap) {wi:TI} {g:TG} {tt:TT} {te:TE} (hc:X.calm=true) (hok:xph X.N N' X.env.scope sc ix=true)
  (hi:PI X tg iter wi) (hg:∀C s₀ H₀ ex,PG (X.comp sc N' C s₀ H₀ ex) tg g) (ht:∀C s₀ H₀ ex,PTs (X.comp sc N' C s₀ H₀ ex) ifs tt) (he:∀C s₀ H₀ ex,PE (X.comp sc N' C s₀ H₀ ex) elt te)
  (hs:∀x,foldedSetIterable iter X.env x=pure x:=by intro _;rfl):PE X (.ListComp elt [⟨tg,iter,ifs,0⟩] sc pos) (xr5 ix wi g tt te):=by
 intro pins s σ H Q I h;have ok:=xk6 hok;rw[eval_ListComp];refine wpAny_comprehension_free (use:=none) rfl hs (xej λp hp hk=>I.ok.has p.1 (ok.fre p hp hk)) ok.kind ok.loc (thn (hi pins s σ H _ I h) λv s1 h1=>thn h1 λitv s2 h2=>?_);refine xgm (RR:=λacc C=>compPost (model X.prog X.w) X.A X.xe none (EP X pins σ Q) acc C) hc ok hg ht he h2 ?_;intro D C s' H' m I' q hm h0 h1 h2 h3 h4;exact⟨m,hm,λh' hsb=>⟨.ref D,H',I'.letGo hsb h0 h1 h2 h3 h4,rfl,q⟩⟩
theorem xcy {elt tg iter:Expr} {ifs:List Expr} {sc:Scope} {pos spos py:Pos} {i:Nat} {y:Str} (N':List Str) (ix:Cap) {wi:TI} {g:TG} {tt:TT} {te:TE} (hc:X.calm=true) (hok:xph X.N N' X.env.scope sc ix=true)
  (hN:X.N.Nodup) (hy:X.N[i]?=some y) (hx:Loc X.env.scope y)
  (hi:PI X tg iter wi) (hg:∀C s₀ H₀ ex,PG (X.comp sc N' C s₀ H₀ ex) tg g) (ht:∀C s₀ H₀ ex,PTs (X.comp sc N' C s₀ H₀ ex) ifs tt) (he:∀C s₀ H₀ ex,PE (X.comp sc N' C s₀ H₀ ex) elt te)
  (hs:∀x,foldedSetIterable iter X.env x=pure x:=by intro _;rfl) (hsw:swapsWith (.ListComp elt [⟨tg,iter,ifs,0⟩] sc pos) (some (.Name y py)) spos.line X.env=pure true:=by rfl)
  (hf:X.fn y=true\/X.env.scope.names.lookup y=some .local:=by first |exact .inl rfl |exact .inr rfl |assumption) :
  PS X (.Assign [.Name y py] (.ListComp elt [⟨tg,iter,ifs,0⟩] sc pos) spos) (tAsg (xr5 ix wi g tt te) (xfq i)):=by
 intro pins s σ H D I h;have ok:=xk6 hok;rw[exec_Assign_Name_used _ _ _ _ hsw];refine wpAny_bind (wpAny_standAt (wpAny_bind ?_));show wpAny _ X.A (do let _ <- comprehension (.ListComp elt [⟨tg,iter,ifs,0⟩] sc pos) sc X.env _ (newList []) false (eval iter X.env) (some (assign (.Name y py) X.env))) _ _ s
 refine wpAny_bind (wpAny_mono (wpAny_comprehension_free (use:=some (assign (.Name y py) X.env)) (Q:=λ_ s'=>SP X pins D .next s') rfl hs (xej λp hp hk=>I.ok.has p.1 (ok.fre p hp hk)) ok.kind ok.loc
  (thn (hi pins s σ H _ I h) λv s1 h1=>thn h1 λitv s2 h2=>?_)) (λ_ s' hq=>wpAny_pure (wpAny_pure hq)) λ_ _ e=>e)
 refine xgm (Q:=λx H1=>xfq i x σ H1 D.nx) (RR:=λacc C=>compPost (model X.prog X.w) X.A X.xe (some (assign (.Name y py) X.env)) (λ_ s'=>SP X pins D .next s') acc C) hc ok hg ht he h2 ?_;intro Dl C s' H' m I' q hm h0 h1 h2 h3 h4;refine wpAny_assign_Name (xhl I' hN hy hx (v:=.ref Dl) rfl (λs3 I3 sb=>?_) hf);obtain⟨a,hsb,ha⟩:=sb
 have hne:C≠a:=by
  rcases ha with e |e
  ·rw[e];exact h1
  ·exact Ne.symm (h3 y a e)
 exact⟨m,hm.sameBut hsb hne,λh' hs'=>⟨_,H',I3.letGo hs' h0 h1 h2 h3 h4,q⟩⟩
end
section
variable {ix:Cap}{tt:TT}{te:TE}{g:TG}{σ:St}{H:Hp}{Q:VK}
def Nxt(Pv:Nat->List V->Hp->Prop)(n i:Nat)(ys:List V):VK:=λy H2=>∃m',m'<n-i/\m'=n-(i+1)/\i+1<=n/\(ys++[y]).length=i+1/\Pv (i+1) (ys++[y]) H2
theorem nxt{a:Nat->List V->Hp->Prop}{n i:Nat}{ys:List V}{y:V}{b:Hp}(hi:i<n)(c:ys.length=i)(h:a (i+1) (ys++[y]) b):Nxt a n i ys y b:=
 ⟨n-(i+1),by omega,rfl,hi,by rw[zLA,List.length_singleton,c],h⟩
theorem xc8 {lo:Int} {n j:Nat} (Pv:Nat->List V->Hp->Prop) (hj:(capt ix σ)[j]?=some none) (h0:Pv 0 [] H) (hn:n<sizeLine)
  (hs:∀i ys H,i<n->ys.length=i->Pv i ys H->te ((capt ix σ).set j (some (.int (lo+i)))) H (Nxt Pv n i ys))
  (hd:∀ys H,ys.length=n->Pv n ys H->∀D,H D=none->Q (.ref D) (upd H D (.lst ys))):xfw (Itr lo n) ix (xfq j) tYes te σ H Q:=by
 refine⟨λi m ys H=>m=n-i/\i<=n/\ys.length=i/\Pv i ys H,⟨n,by simp,Nat.zero_le _,rfl,h0⟩,?_⟩;rintro i m ys H ⟨rfl,hi,hl,p⟩;by_cases hlt:i<n
 ·refine .inr ⟨hlt,by omega,λx H' y=>?_⟩
  obtain⟨e,y⟩:=y;subst e y;refine⟨xfs hj,?_⟩;unfold tYes;dsimp only;rw[if_pos rfl];exact hs i ys _ hlt hl p
 ·have e:i=n:=by omega
  subst e;exact .inl ⟨Nat.le_refl _,hd ys H hl p⟩
theorem xiv {K:Fg} {a:Addr} {xs:List V} {j:Nat} (Pv:Nat->List V->Hp->Prop) (hj:(capt ix σ)[j]?=some none) (h0:Pv 0 [] H) (hn:xs.length<sizeLine) (hl':∀i ys H,i<=xs.length->Pv i ys H->SqL K H a xs)
  (hs:∀i x ys H,xs[i]?=some x->ys.length=i->Pv i ys H->te ((capt ix σ).set j (some x)) H (Nxt Pv xs.length i ys))
  (hd:∀ys H,ys.length=xs.length->Pv xs.length ys H->∀D,H D=none->Q (.ref D) (upd H D (.lst ys))):xfw (Itl K a) ix (xfq j) tYes te σ H Q:=by
 refine⟨λi m ys H=>m=xs.length-i/\i<=xs.length/\ys.length=i/\Pv i ys H,⟨xs.length,by simp,Nat.zero_le _,rfl,h0⟩,?_⟩;rintro i m ys H ⟨rfl,hi,hl,p⟩;have q:=hl' i ys H hi p;by_cases hlt:i<xs.length
 ·refine .inr ⟨⟨xs,xs[i],q,by simp[hlt]⟩,by omega,λv H' y=>?_⟩
  obtain⟨e,y⟩:=y;subst e;refine⟨xfs hj,?_⟩;unfold tYes;dsimp only;rw[if_pos rfl];exact hs i v ys _ (y xs q) hl p
 ·have e:i=xs.length:=by omega
  subst e;exact .inl ⟨⟨xs,q,Nat.le_refl _⟩,hd ys H hl p⟩
theorem xe7 {K:Fg} {a:Addr} {xs:List V} {j:Nat} (b:Nat->List V->Hp->Prop) (h:(capt ix σ)[j]?=some none) (h0:b 0 [] H) (hn:xs.length<sizeLine) (f:∀i ys H,i<=xs.length->b i ys H->SqT K H a xs)
  (hs:∀i x ys H,xs[i]?=some x->ys.length=i->b i ys H->te ((capt ix σ).set j (some x)) H (Nxt b xs.length i ys))
  (hd:∀ys H,ys.length=xs.length->b xs.length ys H->∀D,H D=none->Q (.ref D) (upd H D (.lst ys))):xfw (Itt K a) ix (xfq j) tYes te σ H Q:=by
 refine⟨λi m ys H=>m=xs.length-i/\i<=xs.length/\ys.length=i/\b i ys H,⟨xs.length,by simp,Nat.zero_le _,rfl,h0⟩,?_⟩;rintro i m ys H ⟨rfl,hi,g,p⟩;have q:=f i ys H hi p;by_cases c:i<xs.length
 ·refine .inr ⟨⟨xs,xs[i],q,by simp[c]⟩,by omega,λv l y=>?_⟩
  obtain⟨e,y⟩:=y;subst e;refine⟨xfs h,?_⟩;unfold tYes;dsimp only;rw[if_pos rfl];exact hs i v ys _ (y xs q) g p
 ·have e:i=xs.length:=by omega
  subst e;exact .inl ⟨⟨xs,q,Nat.le_refl _⟩,hd ys H g p⟩
end
section
variable {X:Cx}
def xuh(i j:Int):Prop:=0<j/\j<2 ^ 64
theorem xb8:OpR X (binaryOp .FloorDiv) (rI xuh λi j=>.int (i / j)):=opI λi j _ _ _ _ _ a q=>by
 have f:(0:Int)<j:=a.1;have e:j<2 ^ 64:=a.2;refine floordiv_int (by omega) (by rw[Int.fdiv_eq_ediv_of_nonneg i (by omega)];exact q) (.inl (PyProof.noPylong_of_log2 ?_));have b:j.natAbs<2 ^ 64:=by omega
 have h0:j.natAbs≠0:=by omega
 have c:j.natAbs.log2<64:=(Nat.log2_lt h0).mpr b;omega
theorem xld{ys:List Str}:∀{us:List Value},Vals (ys.map V.str) us->StrsAre us ys:=by
 induction ys with
 |nil=>intro us r;rw[List.map_nil]at r;cases r;exact .nil
 | cons n ns c=>
  intro us r;rw[List.map_cons]at r
  cases r with
  |cons b a=>
   obtain⟨t,e⟩:=b;subst e;exact .cons n t (c a)
def xt1(K:Fg):V->List V->Hp->VK->Prop:=λx vs H Q=>∃(sep:Str) (p:Addr) (ys:List Str),x=.str sep/\vs=[.ref p]/\SqL K H p (ys.map V.str)/\(ys.map (·.length)).sum+ys.length*sep.length<=16777216/\Q (.str (Txt.join sep ys)) H
theorem xq5:MtR X "str.join" (xt1 X.K):=by
 intro a s σ H x vs v us Q I c e h;obtain⟨b,p,ys,rfl,rfl,g,hz,q⟩:=h;obtain⟨t,rfl⟩:=c;obtain⟨u,rfl,f⟩:=e.one;cases f;obtain⟨its,r,pl,_⟩:=I.list g;exact join_list pl.isList (by simpa using xld r) hz λt' k=>⟨.str _,H,I.tok k,⟨t',rfl⟩,q⟩
def rSlS:V->Option Int->Option Int->Hp->VK->Prop:=λx lo hi H Q=>∃z:Str,x=.str z/\z.length<=sizeLine/\Q (.str (Txt.slice z lo hi)) H
theorem xpr:SlR X rSlS:=by
 intro f s σ H x v G C y hi sl Q I w hs pl r h;obtain⟨z,rfl,hz,q⟩:=h;obtain⟨t,rfl⟩:=w;refine⟨"str",_,F.slot_str_getitem.lookup,typeIs_str _ _ _,?_⟩
 have m:∀(o:Str),o=Txt.slice z y hi->o.length<=sizeLine/\∀t' k,EP X f σ Q (.str o t') {s with toks:=k}:=λo e=>by
  subst e;exact⟨Nat.le_trans (Txt.slice_le z _ _) hz,λt' k=>⟨.str _,H,I.tok k,⟨t',rfl⟩,q⟩⟩
 obtain⟨g,a,c,b⟩:=hs
 cases pl with
 |none=>
  cases r with
  |none=>exact wpAny_getItem_str_slice (l:=none) (u:=none) (st:=none) ⟨g,a,c,b⟩ rfl (post_val_or_str (m _ rfl))
  |int j n=>exact wpAny_getItem_str_slice (l:=none) (u:=some (j,n)) (st:=none) ⟨g,a,c,b⟩ rfl (post_val_or_str (m _ rfl))
 |int i p=>
  cases r with
  |none=>exact wpAny_getItem_str_slice (l:=some (i,p)) (u:=none) (st:=none) ⟨g,a,c,b⟩ rfl (post_val_or_str (m _ rfl))
  |int j n=>exact wpAny_getItem_str_slice (l:=some (i,p)) (u:=some (j,n)) (st:=none) ⟨g,a,c,b⟩ rfl (post_val_or_str (m _ rfl))
theorem xk7(G:X.calm=true):xdy X (.builtin "all") (λxs H Q=>∃(p:Addr) (bs:List Bool),xs=[.ref p]/\SqL X.K H p (bs.map V.bl)/\Q (.bl (bs.all id)) H):=by
 intro a s σ H xs us Q I r h;obtain⟨p,bs,rfl,C,q⟩:=h;obtain⟨u,rfl,g⟩:=xfx r;cases g;obtain⟨its,n,pl,hz⟩:=I.list C;have c:=n.length;rw[zLM]at c;have j:p<s.heap.objs.size:=by obtain⟨_,e,_⟩:=pl.isList;exact Heap.lt_size e
 refine call_all_walk (wpAny_pyIter_list pl.isList ?_);refine⟨s.heap.objs.size,_,_,_,_,_,λi=>bs.getD i true,rfl,Walks.list (A:=X.A.in1) (I.ok.hd G) s.heap.objs.size p (Nat.ne_of_lt j) its.toArray,⟨⟨_,Heap.get?_push_size _ rfl,rfl,rfl⟩,pl.isList.push _⟩,?_,?_⟩
 ·intro i v s' Q' E' z m
  have f:its[i]?=some v:=by simpa using z
  have hi:i<bs.length:=by
   have:=(zES f).1;omega
  obtain⟨u',e,g⟩:=n.get (i:=i) (x:=V.bl bs[i]) (by rw[zGM,zGA hi] <;> rfl);rw[f]at e;cases e;cases g;dsimp only at m;rw[List.getD_eq_getElem?_getD,zGA hi]at m;exact wpAny_truthy_bool m
 ·intro h' w y
  have I1:Inv X a σ H {s with heap:=s.heap.push {cls:=.type "list_iterator",data:=.fields #[.ref p,.int 0 0]}}:=I.kept (t':=s.toks) λb o e=>zPO _ e;obtain⟨Y,U,f2,O,M,J⟩:=I.fpOk (b:=s.heap.objs.size) (Nat.le_refl _) (I.hok.fresh (Nat.le_refl _));have Z:Inv X a σ H {s with heap:=h',toks:=w}:=I1.turned (λb o l e=>y b o (by simpa using l) e) Y U O M J;refine⟨.bl _,H,Z,rfl,?_⟩
  have e:(List.range its.toArray.size).all (λi=>bs.getD i true)=bs.all id:=by
   rw[List.size_toArray,<- c];rw[Bool.eq_iff_iff];simp only[List.all_eq_true,List.mem_range,id];constructor
   ·intro h b l
    obtain⟨i,hi,e⟩:=zMI l;have:=h i hi;rw[List.getD_eq_getElem?_getD,zGA hi]at this;rw[<- e];exact this
   ·intro h i hi
    rw[List.getD_eq_getElem?_getD,zGA hi];exact h _ (List.getElem_mem hi)
  rw[e];exact q
theorem xj4:xdy X (.builtin "isinstance") (λxs H Q=>∃x y c t b,xs=[x,y]/\(∀u,RelV y u->u=c)/\TyOf X.K H x t/\PySem.W.kitOne X.K t c=some b/\Q (.bl b) H):=by
 intro a s σ H xs us Q I r h;obtain⟨x,y,c,t,b,rfl,l,f,e,q⟩:=h;obtain⟨u,v,rfl,j,i⟩:=r.two;obtain rfl:=l v i;exact xnn I j f e λg=>⟨.bl b,H,I.tok g,rfl,q⟩
end
def SameBut(a:Addr)(H H':Hp):Prop:=∀b o,H b=some o->b≠a->H' b=some o
theorem SameBut.refl(a:Addr)(H:Hp):SameBut a H H:=λ_ _ h _=>h
theorem SameBut.trans{a:Addr}{H f c:Hp}(h:SameBut a H f)(k:SameBut a f c):SameBut a H c:=λb o e n=>k b o (h b o e n) n
theorem SameBut.upd(a:Addr)(H:Hp)(o:HO):SameBut a H (upd H a o):=λb u e n=>by rw[xao n];exact e
theorem Same.but{a:Addr}{H c:Hp}(h:Same H c):SameBut a H c:=λb o e _=>h b o e
theorem Same.new{H:Hp}{p:Addr}(h:H p=none)(o:HO):Same H (upd H p o):=λb u q=>by rw[xao (neN q h)];exact q
theorem xay{H a:Hp}{p:Addr}(h:Same H a)(n:a p=none):H p=none:=by
 cases e:H p with
 |none=>rfl
 |some o=>rw[h p o e]at n;cases n
structure DefTx(K:Fg)(mg:Str->Option Value)(x:Str)(st:Stmt)(ps:List Str):Prop where
 ex:∃(f:Addr) (fd:FuncData),Fun K x x st f fd/\mg x=some (.ref f)/\∀us:List Value,us.length=ps.length->bindArgs fd ⟨us,[]⟩=pure (ps.zip us)
structure DefIs(P:Program)(w:World)(K:Fg)(mg:Str->Option Value)(base:Heap)(n:Nat)(x:Str)(ps:List Str)(sp:Sp):Prop where
 ex:∃(f:Addr) (fd:FuncData),FnOk P w K mg base CX0 n f fd ps sp/\Binds K fd ps []/\PySem.W.keepIn K (.ref f)=true/\mg x=some (.ref f)/\∃oc od osl,K.lookup f=some ⟨oc,od,.func fd,osl⟩
theorem xnt{K:Fg}{x:Str}{st:Stmt}{f:Addr}{c:FuncData}(F:Fun K x x st f c):∃b od a,K.lookup f=some ⟨b,od,.func c,a⟩:=by
 obtain⟨b,od,kV,e,h,i,g,ct,a,_,l,_⟩:=F.ex;exact⟨b,od,a,l⟩
section
variable {P:Program}{w:World}{K:Fg}{mg:Str->Option Value}{base:Heap}{n m:Nat}{x:Str}{ps N:List Str}{sp:Sp}{st:Stmt}
theorem DefIs.mono(D:DefIs P w K a base n x ps sp)(h:n<=m):DefIs P w K a base m x ps sp:=by
 obtain⟨f,b,F,r⟩:=D.ex;exact⟨f,b,F.mono h,r⟩
theorem DefIs.imp{a:Sp}(D:DefIs P w K b base n x ps sp)(h:∀vs H Q E,a vs H Q E->sp vs H Q E):DefIs P w K b base n x ps a:=by
 obtain⟨f,c,F,r⟩:=D.ex;exact⟨f,c,F.imp h,r⟩
theorem DefIs.of (T:DefTx K e x st ps) (S:FnScope N ps (xac st)) (len:∀vs H Q E,sp vs H Q E->vs.length=ps.length)
  (c:∀(f:Addr) (a:Value) (A:Around) (outer:List Env) (s:Shared) (H:Hp) (vs:List V) (Q:VK) (E:XK),Room n (A.deeper (envOfC x (xac st) s.heap.objs.size f a))->sp vs H Q E->
   ∃t,PSs (cxOf CX0 P w K e base N x (xac st) f a A outer s H E).nox (xcw st) t/\t {nx:=λ_ j=>Q .non j,rt:=Q} (xer N vs) H):DefIs P w K e base (n+1) x ps sp:=by
 obtain⟨f,i,F,m,b⟩:=T.ex;exact⟨f,i,F.ok S len (λa A outer s H vs Q E g h=>c f a A outer s H vs Q E g h),Binds.all b,F.kp,m,xnt F⟩
theorem DefIs.none(T:DefTx K a x st ps)(no:∀vs H Q E,¬sp vs H Q E):DefIs P w K a base n x ps sp:=by
 obtain⟨f,c,F,m,b⟩:=T.ex;exact⟨f,c,⟨λvs H Q E h=>absurd h (no vs H Q E),λA outer s H args us vs Q E _ _ _ _ h=>absurd h (no vs H Q E)⟩,Binds.all b,F.kp,m,xnt F⟩
end
section
variable {X:Cx}{n:Nat}{x:Str}{ps:List Str}{sp:Sp}{e:Expr}{es:List Expr}{p pos:Pos}{t:TA}
theorem pd (D:DefIs X.prog X.w X.K X.mg X.base n x ps sp) (g:Room n X.A) (j:PA X (e::es) t) (h:Gl X x:=by rfl) (c:(x == ("__debug__":Str))=false:=by decide)
  (i:starEach (e::es) X.env=(false,eval e X.env)::starEach es X.env:=by rfl) (a:(backTo pos (starEach es X.env)).any (·.1)=false:=by rfl):PE X (.Call (.Name x p) (e::es) [] pos) (xqf sp [] E0 t):=by
 obtain⟨f,l,F,b,k,m,_⟩:=D.ex;exact xqs F g h m k b .nil xmp j c i a
theorem xjl{i:Int}(hm:∃t,X.mg x=some (.int i t))(hg:Gl X x:=by rfl)(hd:(x == ("__debug__":Str))=false:=by decide):PE X (.Name x pos) (tC (.int i)):=by
 obtain⟨t,h⟩:=hm;exact xqr hg h ⟨t,rfl⟩ hd
theorem xsq{T:String}(b:X.mg x=none)(a:bootBuiltins x=some (.type T))(c:Gl X x:=by rfl)(hn:x≠"__name__":=by decide)(hd:(x == ("__debug__":Str))=false:=by decide):PE X (.Name x pos) (tC (.ty T)):=xqt c b a rfl hn hd
end
def Fed(a:Addr)(H H':Hp):Prop:=SameBut a H H'/\∃p q:Int,H' a=some (.lst [.int p,.int q])
theorem Fed.trans{a:Addr}{H c b:Hp}(h:Fed a H c)(k:Fed a c b):Fed a H b:=⟨h.1.trans k.1,k.2⟩
theorem Fed.of{a:Addr}{H:Hp}{p q:Int}:Fed a H (upd H a (.lst [.int p,.int q])):=⟨SameBut.upd a H _,p,q,ups⟩
theorem Fed.refl{a:Addr}{H:Hp}{p q:Int}(h:H a=some (.lst [.int p,.int q])):Fed a H H:=⟨SameBut.refl a H,p,q,h⟩
theorem Fed.same{a:Addr}{H c b:Hp}(h:Fed a H c)(s:Same c b):Fed a H b:=by
 obtain⟨k,p,q,e⟩:=h;exact⟨k.trans s.but,p,q,s _ _ e⟩
theorem Fed.back{a:Addr}{H H0 H':Hp}(n:H a=none)(s:Same H H0)(h:Fed a H0 H'):Same H H':=λb o e=>h.1 b o (s b o e) (neN e n)
theorem deftx_mk {K:Fg} {h:Heap} {n:Str->Option Value} (X:K.In h) (G:h.Ns mainGlobals n) {x:Str} {st:Stmt} {ps:List Str} {f:Addr} {o:Value} {od j:Option Addr} {m:Array (Option Value)} {kV g i e ct:Value}
  (a:PySem.W.nsIn K mainGlobals x=some (some (.ref f))) (l:K.lookup f=some ⟨o,od,.func (PySem.W.fnOf x x (xdc st) (xcw st) (xac st) .none kV g i j e ct),m⟩)
  (c:PySem.W.codeIn K e x=true) (k:PySem.W.keepIn K (.ref f)=true)
  (b:∀(kV g i:Value) (j:Option Addr) (e ct:Value) (us:List Value),us.length=ps.length->bindArgs (PySem.W.fnOf x x (xdc st) (xcw st) (xac st) .none kV g i j e ct) ⟨us,[]⟩=pure (ps.zip us)):DefTx K n x st ps:=by
 have F:=xs8 (st:=st) l c k;exact⟨f,_,F,PySem.W.mg_of X G a,b kV g i j e ct⟩
theorem law_top {P:Program} {w:World} {K:Fg} {mg:Str->Option Value} {n:Nat} {x y:Str} {st:Stmt} {sp:Sp} {fa:Addr} (T:DefTx K mg x st [y]) (hmg:mg x=some (.ref fa)) (D:∀base,DefIs P w K mg base n x [y] sp) :
  ∃fd:FuncData,(∀(s:Shared) (u:Value),BindsTo s fd ⟨[u],[]⟩ [(y,u)])/\∀base:Heap,K.In base->base.Ns mainGlobals mg->FnOk P w K mg base CX0 n fa fd [y] sp:=by
 obtain⟨f,fd,F,m,b⟩:=T.ex;rw[hmg]at m;cases m;refine⟨fd,λs u=>.of_eq (b [u] rfl),λbase _ _=>?_⟩;obtain⟨f',fd',G,_,_,m',oc,od,osl,l⟩:=(D base).ex;rw[hmg]at m';cases m';obtain⟨oc2,od2,osl2,l2⟩:=xnt F;rw[l]at l2;cases l2;exact G
theorem gint_mk{K:Fg}{h:Heap}{b:Str->Option Value}(X:K.In h)(G:h.Ns mainGlobals b){x:Str}{i:Int}{t:Tok}(a:PySem.W.nsIn K mainGlobals x=some (some (.int i t))):∃t,b x=some (.int i t):=⟨t,PySem.W.mg_of X G a⟩
abbrev TJ:=St->Hp->Str->VK->Prop
def PJ(X:Cx)(es:List Expr)(t:TJ):Prop:=
 ∀(pins:List (Addr×Obj)) (s:Shared) (σ:St) (H:Hp) (out:Str) (Q:VK),Inv X pins σ H s->t σ H out Q->wpAny (model X.prog X.w) X.A (joinParts out (evalEach es X.env)) (EP X pins σ Q) X.xe s
section
variable {es:List Expr}{env:Env}
theorem so{c k p}:starEach (.Constant c k p::es) env=(false,eval (.Constant c k p) env)::starEach es env:=rfl
theorem zsn{x p}:starEach (.Name x p::es) env=(false,eval (.Name x p) env)::starEach es env:=rfl
theorem zsc{a b c d}:starEach (.Call a b c d::es) env=(false,eval (.Call a b c d) env)::starEach es env:=rfl
theorem xa1{a b c d}:starEach (.BinOp a b c d::es) env=(false,eval (.BinOp a b c d) env)::starEach es env:=rfl
theorem ss{a b c}:starEach (.Subscript a b c::es) env=(false,eval (.Subscript a b c) env)::starEach es env:=rfl
theorem sT{a b c}:starEach (.Tuple a b c::es) env=(false,eval (.Tuple a b c) env)::starEach es env:=rfl
theorem xke{a b}:starEach (.List a b::es) env=(false,eval (.List a b) env)::starEach es env:=rfl
theorem xkf{a b c d}:starEach (.Compare a b c d::es) env=(false,eval (.Compare a b c d) env)::starEach es env:=rfl
theorem xl0{a b c}:starEach (.BoolOp a b c::es) env=(false,eval (.BoolOp a b c) env)::starEach es env:=rfl
theorem xbw{a b c d}:starEach (.ListComp a b c d::es) env=(false,eval (.ListComp a b c d) env)::starEach es env:=rfl
theorem xoe{a b c d}:starEach (.IfExp a b c d::es) env=(false,eval (.IfExp a b c d) env)::starEach es env:=rfl
theorem xc6{a b c}:starEach (.Attribute a b c::es) env=(false,eval (.Attribute a b c) env)::starEach es env:=rfl
end
end L2
end
section
namespace M
open PySem
inductive D where
 |int (i:Int)
 |str (x:Str)
 |tup (ds:List D)
inductive All2{α β:Type}(R:α->β->Prop):List α->List β->Prop where
 |nil:All2 R [] []
 |cons {a b as bs} (h:R a b) (t:All2 R as bs):All2 R (a::as) (b::bs)
theorem All2.length{α β:Type}{R:α->β->Prop}{as:List α}{bs:List β}(h:All2 R as bs):as.length=bs.length:=by
 induction h with
 |nil=>rfl
 |cons _ _ a=>simp[a]
theorem All2.imp{α β:Type}{R S:α->β->Prop}{as:List α}{bs:List β}(h:All2 R as bs)(f:∀a b,R a b->S a b):All2 S as bs:=by
 induction h with
 |nil=>exact .nil
 |cons h _ c=>exact .cons (f _ _ h) c
theorem All2.get{α β:Type}{R:α->β->Prop}{as:List α}{bs:List β}(h:All2 R as bs):∀{i:Nat} {a:α},as[i]?=some a->∃b,bs[i]?=some b/\R a b:=by
 induction h with
 |nil=>intro i a e;simp at e
 |cons h _ c=>
  intro i a e
  cases i with
  |zero=>simp at e;subst e;exact⟨_,by simp,h⟩
  |succ i=>simpa using c (i:=i) (a:=a) (by simpa using e)
def S(s:String):Str:=Str.ofString s
def xef(c:Nat):Bool:=97<=c && c<=122
def xo1(x:List Nat):Bool:=1<=x.length && x.length<=6 && x.all xef && x != [110,117,109] && x != [105,116]
def Name(x:Str):Prop:=xo1 x.cps.toList=true
def L(x:Str):List Nat:=x.cps.toList
def ofL(l:List Nat):Str:=⟨l.toArray⟩
theorem xdo(l:List Nat):L (ofL l)=l:=rfl
theorem xsy(x:Str):ofL (L x)=x:=by
 cases x;rfl
theorem xoa{x y:Str}(h:L x=L y):x=y:=by
 rw[<- xsy x,<- xsy y,h]
theorem xdw(x y:Str):L (x++y)=L x++L y:=by
 show(x.cps++y.cps).toList=_;simp[L]
theorem xem(x:Str):(L x).length=x.length:=by
 simp[L,Str.length]
end M
end
section
namespace M
open PySem L2
mutual
def RelD(H:Hp):V->D->Prop
 |v,.int i=>v=.int i
 |v,.str x=>v=.str x
 |v,.tup ds=>∃a vs,v=.ref a/\H a=some (.tup vs)/\RelDs H vs ds
def RelDs(H:Hp):List V->List D->Prop
 |vs,[]=>vs=[]
 |vs,d::ds=>∃v r,vs=v::r/\RelD H v d/\RelDs H r ds
end
mutual
theorem RelD.same{H H':Hp}(s:Same H H'):∀{v:V} (d:D),RelD H v d->RelD H' v d
 |v,.int i,h=>h
 |v,.str x,h=>h
 |v,.tup ds,⟨a,vs,e,ha,h⟩=>⟨a,vs,e,s _ _ ha,RelDs.same s ds h⟩
theorem RelDs.same{H H':Hp}(s:Same H H'):∀{vs:List V} (ds:List D),RelDs H vs ds->RelDs H' vs ds
 |vs,[],h=>h
 |vs,d::ds,⟨v,r,e,h1,h2⟩=>⟨v,r,e,RelD.same s d h1,RelDs.same s ds h2⟩
end
theorem RelDs.length{H:Hp}:∀{vs:List V} {ds:List D},RelDs H vs ds->vs.length=ds.length
 |vs,[],h=>by rw[show vs=[] from h];rfl
 |vs,d::ds,⟨v,r,e,_,a⟩=>by rw[e,List.length_cons,List.length_cons,RelDs.length a]
theorem RelDs.append{H:Hp}:∀{vs us:List V} {ds es:List D},RelDs H vs ds->RelDs H us es->RelDs H (vs++us) (ds++es)
 |vs,us,[],es,h,k=>by rw[show vs=[] from h];exact k
 |vs,us,d::ds,es,⟨v,r,e,b,a⟩,k=>by subst e;exact⟨v,r++us,rfl,b,RelDs.append a k⟩
theorem RelDs.get{H:Hp}:∀{vs:List V} {ds:List D} {i:Nat} {v:V},RelDs H vs ds->vs[i]?=some v->∃d,ds[i]?=some d/\RelD H v d
 |vs,[],i,v,h,e=>by rw[show vs=[] from h]at e;simp at e
 |vs,d::ds,0,v,⟨u,r,a,g,_⟩,e=>by
  subst a;simp at e;subst e;exact⟨d,rfl,g⟩
 |vs,d::ds,i+1,v,⟨u,r,a,_,f⟩,e=>by
  subst a;obtain⟨x,b,c⟩:=RelDs.get (i:=i) (v:=v) f (by simpa using e);exact⟨x,by simpa using b,c⟩
theorem iteKF{c A B:Prop}[Decidable c](h:decide c=false)(b:B):if decide c=true then A else B:=by
 rw[h];exact b
theorem iteKT{c A B:Prop}[Decidable c](h:decide c=true)(a:A):if decide c=true then A else B:=by
 rw[h];exact a
mutual
theorem RelD.tups{H H':Hp}(s:∀b vs,H b=some (.tup vs)->H' b=some (.tup vs)):∀{v:V} (d:D),RelD H v d->RelD H' v d
 |v,.int i,h=>h
 |v,.str x,h=>h
 |v,.tup ds,⟨a,vs,e,ha,h⟩=>⟨a,vs,e,s _ _ ha,RelDs.tups s ds h⟩
theorem RelDs.tups{H H':Hp}(s:∀b vs,H b=some (.tup vs)->H' b=some (.tup vs)):∀{vs:List V} (ds:List D),RelDs H vs ds->RelDs H' vs ds
 |vs,[],h=>h
 |vs,d::ds,⟨v,r,e,h1,h2⟩=>⟨v,r,e,RelD.tups s d h1,RelDs.tups s ds h2⟩
end
theorem xaj{a:Addr}{H c:Hp}(g:∃p q:Int,H a=some (.lst [.int p,.int q]))(f:Fed a H c):∀b vs,H b=some (.tup vs)->c b=some (.tup vs):=λb vs e=>f.1 b _ e λz=>by
 obtain⟨p,q,h⟩:=g;rw[z,h]at e;cases e
def xc4(c:Nat):Str:=⟨#[c]⟩
theorem xin:∀cs:List Nat,Txt.join (S "") (cs.map xc4)=ofL cs:=by
 have h:∀cs:List Nat,L (Str.join (S "") (cs.map xc4))=cs:=by
  intro cs
  induction cs with
  |nil=>rfl
  | cons c r a=>
   cases r with
   |nil=>rfl
   |cons d r=>
    show L (xc4 c++S ""++Str.join (S "") ((d::r).map xc4))=_;rw[xdw,xdw,a];have e:L (S "")=[]:=by walk_at"k"
    rw[e];rfl
 intro cs;apply xoa;show L (Builtin.Str.glued (S "") (cs.map xc4))=cs;rw[StrLaws.glued_eq_join,h]
theorem xja(cs:List Nat):((cs.map xc4).map (·.length)).sum=cs.length:=by
 induction cs with
 |nil=>rfl
 |cons c r a=>
  show(xc4 c).length+((r.map xc4).map (·.length)).sum=r.length+1;rw[a,show(xc4 c).length=1 from rfl];omega
theorem xk8{α:Type}{cs:List α}{r:Int}(h0:0<=r)(h:r<(cs.length:Int)):∃c∈cs,atI cs r=some c:=by
 have a:r.toNat<cs.length:=by omega
 have b:r=((r.toNat:Nat):Int):=by omega
 refine⟨cs[r.toNat],List.getElem_mem a,?_⟩;have q:atI cs ((r.toNat:Nat):Int)=some cs[r.toNat]:=xax (zGA a);rw[<- b]at q;exact q
end M
end
section
namespace L2
open PySem PySem.Spec PyProof.Rows
section
variable {κ:Type}[DecidableEq κ]
def valV(kvs:List (κ×V))(k:κ):Option V:=(kvs.find? λkv=>decide (kv.1=k)).map (·.2)
def putK(kvs:List (κ×V))(k:κ)(v:V):List (κ×V):=
 if (kvs.any λkv=>decide (kv.1=k))=true then kvs.map (λkv=>if kv.1=k then (kv.1,v) else kv) else kvs++[(k,v)]
theorem xb6{p:κ×V}{r:List (κ×V)}{k:κ}(e:p.1=k):valV (p::r) k=some p.2:=by simp[valV,List.find?_cons,e]
theorem xb7{p:κ×V}{r:List (κ×V)}{k:κ}(e:¬p.1=k):valV (p::r) k=valV r k:=by simp[valV,List.find?_cons,e]
theorem xev(k:κ):∀kvs:List (κ×V),(kvs.any λa=>decide (a.1=k))=(valV kvs k).isSome
 |[]=>rfl
 |p::r=>by
  rw[List.any_cons];by_cases e:p.1=k
  ·simp only[xb6 e,zDT e,Bool.true_or,Option.isSome_some]
  ·rw[xb7 e,zDF e,Bool.false_or];exact xev k r
theorem xka(k j:κ)(y:V):∀kvs:List (κ×V),valV (kvs.map λa=>if a.1=k then (a.1,y) else a) j=(valV kvs j).map λx=>if j=k then y else x
 |[]=>rfl
 | p::r=>by
  have b:=xka k j y r;rw[List.map_cons];by_cases h:p.1=k
  ·rw[if_pos h]
   by_cases e:p.1=j
   ·rw[xb6 (p:=(p.1,y)) e,xb6 e,Option.map_some,if_pos (e.symm.trans h)]
   ·rw[xb7 (p:=(p.1,y)) e,xb7 e,b]
  ·rw[if_neg h]
   by_cases e:p.1=j
   ·rw[xb6 (p:=p) e,xb6 e,Option.map_some,if_neg (λz=>h (e.trans z))]
   ·rw[xb7 (p:=p) e,xb7 e,b]
theorem xhi(k j:κ)(y:V):∀kvs:List (κ×V),valV kvs k=none->valV (kvs++[(k,y)]) j=if j=k then some y else valV kvs j
 |[],_=>by
  by_cases e:k=j
  ·rw[if_pos e.symm];exact xb6 (p:=(k,y)) e
  ·rw[if_neg (λz=>e z.symm)];exact xb7 (p:=(k,y)) e
 |p::r,hn=>by
  rw[List.cons_append];have a:¬p.1=k:=λz=>by rw[xb6 z]at hn;cases hn
  rw[xb7 a]at hn;have b:=xhi k j y r hn;by_cases e:p.1=j
  ·rw[xb6 e,xb6 e,if_neg (λz=>a (e.trans z))]
  ·rw[xb7 e,xb7 e,b]
theorem xgp(kvs:List (κ×V))(k j:κ)(y:V):valV (putK kvs k y) j=if j=k then some y else valV kvs j:=by
 unfold putK;by_cases a:(kvs.any λb=>decide (b.1=k))=true
 ·rw[if_pos a,xka]
  rw[xev]at a;by_cases e:j=k
  ·obtain⟨x,c⟩:=Option.isSome_iff_exists.mp a
   rw[if_pos e,e,c,Option.map_some,if_pos rfl]
  ·rw[if_neg e]
   cases valV kvs j with
   |none=>rfl
   |some x=>rw[Option.map_some,if_neg e]
 ·rw[if_neg a]
  refine xhi k j y kvs ?_;rw[xev]at a
  cases q:valV kvs k with
  |none=>rfl
  |some x=>rw[q]at a;exact(a rfl).elim
theorem xda(kvs:List (κ×V))(k:κ)(v:V):(putK kvs k v).length<=kvs.length+1:=by
 unfold putK;split
 ·rw[zLM];omega
 ·rw[zLA,List.length_cons,List.length_nil];omega
theorem RelO.isSome_eq{o:Option V}{u:Option Value}(r:RelO o u):o.isSome=u.isSome:=by
 cases o with
 |none=>cases u with
  |none=>rfl
  |some _=>exact(show False from r).elim
 |some _=>cases u with
  |none=>exact(show False from r).elim
  |some _=>rfl
theorem KV.val{kvs:List (κ×V)}{vs:List (κ×Value)}(r:KV kvs vs)(k:κ):RelO (valV kvs k) (valueAt vs k):=by
 unfold KV at r
 induction r with
 |nil=>exact True.intro
 | @cons p q ps qs h t ih=>
  obtain⟨h1,h2⟩:=h;by_cases e:p.1=k
  ·have e':q.1=k:=h1.symm.trans e
   have b:valueAt (q::qs) k=some q.2:=by simp[valueAt,List.find?_cons,e']
   rw[xb6 e,b];exact h2
  ·have e':¬q.1=k:=λz=>e (h1.trans z)
   have b:valueAt (q::qs) k=valueAt qs k:=by simp[valueAt,List.find?_cons,e']
   rw[xb7 e,b];exact ih
theorem KV.any{kvs:List (κ×V)}{vs:List (κ×Value)}(r:KV kvs vs)(k:κ):(kvs.any λa=>decide (a.1=k))=vs.any λa=>decide (a.1=k):=by
 unfold KV at r
 induction r with
 |nil=>rfl
 |cons h t b=>rw[List.any_cons,List.any_cons,b,h.1]
theorem KV.repl {kvs:List (κ×V)} {vs:List (κ×Value)} (r:KV kvs vs) (k:κ) {y:V} {u:Value} (c:RelV y u) :
  KV (kvs.map λa=>if a.1=k then (a.1,y) else a) (vs.map λa=>if a.1=k then (a.1,u) else a):=by
 unfold KV at r⊢
 induction r with
 |nil=>exact .nil
 |@cons p q ps i h t f=>
  rw[List.map_cons,List.map_cons];refine .cons ?_ f;obtain⟨b,g⟩:=h;by_cases e:p.1=k
  ·rw[if_pos e,if_pos (b.symm.trans e)];exact⟨b,c⟩
  ·rw[if_neg e,if_neg (λz=>e (b.trans z))];exact⟨b,g⟩
theorem KV.put{kvs:List (κ×V)}{vs:List (κ×Value)}(r:KV kvs vs)(k:κ){y:V}{u:Value}(a:RelV y u):KV (putK kvs k y) (stored vs k u):=by
 unfold putK stored;rw[r.any k];by_cases e:(vs.any λb=>decide (b.1=k))=true
 ·rw[if_pos e,if_pos e];exact r.repl k a
 ·rw[if_neg e,if_neg e];exact Paired.snoc r ⟨rfl,a⟩
theorem KV.length{kvs:List (κ×V)}{vs:List (κ×Value)}(r:KV kvs vs):kvs.length=vs.length:=Paired.length r
end
theorem xo6{P:Program}{w:World}{k:Key}{u:Value}(r:RelV (kV k) u):(xce P w).is k u=true:=by
 cases k with
 |inl i=>obtain⟨t,e⟩:=(show ∃t,u=Value.int i t from r);subst e;exact xjv P w i t
 |inr x=>obtain⟨t,e⟩:=(show ∃t,u=Value.str x t from r);subst e;exact xju P w x t
theorem xio{P:Program}{w:World}:∀{ks:List Key} {us:List Value},Vals (ks.map kV) us->ItemsAre (xce P w) ks us
 |[],_,r=>by rw[List.map_nil]at r;cases r;exact .nil
 |k::ks,_,r=>by
  rw[List.map_cons]at r
  cases r with
  |cons h t=>exact .cons (xo6 h) (xio t)
abbrev KT(H:Hp):List (List Key×V)->List (List Key×Addr×Value)->Prop:=Paired λp q=>p.1=q.1/\H q.2.1=some (.tup (p.1.map kV))/\RelV p.2 q.2.2
theorem KT.val{H:Hp}{kvs:List (List Key×V)}{xs:List (List Key×Addr×Value)}(r:KT H kvs xs)(k:List Key):RelO (valV kvs k) ((atKey xs k).map (·.2)):=by
 induction r with
 |nil=>exact True.intro
 | @cons p q ps a h t g=>
  obtain⟨f,_,i⟩:=h;by_cases e:p.1=k
  ·have c:q.1=k:=f.symm.trans e
   have b:atKey (q::a) k=some q.2:=by simp[atKey,List.find?_cons,c]
   rw[xb6 e,b];exact i
  ·have c:¬q.1=k:=λz=>e (f.trans z)
   have b:atKey (q::a) k=atKey a k:=by simp[atKey,List.find?_cons,c]
   rw[xb7 e,b];exact g
theorem KT.repl {H:Hp} {kvs:List (List Key×V)} {xs:List (List Key×Addr×Value)} (r:KT H kvs xs) (k:List Key) {y:V} {u:Value} (f:RelV y u) :
  KT H (kvs.map λb=>if b.1=k then (b.1,y) else b) (xs.map (putAt k u)):=by
 induction r with
 |nil=>exact .nil
 |@cons p q ps j h t g=>
  rw[List.map_cons,List.map_cons];refine .cons ?_ g;obtain⟨a,c,i⟩:=h;unfold putAt;by_cases e:p.1=k
  ·rw[if_pos e,if_pos (a.symm.trans e)];exact⟨a,c,f⟩
  ·rw[if_neg e,if_neg (λz=>e (a.trans z))];exact⟨a,c,i⟩
theorem KT.put {H:Hp} {kvs:List (List Key×V)} {xs:List (List Key×Addr×Value)} (r:KT H kvs xs) (k:List Key) {b:Addr} {y:V} {u:Value} (f:H b=some (.tup (k.map kV))) (a:RelV y u) :
  KT H (putK kvs k y) (storedH xs k b u):=by
 have e:(kvs.any λc=>decide (c.1=k))=(atKey xs k).isSome:=by
  rw[xev,(r.val k).isSome_eq,Option.isSome_map]
 unfold putK storedH;rw[e];by_cases q:(atKey xs k).isSome=true
 ·rw[if_pos q,if_pos q];exact r.repl k a
 ·rw[if_neg q,if_neg q];exact Paired.snoc r ⟨rfl,f,a⟩
theorem KT.keeps{H a:Hp}{kvs:List (List Key×V)}{xs:List (List Key×Addr×Value)}(r:KT H kvs xs)(c:∀b ys,H b=some (.tup ys)->a b=some (.tup ys)):KT a kvs xs:=
 Paired.mapP r λ_ _ z=>⟨z.1,c _ _ z.2.1,z.2.2⟩
section
variable {P:Program}{w:World}{H:Hp}{h:Heap}{a:Addr}
theorem xsg{u:HO}(ok:HOk P w H h)(e:Rd H a u):ObjOk P w H h a u:=e.ok ok
theorem xpf{kvs:List (Key×V)}(ok:HOk P w H h)(e:Rd H a (.dK kvs)):kvs.length<=sizeLine/\(a == sysModules)=false/\∃vs,KV kvs vs/\h.DictOf (xce P w) a vs:=
 show ObjOk P w H h a (.dK kvs) from xsg ok e
theorem xrm{kvs:List (Key×V)}(ok:HOk P w H h)(e:H a=some (.dK kvs)):kvs.length<=sizeLine/\(a == sysModules)=false/\∃vs,KV kvs vs/\h.DictOf (xce P w) a vs:=xpf ok (.inl e)
theorem xni{ks:List Key}(ok:HOk P w H h)(e:H a=some (.tup (ks.map kV))):(tupleKind (xce P w)).is h ks a:=by
 obtain⟨_,its,r,o,h1,h2,n,h3,_⟩:=(show ObjOk P w H h a (.tup (ks.map kV)) from ok a _ e);exact⟨o,its.toArray,n,h1,h2,h3,by simpa using xio r⟩
theorem xrl {kvs:List (List Key×V)} (ok:HOk P w H h) (e:Rd H a (.dT kvs)):kvs.length<=sizeLine/\(a == sysModules)=false ∧
  ∃xs,KT H kvs xs/\h.DictOfH (tupleKind (xce P w)) a xs:=by
 obtain⟨z,y,xs,r,o,es,ep,s,n,j,i,g⟩:=(show ObjOk P w H h a (.dT kvs) from xsg ok e);refine⟨z,y,xs,r,o,es,ep,s,n,j,i,λx b=>?_,g⟩
 have all:∀{l:List (List Key×V)} {m:List (List Key×Addr×Value)},KT H l m->∀x∈m,(tupleKind (xce P w)).is h x.1 x.2.1:=by
  intro l m q
  induction q with
  |nil=>intro x b;exact nomatch b
  | @cons p q ps u c t f=>
   intro x b;rcases zMC b with e |b
   ·subst e
    exact xni ok (by rw[<- c.1];exact c.2.1)
   ·exact f x b
 exact all r x b
theorem xub {kvs:List (List Key×V)} (ok:HOk P w H h) (e:H a=some (.dT kvs)):kvs.length<=sizeLine/\(a == sysModules)=false ∧
  ∃xs,KT H kvs xs/\h.DictOfH (tupleKind (xce P w)) a xs:=xrl ok (.inl e)
end
def DGet(H:Hp)(a:Addr)(y:V)(r:Option V):Prop:=
 (∃kvs k,Rd H a (.dK kvs)/\y=kV k/\r=valV kvs k)\/∃kvs k b,Rd H a (.dT kvs)/\y=.ref b/\H b=some (.tup (k.map kV))/\r=valV kvs k
def DPut(H:Hp)(a:Addr)(y v:V)(H':Hp):Prop:=
 (∃kvs k,H a=some (.dK kvs)/\y=kV k/\kvs.length<sizeLine/\H'=upd H a (.dK (putK kvs k v))) ∨
 ∃kvs k b,H a=some (.dT kvs)/\y=.ref b/\H b=some (.tup (k.map kV))/\kvs.length<sizeLine/\H'=upd H a (.dT (putK kvs k v))
theorem DGet.k{H:Hp}{a:Addr}{kvs:List (Key×V)}{k:Key}(e:H a=some (.dK kvs)):DGet H a (kV k) (valV kvs k):=.inl ⟨kvs,k,.inl e,rfl,rfl⟩
theorem DPut.k{H:Hp}{a:Addr}{kvs:List (Key×V)}{k:Key}{v:V}(e:H a=some (.dK kvs))(b:kvs.length<sizeLine):DPut H a (kV k) v (upd H a (.dK (putK kvs k v))):=.inl ⟨kvs,k,e,rfl,b,rfl⟩
section
variable {X:Cx}{pins:List (Addr×Obj)}{σ:St}{H:Hp}{s:Shared}{a:Addr}{y v:V}{u r:Value}{o:Option V}{A:Around}{E:Value->Shared->Prop}
theorem Inv.big(I:Inv X pins σ H s):sysModules<s.heap.objs.size:=by
 have h:mainGlobals<s.heap.objs.size:=(I.mod.glob.keeps I.bk).lt;exact Nat.lt_trans (by decide) h
theorem xn4 {Q:Value->Shared->Prop} (hu:A.units+1<cLine) (I:Inv X pins σ H s) (g:DGet H a y (some v)) (ry:RelV y u) (h:∀w' s',Inv X pins σ H s'->RelV v w'->Q w' s') :
  wpAny (model X.prog X.w) A (getItem (.ref a) u) Q E s:=by
 rcases g with⟨kvs,k,e,ey,l⟩ |⟨kvs,k,b,e,ey,eb,l⟩
 ·subst ey
  obtain⟨z,hd,vs,rel,dd⟩:=xpf I.hok e;obtain⟨w',hw,rw'⟩:=RelO.some_of (v:=v) (o:=valueAt vs k) (by rw[l];exact rel.val k);exact wpAny_getItem_of (xo6 ry) dd.mapOf hw (h w' _ (I.tok _) rw')
 ·subst ey
  cases (show u=Value.ref b from ry);obtain⟨z,hd,xs,rel,dd⟩:=xrl I.hok e;obtain⟨w',hw,rw'⟩:=RelO.some_of (v:=v) (o:=(atKey xs k).map (·.2)) (by rw[l];exact rel.val k);obtain⟨p,hp,hp2⟩:=zMS hw;refine wpAny_getItem_heap (tupleKind_room_in1 hu) (xni I.hok eb) dd hp ?_;rw[hp2];exact h w' _ (I.tok _) rw'
theorem xn2 {h':Heap} {t':Nat} {ob:HO} (I:Inv X pins σ H s) (mu:Mut (H a)) (hs:Heap.SameBut a s.heap h') (he:∃q,h'.get? a=some q) (new:ObjOk X.prog X.w (upd H a ob) h' a ob) :
  Inv X pins σ (upd H a ob) {s with heap:=h',toks:=t'}:=
 I.write (x:=a) (e:=a) mu (.inl rfl) (λb q hb z=>(hs.2 b hb).trans z) he new
theorem xn1 {P:Program} {w:World} {e:Hp} {h':Heap} {kvs:List (Key×V)} {vs:List (Key×Value)} (z:kvs.length<=sizeLine) (hd:(a == sysModules)=false) (b:KV kvs vs) (c:h'.DictOf (xce P w) a vs) :
  ObjOk P w e h' a (.dK kvs):=⟨z,hd,vs,b,c⟩
theorem xn3 {H':Hp} {Q:Unit->Shared->Prop} (hu:A.units+1<cLine) (I:Inv X pins σ H s) (g:DPut H a y v H') (ry:RelV y u) (rv:RelV v r) (h:∀s',Inv X pins σ H' s'->Q () s') :
  wpAny (model X.prog X.w) A (setItem (.ref a) u r) Q E s:=by
 rcases g with⟨kvs,k,e,ey,l,eH⟩ |⟨kvs,k,b,e,ey,eb,l,eH⟩
 ·subst ey eH
  obtain⟨z,hd,vs,rel,dd⟩:=xrm I.hok e;have hz:vs.length<=sizeLine:=by rw[<- rel.length];exact z
  have hl:(putK kvs k v).length<=sizeLine:=by have:=xda kvs k v;omega
  refine wpAny_setItem_pairs (hsz:=hz) (xo6 ry) dd λh' dd' hs=>h _ ?_;have he:∃q,h'.get? a=some q:=let ⟨q,_,_,hq,_⟩:=dd';⟨q,hq⟩;exact xn2 I (by rw[e];exact True.intro) hs he (xn1 hl hd (rel.put k rv) dd')
 ·subst ey eH
  cases (show u=Value.ref b from ry);obtain⟨z,hd,xs,rel,dd⟩:=xub I.hok e;have hz:xs.length<=sizeLine:=by rw[<- Paired.length rel];exact z
  have hl:(putK kvs k v).length<=sizeLine:=by have:=xda kvs k v;omega
  refine wpAny_setItem_heap (hsz:=hz) (tupleKind_room_in1 hu) (xni I.hok eb) dd λh' dd' hs=>h _ ?_;obtain⟨q,es,ep,hq,h2,h3,h4,_,h5⟩:=dd';refine xn2 I (by rw[e];exact True.intro) hs ⟨q,hq⟩ ⟨hl,hd,_,(rel.put k eb rv).keeps λc ys ec=>?_,q,es,ep,hq,h2,h3,h4,h5⟩;rw[xao (xt5 ec e (λz=>nomatch z))];exact ec
end
def NoSl(i:Expr):Prop:=∀ov iv,subscripted i false ov iv=operate [ov,iv] (getItem ov iv)
theorem xqg {prog:Program} {w:World} {A:Around} {E:Value->Shared->Prop} {s:Shared} {env:Env} {value a:Expr} {pos:Pos} {T id:String} {Q:Value->Shared->Prop}
  (l:typeLookup (.type T) "__getitem__"=pure (some (.builtin id))) (hs:NoSl a)
  (h:wpAny (model prog w) A (eval value env) (λo f=>wpAny (model prog w) A (eval a env) (λi b=>b.TypeIs o T/\wpAny (model prog w) A (getItem o i) Q E b) E f) E s) :
  wpAny (model prog w) A (eval (.Subscript value a pos) env) Q E s:=by
 refine Subscript_ (wpAny_mono h (λo f h₁=>wpAny_mono h₁ (λi b c=>?_) λ_ _ x=>x) λ_ _ x=>x);obtain⟨g,c⟩:=c;unfold subscriptTail;refine wpAny_bind ?_;rw[getitemInPython_of_ne g.not_modules];refine wpAny_bind (wpAny_specialOf g l ?_)
 have fin:wpAny (model prog w) A (subscripted a false o i) (λr e=>wpAny (model prog w) A (letTemporaryGo value o r >>= λ_=>pure r) Q E e) E b:=by
  rw[hs o i];exact wpAny_operating (wpAny_mono c (λr e j=>wpAny_bind (wpAny_letTemporaryGo (wpAny_pure j))) λ_ _ x=>x)
 first
  |exact wpAny_pure (wpAny_bind fin)
  |exact wpAny_bind (wpAny_pure (wpAny_bind fin))
  |exact wpAny_bind fin
theorem xj1{X:Cx}{pins:List (Addr×Obj)}{σ:St}{H:Hp}{s:Shared}{a:Addr}{y:V}{o:Option V}(I:Inv X pins σ H s)(g:DGet H a y o):s.TypeIs (.ref a) "dict":=by
 rcases g with⟨kvs,k,e,_,_⟩ |⟨kvs,k,b,e,_,_,_⟩
 ·obtain⟨_,_,vs,_,c⟩:=xpf I.hok e
  exact c.typeIs
 ·obtain⟨_,_,xs,_,c⟩:=xrl I.hok e
  exact c.typeIs
def xtt(td ty:TE):TE:=λσ H Q=>td σ H λx H1=>ty σ H1 λy H2=>∃a v,x=.ref a/\DGet H2 a y (some v)/\Q v H2
def xtz(td ty tv:TE):TS:=λD σ H=>tv σ H λv H1=>td σ H1 λx H2=>ty σ H2 λy H3=>∃a H4,x=.ref a/\DPut H3 a y v H4/\D.nx σ H4
section
variable {X:Cx}{o i e value:Expr}{pos pos' tpos:Pos}{td ty tv:TE}
theorem xcj(n:X.A.units+1<cLine)(p:PE X o td)(hi:PE X i ty)(hs:NoSl i):PE X (.Subscript o i pos) (xtt td ty):=by
 intro pins s σ H Q I h;refine xqg PySem.F.slot_dict_getitem.lookup hs (thn (p pins s σ H _ I h) λu e ⟨x,C,w,j,m⟩=>thn (hi pins e σ C _ w m) λO M ⟨y,z,c,f,a,v,ex,g,l⟩=>?_);subst ex;obtain rfl:u=Value.ref a:=j;exact⟨xj1 c g,xn4 n c g f λG J r b=>⟨v,z,r,b,l⟩⟩
theorem xjk (w:X.A.units+1<cLine) (z:PE X o td) (hi:PE X i ty) (p:PE X value tv) (hs:swapsWith value (some (.Subscript o i pos')) pos.line X.env=pure false) :
  PS X (.Assign [.Subscript o i pos'] value pos) (xtz td ty tv):=by
 intro pins s σ H D I h;refine wpAny_Assign_Subscript (thn (p pins s σ H _ I h) λr c ⟨v,Y,M,j,n⟩=>thn (z pins c σ Y _ M n) λu b ⟨x,U,J,f,m⟩=>thn (hi pins b σ U _ J m) λiv s3 ⟨y,H3,G,e,a,O,ex,g,l⟩=>?_) hs;subst ex;obtain rfl:u=Value.ref a:=f;exact xn3 w G g e j λZ C=>⟨σ,O,C,l⟩
end
def xcx(kvs more:List (Key×V)):List (Key×V):=more.foldl (λacc kv=>putK acc kv.1 kv.2) kvs
theorem KV.merge:∀{more:List (Key×V)} {rs:List (Key×Value)} {kvs:List (Key×V)} {vs:List (Key×Value)},KV more rs->KV kvs vs->KV (xcx kvs more) (merged vs rs):=by
 intro more rs kvs vs r;unfold KV at r
 induction r generalizing kvs vs with
 |nil=>intro q;exact q
 | @cons p q ps c h t b=>
  intro a
  have e:KV (putK kvs p.1 p.2) (stored vs q.1 q.2):=by
   have:=a.put p.1 h.2;rw[<- h.1];exact this
  exact b e
theorem xee:∀(more kvs:List (Key×V)),(xcx kvs more).length<=kvs.length+more.length
 |[],kvs=>by show kvs.length<=kvs.length+0;omega
 |p::r,kvs=>by
  have b:=xee r (putK kvs p.1 p.2);have a:=xda kvs p.1 p.2;show(xcx (putK kvs p.1 p.2) r).length<=_;rw[List.length_cons];omega
section
variable {X:Cx}{pins:List (Addr×Obj)}{σ:St}{H:Hp}{s:Shared}{a:Addr}{kvs:List (Key×V)}{A:Around}{E:Value->Shared->Prop}
theorem xpg{Q:Value->Shared->Prop}(I:Inv X pins σ H s)(e:Rd H a (.dK kvs))(h:∀p s',H p=none->Inv X pins σ (upd H p (.dK kvs)) s'->Q (.ref p) s'):wpAny (model X.prog X.w) A (call (.type "dict") [.ref a]) Q E s:=by
 obtain⟨z,hd,vs,c,i⟩:=xpf I.hok e;refine kt_call_dict hd i (by rw[<- c.length];exact z) λh' f hs=>?_;refine h _ _ (I.hok.fresh (Nat.le_refl _)) (I.laid (a:=s.heap.objs.size) (o:=.dK kvs) (t':=s.toks) (λb q g=>?_) (Nat.le_refl _) (xn1 z (beq_eq_false_iff_ne.mpr (Ne.symm (Nat.ne_of_lt I.big))) c f));exact(hs.2 b (Nat.ne_of_lt (Heap.lt_size g))).trans (zPO _ g)
end
section
variable {κ:Type}[DecidableEq κ]
theorem xjt:∀{l:List κ} {k:κ},l.Nodup->¬k∈l->(l++[k]).Nodup
 |[],k,_,_=>by simp
 |a::r,k,h,b=>by
  obtain⟨e,c⟩:=List.nodup_cons.mp h;show(a::(r++[k])).Nodup;refine List.nodup_cons.mpr ⟨λm=>?_,xjt c λm=>b (List.mem_cons.mpr (Or.inr m))⟩;rcases zMA m with q |q
  ·exact e q
  ·exact b (List.mem_cons.mpr (Or.inl (zMO q).symm))
end
section
variable {X:Cx}
theorem xgn:xdy X (.type "dict") (λxs H Q=>∃a kvs,xs=[V.ref a]/\H a=some (.dK kvs)/\∀p,H p=none->Q (.ref p) (upd H p (.dK kvs))):=by
 intro pins s σ H xs us Q I r h;obtain⟨a,kvs,rfl,ha,q⟩:=h;obtain⟨u,rfl,ru⟩:=xfx r;cases ru;exact xpg I (.inl ha) λp s' hp I'=>⟨.ref p,_,I',rfl,q p hp⟩
end
section
variable {ix:Cap}{tt:TT}{te:TE}{g:TG}{σ:St}{H:Hp}{Q:VK}
def NxtG(Pv:Nat->List V->Hp->Prop)(n i:Nat)(ys:List V):VK:=λy H2=>∃m',m'<n-i/\m'=n-(i+1)/\i+1<=n/\(ys++[y]).length<=i+1/\Pv (i+1) (ys++[y]) H2
def NxtN(Pv:Nat->List V->Hp->Prop)(n i:Nat)(ys:List V):Hp->Prop:=λH2=>∃m',m'<n-i/\m'=n-(i+1)/\i+1<=n/\ys.length<=i+1/\Pv (i+1) ys H2
theorem nxtG{a:Nat->List V->Hp->Prop}{n i:Nat}{ys:List V}{y:V}{b:Hp}(hi:i<n)(c:ys.length<=i)(h:a (i+1) (ys++[y]) b):NxtG a n i ys y b:=
 ⟨n-(i+1),by omega,rfl,hi,by rw[zLA,List.length_singleton];omega,h⟩
theorem nxtN{a:Nat->List V->Hp->Prop}{n i:Nat}{ys:List V}{b:Hp}(hi:i<n)(c:ys.length<=i)(h:a (i+1) ys b):NxtN a n i ys b:=
 ⟨n-(i+1),by omega,rfl,hi,by omega,h⟩
theorem xbm {K:Fg} {a:Addr} {xs:List V} (c:Nat->List V->Hp->Prop) (h0:c 0 [] H) (hn:xs.length<sizeLine) (j:∀i ys H,i<=xs.length->c i ys H->SqT K H a xs)
  (hs:∀i x ys H,xs[i]?=some x->i<xs.length->ys.length<=i->c i ys H->g x (capt l σ) H λh u=>Ext (capt l σ) h/\r h u λb o=>if b=true then s h o (NxtG c xs.length i ys) else NxtN c xs.length i ys o)
  (hd:∀ys H,ys.length<=xs.length->c xs.length ys H->∀D,H D=none->Q (.ref D) (upd H D (.lst ys))):xfw (Itt K a) l g r s σ H Q:=by
 refine⟨λi m ys H=>m=xs.length-i/\i<=xs.length/\ys.length<=i/\c i ys H,⟨xs.length,by simp,Nat.zero_le _,Nat.le_refl _,h0⟩,?_⟩;rintro i m ys H ⟨rfl,hi,n,p⟩;have q:=j i ys H hi p;by_cases f:i<xs.length
 ·refine .inr ⟨⟨xs,xs[i],q,by simp[f]⟩,by omega,λv w y=>?_⟩
  obtain⟨e,y⟩:=y;subst e;exact hs i v ys _ (y xs q) f n p
 ·have e:i=xs.length:=by omega
  subst e;exact .inl ⟨⟨xs,q,Nat.le_refl _⟩,hd ys H n p⟩
theorem xen {K:Fg} {a:Addr} {xs:List V} (c:Nat->List V->Hp->Prop) (h0:c 0 [] H) (hn:xs.length<sizeLine) (j:∀i ys H,i<=xs.length->c i ys H->SqL K H a xs)
  (hs:∀i x ys H,xs[i]?=some x->i<xs.length->ys.length<=i->c i ys H->g x (capt l σ) H λh u=>Ext (capt l σ) h/\r h u λb o=>if b=true then s h o (NxtG c xs.length i ys) else NxtN c xs.length i ys o)
  (hd:∀ys H,ys.length<=xs.length->c xs.length ys H->∀D,H D=none->Q (.ref D) (upd H D (.lst ys))):xfw (Itl K a) l g r s σ H Q:=by
 refine⟨λi m ys H=>m=xs.length-i/\i<=xs.length/\ys.length<=i/\c i ys H,⟨xs.length,by simp,Nat.zero_le _,Nat.le_refl _,h0⟩,?_⟩;rintro i m ys H ⟨rfl,hi,n,p⟩;have q:=j i ys H hi p;by_cases f:i<xs.length
 ·refine .inr ⟨⟨xs,xs[i],q,by simp[f]⟩,by omega,λv w y=>?_⟩
  obtain⟨e,y⟩:=y;subst e;exact hs i v ys _ (y xs q) f n p
 ·have e:i=xs.length:=by omega
  subst e;exact .inl ⟨⟨xs,q,Nat.le_refl _⟩,hd ys H n p⟩
theorem ext2{σ:St}{i j:Nat}{v w:Option V}(h:σ[i]?=some none)(k:σ[j]?=some none):Ext σ ((σ.set i v).set j w):=by
 refine⟨by simp,λn c e=>?_⟩;have b:i≠n:=λz=>by subst z;rw[h]at e;cases e
 have a:j≠n:=λz=>by subst z;rw[k]at e;cases e
 rw[List.getElem?_set_ne a,List.getElem?_set_ne b];exact e
end
section
variable {X:Cx}
def xsi:V->List V->Hp->VK->Prop:=λx vs H Q=>∃l,∃ys:List Str,∃z j,x=.ref l/\vs=[.str z]/\H l=some (.lst (ys.map V.str))/\ys.findIdx? (λy=>decide (y=z))=some j/\Q (.int (j:Nat)) H
theorem xo2:MtM X "list.index" xsi:=by
 intro p s σ H x vs v us Q I C G h;obtain⟨l,ys,z,j,rfl,rfl,Z,Y,q⟩:=h;cases C;obtain⟨u,rfl,J⟩:=G.one;obtain⟨o,its,n,r,U,e⟩:=I.lstM Z
 have fs:(ys.map V.str).all xf8=true:=by
  rw[List.all_eq_true];intro y b;obtain⟨y',_,rfl⟩:=zMP b;rfl
 obtain⟨h1,h2,h3⟩:=List.findIdx?_eq_some_iff_getElem.mp Y;rw[zLM]at U o
 have a:∀i (hi:i<ys.length) (f:i<its.toArray.size),eqU (.str z) its.toArray[i]=decide (ys[i]=z):=λi hi f=>by
  obtain⟨w,e',M⟩:=r.get (i:=i) (x:=.str ys[i]) (by rw[zGM,zGA hi];rfl)
  have g:its.toArray[i]=w:=by
   have:its[i]?=some its[i]:=zGA (by omega);rw[e']at this;simpa using (Option.some.inj this).symm
  rw[g,xnz M rfl];show(ys[i] == z)=_;rw[Bool.eq_iff_iff];simp
 refine call_meets F.slot_list_index ⟨_,e,rfl⟩ F.entry_list_index (F.args_list_index_2 _ _) (SeqAt.list_indexAt l its.toArray n none #[] u (eqU (.str z)) j (by simp;omega) ?_ ?_ ?_) ⟨e,λy b=>xe3 J rfl r fs y (by simpa using b),⟨.int j,H,I.tok _,⟨_,rfl⟩,q⟩⟩
 ·rw[sizeLine_eq]at o
  omega
 ·rw[a j h1 (by simp;omega)]
  exact h2
 ·intro m O c
  rw[a m (by omega) O];have:=h3 m c;simpa using this
end
theorem xhk:∀{ns:List Int},(∀n∈ns,0<=n/\n<=1000000)->0<=ns.sum/\ns.sum<=1000000*(ns.length:Int)
 |[],_=>by simp
 |n::ns,h=>by
  have c:=h n (by simp);have b:=xhk (ns:=ns) λm a=>h m (List.mem_cons_of_mem _ a);rw[List.sum_cons,List.length_cons];push_cast;omega
section
variable {X:Cx}
theorem xix(x:X.calm=true):xdy X (.builtin "sum") (λxs H Q=>∃p,∃ns:List Int,xs=[.ref p]/\SqL X.K H p (ns.map V.int)/\(∀n∈ns,0<=n/\n<=1000000)/\ns.length<=1000/\Q (.int ns.sum) H):=by
 intro b s σ H xs us Q I r h;obtain⟨p,ns,rfl,m,g,c,q⟩:=h;obtain⟨u,rfl,l⟩:=xfx r;cases l;obtain⟨its,i,pl,hz⟩:=I.list m;have hi:=xgj i;obtain⟨xs,e⟩:=hi.allInts.items;have a:ns=xs.toList.map (·.1):=by rw[<- hi.numsOf,<- nums_intItems,<- e]
 have f:=pl.isList;rw[e]at f;have hsz:xs.size=ns.length:=by rw[a,zLM,Array.length_toList]
 refine sum_intList (I.ok.hd x) f (λj w=>?_) λh' y t' k=>⟨.int ns.sum,H,I.kept k,?_,q⟩
 ·have o:numAt xs j∈ns:=by
   rw[a,numAt_eq];exact getD_mem (by rw[zLM,Array.length_toList];exact w)
  have G:=g _ o;have C:=xhk (ns:=ns.take (j+1)) λn hn=>g n (List.mem_of_mem_take hn);have z:(ns.take (j+1)).length<=1000:=Nat.le_trans (List.length_take_le _ _) (by omega);rw[preSum_eq,<- a];unfold InLong;omega
 ·refine⟨t',?_⟩
  rw[preSum_eq,<- a,zTL (by omega)]
theorem xn5(z:X.calm=true):xdy X (.builtin "max") (λxs H Q=>∃p,∃ns:List Int,xs=[.ref p]/\SqL X.K H p (ns.map V.int)/\ns≠[]/\∀m,m∈ns->(∀n∈ns,n<=m)->Q (.int m) H):=by
 intro f s σ H xs us Q I r h;obtain⟨p,ns,rfl,x,c,q⟩:=h;obtain⟨u,rfl,o⟩:=xfx r;cases o;obtain⟨its,l,pl,hz⟩:=I.list x;have hi:=xgj l;obtain⟨xs,e⟩:=hi.allInts.items;have b:ns=xs.toList.map (·.1):=by rw[<- hi.numsOf,<- nums_intItems,<- e]
 have g:=pl.isList;rw[e]at g;have hsz:xs.size=ns.length:=by rw[b,zLM,Array.length_toList]
 have J:0<ns.length:=List.length_pos_iff.mpr c;refine max_intList (I.ok.hd z) g (by omega) λv h' G w k=>?_;obtain⟨t,rfl⟩:=intItems_at w;obtain⟨M,C⟩:=argBest_gt (numAt xs) (xs.size-1);refine⟨.int _,H,I.kept k,⟨t,rfl⟩,q _ ?_ λa i=>?_⟩
 ·rw[b,numAt_eq]
  exact getD_mem (by rw[zLM,Array.length_toList];omega)
 ·rw[b]at i
  obtain⟨j,y,rfl⟩:=mem_getD i;rw[zLM,Array.length_toList]at y;rw[<- numAt_eq];exact C j (by omega)
end
section
variable {X:Cx}{K:Fg}
theorem xrb(h:X.K=K):IxR X (rIxT K):=by subst h;exact xs5
theorem xo7(h:X.K=K):IxR X (rIxL K):=by subst h;exact iL
theorem xad(h:X.K=K):xdy X (.builtin "len") (λxs H Q=>∃p ys,xs=[.ref p]/\(SqL K H p ys\/SqT K H p ys)/\Q (.int ys.length) H):=by subst h;exact xiz
theorem xbk {es:List Expr} {k:Nat} {t:TGs} {n:Nat} {pos:Pos} (c:X.K=K) (b:X.calm=true) (h:PGs X es t)
  (hn:(assignEach es X.env).length=n:=by rfl) (a:(assignEach es X.env).findIdx? (·.1)=none:=by rfl):PG X (.Tuple es k pos) (gTup K n t):=by subst c;exact xsm b h hn a
end
end L2
end
section
namespace M
open PySem L2
structure Kn where
 name:Str
 rc:Bool
 parts:List (Str×Str)
def Kn.sort(k:Kn):Str:=if k.rc=true then S "rec" else S "alt"
def xj2(p:Str×Str):D:=.tup [.str p.1,.str p.2]
def xdg(ps:List (Str×Str)):D:=.tup (ps.map xj2)
def Kn.d(k:Kn):D:=.tup [.str k.name,.str k.sort,xdg k.parts]
def xdn(ks:List Kn):D:=.tup (ks.map Kn.d)
def kAt(ks:List Kn)(x:Str):Option Kn:=ks.find? λk=>decide (k.name=x)
def xtx:Option Kn->V
 |some k=>.str k.sort
 |none=>.non
def xkq:Option Kn->D
 |some k=>xdg k.parts
 |none=>.tup []
def KsAt(H:Hp)(v:V)(ks:List Kn):Prop:=RelD H v (xdn ks)/\ks.length<=100/\∀k∈ks,k.parts.length<=100
theorem KsAt.same{H a:Hp}{v:V}{ks:List Kn}(h:KsAt H v ks)(s:Same H a):KsAt a v ks:=⟨h.1.same s _,h.2⟩
abbrev En:=Str->Option D
def En.put(e:En)(x:Str)(d:D):En:=λy=>if y=x then some d else e y
def EnAt(H:Hp)(p:Addr)(m:Nat)(e:En):Prop:=
 ∃kvs,H p=some (.dK kvs)/\kvs.length<=m/\∀x,(e x=none->valV kvs (Sum.inr x)=none)/\∀d,e x=some d->∃v,valV kvs (Sum.inr x)=some v/\RelD H v d
theorem EnAt.same{H b:Hp}{p:Addr}{m:Nat}{e:En}(h:EnAt H p m e)(s:Same H b):EnAt b p m e:=by
 obtain⟨kvs,g,f,a⟩:=h;refine⟨kvs,s _ _ g,f,λx=>⟨(a x).1,λd hd=>?_⟩⟩;obtain⟨v,c,r⟩:=(a x).2 d hd;exact⟨v,c,r.same s _⟩
theorem EnAt.mono{H:Hp}{p:Addr}{m a:Nat}{e:En}(h:EnAt H p m e)(l:m<=a):EnAt H p a e:=by
 obtain⟨kvs,c,f,b⟩:=h;exact⟨kvs,c,by omega,b⟩
theorem EnAt.put {H a:Hp} {p q:Addr} {m:Nat} {e:En} {kvs:List (Key×V)} (l:H p=some (.dK kvs)) (n:kvs.length<=m) (h:∀x,(e x=none->valV kvs (Sum.inr x)=none)/\∀d,e x=some d->∃v,valV kvs (Sum.inr x)=some v/\RelD H v d)
  (s:Same H a) {x:Str} {v:V} {d:D} (g:RelD a v d) (j:a q=some (.dK (putK kvs (Sum.inr x) v))):EnAt a q (m+1) (e.put x d):=by
 refine⟨_,j,by have:=xda kvs (Sum.inr x) v;omega,λy=>?_⟩;rw[xgp];unfold En.put;by_cases c:y=x
 ·subst c
  rw[if_pos rfl,if_pos rfl];refine⟨λz=>(by cases z),λd' f=>?_⟩;cases f;exact⟨v,rfl,g⟩
 ·have b:¬(Sum.inr y:Key)=Sum.inr x:=λz=>c (Sum.inr.inj z)
  rw[if_neg c,if_neg b];refine⟨(h y).1,λd' f=>?_⟩;obtain⟨u,i,r⟩:=(h y).2 d' f;exact⟨u,i,r.same s _⟩
def opV(s:Str)(x y:Int):Int:=
 if s=S "+" then (x+y)%4294967296 else if s=S "-" then (x-y)%4294967296 else if s=S "*" then x*y%4294967296 else if s=S "<" then (if x<y then 1 else 0) else (if x=y then 1 else 0)
def Nm(x:Int):Prop:=0<=x/\x<4294967296
theorem xsw(s:Str)(x y:Int):Nm (opV s x y):=by
 have h:∀z:Int,Nm (z%4294967296):=λz=>⟨Int.emod_nonneg _ (by decide),Int.emod_lt_of_pos _ (by decide)⟩;unfold opV;split
 ·exact h _
 split
 ·exact h _
 split
 ·exact h _
 split
 ·split <;> exact⟨by decide,by decide⟩
 ·split <;> exact⟨by decide,by decide⟩
abbrev tNum(n:Int):D:=.tup [.str (S "num"),.int n]
abbrev tBox(x:Str):D:=.tup [.str (S "box"),.str x]
abbrev tOpD(s:Str)(a b:D):D:=.tup [.str (S "op"),.str s,a,b]
abbrev tRec(k:Str)(es:List D):D:=.tup [.str (S "rec"),.str k,.tup es]
abbrev tGet(a:D)(f:Str):D:=.tup [.str (S "get"),a,.str f]
abbrev tTag(k t:Str)(a:D):D:=.tup [.str (S "tag"),.str k,.str t,a]
abbrev dArm(r:Str×Str×D):D:=.tup [.str r.1,.str r.2.1,r.2.2]
abbrev xlc(a:D)(rs:List (Str×Str×D)):D:=.tup [.str (S "case"),a,.tup (rs.map dArm)]
abbrev tIfD(a b c:D):D:=.tup [.str (S "if"),a,b,c]
def xd3(env:En)(d v:D):Prop:=(∃n,d=tNum n/\v=.int n)\/∃x,env x=some v/\d=tBox x
def NodeEv(ks:List Kn)(R:En->D->D->Prop)(env:En)(d v:D):Prop:=
 (∃s a b x y,R env a (.int x)/\R env b (.int y)/\Nm x/\Nm y/\d=tOpD s a b/\v=.int (opV s x y)) ∨
 (∃k es vs,es.length<=1000/\All2 (R env) es vs/\d=tRec k es/\v=.tup [.str k,.tup vs]) ∨
 (∃a k vs f kn i,R env a (.tup [.str k,.tup vs])/\kAt ks k=some kn/\(kn.parts.map (·.1)).findIdx? (λz=>decide (z=f))=some i/\vs[i]?=some v/\d=tGet a f) ∨
 (∃k t a x,R env a x/\d=tTag k t a/\v=.tup [.str k,.str t,x]) ∨
 (∃a rs k t x y e,rs.length<=1000/\R env a (.tup [.str k,.str t,x])/\rs.find? (λr=>decide (r.1=t))=some (t,y,e)/\R (env.put y x) e v/\d=xlc a rs) ∨
 (∃a b c x,R env a (.int x)/\R env (if x=0 then c else b) v/\d=tIfD a b c)
def Ev(ks:List Kn):Nat->En->D->D->Prop
 |0=>xd3
 |n+1=>λenv d v=>xd3 env d v\/NodeEv ks (Ev ks n) env d v
def xn9(env:En)(d:D)(k:Str):Prop:=(∃n,Nm n/\d=tNum n/\k=S "num")\/∃x,env x=some (.str k)/\d=tBox x
def xh3(kn:Kn)(f:Str):Option Str:=(kn.parts.find? λp=>decide (p.1=f)).map (·.2)
abbrev RKn:=En->D->Str->Prop
def OpKd(R:RKn):RKn:=λenv d k=>∃s a b,R env a (S "num")/\R env b (S "num")/\d=tOpD s a b/\k=S "num"
def xue(ks:List Kn)(R:RKn):RKn:=λenv d k=>∃es kn,kAt ks k=some kn/\kn.rc=true/\All2 (λe (p:Str×Str)=>R env e p.2) es kn.parts/\d=tRec k es
def xuf(ks:List Kn)(R:RKn):RKn:=λenv d k=>∃a k1 f kn,R env a k1/\kAt ks k1=some kn/\kn.rc=true/\xh3 kn f=some k/\d=tGet a f
def xud(ks:List Kn)(R:RKn):RKn:=λenv d k=>∃t a kn k1,kAt ks k=some kn/\kn.rc=false/\xh3 kn t=some k1/\R env a k1/\d=tTag k t a
def xtj (cs:Prop) (ks:List Kn) (R:RKn):RKn:=λenv d k=>cs/\∃a,∃rs:List (Str×Str×D),∃k1 kn,R env a k1/\kAt ks k1=some kn/\kn.rc=false/\rs≠[]/\rs.length=kn.parts.length/\(rs.map (·.1)).Nodup ∧
  (∀r∈rs,env r.2.1=none/\∃k2,xh3 kn r.1=some k2/\R (env.put r.2.1 (.str k2)) r.2.2 k)/\d=xlc a rs
def IfKd(R:RKn):RKn:=λenv d k=>∃a b c,R env a (S "num")/\R env b k/\R env c k/\d=tIfD a b c
def NodeKd(cs:Prop)(ks:List Kn)(R:RKn):RKn:=λenv d k=>OpKd R env d k\/xue ks R env d k\/xuf ks R env d k\/xud ks R env d k\/xtj cs ks R env d k\/IfKd R env d k
def Kd(cs:Prop)(ks:List Kn):Nat->En->D->Str->Prop
 |0=>xn9
 |n+1=>λenv d k=>xn9 env d k\/NodeKd cs ks (Kd cs ks n) env d k
theorem xcs{α:Type}{p:α->Bool}{xs:List α}{i:Nat}{a:α}(h:(xs.take i).find? p=none)(c:xs[i]?=some a):(p a=true->xs.find? p=some a)/\(p a=false->(xs.take (i+1)).find? p=none):=by
 have hi:i<xs.length:=(zES c).1;have e:xs[i]=a:=(zES c).2;refine⟨λb=>?_,λb=>?_⟩
 ·have f:xs=xs.take i++a::xs.drop (i+1):=by
   rw[<- e,<- List.drop_eq_getElem_cons hi,List.take_append_drop]
  rw[f,List.find?_append,h];simp[b]
 ·rw[zTA,c,List.find?_append,h]
  simp[b]
theorem Same.new2{H:Hp}{p:Addr}(h:H p=none)(o c:HO):Same H (upd (upd H p o) p c):=λb u q=>by
 have a:=neN q h;rw[xao a,xao a];exact q
mutual
def D.deep:D->Nat
 |.int _=>0
 |.str _=>0
 |.tup ds=>xft ds+1
def xft:List D->Nat
 |[]=>0
 |d::ds=>max d.deep (xft ds)
end
theorem xdm:∀{ds:List D} {d:D},d∈ds->d.deep<=xft ds
 | e::ds,d,h=>by
  show d.deep<=max e.deep (xft ds);rcases zMC h with rfl |h
  ·omega
  ·have:=xdm h
   omega
theorem xe6{n:Nat}:∀{ds:List D},(∀d∈ds,d.deep<=n)->xft ds<=n
 |[],_=>Nat.zero_le _
 |e::ds,h=>by
  show max e.deep (xft ds)<=n;have b:=h e (by simp);have a:=xe6 (ds:=ds) λd hd=>h d (List.mem_cons_of_mem _ hd);omega
section
variable {X:Cx}{pins:List (Addr×Obj)}{σ:St}{H:Hp}{s:Shared}
theorem xeq{vs:List V}{its:List Value}(r:Vals vs its){j:Nat}(a:j<its.toArray.size):∃x,vs[j]?=some x/\RelV x its.toArray[j]:=by
 have b:=r.length;have h:j<its.length:=by simpa using a
 obtain⟨u,e,q⟩:=r.get (i:=j) (x:=vs[j]'(by omega)) (zGA _)
 have g:its.toArray[j]=u:=by
  have:its[j]?=some its[j]:=zGA h;rw[e]at this;simpa using (Option.some.inj this).symm
 exact⟨vs[j]'(by omega),zGA _,by rw[g];exact q⟩
theorem xnx(I:Inv X pins σ H s):∀(n:Nat) (d:D) {x y:V} {u v:Value} {A:Around},d.deep<=n->RelD H x d->RelD H y d->RelV x u->RelV y v->A.units+n<cLine->SeqAt.EqAt A s u v true
 |n,.int i,x,y,u,v,A,_,hx,hy,ru,rv,_=>by
  cases hx;cases hy;obtain⟨t,rfl⟩:=ru;obtain⟨t',rfl⟩:=rv;have:=SeqAt.EqAt.int_int (A:=A) (s:=s) i t i t';rw[beq_self_eq_true]at this;exact this
 |n,.str z,x,y,u,v,A,_,hx,hy,ru,rv,_=>by
  cases hx;cases hy;obtain⟨t,rfl⟩:=ru;obtain⟨t',rfl⟩:=rv;have:=SeqAt.EqAt.str_str (A:=A) (s:=s) z t z t';rw[beq_self_eq_true]at this;exact this
 |0,.tup ds,x,y,u,v,A,h,_,_,_,_,_=>absurd h (Nat.not_succ_le_zero _)
 | n + 1,.tup ds,x,y,u,v,A,h,hx,hy,ru,rv,hA=>by
  obtain⟨a,vs,rfl,ha,rvs⟩:=hx;obtain⟨b,ws,rfl,hb,rws⟩:=hy;obtain rfl:u=.ref a:=ru;obtain rfl:v=.ref b:=rv;by_cases hab:a=b
  ·subst hab
   exact SeqAt.EqAt.same _
  ·obtain⟨its,r1,p1,_⟩:=I.tuple (SqT.of (K:=X.K) ha)
   obtain⟨its2,r2,p2,_⟩:=I.tuple (SqT.of (K:=X.K) hb);have l1:=r1.length;have l2:=r2.length;have l3:=rvs.length;have l4:=rws.length;have:=SeqAt.EqAt.of_refs hab (SeqAt.RcAt.tuples (A:=A) (e:=λ_=>true) p1 p2 (by omega) λj h1 h2=>?_)
   ·have e:((List.range (min its.toArray.size its2.toArray.size)).all (λ_=>true) && its.toArray.size == its2.toArray.size)=true:=by
     rw[show its.toArray.size=its2.toArray.size by simp only[List.size_toArray];omega];simp
    rw[e]at this;exact this
   ·obtain⟨x1,e1,q1⟩:=xeq r1 h1
    obtain⟨x2,e2,q2⟩:=xeq r2 h2;obtain⟨d1,f1,g1⟩:=rvs.get e1;obtain⟨d2,f2,g2⟩:=rws.get e2;rw[f1]at f2;cases f2;refine xnx I n d1 ?_ g1 g2 q1 q2 (by show A.units+1+n<cLine;omega);have:=xdm (zMG f1);have h':xft ds+1<=n+1:=h;omega
end
def five:List Nat:=[113,120,122,118,119]
def nmA(cs:List Nat)(a:Nat)(b:Int)(k:Nat):List Nat:=cs.take a++(97+((b+5*(k:Int))%26).toNat)::cs.drop a
def nmB(cs:List Nat)(a:Nat)(b:Int)(k:Nat):List Nat:=nmA cs a b (k-k%2)++List.replicate (k%2) 113
def xi6(nms:List Str):Prop:=nms.length=26/\nms.Nodup/\∀z∈nms,Name z
theorem xfl(cs:List Nat)(a:Nat)(b:Int)(k:Nat):(nmA cs a b k).length=cs.length+1:=by
 unfold nmA;rw[zLA,List.length_cons,List.length_take,List.length_drop];omega
theorem xfk(cs:List Nat)(a:Nat)(b:Int)(k:Nat):(nmB cs a b k).length=cs.length+1+k%2:=by
 unfold nmB;rw[zLA,xfl,List.length_replicate]
theorem xm8{cs:List Nat}{a:Nat}{b:Int}{k j:Nat}(e:k<26)(f:j<26)(h:nmA cs a b k=nmA cs a b j):k=j:=by
 unfold nmA at h;have c:=List.append_cancel_left h;have g:=(List.cons.inj c).1;omega
theorem xq4{cs:List Nat}{a:Nat}{b:Int}{k j:Nat}(g:k<26)(i:j<26)(h:nmB cs a b k=nmB cs a b j):k=j:=by
 have e:=congrArg List.length h;rw[xfk,xfk]at e;have c:k%2=j%2:=by omega
 unfold nmB at h;rw[c]at h;have f:=List.append_cancel_right h;have l:=xm8 (by omega) (by omega) f;omega
theorem xic{f:Nat->Str}(h:∀k j,k<26->j<26->f k=f j->k=j):((List.range 26).map f).Nodup:=by
 refine List.pairwise_map.mpr (List.Pairwise.imp_of_mem (λhi b a e=>?_) (List.pairwise_lt_range (n:=26)));have:=h _ _ (List.mem_range.mp hi) (List.mem_range.mp b) e;omega
theorem xfr:∀c∈five,xef c=true:=by decide
theorem xii(i:Int):xef (97+(i%26).toNat)=true:=by
 unfold xef;have b:0<=i%26:=Int.emod_nonneg _ (by decide);have a:i%26<26:=Int.emod_lt_of_pos _ (by decide);rw[Bool.and_eq_true,decide_eq_true_eq,decide_eq_true_eq];omega
theorem xna{l:List Nat}(i:1<=l.length)(h:l.length<=6)(f:∀c∈l,xef c=true)(a:l.length=1\/∃c∈l,c∈five):Name (ofL l):=by
 show xo1 l=true;unfold xo1
 have ne:∀z:List Nat,z.length≠1->(∀c∈z,c ∉five)->(l != z)=true:=λz hz g=>by
  rw[bne_iff_ne];intro e;subst e;rcases a with a |⟨c,b,a⟩
  ·exact hz a
  ·exact g c b a
 rw[ne [110,117,109] (by decide) (by decide),ne [105,116] (by decide) (by decide),zDT i,zDT h,List.all_eq_true.mpr f];rfl
theorem mem_nmA{cs:List Nat}{a:Nat}{b:Int}{k c:Nat}:c∈nmA cs a b k ↔ c∈cs\/c=97+((b+5*(k:Int))%26).toNat:=by
 unfold nmA;rw[List.mem_append,List.mem_cons]
 have e:c∈cs ↔ c∈cs.take a\/c∈cs.drop a:=by
  rw[<- List.mem_append,List.take_append_drop]
 rw[e];constructor
 ·rintro(h |h |h)
  ·exact .inl (.inl h)
  ·exact .inr h
  ·exact .inl (.inr h)
 ·rintro((h |h) |h)
  ·exact .inl h
  ·exact .inr (.inr h)
  ·exact .inr (.inl h)
theorem xo0{cs:List Nat}{a:Nat}{b:Int}{k:Nat}(g:cs.length<=4)(e:∀c∈cs,c∈five):Name (ofL (nmA cs a b k)):=by
 refine xna (by rw[xfl];omega) (by rw[xfl];omega) (λc f=>?_) ?_
 ·rcases mem_nmA.mp f with h |h
  ·exact xfr c (e c h)
  ·rw[h];exact xii _
 ·cases cs with
  |nil=>exact .inl (by rw[xfl];rfl)
  |cons c r=>exact .inr ⟨c,mem_nmA.mpr (.inl (by simp)),e c (by simp)⟩
theorem xoz{cs:List Nat}{a:Nat}{b:Int}{k:Nat}(i:cs.length<=4)(f:∀c∈cs,c∈five):Name (ofL (nmB cs a b k)):=by
 refine xna (by rw[xfk];omega) (by rw[xfk];omega) (λc e=>?_) ?_
 ·unfold nmB at e
  rcases zMA e with e |e
  ·rcases mem_nmA.mp e with h |h
   ·exact xfr c (f c h)
   ·rw[h];exact xii _
  ·rw[(List.mem_replicate.mp e).2];decide
 ·by_cases g:k%2=0
  ·cases cs with
   |nil=>exact .inl (by rw[xfk,g];rfl)
   |cons c r=>exact .inr ⟨c,by unfold nmB;exact List.mem_append_left _ (mem_nmA.mpr (.inl (by simp))),f c (by simp)⟩
  ·refine .inr ⟨113,?_,by decide⟩
   unfold nmB;exact List.mem_append_right _ (List.mem_replicate.mpr ⟨by omega,rfl⟩)
theorem nmsA{cs:List Nat}{a:Nat}{b:Int}(h:cs.length<=4)(i:∀c∈cs,c∈five):xi6 ((List.range 26).map λk=>ofL (nmA cs a b k)):=by
 refine⟨by simp,xic λk j f g e=>xm8 f g (congrArg L e),λz hz=>?_⟩;obtain⟨k,_,rfl⟩:=zMP hz;exact xo0 h i
theorem nmsB{cs:List Nat}{a:Nat}{b:Int}(h:cs.length<=4)(i:∀c∈cs,c∈five):xi6 ((List.range 26).map λk=>ofL (nmB cs a b k)):=by
 refine⟨by simp,xic λk j f g e=>xq4 f g (congrArg L e),λz hz=>?_⟩;obtain⟨k,_,rfl⟩:=zMP hz;exact xoz h i
theorem xoh(x:Str){j:Int}(h0:0<=j)(a:j<=x.length):Txt.slice x none (some j)=ofL ((L x).take j.toNat):=by
 have e:Txt.slice x none (some j)=StrLaws.sliceText x none (some j):=rfl;rw[e,StrLaws.sliceText_to ⟨h0,by rw[show x.cps.toList.length=x.length by simp[Str.length]];exact a⟩];show ofL ((((L x).drop 0).take (j-0).toNat))=_;rw[List.drop_zero,Int.sub_zero]
theorem xle(x:Str){j:Int}(h0:0<=j)(a:j<=x.length):Txt.slice x (some j) none=ofL ((L x).drop j.toNat):=by
 have e:Txt.slice x (some j) none=StrLaws.sliceText x (some j) none:=rfl;rw[e,StrLaws.sliceText_from ⟨h0,by rw[show x.cps.toList.length=x.length by simp[Str.length]];exact a⟩];apply xoa;show((L x).drop j.toNat).take _=(L x).drop j.toNat;refine zTL ?_;rw[List.length_drop];show(L x).length-j.toNat<=(((L x).length:Int)-j).toNat;omega
theorem xng{i:Int}(h0:0<=i)(h:i<26):atI (S "abcdefghijklmnopqrstuvwxyz").cps.toList i=some (97+i.toNat):=by
 have all:∀k,k<26->(S "abcdefghijklmnopqrstuvwxyz").cps.toList[k]?=some (97+k):=by walk_at"k"
 have a:i=((i.toNat:Nat):Int):=by omega
 have q:=xax (all i.toNat (by omega));rw[<- a]at q;exact q
theorem xrj{i:Int}(h0:0<=i)(h:i<5):∃c∈five,atI (S "qxzvw").cps.toList i=some c:=by
 have e:(S "qxzvw").cps.toList=five:=by walk_at"k"
 rw[e];exact xk8 h0 h
theorem xm9(cs:List Nat)(a ch:Nat):ofL (cs.take a)++(⟨#[ch]⟩:Str)++ofL (cs.drop a)=ofL (cs.take a++ch::cs.drop a):=by
 apply xoa;rw[xdw,xdw,xdo,xdo,xdo];show cs.take a++[ch]++cs.drop a=_;simp
end M
namespace L2
open PySem PySem.Spec PyProof.Rows
theorem xqv{X:Cx}:OpR X (binaryOp .Mult) (λx y H Q=>∃i n,x=.str i/\y=.int n/\(n=0\/n=1)/\Q (.str (if n=1 then i else Str.empty)) H):=by
 intro pins s σ H x y v u Q I rx ry h;obtain⟨i,n,rfl,rfl,hn,q⟩:=h;obtain⟨t,rfl⟩:=rx;obtain⟨t',rfl⟩:=ry;refine SB.mul ?_ λt' k=>⟨.str _,H,I.tok k,⟨t',rfl⟩,?_⟩
 ·rcases hn with rfl |rfl
  ·exact⟨by decide,λh=>absurd (by decide) h,λh=>absurd (by decide) h⟩
  ·exact⟨by decide,λ_ h=>by simp at h,λ_ h=>by simp at h⟩
 ·have e:Txt.mul i n=if n=1 then i else Str.empty:=by
   rcases hn with rfl |rfl
   ·rfl
   ·unfold Txt.mul
    rw[if_neg (by decide),if_pos (by simp),if_pos rfl]
  rw[e];exact q
end L2
end
section
namespace M
open PySem L2
structure KWf(ks:List Kn):Prop where
 nd:(ks.map Kn.name).Nodup
 nm:∀k∈ks,Name k.name
 ref:∀(i:Nat) (k:Kn),ks[i]?=some k->∀p∈k.parts,p.2=S "num"\/∃j,∃k':Kn,j<i/\ks[j]?=some k'/\k'.name=p.2
 alt:∀k∈ks,k.rc=false->k.parts≠[]
 few:ks.length<=6
 pts:∀k∈ks,k.parts.length<=5
 pnd:∀k:Kn,k∈ks->(k.parts.map (λp:Str×Str=>p.1)).Nodup
 pnm:∀k:Kn,k∈ks->∀p∈k.parts,Name p.1
theorem xd8{x:Str}(h:Name x):x≠S "num":=λe=>by
 rw[e]at h;exact absurd (show xo1 (S "num").cps.toList=true from h) (by walk_at"k")
theorem KWf.nil:KWf []:=⟨List.nodup_nil,(λ_ h=>nomatch h),(λi k h=>by simp at h),(λ_ h=>nomatch h),Nat.zero_le _,(λ_ h=>nomatch h),(λ_ h=>nomatch h),(λ_ h=>nomatch h)⟩
theorem xdu{α:Type}{f:α->Str}:∀{xs:List α} {i:Nat} {a:α},(xs.map f).Nodup->xs[i]?=some a->xs.find? (λz=>decide (f z=f a))=some a
 |x::xs,0,a,nd,h=>by
  simp at h;subst h;rw[List.find?_cons,zDT rfl]
 |x::xs,i+1,a,nd,h=>by
  have h':xs[i]?=some a:=by simpa using h
  rw[List.map_cons,List.nodup_cons]at nd;have b:f x≠f a:=λe=>nd.1 (by rw[e];exact List.mem_map_of_mem (zMG h'));rw[List.find?_cons,zDF b];exact xdu nd.2 h'
theorem KWf.at{ks:List Kn}(w:KWf ks){i:Nat}{k:Kn}(h:ks[i]?=some k):kAt ks k.name=some k:=xdu (f:=Kn.name) w.nd h
theorem KWf.no{ks:List Kn}{x:Str}(h:∀k∈ks,k.name≠x):kAt ks x=none:=by
 unfold kAt;rw[List.find?_eq_none];intro k a;simpa using h k a
theorem KWf.num{ks:List Kn}(w:KWf ks):kAt ks (S "num")=none:=KWf.no λk a=>xd8 (w.nm k a)
def KIn(ks:List Kn)(n:Nat)(x:Str):Prop:=x=S "num"\/∃j k,j<n/\ks[j]?=some k/\k.name=x
theorem KIn.mono{ks:List Kn}{n m:Nat}{x:Str}(h:KIn ks n x)(l:n<=m):KIn ks m x:=by
 rcases h with h |⟨j,k,a,h⟩
 ·exact .inl h
 ·exact .inr ⟨j,k,by omega,h⟩
theorem KIn.ap{ks more:List Kn}{n:Nat}{x:Str}(h:KIn ks n x):KIn (ks++more) n x:=by
 rcases h with h |⟨j,k,b,a,c⟩
 ·exact .inl h
 ·exact .inr ⟨j,k,b,by rw[List.getElem?_append_left (zES a).1];exact a,c⟩
theorem KIn.of{ks:List Kn}{x:Str}(h:x=S "num"\/∃k∈ks,k.name=x):KIn ks ks.length x:=by
 rcases h with h |⟨k,b,h⟩
 ·exact .inl h
 ·obtain⟨j,a,e⟩:=zMI b
  exact .inr ⟨j,k,a,by rw[<- e];exact zGA a,h⟩
theorem KWf.snoc {ks:List Kn} (w:KWf ks) {k:Kn} (o:k.name ∉ks.map Kn.name) (n:Name k.name) (m:∀p∈k.parts,KIn ks ks.length p.2) (l:k.rc=false->k.parts≠[]) (r:ks.length<6) (j:k.parts.length<=5)
  (h:(k.parts.map (·.1)).Nodup) (g:∀p∈k.parts,Name p.1):KWf (ks++[k]):=by
 have c:∀{q:Kn->Prop},(∀z∈ks,q z)->q k->∀z∈ks++[k],q z:=λa b z hz=>by
  rcases zMA hz with hz |hz
  ·exact a z hz
  ·rw[zMO hz];exact b
 refine⟨?_,c w.nm n,?_,c w.alt l,by rw[zLA,List.length_singleton];omega,c w.pts j,c w.pnd h,c w.pnm g⟩
 ·rw[zAP]
  exact xjt w.nd o
 ·intro i z hz p f
  by_cases hi:i<ks.length
  ·rw[List.getElem?_append_left hi]at hz
   exact KIn.ap (w.ref i z hz p f)
  ·rw[List.getElem?_append_right (by omega)]at hz
   have e:i-ks.length=0:=by
    have:=(zES hz).1;simp at this;omega
   rw[e]at hz;simp at hz;subst hz;exact(m p f).ap.mono (by omega)
def maxD:List Int->Int
 |[]=>0
 |n::ns=>max n (maxD ns)
theorem xnc:∀{ns:List Int} {n:Int},n∈ns->n<=maxD ns
 | m::ns,n,h=>by
  show n<=max m (maxD ns);rcases zMC h with rfl |h
  ·omega
  ·have:=xnc h
   omega
theorem xha:∀{ns:List Int},ns≠[]->(∀n∈ns,0<=n)->maxD ns∈ns
 |[n],_,h=>by
  have h0:=h n (by simp);show max n 0∈[n];rw[Int.max_eq_left h0];simp
 |n::m::ns,_,h=>by
  have a:=xha (ns:=m::ns) (by simp) λx b=>h x (List.mem_cons_of_mem _ b);show max n (maxD (m::ns))∈n::m::ns;rcases Int.le_total n (maxD (m::ns)) with e |e
  ·rw[Int.max_eq_right e];exact List.mem_cons_of_mem _ a
  ·rw[Int.max_eq_left e];simp
theorem xq6{ns:List Int}{m:Int}(hn:ns≠[])(h0:∀n∈ns,0<=n)(a:m∈ns)(h:∀n∈ns,n<=m):m=maxD ns:=by
 have c:=xnc a;have b:=h _ (xha hn h0);omega
def szF:Nat->List Kn->Str->Int
 |0,_,_=>1
 |n+1,ks,x=>match kAt ks x with
  |none=>1
  |some k=>1+(if k.rc=true then (k.parts.map λp=>szF n ks p.2).sum else maxD (k.parts.map λp=>szF n ks p.2))
theorem xe9{ks:List Kn}(e:∀k∈ks,k.parts.length<=5):∀(n:Nat) (x:Str),1<=szF n ks x/\szF n ks x<=6 ^ n
 |0,x=>by simp[szF]
 | n + 1,x=>by
  unfold szF;have u:(1:Int)<=6 ^ n:=Int.pow_pos (by decide);have w:(6:Int) ^ (n+1)=6*6 ^ n:=by rw[Int.pow_succ,Int.mul_comm]
  cases j:kAt ks x with
  |none=>simp only;omega
  | some k=>
   simp only;have c:=e k (zMF j)
   have all:∀m∈k.parts.map (λp=>szF n ks p.2),1<=m/\m<=6 ^ n:=λm b=>by
    obtain⟨p,_,rfl⟩:=zMP b;exact xe9 e n p.2
   have i:(k.parts.map (λp=>szF n ks p.2)).length<=5:=by rw[zLM];exact c
   generalize k.parts.map (λp=>szF n ks p.2)=ns at all i⊢
   have hs:∀(l:List Int),(∀m∈l,1<=m/\m<=(6:Int) ^ n)->0<=l.sum/\l.sum<=l.length*6 ^ n:=by
    intro l
    induction l with
    |nil=>intro _;simp
    |cons a r g=>
     intro h;have s:=h a (by simp);have o:=g λm b=>h m (List.mem_cons_of_mem _ b);rw[List.sum_cons,List.length_cons];push_cast;rw[Int.add_mul];omega
   have b:0<=maxD ns/\maxD ns<=6 ^ n:=by
    by_cases f:ns=[]
    ·subst f;simp[maxD];omega
    ·have:=all _ (xha f λm b=>by have:=all m b;omega)
     omega
   have s:=hs ns all;have o:(ns.length:Int)*6 ^ n<=5*6 ^ n:=Int.mul_le_mul_of_nonneg_right (by omega) (by omega);split <;> omega
def KsSeq(H:Hp)(v:V)(ks:List Kn):Prop:=∃a vs,v=.ref a/\(H a=some (.lst vs)\/H a=some (.tup vs))/\RelDs H vs (ks.map Kn.d)
theorem KsSeq.same{H b:Hp}{v:V}{ks:List Kn}(h:KsSeq H v ks)(s:Same H b):KsSeq b v ks:=by
 obtain⟨a,vs,e,f,c⟩:=h;exact⟨a,vs,e,f.imp (s _ _) (s _ _),c.same s _⟩
theorem KWf.ksAt{ks:List Kn}(w:KWf ks){H:Hp}{v:V}(h:RelD H v (xdn ks)):KsAt H v ks:=⟨h,by have:=w.few;omega,λk a=>by have:=w.pts k a;omega⟩
theorem KsAt.seq{H:Hp}{v:V}{ks:List Kn}(h:KsAt H v ks):KsSeq H v ks:=by
 obtain⟨a,vs,e,c,b⟩:=h.1;exact⟨a,vs,e,.inr c,b⟩
def xfy:Option Kn->Str
 |some k=>k.sort
 |none=>S "num"
end M
namespace L2
open PySem PySem.Spec PyProof.Rows
theorem xsl{X:Cx}{b it:Expr}{e c:TI}(g:PI X b it e)(f:PI X b it c):PI X b it (λσ H R=>e σ H R\/c σ H R):=λa s σ H R I h=>by
 rcases h with h |h
 ·exact g a s σ H R I h
 ·exact f a s σ H R I h
end L2
namespace L2
theorem xdd{σ:St}{H:Hp}{A B:Hp->Prop}(h:A H):tYes σ H (λb a=>if b=true then A a else B a):=by
 unfold tYes;show if true=true then A H else B H;rw[if_pos rfl];exact h
end L2
namespace M
open PySem L2
theorem Fed.put{f p:Addr}{H c:Hp}(h:Fed f H c)(i:H p=none)(j:p≠f)(o:HO):Fed f H (upd c p o):=by
 obtain⟨s,x,y,e⟩:=h;refine⟨λb u a g=>?_,x,y,?_⟩
 ·rw[xao (neN a i)]
  exact s b u a g
 ·rw[xao (Ne.symm j)]
  exact e
theorem xck{H:Hp}{p:Addr}{us:List V}(h:H p=some (.lst us))(o:HO):∀b vs,H b=some (.tup vs)->upd H p o b=some (.tup vs):=λb vs a=>by
 rw[xao λe=>by rw[e,h]at a;cases a];exact a
theorem xg8{ks:List Kn}{r:Int}(h0:0<=r)(h:r<1+(ks.length:Int)):∃x,atI ([V.str (S "num")]++(ks.map Kn.name).map V.str) r=some (.str x)/\KIn ks ks.length x:=by
 have e:[V.str (S "num")]++(ks.map Kn.name).map V.str=(S "num"::ks.map Kn.name).map V.str:=rfl;obtain⟨z,hz,b⟩:=xk8 (cs:=(S "num"::ks.map Kn.name).map V.str) h0 (by rw[zLM,List.length_cons,zLM];push_cast;omega);obtain⟨y,a,rfl⟩:=zMP hz;refine⟨y,by rw[e];exact b,?_⟩;rcases zMC a with rfl |a
 ·exact .inl rfl
 ·obtain⟨k,c,rfl⟩:=zMP a
  exact KIn.of (.inr ⟨k,c,rfl⟩)
theorem xkb{ys:List Str}{i:Nat}(h:i<ys.length):atI (ys.map V.str) (0+(i:Int))=some (.str ys[i]):=by
 rw[Int.zero_add];exact xax (by rw[zGM,zGA h];rfl)
theorem xtg{a:List Str}(h:a.length=26):cutV (a.map V.str) (some 8) (some 12)=((a.drop 8).take 4).map V.str:=by
 unfold cutV HT.sIx;rw[zLM,h,List.map_take,List.map_drop];rfl
theorem xt3{a:List Str}(h:xi6 a)(i:Nat):(((a.drop 8).take 4).take i).Nodup/\∀z∈((a.drop 8).take 4).take i,Name z:=by
 have hs:(((a.drop 8).take 4).take i).Sublist a:=((List.take_sublist _ _).trans (List.take_sublist _ _)).trans (List.drop_sublist _ _);exact⟨h.2.1.sublist hs,λz hz=>h.2.2 z (hs.subset hz)⟩
theorem xm6{a:List Str}(h:a.Nodup){i:Nat}(hi:i<a.length):a[i] ∉a.take i:=λb=>by
 obtain⟨j,c,e⟩:=zMI b;rw[List.length_take]at c;rw[List.getElem_take]at e;have:=(List.getElem_inj h).mp e;omega
def xth(nms:List Str)(ks:List Kn):Prop:=KWf ks/\ks.length<=4/\ks.map Kn.name=nms.take ks.length/\∀k∈ks,k.parts.length<=4/\k.parts.map (·.1)=((nms.drop 8).take 4).take k.parts.length
theorem xp0{A:Around}{k:Nat}(a:Room k A):A.units+200<cLine:=by
 have:=a.un;omega
def nuT:Nat->List Kn->Str->D
 |0,_,_=>tNum 0
 | n+1,ks,x=>match kAt ks x with
  |none=>tNum 0
  |some k=>if k.rc=true then tRec x (k.parts.map λp=>nuT n ks p.2) else match k.parts with
   |[]=>tNum 0
   |p::_=>tTag x p.1 (nuT n ks p.2)
def nuV:Nat->List Kn->Str->D
 |0,_,_=>.int 0
 | n+1,ks,x=>match kAt ks x with
  |none=>.int 0
  |some k=>if k.rc=true then .tup [.str x,.tup (k.parts.map λp=>nuV n ks p.2)] else match k.parts with
   |[]=>.int 0
   |p::_=>.tup [.str x,.str p.1,nuV n ks p.2]
theorem KIn.look{ks:List Kn}(a:KWf ks){m:Nat}{x:Str}(h:KIn ks m x):(x=S "num"/\kAt ks x=none)\/∃j k,m=j+1/\kAt ks x=some k/\k.name=x/\k∈ks/\∀p∈k.parts,KIn ks j p.2:=by
 rcases h with rfl |⟨j,k,f,b,rfl⟩
 ·exact .inl ⟨rfl,a.num⟩
 ·refine .inr ⟨m-1,k,by omega,a.at b,rfl,zMG b,λp e=>?_⟩
  rcases a.ref j k b p e with z |⟨i,c,hi,z⟩
  ·exact .inl z
  ·exact .inr ⟨i,c,by omega,z⟩
def NuAt (ks:List Kn) (m:Nat) (x:Str):Prop:=
  (x=S "num"/\kAt ks x=none/\nuT (m+1) ks x=tNum 0/\nuV (m+1) ks x=.int 0) ∨
  ∃ j k,m=j+1/\kAt ks x=some k/\k.name=x/\k∈ks/\(∀p∈k.parts,KIn ks j p.2)/\x≠S "num" ∧
    ((k.rc=true/\nuT (m+1) ks x=tRec x (k.parts.map λp=>nuT m ks p.2)/\nuV (m+1) ks x=.tup [.str x,.tup (k.parts.map λp=>nuV m ks p.2)]) ∨
     (k.rc=false/\∃p r,k.parts=p::r/\nuT (m+1) ks x=tTag x p.1 (nuT m ks p.2)/\nuV (m+1) ks x=.tup [.str x,.str p.1,nuV m ks p.2]))
theorem KIn.nu{ks:List Kn}(b:KWf ks){m:Nat}{x:Str}(h:KIn ks m x):NuAt ks m x:=by
 rcases h.look b with⟨rfl,e⟩ |⟨j,k,rfl,e,hn,c,i⟩
 ·refine .inl ⟨rfl,e,?_,?_⟩
  ·unfold nuT;rw[e]
  ·unfold nuV;rw[e]
 ·refine .inr ⟨j,k,rfl,e,hn,c,i,by rw[<- hn];exact xd8 (b.nm k c),?_⟩
  cases a:k.rc with
  | true=>
   refine .inl ⟨rfl,?_,?_⟩
   ·conv=>lhs;unfold nuT
    rw[e];show(if k.rc=true then _ else _)=_;rw[if_pos a]
   ·conv=>lhs;unfold nuV
    rw[e];show(if k.rc=true then _ else _)=_;rw[if_pos a]
  | false=>
   obtain⟨p,r,f⟩:∃p r,k.parts=p::r:=by
    cases g:k.parts with
    |nil=>exact absurd g (b.alt k c a)
    |cons p r=>exact⟨p,r,rfl⟩
   refine .inr ⟨rfl,p,r,f,?_,?_⟩
   ·conv=>lhs;unfold nuT
    rw[e];show(if k.rc=true then _ else _)=_;rw[if_neg (by rw[a];decide),f]
   ·conv=>lhs;unfold nuV
    rw[e];show(if k.rc=true then _ else _)=_;rw[if_neg (by rw[a];decide),f]
theorem xhj{ks:List Kn}{k:Kn}{x:Str}(h:kAt ks x=some k)(n:Nat):szF (n+1) ks x=1+(if k.rc=true then (k.parts.map λp=>szF n ks p.2).sum else maxD (k.parts.map λp=>szF n ks p.2)):=by
 conv=>lhs;unfold szF
 rw[h]
theorem xd4 {ks:List Kn} {x:Str} (h:kAt ks x=none):∀n,szF n ks x=1
  |0=>rfl
  | n + 1 => by conv => lhs;unfold szF
                rw[h]
theorem xod{ks:List Kn}(w:KWf ks)(j:Nat):∀(x:Str),KIn ks j x->∀n,j+1<=n->szF n ks x=szF (j+1) ks x:=by
 induction j with
 |zero=>
  intro x h n hn;rcases h.look w with⟨rfl,e⟩ |⟨i,k,b,_⟩
  ·rw[xd4 e,xd4 e]
  ·cases b
 | succ j c=>
  intro x h n hn;rcases h.look w with⟨rfl,e⟩ |⟨i,k,b,e,_,_,f⟩
  ·rw[xd4 e,xd4 e]
  ·cases b
   obtain⟨m,rfl⟩:∃m,n=m+1:=⟨n-1,by omega⟩;have this:(k.parts.map λp=>szF m ks p.2)=k.parts.map λp=>szF (j+1) ks p.2:=List.map_congr_left λp a=>c p.2 (f p a) m (by omega);rw[xhj e,xhj e,this]
def sz(ks:List Kn)(x:Str):Int:=szF 7 ks x
theorem xr6{ks:List Kn}(w:KWf ks):sz ks (S "num")=1:=xd4 w.num _
theorem xtv{ks:List Kn}(w:KWf ks)(x:Str):1<=sz ks x:=(xe9 w.pts 7 x).1
def inSz(k:Kn)(f:Str->Int):Int:=if k.rc=true then (k.parts.map λp=>f p.2).sum else maxD (k.parts.map λp=>f p.2)
theorem xgk{k:Kn}{f g:Str->Int}(h:∀p∈k.parts,f p.2=g p.2):inSz k f=inSz k g:=by
 unfold inSz;rw[List.map_congr_left (g:=λp=>g p.2) h]
theorem xtw{ks:List Kn}(w:KWf ks){i:Nat}{k:Kn}(h:ks[i]?=some k):sz ks k.name=1+inSz k (sz ks):=by
 have c:=w.few;have hi:i<ks.length:=(zES h).1;show szF 7 ks k.name=_;rw[xhj (w.at h)];show 1+inSz k (szF 6 ks)=_;rw[xgk (g:=sz ks)];intro p b;have a:KIn ks 5 p.2:=KIn.mono (n:=i) (w.ref i k h p b) (by omega);exact(xod w 5 p.2 a 7 (by omega)).symm
theorem xs4{ks more:List Kn}{x:Str}{k:Kn}(h:kAt ks x=some k):kAt (ks++more) x=some k:=by
 unfold kAt at h⊢;rw[List.find?_append,h];rfl
theorem xpn{ks more:List Kn}(w:KWf ks)(b:KWf (ks++more)):∀(n:Nat) (x:Str),KIn ks ks.length x->szF n (ks++more) x=szF n ks x
 |0,_,_=>rfl
 |n+1,x,h=>by
  rcases h.look w with⟨rfl,e⟩ |⟨i,k,f,e,_,_,c⟩
  ·rw[xd4 e,xd4 b.num]
  ·rw[xhj e,xhj (xs4 e),List.map_congr_left (g:=λp=>szF n ks p.2) λp a=>xpn w b n p.2 ((c p a).mono (by omega))]
theorem xr7{ks more:List Kn}(w:KWf ks)(a:KWf (ks++more)){x:Str}(h:KIn ks ks.length x):sz (ks++more) x=sz ks x:=xpn w a 7 x h
def Fit(ks:List Kn):Prop:=∀k∈ks,sz ks k.name<=30
theorem Fit.nil:Fit []:=λ_ h=>nomatch h
theorem Fit.snoc{ks:List Kn}{k:Kn}(w:KWf ks)(a:KWf (ks++[k]))(f:Fit ks)(c:∀p∈k.parts,KIn ks ks.length p.2)(e:inSz k (sz ks)<=29):Fit (ks++[k]):=by
 intro z hz;rcases zMA hz with hz |hz
 ·rw[xr7 w a (KIn.of (.inr ⟨z,hz,rfl⟩))]
  exact f z hz
 ·rw[zMO hz,xtw a (i:=ks.length) (by simp),xgk (g:=sz ks) λp b=>xr7 w a (c p b)]
  omega
end M
end
section
end
section
end
section
end
section
end
section
namespace L2
open PySem PySem.Spec PyProof.Rows
open PySem.W in
def ad(K:Frag)(x:Str):Addr:=match nsIn K mainGlobals x with |some (some (.ref C))=>C |_=>0
theorem xuc{K:Fg}{x:Str}{C:Addr}(e:PySem.W.nsIn K mainGlobals x=some (some (.ref C))):ad K x=C:=by unfold ad;rw[e]
def xd2(s:Stmt)(j:Nat):Stmt:=match s with
 |.ClassDef _ _ _ b _ _ _ _ _ _ _=>b.getD j (.Pass ⟨0,0,0,0⟩)
 |_=>.Pass ⟨0,0,0,0⟩
end L2
end
section
namespace L2
open PySem PySem.Spec PyProof.Rows M
section
variable {X:Cx}
def xps(K:Fg):R2:=λx y H Q=>∃a b xs ys,x=.ref a/\y=.ref b/\SqT K H a xs/\SqT K H b ys/\xs.length+ys.length<=sizeLine ∧
 (xs=[]->Q (.ref b) H)/\(xs≠[]->ys=[]->Q (.ref a) H)/\(xs≠[]->ys≠[]->∀p,H p=none->Q (.ref p) (upd H p (.tup (xs++ys))))
theorem xoo:OpR X (binaryOp .Add) (xps X.K):=by
 intro c s σ H x y v u Q I r p h;obtain⟨a,b,xs,ys,rfl,rfl,G,C,hz,Y,U,O⟩:=h;by_cases f:xs=[]
 ·cases r
  cases p;obtain⟨its,M,p1,_⟩:=I.tuple G;obtain⟨e,r2,Z,_⟩:=I.tuple C;obtain⟨⟨cls,dd,data,sl⟩,w,z,n,hd⟩:=id p1;obtain⟨⟨J,m,o,l⟩,g,j,n2,i⟩:=id Z;simp only at z hd j i;subst z hd j i
  exact concat_meets ⟨_,w,rfl⟩ ⟨_,g,rfl⟩ noFill_tuple_add seq_tuple_add PySem.F.slot_tuple_add PySem.F.entry_tuple_add (PySem.F.args_tuple_add_2 _ _)
   (tuple_addW0 a b its.toArray e.toArray n n2 dd m sl l (by rw[M.nil_iff.mpr f];rfl)) ⟨w,g,⟨.ref b,H,I,rfl,Y f⟩⟩
 ·exact xqw c s σ H _ _ v u Q I r p ⟨a,b,xs,ys,rfl,rfl,G,C,f,hz,U f,O f⟩
end
end L2
end
section
namespace PySem
open Sem (wp)
section
variable {prog:Program}{w:World}{A:Around}{E:Value->Shared->Prop}{s:Shared}
theorem xei {a:Addr} {xs:Array Value} {k:Nat} {sl:Array (Option Value)} {name:Str} {Q:Option Value->Shared->Prop}
  (hx:s.heap.get? a=some {cls:=.type "list",dict:=none,data:=.seq xs k,slots:=sl}) (hmiss:typeLookup (.type "list") name=pure none) (hname:(["__module__","__name__","__qualname__","__doc__","__annotations__"]:List Str).contains name=false) (hA:A.handled=none)
  (h:∀h' tk,(∀b o,s.heap.get? b=some o->h'.get? b=some o)->Q none {s with heap:=h',toks:=tk}) (hsz:name.length+100<=sizeLine) :
  wpAny (model prog w) A (getAttr? (.ref a) name) Q E s:=by
 obtain⟨hp,g,d,tk,os⟩:=s;have hT:∀tk',(⟨hp,g,d,tk',os⟩:Shared).TypeIs (.ref a) "list":=λ_=>⟨_,hx,rfl⟩;have f1:=sub_AttributeError;have f3:=F.slot_list_getattribute.lookup;have f4:=F.slot_list_getattribute.bind (.ref a);have f5:=am_list_getattr_none;unfold getAttr? getAttrBy? getAttrBy
 repeat (any_goals (first |assumption |exact hT _ |((with_reducible show wpAny _ _ (call (Value.builtin "list.__getattribute__") _ _) _ _ _);refine call_meets F.slot_list_getattribute (hT _) am_entry_list_getattribute (F.args_list_getattribute_2 _ _) (meets_getattribute_miss_list a xs k sl name _ hmiss hname hsz) ⟨hx,hA,λh' tk' e hx'=>?_⟩) |wp_step))
 obtain⟨t',u',he⟩:=hx'.there;show wpAny _ _ (getattributeRaised _ _ _ _ _ _ _) _ _ _;unfold getattributeRaised
 repeat (any_goals (first |assumption |wp_step))
 all_goals first |exact h _ _ hx'.keeps |skip
end
end PySem
namespace L2
open PySem PySem.Spec PyProof.Rows
theorem xco:plainId "dict.update.loop"=true:=by walk_at"k"
theorem xd1:entryFor table "dict.update.loop"=some Builtin.«dict.update.loop»:=entryFor_of_fast (by kernel_rfl)
section
variable {prog:Program}{w:World}{A:Around}{K:Type}[DecidableEq K]{knd:KeyKind prog w K}
def PairsAt(knd:KeyKind prog w K)(h:Heap):List Value->List (K×Value)->Prop
 |[],[]=>True
 |it::its,p::ps=>(∃a key,it=.ref a/\h.IsTuple a #[key,p.2]/\knd.is p.1 key=true)/\PairsAt knd h its ps
 |_,_=>False
theorem PairsAt.keep{h h':Heap}:∀{its:List Value} {ps:List (K×Value)},PairsAt knd h its ps->(∀a xs,h.IsTuple a xs->h'.IsTuple a xs)->PairsAt knd h' its ps
 |[],[],_,_=>trivial
 |it::its,p::ps,⟨⟨a,b,e,f,c⟩,r⟩,k=>⟨⟨a,b,e,k _ _ f,c⟩,PairsAt.keep r k⟩
 |[],_::_,h,_=>h.elim
 |_::_,[],h,_=>h.elim
theorem xi8{h:Heap}{a d:Addr}{xs:Array Value}{kvs:List (K×Value)}(g:h.IsTuple a xs)(hd:h.DictOf knd d kvs):a≠d:=λe=>by
 subst e;obtain⟨o,i,j,_⟩:=g;obtain⟨t,_,_,f,c,_⟩:=hd;have b:=c.1;have:o=t:=Option.some.inj (i.symm.trans f);subst this;rw[j]at b;exact absurd (Value.type.inj b) (by decide)
theorem xe8{h:Heap}{a I l:Addr}{i:Nat}{xs:Array Value}(f:h.IsTuple a xs)(hd:h.IsListIter I l i):a≠I:=λe=>by
 subst e;obtain⟨o,g,j,_⟩:=f;obtain⟨t,c,b,_⟩:=hd;have:o=t:=Option.some.inj (g.symm.trans c);subst this;rw[j]at b;exact absurd (Value.type.inj b) (by decide)
theorem xob {R:Result->Shared->Prop} {I l d:Addr} {its:List Value} {ps:List (K×Value)} (hh:A.in1.handled=none) (a0:l≠I) (a7:l≠d) (G:I≠d) :
    ∀(k i:Nat) (s:Shared) (f:List (K×Value)),its.length-i=k->i<=its.length->s.heap.IsListIter I l i->s.heap.IsList l its.toArray->s.heap.DictOf knd d f->PairsAt knd s.heap (its.drop i) (ps.drop i)->f.length+(its.length-i)<=sizeLine->
    (∀h' tk,h'.DictOf knd d (merged f (ps.drop i))->(∀b o,b≠d->b≠I->s.heap.get? b=some o->h'.get? b=some o)->R (.ok (.ret .none)) {s with heap:=h',toks:=tk})->
    codeAny (model prog w) A (.builtin "dict.update.loop" ⟨[.ref d,.ref I,rawInt i,.none],[]⟩) R s:=by
  intro k
  induction k with
  | zero=>
    intro i s f hk hi g hl hd j hsz hR;have C:i=its.length:=by omega
    have W:=Walks.list (prog:=prog) (w:=w) (A:=A.in1) hh I l a0 its.toArray;refine codeAny_builtin xd1 ?_;rw[Around.under_plainId xco _];show wpAny _ A.in1 (pyNext (.ref I) >>= _) _ _ s
    refine wpAny_bind (W.done s _ _ (by have e:its.toArray.size = i := by simp[C]
                                        rw[e];exact⟨g,hl⟩) λh' tk c=>?_)
    show wpAny _ _ (Builtin.Dict.addKeywords d [] >>= _) _ _ _;refine wpAny_bind (wpAny_pure (wpAny_pure ?_))
    have a5:ps.drop i=[]:=by
      rw[C,List.drop_length]at j;rw[C]
      cases hq:ps.drop its.length with
      |nil=>rfl
      |cons p r=>rw[hq]at j;exact j.elim
    refine hR h' tk ?_ λb o J n e=>c b o (by simpa using n) e;rw[a5];exact hd.at λo e=>c d o (by simpa using (Ne.symm G)) e
  | succ k ih=>
    intro i s f hk hi g hl hd j hsz hR;have m:i<its.length:=by omega
    have W:=Walks.list (prog:=prog) (w:=w) (A:=A.in1) hh I l a0 its.toArray;have a8:its.drop i=its[i]::its.drop (i+1):=List.drop_eq_getElem_cons m;rw[a8]at j
    obtain⟨p,r,z⟩:∃p r,ps.drop i=p::r:=by
      cases hq:ps.drop i with
      |nil=>rw[hq]at j;exact j.elim
      |cons p r=>exact⟨p,r,rfl⟩
    have Y:ps.drop (i+1)=r:=by rw[<- List.tail_drop,z];rfl
    rw[z]at j;obtain⟨⟨a,x,ea,U,a1⟩,y⟩:=j;refine codeAny_builtin xd1 ?_;rw[Around.under_plainId xco _];show wpAny _ A.in1 (pyNext (.ref I) >>= _) _ _ s;refine wpAny_bind (W.item i s _ _ (by simpa using m) ⟨g,hl⟩ λv h' tk hP u c=>?_)
    have hv:v=.ref a:=by
      have:its[i]?=some v:=by simpa using hP
      rw[zGA m,ea]at this;exact(Option.some.inj this).symm
    subst hv;have O:h'.IsTuple a #[x,p.2]:=U.at λo e=>c a o (by simpa using xe8 U g) e;have a3:h'.DictOf knd d f:=hd.at λo e=>c d o (by simpa using (Ne.symm G)) e;obtain⟨oa,Z,ab,na,a9⟩:=id O;refine wpAny_bind (wpAny_holding (wpAny_bind (wpAny_tryCatch ?_)));unfold Builtin.Dict.pairItems;refine wpAny_bind (wpAny_typeOf ⟨oa,Z,ab⟩ ?_);rw[if_pos (by decide)];refine wpAny_bind (wpAny_seqItems Z a9 (wpAny_pure ?_));show wpAny _ _ (holding [x,p.2] (dictSet d x p.2)) _ _ _;refine wpAny_holding (wpAny_dictSet_pairs a1 a3 (λh2 aa h=>?_) (by omega));have M:h2.IsListIter I l (i+1)/\h2.IsList l its.toArray:=⟨u.1.at λo e=>(h.2 I G).trans e,u.2.at λo e=>(h.2 l a7).trans e⟩;refine wpAny_pure ⟨plainId_quiet xco _,ih (i+1) _ _ (by omega) m M.1 M.2 aa ?_ ?_ λh3 a4 a2 a6=>?_⟩
    · rw[Y]
      exact y.keep λb xs J=>by
        have h1:h'.IsTuple b xs:=J.at λo e=>c b o (by simpa using xe8 J g) e;exact h1.at λo e=>(h.2 b (xi8 h1 a3)).trans e
    · have:=stored_length_le f p.1 p.2
      omega
    · refine hR h3 a4 ?_ λb o J n e=>a6 b o J n ((h.2 b J).trans (c b o (by simpa using n) e))
      rw[z];rw[Y]at a2;exact a2
end
theorem xig:typeLookup (.type "list") "keys"=pure none:=am_miss_of_fast (by kernel_rfl)
section
variable {prog:Program}{w:World}{A:Around}{E:Value->Shared->Prop}{s:Shared}{K:Type}[DecidableEq K]{knd:KeyKind prog w K}
theorem xiu {l:Addr} {its:List Value} {n:Nat} {ps:List (K×Value)} {Q:Value->Shared->Prop} (hh:A.handled=none) (hl:s.heap.get? l=some {cls:=.type "list",data:=.seq its.toArray n}) (hp:PairsAt knd s.heap its ps) (hsz:its.length<=sizeLine)
  (h:∀h' tk,h'.DictOf knd s.heap.objs.size (merged [] ps)->(∀b o,s.heap.get? b=some o->h'.get? b=some o)->Q (.ref s.heap.objs.size) {s with heap:=h',toks:=tk}) :
  wpAny (model prog w) A (call (.type "dict") [.ref l]) Q E s:=by
 refine callType_codes (Q₁:=λobj s₁=>obj=.ref s.heap.objs.size/\s₁={s with heap:=s.heap.push {cls:=.type "dict",data:=.dict #[]}}) F.kt_called_dict (F.kt_typeCall_dict_1 _) F.entry_dict_init (kt_code_dict_new _ ⟨rfl,rfl⟩) ?_;rintro obj s₁ ⟨rfl,rfl⟩;have hnew:(s.heap.push {cls:=.type "dict",data:=.dict #[]}).DictOf knd s.heap.objs.size []:=Heap.DictOf.new s.heap;have ext0:∀b o,s.heap.get? b=some o->(s.heap.push {cls:=.type "dict",data:=.dict #[]}).get? b=some o:=λb o e=>zPO _ e;have hl0:=ext0 _ _ hl;have hT:(⟨s.heap.push {cls:=.type "dict",data:=.dict #[]},s.gens,s.drawn,s.toks,s.os⟩:Shared).TypeIs (.ref l) "list":=⟨_,hl0,rfl⟩;have hdl:l≠s.heap.objs.size:=λe=>absurd (Heap.lt_size hl) (by rw[e];exact Nat.lt_irrefl _);refine⟨hnew.typeIs,F.args_dict_init_2 _ _,?_⟩;unfold Builtin.«dict.__init__»;refine wpAny_bind ?_;unfold Builtin.Dict.selfAndRest;refine wpAny_bind (wpAny_notOrdered_dict hnew.typeIs ?_);show wpAny _ _ (pure (s.heap.objs.size,[Value.ref l])) _ _ _;refine wpAny_pure ?_;show wpAny _ _ (Builtin.Dict.updateFrom "dict.__init__" s.heap.objs.size (.ref l) [] .none) _ _ _;unfold Builtin.Dict.updateFrom;refine wpAny_bind (wpAny_typeOf hT ?_);rw[if_pos (by decide)];refine wpAny_bind (xei (sl:=#[]) hl0 xig (by walk_at"k") hh (λh1 tk1 k1=>?_) (by walk_at"k"));rw[if_pos (show(none:Option Value).isNone=true from rfl)];refine wpAny_bind (wpAny_rule ?_);have hl1:=k1 _ _ hl0;have hL1:h1.IsList l its.toArray:=⟨_,hl1,rfl,_,rfl⟩
 refine wpAny_bind (wpAny_pyIter_list hL1 (wpAny_pure ⟨plainId_quiet xco _,?_⟩));have hsz1:s.heap.objs.size<h1.objs.size:=Heap.lt_size (k1 _ _ (Heap.get?_push_size _ rfl));have hlI:l<h1.objs.size:=Heap.lt_size hl1;have ext2:∀b o,h1.get? b=some o->(h1.push {cls:=.type "list_iterator",data:=.fields #[.ref l,.int 0 0]}).get? b=some o:=λb o e=>zPO _ e;refine xob (knd:=knd) (A:=A.in1) (ps:=ps) (l:=l) (d:=s.heap.objs.size) (its:=its) hh (Nat.ne_of_lt hlI) hdl (Nat.ne_of_gt hsz1) its.length 0 _ [] (Nat.sub_zero _) (Nat.zero_le _) ⟨_,Heap.get?_push_size _ rfl,rfl,rfl⟩ (hL1.push _) (hnew.at λo e=>ext2 _ _ (k1 _ _ e)) (hp.keep λa xs ha=>ha.at λo e=>ext2 _ _ (k1 _ _ (ext0 _ _ e))) (by simpa using hsz) λh3 tk3 hd3 hk3=>?_;refine⟨rfl,h h3 tk3 hd3 λb o e=>hk3 b o ?_ ?_ (ext2 _ _ (k1 _ _ (ext0 _ _ e)))⟩
 ·exact λz=>absurd (Heap.lt_size e) (by rw[z];exact Nat.lt_irrefl _)
 ·exact λz=>absurd (Heap.lt_size e) (by rw[z];exact Nat.not_lt_of_gt hsz1)
end
def PairsV(H:Hp):List V->List (Key×V)->Prop
 |[],[]=>True
 |y::ys,kv::kvs=>(∃b,y=.ref b/\H b=some (.tup [kV kv.1,kv.2]))/\PairsV H ys kvs
 |_,_=>False
theorem PairsV.same{H a:Hp}(s:∀b us,H b=some (.tup us)->a b=some (.tup us)):∀{ys:List V} {kvs:List (Key×V)},PairsV H ys kvs->PairsV a ys kvs
 |[],[],_=>trivial
 |y::ys,f::kvs,⟨⟨b,e,c⟩,r⟩=>⟨⟨b,e,s _ _ c⟩,PairsV.same s r⟩
 |[],_::_,h=>h.elim
 |_::_,[],h=>h.elim
theorem PairsV.append{H:Hp}:∀{ys zs:List V} {kvs more:List (Key×V)},PairsV H ys kvs->PairsV H zs more->PairsV H (ys++zs) (kvs++more)
 |[],zs,[],more,_,k=>k
 |y::ys,zs,a::kvs,more,⟨h,r⟩,k=>⟨h,PairsV.append r k⟩
 |[],_,_::_,_,h,_=>h.elim
 |_::_,_,[],_,h,_=>h.elim
theorem PairsV.length{H:Hp}:∀{ys:List V} {kvs:List (Key×V)},PairsV H ys kvs->ys.length=kvs.length
 |[],[],_=>rfl
 |y::ys,a::kvs,⟨_,r⟩=>by rw[List.length_cons,List.length_cons,PairsV.length r]
 |[],_::_,h=>h.elim
 |_::_,[],h=>h.elim
section
variable {X:Cx}
theorem xks{a:List (Addr×Obj)}{σ:St}{H:Hp}{s:Shared}(I:Inv X a σ H s):∀{ys:List V} {its:List Value} {kvs:List (Key×V)},Vals ys its->PairsV H ys kvs->∃ps,KV kvs ps/\PairsAt (xce X.prog X.w) s.heap its ps
 |[],_,[],r,_=>by cases r;exact⟨[],.nil,trivial⟩
 | y::ys,_,j::kvs,r,⟨⟨b,o,n⟩,rest⟩=>by
  subst o
  cases r with
  |cons h t=>
   obtain⟨ps,m,l⟩:=xks I t rest;obtain⟨c,g,i,_⟩:=I.tuple (SqT.of (K:=X.K) n);obtain⟨f,e,rfl,u,p⟩:=g.two;exact⟨(j.1,e)::ps,.cons ⟨rfl,p⟩ m,⟨b,f,h,i,xo6 u⟩,l⟩
 |[],_,_::_,_,h=>h.elim
 |_::_,_,[],_,h=>h.elim
theorem xcz(hc:X.calm=true):xdy X (.type "dict") (λxs H Q=>∃a ys,∃kvs:List (Key×V),xs=[.ref a]/\H a=some (.lst ys)/\PairsV H ys kvs/\∀p,H p=none->Q (.ref p) (upd H p (.dK (xcx [] kvs)))):=by
 intro pins s σ H xs us Q I r h;obtain⟨a,ys,kvs,rfl,ha,hp,q⟩:=h;obtain⟨u,rfl,ru⟩:=xfx r;obtain rfl:u=.ref a:=ru;obtain⟨hz,its,n,rv,hl⟩:=(show ObjOk X.prog X.w H s.heap a (.lst ys) from I.hok a _ ha);obtain⟨ps,hk,hpa⟩:=xks I rv hp;have hyl:=hp.length;refine xiu (knd:=xce X.prog X.w) (I.ok.hd hc) hl hpa (by rw[<- rv.length];exact hz) λh' tk dd' k'=>?_
 have hz':(xcx [] kvs).length<=sizeLine:=by
  have:=xee kvs [];rw[List.length_nil]at this;omega
 exact⟨.ref s.heap.objs.size,_,I.laid (a:=s.heap.objs.size) (o:=.dK (xcx [] kvs)) (t':=tk) k' (Nat.le_refl _) (xn1 hz' (beq_eq_false_iff_ne.mpr (Ne.symm (Nat.ne_of_lt I.big))) (hk.merge .nil) dd'),rfl,q _ (I.hok.fresh (Nat.le_refl _))⟩
end
end L2
end
section
namespace M
open PySem L2
inductive Vk(ks:List Kn):Str->D->Prop
 |num (i:Int) (h:Nm i):Vk ks (S "num") (.int i)
 |rc {x:Str} {k:Kn} {ws:List D} (hk:kAt ks x=some k) (hr:k.rc=true) (hl:ws.length=k.parts.length) (h:∀(i:Nat) (w:D) (p:Str×Str),ws[i]?=some w->k.parts[i]?=some p->Vk ks p.2 w):Vk ks x (.tup [.str x,.tup ws])
 |al {x:Str} {k:Kn} {p:Str×Str} {w:D} (hk:kAt ks x=some k) (hr:k.rc=false) (hp:p∈k.parts) (h:Vk ks p.2 w):Vk ks x (.tup [.str x,.str p.1,w])
theorem xga{ks:List Kn}(b:KWf ks){x:Str}{v:D}(c:x=S "num")(h:Vk ks x v):∃i,Nm i/\v=.int i:=by
 cases h with
 |num i hi=>exact⟨i,hi,rfl⟩
 |rc a=>rw[c,b.num]at a;cases a
 |al a=>rw[c,b.num]at a;cases a
theorem xpj{ks:List Kn}(e:KWf ks){x:Str}{k:Kn}{v:D}(c:kAt ks x=some k)(f:k.rc=true)(h:Vk ks x v):∃ws,ws.length=k.parts.length/\(∀(i:Nat) w p,ws[i]?=some w->k.parts[i]?=some p->Vk ks p.2 w)/\v=.tup [.str x,.tup ws]:=by
 cases h with
 |num i hi=>rw[e.num]at c;cases c
 |rc b a g h=>
  rw[c]at b;cases b;exact⟨_,g,h,rfl⟩
 |al b a=>
  rw[c]at b;cases b;rw[f]at a;cases a
theorem xpk{ks:List Kn}(e:KWf ks){x:Str}{k:Kn}{v:D}(c:kAt ks x=some k)(f:k.rc=false)(h:Vk ks x v):∃p∈k.parts,∃w,Vk ks p.2 w/\v=.tup [.str x,.str p.1,w]:=by
 cases h with
 |num i hi=>rw[e.num]at c;cases c
 |rc b a=>
  rw[c]at b;cases b;rw[f]at a;cases a
 |@al _ _ p w b a g h=>
  rw[c]at b;cases b;exact⟨p,g,w,h,rfl⟩
theorem xi7{ks:List Kn}(a:KWf ks):∀(m:Nat) (x:Str) (v:D),KIn ks m x->Vk ks x v->v.deep<=2*m
 | 0,x,v,b,h=>by
  rcases b.look a with⟨e,_⟩ |⟨j,k,e,_⟩
  ·obtain⟨i,_,rfl⟩:=xga a e h
   exact Nat.zero_le _
  ·cases e
 | m + 1,x,v,b,h=>by
  rcases b.look a with⟨e,_⟩ |⟨j,k,e,c,hn,r,n⟩
  ·obtain⟨i,_,rfl⟩:=xga a e h
   exact Nat.zero_le _
  ·cases e
   cases o:k.rc with
   | true=>
    obtain⟨ws,s,g,rfl⟩:=xpj a c o h
    have:xft ws<=2*m:=xe6 λd hd=>by
     obtain⟨i,hi,e⟩:=zMI hd;have f:i<k.parts.length:=by omega
     exact xi7 a m _ d (n _ (List.getElem_mem f)) (g i d k.parts[i] (by rw[<- e];exact zGA hi) (zGA f))
    show max 0 (max (xft ws+1) 0)+1<=2*(m+1);omega
   |false=>
    obtain⟨p,l,w,g,rfl⟩:=xpk a c o h;have:=xi7 a m _ w (n p l) g;show max 0 (max 0 (max w.deep 0))+1<=2*(m+1);omega
def FitB(ks:List Kn)(bs:List (Str×Str))(env:En):Prop:=∀p∈bs,∃v,env p.1=some v/\Vk ks p.2 v
theorem FitB.put{ks:List Kn}{bs:List (Str×Str)}{env:En}{y k:Str}{v:D}(h:FitB ks bs env)(c:∀p∈bs,p.1≠y)(e:Vk ks k v):FitB ks (bs++[(y,k)]) (env.put y v):=λp a=>by
 unfold En.put;rcases zMA a with a |a
 ·obtain⟨b,g,f⟩:=h p a
  exact⟨b,by rw[if_neg (c p a)];exact g,f⟩
 ·rw[zMO a]
  exact⟨v,by rw[if_pos rfl],e⟩
def Sg(s:Str):Prop:=s=S "+"\/s=S "-"\/s=S "*"\/s=S "<"\/s=S "="
def SgD(d:D):Prop:=∀s a b,d=tOpD s a b->Sg s
def Evs(ks:List Kn):Nat->En->D->D->Prop
 |0=>xd3
 |n+1=>λenv d v=>xd3 env d v\/(NodeEv ks (Evs ks n) env d v/\SgD d)
theorem All2.imp3{α β:Type}{R c:α->β->Prop}(k:∀a b,R a b->c a b):∀{as:List α} {bs:List β},All2 R as bs->All2 c as bs
 |_,_,.nil=>.nil
 |_,_,.cons h t=>.cons (k _ _ h) (All2.imp3 k t)
theorem NodeEv.mono{ks:List Kn}{R n:En->D->D->Prop}(k:∀env d v,R env d v->n env d v){env:En}{d v:D}(h:NodeEv ks R env d v):NodeEv ks n env d v:=by
 rcases h with⟨s,a,b,x,y,g,l,r⟩ |⟨j,es,vs,m,g,r⟩ |⟨a,j,vs,f,o,i,g,r⟩ |⟨j,t,a,x,g,r⟩ |⟨a,rs,j,t,x,y,e,m,g,p,l,r⟩ |⟨a,b,c,x,g,l,r⟩
 ·exact .inl ⟨s,a,b,x,y,k _ _ _ g,k _ _ _ l,r⟩
 ·exact .inr (.inl ⟨j,es,vs,m,g.imp3 (k env),r⟩)
 ·exact .inr (.inr (.inl ⟨a,j,vs,f,o,i,k _ _ _ g,r⟩))
 ·exact .inr (.inr (.inr (.inl ⟨j,t,a,x,k _ _ _ g,r⟩)))
 ·exact .inr (.inr (.inr (.inr (.inl ⟨a,rs,j,t,x,y,e,m,k _ _ _ g,p,k _ _ _ l,r⟩))))
 ·exact .inr (.inr (.inr (.inr (.inr ⟨a,b,c,x,k _ _ _ g,k _ _ _ l,r⟩))))
theorem xk1{ks:List Kn}:∀(n:Nat) (env:En) (d v:D),Evs ks n env d v->Ev ks n env d v
 |0,_,_,_,h=>h
 |n+1,env,d,v,h=>by
  rcases h with h |⟨h,_⟩
  ·exact .inl h
  ·exact .inr (h.mono (xk1 n))
theorem xlm{h:Str}{r:List D}(c:h≠S "op"):SgD (.tup (.str h::r)):=λs a b e=>by
 have g:=D.tup.inj e;have f:=(List.cons.inj g).1;exact absurd (D.str.inj f) c
theorem xty{s:Str}{a b:D}(h:Sg s):SgD (tOpD s a b):=λs' i g e=>by
 have f:=D.tup.inj e;have c:=(List.cons.inj (List.cons.inj f).2).1;rw[<- D.str.inj c];exact h
def TmOk(ks:List Kn)(n:Nat)(bs:List (Str×Str))(d:D)(x:Str):Prop:=∀env,FitB ks bs env->∃v,Evs ks n env d v/\Vk ks x v
theorem xnw{ks:List Kn}{n:Nat}{env:En}{d v:D}(h:xd3 env d v):Evs ks n env d v:=by
 cases n with
 |zero=>exact h
 |succ n=>exact .inl h
theorem xrx{ks:List Kn}{n:Nat}{bs:List (Str×Str)}{i:Int}(h:Nm i):TmOk ks n bs (tNum i) (S "num"):=λenv _=>⟨.int i,xnw (.inl ⟨i,rfl,rfl⟩),.num i h⟩
theorem xrz{ks:List Kn}{n:Nat}{bs:List (Str×Str)}{y x:Str}(h:(y,x)∈bs):TmOk ks n bs (tBox y) x:=λenv a=>by
 obtain⟨v,c,b⟩:=a _ h;exact⟨v,xnw (.inr ⟨y,c,rfl⟩),b⟩
theorem xtk{ks:List Kn}(c:KWf ks){n:Nat}{bs:List (Str×Str)}{s:Str}{a b:D}(hs:Sg s)(m:TmOk ks n bs a (S "num"))(l:TmOk ks n bs b (S "num")):TmOk ks (n+1) bs (tOpD s a b) (S "num"):=λenv e=>by
 obtain⟨u,p,g⟩:=m env e;obtain⟨v,o,f⟩:=l env e;obtain⟨i,hi,rfl⟩:=xga c rfl g;obtain⟨j,h,rfl⟩:=xga c rfl f;exact⟨_,.inr ⟨.inl ⟨s,a,b,i,j,p,o,hi,h,rfl,rfl⟩,xty hs⟩,.num _ (xsw s i j)⟩
theorem xly{ks:List Kn}{n:Nat}{bs:List (Str×Str)}{env:En}(c:FitB ks bs env):∀{es:List D} {ps:List (Str×Str)},All2 (λe (p:Str×Str)=>TmOk ks n bs e p.2) es ps->∃vs,All2 (Evs ks n env) es vs/\vs.length=ps.length/\∀(i:Nat) w p,vs[i]?=some w->ps[i]?=some p->Vk ks p.2 w
 |_,_,.nil=>⟨[],.nil,rfl,λi w p h=>by simp at h⟩
 | _,_,.cons h t=>by
  obtain⟨v,m,l⟩:=h env c;obtain⟨vs,j,g,f⟩:=xly c t;refine⟨v::vs,.cons m j,by rw[List.length_cons,List.length_cons,g],λi w p a b=>?_⟩
  cases i with
  |zero=>
   simp at a b;subst a b;exact l
  |succ i=>exact f i w p (by simpa using a) (by simpa using b)
theorem xrw{ks:List Kn}{n:Nat}{bs:List (Str×Str)}{x:Str}{k:Kn}{es:List D}(c:kAt ks x=some k)(a:k.rc=true)(b:k.parts.length<=1000)(h:All2 (λe (p:Str×Str)=>TmOk ks n bs e p.2) es k.parts):TmOk ks (n+1) bs (tRec x es) x:=λenv f=>by
 obtain⟨vs,j,i,g⟩:=xly f h;exact⟨_,.inr ⟨.inr (.inl ⟨x,es,vs,by rw[h.length];exact b,j,rfl,rfl⟩),xlm (by walk_at"k")⟩,.rc c a i g⟩
theorem xip{f:Str}:∀{l:List Str} {i:Nat},l.Nodup->l[i]?=some f->l.findIdx? (λz=>decide (z=f))=some i
 |[],i,_,h=>by simp at h
 |y::l,0,_,h=>by
  simp at h;subst h;simp[List.findIdx?_cons]
 |y::l,i+1,nd,h=>by
  have b:f∈l:=zMG (by simpa using h);have a:¬y=f:=λe=>by subst e;exact(List.nodup_cons.mp nd).1 b
  rw[List.findIdx?_cons,zDF a];have:=xip (l:=l) (i:=i) (List.nodup_cons.mp nd).2 (by simpa using h);simp[this]
theorem xry{ks:List Kn}(f:KWf ks){n:Nat}{bs:List (Str×Str)}{y:Str}{k:Kn}{a:D}{p:Str×Str}(c:kAt ks y=some k)(l:k.rc=true)(m:p∈k.parts)(h:TmOk ks n bs a y):TmOk ks (n+1) bs (tGet a p.1) p.2:=λenv r=>by
 obtain⟨v,u,s⟩:=h env r;obtain⟨ws,w,j,rfl⟩:=xpj f c l s;obtain⟨i,hi,e⟩:=zMI m;have b:i<ws.length:=by omega
 have o:=zMF c;have g:k.parts[i]?=some p:=by rw[<- e];exact zGA hi
 exact⟨ws[i],.inr ⟨.inr (.inr (.inl ⟨a,y,ws,p.1,k,i,u,c,xip (f.pnd k o) (by rw[zGM,g];rfl),zGA b,rfl⟩)),xlm (by walk_at"k")⟩,j i _ p (zGA b) g⟩
theorem xrv{ks:List Kn}{n:Nat}{bs:List (Str×Str)}{x:Str}{k:Kn}{a:D}{p:Str×Str}(e:kAt ks x=some k)(b:k.rc=false)(c:p∈k.parts)(h:TmOk ks n bs a p.2):TmOk ks (n+1) bs (tTag x p.1 a) x:=λenv f=>by
 obtain⟨v,i,g⟩:=h env f;exact⟨_,.inr ⟨.inr (.inr (.inr (.inl ⟨x,p.1,a,v,i,rfl,rfl⟩))),xlm (by walk_at"k")⟩,.al e b c g⟩
theorem xqa {ks:List Kn} (c:KWf ks) {n:Nat} {bs:List (Str×Str)} {x y:Str} {k:Kn} {a:D} {rs:List (Str×Str×D)} (u:kAt ks y=some k) (l:k.rc=false) (G:TmOk ks n bs a y) (s:rs.length<=1000) (nd:(rs.map (·.1)).Nodup)
  (h:∀p∈k.parts,∃z e,(p.1,z,e)∈rs/\(∀q∈bs,q.1≠z)/\TmOk ks n (bs++[(z,p.2)]) e x):TmOk ks (n+1) bs (xlc a rs) x:=λenv b=>by
 obtain⟨v,O,M⟩:=G env b;obtain⟨p,m,w,j,rfl⟩:=xpk c u l M;obtain⟨z,e,o,hz,C⟩:=h p m;obtain⟨g,J,I⟩:=C _ (b.put hz j);obtain⟨i,hi,U⟩:=zMI o;have:=xdu (f:=λr:Str×Str×D=>r.1) (xs:=rs) (i:=i) (a:=(p.1,z,e)) nd (by rw[<- U];exact zGA hi);exact⟨g,.inr ⟨.inr (.inr (.inr (.inr (.inl ⟨a,rs,y,p.1,w,z,e,s,O,this,J,rfl⟩)))),xlm (by walk_at"k")⟩,I⟩
theorem xtl{ks:List Kn}(j:KWf ks){n:Nat}{bs:List (Str×Str)}{x:Str}{a b c:D}(p:TmOk ks n bs a (S "num"))(o:TmOk ks n bs b x)(m:TmOk ks n bs c x):TmOk ks (n+1) bs (tIfD a b c) x:=λenv f=>by
 obtain⟨u,h,l⟩:=p env f;obtain⟨i,hi,rfl⟩:=xga j rfl l;by_cases h0:i=0
 ·obtain⟨v,g,e⟩:=m env f
  exact⟨v,.inr ⟨.inr (.inr (.inr (.inr (.inr ⟨a,b,c,i,h,by rw[if_pos h0];exact g,rfl⟩)))),xlm (by walk_at"k")⟩,e⟩
 ·obtain⟨v,g,e⟩:=o env f
  exact⟨v,.inr ⟨.inr (.inr (.inr (.inr (.inr ⟨a,b,c,i,h,by rw[if_neg h0];exact g,rfl⟩)))),xlm (by walk_at"k")⟩,e⟩
def smS(f:Str->Int)(k:Kn):Int:=if k.rc=true then (k.parts.map λp=>f p.2).sum else match k.parts with |[]=>0 |p::_=>f p.2
def hiS(f:Str->Int)(k:Kn):Int:=if k.rc=true then maxD (k.parts.map λp=>f p.2) else match k.parts with |[]=>0 |p::_=>f p.2
theorem xhr{f g:Str->Int}{k:Kn}(h:∀p∈k.parts,f p.2=g p.2):smS f k=smS g k:=by
 unfold smS;rw[List.map_congr_left h]
 cases a:k.parts with
 |nil=>rfl
 |cons p r=>
  show(if k.rc=true then _ else f p.2)=(if k.rc=true then _ else g p.2);rw[h p (by rw[a];simp)]
theorem xiq{f g:Str->Int}{k:Kn}(h:∀p∈k.parts,f p.2=g p.2):hiS f k=hiS g k:=by
 unfold hiS;rw[List.map_congr_left h]
 cases a:k.parts with
 |nil=>rfl
 |cons p r=>
  show(if k.rc=true then _ else f p.2)=(if k.rc=true then _ else g p.2);rw[h p (by rw[a];simp)]
def smF:Nat->List Kn->Str->Int
 |0,_,_=>1
 |n+1,ks,x=>match kAt ks x with
  |none=>1
  |some k=>1+smS (smF n ks) k
def hiF:Nat->List Kn->Str->Int
 |0,_,_=>1
 |n+1,ks,x=>match kAt ks x with
  |none=>1
  |some k=>1+hiS (hiF n ks) k
theorem xdp{n:Nat}{ks:List Kn}{x:Str}(h:kAt ks x=none):smF (n+1) ks x=1:=by unfold smF;rw[h]
theorem xe1{n:Nat}{ks:List Kn}{x:Str}{k:Kn}(h:kAt ks x=some k):smF (n+1) ks x=1+smS (smF n ks) k:=by
 show(match kAt ks x with |none=>1 |some k=>1+smS (smF n ks) k)=_;rw[h]
theorem xdt{n:Nat}{ks:List Kn}{x:Str}(h:kAt ks x=none):hiF (n+1) ks x=1:=by unfold hiF;rw[h]
theorem xe4{n:Nat}{ks:List Kn}{x:Str}{k:Kn}(h:kAt ks x=some k):hiF (n+1) ks x=1+hiS (hiF n ks) k:=by
 show(match kAt ks x with |none=>1 |some k=>1+hiS (hiF n ks) k)=_;rw[h]
theorem xsd{ks:List Kn}(f:KWf ks):∀(m:Nat) (x:Str),KIn ks m x->smF (m+2) ks x=smF (m+1) ks x/\hiF (m+2) ks x=hiF (m+1) ks x:=by
 intro m
 induction m with
 |zero=>
  intro x h;rcases h.look f with⟨_,e⟩ |⟨j,k,c,_⟩
  ·exact⟨(xdp e).trans (xdp e).symm,(xdt e).trans (xdt e).symm⟩
  ·cases c
 | succ m g=>
  intro x h;rcases h.look f with⟨_,e⟩ |⟨j,k,c,b,hn,l,i⟩
  ·exact⟨(xdp e).trans (xdp e).symm,(xdt e).trans (xdt e).symm⟩
  ·cases c
   rw[xe1 b,xe1 b,xe4 b,xe4 b,xhr λp a=>(g p.2 (i p a)).1,xiq λp a=>(g p.2 (i p a)).2];exact⟨rfl,rfl⟩
def smK(ks:List Kn)(x:Str):Int:=smF 7 ks x
def hiK(ks:List Kn)(x:Str):Int:=hiF 7 ks x
theorem xsb{ks:List Kn}(b:KWf ks){m:Nat}{x:Str}(h:KIn ks m x)(c:m<=6):smF (m+1) ks x=smK ks x/\hiF (m+1) ks x=hiK ks x:=by
 have:∀k,smF (m+k+1) ks x=smF (m+1) ks x/\hiF (m+k+1) ks x=hiF (m+1) ks x:=λk=>by
  induction k with
  |zero=>exact⟨rfl,rfl⟩
  |succ k a=>
   have u:=xsd b (m+k) x (h.mono (by omega));exact⟨u.1.trans a.1,u.2.trans a.2⟩
 have u:=this (6-m);rw[show m+(6-m)+1=7 by omega]at u;exact⟨u.1.symm,u.2.symm⟩
theorem xmf{ks:List Kn}(a:KWf ks):smK ks (S "num")=1/\hiK ks (S "num")=1:=⟨xdp a.num,xdt a.num⟩
theorem xsc{ks:List Kn}(wf:KWf ks){x:Str}{k:Kn}(hk:kAt ks x=some k):smK ks x=1+smS (smK ks) k/\hiK ks x=1+hiS (hiK ks) k:=by
 have hm:=zMF hk
 have hx:k.name=x:=by
  have:=List.find?_some hk;exact of_decide_eq_true this
 have hin:KIn ks 6 x:=(KIn.of (.inr ⟨k,hm,hx⟩)).mono wf.few;rcases hin.look wf with⟨_,e⟩ |⟨j,k',e0,hk',hn,hm',hp⟩
 ·rw[e]at hk;cases hk
 ·cases e0
  rw[hk]at hk';cases hk';exact⟨(xe1 (n:=6) hk).trans (congrArg (λz=>1+z) (xhr λp hp'=>(xsb wf (hp p hp') (by omega)).1)),(xe4 (n:=6) hk).trans (congrArg (λz=>1+z) (xiq λp hp'=>(xsb wf (hp p hp') (by omega)).2))⟩
theorem xhs{ks:List Kn}(g:∀k∈ks,k.parts.length<=5):∀(n:Nat) (x:Str),(1<=smF n ks x/\smF n ks x<=6 ^ n)/\(1<=hiF n ks x/\hiF n ks x<=n+1)
 |0,x=>⟨⟨Int.le_refl _,Int.le_refl _⟩,⟨Int.le_refl _,Int.le_refl _⟩⟩
 | n + 1,x=>by
  have o:(1:Int)<=6 ^ n:=Int.pow_pos (by decide);have m:(6:Int) ^ (n+1)=6*6 ^ n:=by rw[Int.pow_succ,Int.mul_comm]
  cases b:kAt ks x with
  |none=>
   rw[xdp b,xdt b];exact⟨⟨Int.le_refl _,by rw[m];omega⟩,Int.le_refl _,by push_cast;omega⟩
  | some k=>
   rw[xe1 b,xe4 b];have j:=g k (zMF b);have f:=λy=>xhs g n y
   have hs:∀(l:List (Str×Str)),0<=(l.map λp=>smF n ks p.2).sum/\(l.map λp=>smF n ks p.2).sum<=l.length*6 ^ n:=by
    intro l
    induction l with
    |nil=>simp
    |cons a r c=>
     have h:=(f a.2).1;rw[List.map_cons,List.sum_cons,List.length_cons];push_cast;rw[Int.add_mul];omega
   have i:∀(l:List (Str×Str)),0<=maxD (l.map λp=>hiF n ks p.2)/\maxD (l.map λp=>hiF n ks p.2)<=n+1:=by
    intro l
    induction l with
    |nil=>show 0<=(0:Int)/\(0:Int)<=n+1;omega
    |cons a r c=>
     have h:=(f a.2).2;have e:maxD ((a::r).map λp=>hiF n ks p.2)=max (hiF n ks a.2) (maxD (r.map λp=>hiF n ks p.2)):=rfl;rw[e];omega
   have h:=hs k.parts;have w:(k.parts.length:Int)*6 ^ n<=5*6 ^ n:=Int.mul_le_mul_of_nonneg_right (by omega) (by omega);have u:=i k.parts;unfold smS hiS;push_cast
   cases k.rc with
   |true=>
    rw[if_pos rfl,if_pos rfl];refine⟨⟨?_,?_⟩,?_,?_⟩ <;> omega
   | false=>
    rw[if_neg (by decide),if_neg (by decide)]
    cases k.parts with
    |nil=>
     refine⟨⟨?_,?_⟩,?_,?_⟩ <;> dsimp only <;> omega
    |cons p r=>
     have s:=f p.2;refine⟨⟨?_,?_⟩,?_,?_⟩ <;> dsimp only <;> omega
theorem xkl{ks:List Kn}(a:KWf ks)(x:Str):1<=smK ks x/\smK ks x<=279936/\1<=hiK ks x/\hiK ks x<=8:=by
 have:=xhs a.pts 7 x;have e:(6:Int) ^ 7=279936:=by decide
 unfold smK hiK;omega
end M
end
section
namespace L2
open PySem PySem.Spec PyProof.Rows M
section
variable {X:Cx}
def rEqE(K:Fg):R2:=λx y H Q=>∃a b xs,x=.ref a/\y=.ref b/\SqL K H a xs/\SqL K H b []/\Q (.bl xs.isEmpty) H
theorem xsv(m:X.A.units<cLine):OpR X (compareOp .Eq) (rEqE X.K):=by
 intro f s σ H x y v u Q I o n h;obtain⟨a,b,xs,rfl,rfl,C,z,q⟩:=h;cases o;cases n;obtain⟨its,r,i,_⟩:=I.list C;obtain⟨l,p,g,_⟩:=I.list z;have c:=r.length;have w:=p.length
 cases xs with
 | nil=>
  refine SeqAt.eq_listAt (e:=λ_=>true) i.isList g.isList (by simp only[List.size_toArray];omega) m (λj G J=>?_) ⟨.bl _,H,I,rfl,?_⟩
  ·simp only[List.size_toArray]at G
   simp at c;omega
  ·have:its=[]:=List.eq_nil_of_length_eq_zero (by simpa using c.symm)
   subst this;exact q
 |cons x xs=>
  refine PySem.EqBoolInt.of_rc (SeqAt.RcAt.lists_lengths i.isList g.isList (by simp only[List.size_toArray];simp at c w⊢;omega) m) ⟨.bl _,H,I,rfl,?_⟩;simpa using q
end
end L2
end
section
end
section
end
section
end
section
end
section
end
section
end
section
end
section
end
section
namespace M
open PySem L2
def byN(j:Nat):Str:=ofL [98,121,97+j]
theorem xrr{i j:Nat}(h:byN i=byN j):i=j:=by
 have:=congrArg L h;unfold byN at this;rw[xdo,xdo]at this;simp at this;exact this
def NoBy(x:Str):Prop:=∀j:Nat,x≠byN j
theorem xt6{l:List Nat}(h:l[0]?≠some 98\/l[1]?≠some 121):NoBy (ofL l):=λj e=>by
 have:=congrArg L e;unfold byN at this;rw[xdo,xdo]at this;subst this;simp at h
theorem xjy{c:Nat}(h:c∈five):c≠98/\c≠121:=by
 revert h;unfold five;simp;omega
theorem xpx{cs:List Nat}(h:∀c∈cs,c∈five)(a:Nat)(b:Int)(k:Nat)(t:List Nat)(i:∀c∈t,c∈five):NoBy (ofL (nmA cs a b k++t)):=by
 apply xt6;unfold nmA
 cases g:cs.take a with
 |nil=>
  right;rw[List.nil_append,List.cons_append,List.getElem?_cons_succ];intro e;have f:=zMG e;rcases zMA f with f |f
  ·exact(xjy (h _ (List.mem_of_mem_drop f))).2 rfl
  ·exact(xjy (i _ f)).2 rfl
 |cons c r=>
  left;intro e;simp at e;have:c∈cs.take a:=by rw[g];simp
  exact(xjy (h c (List.mem_of_mem_take this))).1 e
theorem xq3{cs:List Nat}{a:Nat}{b:Int}(e:∀c∈cs,c∈five):∀z∈((List.range 26).map λk=>ofL (nmA cs a b k)),NoBy z:=λz hz=>by
 obtain⟨k,_,rfl⟩:=zMP hz;have:=xpx e a b k [] (λ_ h=>nomatch h);rw[List.append_nil]at this;exact this
theorem xq1{cs:List Nat}{a:Nat}{b:Int}(f:∀c∈cs,c∈five):∀z∈((List.range 26).map λk=>ofL (nmB cs a b k)),NoBy z:=λz hz=>by
 obtain⟨k,_,rfl⟩:=zMP hz;unfold nmB;exact xpx f a b _ _ λc e=>by rw[List.eq_of_mem_replicate e];decide
theorem xpd{i:Nat}(h:i<8):atI (S "abcdefgh").cps.toList (i:Int)=some (97+i):=by
 have all:∀k,k<8->(S "abcdefgh").cps.toList[k]?=some (97+k):=by walk_at"k"
 exact xax (all i h)
theorem xpi(i:Nat):S "by"++(⟨#[97+i]⟩:Str)=byN i:=by
 apply xoa;rw[xdw,show L (S "by")=[98,121] by walk_at"k"];rfl
def BxAt(H:Hp)(f:Addr)(bv:V)(bs:List (Str×Str)):Prop:=∃bl us,bv=.ref bl/\H bl=some (.lst us)/\RelDs H us (bs.map xj2)/\bl≠f
def xui(bs:List (Str×Str))(m:Nat):Prop:=∀b∈bs,∀j,j<m->b.1≠byN j
def PNB(ks:List Kn):Prop:=∀k∈ks,∀p∈k.parts,NoBy p.1
structure TIn(H:Hp)(f:Addr)(kv bv:V)(ks:List Kn)(bs:List (Str×Str))(m:Nat):Prop where
 fd:∃p q:Int,H f=some (.lst [.int p,.int q])
 kd:RelD H kv (xdn ks)
 wf:KWf ks
 nb:PNB ks
 bx:BxAt H f bv bs
 nd:(bs.map (·.1)).Nodup
 bl:bs.length+m<=30
 fr:xui bs m
 kn:∀b∈bs,KIn ks 6 b.2
theorem TIn.same{H c:Hp}{f:Addr}{a b:V}{ks:List Kn}{bs:List (Str×Str)}{m:Nat}(h:TIn H f a b ks bs m)(s:Same H c):TIn c f a b ks bs m:=by
 obtain⟨p,q,i⟩:=h.fd;obtain⟨l,us,e,j,g,n⟩:=h.bx;exact⟨⟨p,q,s _ _ i⟩,h.kd.same s _,h.wf,h.nb,⟨l,us,e,s _ _ j,g.same s _,n⟩,h.nd,h.bl,h.fr,h.kn⟩
theorem TIn.fed{H c:Hp}{f:Addr}{a b:V}{ks:List Kn}{bs:List (Str×Str)}{m:Nat}(h:TIn H f a b ks bs m)(s:Fed f H c):TIn c f a b ks bs m:=by
 obtain⟨j,us,e,i,g,n⟩:=h.bx;exact⟨s.2,h.kd.tups (xaj h.fd s) _,h.wf,h.nb,⟨j,us,e,s.1 _ _ i n,g.tups (xaj h.fd s) _,n⟩,h.nd,h.bl,h.fr,h.kn⟩
theorem TIn.down{H:Hp}{f:Addr}{c e:V}{ks:List Kn}{bs:List (Str×Str)}{m a:Nat}(h:TIn H f c e ks bs m)(l:a<=m):TIn H f c e ks bs a:=
 ⟨h.fd,h.kd,h.wf,h.nb,h.bx,h.nd,by have:=h.bl;omega,λb g j i=>h.fr b g j (by omega),h.kn⟩
end M
end
section
set_option maxHeartbeats 400000
end
section
namespace L2
open PySem PySem.Spec PyProof.Rows M
section
variable {X:Cx}{K:Fg}
theorem xaw{b:Expr}(e:X.K=K){l:Expr}{a:TE}(c:PE X l a):PI X b l (iTup K a):=by subst e;exact xsk c
theorem xbs{b:Expr}(e:X.K=K){l:Expr}{a:TE}(c:PE X l a):PI X b l (xs7 K a):=by subst e;exact xqo c
theorem xbq(a:X.K=K):xdy X (.type "tuple") (λxs H Q=>∃p ys,xs=[.ref p]/\((SqL K H p ys/\∀l,H l=none->Q (.ref l) (upd H l (.tup ys)))\/(SqT K H p ys/\Q (.ref p) H))):=by subst a;exact xhf
theorem xk0(a:X.K=K):OpR X (binaryOp .Add) (xps K):=by subst a;exact xoo
end
section
variable {X:Cx}
theorem va(i:Nat){x:Str}{p:Pos}{es:List Expr}{t:TA}(c:PA X es t)(e:X.N[i]?=some x:=by rfl)(b:Vis X.env.scope x:=by first |exact Or.inl rfl |exact Or.inr (Or.inl rfl) |exact Or.inr (Or.inr rfl))(hd:(x == ("__debug__":Str))=false:=by decide)(a:(x == ("__classdict__":Str))=false:=by decide):PA X (.Name x p::es) (xqe (tVar i) t):=pc (pv i e b hd a) c zsn
theorem v1(i:Nat){x:Str}{p:Pos}(c:X.N[i]?=some x:=by rfl)(b:Vis X.env.scope x:=by first |exact Or.inl rfl |exact Or.inr (Or.inl rfl) |exact Or.inr (Or.inr rfl))(hd:(x == ("__debug__":Str))=false:=by decide)(a:(x == ("__classdict__":Str))=false:=by decide):PA X [.Name x p] (xqe (tVar i) tNil):=va i pN c b hd a
theorem psn(i:Nat){x:Str}{e:Expr}{b:TE}{pos a:Pos}(h:X.N.Nodup)(g:PE X e b)(hi:X.N[i]?=some x:=by rfl)(c:Loc X.env.scope x:=by first |exact Or.inl rfl |exact Or.inr rfl)(hs:swapsWith e (some (.Name x a)) pos.line X.env=pure false:=by rfl)(f:X.fn x=true\/X.env.scope.names.lookup x=some .local:=by first |exact .inl rfl |exact .inr rfl |assumption):PS X (.Assign [.Name x a] e pos) (tAsg b (xfq i)):=xsj h hi c g hs f
theorem pgn(i:Nat){x:Str}{pos:Pos}(c:X.N.Nodup)(hi:X.N[i]?=some x:=by rfl)(a:Loc X.env.scope x:=by first |exact Or.inl rfl |exact Or.inr rfl)(b:X.fn x=true\/X.env.scope.names.lookup x=some .local:=by first |exact .inl rfl |exact .inr rfl |assumption):PG X (.Name x pos) (xfq i):=xmo c hi a b
theorem px(K:Fg){a b:Expr}{e c:TE}{pos:Pos}(g:PE X a e)(f:PE X b c)(h:X.K=K:=by rfl)(hs:xj8 b:=by exact λ_ _=>rfl):PE X (.Subscript a b pos) (tOp (rIxT K) e c):=xlj (xrb h) g f hs
theorem pxl(K:Fg){a b:Expr}{e c:TE}{pos:Pos}(g:PE X a e)(f:PE X b c)(h:X.K=K:=by rfl)(hs:xj8 b:=by exact λ_ _=>rfl):PE X (.Subscript a b pos) (tOp (rIxL K) e c):=xlj (xo7 h) g f hs
theorem pgc(i:Nat){x:Str}{pos:Pos}(hi:X.N[i]?=some x:=by rfl)(hN:X.N.Nodup:=by exact of_decide_eq_true (by kernel_rfl))(hx:Loc X.env.scope x:=by exact Or.inl rfl)(hf:X.fn x=true\/X.env.scope.names.lookup x=some .local:=by first |exact .inl rfl |exact .inr rfl |assumption):PG X (.Name x pos) (xfq i):=xmo hN hi hx hf
end
end L2
end
section
namespace L2
open PySem PySem.Spec PyProof.Rows
open PySem.W in
def xp5(K:Frag)(x:Str)(fs:List Str):Bool:=
 plainGet K (ad K x) Str.empty && (hasDictIn K (ad K x) && (plainOver K (ad K x) && (findIn K (.ref (ad K x)) "__setattr__" == some (some (.builtin "object.__setattr__")) && (makesIn K (ad K x) && (keepIn K (.ref (ad K x)) &&
 fs.all λf=>findIn K (.ref (ad K x)) f == some none)))))
structure DTab(K:Fg)(x:Str)(fs:List Str):Prop where
 cl:Cls K (ad K x)
 ms:PySem.W.makesIn K (ad K x)=true
 kp:PySem.W.keepIn K (.ref (ad K x))=true
 no:∀f∈fs,NoAttr K (ad K x) f
theorem dtab_of{K:Fg}{x:Str}{fs:List Str}(e:xp5 K x fs=true):DTab K x fs:=by
 unfold xp5 at e;simp only[Bool.and_eq_true,List.all_eq_true,beq_iff_eq]at e;obtain⟨i,h,g,f,c,b,a⟩:=e;exact⟨⟨i,h,g,f⟩,c,b,a⟩
structure MethTx(K:Fg)(q:Str)(C:Addr)(m:Str)(st:Stmt)(ps:List Str)(dss:List (List Value)):Prop where
 ex:∃(f:Addr) (dV kV doc pm:Value) (an:Option Addr) (cdv ct oc:Value) (od:Option Addr) (osl:Array (Option Value)),PySem.W.findIn K (.ref C) m=some (some (.ref f))/\PySem.W.isFn K (.ref f)=true/\PySem.W.keepIn K (.ref f)=true ∧
  K.lookup f=some ⟨oc,od,.func (PySem.W.fnOf m q (xdc st) (xcw st) (xac st) dV kV doc pm an cdv ct),osl⟩/\PySem.W.codeIn K cdv q=true/\∀ds∈dss,Binds K (PySem.W.fnOf m q (xdc st) (xcw st) (xac st) dV kV doc pm an cdv ct) ps ds
theorem meth_mk {K:Fg} {x q m:Str} {C f:Addr} {st:Stmt} {ps:List Str} {r:Value} {od p:Option Addr} {o:Array (Option Value)} {kV g j e ct:Value} (a:PySem.W.nsIn K mainGlobals x=some (some (.ref C)))
  (i:PySem.W.findIn K (.ref C) m=some (some (.ref f))) (n:PySem.W.isFn K (.ref f)=true)
  (l:K.lookup f=some ⟨r,od,.func (PySem.W.fnOf m q (xdc st) (xcw st) (xac st) .none kV g j p e ct),o⟩) (c:PySem.W.codeIn K e q=true) (k:PySem.W.keepIn K (.ref f)=true)
  (b:∀(kV g j:Value) (p:Option Addr) (e ct:Value) (us:List Value),us.length=ps.length->bindArgs (PySem.W.fnOf m q (xdc st) (xcw st) (xac st) .none kV g j p e ct) ⟨us,[]⟩=pure (ps.zip us)):MethTx K q (ad K x) m st ps [[]]:=by
 rw[xuc a];exact⟨f,_,kV,g,j,p,e,ct,r,od,o,i,n,k,l,c,λds h=>by rw[zMO h];exact Binds.all (b kV g j p e ct)⟩
structure MethIs(P:Program)(w:World)(K:Fg)(mg:Str->Option Value)(base:Heap)(n:Nat)(C:Addr)(m:Str)(ps:List Str)(dss:List (List Value))(sp:Sp):Prop where
 ex:∃(f:Addr) (fd:FuncData),Meth K C m f/\FnOk P w K mg base CX0 n f fd ps sp/\∀ds∈dss,Binds K fd ps ds
section
variable {P:Program}{w:World}{K:Fg}{mg:Str->Option Value}{base:Heap}{n n':Nat}{q m:Str}{C:Addr}{st:Stmt}{ps N:List Str}{sp:Sp}{dss:List (List Value)}
theorem MethIs.mono(D:MethIs P w K e base n C m ps a sp)(h:n<=c):MethIs P w K e base c C m ps a sp:=by
 obtain⟨f,g,M,F,b⟩:=D.ex;exact⟨f,g,M,F.mono h,b⟩
theorem MethIs.of (T:MethTx K q C m st ps j) (S:FnScope N ps (xac st)) (len:∀vs H Q E,sp vs H Q E->vs.length=ps.length)
  (e:∀(f:Addr) (a:Value) (A:Around) (outer:List Env) (s:Shared) (H:Hp) (vs:List V) (Q:VK) (E:XK),Room n (A.deeper (envOfC q (xac st) s.heap.objs.size f a))->sp vs H Q E->
   ∃t,PSs (cxOf CX0 P w K r base N q (xac st) f a A outer s H E).nox (xcw st) t/\t {nx:=λ_ y=>Q .non y,rt:=Q} (xer N vs) H):MethIs P w K r base (n+1) C m ps j sp:=by
 obtain⟨f,I,kV,x,z,J,a,ct,G,od,o,i,p,k,l,c,b⟩:=T.ex;refine⟨f,_,⟨i,p,k⟩,xs9 l c S len λA outer s H vs Q E u g=>?_,b⟩;obtain⟨t,h,q⟩:=e f a A outer s H vs Q E u g;exact⟨t,h.nox,q⟩
end
section
variable {X:Cx}{n:Nat}{x m:Str}{ps:List Str}{sp:Sp}{p pos apos:Pos}{fs:List Str}{C:Addr}{dss:List (List Value)}{ds:List Value}{dvs:List V}{e o:Expr}{es:List Expr}{t:TA}{ta:TE}
theorem xb2 {pl:Sem Bool} (D:MethIs X.prog X.w X.K X.mg X.base n C m ps [[]] sp) (c:Cls X.K C) (p:Room n X.A) (r:PE X o j) (s:PA X (e::es) t)
  (g:starEach (e::es) X.env=(false,eval e X.env)::starEach es X.env:=by rfl) (h:(backTo pos (starEach es X.env)).any (·.1)=false:=by rfl)
  (l:eval (.Call (.Attribute o m a) (e::es) [] pos) X.env=(do
   let i <- eval o X.env
   standAt a.atName
   let (f,first) <- holding [i] (getMethod i m pl)
   callWith pos f first (backTo pos (starEach (e::es) X.env)) (backToKw pos (keywordEach [] X.env))):=by rfl):PE X (.Call (.Attribute o m a) (e::es) [] pos) (xoc C m sp [] E0 j t):=by
 obtain⟨f,u,M,F,b⟩:=D.ex;exact xqp r c M F p (b [] (by simp)) .nil xmp s g h l
theorem xfh {pl:Sem Bool} (D:MethIs X.prog X.w X.K X.mg X.base n C m ps [[]] sp) (c:Cls X.K C) (i:Room n X.A) (j:PE X o g)
  (h:eval (.Call (.Attribute o m a) [] [] pos) X.env=(do
   let e <- eval o X.env
   standAt a.atName
   let (f,first) <- holding [e] (getMethod e m pl)
   callWith pos f first (backTo pos (starEach [] X.env)) (backToKw pos (keywordEach [] X.env))):=by rfl):PE X (.Call (.Attribute o m a) [] [] pos) (xoc C m sp [] E0 g tNil):=by
 obtain⟨f,l,M,F,b⟩:=D.ex;exact xom j c M F i (b [] (by simp)) .nil xmp h
theorem xh2 (D:MethIs X.prog X.w X.K X.mg X.base n (ad X.K x) "__init__" ps dss sp) (M:DTab X.K x fs) (hr:Room (n+1) X.A) (hm:X.mg x=some (.ref (ad X.K x))) (hds:ds∈dss) (hd:Vals dvs ds) (ha:PA X (e::es) t) (hg:Gl X x:=by rfl) (hdb:(x == ("__debug__":Str))=false:=by decide)
  (he:starEach (e::es) X.env=(false,eval e X.env)::starEach es X.env:=by rfl) (hpl:(backTo pos (starEach es X.env)).any (·.1)=false:=by rfl):PE X (.Call (.Name x p) (e::es) [] pos) (xr4 (ad X.K x) sp dvs E0 t):=by
 obtain⟨f,fd,N,F,b⟩:=D.ex;exact xqq ⟨M.ms,N.at_,N.fn,M.kp⟩ F hr hg hm (b ds hds) hd xmp ha hdb he hpl
end
open PySem.W in
def xp6(K:Frag)(x m:Str):Bool:=
 specialIn K (.ref (ad K x)) "__getattribute__" == some (some (.builtin "type.__getattribute__")) && (readsIn K (ad K x) (.type "type") &&
 (match findCls K (.ref (ad K x)) (.type "type") m,findIn K (.ref (ad K x)) m with
  |some (.val a),some (some b)=>a == b
  |_,_=>false))
structure CTab(K:Fg)(x m:Str):Prop where
 ga:PySem.W.specialIn K (.ref (ad K x)) "__getattribute__"=some (some (.builtin "type.__getattribute__"))
 rd:PySem.W.readsIn K (ad K x) (.type "type")=true
 fc:∀f:Addr,PySem.W.findIn K (.ref (ad K x)) m=some (some (.ref f))->PySem.W.findCls K (.ref (ad K x)) (.type "type") m=some (.val (.ref f))
theorem ctab_of{K:Fg}{x m:Str}(e:xp6 K x m=true):CTab K x m:=by
 unfold xp6 at e;simp only[Bool.and_eq_true,beq_iff_eq]at e;obtain⟨l,j,b⟩:=e;refine⟨l,j,λf i=>?_⟩;rw[i]at b
 cases h:PySem.W.findCls K (.ref (ad K x)) (.type "type") m with
 |none=>rw[h]at b;cases b
 | some r=>
  cases r with
  |val a=>
   rw[h]at b;have:a=Value.ref f:=by simpa using b
   rw[this]
  |get g a c n=>rw[h]at b;cases b
section
variable {X:Cx}{n:Nat}{x m:Str}{ps:List Str}{sp:Sp}{p pos apos:Pos}{e:Expr}{es:List Expr}{t:TA}
theorem xon {pl:Sem Bool} (D:MethIs X.prog X.w X.K X.mg X.base n (ad X.K x) m ps [[]] sp) (c:CTab X.K x m) (C:Room n X.A) (G:X.mg x=some (.ref (ad X.K x))) (O:PA X (e::es) t) (J:Gl X x:=by rfl) (l:(x == ("__debug__":Str))=false:=by decide)
  (i:starEach (e::es) X.env=(false,eval e X.env)::starEach es X.env:=by rfl) (j:(backTo pos (starEach es X.env)).any (·.1)=false:=by rfl)
  (z:eval (.Call (.Attribute (.Name x p) m a) (e::es) [] pos) X.env=(do
   let o <- eval (.Name x p) X.env
   standAt a.atName
   let (f,first) <- holding [o] (getMethod o m pl)
   callWith pos f first (backTo pos (starEach (e::es) X.env)) (backToKw pos (keywordEach [] X.env))):=by rfl):PE X (.Call (.Attribute (.Name x p) m a) (e::es) [] pos) (xqf sp [] E0 t):=by
 obtain⟨f,Z,M,F,b⟩:=D.ex;intro g s σ H Q I h;refine PySem.W.methodCall_KW (pl:=pl) (xhc I J G ?_ l) z;refine PySem.W.method_cls I.kIn c.ga (PySem.W.cls_value I.kIn c.rd (c.fc f M.at_) rfl ?_);have U:=I.tok (s.toks+1);refine PySem.W.callWith_K (h₀:=X.base) I.ok.mod.kin M.kp (thn (O pos g _ σ H _ U h) λus Y ⟨vs,H2,u,r,y⟩=>⟨u.kIn,?_⟩) i j;exact xkn F C (b [] (by simp)) .nil xmp u r y
end
section
variable {X:Cx}
theorem xqu:OpR X (compareOp .IsNot) (λx y H Q=>y=.bl false/\∃b,x=.bl b/\Q (.bl b) H):=by
 intro pins s σ H x y v u Q I rx ry h;obtain⟨rfl,b,rfl,q⟩:=h;cases rx;cases ry;cases b <;> exact wpAny_pure (xct I q rfl)
end
theorem ext1{σ:St}{i:Nat}{v:Option V}(h:σ[i]?=some none):Ext σ (σ.set i v):=by
 refine⟨by simp,λn b e=>?_⟩;have a:i≠n:=λz=>by subst z;rw[h]at e;cases e
 rw[List.getElem?_set_ne a];exact e
theorem ext4{σ:St}{i j k l:Nat}{u v w x:Option V}(h:σ[i]?=some none)(o:σ[j]?=some none)(m:σ[k]?=some none)(g:σ[l]?=some none):Ext σ ((((σ.set i u).set j v).set k w).set l x):=by
 refine⟨by simp,λn p e=>?_⟩;have f:i≠n:=λz=>by subst z;rw[h]at e;cases e
 have c:j≠n:=λz=>by subst z;rw[o]at e;cases e
 have b:k≠n:=λz=>by subst z;rw[m]at e;cases e
 have a:l≠n:=λz=>by subst z;rw[g]at e;cases e
 rw[List.getElem?_set_ne a,List.getElem?_set_ne b,List.getElem?_set_ne c,List.getElem?_set_ne f];exact e
theorem xid:∀(kvs acc:List (Key×V)),((acc++kvs).map (·.1)).Nodup->xcx acc kvs=acc++kvs
 |[],acc,_=>by show acc=_;rw[List.append_nil]
 | a::kvs,acc,h=>by
  have hn:(acc.any λp=>decide (p.1=a.1))=false:=by
   rw[List.any_eq_false];intro p b e;rw[zAP,List.nodup_append]at h;exact h.2.2 p.1 (List.mem_map_of_mem b) a.1 (by simp) (of_decide_eq_true e)
  have e:putK acc a.1 a.2=acc++[a]:=by
   unfold putK;rw[if_neg (by rw[hn];decide)]
  show xcx (putK acc a.1 a.2) kvs=_;rw[e,xid kvs (acc++[a]) (by rw[List.append_assoc];exact h),List.append_assoc];rfl
theorem xec{kvs:List (Key×V)}(h:(kvs.map (·.1)).Nodup):xcx [] kvs=kvs:=xid kvs [] h
end L2
end
section
namespace M
open PySem L2
def ArmN(ks:List Kn)(z:Str):Prop:=(∃j,z=byN j)\/∃k∈ks,∃p∈k.parts,p.1=z
def FitK(ks:List Kn)(bs:List (Str×Str))(env:En):Prop:=(∀p∈bs,env p.1=some (.str p.2))/\∀z,ArmN ks z->(∀q∈bs,q.1≠z)->env z=none
theorem FitK.put{ks:List Kn}{bs:List (Str×Str)}{env:En}{y k:Str}(h:FitK ks bs env)(f:∀p∈bs,p.1≠y):FitK ks (bs++[(y,k)]) (env.put y (.str k)):=by
 refine⟨λp a=>?_,λz hz e=>?_⟩
 ·unfold En.put
  rcases zMA a with a |a
  ·rw[if_neg (f p a)];exact h.1 p a
  ·rw[zMO a,if_pos rfl]
 ·unfold En.put
  have b:y≠z:=e (y,k) (by simp);rw[if_neg (Ne.symm b)];exact h.2 z hz λq c=>e q (by simp[c])
def TmK(ks:List Kn)(n:Nat)(bs:List (Str×Str))(d:D)(x:Str):Prop:=∀env,FitK ks bs env->Kd True ks n env d x
def TmB(ks:List Kn)(n:Nat)(bs:List (Str×Str))(d:D)(x:Str):Prop:=TmOk ks n bs d x/\TmK ks n bs d x
theorem xnl{ks:List Kn}{n:Nat}{env:En}{d:D}{x:Str}(h:xn9 env d x):Kd True ks n env d x:=by
 cases n with
 |zero=>exact h
 |succ n=>exact .inl h
theorem xr2{ks:List Kn}{n:Nat}{bs:List (Str×Str)}{i:Int}(h:Nm i):TmB ks n bs (tNum i) (S "num"):=⟨xrx h,λenv _=>xnl (.inl ⟨i,h,rfl,rfl⟩)⟩
theorem xlz{ks:List Kn}{n:Nat}{bs:List (Str×Str)}{y x:Str}(h:(y,x)∈bs):TmB ks n bs (tBox y) x:=⟨xrz h,λenv a=>xnl (.inr ⟨y,a.1 _ h,rfl⟩)⟩
theorem xtm{ks:List Kn}(g:KWf ks){n:Nat}{bs:List (Str×Str)}{s:Str}{a b:D}(hs:Sg s)(f:TmB ks n bs a (S "num"))(e:TmB ks n bs b (S "num")):TmB ks (n+1) bs (tOpD s a b) (S "num"):=
 ⟨xtk g hs f.1 e.1,λenv c=>.inr (.inl ⟨s,a,b,f.2 env c,e.2 env c,rfl,rfl⟩)⟩
theorem xr1{ks:List Kn}{n:Nat}{bs:List (Str×Str)}{x:Str}{k:Kn}{es:List D}(b:kAt ks x=some k)(a:k.rc=true)(c:k.parts.length<=1000)(h:All2 (λe (p:Str×Str)=>TmB ks n bs e p.2) es k.parts):TmB ks (n+1) bs (tRec x es) x:=
 ⟨xrw b a c (h.imp λ_ _ h=>h.1),λenv f=>.inr (.inr (.inl ⟨es,k,b,a,h.imp λ_ _ h=>h.2 env f,rfl⟩))⟩
theorem xjm{k:Kn}{p:Str×Str}(nd:(k.parts.map (·.1)).Nodup)(b:p∈k.parts):xh3 k p.1=some p.2:=by
 unfold xh3;obtain⟨i,hi,e⟩:=zMI b;have:=xdu (f:=λr:Str×Str=>r.1) (xs:=k.parts) (i:=i) (a:=p) nd (by rw[<- e];exact zGA hi);rw[this];rfl
theorem xr3{ks:List Kn}(c:KWf ks){n:Nat}{bs:List (Str×Str)}{y:Str}{k:Kn}{a:D}{p:Str×Str}(b:kAt ks y=some k)(e:k.rc=true)(f:p∈k.parts)(h:TmB ks n bs a y):TmB ks (n+1) bs (tGet a p.1) p.2:=
 ⟨xry c b e f h.1,λenv g=>.inr (.inr (.inr (.inl ⟨a,y,p.1,k,h.2 env g,b,e,xjm (c.pnd k (zMF b)) f,rfl⟩)))⟩
theorem xr0{ks:List Kn}(f:KWf ks){n:Nat}{bs:List (Str×Str)}{x:Str}{k:Kn}{a:D}{p:Str×Str}(b:kAt ks x=some k)(c:k.rc=false)(e:p∈k.parts)(h:TmB ks n bs a p.2):TmB ks (n+1) bs (tTag x p.1 a) x:=
 ⟨xrv b c e h.1,λenv g=>.inr (.inr (.inr (.inr (.inl ⟨p.1,a,k,p.2,b,c,xjm (f.pnd k (zMF b)) e,h.2 env g,rfl⟩))))⟩
theorem xcd{α β:Type}{f:α->β}:∀{l:List α},(l.map f).Nodup->∀{a b:α},a∈l->b∈l->f a=f b->a=b
 |[],_,a,_,i,_,_=>nomatch i
 | c::l,nd,a,b,i,j,e=>by
  rw[List.map_cons,List.nodup_cons]at nd;rcases zMC i with h |h <;> rcases zMC j with g |g
  ·rw[h,g]
  ·rw[h]at e
   exact absurd (by rw[e];exact List.mem_map_of_mem g) nd.1
  ·rw[g]at e
   exact absurd (by rw[<- e];exact List.mem_map_of_mem h) nd.1
  ·exact xcd nd.2 h g e
theorem xqc {ks:List Kn} (j:KWf ks) {n:Nat} {bs:List (Str×Str)} {x y:Str} {k:Kn} {a:D} {rs:List (Str×Str×D)} (m:kAt ks y=some k) (l:k.rc=false) (C:TmB ks n bs a y) (I:rs.length<=1000) (nd:(rs.map (·.1)).Nodup)
  (b:rs.length=k.parts.length) (c:∀r∈rs,∃p∈k.parts,p.1=r.1)
  (h:∀p∈k.parts,∃z e,(p.1,z,e)∈rs/\(∀q∈bs,q.1≠z)/\ArmN ks z/\TmB ks n (bs++[(z,p.2)]) e x):TmB ks (n+1) bs (xlc a rs) x:=by
 have w:=zMF m;refine⟨xqa j m l C.1 I nd λp g=>?_,λenv o=>.inr (.inr (.inr (.inr (.inr (.inl ⟨True.intro,a,rs,y,k,C.2 env o,m,l,?_,b,nd,λr f=>?_,rfl⟩)))))⟩
 ·obtain⟨z,e,u,i,G,s⟩:=h p g
  exact⟨z,e,u,i,s.1⟩
 ·intro e
  have h0:k.parts=[]:=List.eq_nil_of_length_eq_zero (by rw[<- b,e];rfl);exact j.alt k w l h0
 ·obtain⟨p,g,e⟩:=c r f
  obtain⟨z,M,u,i,G,s⟩:=h p g;have J:r=(p.1,z,M):=xcd nd f u e.symm;subst J;exact⟨o.2 z G i,p.2,xjm (j.pnd k w) g,s.2 _ (o.put i)⟩
theorem xtn{ks:List Kn}(i:KWf ks){n:Nat}{bs:List (Str×Str)}{x:Str}{a b c:D}(h:TmB ks n bs a (S "num"))(g:TmB ks n bs b x)(f:TmB ks n bs c x):TmB ks (n+1) bs (tIfD a b c) x:=
 ⟨xtl i h.1 g.1 f.1,λenv e=>.inr (.inr (.inr (.inr (.inr (.inr ⟨a,b,c,h.2 env e,g.2 env e,f.2 env e,rfl⟩)))))⟩
theorem NodeKd.mono{cs:Prop}{ks:List Kn}{R n:RKn}(k:∀env d x,R env d x->n env d x){env:En}{d:D}{x:Str}(h:NodeKd cs ks R env d x):NodeKd cs ks n env d x:=by
 rcases h with⟨s,a,b,e,g,r⟩ |⟨es,i,e,g,j,r⟩ |⟨a,l,f,i,e,r⟩ |⟨t,a,i,l,e,g,j,m,r⟩ |⟨u,a,rs,l,i,e,g,j,m,z,y,w,r⟩ |⟨a,b,c,e,g,j,r⟩
 ·exact .inl ⟨s,a,b,k _ _ _ e,k _ _ _ g,r⟩
 ·exact .inr (.inl ⟨es,i,e,g,j.imp λ_ _ h=>k _ _ _ h,r⟩)
 ·exact .inr (.inr (.inl ⟨a,l,f,i,k _ _ _ e,r⟩))
 ·exact .inr (.inr (.inr (.inl ⟨t,a,i,l,e,g,j,k _ _ _ m,r⟩)))
 ·refine .inr (.inr (.inr (.inr (.inl ⟨u,a,rs,l,i,k _ _ _ e,g,j,m,z,y,λr p=>?_,r⟩))))
  obtain⟨I,o,G,C⟩:=w r p;exact⟨I,o,G,k _ _ _ C⟩
 ·exact .inr (.inr (.inr (.inr (.inr ⟨a,b,c,k _ _ _ e,k _ _ _ g,k _ _ _ j,r⟩))))
theorem xs3{cs:Prop}{ks:List Kn}:∀(n:Nat) (env:En) (d:D) (x:Str),Kd cs ks n env d x->Kd cs ks (n+1) env d x
 |0,_,_,_,h=>.inl h
 |n+1,env,d,x,h=>by
  rcases h with h |h
  ·exact .inl h
  ·exact .inr (h.mono (xs3 n))
theorem xt7{cs:Prop}{ks:List Kn}{n m:Nat}(l:n<=m){env:En}{d:D}{x:Str}(h:Kd cs ks n env d x):Kd cs ks m env d x:=by
 obtain⟨k,rfl⟩:∃k,m=n+k:=⟨m-n,by omega⟩;clear l
 induction k with
 |zero=>exact h
 |succ k a=>exact xs3 _ _ _ _ a
def NoMo(x:Str):Prop:=x≠S "more"
theorem xt4{l:List Nat}(h:l[0]?≠some 109\/l[1]?≠some 111):NoMo (ofL l):=λe=>by
 have:=congrArg L e;rw[xdo,show L (S "more")=[109,111,114,101] by walk_at"k"]at this;subst this;simp at h
theorem xjx{c:Nat}(h:c∈five):c≠109/\c≠111:=by
 revert h;unfold five;simp;omega
theorem xpw{cs:List Nat}(h:∀c∈cs,c∈five)(a:Nat)(b:Int)(k:Nat)(t:List Nat)(i:∀c∈t,c∈five):NoMo (ofL (nmA cs a b k++t)):=by
 apply xt4;unfold nmA
 cases g:cs.take a with
 |nil=>
  right;rw[List.nil_append,List.cons_append,List.getElem?_cons_succ];intro e;have f:=zMG e;rcases zMA f with f |f
  ·exact(xjx (h _ (List.mem_of_mem_drop f))).2 rfl
  ·exact(xjx (i _ f)).2 rfl
 |cons c r=>
  left;intro e;simp at e;have:c∈cs.take a:=by rw[g];simp
  exact(xjx (h c (List.mem_of_mem_take this))).1 e
theorem xq2{cs:List Nat}{a:Nat}{b:Int}(e:∀c∈cs,c∈five):∀z∈((List.range 26).map λk=>ofL (nmA cs a b k)),NoMo z:=λz hz=>by
 obtain⟨k,_,rfl⟩:=zMP hz;have:=xpw e a b k [] (λ_ h=>nomatch h);rw[List.append_nil]at this;exact this
theorem xq0{cs:List Nat}{a:Nat}{b:Int}(f:∀c∈cs,c∈five):∀z∈((List.range 26).map λk=>ofL (nmB cs a b k)),NoMo z:=λz hz=>by
 obtain⟨k,_,rfl⟩:=zMP hz;unfold nmB;exact xpw f a b _ _ λc e=>by rw[List.eq_of_mem_replicate e];decide
theorem DGet.rd{H:Hp}{a:Addr}{kvs:List (Key×V)}{k:Key}(e:Rd H a (.dK kvs)):DGet H a (kV k) (valV kvs k):=.inl ⟨kvs,k,e,rfl,rfl⟩
end M
end
section
namespace L2
open PySem PySem.Spec PySem.W PyProof.Rows M
def EqW(P:Program)(w:World)(A:Around)(s:Shared)(y x:Value):Prop:=∀(E:Value->Shared->Prop) (Q:Bool->Shared->Prop),Q true s->wpAny (model P w) A (eqBool y x) Q E s
theorem xp7 {P:Program} {w:World} {l b:Addr} {us zs:Array Value} {n m:Nat} {I G:Option Addr} {j i:Array (Option Value)} (hz:us.size=zs.size) :
  MeetsIn P w (Builtin.«tuple.__ne__» ⟨[.ref l,.ref b],[]⟩) (λA R s=>s.heap.get? l=some {cls:=.type "tuple",dict:=I,data:=.seq us n,slots:=j}/\s.heap.get? b=some {cls:=.type "tuple",dict:=G,data:=.seq zs m,slots:=i} ∧
   (∀p∈us.toList.zip zs.toList,EqW P w A.in1 s p.1 p.2)/\R (.ok (.ret (.bool false))) s):=
 .of_wp λA R s h=>by
  obtain⟨h0,C,J,g,o⟩:=s;obtain⟨r,z,u,h⟩:=h;have M:=AutoSeq1.sub_tuple_tuple
  wp_walk using AutoSeq1.wpAny_loadPart' r,AutoSeq1.wpAny_loadPart' z,wpAny_forIn_list _ (λrest c s'=>c.1=none/\s'=⟨h0,C,J,g,o⟩/\∀p∈rest,p∈us.toList.zip zs.toList) _
  case turn=>
   rintro⟨y,x⟩ rest c s' ⟨e,rfl,f⟩;refine wpAny_bind (u (y,x) (f _ (by simp)) _ _ ?_)
   wp_walk
   exact⟨rfl,rfl,λp a=>f p (by simp[a])⟩
  case fin=>
   rintro⟨U,O⟩ s' ⟨e,rfl,_⟩;simp only at e;subst e
   wp_walk
   exact⟨_,rfl,by simpa[Builtin.Tuple.tupleCompareSizes,bne,hz] using h⟩
  case h=>exact⟨rfl,rfl,λp a=>a⟩
section
variable {X:Cx}
theorem xk2{P:Program}{w:World}{A:Around}{s:Shared}{y x:Value}(h:SeqAt.EqAt A s y x true):EqW P w A s y x:=λE Q q=>h P w E Q q
end
end L2
end
section
namespace L2
open PySem PySem.Spec PySem.W PyProof.Rows M
open PySem.AutoSeq1 (wpAny_loadPart')
open PySem.MeetsSeq PySem.MeetsSeq2 PySem.MeetsSeq3 PySem.SeqRoads2 PySem.SeqAt
theorem xif {P:Program} {w:World} (l b:Addr) (us zs:Array Value) (n m:Nat) (Y U:Option Addr) (G C:Array (Option Value)) (hz:us.size=zs.size) (c:Bool) (k:Nat) :
  ∀ i:Nat,us.size-i=k->MeetsIn P w (Builtin.«list.__eq__.loop» ⟨[.ref l,.ref b,rawInt i,rawInt (if c=true then 2 else 3)],[]⟩)
   (λA R s=>s.heap.get? l=some {cls:=.type "list",dict:=Y,data:=.seq us n,slots:=G}/\s.heap.get? b=some {cls:=.type "list",dict:=U,data:=.seq zs m,slots:=C} ∧
    (∀j (h1:j<us.size) (Z:j<zs.size),EqW P w A.in1 s us[j] zs[j])/\R (.ok (.ret (.bool c))) s):=by
 induction k with
 | zero=>
  intro i O A R s h;obtain⟨M,g,d,z,I⟩:=s;obtain⟨p,r,x,h⟩:=h;have f:us[((i:Nat):Int).toNat]?=none:=by simp;omega
  have e:zs[((i:Nat):Int).toNat]?=none:=by simp;omega
  cases c with
  |true=>
   simp only[if_true]
   wp_walk using wpAny_loadPart' p,wpAny_loadPart' r
   rw[f,e]
   wp_walk using wpAny_loadPart' p,wpAny_loadPart' r
   show R (.ok (.ret (.bool (us.size == zs.size)))) _;rw[hz];simpa using h
  |false=>
   simp only[Bool.false_eq_true,if_false]
   wp_walk using wpAny_loadPart' p,wpAny_loadPart' r
   rw[f,e]
   wp_walk using wpAny_loadPart' p,wpAny_loadPart' r
   show R (.ok (.ret (.bool (us.size != zs.size)))) _;rw[hz];simpa using h
 | succ k J=>
  intro i O A R s h;obtain⟨M,g,d,z,I⟩:=s;obtain⟨p,r,x,h⟩:=h;have u:i<us.size:=by omega
  have a:i<zs.size:=by omega
  have f:us[((i:Nat):Int).toNat]?=some us[i]:=by simp[u]
  have e:zs[((i:Nat):Int).toNat]?=some zs[i]:=by simp[a]
  have y:((i:Int)+1)=((i+1:Nat):Int):=by push_cast;rfl
  have o:=J (i+1) (by omega)
  cases c with
  | true=>
   simp only[if_true]at o⊢
   wp_walk using wpAny_loadPart' p,wpAny_loadPart' r
   rw[f,e];refine wpAny_bind (x i u a _ _ ?_)
   wp_walk
   rw[y]
   exact⟨plainId_quiet plain_eq_loop _,codeAny_builtin entry_eq_loop (by
    rw[Around.under_plainId plain_eq_loop _];exact o A R _ ⟨p,r,x,h⟩)⟩
  | false=>
   simp only[Bool.false_eq_true,if_false]at o⊢
   wp_walk using wpAny_loadPart' p,wpAny_loadPart' r
   rw[f,e];refine wpAny_bind (x i u a _ _ ?_)
   wp_walk
   rw[y]
   exact⟨plainId_quiet plain_eq_loop _,codeAny_builtin entry_eq_loop (by
    rw[Around.under_plainId plain_eq_loop _];exact o A R _ ⟨p,r,x,h⟩)⟩
theorem xq8 {P:Program} {w:World} {l b:Addr} {us zs:Array Value} {n m:Nat} {o i:Option Addr} {c a:Array (Option Value)} (hz:us.size=zs.size) :
  MeetsIn P w (Builtin.«list.__eq__» ⟨[.ref l,.ref b],[]⟩)
   (λA R s=>s.heap.get? l=some {cls:=.type "list",dict:=o,data:=.seq us n,slots:=c}/\s.heap.get? b=some {cls:=.type "list",dict:=i,data:=.seq zs m,slots:=a} ∧
    (∀j (C:j<us.size) (z:j<zs.size),EqW P w A.in1 s us[j] zs[j])/\R (.ok (.ret (.bool true))) s):=by
 intro A R s h;obtain⟨y,g,d,u,x⟩:=s;obtain⟨e,f,r,h⟩:=h;have G:=AutoSeq1.sub_list_list;have p:¬(us.size != zs.size)=true:=by simp[hz]
 wp_walk using wpAny_loadPart' e,wpAny_loadPart' f
 exact⟨plainId_quiet plain_eq_loop _,codeAny_builtin entry_eq_loop (by
  rw[Around.under_plainId plain_eq_loop _];exact xif l b us zs n m o i c a hz true _ 0 rfl A R _ ⟨e,f,r,h⟩)⟩
theorem xq7 {P:Program} {w:World} {l b:Addr} {us zs:Array Value} {n m:Nat} {o i:Option Addr} {c a:Array (Option Value)} (hz:us.size=zs.size) :
  MeetsIn P w (Builtin.«list.__ne__» ⟨[.ref l,.ref b],[]⟩)
   (λA R s=>s.heap.get? l=some {cls:=.type "list",dict:=o,data:=.seq us n,slots:=c}/\s.heap.get? b=some {cls:=.type "list",dict:=i,data:=.seq zs m,slots:=a} ∧
    (∀j (C:j<us.size) (z:j<zs.size),EqW P w A.in1 s us[j] zs[j])/\R (.ok (.ret (.bool false))) s):=by
 intro A R s h;obtain⟨y,g,d,u,x⟩:=s;obtain⟨e,f,r,h⟩:=h;have G:=AutoSeq1.sub_list_list;have p:¬(us.size != zs.size)=true:=by simp[hz]
 wp_walk using wpAny_loadPart' e,wpAny_loadPart' f
 exact⟨plainId_quiet plain_eq_loop _,codeAny_builtin entry_eq_loop (by
  rw[Around.under_plainId plain_eq_loop _];exact xif l b us zs n m o i c a hz false _ 0 rfl A R _ ⟨e,f,r,h⟩)⟩
theorem xp8 {P:Program} {w:World} {l b:Addr} {us zs:Array Value} {n m:Nat} {I G:Option Addr} {j i:Array (Option Value)} (hz:us.size=zs.size) :
  MeetsIn P w (Builtin.«tuple.__eq__» ⟨[.ref l,.ref b],[]⟩) (λA R s=>s.heap.get? l=some {cls:=.type "tuple",dict:=I,data:=.seq us n,slots:=j}/\s.heap.get? b=some {cls:=.type "tuple",dict:=G,data:=.seq zs m,slots:=i} ∧
   (∀p∈us.toList.zip zs.toList,EqW P w A.in1 s p.1 p.2)/\R (.ok (.ret (.bool true))) s):=
 .of_wp λA R s h=>by
  obtain⟨h0,C,J,g,o⟩:=s;obtain⟨r,z,u,h⟩:=h;have M:=AutoSeq1.sub_tuple_tuple
  wp_walk using AutoSeq1.wpAny_loadPart' r,AutoSeq1.wpAny_loadPart' z,wpAny_forIn_list _ (λrest c s'=>c.1=none/\s'=⟨h0,C,J,g,o⟩/\∀p∈rest,p∈us.toList.zip zs.toList) _
  case turn=>
   rintro⟨y,x⟩ rest c s' ⟨e,rfl,f⟩;refine wpAny_bind (u (y,x) (f _ (by simp)) _ _ ?_)
   wp_walk
   exact⟨rfl,rfl,λp a=>f p (by simp[a])⟩
  case fin=>
   rintro⟨U,O⟩ s' ⟨e,rfl,_⟩;simp only at e;subst e
   wp_walk
   exact⟨_,rfl,by simpa[Builtin.Tuple.tupleCompareSizes,hz] using h⟩
  case h=>exact⟨rfl,rfl,λp a=>a⟩
end L2
end
section
namespace L2
open PySem PySem.Spec PySem.W PyProof.Rows M
open PySem.SeqAt
abbrev opC(c:Bool):CmpOp:=if c=true then .Eq else .NotEq
def RcW(P:Program)(w:World)(A:Around)(s:Shared)(c:Bool)(y x:Value):Prop:=∀(E:Value->Shared->Prop) (Q:Value->Shared->Prop),Q (.bool c) s->wpAny (model P w) A (compareOp (opC c) y x) Q E s
theorem xny{P:Program}{w:World}{A:Around}{s:Shared}{a b:Addr}(h:RcW P w A s true (.ref a) (.ref b)):EqW P w A s (.ref a) (.ref b):=by
 by_cases e:a=b
 ·subst e
  exact xk2 (EqAt.same _)
 intro E Q q;unfold eqBool;refine wpAny_holding ?_;refine wpAny_ite_split (λc=>absurd (by have:=eq_of_beq c;injection this) e) (λ_=>?_);exact wpAny_bind (h E _ (wpAny_truthy_bool q))
def EqA(H:Hp)(x y:V):Prop:=(∃d:D,RelD H x d/\RelD H y d/\d.deep<=100)\/∃a b us zs ds,x=.ref a/\y=.ref b/\H a=some (.lst us)/\H b=some (.lst zs)/\RelDs H us ds/\RelDs H zs ds/\xft ds<=100
def EqS(H:Hp):Nat->V->V->Prop
 |0,x,y=>EqA H x y
 |n+1,x,y=>EqS H n x y\/(∃a b us zs,x=.ref a/\y=.ref b/\((H a=some (.tup us)/\H b=some (.tup zs))\/(H a=some (.lst us)/\H b=some (.lst zs)))/\us.length=zs.length/\∀(i:Nat) u z,us[i]?=some u->zs[i]?=some z->EqS H n u z) ∨
  ∃a b,∃k1 k2:List (Key×V),x=.ref a/\y=.ref b/\H a=some (.dK k1)/\H b=some (.dK k2)/\k1.length=k2.length/\∀p∈k1,∃v,valV k2 p.1=some v/\EqA H p.2 v
theorem EqS.mono{H:Hp}{n:Nat}{x y:V}(h:EqS H n x y):∀m,EqS H (n+m) x y
 |0=>h
 |m+1=>.inl (EqS.mono h m)
theorem EqS.dat{H:Hp}{n:Nat}{x y:V}(h:EqA H x y):EqS H n x y:=by
 have:=EqS.mono (n:=0) h n
 rwa[Nat.zero_add]at this
section
variable {X:Cx}{pins:List (Addr×Obj)}{σ:St}{H:Hp}{s:Shared}{A:Around}
theorem xq9 (I:Inv X O σ H s) {a b:Addr} {us zs:List V} (ha:H a=some (.lst us)) (hb:H b=some (.lst zs)) (hl:us.length=zs.length) (U:A.units<cLine)
  (he:∀(i:Nat) u z (G C:Value),us[i]?=some u->zs[i]?=some z->RelV u G->RelV z C->EqW X.prog X.w A.in1 s G C) (c:Bool):RcW X.prog X.w A s c (.ref a) (.ref b):=by
 intro E Q q;obtain⟨p,M,o1,_⟩:=I.list (SqL.of (K:=X.K) ha);obtain⟨o,J,o2,_⟩:=I.list (SqL.of (K:=X.K) hb);have e1:=M.length;have e2:=J.length;have hi:=o1.isList;have r:=o2.isList;obtain⟨⟨cls,dd,data,sl⟩,f,Y,n,hd⟩:=id hi;obtain⟨⟨a0,a2,y,a1⟩,e,m,n2,l⟩:=id r;simp only at Y hd m l;subst Y hd m l;have g:Value.bool c≠Value.notImplemented:=λx=>nomatch x;have hz:p.toArray.size=o.toArray.size:=by simp only[List.size_toArray];omega
 have h:∀j (h1:j<p.toArray.size) (Z:j<o.toArray.size),EqW X.prog X.w A.in1 s p.toArray[j] o.toArray[j]:=λj h1 Z=>by
  obtain⟨x1,f1,g1⟩:=xeq M h1;obtain⟨x2,f2,g2⟩:=xeq J Z;exact he j x1 x2 _ _ f1 f2 g1 g2
 cases c with
 |true=>exact wpAny_richCompare_same_room (op:=.Eq) ⟨_,f,rfl⟩ ⟨_,e,rfl⟩ PySem.F.slot_list_eq (call_meetsIn PySem.F.slot_list_eq ⟨_,f,rfl⟩ PySem.F.entry_list_eq (PySem.F.args_list_eq_2 _ _) (xq8 hz) ⟨f,e,h,g,q⟩) U
 |false=>exact wpAny_richCompare_same_room (op:=.NotEq) ⟨_,f,rfl⟩ ⟨_,e,rfl⟩ PySem.F.slot_list_ne (call_meetsIn PySem.F.slot_list_ne ⟨_,f,rfl⟩ PySem.F.entry_list_ne (PySem.F.args_list_ne_2 _ _) (xq7 hz) ⟨f,e,h,g,q⟩) U
theorem xp9 (I:Inv X Y σ H s) {a b:Addr} {us zs:List V} (ha:H a=some (.tup us)) (hb:H b=some (.tup zs)) (hl:us.length=zs.length) (Z:A.units<cLine)
  (he:∀(i:Nat) u z (M J:Value),us[i]?=some u->zs[i]?=some z->RelV u M->RelV z J->EqW X.prog X.w A.in1 s M J) (c:Bool):RcW X.prog X.w A s c (.ref a) (.ref b):=by
 intro E Q q;obtain⟨y,U,p1,_⟩:=I.tuple (SqT.of (K:=X.K) ha);obtain⟨r,O,p2,_⟩:=I.tuple (SqT.of (K:=X.K) hb);have e1:=U.length;have e2:=O.length;obtain⟨⟨cls,dd,data,sl⟩,g,hc,n,hd⟩:=id p1;obtain⟨⟨a0,a2,G,a1⟩,f,o,n2,m⟩:=id p2;simp only at hc hd o m;subst hc hd o m;have h:Value.bool c≠Value.notImplemented:=λx=>nomatch x;have hz:y.toArray.size=r.toArray.size:=by simp only[List.size_toArray];omega
 have l:∀p∈y.toArray.toList.zip r.toArray.toList,EqW X.prog X.w A.in1 s p.1 p.2:=λp hp=>by
  obtain⟨j,C,e⟩:=zMI hp;rw[List.length_zip]at C;have h1:j<y.toArray.size:=by simp at C⊢;omega
  have h2:j<r.toArray.size:=by simp at C⊢;omega
  obtain⟨x1,f1,g1⟩:=xeq U h1;obtain⟨x2,f2,g2⟩:=xeq O h2;rw[<- e,List.getElem_zip];exact he j x1 x2 _ _ f1 f2 (by simpa using g1) (by simpa using g2)
 cases c with
 |true=>exact wpAny_richCompare_same_room (op:=.Eq) ⟨_,g,rfl⟩ ⟨_,f,rfl⟩ PySem.F.slot_tuple_eq (call_meetsIn PySem.F.slot_tuple_eq ⟨_,g,rfl⟩ PySem.F.entry_tuple_eq (PySem.F.args_tuple_eq_2 _ _) (xp8 hz) ⟨g,f,l,h,q⟩) Z
 |false=>exact wpAny_richCompare_same_room (op:=.NotEq) ⟨_,g,rfl⟩ ⟨_,f,rfl⟩ PySem.F.slot_tuple_ne (call_meetsIn PySem.F.slot_tuple_ne ⟨_,g,rfl⟩ PySem.F.entry_tuple_ne (PySem.F.args_tuple_ne_2 _ _) (xp7 hz) ⟨g,f,l,h,q⟩) Z
theorem xp4(I:Inv X r σ H s){x y:V}{u v:Value}(h:EqA H x y)(l:RelV x u)(i:RelV y v)(hu:A.units+110<cLine):EqAt A s u v true:=by
 rcases h with⟨d,g,f,hd⟩ |⟨a,b,us,zs,ds,rfl,rfl,Y,U,n,m,hd⟩
 ·exact xnx I 100 d hd g f l i (by omega)
 ·obtain rfl:u=.ref a:=l
  obtain rfl:v=.ref b:=i;by_cases c:a=b
  ·subst c
   exact EqAt.same _
  obtain⟨O,p,G,_⟩:=I.list (SqL.of (K:=X.K) Y);obtain⟨i2,o,C,_⟩:=I.list (SqL.of (K:=X.K) U);have e1:=p.length;have e2:=o.length;have e3:=n.length;have e4:=m.length;have:=EqAt.of_refs c (RcAt.lists (A:=A) (e:=λ_=>true) G.isList C.isList (by simp only[List.size_toArray];omega) (by omega) λj g f=>?_)
  ·have e:(List.range O.toArray.size).all (λ_=>true)=true:=by simp
   rw[e]at this;exact this
  ·obtain⟨x1,f1,g1⟩:=xeq p g
   obtain⟨x2,f2,Z⟩:=xeq o f;obtain⟨d1,z,M⟩:=n.get f1;obtain⟨d2,w,J⟩:=m.get f2;rw[z]at w;cases w;exact xnx I 100 d1 (Nat.le_trans (xdm (zMG z)) hd) M J g1 Z (by show A.units+1+100<cLine;omega)
theorem xk3(I:Inv X i σ H s)(l:A.units+110<cLine){j:List (Key×V)}{a:List (Key×Value)}(h:KV j a):∀(ks:List (Key×V)) (us:List (Key×Value)),KV ks us->(∀p∈ks,∃v,valV j p.1=some v/\EqA H p.2 v)->KeqHits A s a us true
 |[],us,r,_=>by cases r;exact .nil
 | k::ks,us,r,hd=>by
  cases r with
  | @cons _ m _ f w n=>
   obtain⟨v,z,x⟩:=hd k (by simp);have c:=h.val k.1;rw[z]at c
   cases g:valueAt a k.1 with
   |none=>rw[g]at c;exact c.elim
   |some y=>
    rw[g]at c;obtain⟨G,C⟩:=m;obtain⟨rfl,u⟩:=w;have:=KeqHits.hit (e:=true) (b:=true) g (xp4 I x u c l) (xk3 I l h ks f n λp o=>hd p (List.mem_cons_of_mem _ o));exact this
theorem xtd (I:Inv X o σ H s) {a b:Addr} {m n:List (Key×V)} (C:H a=some (.dK m)) (y:H b=some (.dK n)) (M:m.length=n.length) (J:A.units+111<cLine)
  (x:∀p∈m,∃v,valV n p.1=some v/\EqA H p.2 v) (c:Bool):RcW X.prog X.w A s c (.ref a) (.ref b):=by
 intro E Q q;obtain⟨z,j,vs,h,u⟩:=xrm I.hok C;obtain⟨G,i,g,e,l⟩:=xrm I.hok y;have U:=h.length;have O:=e.length;have f:=xk3 (A:=A.in1) I (by show A.units+1+110<cLine;omega) e m vs h x;have r:(vs.length == g.length && true)=true:=by rw[show vs.length=g.length by omega];simp
 cases c with
 |true=>exact keq_eq j i u l (by omega) (λ_=>f) (by rw[r];exact q)
 |false=>exact keq_ne j i u l (by omega) (λ_=>f) (by rw[r];exact q)
theorem xrk(I:Inv X r σ H s):∀(n:Nat) {x y:V} {u v:Value} {A:Around},EqS H n x y->RelV x u->RelV y v->A.units+120+n<cLine->EqW X.prog X.w A s u v
 |0,x,y,u,v,A,h,e,c,C=>xk2 (xp4 I h e c (by omega))
 | n+1,x,y,u,v,A,h,e,c,C=>by
  rcases h with h |⟨a,b,us,zs,rfl,rfl,h,l,p⟩ |⟨a,b,Y,U,rfl,rfl,j,g,l,p⟩
  ·exact xrk I n h e c (by omega)
  ·obtain rfl:u=.ref a:=e
   obtain rfl:v=.ref b:=c;have f:∀(i:Nat) u z (o m:Value),us[i]?=some u->zs[i]?=some z->RelV u o->RelV z m->EqW X.prog X.w A.in1 s o m:=λi u z o m O M J G=>xrk I n (p i u z O M) J G (by show A.units+1+120+n<cLine;omega);rcases h with⟨j,g⟩ |⟨j,g⟩
   ·exact xny (xp9 I j g l (by omega) f true)
   ·exact xny (xq9 I j g l (by omega) f true)
  ·obtain rfl:u=.ref a:=e
   obtain rfl:v=.ref b:=c;exact xny (xtd I j g l (by omega) p true)
def rEqZ(c:Bool):R2:=λx y H Q=>EqS H 12 x y/\(∃a b,x=.ref a/\y=.ref b)/\Q (.bl c) H
theorem rcS(I:Inv X a0 σ H s)(c:Bool):∀(n:Nat) {a b:Addr} {A:Around},EqS H n (.ref a) (.ref b)->A.units+120+n<cLine->RcW X.prog X.w A s c (.ref a) (.ref b)
 | 0,a,b,A,h,hA=>by
  rcases h with⟨d,x,Z,hd⟩ |⟨a',b',us,zs,ds,j,g,f,e,p,o,hd⟩
  ·cases d with
   |int i=>exact nomatch x
   |str z=>exact nomatch x
   |tup ds=>
    obtain⟨a',us,j,f,p⟩:=x;obtain⟨b',zs,g,e,o⟩:=Z;cases j;cases g;refine xp9 I f e (by rw[p.length,o.length]) (by omega) (λi u z m l J G U O=>?_) c;obtain⟨d1,C,g1⟩:=p.get J;obtain⟨d2,y,g2⟩:=o.get G;rw[C]at y;cases y;have h':xft ds+1<=100:=hd;exact xk2 (xnx I 100 d1 (Nat.le_trans (xdm (zMG C)) (by omega)) g1 g2 U O (by show A.units+1+100<cLine;omega))
  ·cases j
   cases g;refine xq9 I f e (by rw[p.length,o.length]) (by omega) (λi u z m l J G U O=>?_) c;obtain⟨d1,C,g1⟩:=p.get J;obtain⟨d2,y,g2⟩:=o.get G;rw[C]at y;cases y;exact xk2 (xnx I 100 d1 (Nat.le_trans (xdm (zMG C)) hd) g1 g2 U O (by show A.units+1+100<cLine;omega))
 | n+1,a,b,A,h,hA=>by
  rcases h with h |⟨a',b',us,zs,j,g,h,M,Y⟩ |⟨a',b',J,G,j,g,f,e,M,Y⟩
  ·exact rcS I c n h (by omega)
  ·cases j
   cases g;have r:∀(i:Nat) u z (m l:Value),us[i]?=some u->zs[i]?=some z->RelV u m->RelV z l->EqW X.prog X.w A.in1 s m l:=λi u z m l x Z h3 h4=>xrk I n (Y i u z x Z) h3 h4 (by show A.units+1+120+n<cLine;omega);rcases h with⟨f,e⟩ |⟨f,e⟩
   ·exact xp9 I f e M (by omega) r c
   ·exact xq9 I f e M (by omega) r c
  ·cases j
   cases g;exact xtd I f e M (by omega) Y c
theorem xsu(j:X.A.units+200<cLine)(c:Bool):OpR X (compareOp (opC c)) (rEqZ c):=by
 intro e s σ H x y v u Q I g f h;obtain⟨i,⟨a,b,rfl,rfl⟩,q⟩:=h;obtain rfl:v=.ref a:=g;obtain rfl:u=.ref b:=f;exact rcS I c 12 i (by omega) _ _ ⟨.bl c,H,I,rfl,q⟩
theorem xmr(a:X.A.units+200<cLine):OpR X (compareOp .Eq) (rEqZ true):=xsu a true
end
end L2
end
section
namespace M
open PySem L2
inductive Row where
 |set (x:Str) (t:D)
 |send (c:Str) (t:D)
 |take (l c x:Str)
 |tell (t:D)
 |go (g:Nat)
 |cond (t:D) (g:Nat)
 |fin
def Row.hd:Row->Str
 |.set _ _=>S "set"
 |.send _ _=>S "send"
 |.take _ _ _=>S "take"
 |.tell _=>S "tell"
 |.go _=>S "go"
 |.cond _ _=>S "if"
 |.fin=>S "end"
def Row.as:Row->List D
 |.set x t=>[.str x,t]
 |.send c t=>[.str c,t]
 |.take l c x=>[.str l,.str c,.str x]
 |.tell t=>[t]
 |.go g=>[.int g]
 |.cond t g=>[t,.int g]
 |.fin=>[]
def Row.d(r:Row):D:=.tup (.str r.hd::r.as)
abbrev Chn:=Str×Str×Str×Str
def dChn(c:Chn):D:=.tup [.str c.1,.str c.2.1,.str c.2.2.1,.str c.2.2.2]
structure Hand where
 name:Str
 boxes:List (Str×Str)
 rows:List Row
def Hand.d(h:Hand):D:=.tup [.str h.name,xdg h.boxes,.tup (h.rows.map Row.d)]
structure Mak where
 kinds:List Kn
 chans:List Chn
 hands:List Hand
def Mak.d(m:Mak):D:=.tup [xdn m.kinds,.tup (m.chans.map dChn),.tup (m.hands.map Hand.d)]
def xeh(m:Mak)(x:Str):Option Hand:=m.hands.find? λh=>decide (h.name=x)
def xeu(ks:List Kn)(cs:List Chn)(h:Str)(bs:List (Str×Str))(n:Nat):Row->Prop
 |.set x t=>∃k,(x,k)∈bs/\TmOk ks 21 bs t k
 |.send c t=>∃ch∈cs,ch.1=c/\ch.2.1=h/\TmOk ks 21 bs t ch.2.2.2
 |.take _ c x=>∃ch∈cs,ch.1=c/\ch.2.2.1=h/\(x,ch.2.2.2)∈bs
 |.tell t=>TmOk ks 21 bs t (S "num")
 |.go g=>g<n
 |.cond t g=>TmOk ks 21 bs t (S "num")/\g<n
 |.fin=>True
def Row.ends:Row->Prop
 |.go _=>True
 |.fin=>True
 |_=>False
structure HandOk(ks:List Kn)(cs:List Chn)(h:Hand):Prop where
 nd:(h.boxes.map (·.1)).Nodup
 few:h.boxes.length<=5
 kin:∀b∈h.boxes,KIn ks 6 b.2
 len:h.rows.length<=30
 ok:∀r∈h.rows,xeu ks cs h.name h.boxes h.rows.length r
 last:∃r,h.rows.getLast?=some r/\r.ends
structure MakOk(m:Mak):Prop where
 wf:KWf m.kinds
 cnd:(m.chans.map (·.1)).Nodup
 cfew:m.chans.length<=6
 ckin:∀c∈m.chans,KIn m.kinds 6 c.2.2.2
 hnd:(m.hands.map Hand.name).Nodup
 hfew:m.hands.length<=4
 hok:∀h∈m.hands,HandOk m.kinds m.chans h
def putA(bx:List (Str×D))(x:Str)(d:D):List (Str×D):=
 if (bx.any λb=>decide (b.1=x))=true then bx.map (λb=>if b.1=x then (b.1,d) else b) else bx++[(x,d)]
def enOf(bx:List (Str×D)):En:=λx=>(bx.find? λb=>decide (b.1=x)).map (·.2)
def KvD(H:Hp):List (Key×V)->List (Str×D)->Prop
 |[],[]=>True
 |kv::kvs,b::bs=>kv.1=Sum.inr b.1/\RelD H kv.2 b.2/\KvD H kvs bs
 |_,_=>False
theorem KvD.tups{H a:Hp}(s:∀b vs,H b=some (.tup vs)->a b=some (.tup vs)):∀{kvs:List (Key×V)} {bx:List (Str×D)},KvD H kvs bx->KvD a kvs bx
 |[],[],_=>trivial
 |g::kvs,b::bs,⟨f,e,c⟩=>⟨f,e.tups s _,KvD.tups s c⟩
 |[],_::_,h=>h.elim
 |_::_,[],h=>h.elim
theorem KvD.length{H:Hp}:∀{kvs:List (Key×V)} {bx:List (Str×D)},KvD H kvs bx->kvs.length=bx.length
 |[],[],_=>rfl
 |c::kvs,b::bs,⟨_,_,a⟩=>by rw[List.length_cons,List.length_cons,KvD.length a]
 |[],_::_,h=>h.elim
 |_::_,[],h=>h.elim
theorem KvD.keys{H:Hp}:∀{kvs:List (Key×V)} {bx:List (Str×D)},KvD H kvs bx->kvs.map (·.1)=bx.map λb=>(Sum.inr b.1:Key)
 |[],[],_=>rfl
 |e::kvs,b::bs,⟨c,_,a⟩=>by rw[List.map_cons,List.map_cons,KvD.keys a,c]
 |[],_::_,h=>h.elim
 |_::_,[],h=>h.elim
theorem KvD.snoc{H:Hp}{v:V}{x:Str}{d:D}(r:RelD H v d):∀{kvs:List (Key×V)} {bx:List (Str×D)},KvD H kvs bx->KvD H (kvs++[(Sum.inr x,v)]) (bx++[(x,d)])
 |[],[],_=>⟨rfl,r,trivial⟩
 |f::kvs,b::bs,⟨e,c,a⟩=>⟨e,c,KvD.snoc r a⟩
 |[],_::_,h=>h.elim
 |_::_,[],h=>h.elim
theorem xrc{a b:Str}:((Sum.inr a:Key)=Sum.inr b)=(a=b):=propext ⟨λh=>Sum.inr.inj h,λh=>congrArg _ h⟩
theorem KvD.any{H:Hp}{x:Str}:∀{kvs:List (Key×V)} {bx:List (Str×D)},KvD H kvs bx->(kvs.any λa=>decide (a.1=Sum.inr x))=bx.any λb=>decide (b.1=x)
 |[],[],_=>rfl
 |a::kvs,b::bs,⟨e,_,c⟩=>by
  rw[List.any_cons,List.any_cons,KvD.any c,e];simp only[xrc]
 |[],_::_,h=>h.elim
 |_::_,[],h=>h.elim
theorem KvD.map{H:Hp}{v:V}{x:Str}{d:D}(r:RelD H v d):∀{kvs:List (Key×V)} {bx:List (Str×D)},KvD H kvs bx->KvD H (kvs.map λc=>if c.1=Sum.inr x then (c.1,v) else c) (bx.map λb=>if b.1=x then (b.1,d) else b)
 |[],[],_=>trivial
 | c::kvs,b::bs,⟨a,g,f⟩=>by
  refine⟨?_,?_,KvD.map r f⟩ <;> dsimp only
  ·by_cases e:b.1=x
   ·rw[if_pos (by rw[a,e]),if_pos e];exact a
   ·rw[if_neg (by rw[a];exact λz=>e (Sum.inr.inj z)),if_neg e];exact a
  ·by_cases e:b.1=x
   ·rw[if_pos (by rw[a,e]),if_pos e];exact r
   ·rw[if_neg (by rw[a];exact λz=>e (Sum.inr.inj z)),if_neg e];exact g
 |[],_::_,h=>h.elim
 |_::_,[],h=>h.elim
theorem KvD.put{H:Hp}{v:V}{x:Str}{d:D}{kvs:List (Key×V)}{bx:List (Str×D)}(h:KvD H kvs bx)(r:RelD H v d):KvD H (putK kvs (Sum.inr x) v) (putA bx x d):=by
 unfold putK putA;rw[h.any];split
 ·exact h.map r
 ·exact h.snoc r
theorem KvD.val{H:Hp}{x:Str}:∀{kvs:List (Key×V)} {bx:List (Str×D)},KvD H kvs bx->(enOf bx x=none->valV kvs (Sum.inr x)=none)/\∀d,enOf bx x=some d->∃v,valV kvs (Sum.inr x)=some v/\RelD H v d
 |[],[],_=>⟨λ_=>rfl,λd e=>by cases e⟩
 | j::kvs,b::bs,⟨c,i,g⟩=>by
  have f:=KvD.val (x:=x) g;by_cases e:b.1=x
  ·have a:enOf (b::bs) x=some b.2:=by unfold enOf;rw[List.find?_cons,zDT e];rfl
   rw[a,xb6 (by rw[c,e])];exact⟨λz=>(by cases z),λd z=>⟨_,rfl,by cases z;exact i⟩⟩
  ·have a:enOf (b::bs) x=enOf bs x:=by unfold enOf;rw[List.find?_cons,zDF e]
   rw[a,xb7 (by rw[c];exact λz=>e (Sum.inr.inj z))];exact f
 |[],_::_,h=>h.elim
 |_::_,[],h=>h.elim
theorem KvD.en{H:Hp}{p:Addr}{kvs:List (Key×V)}{bx:List (Str×D)}{m:Nat}(a:H p=some (.dK kvs))(h:KvD H kvs bx)(b:bx.length<=m):EnAt H p m (enOf bx):=
 ⟨kvs,a,by rw[h.length];exact b,λx=>h.val⟩
theorem xtc(bx:List (Str×D))(x:Str)(d:D):enOf (putA bx x d)=(enOf bx).put x d:=by
 funext y
 unfold En.put enOf putA;split
 ·rename_i h
  induction bx with
  |nil=>simp at h
  | cons b bs j=>
   rw[List.map_cons,List.find?_cons,List.find?_cons];by_cases e:b.1=x
   ·rw[if_pos e]
    by_cases a:y=x
    ·subst a
     rw[if_pos rfl,zDT e];rfl
    ·have l:¬b.1=y:=λz=>a (z.symm.trans e)
     rw[if_neg a,zDF l];show(List.find? _ (bs.map _)).map _=(List.find? _ bs).map _;by_cases f:(bs.any λb=>decide (b.1=x))=true
     ·have:=j f
      rw[if_neg a]at this;exact this
     ·have c:∀z∈bs,¬z.1=x:=λz hz i=>f (List.any_eq_true.mpr ⟨z,hz,zDT i⟩)
      rw[List.map_congr_left (g:=id) λz hz=>by rw[if_neg (c z hz)];rfl,List.map_id]
   ·rw[if_neg e]
    have f:(bs.any λb=>decide (b.1=x))=true:=by
     rw[List.any_cons,zDF e,Bool.false_or]at h;exact h
    by_cases a:b.1=y
    ·rw[zDT a,if_neg (λz=>e (a.trans z))]
    ·rw[zDF a]
     exact j f
 ·rename_i h
  have c:∀z∈bx,¬z.1=x:=λz hz i=>h (List.any_eq_true.mpr ⟨z,hz,zDT i⟩);rw[List.find?_append];by_cases a:y=x
  ·subst a
   rw[if_pos rfl,List.find?_eq_none.mpr λz hz=>by simpa using c z hz];simp
  ·rw[if_neg a,List.find?_singleton,zDF (λz=>a z.symm)]
   simp
theorem xhy{bx:List (Str×D)}{x:Str}{d:D}(h:x∈bx.map (·.1)):(putA bx x d).map (·.1)=bx.map (·.1):=by
 unfold putA;obtain⟨b,a,e⟩:=zMP h;rw[if_pos (List.any_eq_true.mpr ⟨b,a,zDT e⟩),List.map_map]
 exact List.map_congr_left λz _=>by
  show(if z.1=x then (z.1,d) else z).1=z.1;split <;> rfl
theorem xpa{a b:Str}{r c:List D}(h:a≠b):D.tup (.str a::r)≠D.tup (.str b::c):=λe=>h (D.str.inj (List.cons.inj (D.tup.inj e)).1)
theorem xik{env:En}{d v a:D}(h:xd3 env d v)(h':xd3 env d a):v=a:=by
 rcases h with⟨n,rfl,rfl⟩ |⟨x,c,rfl⟩ <;> rcases h' with⟨m,e,rfl⟩ |⟨y,b,e⟩
 ·cases e
  rfl
 ·exact absurd e (xpa (by walk_at"k"))
 ·exact absurd e (xpa (by walk_at"k"))
 ·cases e
  rw[c]at b;exact Option.some.inj b
theorem xil{ks:List Kn}{R:En->D->D->Prop}{env:En}{d v a:D}(h:xd3 env d v)(h':NodeEv ks R env d a):False:=by
 rcases h with⟨n,rfl,rfl⟩ |⟨x,b,rfl⟩ <;> rcases h' with⟨_,_,_,_,_,_,_,_,_,e,_⟩ |⟨_,_,_,_,_,e,_⟩ |⟨_,_,_,_,_,_,_,_,_,_,e⟩ |⟨_,_,_,_,_,e,_⟩ |⟨_,_,_,_,_,_,_,_,_,_,_,e⟩ |⟨_,_,_,_,_,_,e⟩ <;> exact absurd e (xpa (by walk_at"k"))
theorem xi4{R:D->D->Prop}(u:∀a v c,R a v->R a c->v=c):∀{es vs b:List D},All2 R es vs->All2 R es b->vs=b
 |_,_,_,.nil,.nil=>rfl
 |_,_,_,.cons h t,.cons h' t'=>by rw[u _ _ _ h h',xi4 u t t']
theorem xnv{ks:List Kn}:∀(n:Nat) (env:En) (d v w:D),Ev ks n env d v->Ev ks n env d w->v=w
 |0,_,_,_,_,h,h'=>xik h h'
 | n + 1,env,d,v,w,h,h'=>by
  have m:=xnv (ks:=ks) n;rcases h with h |h <;> rcases h' with h' | h'
  ·exact xik h h'
  ·exact(xil h h').elim
  ·exact(xil h' h).elim
  rcases h with⟨s,a,b,x,y,g,u,_,_,rfl,rfl⟩ |⟨k,es,vs,_,g,rfl,rfl⟩ |⟨a,k,vs,f,kn,i,g,u,O,h4,rfl⟩ |⟨k,t,a,x,g,rfl,rfl⟩ |⟨a,rs,k,t,x,y,e0,_,g,u,O,rfl⟩ |⟨a,b,c,x,g,u,rfl⟩ <;>
  rcases h' with⟨s',C,b',G,Y,j,o,_,_,e,rfl⟩ |⟨k',es',I,_,j,e,rfl⟩ |⟨C,k',I,f',a2,i',j,o,z,U,e⟩ |⟨k',t',C,G,j,e,rfl⟩ |⟨C,J,k',t',G,Y,a3,_,j,o,z,e⟩ |⟨C,b',c',G,j,o,e⟩ <;>
  first |exact absurd e (xpa (by walk_at"k")) |skip
  ·cases e
   have:=m _ _ _ _ g j;have h:=m _ _ _ _ u o;cases this;cases h;rfl
  ·cases e
   rw[xi4 (λa v w=>m env a v w) g j]
  ·cases e
   have:=m _ _ _ _ g j;cases this;rw[u]at o;cases o;rw[O]at z;cases z;rw[h4]at U;exact Option.some.inj U
  ·cases e
   rw[m _ _ _ _ g j]
  ·have e1:=(List.cons.inj (List.cons.inj (D.tup.inj e)).2).1
   have e2:=D.tup.inj (List.cons.inj (List.cons.inj (List.cons.inj (D.tup.inj e)).2).2).1
   have e3:rs=J:=by
    have:∀{l p:List (Str×Str×D)},l.map dArm=p.map dArm->l=p:=by
     intro l
     induction l with
     |nil=>intro p h;cases p with |nil=>rfl |cons _ _=>cases h
     | cons r l M=>
      intro p h
      cases p with
      |nil=>cases h
      |cons r' p=>
       rw[List.map_cons,List.map_cons]at h;have q:=List.cons.inj h;obtain⟨r1,r2,r3⟩:=r;obtain⟨a1,a0,Z⟩:=r';have q1:=q.1;cases q1;rw[M q.2]
    exact this e2
   subst e1 e3;have:=m _ _ _ _ g j;cases this;rw[u]at o;cases o;exact m _ _ _ _ O z
  ·cases e
   have:=m _ _ _ _ g j;cases this;exact m _ _ _ _ u o
noncomputable def wv(ks:List Kn)(bx:List (Str×D))(t:D):D:=open Classical in if h:∃v,Ev ks 21 (enOf bx) t v then h.choose else .int 0
theorem xk9{ks:List Kn}{bs:List (Str×Str)}{bx:List (Str×D)}{t:D}{k:Str}(h:TmOk ks 21 bs t k)(f:FitB ks bs (enOf bx)):Ev ks 21 (enOf bx) t (wv ks bx t)/\Vk ks k (wv ks bx t):=by
 obtain⟨v,b,c⟩:=h _ f;have a:∃v,Ev ks 21 (enOf bx) t v:=⟨v,xk1 _ _ _ _ b⟩;have e:wv ks bx t=a.choose:=by unfold wv;rw[dif_pos a]
 rw[e,xnv _ _ _ _ _ a.choose_spec (xk1 _ _ _ _ b)];exact⟨xk1 _ _ _ _ b,c⟩
def Chg(la:Addr)(xs:List V)(H H':Hp):Prop:=∀b o,H b=some o->H' b=some (if b=la then .lst xs else o)
theorem Chg.upd{a:Addr}{xs:List V}{H:Hp}:Chg a xs H (upd H a (.lst xs)):=λb o e=>by
 by_cases h:b=a
 ·subst h;rw[ups,if_pos rfl]
 ·rw[xao h,if_neg h];exact e
theorem Chg.pre{a:Addr}{xs:List V}{H g f:Hp}(s:Same H g)(c:Chg a xs g f):Chg a xs H f:=λb o e=>c b o (s b o e)
theorem Chg.ne{a:Addr}{xs:List V}{H f:Hp}(c:Chg a xs H f){b:Addr}{o:HO}(e:H b=some o)(h:b≠a):f b=some o:=by
 have:=c b o e
 rwa[if_neg h]at this
theorem Chg.at{a:Addr}{xs:List V}{H b:Hp}(c:Chg a xs H b){o:HO}(e:H a=some o):b a=some (.lst xs):=by
 have:=c a o e
 rwa[if_pos rfl]at this
theorem Chg.tups{a:Addr}{us xs:List V}{H f:Hp}(c:Chg a xs H f)(h:H a=some (.lst us)):∀b vs,H b=some (.tup vs)->f b=some (.tup vs):=λb vs e=>c.ne e λz=>by subst z;rw[h]at e;cases e
theorem Same.tups{H a:Hp}(s:Same H a):∀b vs,H b=some (.tup vs)->a b=some (.tup vs):=λb vs e=>s b _ e
theorem xpz{α:Type}{f:α->Str}{l:List α}(h:(l.map f).Nodup):(l.map λa=>(Sum.inr (f a):Key)).Nodup:=List.pairwise_map.mpr ((List.pairwise_map.mp h).imp λh z=>h (Sum.inr.inj z))
def StAt(H:Hp)(sa p:Addr)(k:Nat)(bx:List (Str×D)):Prop:=H sa=some (.tup [.int k,.ref p])/\∃kvs,H p=some (.dK kvs)/\KvD H kvs bx
theorem StAt.keep{H a:Hp}{c p:Addr}{k:Nat}{bx:List (Str×D)}(h:StAt H c p k bx)(s:∀b vs,H b=some (.tup vs)->a b=some (.tup vs))(e:∀o,H p=some o->a p=some o):StAt a c p k bx:=by
 obtain⟨i,kvs,g,f⟩:=h;exact⟨s _ _ i,kvs,e _ g,f.tups s⟩
theorem StAt.same{H b:Hp}{a p:Addr}{k:Nat}{bx:List (Str×D)}(h:StAt H a p k bx)(s:Same H b):StAt b a p k bx:=h.keep (Same.tups s) λo e=>s _ _ e
theorem StAt.chg{H i:Hp}{a p b:Addr}{us xs:List V}{k:Nat}{bx:List (Str×D)}(h:StAt H a p k bx)(f:H b=some (.lst us))(c:Chg b xs H i):StAt i a p k bx:=h.keep (c.tups f) λo e=>c.ne e λz=>by
 obtain⟨_,kvs,g,_⟩:=h;rw[z,f]at g;cases g
theorem hdT{x y:Str}(h:x=y):decide (V.str x=V.str y)=true:=zDT (congrArg V.str h)
theorem hdF{x y:Str}(h:x≠y):decide (V.str x=V.str y)=false:=zDF λz=>h (V.str.inj z)
theorem xrf{r:Row}(h:∀g,r≠.go g):r.hd≠S "go":=by cases r <;> first |exact absurd rfl (h _) |(show S _≠S _;decide +kernel)
theorem xre{r:Row}(h:∀t g,r≠.cond t g):r.hd≠S "if":=by cases r <;> first |exact absurd rfl (h _ _) |(show S _≠S _;decide +kernel)
theorem xir{r:Row}(h:r≠.fin):r.hd≠S "end":=by cases r <;> first |exact absurd rfl h |(show S _≠S _;decide +kernel)
theorem xd9{r:Row}(h:∀l c x,r≠.take l c x):r.hd≠S "take":=by cases r <;> first |exact absurd rfl (h _ _ _) |(show S _≠S _;decide +kernel)
theorem xnq{r:Row}(h:∀c t,r≠.send c t):r.hd≠S "send":=by cases r <;> first |exact absurd rfl (h _ _) |(show S _≠S _;decide +kernel)
theorem xp1{r:Row}(h:∀x t,r≠.set x t):r.hd≠S "set":=by cases r <;> first |exact absurd rfl (h _ _) |(show S _≠S _;decide +kernel)
theorem xrd{r:Row}(h:∀t,r≠.tell t):r.hd≠S "tell":=by cases r <;> first |exact absurd rfl (h _) |(show S _≠S _;decide +kernel)
open Classical in
noncomputable def xcv(ks:List Kn)(bx:List (Str×D))(k:Nat):Row->Nat
 |.go g=>g
 |.cond t g=>if wv ks bx t=.int 0 then k+1 else g
 |_=>k+1
noncomputable def xep(ks:List Kn)(bx:List (Str×D))(l:D):Row->List (Str×D)
 |.set x t=>putA bx x (wv ks bx t)
 |.take _ _ x=>putA bx x l
 |_=>bx
noncomputable def Row.told(ks:List Kn)(bx:List (Str×D))(told:List D):Row->List D
 |.tell t=>told++[wv ks bx t]
 |_=>told
theorem xqz{ks:List Kn}(b:KWf ks):∀(m:Nat) (x:Str),KIn ks m x->Vk ks x (nuV (m+1) ks x)
 | 0,x,h=>by
  rcases h.nu b with⟨rfl,_,_,e⟩ |⟨j,k,f,_⟩
  ·rw[e]
   exact .num 0 ⟨by decide,by decide⟩
  ·cases f
 | m+1,x,h=>by
  rcases h.nu b with⟨rfl,_,_,e⟩ |⟨j,k,f,n,hn,u,l,_,s⟩
  ·rw[e]
   exact .num 0 ⟨by decide,by decide⟩
  ·cases f
   rcases s with⟨c,_,e⟩ |⟨c,p,r,o,_,e⟩
   ·rw[e]
    refine .rc n c (by rw[zLM]) λi w p g a=>?_;rw[zGM,a]at g;cases g;exact xqz b m p.2 (l p (zMG a))
   ·rw[e]
    exact .al n c (by rw[o];simp) (xqz b m p.2 (l p (by rw[o];simp)))
theorem xgo{ks:List Kn}(b:KWf ks){x:Str}{v:D}(a:KIn ks 6 x)(h:Vk ks x v):v.deep<=12:=xi7 b 6 x v a h
theorem xnu{ks:List Kn}{bs:List (Str×Str)}{bx:List (Str×D)}{x k:Str}{d:D}(nd:(bs.map (·.1)).Nodup)(f:FitB ks bs (enOf bx))(b:(x,k)∈bs)(c:Vk ks k d):FitB ks bs (enOf (putA bx x d)):=λp a=>by
 rw[xtc];unfold En.put;by_cases e:p.1=x
 ·have:p=(x,k):=xcd nd a b e
  subst this;exact⟨d,if_pos rfl,c⟩
 ·obtain⟨v,h,g⟩:=f p a
  exact⟨v,by rw[if_neg e];exact h,g⟩
theorem HandOk.pos{ks:List Kn}{cs:List Chn}{h:Hand}(o:HandOk ks cs h):0<h.rows.length:=by
 obtain⟨r,e,_⟩:=o.last
 cases b:h.rows with
 |nil=>rw[b]at e;cases e
 |cons a l=>simp
theorem xoj{ks:List Kn}{cs:List Chn}{h:Hand}(o:HandOk ks cs h){bx:List (Str×D)}{k:Nat}{r:Row}(f:h.rows[k]?=some r)(i:r≠.fin):xcv ks bx k r<h.rows.length:=by
 have n:=(zES f).1;have a:=o.ok r (zMG f)
 have step:¬r.ends->k+1<h.rows.length:=λj=>by
  rcases Nat.lt_or_ge (k+1) h.rows.length with z |z
  ·exact z
  ·obtain⟨m,e,b⟩:=o.last
   have:h.rows.getLast?=some r:=by
    rw[List.getLast?_eq_getElem?,show h.rows.length-1=k by omega];exact f
   rw[this]at e;cases e;exact absurd b j
 cases r with
 |fin=>exact absurd rfl i
 |go g=>exact a
 | cond t g=>
  by_cases e:wv ks bx t=.int 0
  ·rw[show xcv ks bx k (.cond t g)=k+1 from if_pos e]
   exact step λh=>h
  ·rw[show xcv ks bx k (.cond t g)=g from if_neg e]
   exact a.2
 |set x t=>exact step λh=>h
 |send c t=>exact step λh=>h
 |take l c x=>exact step λh=>h
 |tell t=>exact step λh=>h
structure HSt where
 sd:Str->Nat×List (Str×D)
 bt:Str->List D
 tl:Str->List D
 ct:Str->Nat
def upF{α:Type}(f:Str->α)(x:Str)(v:α):Str->α:=λz=>if z=x then v else f z
theorem xa7{α:Type}{f:Str->α}{x:Str}{v:α}:upF f x v x=v:=if_pos rfl
theorem xbi{α:Type}{f:Str->α}{x z:Str}{v:α}(h:z≠x):upF f x v z=f z:=if_neg h
theorem xc9{α:Type}{f:Str->α}{x y:Str}{u v:α}(h:x≠y):upF (upF f x u) y v=upF (upF f y v) x u:=by
 funext z
 unfold upF;by_cases e:z=y
 ·rw[if_pos e,if_pos e,if_neg (λq=>h (q.symm.trans e))]
 ·rw[if_neg e,if_neg e]
def Row.shutF(bt:Str->List D):Row->Bool
 |.fin=>true
 |.take _ c _=>(bt c).isEmpty
 |_=>false
def Row.letF(bt:Str->List D):Row->D
 |.take _ c _=>(bt c).headD (.int 0)
 |_=>.int 0
noncomputable def Row.btF(ks:List Kn)(bx:List (Str×D))(bt:Str->List D):Row->Str->List D
 |.take _ c _=>upF bt c (bt c).tail
 |.send c t=>upF bt c (bt c++[wv ks bx t])
 |_=>bt
noncomputable def HSt.go(ks:List Kn)(s:HSt)(h:Str)(r:Row):HSt:=
 ⟨upF s.sd h (xcv ks (s.sd h).2 (s.sd h).1 r,xep ks (s.sd h).2 (r.letF s.bt) r),r.btF ks (s.sd h).2 s.bt,upF s.tl h (r.told ks (s.sd h).2 (s.tl h)),upF s.ct h (s.ct h+1)⟩
def Stp(m:Mak)(s s':HSt)(h:Hand):Prop:=h∈m.hands/\∃r,h.rows[(s.sd h.name).1]?=some r/\r.shutF s.bt=false/\s'=s.go m.kinds h.name r
inductive Rch(m:Mak):HSt->HSt->Prop
 |refl (s:HSt):Rch m s s
 |head {s s' t:HSt} {h:Hand}:Stp m s s' h->Rch m s' t->Rch m s t
def xhg(m:Mak)(s:HSt):Prop:=∀h∈m.hands,∀r,h.rows[(s.sd h.name).1]?=some r->r.shutF s.bt=true
theorem Rch.trans{m:Mak}{s t u:HSt}(a:Rch m s t)(b:Rch m t u):Rch m s u:=by
 induction a with
 |refl=>exact b
 |head h _ c=>exact .head h (c b)
theorem Rch.one{m:Mak}{s t:HSt}{h:Hand}(a:Stp m s t h):Rch m s t:=.head a (.refl _)
theorem xn7 {ks:List Kn} {bx bx':List (Str×D)} {bt:Str->List D} {r r':Row} (tk:∀l c x l' c' x',r=.take l c x->r'=.take l' c' x'->c≠c') (sn:∀c t c' t',r=.send c t->r'=.send c' t'->c≠c') (sh:r.shutF bt=false) (sh':r'.shutF bt=false) :
  r'.shutF (r.btF ks bx bt)=false/\r'.letF (r.btF ks bx bt)=r'.letF bt/\r'.btF ks bx' (r.btF ks bx bt)=r.btF ks bx (r'.btF ks bx' bt):=by
 cases r with
 | take l c x=>
  cases r' with
  | take l' c' x'=>
   have hn:=tk _ _ _ _ _ _ rfl rfl;refine⟨?_,?_,?_⟩
   ·show(upF bt c _ c').isEmpty=false
    rw[xbi (Ne.symm hn)];exact sh'
   ·show(upF bt c _ c').headD _=_
    rw[xbi (Ne.symm hn)];rfl
   ·show upF (upF bt c _) c' (upF bt c _ c').tail=upF (upF bt c' _) c (upF bt c' _ c).tail
    rw[xbi (Ne.symm hn),xbi hn,xc9 hn]
  | send c' t'=>
   refine⟨rfl,rfl,?_⟩;show upF (upF bt c (bt c).tail) c' (upF bt c (bt c).tail c'++[_])=upF (upF bt c' (bt c'++[_])) c (upF bt c' (bt c'++[_]) c).tail;by_cases e:c=c'
   ·subst e
    rw[xa7,xa7]
    funext z
    unfold upF;by_cases ez:z=c
    ·rw[if_pos ez,if_pos ez]
     have sh0:(bt c).isEmpty=false:=sh
     cases hb:bt c with
     |nil=>rw[hb]at sh0;cases sh0
     |cons a l=>rfl
    ·rw[if_neg ez,if_neg ez,if_neg ez,if_neg ez]
   ·rw[xbi (Ne.symm e),xbi e,xc9 e]
  |fin=>cases sh'
  |_=>exact⟨rfl,rfl,rfl⟩
 | send c t=>
  cases r' with
  | take l' c' x'=>
   by_cases e:c'=c
   ·subst e
    have sh0:(bt c').isEmpty=false:=sh'
    cases hb:bt c' with
    |nil=>rw[hb]at sh0;cases sh0
    | cons a l=>
     refine⟨?_,?_,?_⟩
     ·show(upF bt c' (bt c'++[_]) c').isEmpty=false
      rw[xa7,hb];rfl
     ·show(upF bt c' (bt c'++[_]) c').headD _=(bt c').headD _
      rw[xa7,hb];rfl
     ·show upF (upF bt c' (bt c'++[_])) c' (upF bt c' (bt c'++[_]) c').tail=upF (upF bt c' (bt c').tail) c' (upF bt c' (bt c').tail c'++[_])
      rw[xa7,xa7,hb]
      funext z
      unfold upF;by_cases ez:z=c'
      ·rw[if_pos ez,if_pos ez];rfl
      ·rw[if_neg ez,if_neg ez,if_neg ez,if_neg ez]
   ·refine⟨?_,?_,?_⟩
    ·show(upF bt c (bt c++[_]) c').isEmpty=false
     rw[xbi e];exact sh'
    ·show(upF bt c (bt c++[_]) c').headD _=(bt c').headD _
     rw[xbi e]
    ·show upF (upF bt c (bt c++[_])) c' (upF bt c (bt c++[_]) c').tail=upF (upF bt c' (bt c').tail) c (upF bt c' (bt c').tail c++[_])
     rw[xbi e,xbi (Ne.symm e),xc9 (Ne.symm e)]
  |send c' t'=>
   have hn:=sn _ _ _ _ rfl rfl;refine⟨rfl,rfl,?_⟩;show upF (upF bt c (bt c++[_])) c' (upF bt c (bt c++[_]) c'++[_])=upF (upF bt c' (bt c'++[_])) c (upF bt c' (bt c'++[_]) c++[_]);rw[xbi (Ne.symm hn),xbi hn,xc9 hn]
  |fin=>cases sh'
  |_=>exact⟨rfl,rfl,rfl⟩
 |fin=>cases sh
 |_=>exact⟨sh',rfl,rfl⟩
theorem xlh {m:Mak} (a:MakOk m) {h h':Hand} (O:h∈m.hands) (s:h'∈m.hands) (ne:h.name≠h'.name) {r n:Row} (M:r∈h.rows) (p:n∈h'.rows) :
  (∀l c x J j G,r=.take l c x->n=.take J j G->c≠j)/\∀c t j t',r=.send c t->n=.send j t'->c≠j:=by
 have o:=(a.hok h O).ok r M;have I:=(a.hok h' s).ok n p;refine⟨λl c x J j G e C z=>?_,λc t j t' e C z=>?_⟩
 ·subst e C
  obtain⟨ch,u,y,w,_⟩:=o;obtain⟨i,b,g,f,_⟩:=I;have:ch=i:=xcd a.cnd u b (y.trans (z.trans g.symm));exact ne (by rw[<- w,<- f,this])
 ·subst e C
  obtain⟨ch,u,y,w,_⟩:=o;obtain⟨i,b,g,f,_⟩:=I;have:ch=i:=xcd a.cnd u b (y.trans (z.trans g.symm));exact ne (by rw[<- w,<- f,this])
theorem Stp.diam{m:Mak}(j:MakOk m){s J I:HSt}{h h':Hand}(p:h≠h')(a:Stp m s J h)(b:Stp m s I h'):∃c,Stp m J c h'/\Stp m I c h:=by
 obtain⟨u,r,M,G,rfl⟩:=a;obtain⟨g,o,n,i,rfl⟩:=b;have ne:h.name≠h'.name:=λz=>p (xcd j.hnd u g z);obtain⟨y,C⟩:=xlh j u g ne (zMG M) (zMG n);obtain⟨c1,c2,c3⟩:=xn7 (ks:=m.kinds) (bx:=(s.sd h.name).2) (bx':=(s.sd h'.name).2) y C G i;obtain⟨d1,d2,_⟩:=xn7 (ks:=m.kinds) (bx:=(s.sd h'.name).2) (bx':=(s.sd h.name).2) (λl c x l' c' x' e w z=>y _ _ _ _ _ _ w e z.symm) (λc t c' t' e w z=>C _ _ _ _ w e z.symm) i G;have Z:(s.go m.kinds h.name r).sd h'.name=s.sd h'.name:=xbi (Ne.symm ne);have Y:(s.go m.kinds h'.name o).sd h.name=s.sd h.name:=xbi ne;refine⟨(s.go m.kinds h.name r).go m.kinds h'.name o,⟨g,o,by rw[Z];exact n,c1,rfl⟩,u,r,by rw[Y];exact M,d1,?_⟩;have U:∀{α:Type} (f:Str->α) (v:α),upF f h.name v h'.name=f h'.name:=λf v=>xbi (Ne.symm ne);have O:∀{α:Type} (f:Str->α) (v:α),upF f h'.name v h.name=f h.name:=λf v=>xbi ne;unfold HSt.go;simp only[U,O,c2,d2];rw[c3,xc9 ne,xc9 (f:=s.tl) ne,xc9 (f:=s.ct) ne]
theorem Stp.det{m:Mak}{s f e:HSt}{h:Hand}(a:Stp m s f h)(b:Stp m s e h):f=e:=by
 obtain⟨_,r,g,_,rfl⟩:=a;obtain⟨_,i,c,_,rfl⟩:=b;rw[g]at c;cases c;rfl
theorem Stp.moves{m:Mak}{s s':HSt}{h:Hand}(a:Stp m s s' h)(st:xhg m s):False:=by
 obtain⟨e,r,c,b,_⟩:=a;have:=st h e r c;rw[b]at this;cases this
theorem Rch.conf{m:Mak}(f:MakOk m){s t:HSt}(a:Rch m s t)(st:xhg m t):∀{s':HSt} {h:Hand},Stp m s s' h->Rch m s' t:=by
 induction a with
 |refl=>intro s' h b;exact(b.moves st).elim
 | head c _ i=>
  rename_i u v w j g;intro s' h b;by_cases e:j=h
  ·subst e
   rw[b.det c];exact g
  ·obtain⟨d,n,l⟩:=Stp.diam f e c b
   exact .head l (i st n)
theorem Rch.all{m:Mak}(e:MakOk m){s u t:HSt}(b:Rch m s u)(a:Rch m s t)(st:xhg m t):Rch m u t:=by
 induction b with
 |refl=>exact a
 |head c _ f=>exact f (a.conf e st c)
theorem Rch.le{m:Mak}{s t:HSt}(a:Rch m s t)(x:Str):s.ct x<=t.ct x:=by
 induction a with
 |refl=>exact Nat.le_refl _
 |head c _ b=>
  obtain⟨_,r,_,_,rfl⟩:=c;refine Nat.le_trans ?_ b;show _<=upF _ _ _ x;unfold upF;split
  ·rename_i e;rw[e];exact Nat.le_succ _
  ·exact Nat.le_refl _
theorem Rch.end_{m:Mak}{s t:HSt}(a:Rch m s t)(st:xhg m s):t=s:=by
 cases a with
 |refl=>rfl
 |head c _=>exact(c.moves st).elim
structure HOk(m:Mak)(s:HSt)(N:Nat):Prop where
 row:∀h∈m.hands,(s.sd h.name).1<h.rows.length
 keys:∀h∈m.hands,(s.sd h.name).2.map (·.1)=h.boxes.map (·.1)
 fit:∀h∈m.hands,FitB m.kinds h.boxes (enOf (s.sd h.name).2)
 cok:∀c∈m.chans,(s.bt c.1).length<=N/\∀d∈s.bt c.1,Vk m.kinds c.2.2.2 d
 tok:∀h∈m.hands,(s.tl h.name).length<=N/\∀d∈s.tl h.name,d.deep<=12
theorem HOk.mono{m:Mak}{s:HSt}{N b:Nat}(o:HOk m s N)(h:N<=b):HOk m s b:=⟨o.row,o.keys,o.fit,λc a=>⟨Nat.le_trans (o.cok c a).1 h,(o.cok c a).2⟩,λc a=>⟨Nat.le_trans (o.tok c a).1 h,(o.tok c a).2⟩⟩
theorem HOk.bxlen{m:Mak}{s:HSt}{N:Nat}(o:HOk m s N)(a:MakOk m){h:Hand}(b:h∈m.hands):(s.sd h.name).2.length<=5:=by
 have:=congrArg List.length (o.keys h b);rw[zLM,zLM]at this;have:=(a.hok h b).few;omega
theorem HOk.go{m:Mak}{s:HSt}{N:Nat}(f:MakOk m)(o:HOk m s N){h:Hand}(I:h∈m.hands){r:Row}(O:h.rows[(s.sd h.name).1]?=some r)(M:r.shutF s.bt=false):HOk m (s.go m.kinds h.name r) (N+1):=by
 have y:=f.hok h I;have b:=y.ok r (zMG O);have G:r≠.fin:=λe=>by subst e;cases M
 have Y:=f.wf;have fit:=o.fit h I;have nm:∀{h':Hand},h'∈m.hands->h'≠h->h'.name≠h.name:=λa n z=>n (xcd f.hnd a I z);have g:(s.go m.kinds h.name r).sd h.name=(xcv m.kinds (s.sd h.name).2 (s.sd h.name).1 r,xep m.kinds (s.sd h.name).2 (r.letF s.bt) r):=xa7;have i:∀{h':Hand},h'∈m.hands->h'≠h->(s.go m.kinds h.name r).sd h'.name=s.sd h'.name:=λa n=>xbi (nm a n);refine⟨λh' a=>?_,λh' a=>?_,λh' a=>?_,λc u=>?_,λh' a=>?_⟩
 ·by_cases e:h'=h
  ·subst e
   rw[g];exact xoj y O G
  ·rw[i a e];exact o.row h' a
 ·by_cases e:h'=h
  ·subst e
   rw[g,<- o.keys h' a];show(xep m.kinds (s.sd h'.name).2 (r.letF s.bt) r).map (·.1)=_
   cases r with
   |set x t=>
    obtain⟨k,j,_⟩:=b;exact xhy (by rw[o.keys h' a];exact List.mem_map_of_mem j)
   |take l c x=>
    obtain⟨ch,_,_,_,j⟩:=b;exact xhy (by rw[o.keys h' a];exact List.mem_map_of_mem j)
   |_=>rfl
  ·rw[i a e];exact o.keys h' a
 ·by_cases e:h'=h
  ·subst e
   rw[g];show FitB m.kinds h'.boxes (enOf (xep m.kinds (s.sd h'.name).2 (r.letF s.bt) r))
   cases r with
   |set x t=>
    obtain⟨k,j,C⟩:=b;exact xnu y.nd fit j (xk9 C fit).2
   |take l c x=>
    obtain⟨ch,u,rfl,a0,j⟩:=b;refine xnu y.nd fit j ?_;have w:(s.bt ch.1).isEmpty=false:=M;show Vk m.kinds ch.2.2.2 ((s.bt ch.1).headD (.int 0));have Z:=(o.cok ch u).2
    cases U:s.bt ch.1 with
    |nil=>rw[U]at w;cases w
    |cons d ds=>exact Z d (by rw[U];simp)
   |_=>exact fit
  ·rw[i a e];exact o.fit h' a
 ·show(r.btF m.kinds (s.sd h.name).2 s.bt c.1).length<=N+1/\∀d∈r.btF m.kinds (s.sd h.name).2 s.bt c.1,Vk m.kinds c.2.2.2 d
  have old:(s.bt c.1).length<=N+1/\∀d∈s.bt c.1,Vk m.kinds c.2.2.2 d:=⟨Nat.le_succ_of_le (o.cok c u).1,(o.cok c u).2⟩
  cases r with
  | take l p x=>
   show(upF s.bt p _ c.1).length<=_/\∀d∈upF s.bt p _ c.1,_;by_cases e:c.1=p
   ·rw[<- e,xa7]
    refine⟨?_,λd hd=>old.2 d (List.mem_of_mem_tail hd)⟩;rw[List.length_tail];have:=old.1;omega
   ·rw[xbi e];exact old
  | send p t=>
   show(upF s.bt p _ c.1).length<=_/\∀d∈upF s.bt p _ c.1,_;by_cases e:c.1=p
   ·rw[<- e,xa7]
    refine⟨?_,λd hd=>?_⟩
    ·rw[zLA,List.length_singleton]
     have:=(o.cok c u).1;omega
    ·rcases zMA hd with hd |hd
     ·exact old.2 d hd
     ·rw[zMO hd]
      obtain⟨ch,J,e1,_,C⟩:=b;have:ch=c:=xcd f.cnd J u (e1.trans e.symm);subst this;exact(xk9 C fit).2
   ·rw[xbi e];exact old
  |_=>exact old
 ·show(upF s.tl h.name (r.told m.kinds (s.sd h.name).2 (s.tl h.name)) h'.name).length<=N+1/\∀d∈upF s.tl h.name (r.told m.kinds (s.sd h.name).2 (s.tl h.name)) h'.name,d.deep<=12
  have old:=o.tok h' a;by_cases e:h'=h
  ·subst e
   rw[xa7]
   cases r with
   | tell t=>
    refine⟨by show(s.tl h'.name++[_]).length<=_;rw[zLA,List.length_singleton];have:=old.1;omega,λd hd=>?_⟩;rcases zMA (show d∈s.tl h'.name++[_] from hd) with hd |hd
    ·exact old.2 d hd
    ·rw[zMO hd]
     exact xgo Y (.inl rfl) (xk9 b fit).2
   |_=>exact⟨Nat.le_succ_of_le old.1,old.2⟩
  ·rw[xbi (nm a e)]
   exact⟨Nat.le_succ_of_le old.1,old.2⟩
def mapK(ns:List Str)(f:Str->V):List (Key×V):=ns.map λx=>(Sum.inr x,f x)
theorem xnd(ns:List Str)(f:Str->V):(mapK ns f).map (·.1)=ns.map λx=>(Sum.inr x:Key):=by
 unfold mapK;rw[List.map_map];rfl
theorem xhb{ns:List Str}{f:Str->V}(h:ns.Nodup):((mapK ns f).map (·.1)).Nodup:=by
 rw[xnd];exact xpz (f:=λx:Str=>x) (by rw[List.map_id'];exact h)
theorem xed{f:Str->V}{x:Str}:∀{ns:List Str},x∈ns->valV (mapK ns f) (Sum.inr x)=some (f x)
 | y::ns,h=>by
  show valV ((Sum.inr y,f y)::mapK ns f) _=_;by_cases e:y=x
  ·rw[xb6 (by rw[e]),e]
  ·rw[xb7 (λz=>e (Sum.inr.inj z))]
   rcases zMC h with h |h
   ·exact absurd h.symm e
   ·exact xed h
theorem xkx{f:Str->V}{x:Str}{v:V}{ns:List Str}(h:x∈ns):putK (mapK ns f) (Sum.inr x) v=mapK ns (upF f x v):=by
 have b:((mapK ns f).any λa=>decide (a.1=(Sum.inr x:Key)))=true:=List.any_eq_true.mpr ⟨(Sum.inr x,f x),List.mem_map.mpr ⟨x,h,rfl⟩,zDT rfl⟩;unfold putK;rw[if_pos b];unfold mapK;rw[List.map_map];refine List.map_congr_left λz _=>?_;show(if (Sum.inr z:Key)=Sum.inr x then ((Sum.inr z:Key),v) else (Sum.inr z,f z))=(Sum.inr z,upF f x v z);unfold upF;by_cases e:z=x
 ·rw[if_pos (by rw[e]),if_pos e]
 ·rw[if_neg (λq=>e (Sum.inr.inj q)),if_neg e]
theorem xgi{f g:Str->V}{ns:List Str}(h:∀x∈ns,f x=g x):mapK ns f=mapK ns g:=List.map_congr_left λx a=>by rw[h x a]
theorem xo3(ns:List Str)(f:Str->V):(mapK ns f).length=ns.length:=zLM ..
def Hms:List Str:=[Str.ofString "step",Str.ofString "weave",Str.ofString "still",Str.ofString "stays",Str.ofString "stand",Str.ofString "told",Str.ofString "letters",Str.ofString "count"]
abbrev hn(m:Mak):List Str:=m.hands.map Hand.name
abbrev cn(m:Mak):List Str:=m.chans.map (·.1)
structure HsA where
 dx:Addr
 sd:Addr
 bd:Addr
 td:Addr
 cd:Addr
 sa:Str->Addr
 pa:Str->Addr
 la:Str->Addr
 ta:Str->Addr
structure Hf(fs:List (Str×V))(mv:V)(a:HsA):Prop where
 mkv:fs.lookup (Str.ofString "make")=some mv
 st:fs.lookup (Str.ofString "stands")=some (.ref a.sd)
 bt:fs.lookup (Str.ofString "between")=some (.ref a.bd)
 tl:fs.lookup (Str.ofString "tellings")=some (.ref a.td)
 ct:fs.lookup (Str.ofString "counts")=some (.ref a.cd)
 len:fs.length<=5
 no:∀f∈Hms,fs.lookup f=none
def hFs(a:HsA):List (Str×V):=putF (Str.ofString "counts") (.ref a.cd) (putF (Str.ofString "tellings") (.ref a.td) (putF (Str.ofString "between") (.ref a.bd) (putF (Str.ofString "stands") (.ref a.sd) [])))
theorem Hf.init{i:V}{a:HsA}:Hf (putF (Str.ofString "make") i (hFs a)) i a:=by
 have ne:∀{f g:Str} {v u:V} {fs:List (Str×V)},fs.lookup g=some u->g≠f->(putF f v fs).lookup g=some u:=λe n=>by rw[xc1,if_neg n];exact e
 have c:∀{f:Str} {v:V} {fs:List (Str×V)},(putF f v fs).lookup f=some v:=by intro f v fs;rw[xc1,if_pos rfl]
 have b:∀{g:Str} {v:V} {fs:List (Str×V)},(∀f∈Hms,fs.lookup f=none)->(∀f∈Hms,f≠g)->∀f∈Hms,(putF g v fs).lookup f=none:=λh n f j=>by rw[xc1,if_neg (n f j)];exact h f j
 refine⟨c,?_,?_,?_,?_,?_,?_⟩
 ·exact ne (ne (ne (ne c (by walk_at"k")) (by walk_at"k")) (by walk_at"k")) (by walk_at"k")
 ·exact ne (ne (ne c (by walk_at"k")) (by walk_at"k")) (by walk_at"k")
 ·exact ne (ne c (by walk_at"k")) (by walk_at"k")
 ·exact ne c (by walk_at"k")
 ·exact Nat.le_trans (xbb _ _ _) (Nat.succ_le_succ (Nat.le_trans (xbb _ _ _) (Nat.succ_le_succ (Nat.le_trans (xbb _ _ _) (Nat.succ_le_succ (Nat.le_trans (xbb _ _ _) (Nat.succ_le_succ (Nat.le_trans (xbb _ _ _) (Nat.le_refl _)))))))))
 ·exact b (b (b (b (b (λ_ _=>rfl) (by walk_at"k")) (by walk_at"k")) (by walk_at"k")) (by walk_at"k")) (by walk_at"k")
structure HsIn(H:Hp)(m:Mak)(a:HsA)(s:HSt):Prop where
 hsd:H a.sd=some (.dK (mapK (hn m) λz=>.ref (a.sa z)))
 hbd:H a.bd=some (.dK (mapK (cn m) λz=>.ref (a.la z)))
 htd:H a.td=some (.dK (mapK (hn m) λz=>.ref (a.ta z)))
 hcd:H a.cd=some (.dK (mapK (hn m) λz=>.int (s.ct z:Nat)))
 sta:∀z∈hn m,StAt H (a.sa z) (a.pa z) (s.sd z).1 (s.sd z).2
 let_:∀z∈cn m,∃us,H (a.la z)=some (.lst us)/\RelDs H us (s.bt z)
 tel:∀z∈hn m,∃us,H (a.ta z)=some (.lst us)/\RelDs H us (s.tl z)
 nl:∀z∈cn m,∀y∈cn m,a.la z=a.la y->z=y
 nt:∀z∈hn m,∀y∈hn m,a.ta z=a.ta y->z=y
 nlt:∀z∈cn m,∀y∈hn m,a.la z≠a.ta y
 n1:a.sd≠a.bd/\a.sd≠a.td/\a.sd≠a.cd/\a.cd≠a.bd/\a.cd≠a.td
 np:∀z∈hn m,a.pa z≠a.sd/\a.pa z≠a.cd
structure HsAt(H:Hp)(C x:Addr)(mv:V)(m:Mak)(a:HsA)(s:HSt):Prop where
 ob:∃fs,H x=some (.ins C a.dx fs)/\Hf fs mv a
 inn:HsIn H m a s
def HsA.F(a:HsA)(m:Mak)(x b:Addr):Prop:=b=x\/b=a.sd\/b=a.bd\/b=a.td\/b=a.cd\/(∃z∈cn m,b=a.la z)\/∃z∈hn m,b=a.ta z\/b=a.pa z
theorem HsIn.keep{H i:Hp}{m:Mak}{a:HsA}{s:HSt}{x:Addr}(h:HsIn H m a s)(c:∀b vs,H b=some (.tup vs)->i b=some (.tup vs))(k:∀b,a.F m x b->∀o,H b=some o->i b=some o):HsIn i m a s:=by
 refine⟨k _ (.inr (.inl rfl)) _ h.hsd,k _ (.inr (.inr (.inl rfl))) _ h.hbd,k _ (.inr (.inr (.inr (.inl rfl)))) _ h.htd,k _ (.inr (.inr (.inr (.inr (.inl rfl))))) _ h.hcd,λz hz=>?_,λz hz=>?_,λz hz=>?_,h.nl,h.nt,h.nlt,h.n1,h.np⟩
 ·exact(h.sta z hz).keep c λo e=>k _ (.inr (.inr (.inr (.inr (.inr (.inr ⟨z,hz,.inr rfl⟩)))))) o e
 ·obtain⟨us,g,f⟩:=h.let_ z hz
  exact⟨us,k _ (.inr (.inr (.inr (.inr (.inr (.inl ⟨z,hz,rfl⟩)))))) _ g,f.tups c _⟩
 ·obtain⟨us,g,f⟩:=h.tel z hz
  exact⟨us,k _ (.inr (.inr (.inr (.inr (.inr (.inr ⟨z,hz,.inl rfl⟩)))))) _ g,f.tups c _⟩
theorem HsIn.there{H:Hp}{m:Mak}{a:HsA}{s:HSt}(i:HsIn H m a s):∀b,a.F m a.sd b->∃o,H b=some o/\∀C d f,o≠.ins C d f:=by
 intro b g;rcases g with rfl |rfl |rfl |rfl |rfl |⟨z,hz,rfl⟩ |⟨z,hz,rfl |rfl⟩
 ·exact⟨_,i.hsd,λ_ _ _ e=>by cases e⟩
 ·exact⟨_,i.hsd,λ_ _ _ e=>by cases e⟩
 ·exact⟨_,i.hbd,λ_ _ _ e=>by cases e⟩
 ·exact⟨_,i.htd,λ_ _ _ e=>by cases e⟩
 ·exact⟨_,i.hcd,λ_ _ _ e=>by cases e⟩
 ·obtain⟨us,c,_⟩:=i.let_ z hz
  exact⟨_,c,λ_ _ _ e=>by cases e⟩
 ·obtain⟨us,c,_⟩:=i.tel z hz
  exact⟨_,c,λ_ _ _ e=>by cases e⟩
 ·obtain⟨_,kvs,c,_⟩:=i.sta z hz
  exact⟨_,c,λ_ _ _ e=>by cases e⟩
theorem HsAt.keep{H c:Hp}{C x:Addr}{e:V}{m:Mak}{a:HsA}{s:HSt}(h:HsAt H C x e m a s)(f:∀b vs,H b=some (.tup vs)->c b=some (.tup vs))(k:∀b,a.F m x b->∀o,H b=some o->c b=some o):HsAt c C x e m a s:=by
 obtain⟨⟨fs,j,i⟩,g⟩:=h;exact⟨⟨fs,k x (.inl rfl) _ j,i⟩,g.keep f k⟩
theorem HsAt.same{H f:Hp}{C x:Addr}{c:V}{m:Mak}{a:HsA}{s:HSt}(h:HsAt H C x c m a s)(q:Same H f):HsAt f C x c m a s:=h.keep (Same.tups q) λb _ o e=>q b o e
theorem HsAt.there{H:Hp}{C x:Addr}{f:V}{m:Mak}{a:HsA}{s:HSt}(h:HsAt H C x f m a s):∀b,a.F m x b->∃o,H b=some o/\∀vs,o≠.tup vs:=by
 obtain⟨⟨fs,c,_⟩,i⟩:=h;intro b g;rcases g with rfl |rfl |rfl |rfl |rfl |⟨z,hz,rfl⟩ |⟨z,hz,rfl |rfl⟩
 ·exact⟨_,c,λvs e=>by cases e⟩
 ·exact⟨_,i.hsd,λvs e=>by cases e⟩
 ·exact⟨_,i.hbd,λvs e=>by cases e⟩
 ·exact⟨_,i.htd,λvs e=>by cases e⟩
 ·exact⟨_,i.hcd,λvs e=>by cases e⟩
 ·obtain⟨us,c,_⟩:=i.let_ z hz
  exact⟨_,c,λvs e=>by cases e⟩
 ·obtain⟨us,c,_⟩:=i.tel z hz
  exact⟨_,c,λvs e=>by cases e⟩
 ·obtain⟨_,kvs,c,_⟩:=i.sta z hz
  exact⟨_,c,λvs e=>by cases e⟩
theorem HsAt.stepped {H g:Hp} {C x:Addr} {mv:V} {m:Mak} {a:HsA} {s s':HSt} {h:Str} {w y:Addr} (l:HsAt H C x mv m a s) (hh:h∈hn m)
  (a1:s'.sd=upF s.sd h (s'.sd h)) (a2:s'.ct=upF s.ct h (s.ct h+1))
  (a0:StAt g w y (s'.sd h).1 (s'.sd h).2) (lt:∀z∈cn m,∃us,g (a.la z)=some (.lst us)/\RelDs g us (s'.bt z)) (tl:∀z∈hn m,∃us,g (a.ta z)=some (.lst us)/\RelDs g us (s'.tl z))
  (f:∀b o,H b=some o->(∀us,o≠.lst us)->g b=some o) (fr:∀b o,H b=some o->¬a.F m x b->g b=some o) (u:y=a.pa h\/H y=none) :
  let J:=upd (upd g a.sd (.dK (putK (mapK (hn m) λz=>.ref (a.sa z)) (Sum.inr h) (.ref w)))) a.cd (.dK (putK (mapK (hn m) λz=>.int (s.ct z:Nat)) (Sum.inr h) (.int ((s.ct h:Int)+1))))
  let I:HsA:={a with sa:=upF a.sa h w,pa:=upF a.pa h y}
  HsAt J C x mv m I s'/\(∀b o,H b=some o->¬a.F m x b->J b=some o)/\(∀b vs,H b=some (.tup vs)->J b=some (.tup vs))/\∀b,I.F m x b->a.F m x b\/H b=none:=by
 intro J I;obtain⟨⟨fs,hx,M⟩,i⟩:=l;obtain⟨m1,m2,m3,m4,m5⟩:=i.n1;have Y:=f _ _ i.hsd λus e=>by cases e
 have Z:=f _ _ i.hcd λus e=>by cases e
 have p:∀b o,g b=some o->b≠a.sd->b≠a.cd->J b=some o:=λb o e n1 n2=>by
  show upd (upd g _ _) _ _ b=_;rw[xao n2,xao n1];exact e
 have G:∀b o,g b=some o->(∀U,o≠.dK U)->J b=some o:=λb o e n=>p b o e (λz=>by rw[z,Y]at e;exact n _ (Option.some.inj e).symm) λz=>by rw[z,Z]at e;exact n _ (Option.some.inj e).symm
 have j:∀b vs,g b=some (.tup vs)->J b=some (.tup vs):=λb vs e=>G b _ e λU z=>by cases z
 have O:∀z∈hn m,I.pa z≠a.sd/\I.pa z≠a.cd:=λz hz=>by
  show upF a.pa h y z≠_/\upF a.pa h y z≠_;by_cases e:z=h
  ·subst e
   rw[xa7];rcases u with u |u
   ·rw[u];exact i.np z hz
   ·exact⟨λq=>(by rw[q,i.hsd]at u;cases u),λq=>(by rw[q,i.hcd]at u;cases u)⟩
  ·rw[xbi e];exact i.np z hz
 refine⟨⟨⟨fs,G _ _ (f _ _ hx λus e=>by cases e) (λU e=>by cases e),⟨M.mkv,M.st,M.bt,M.tl,M.ct,M.len,M.no⟩⟩,?_⟩,λb o e n=>?_,λb vs e=>?_,λb hb=>?_⟩
 ·refine⟨?_,?_,?_,?_,λz hz=>?_,λz hz=>?_,λz hz=>?_,i.nl,i.nt,i.nlt,i.n1,O⟩
  ·show upd (upd g _ _) _ _ a.sd=_
   rw[xao m3,ups,xkx hh];refine congrArg some (congrArg HO.dK (xgi λz _=>?_));show upF _ h _ z=V.ref (upF a.sa h w z);unfold upF;split <;> rfl
  ·exact p _ _ (f _ _ i.hbd λus e=>by cases e) (Ne.symm m1) (Ne.symm m4)
  ·exact p _ _ (f _ _ i.htd λus e=>by cases e) (Ne.symm m2) (Ne.symm m5)
  ·show upd (upd g _ _) _ _ a.cd=_
   rw[ups,xkx hh];refine congrArg some (congrArg HO.dK (xgi λz _=>?_));rw[a2];unfold upF;split
   ·show V.int _=V.int ((s.ct h+1:Nat):Int)
    congr 1
   ·rfl
  ·have r:=O z hz
   show StAt J (upF a.sa h w z) (upF a.pa h y z) _ _;rw[a1];by_cases e:z=h
   ·subst e
    rw[xa7,xa7,xa7];have q:(I.pa z)=y:=xa7;rw[q]at r;exact a0.keep j λo e=>p _ _ e r.1 r.2
   ·rw[xbi e,xbi e,xbi e]
    have q:(I.pa z)=a.pa z:=xbi e;rw[q]at r;obtain⟨c,kvs,h2,h3⟩:=i.sta z hz;have nt:∀b vs,H b=some (.tup vs)->g b=some (.tup vs):=λb vs e=>f _ _ e λus z=>by cases z
    exact⟨j _ _ (nt _ _ c),kvs,p _ _ (f _ _ h2 λus z=>by cases z) r.1 r.2,h3.tups λb vs e=>j _ _ (nt _ _ e)⟩
  ·obtain⟨us,c,h2⟩:=lt z hz
   exact⟨us,G _ _ c (λU e=>by cases e),h2.tups j _⟩
  ·obtain⟨us,c,h2⟩:=tl z hz
   exact⟨us,G _ _ c (λU e=>by cases e),h2.tups j _⟩
 ·exact p _ _ (fr b o e n) (λz=>n (.inr (.inl z))) λz=>n (.inr (.inr (.inr (.inr (.inl z)))))
 ·exact j _ _ (f _ _ e λus z=>by cases z)
 ·rcases hb with c |c |c |c |c |c |⟨z,hz,c |c⟩
  ·exact .inl (.inl c)
  ·exact .inl (.inr (.inl c))
  ·exact .inl (.inr (.inr (.inl c)))
  ·exact .inl (.inr (.inr (.inr (.inl c))))
  ·exact .inl (.inr (.inr (.inr (.inr (.inl c)))))
  ·exact .inl (.inr (.inr (.inr (.inr (.inr (.inl c))))))
  ·exact .inl (.inr (.inr (.inr (.inr (.inr (.inr ⟨z,hz,.inl c⟩))))))
  ·by_cases e:z=h
   ·subst e
    have q:(I.pa z)=y:=xa7;rw[q]at c;rcases u with u |u
    ·exact .inl (.inr (.inr (.inr (.inr (.inr (.inr ⟨z,hz,.inr (c.trans u)⟩))))))
    ·exact .inr (by rw[c];exact u)
   ·have q:(I.pa z)=a.pa z:=xbi e
    rw[q]at c;exact .inl (.inr (.inr (.inr (.inr (.inr (.inr ⟨z,hz,.inr c⟩))))))
def begM(mk:Mak)(hd:Hand):List (Str×D):=hd.boxes.map λb=>(b.1,nuV 7 mk.kinds b.2)
def hs0(mk:Mak):HSt:=⟨λz=>(0,match xeh mk z with |some hd=>begM mk hd |none=>[]),λ_=>[],λ_=>[],λ_=>0⟩
theorem xfp{b:Mak}(c:MakOk b){hd:Hand}(a:hd∈b.hands):xeh b hd.name=some hd:=by
 unfold xeh
 cases e:b.hands.find? λh=>decide (h.name=hd.name) with
 |none=>exact absurd (zDT rfl) (List.find?_eq_none.mp e hd a)
 |some g=>
  have f:=of_decide_eq_true (List.find?_some (p:=λh:Hand=>decide (h.name=hd.name)) e);rw[xcd c.hnd (zMF e) a f]
theorem xkz{a:Mak}(b:MakOk a){hd:Hand}(c:hd∈a.hands):(hs0 a).sd hd.name=(0,begM a hd):=by
 show(0,match xeh a hd.name with |some hd=>begM a hd |none=>[])=_;rw[xfp b c]
theorem xj0{bx:List (Str×D)}(nd:(bx.map (·.1)).Nodup){b:Str×D}(h:b∈bx):enOf bx b.1=some b.2:=by
 unfold enOf
 cases e:bx.find? λc=>decide (c.1=b.1) with
 |none=>exact absurd (zDT rfl) (List.find?_eq_none.mp e b h)
 |some c=>
  have a:=of_decide_eq_true (List.find?_some (p:=λc:Str×D=>decide (c.1=b.1)) e);rw[xcd nd (zMF e) h a];rfl
theorem hok0{e:Mak}(a:MakOk e):HOk e (hs0 e) 0:=by
 have bk:∀hd:Hand,(begM e hd).map (·.1)=hd.boxes.map (·.1):=λhd=>by
  unfold begM;rw[List.map_map];rfl
 refine⟨λh b=>?_,λh b=>?_,λh b=>?_,λc i=>⟨Nat.le_refl _,λd hd=>nomatch hd⟩,λh b=>⟨Nat.le_refl _,λd hd=>nomatch hd⟩⟩
 ·rw[xkz a b];exact(a.hok h b).pos
 ·rw[xkz a b];exact bk h
 ·rw[xkz a b]
  intro p f;have g:(p.1,nuV 7 e.kinds p.2)∈begM e h:=List.mem_map.mpr ⟨p,f,rfl⟩;exact⟨_,xj0 (by rw[bk];exact(a.hok h b).nd) g,xqz a.wf 6 p.2 ((a.hok h b).kin p f)⟩
theorem HOk.bxdeep{m:Mak}{s:HSt}{N:Nat}(o:HOk m s N)(a:MakOk m){h:Hand}(f:h∈m.hands):∀b∈(s.sd h.name).2,b.2.deep<=12:=λb i=>by
 have c:=a.hok h f;have l:((s.sd h.name).2.map (·.1)).Nodup:=by rw[o.keys h f];exact c.nd
 have:b.1∈h.boxes.map (·.1):=by rw[<- o.keys h f];exact List.mem_map_of_mem i
 obtain⟨q,g,e⟩:=zMP this;obtain⟨v,j,n⟩:=o.fit h f q g;rw[e,xj0 l i]at j;cases j;exact xgo a.wf (c.kin q g) n
theorem xi9{ns:List Str}(nd:ns.Nodup){i:Nat}{z:Str}(hz:ns[i]?=some z):∀y∈ns.take i,y≠z:=λy c e=>by
 subst e;obtain⟨j,f,a⟩:=List.getElem_of_mem c;rw[List.length_take]at f;rw[List.getElem_take]at a;obtain⟨hi,b⟩:=zES hz;have:=(List.getElem_inj nd).mp (a.trans b.symm);omega
theorem xdh{ns:List Str}{i:Nat}{z:Str}(hz:ns[i]?=some z):ns.take (i+1)=ns.take i++[z]:=by rw[zTA,hz];rfl
theorem xie{ns:List Str}(nd:ns.Nodup){f:Str->V}{i:Nat}{z:Str}{v:V}(hz:ns[i]?=some z):mapK (ns.take (i+1)) (upF f z v)=mapK (ns.take i) f++[(Sum.inr z,v)]:=by
 rw[xdh hz];unfold mapK;rw[zAP,List.map_congr_left (g:=λx=>((Sum.inr x:Key),f x)) λy a=>by rw[xbi (xi9 nd hz y a)]];show _++[((Sum.inr z:Key),upF f z v z)]=_;rw[xa7]
theorem xru{f:Str->Addr}{z:Str}{l:Addr}:(λy=>V.ref (upF f z l y))=upF (λy=>V.ref (f y)) z (.ref l):=by
 funext y
 unfold upF;split <;> rfl
structure EmpAt(H H':Hp)(ns:List Str)(i:Nat)(ys:List V)(la:Str->Addr):Prop where
 pr:PairsV H' ys (mapK (ns.take i) λz=>.ref (la z))
 at_:∀z∈ns.take i,H' (la z)=some (.lst [])/\H (la z)=none
 inj:∀z∈ns.take i,∀y∈ns.take i,la z=la y->z=y
theorem EmpAt.snoc {H g:Hp} {ns:List Str} {i:Nat} {ys:List V} {j:Str->Addr} (e:EmpAt H g ns i ys j) (s:Same H g) (nd:ns.Nodup) {z:Str} (hz:ns[i]?=some z) {l t:Addr} (m:g l=none) (r:upd g l (.lst []) t=none) :
  EmpAt H (upd (upd g l (.lst [])) t (.tup [.str z,.ref l])) ns (i+1) (ys++[.ref t]) (upF j z l):=by
 have o:=Same.new m (.lst []);have n:=Same.new r (.tup [.str z,.ref l]);have c:=o.trans n;have f:=xi9 nd hz;refine⟨?_,λy b=>?_,λy b h a q=>?_⟩
 ·rw[xru,xie nd hz]
  exact(e.pr.same (Same.tups c)).append ⟨⟨t,rfl,ups⟩,trivial⟩
 ·rw[xdh hz]at b
  rcases zMA b with b |b
  ·rw[xbi (f y b)]
   exact⟨c _ _ (e.at_ y b).1,(e.at_ y b).2⟩
  ·rw[zMO b,xa7]
   exact⟨n _ _ ups,xay s m⟩
 ·rw[xdh hz]at b a
  have old:∀u∈ns.take i,j u≠l:=λu p q=>by have:=(e.at_ u p).1;rw[q,m]at this;cases this
  rcases zMA b with b |b <;> rcases zMA a with a |a
  ·rw[xbi (f y b),xbi (f h a)]at q
   exact e.inj y b h a q
  ·rw[zMO a,xbi (f y b),xa7]at q
   exact absurd q (old y b)
  ·rw[zMO b,xbi (f h a),xa7]at q
   exact absurd q.symm (old h a)
  ·rw[zMO b,zMO a]
structure NewSt(H H':Hp)(ns:List Str)(i:Nat)(ys:List V)(s:HSt)(sa pa:Str->Addr):Prop where
 pr:PairsV H' ys (mapK (ns.take i) λz=>.ref (sa z))
 at_:∀z∈ns.take i,StAt H' (sa z) (pa z) (s.sd z).1 (s.sd z).2/\H (pa z)=none
theorem NewSt.snoc {H g f:Hp} {ns:List Str} {i:Nat} {ys:List V} {s:HSt} {h pa:Str->Addr} (e:NewSt H g ns i ys s h pa) (q:Same H g) (m:Same g f) (nd:ns.Nodup) {z:Str} (hz:ns[i]?=some z) {a p t:Addr} (o:g p=none) (st:StAt f a p (s.sd z).1 (s.sd z).2) (n:f t=none) :
  NewSt H (upd f t (.tup [.str z,.ref a])) ns (i+1) (ys++[.ref t]) s (upF h z a) (upF pa z p):=by
 have j:=Same.new n (.tup [.str z,.ref a]);have c:=m.trans j;have l:=xi9 nd hz;refine⟨?_,λy b=>?_⟩
 ·rw[xru,xie nd hz]
  exact(e.pr.same (Same.tups c)).append ⟨⟨t,rfl,ups⟩,trivial⟩
 ·rw[xdh hz]at b
  rcases zMA b with b |b
  ·rw[xbi (l y b),xbi (l y b)]
   exact⟨(e.at_ y b).1.same c,(e.at_ y b).2⟩
  ·rw[zMO b,xa7,xa7]
   exact⟨st.same j,xay q o⟩
end M
end
section
namespace L2
open PySem PySem.Spec PyProof.Rows
section
variable {X:Cx}
def xqm:V->List V->Hp->VK->Prop:=λx vs H Q=>∃(l:Addr) (xs:List V) (i:Nat) (y:V),x=.ref l/\vs=[.int i,y]/\H l=some (.lst xs)/\i<=xs.length/\xs.length<1000/\Q .non (upd H l (.lst (xs.take i++y::xs.drop i)))
theorem xnb:MtM X "list.insert" xqm:=by
 intro c s σ H x vs v us Q I o p h;obtain⟨l,xs,i,y,rfl,rfl,j,hi,hz,q⟩:=h;cases o;obtain⟨u,a,rfl,w,m⟩:=p.two;obtain⟨t,rfl⟩:=w;obtain⟨z,its,n,r,g,e⟩:=I.lstM j;have hs:its.toArray.size<=sizeLine:=by rw[List.size_toArray,<- g];exact z
 obtain⟨x,f⟩:∃x:Int,x=(i:Int):=⟨_,rfl⟩;rw[<- f]
 have C:(!Builtin.List.listFitsIndex x)=false:=by
  unfold Builtin.List.listFitsIndex;rw[zDT (show -(2 ^ 63:Int)<=x by omega),zDT (show x<(2 ^ 63:Int) by omega)];rfl
 have b:¬(!Builtin.List.listFitsIndex x)=true:=by rw[C];exact Bool.false_ne_true
 refine call_meets F.slot_list_insert ⟨_,e,rfl⟩ F.entry_list_insert (F.args_list_insert_3 _ _ _) (AutoListH.list_insert_list_int_val_1 l its.toArray n x t a b hs) ⟨e,?_⟩;subst f;refine⟨.non,_,I.lset (its':=its.take i++a::its.drop i) j e ?_ ((r.take i).append (.cons m (r.drop i))) ?_,rfl,q⟩
 ·show((its.toArray.extract 0 _).push a++its.toArray.extract _)=_
  rw[if_neg (by omega),Int.toNat_natCast,List.size_toArray,<- g,Nat.min_eq_left hi];apply Array.toList_inj.mp;simp;exact zTL (by rw[List.length_drop];omega)
 ·rw[zLA,List.length_cons,List.length_take,List.length_drop]
  have:(1000:Nat)<=sizeLine:=by decide
  omega
end
end L2
end
section
local macro_rules | `(tactic| obtain $p:rcasesPatMed:=$e:term)=>`(tactic| ((refine gcut λG hG=>?_;rcases $e:term with $p:rcasesPatMed) <;> refine hG ?_))
section
namespace L2
open PySem
abbrev qaa:List Str:=["self","h"]
abbrev qab:List Str:=["_law_kinds_here","_law_kind"]
abbrev qac:List Str:=["_law_feed_here","_law_many"]
abbrev qad:List Str:=["kinds","term","boxes"]
abbrev qae:List Str:=["_law_house","_law_make_here"]
abbrev qaf:List Str:=["_law_feed_here","_law_kinds_here","_law_boxes_here","_law_kind","_law_room","_law_deep"]
abbrev qag:List Str:=["make","h"]
abbrev qah:List Str:=["self","make"]
abbrev qai:List Str:=["kinds","K"]
abbrev qaj:List Str:=["make","h","stand"]
abbrev qak:List Str:=["_law_feed_here","_law_kinds_here","_law_boxes_here","_law_kind"]
abbrev qal:List Str:=["_law_make_here"]
abbrev qam:List Str:=["_law_feed_here","_law_kinds_here"]
abbrev qan:List Str:=["boxes","x","thing"]
abbrev qao:List Str:=["kinds","kind"]
abbrev qap:List Str:=["row","letters"]
abbrev qaq:List Str:=["make","h","stand","letter"]
abbrev qar:List Str:=["_law_script","_law_k"]
abbrev qas:List Str:=["_law_channels_here","_law_h","_law_boxes_here"]
abbrev qat:List Str:=["self","c"]
abbrev qau:List Str:=["self","hands"]
abbrev qav:List Str:=["sign","a","b"]
abbrev qaw:List Str:=["make","row","boxes","letter"]
abbrev qax:List Str:=["make","h","stand","coming","going","tellings"]
abbrev qay:List Str:=["_law_feed_here","_law_kinds_here","_law_sort","_law_names_here"]
abbrev qaz:List Str:=["_law_feed_here","_law_some"]
abbrev qa0:List Str:=["_law_feed_here","_law_kinds_here","_law_channels_here","_law_h","_law_boxes_here","_law_marks"]
abbrev qa1:List Str:=["_law_feed_here","_law_kinds_here","_law_channels_here","_law_h","_law_boxes_here","_law_names_here"]
abbrev qa2:List Str:=["_law_script","_law_at","_law_names_here"]
abbrev qa3:List Str:=["_law_script","_law_at","_law_kinds_here","_law_channels_here","_law_many","_law_names_here"]
abbrev qa4:List Str:=["things","name"]
abbrev qa5:List Str:=["kinds","value","f"]
abbrev qa6:List Str:=["make","row","stand"]
abbrev qa7:List Str:=["_law_cell","_law_many"]
abbrev qa8:List Str:=["_law_feed_here"]
abbrev qa9:List Str:=["_law_feed_here","_law_names_here"]
abbrev qba:List Str:=["_law_feed_here","_law_kinds_here","_law_boxes_here","_law_parts_here","_law_kind","_law_room","_law_deep"]
abbrev qbb:List Str:=["_law_feed_here","_law_kinds_here","_law_names_here","_law_hands_here"]
abbrev qbc:List Str:=["_law_feed_here","_law_kinds_here","_law_channels_here","_law_h","_law_names_here"]
abbrev qbd:List Str:=["_law_script","_law_at","_law_make_here"]
abbrev qbe:List Str:=["_law_house","_law_hand"]
end L2
namespace K38
open PySem L2 M
seal L2.PE L2.PA L2.PS L2.PSs L2.PT L2.PW L2.PI L2.PG L2.PJ L2.PTs
def top(i:Nat):Stmt:=PySem.Challenge.pw_swapstride_k38_still_houses.main.body.getD i (.Pass ⟨0,0,0,0⟩)
abbrev s_row_ways:Stmt:=top 1
theorem xjh:FnScope ["row","k"] ["row","k"] (xac s_row_ways):=by walk_at"q"
abbrev s_hand_of:Stmt:=top 2
theorem xlg:FnScope qag qag (xac s_hand_of):=by walk_at"q"
abbrev s_named:Stmt:=top 3
theorem sc_named:FnScope ["things","name","thing"] qa4 (xac s_named):=by walk_at"q"
abbrev s_sort_of:Stmt:=top 5
theorem sc_sort_of:FnScope ["kinds","K","name","sort","parts"] qai (xac s_sort_of):=by walk_at"q"
abbrev s_parts_of:Stmt:=top 6
theorem sc_parts_of:FnScope ["kinds","K","name","sort","parts"] qai (xac s_parts_of):=by walk_at"q"
abbrev s_with_box:Stmt:=top 9
theorem sc_with_box:FnScope ["boxes","x","thing","more"] qan (xac s_with_box):=by walk_at"q"
abbrev s_nought:Stmt:=top 11
theorem sc_nought:FnScope ["kinds","kind","parts"] qao (xac s_nought):=by walk_at"q"
abbrev s_field:Stmt:=top 12
theorem sc_field:FnScope ["kinds","value","f","names"] qa5 (xac s_field):=by walk_at"q"
abbrev s_worth:Stmt:=top 14
theorem sc_worth:FnScope ["kinds","term","boxes","head","taken"] qad (xac s_worth):=by walk_at"q"
abbrev s_op_worth:Stmt:=top 15
theorem xji:FnScope qav qav (xac s_op_worth):=by walk_at"q"
abbrev s_case_worth:Stmt:=top 16
theorem sc_case_worth:FnScope ["kinds","term","boxes","value","arm"] qad (xac s_case_worth):=by walk_at"q"
abbrev s_begin_of:Stmt:=top 18
theorem xjj:FnScope qag qag (xac s_begin_of):=by walk_at"q"
abbrev s_own_stand:Stmt:=top 19
theorem xhw:FnScope ["stand"] ["stand"] (xac s_own_stand):=by walk_at"q"
abbrev s_row_at:Stmt:=top 20
theorem xmj:FnScope qaj qaj (xac s_row_at):=by walk_at"q"
abbrev s_first_letter:Stmt:=top 21
theorem xff:FnScope qap qap (xac s_first_letter):=by walk_at"q"
abbrev s_stride:Stmt:=top 22
theorem sc_stride:FnScope ["make","h","stand","letter","row"] qaq (xac s_stride):=by walk_at"q"
abbrev s_row_behind:Stmt:=top 23
theorem sc_row_behind:FnScope ["make","row","stand","ways"] qa6 (xac s_row_behind):=by walk_at"q"
abbrev s_boxes_behind:Stmt:=top 24
theorem xfg:FnScope qaw qaw (xac s_boxes_behind):=by walk_at"q"
abbrev s_done:Stmt:=top 25
theorem sc_done:FnScope ["make","h","stand","coming","going","tellings","row","behind"] qax (xac s_done):=by walk_at"q"
abbrev sl_feed:Stmt:=top 31
theorem scl_feed:FnScope ["_law_script","_law_k","_law_cell"] qar (xac sl_feed):=by walk_at"q"
abbrev sl_take:Stmt:=top 32
theorem scl_take:FnScope ["_law_feed_here","_law_many","_law_digit","_law_one"] qac (xac sl_take):=by walk_at"q"
abbrev sl_names:Stmt:=top 33
theorem scl_names:FnScope ["_law_cell","_law_many","_law_letters","_law_size_here","_law_at","_law_common","_law_found"] qa7 (xac sl_names):=by walk_at"q"
abbrev sl_number:Stmt:=top 34
theorem scl_number:FnScope ["_law_feed_here","_law_form"] qa8 (xac sl_number):=by walk_at"q"
abbrev sl_sort_of:Stmt:=top 35
theorem scl_sort_of:FnScope ["_law_kinds_here","_law_kind","_law_name","_law_sort","_law_parts_here"] qab (xac sl_sort_of):=by walk_at"q"
abbrev sl_size:Stmt:=top 36
theorem scl_size:FnScope ["_law_kinds_here","_law_kind","_law_sort","_law_parts_here","_law_sizes"] qab (xac sl_size):=by walk_at"q"
abbrev sl_small:Stmt:=top 37
theorem scl_small:FnScope ["_law_kinds_here","_law_kind","_law_sort","_law_parts_here"] qab (xac sl_small):=by walk_at"q"
abbrev sl_parts:Stmt:=top 38
theorem scl_parts:FnScope ["_law_feed_here","_law_kinds_here","_law_sort","_law_names_here","_law_parts_here","_law_left","_law_j","_law_kind"] qay (xac sl_parts):=by walk_at"q"
abbrev sl_kinds:Stmt:=top 39
theorem scl_kinds:FnScope ["_law_feed_here","_law_names_here","_law_kinds_here","_law_k","_law_sort"] qa9 (xac sl_kinds):=by walk_at"q"
abbrev sl_boxed:Stmt:=top 40
theorem xmi:FnScope qaz qaz (xac sl_boxed):=by walk_at"q"
abbrev sl_arms:Stmt:=top 41
theorem scl_arms:FnScope ["_law_feed_here","_law_kinds_here","_law_boxes_here","_law_parts_here","_law_kind","_law_room","_law_deep","_law_arms_here","_law_each","_law_t","_law_part","_law_x"] qba (xac sl_arms):=by walk_at"q"
abbrev sl_whole_term:Stmt:=top 42
theorem scl_whole_term:FnScope ["_law_feed_here","_law_kinds_here","_law_boxes_here","_law_kind","_law_room","_law_deep","_law_sort","_law_parts_here","_law_one","_law_other","_law_some","_law_t","_law_part","_law_more","_law_terms","_law_f"] qaf (xac sl_whole_term):=by walk_at"q"
abbrev sl_term:Stmt:=top 43
theorem scl_term:FnScope ["_law_feed_here","_law_kinds_here","_law_boxes_here","_law_kind","_law_room","_law_deep","_law_some","_law_form","_law_small_here","_law_more","_law_one","_law_first","_law_held","_law_x","_law_told","_law_sort","_law_parts_here","_law_f","_law_tags"] qaf (xac sl_term):=by walk_at"q"
abbrev sl_new_term:Stmt:=top 44
theorem xhu:FnScope qak qak (xac sl_new_term):=by walk_at"q"
abbrev sl_any_kind:Stmt:=top 45
theorem scl_any_kind:FnScope qam qam (xac sl_any_kind):=by walk_at"q"
abbrev sl_channels:Stmt:=top 46
theorem scl_channels:FnScope ["_law_feed_here","_law_kinds_here","_law_names_here","_law_hands_here","_law_found","_law_turn","_law_k","_law_ends"] qbb (xac sl_channels):=by walk_at"q"
abbrev sl_boxes:Stmt:=top 47
theorem scl_boxes:FnScope ["_law_feed_here","_law_kinds_here","_law_channels_here","_law_h","_law_names_here","_law_wants","_law_c","_law_come","_law_to","_law_kind","_law_k","_law_turn"] qbc (xac sl_boxes):=by walk_at"q"
abbrev sl_into:Stmt:=top 48
theorem scl_into:FnScope ["_law_channels_here","_law_h","_law_boxes_here","_law_found","_law_c","_law_come","_law_to","_law_kind"] qas (xac sl_into):=by walk_at"q"
abbrev sl_deal:Stmt:=top 49
theorem scl_deal:FnScope ["_law_feed_here","_law_kinds_here","_law_channels_here","_law_h","_law_boxes_here","_law_marks","_law_form","_law_into_here","_law_out","_law_c","_law_x","_law_kind"] qa0 (xac sl_deal):=by walk_at"q"
abbrev sl_rows:Stmt:=top 50
theorem scl_rows:FnScope ["_law_feed_here","_law_kinds_here","_law_channels_here","_law_h","_law_boxes_here","_law_names_here","_law_marks","_law_rows_here","_law_many","_law_at","_law_form","_law_test","_law_into_here","_law_c","_law_x"] qa1 (xac sl_rows):=by walk_at"q"
abbrev sl_make:Stmt:=top 51
theorem scl_make:FnScope ["_law_script","_law_at","_law_names_here","_law_kinds_here","_law_feed_here","_law_hands_here"] qa2 (xac sl_make):=by walk_at"q"
abbrev sl_hands:Stmt:=top 52
theorem scl_hands:FnScope ["_law_script","_law_at","_law_kinds_here","_law_channels_here","_law_many","_law_names_here","_law_found","_law_k","_law_feed_here","_law_boxes_here"] qa3 (xac sl_hands):=by walk_at"q"
abbrev sl_hands_of:Stmt:=top 53
theorem xhv:FnScope qal qal (xac sl_hands_of):=by walk_at"q"
abbrev sl_weaving:Stmt:=top 54
theorem scl_weaving:FnScope ["_law_script","_law_at","_law_make_here","_law_found","_law_k","_law_feed_here"] qbd (xac sl_weaving):=by walk_at"q"
abbrev sl_state:Stmt:=top 55
theorem scl_state:FnScope ["_law_house","_law_make_here","_law_found","_law_h"] qae (xac sl_state):=by walk_at"q"
abbrev sl_waits:Stmt:=top 56
theorem scl_waits:FnScope ["_law_house","_law_hand","_law_row"] qbe (xac sl_waits):=by walk_at"q"
abbrev sl_still:Stmt:=top 57
theorem scl_still:FnScope ["_law_house","_law_make_here","_law_due","_law_found"] qae (xac sl_still):=by walk_at"q"
abbrev sl_rests:Stmt:=top 58
theorem scl_rests:FnScope ["_law_house","_law_make_here","_law_before","_law_h"] qae (xac sl_rests):=by walk_at"q"
abbrev s_law:Stmt:=top 59
theorem sc_law:FnScope ["_law_script","_law_names_here","_law_make_here","_law_house","_law_k","_law_other","_law_h"] ["_law_script"] (xac s_law):=by walk_at"q"
abbrev s_House_init:Stmt:=xd2 (top 27) 0
theorem xgx:FnScope qah qah (xac s_House_init):=by walk_at"q"
abbrev s_Plain_stand:Stmt:=xd2 (top 27) 1
theorem xf0:FnScope qaa qaa (xac s_Plain_stand):=by walk_at"q"
abbrev s_Plain_told:Stmt:=xd2 (top 27) 2
theorem xgv:FnScope qaa qaa (xac s_Plain_told):=by walk_at"q"
abbrev s_Plain_letters:Stmt:=xd2 (top 27) 3
theorem xes:FnScope qat qat (xac s_Plain_letters):=by walk_at"q"
abbrev s_Plain_count:Stmt:=xd2 (top 27) 4
theorem xf1:FnScope qaa qaa (xac s_Plain_count):=by walk_at"q"
abbrev s_Plain_init:Stmt:=xd2 (top 29) 0
theorem xgw:FnScope qah qah (xac s_Plain_init):=by walk_at"q"
abbrev s_Plain_step:Stmt:=xd2 (top 29) 1
theorem sc_Plain_step:FnScope ["self","h","behind"] qaa (xac s_Plain_step):=by walk_at"q"
abbrev s_Plain_weave:Stmt:=xd2 (top 29) 2
theorem sc_Plain_weave:FnScope ["self","hands","many","h"] qau (xac s_Plain_weave):=by walk_at"q"
abbrev s_Plain_still:Stmt:=xd2 (top 29) 3
theorem xfz:FnScope ["self"] ["self"] (xac s_Plain_still):=by walk_at"q"
abbrev s_Plain_stays:Stmt:=xd2 (top 29) 4
theorem sc_Plain_stays:FnScope ["self","h","now"] qaa (xac s_Plain_stays):=by walk_at"q"
structure Tx(K:Fg)(mg:Str->Option Value):Prop where
 jA:DefTx K mg "row_ways" s_row_ways ["row","k"]
 jB:DefTx K mg "hand_of" s_hand_of qag
 jC:DefTx K mg "named" s_named qa4
 jD:DefTx K mg "sort_of" s_sort_of qai
 jE:DefTx K mg "parts_of" s_parts_of qai
 jF:DefTx K mg "with_box" s_with_box qan
 jG:DefTx K mg "nought" s_nought qao
 jH:DefTx K mg "field" s_field qa5
 jI:DefTx K mg "worth" s_worth qad
 jJ:DefTx K mg "op_worth" s_op_worth qav
 jK:DefTx K mg "case_worth" s_case_worth qad
 jL:DefTx K mg "begin_of" s_begin_of qag
 jM:DefTx K mg "own_stand" s_own_stand ["stand"]
 jN:DefTx K mg "row_at" s_row_at qaj
 jO:DefTx K mg "first_letter" s_first_letter qap
 jP:DefTx K mg "stride" s_stride qaq
 jQ:DefTx K mg "row_behind" s_row_behind qa6
 jR:DefTx K mg "boxes_behind" s_boxes_behind qaw
 jS:DefTx K mg "done" s_done qax
 jT:DefTx K mg "_law_feed" sl_feed qar
 jU:DefTx K mg "_law_take" sl_take qac
 jV:DefTx K mg "_law_names" sl_names qa7
 jW:DefTx K mg "_law_number" sl_number qa8
 jX:DefTx K mg "_law_sort_of" sl_sort_of qab
 jY:DefTx K mg "_law_size" sl_size qab
 jZ:DefTx K mg "_law_small" sl_small qab
 j0:DefTx K mg "_law_parts" sl_parts qay
 j1:DefTx K mg "_law_kinds" sl_kinds qa9
 j2:DefTx K mg "_law_boxed" sl_boxed qaz
 j3:DefTx K mg "_law_arms" sl_arms qba
 j4:DefTx K mg "_law_whole_term" sl_whole_term qaf
 j5:DefTx K mg "_law_term" sl_term qaf
 j6:DefTx K mg "_law_new_term" sl_new_term qak
 j7:DefTx K mg "_law_any_kind" sl_any_kind qam
 j8:DefTx K mg "_law_channels" sl_channels qbb
 j9:DefTx K mg "_law_boxes" sl_boxes qbc
 kA:DefTx K mg "_law_into" sl_into qas
 kB:DefTx K mg "_law_deal" sl_deal qa0
 kC:DefTx K mg "_law_rows" sl_rows qa1
 kD:DefTx K mg "_law_make" sl_make qa2
 kE:DefTx K mg "_law_hands" sl_hands qa3
 kF:DefTx K mg "_law_hands_of" sl_hands_of qal
 kG:DefTx K mg "_law_weaving" sl_weaving qbd
 kH:DefTx K mg "_law_state" sl_state qae
 kI:DefTx K mg "_law_waits" sl_waits qbe
 kJ:DefTx K mg "_law_still" sl_still qae
 kK:DefTx K mg "_law_rests" sl_rests qae
 kL:DefTx K mg "law" s_law ["_law_script"]
 kM:∃t,mg "WIDE"=some (.int 4294967296 t)
 kN:mg "all"=none
 kO:mg "bool"=none
 kP:mg "dict"=none
 kQ:mg "int"=none
 kR:mg "isinstance"=none
 kS:mg "len"=none
 kT:mg "list"=none
 kU:mg "max"=none
 kW:mg "min"=none
 kX:mg "range"=none
 kY:mg "sum"=none
 kZ:mg "tuple"=none
 k0:mg "Plain"=some (.ref (ad K "Plain"))
 k3:DTab K "Plain" ["make","stands","between","tellings","counts"]
 k4:mg "House"=some (.ref (ad K "House"))
 k5:CTab K "House" "__init__"
 k6:MethTx K "House.__init__" (ad K "House") "__init__" s_House_init qah [[]]
 k7:MethTx K "House.stand" (ad K "Plain") "stand" s_Plain_stand qaa [[]]
 k8:MethTx K "House.told" (ad K "Plain") "told" s_Plain_told qaa [[]]
 k9:MethTx K "House.letters" (ad K "Plain") "letters" s_Plain_letters qat [[]]
 uA:MethTx K "House.count" (ad K "Plain") "count" s_Plain_count qaa [[]]
 uB:MethTx K "Plain.__init__" (ad K "Plain") "__init__" s_Plain_init qah [[]]
 uC:MethTx K "Plain.step" (ad K "Plain") "step" s_Plain_step qaa [[]]
 uD:MethTx K "Plain.weave" (ad K "Plain") "weave" s_Plain_weave qau [[]]
 uE:MethTx K "Plain.still" (ad K "Plain") "still" s_Plain_still ["self"] [[]]
 uF:MethTx K "Plain.stays" (ad K "Plain") "stays" s_Plain_stays qaa [[]]
theorem fits{n:Nat}(h:n<=4000000):n<=sizeLine:=Nat.le_trans h (by decide)
theorem xa4{n:Nat}(h:n<=4000000):n<sizeLine:=Nat.lt_of_le_of_lt h (by decide)
def xkg:Sp:=λvs H Q _=>∃v ks x,vs=[v,.str x]/\KsAt H v ks/\Q (xtx (kAt ks x)) H
def xfb:Sp:=λvs H Q _=>∃v ks x,vs=[v,.str x]/\KsAt H v ks/\∀u H',Same H H'->RelD H' u (xkq (kAt ks x))->Q u H'
section
variable {P:Program}{w:World}{K:Fg}{mg:Str->Option Value}{base:Heap}{n:Nat}
theorem xgg(T:Tx K y):DefIs P w K y base (n+1) "sort_of" qai xkg:=by
 refine DefIs.of T.jD sc_sort_of (by walk_at"l") (λf O A outer s H vs Q E Z h=>?_);obtain⟨v,ks,x,rfl,I,q⟩:=h;have nd:=sc_sort_of.nd
 refine⟨_,(zpn (xca PassesOwn.never rfl (xaw (K:=K) rfl (pv 0)) (xbk (K:=K) rfl rfl (xaf (pgn 2 nd) (xaf (pgn 3 nd) (xaf (pgn 4 nd) xbj))))
   (zpo (xa6 (pR xa9 (pv 2) (pv 1) (nM _)) (zpo (xae (pv 3))) pQ)))
   (zpo (xae xeb))),?_⟩
 obtain⟨a,us,rfl,r,u⟩:=I.1;refine(xbd _ rfl a rfl ⟨_,SqT.of r⟩ ?_);have G:=u.length;rw[zLM]at G;refine xdl (xs:=us) (λi σ j=>∃o m l,σ=[some (.ref a),some (.str x),o,m,l]/\j=H/\(ks.take i).find? (λk=>decide (k.name=x))=none) (xbo none none none rfl rfl rfl) (λi σ j _ p=>?_) ?_ ?_
 ·obtain⟨_,_,_,_,rfl,_⟩:=p
  exact SqT.of r
 ·rintro i v σ j C ⟨o,m,l,rfl,rfl,hn⟩
  obtain⟨d,hd,rd⟩:=u.get C;rw[zGM]at hd;obtain⟨k,g,rfl⟩:=zMS hd;obtain⟨b,ws,rfl,J,_,_,rfl,rfl,_,_,rfl,rfl,U,_,rfl,Y,rfl⟩:=rd;refine(xa2 b _ rfl (SqT.of J) rfl _ _ rfl _ (xa0 _ rfl _ _ rfl rfl ?_));refine(xcp _ rfl _ rfl rfl _ rfl (ite2 (λc=>?_) (λc=>?_)))
  ·have e:k.name=x:=V.str.inj (of_decide_eq_true c)
   have M:kAt ks x=some k:=(xcs hn g).1 (zDT e);refine(jEA _ rfl ?_);rw[M]at q;exact q
  ·have e:¬k.name=x:=λz=>c (zDT (congrArg V.str z))
   exact(xbo _ _ _ rfl rfl ((xcs hn g).2 (zDF e)))
 ·rintro σ j ⟨o,m,l,rfl,rfl,hn⟩
  rw[zTL (by omega)]at hn;rw[show kAt ks x=none from hn]at q;exact q
theorem xd7(T:Tx K C):DefIs P w K C base (n+1) "parts_of" qai xfb:=by
 refine DefIs.of T.jE sc_parts_of (by walk_at"l") (λf Y A outer s H vs Q E hr h=>?_);obtain⟨v,ks,x,rfl,M,q⟩:=h;have nd:=sc_parts_of.nd
 refine⟨_,(zpn (xca PassesOwn.never rfl (xaw (K:=K) rfl (pv 0)) (xbk (K:=K) rfl rfl (xaf (pgn 2 nd) (xaf (pgn 3 nd) (xaf (pgn 4 nd) xbj))))
   (zpo (xa6 (pR xa9 (pv 2) (pv 1) (nM _)) (zpo (xae (pv 4))) pQ)))
   (zpo (xae (xau pN)))),?_⟩
 obtain⟨a,us,rfl,r,u⟩:=M.1;refine(xbd _ rfl a rfl ⟨_,SqT.of r⟩ ?_);have J:=u.length;rw[zLM]at J;refine xdl (xs:=us) (λi σ j=>∃o m l,σ=[some (.ref a),some (.str x),o,m,l]/\j=H/\(ks.take i).find? (λk=>decide (k.name=x))=none) (xbo none none none rfl rfl rfl) (λi σ j _ p=>?_) ?_ ?_
 ·obtain⟨_,_,_,_,rfl,_⟩:=p
  exact SqT.of r
 ·rintro i v σ j G ⟨o,m,l,rfl,rfl,hn⟩
  obtain⟨d,hd,rd⟩:=u.get G;rw[zGM]at hd;obtain⟨k,g,rfl⟩:=zMS hd;obtain⟨b,ws,rfl,O,_,_,rfl,rfl,_,_,rfl,rfl,Z,_,rfl,y,rfl⟩:=rd;refine(xa2 b _ rfl (SqT.of O) rfl _ _ rfl _ (xa0 _ rfl _ _ rfl rfl ?_));refine(xcp _ rfl _ rfl rfl _ rfl (ite2 (λc=>?_) (λc=>?_)))
  ·have e:k.name=x:=V.str.inj (of_decide_eq_true c)
   have U:kAt ks x=some k:=(xcs hn g).1 (zDT e);refine(jEA _ rfl ?_);rw[U]at q;exact q _ _ (Same.refl _) y
  ·have e:¬k.name=x:=λz=>c (zDT (congrArg V.str z))
   exact(xbo _ _ _ rfl rfl ((xcs hn g).2 (zDF e)))
 ·rintro σ j ⟨o,m,l,rfl,rfl,hn⟩
  rw[zTL (by omega)]at hn;rw[show kAt ks x=none from hn]at q;exact⟨(by walk_at"s"),λp I=>q _ _ (Same.new I _) (xas p ([]) rfl ups rfl)⟩
end
abbrev RW:=List Kn->En->D->D->Prop
def xc0(R:RW)(m:Nat):Sp:=λvs H Q _=>∃kv tv p ks d env val,vs=[kv,tv,.ref p]/\KsAt H kv ks/\RelD H tv d/\EnAt H p m env/\R ks env d val/\∀u H',Same H H'->RelD H' u val->Q u H'
def xhp:Sp:=λvs H Q _=>∃s x y,vs=[.str s,.int x,.int y]/\Nm x/\Nm y/\Q (.int (opV s x y)) H
section
variable {P:Program}{w:World}{K:Fg}{mg:Str->Option Value}{base:Heap}{n m:Nat}
theorem xjq(T:Tx K g):DefIs P w K g base (n+1) "op_worth" qav xhp:=by
 refine DefIs.of T.jJ xji (by walk_at"l") (λf j A outer s H vs Q E p h=>?_);obtain⟨s,x,y,rfl,i,o,q⟩:=h
 refine⟨_,(zpn (xa6 (pR xa9 (pv 0) pS (nM _)) (zpo (xae (xak xcc (xak xba (pv 1) (pv 2)) (xjl T.kM)))) pQ)
   (zpn (xa6 (pR xa9 (pv 0) pS (nM _)) (zpo (xae (xak xcc (xak xcg (pv 1) (pv 2)) (xjl T.kM)))) pQ)
   (zpn (xa6 (pR xa9 (pv 0) pS (nM _)) (zpo (xae (xak xcc (xak xc5 (pv 1) (pv 2)) (xjl T.kM)))) pQ)
   (zpn (xa6 (pR xa9 (pv 0) pS (nM _)) (zpo (xae (xe2 (pR xfi (pv 1) (pv 2) (nM _)) pI pI))) pQ)
   (zpo (xae (xe2 (pR xa9 (pv 1) (pv 2) (nM _)) pI pI))))))),?_⟩
 have pos:(0:Int)<4294967296:=by decide
 unfold opV at q;refine(xa3 _ rfl rfl _ rfl (ite2 (λc=>?_) (λc=>?_)))
 ·rw[if_pos (show s=S "+" from V.str.inj (of_decide_eq_true c))]at q
  exact(xbe _ rfl _ rfl _ _ rfl rfl _ (xby _ rfl rfl pos q))
 rw[if_neg (show ¬s=S "+" from λz=>c (zDT (congrArg V.str z)))]at q;refine(xa3 _ rfl rfl _ rfl (ite2 (λc=>?_) (λc=>?_)))
 ·rw[if_pos (show s=S "-" from V.str.inj (of_decide_eq_true c))]at q
  exact(xbe _ rfl _ rfl _ _ rfl rfl _ (xby _ rfl rfl pos q))
 rw[if_neg (show ¬s=S "-" from λz=>c (zDT (congrArg V.str z)))]at q;refine(xa3 _ rfl rfl _ rfl (ite2 (λc=>?_) (λc=>?_)))
 ·rw[if_pos (show s=S "*" from V.str.inj (of_decide_eq_true c))]at q
  obtain⟨m,l⟩:=i;exact(jEA _ rfl (xa0 _ rfl _ _ rfl rfl (jAE (.inl ⟨by omega,by omega⟩) _ (xby _ rfl rfl pos q))))
 rw[if_neg (show ¬s=S "*" from λz=>c (zDT (congrArg V.str z)))]at q;refine(xa3 _ rfl rfl _ rfl (ite2 (λc=>?_) (λc=>?_)))
 ·rw[if_pos (show s=S "<" from V.str.inj (of_decide_eq_true c))]at q
  refine(xbe _ rfl _ rfl _ _ rfl rfl _ ⟨rfl,ite2 (λe=>?_) (λe=>?_)⟩)
  ·rw[if_pos (of_decide_eq_true e)]at q
   exact q
  ·rw[if_neg (λz=>e (zDT z))]at q
   exact q
 rw[if_neg (show ¬s=S "<" from λz=>c (zDT (congrArg V.str z)))]at q;refine(xcp _ rfl _ rfl rfl _ rfl (ite2 (λe=>?_) (λe=>?_)))
 ·rw[if_pos (V.int.inj (of_decide_eq_true e))]at q
  exact q
 ·rw[if_neg (λz=>e (zDT (congrArg V.int z)))]at q
  exact q
def xhm(m:Nat):Sp:=λvs H Q _=>∃p x v d env,vs=[.ref p,.str x,v]/\EnAt H p m env/\RelD H v d/\m<=1000/\∀p' H',Same H H'->EnAt H' p' (m+1) (env.put x d)->Q (.ref p') H'
def xr8:Sp:=λvs H Q _=>∃p x v,∃kvs:List (Key×V),vs=[.ref p,.str x,v]/\H p=some (.dK kvs)/\kvs.length<=2000/\∀p' H',Same H H'->H p'=none->H' p'=some (.dK (putK kvs (Sum.inr x) v))->Q (.ref p') H'
theorem xpv(T:Tx K b):DefIs P w K b base (n+1) "with_box" qan xr8:=by
 refine DefIs.of T.jF sc_with_box (by walk_at"l") (λf j A outer s H vs Q E g h=>?_);obtain⟨p,x,v,kvs,rfl,i,l,q⟩:=h;have nd:=sc_with_box.nd;have e:=xeg g
 refine⟨_,(zpn (psn 3 nd (xat xgn rfl T.kP PyProof.Rows.boot_dict (v1 0)))
   (zpn (xjk e (pv 3) (pv 1) (pv 2) rfl)
   (zpo (xae (pv 3))))),?_⟩
 refine(xa0 _ rfl p kvs rfl i (λc a=>?_));refine(xaq _ rfl _ rfl _ rfl c _ rfl (DPut.k (k:=Sum.inr x) ups (xa4 (by omega))) (jEA _ rfl ?_));exact q c _ (Same.new2 a (.dK kvs) (.dK (putK kvs (Sum.inr x) v))) a ups
theorem xjo(T:Tx K c):DefIs P w K c base (n+1) "with_box" qan (xhm m):=(xpv T).imp λvs H Q E h=>by
 obtain⟨p,x,v,d,env,rfl,⟨kvs,a,g,i⟩,e,l,q⟩:=h;exact(jEEE p x v (xby kvs rfl a (by omega) (λb j s f h'=>q b j s (EnAt.put a g i s (e.same s _) h'))))
def xma:Sp:=λvs H Q _=>∃kv vv ks k kn ws f i d,vs=[kv,vv,.str f]/\KsAt H kv ks/\RelD H vv (.tup [.str k,.tup ws])/\kAt ks k=some kn/\(kn.parts.map (·.1)).findIdx? (λz=>decide (z=f))=some i/\ws[i]?=some d/\∀u H',Same H H'->RelD H' u d->Q u H'
theorem xox(T:Tx K Z)(a:DefIs P w K Z base n "parts_of" qai xfb):DefIs P w K Z base (n+1) "field" qa5 xma:=by
 refine DefIs.of T.jH sc_field (by walk_at"l") (λf a4 A outer s H vs Q E hr h=>?_);obtain⟨kv,vv,ks,k,G,ws,f',i,d,rfl,hk,O,C,hi,hw,q⟩:=h;have nd:=sc_field.nd
 refine⟨_,(zpn (xcy (i:=3) ["part"] [none] rfl (by kernel_rfl) nd rfl (by walk_at"o") (xaw (K:=K) rfl (pd a hr (va 0 (pc (px K (pv 1) pI) pN ss)))) (λ_ _ _ _=>(pgc 0)) (λ_ _ _ _=>xbr) (λ_ _ _ _=>(px K (pv 0) pI)))
   (zpo (xae (px K (px K (pv 1) pI) (xc7 PySem.F.plainAttrs_list PySem.F.slot_list_index PySem.F.type_list_index xo2 (pv 3) (v1 2)))))),?_⟩
 obtain⟨l,us,rfl,ha,_,_,rfl,rfl,vw,_,rfl,J,rfl⟩:=O;obtain⟨c,zs,rfl,hc,y⟩:=J;refine(xai _ rfl _ rfl l _ _ (xbl _ rfl rfl (SqT.of ha) rfl (xbo _ ks k rfl hk (λu H1 s1 Y=>?_))));rw[C]at Y;obtain⟨e,ps,rfl,he,z⟩:=Y;have hl:=z.length;rw[zLM]at hl;have a2:G.parts.length<=100:=hk.2.2 G (zMF C);refine(jEAA e rfl ⟨_,SqT.of he⟩ ?_);refine xe7 (j:=0) (xs:=ps) (λi ys I=>I=H1/\ys=((G.parts.take i).map (·.1)).map V.str) (by rfl) ⟨rfl,rfl⟩ (xa4 (by omega)) (λi ys I _ p=>by obtain⟨rfl,_⟩:=p;exact SqT.of he) ?_ ?_
 ·rintro i x ys I hx r ⟨rfl,rfl⟩
  obtain⟨d',g,o⟩:=z.get hx;rw[zGM]at g;obtain⟨pt,U,rfl⟩:=zMS g;obtain⟨b,a0,rfl,hb,_,_,rfl,rfl,_,_,rfl,rfl,rfl⟩:=o;have hi:i<ps.length:=(zES hx).1;refine(xaa _ rfl b _ _ _ rfl rfl (SqT.of hb) rfl (nxt hi r ⟨rfl,?_⟩));rw[zTA,U];simp
 ·rintro ys I r ⟨rfl,rfl⟩ D hD
  rw[zTL (by omega)];rw[zTL (by omega)]at r;have sD:=Same.new hD (.lst ((G.parts.map (·.1)).map V.str));have m:=s1.trans sD
  have M:∃v,zs[i]?=some v/\RelD H v d:=by
   have a3:i<ws.length:=(zES hw).1;have a1:=y.length;obtain⟨d',g,o⟩:=y.get (i:=i) (v:=zs[i]) (zGA (by omega));rw[hw]at g;cases g;exact(jEA (zs[i]) (zGA (by omega)) o)
  obtain⟨v,O,rv⟩:=M;refine(xaa _ rfl l _ _ _ rfl rfl (SqT.of (m _ _ ha)) rfl ?_);refine(xa3 _ rfl (.inl (jAE rfl _ (SqL.of ups))) _ rfl (xag D _ f' i rfl rfl ups hi ?_));exact(xag c _ _ v rfl rfl (SqT.of (m _ _ hc)) (xax O) (q _ _ m (rv.same m _)))
def xfe(R:RW)(m:Nat):Sp:=λvs H Q _=>∃kv tv p ks env a rs k t x y e val,vs=[kv,tv,.ref p]/\KsAt H kv ks/\RelD H tv (xlc a rs)/\EnAt H p m env/\rs.length<=1000/\R ks env a (.tup [.str k,.str t,x])/\rs.find? (λr=>decide (r.1=t))=some (t,y,e)/\R ks (env.put y x) e val ∧
 ∀u H',Same H H'->RelD H' u val->Q u H'
theorem xg3(T:Tx K mg)(R:RW)(hm:m<=1000)(o:DefIs P w K mg base n "worth" qad (xc0 R (m+1)))(C:DefIs P w K mg base n "with_box" qan (xhm m)):DefIs P w K mg base (n+1) "case_worth" qad (xfe R m):=by
 refine DefIs.of T.jK sc_case_worth (by walk_at"l") (λf a6 A outer s H vs Q E hr h=>?_);obtain⟨kv,tv,p,ks,env,a,rs,k,t,x,y,e,val,rfl,hk,hv,he,hl,h1,hf,h2,q⟩:=h;have nd:=sc_case_worth.nd
 refine⟨_,(zpn (psn 3 nd (pd o hr (va 0 (pc (px K (pv 1) pI) (v1 2) ss))))
   (zpn (psn 4 nd (pxl K (xbp ["each","value"] [none,some 3] rfl (by kernel_rfl) (xaw (K:=K) rfl (px K (pv 1) pI)) (λ_ _ _ _=>(pgc 0)) (λ_ _ _ _=>(xd6 (pR xa9 (px K (pv 0) pI) (px K (pv 1) pI) (nM _)))) (λ_ _ _ _=>(pv 0))) pI))
   (zpo (xae (pd o hr (va 0 (pc (px K (pv 4) pI) (pc (pd C hr (va 2 (pc (px K (pv 4) pI) (pc (px K (pv 3) pI) pN ss) ss))) pN zsc) ss))))))),?_⟩
 obtain⟨b,us,rfl,hb,_,_,rfl,rfl,va,_,rfl,ra,vr,_,rfl,rr,rfl⟩:=hv;obtain⟨c,ws,rfl,hc,a0⟩:=rr;refine(xai _ rfl _ rfl b _ _ (xbl _ rfl rfl (SqT.of hb) rfl (jEA _ rfl ?_)));refine(xal _ _ _ ks _ (xa5 env _ rfl hk ra (he.mono (by omega)) h1 (λu H1 s1 r1=>?_)));obtain⟨g,zs,rfl,hg,_,_,rfl,rfl,_,_,rfl,rfl,vx,_,rfl,rx,rfl⟩:=r1;refine(xaa _ rfl b _ _ _ rfl rfl (SqT.of (s1 _ _ hb)) rfl (jEAA c rfl ⟨_,SqT.of (s1 _ _ hc)⟩ ?_));have a4:=a0.length;rw[zLM]at a4;refine xbm (xs:=ws) (λi ys H'=>H'=H1/\∃ds:List (Str×Str×D),ds=(rs.take i).filter (λr=>decide (r.1=t))/\RelDs H1 ys (ds.map dArm)) (jAEA rfl ([]) rfl rfl) (xa4 (by omega)) (λi ys H' _ p=>by obtain⟨rfl,_⟩:=p;exact SqT.of (s1 _ _ hc)) ?_ ?_
 ·rintro i z ys H' hz hi O ⟨rfl,ds,rfl,G⟩
  obtain⟨d,hd,rd⟩:=(a0.same s1 _).get hz;rw[zGM]at hd;obtain⟨r,a1,rfl⟩:=zMS hd;have a3:=rd;obtain⟨l,zs,rfl,U,_,_,rfl,rfl,_,_,rfl,rfl,_,_,rfl,re,rfl⟩:=rd;refine⟨xfs rfl,?_⟩;refine(xaa _ rfl l _ _ _ rfl rfl (SqT.of U) rfl (xaa _ rfl g _ _ _ rfl rfl (SqT.of hg) rfl (jAEA rfl _ rfl (ite2 (λcc=>?_) (λcc=>?_)))))
  ·have ee:r.1=t:=V.str.inj (of_decide_eq_true cc)
   refine(jEA _ rfl (nxtG hi O (jAEA rfl _ rfl ?_)));rw[zTA,a1,List.filter_append,zAP];refine G.append ?_;simp only[Option.toList,List.filter_cons,zDT ee,if_true,List.filter_nil,List.map_cons,List.map_nil];exact(xas _ ([]) rfl a3 rfl)
  ·have ee:¬r.1=t:=λz=>cc (zDT (congrArg V.str z))
   refine nxtN hi O (jAEA rfl _ rfl ?_);rw[zTA,a1,List.filter_append,zAP];simp only[Option.toList,List.filter_cons,zDF ee,Bool.false_eq_true,if_false,List.filter_nil,List.map_nil,List.append_nil];exact G
 ·rintro ys H' O ⟨rfl,ds,rfl,G⟩ D hD
  rw[zTL (by omega)]at G;have hh:(rs.filter (λr=>decide (r.1=t))).head?=some (t,y,e):=by rw[List.head?_filter,hf]
  obtain⟨rest,M⟩:∃rest,rs.filter (λr=>decide (r.1=t))=(t,y,e)::rest:=by
   cases hq:rs.filter (λr=>decide (r.1=t)) with
   |nil=>rw[hq]at hh;cases hh
   |cons z zs=>rw[hq]at hh;exact⟨zs,by rw[Option.some.inj hh]⟩
  rw[M]at G;obtain⟨Y,I,rfl,r0,_⟩:=G;have Z:=Same.new hD (.lst (Y::I));refine(xag D _ 0 Y rfl rfl (SqL.of ups) (xax (j:=0) rfl) ?_);obtain⟨l,zs,rfl,U,_,_,rfl,rfl,_,_,rfl,rfl,ve,_,rfl,re,rfl⟩:=r0;have J:=s1.trans Z;have a2:SqT K (upd H' D (.lst (.ref l::I))) l [.str t,.str y,ve]:=SqT.of (Z _ _ U);refine(xai _ rfl _ rfl l _ _ (xbl _ rfl rfl a2 rfl (xai _ rfl _ rfl l _ _ (xbl _ rfl rfl a2 rfl (xaa _ rfl g _ _ _ rfl rfl (SqT.of (Z _ _ hg)) rfl ?_)))));refine(xch p y vx x env rfl (he.same J) (rx.same Z _) hm (λp' H2 s2 a5=>?_));exact(xal _ _ _ ks _ (xa5 _ _ rfl (hk.same (J.trans s2)) (re.same (Z.trans s2) _) a5 h2 (λu H3 s3 r3=>q u H3 (J.trans (s2.trans s3)) r3)))
theorem xov (T:Tx K mg) (R:RW) (g:DefIs P w K mg base n "worth" qad (xc0 R m)) (G:DefIs P w K mg base n "op_worth" qav xhp)
  (Y:DefIs P w K mg base n "field" qa5 xma) (r:DefIs P w K mg base n "case_worth" qad (xfe R m)) :
  DefIs P w K mg base (n+1) "worth" qad (xc0 (λks env d v=>xd3 env d v\/NodeEv ks (R ks) env d v) m):=by
 refine DefIs.of T.jI sc_worth (by walk_at"l") (λf aa A outer s H vs Q E U h=>?_);obtain⟨kv,tv,p,ks,d,env,val,rfl,hk,O,he,hR,q⟩:=h;have nd:=sc_worth.nd;have hu:=xeg U
 refine⟨_,(zpn (psn 3 nd (px K (pv 1) pI))
   (zpn (xa6 (pR xa9 (pv 3) pS (nM _)) (zpo (xae (px K (pv 1) pI))) pQ)
   (zpn (xa6 (pR xa9 (pv 3) pS (nM _)) (zpo (xae (xcj hu (pv 2) (px K (pv 1) pI) (λ_ _=>rfl)))) pQ)
   (zpn (xa6 (pR xa9 (pv 3) pS (nM _)) (zpo (xae (pd G U (pc (px K (pv 1) pI) (pc (pd g U (va 0 (pc (px K (pv 1) pI) (v1 2) ss))) (pc (pd g U (va 0 (pc (px K (pv 1) pI) (v1 2) ss))) pN zsc) zsc) ss)))) pQ)
   (zpn (xa6 (pR xa9 (pv 3) pS (nM _)) (zpo (xae (xau (pc (px K (pv 1) pI) (pc (xat (xbq (K:=K) rfl) rfl T.kZ PyProof.Rows.boot_tuple (pc (xbp ["inner","kinds","boxes"] [none,some 0,some 2] rfl (by kernel_rfl) (xaw (K:=K) rfl (px K (pv 1) pI)) (λ_ _ _ _=>(pgc 0)) (λ_ _ _ _=>xbr) (λ_ _ _ _=>(pd g U (va 1 (va 0 (v1 2)))))) pN xbw)) pN zsc) ss)))) pQ)
   (zpn (xa6 (pR xa9 (pv 3) pS (nM _)) (zpo (xae (pd Y U (va 0 (pc (pd g U (va 0 (pc (px K (pv 1) pI) (v1 2) ss))) (pc (px K (pv 1) pI) pN ss) zsc))))) pQ)
   (zpn (xa6 (pR xa9 (pv 3) pS (nM _)) (zpo (xae (xau (pc (px K (pv 1) pI) (pc (px K (pv 1) pI) (pc (pd g U (va 0 (pc (px K (pv 1) pI) (v1 2) ss))) pN zsc) ss) ss)))) pQ)
   (zpn (xa6 (pR xa9 (pv 3) pS (nM _)) (zpo (xae (pd r U (va 0 (va 1 (v1 2)))))) pQ)
   (zpn (psn 4 nd (xe2 (pR xa9 (pd g U (va 0 (pc (px K (pv 1) pI) (v1 2) ss))) pI (nM _)) (px K (pv 1) pI) (px K (pv 1) pI)))
   (zpo (xae (pd g U (va 0 (va 4 (v1 2))))))))))))))),?_⟩
 rcases hR with(⟨i,rfl,rfl⟩ |⟨x,hx,rfl⟩) |⟨sg,a,b,x,y,M,h2,nx,ny,rfl,rfl⟩ |⟨k,es,ws,hl,M,rfl,rfl⟩ |⟨a,k,ws,f',kn,i,M,a8,hi,hw,rfl⟩ |⟨k,t,a,x,M,rfl,rfl⟩ |⟨a,rs,k,t,x,y,e,hl,M,hf,h2,rfl⟩ |⟨a,b,c,x,M,h2,rfl⟩
 ·obtain⟨a,us,rfl,C,_,_,rfl,rfl,_,_,rfl,rfl,rfl⟩:=O
  have hS:SqT K H a [.str (S "num"),.int i]:=SqT.of C;walk_at"rd";exact q _ _ (Same.refl _) rfl
 ·obtain⟨a,us,rfl,C,_,_,rfl,rfl,_,_,rfl,rfl,rfl⟩:=O
  have hS:SqT K H a [.str (S "box"),.str x]:=SqT.of C;obtain⟨kvs,hp,hl,hh⟩:=he;obtain⟨v,O,rv⟩:=(hh x).2 _ hx;walk_at"rd";exact(xas p v rfl (O ▸ DGet.k (k:=Sum.inr x) hp) (q _ _ (Same.refl _) rv))
 ·obtain⟨l,us,rfl,C,_,_,rfl,rfl,_,_,rfl,rfl,va,_,rfl,Z,vb,_,rfl,rb,rfl⟩:=O
  have hS:SqT K H l [.str (S "op"),.str sg,va,vb]:=SqT.of C;walk_at"rd";refine(xal _ _ _ ks _ (xa5 env _ rfl hk Z he M (λu H1 o r1=>?_)));obtain rfl:u=.int x:=r1;have J:SqT K H1 l [.str (S "op"),.str sg,va,vb]:=SqT.of (o _ _ C);refine(xai _ rfl _ rfl l _ _ (xbl _ rfl rfl J rfl (jEA _ rfl ?_)));refine(xal _ _ _ ks _ (xa5 env _ rfl (hk.same o) (rb.same o _) (he.same o) h2 (λu H2 I r2=>?_)));obtain rfl:u=.int y:=r2;exact(xb0 sg x y rfl nx ny (q _ _ (o.trans I) rfl))
 ·obtain⟨l,us,rfl,C,_,_,rfl,rfl,_,_,rfl,rfl,va,_,rfl,Z,rfl⟩:=O
  obtain⟨c,a2,rfl,hc,a3⟩:=Z;have hS:SqT K H l [.str (S "rec"),.str k,.ref c]:=SqT.of C;walk_at"rd";refine⟨⟨_,SqT.of hc⟩,?_⟩;have l1:=a3.length;have l2:=M.length;refine xe7 (j:=0) (xs:=a2) (λi ys H'=>Same H H'/\RelDs H' ys (ws.take i)) (by rfl) ⟨Same.refl _,rfl⟩ (xa4 (by omega)) (λi ys H' _ p=>SqT.of (p.1 _ _ hc)) ?_ ?_
  ·rintro i x ys H' hx a4 ⟨sm,a0⟩
   obtain⟨d',a9,a6⟩:=a3.get hx;obtain⟨v',a1,a5⟩:=M.get a9;have hi:i<a2.length:=(zES hx).1;refine(xbu _ rfl _ rfl _ rfl _ _ (xah _ ks _ env _ rfl (hk.same sm) (a6.same sm _) (he.same sm) a5 (λu H2 I r2=>nxt hi a4 ⟨sm.trans I,?_⟩)));rw[zTA,a1];exact(a0.same I _).append (xas u ([]) rfl r2 rfl)
  ·rintro ys H' a4 ⟨sm,a0⟩ D hD
   rw[zTL (by omega)]at a0;refine(jEEA D ys rfl (.inl ⟨SqL.of ups,λl' a7=>?_⟩));have o:=Same.new hD (.lst ys);have I:=Same.new a7 (.tup ys);refine⟨(by walk_at"s"),λt ht=>?_⟩;have s3:=Same.new ht (.tup [.str k,.ref l']);exact q _ _ (sm.trans (o.trans (I.trans s3))) (xam t _ rfl ups _ _ rfl rfl _ (jEAA _ rfl (xas l' ys rfl (s3 _ _ ups) (a0.same (o.trans (I.trans s3)) _)) rfl))
 ·obtain⟨l,us,rfl,C,_,_,rfl,rfl,va,_,rfl,Z,_,_,rfl,rfl,rfl⟩:=O
  have hS:SqT K H l [.str (S "get"),va,.str f']:=SqT.of C;walk_at"rd";refine(xal _ _ _ ks _ (xa5 env _ rfl hk Z he M (λu H1 o r1=>?_)));have J:SqT K H1 l [.str (S "get"),va,.str f']:=SqT.of (o _ _ C);refine(xaa _ rfl l _ _ _ rfl rfl J rfl ?_);exact(xal _ _ ks k kn (xav ws f' i val rfl (hk.same o) r1 a8 hi ⟨hw,λu H2 I r2=>q _ _ (o.trans I) r2⟩))
 ·obtain⟨l,us,rfl,C,_,_,rfl,rfl,_,_,rfl,rfl,_,_,rfl,rfl,va,_,rfl,Z,rfl⟩:=O
  have hS:SqT K H l [.str (S "tag"),.str k,.str t,va]:=SqT.of C;walk_at"rd";refine(xal _ _ _ ks _ (xa5 env _ rfl hk Z he M (λu H1 o r1=>?_)));refine⟨(by walk_at"s"),λc hc=>?_⟩;have I:=Same.new hc (.tup [.str k,.str t,u]);exact q _ _ (o.trans I) (xam c _ rfl ups _ _ rfl rfl _ (xbn _ rfl rfl _ _ rfl (r1.same I _) rfl))
 ·have a1:=O
  obtain⟨l,us,rfl,C,_,_,rfl,rfl,va,_,rfl,Z,vr,_,rfl,rr,rfl⟩:=O;have hS:SqT K H l [.str (S "case"),va,vr]:=SqT.of C;walk_at"rd";exact(xal _ _ p ks env (xal a rs k t x (xb9 y e val rfl hk a1 he hl M (jAA hf h2 q))))
 ·obtain⟨l,us,rfl,C,_,_,rfl,rfl,va,_,rfl,Z,vb,_,rfl,rb,vc,_,rfl,rc,rfl⟩:=O
  have hS:SqT K H l [.str (S "if"),va,vb,vc]:=SqT.of C;walk_at"rd";refine(xal _ _ _ ks _ (xa5 env _ rfl hk Z he M (λu H1 o r1=>?_)));obtain rfl:u=.int x:=r1;have J:SqT K H1 l [.str (S "if"),va,vb,vc]:=SqT.of (o _ _ C);refine(jAEA rfl _ rfl (ite2 (λc'=>?_) (λc'=>?_)))
  ·have e:x=0:=V.int.inj (of_decide_eq_true c')
   rw[if_pos e]at h2;refine(xaa _ rfl l _ _ _ rfl rfl J rfl (jEA _ rfl (jEA _ rfl (jEA _ rfl ?_))));exact(xal _ _ _ ks _ (xa5 env _ rfl (hk.same o) (rc.same o _) (he.same o) h2 (λu H2 I r2=>q _ _ (o.trans I) r2)))
  ·have e:¬x=0:=λz=>c' (zDT (congrArg V.int z))
   rw[if_neg e]at h2;refine(xaa _ rfl l _ _ _ rfl rfl J rfl (jEA _ rfl (jEA _ rfl (jEA _ rfl ?_))));exact(xal _ _ _ ks _ (xa5 env _ rfl (hk.same o) (rb.same o _) (he.same o) h2 (λu H2 I r2=>q _ _ (o.trans I) r2)))
theorem xf9(T:Tx K a)(R:RW)(e:m<=1000)(D:DefIs P w K a base (n+1) "worth" qad (xc0 R (m+1))):DefIs P w K a base (n+3) "worth" qad (xc0 (λks env d v=>xd3 env d v\/NodeEv ks (R ks) env d v) m):=by
 have o:DefIs P w K a base (n+1) "worth" qad (xc0 R m):=D.imp (by
  rintro vs H Q E ⟨c,b,p,ks,d,env,val,l,j,i,h,g,f⟩;exact(xal c b p ks d (xa5 env val l j i (h.mono (by omega)) g f)))
 exact xov T R (o.mono (by omega)) (xjq T) (xox T (xd7 T)) (xg3 T R e D (xjo T))
theorem xj9(T:Tx K b):∀n m,n+m<=1000->DefIs P w K b base (2*n+3) "worth" qad (xc0 (λks=>Ev ks n) m)
 | 0,m,h=>by
  refine(xf9 (P:=P) (w:=w) (base:=base) (n:=0) (m:=m) T (λ_ _ _ _=>False) (by omega) (DefIs.none T.jI ?_)).imp ?_
  ·rintro vs H Q E ⟨_,_,_,_,_,_,_,_,_,_,_,h,_⟩
   exact h
  ·rintro vs H Q E ⟨c,a,p,ks,d,env,k,l,j,i,g,f,e⟩
   exact(xal c a p ks d (xa5 env k l j i g (.inl f) e))
 |n+1,m,h=>xf9 (n:=2*n+2) (m:=m) T (λks=>Ev ks n) (by omega) (xj9 T n (m+1) (by omega))
def xkk(K:Fg):Sp:=λvs H Q _=>∃(a:Addr) (ns:List Int) (k:Int),vs=[.ref a,.int k]/\SqL K H a (ns.map V.int)/\ns.length<=63/\0<=k/\∀(r:Addr) (p q:Int),H r=none->Q (.ref r) (upd H r (.lst [.int p,.int q]))
def xcl:Sp:=λvs H Q _=>∃(a:Addr) (p q m:Int),vs=[.ref a,.int m]/\H a=some (.lst [.int p,.int q])/\0<m/\m<2 ^ 64/\∀(r:Int) (H':Hp),0<=r->r<m->Fed a H H'->Q (.int r) H'
theorem xj5{ns:List Int}{k:Int}(h0:0<=k)(h:k<(ns.length:Int)):∃v:Int,atI (ns.map V.int) k=some (.int v):=by
 have a:k.toNat<ns.length:=by omega
 have b:k=((k.toNat:Nat):Int):=by omega
 refine⟨ns[k.toNat],?_⟩;have q:atI (ns.map V.int) ((k.toNat:Nat):Int)=some (.int ns[k.toNat]):=xax (by rw[zGM,zGA a] <;> rfl);rw[<- b]at q;exact q
theorem xc3:2<=sizeLine:=by decide
theorem xg1(T:Tx K z):DefIs P w K z base (n+1) "_law_feed" qar (xkk K):=by
 refine DefIs.of T.jT scl_feed (λvs H Q E h=>?_) (λf I A outer s H vs Q E J h=>?_)
 ·obtain⟨a,ns,k,rfl,_⟩:=h
  rfl
 obtain⟨a,ns,k,rfl,O,G,C,q⟩:=h;have nd:=scl_feed.nd;have g:(ns.map V.int).length=ns.length:=zLM _
 refine⟨_,(zpn (psn 2 nd pI)
   (zpn (xa6 (pR xfi (pv 1) (xan (xad (K:=K) rfl) rfl T.kS PySem.boot_len (v1 0)) (nM _)) (zpo (psn 2 nd (pxl K (pv 0) (pv 1)))) pQ)
   (zpn (xa6 (PW.pt (xci (pR xc2 (xan (xad (K:=K) rfl) rfl T.kS PySem.boot_len (v1 0)) pI (nM _)) (xb3 (pR xa9 (xak xcc (pxl K (pv 0) pI) pI) pI (nM _))))) (zpo (xae (xcb (va 2 (pc (xak xba (xak xcc (xak xba (xak xc5 (xak xcc (pv 2) pI) pI) (xak xc5 pI (pv 1))) pI) pI) pN xa1))))) pQ)
   (zpn (xa6 (PW.pt (xci (pR xst (pv 1) (xan (xad (K:=K) rfl) rfl T.kS PySem.boot_len (v1 0)) (nM _)) (xb3 (pR xc2 (xan (xad (K:=K) rfl) rfl T.kS PySem.boot_len (v1 0)) pI (nM _))))) (zpo (psn 2 nd (xak xba (pxl K (pv 0) (xak xcc (pv 1) (xan (xad (K:=K) rfl) rfl T.kS PySem.boot_len (v1 0)))) (xak xc5 pI (pv 1))))) pQ)
   (zpo (xae (xcb (pc pI (pc (xak xba (xak xcc (xak xba (xak xc5 (xak xcc (pv 2) pI) pI) (xak xc5 pI (pv 1))) pI) pI) pN xa1) so)))))))),?_⟩
 have h0:0<ns.length->∃v:Int,atI (ns.map V.int) 0=some (.int v):=λh=>xj5 (Int.le_refl 0) (by omega);walk_at"rd";refine ite2 (λc=>?_) (λc=>?_)
 ·have o:=of_decide_eq_true c
  rw[g]at o;obtain⟨v,x⟩:=xj5 (ns:=ns) C o;obtain⟨y,p⟩:=h0 (by omega);walk_at"rd";refine ite2 (λj=>?_) (λj=>?_)
  ·walk_at"rd"
   refine ite2 (λu=>?_) (λu=>?_)
   ·walk_at"rd"
    exact⟨xc3,λl b=>q l _ _ b⟩
   ·walk_at"rd"
    refine ite2 (λi=>?_) (λi=>?_)
    ·have r:=of_decide_eq_true i
     rw[g]at r;omega
    ·refine iteF ?_
     walk_at"rd";exact⟨xc3,λl b=>q l _ _ b⟩
  ·have e:=of_decide_eq_false (Bool.eq_false_iff.mpr j)
   rw[g]at e;omega
 ·have o:=of_decide_eq_false (Bool.eq_false_iff.mpr c)
  rw[g]at o;walk_at"rd";refine ite2 (λj=>?_) (λj=>?_)
  ·have e:=of_decide_eq_true j
   rw[g]at e;obtain⟨y,p⟩:=h0 (by omega);walk_at"rd";refine ite2 (λu=>?_) (λu=>?_)
   ·walk_at"rd"
    exact⟨xc3,λl b=>q l _ _ b⟩
   ·walk_at"rd"
    refine ite2 (λi=>?_) (λi=>?_)
    ·walk_at"rd"
     refine ite2 (λm=>?_) (λm=>?_)
     ·obtain⟨v,x⟩:=xj5 (ns:=ns) (k:=k%(ns.length:Int)) (Int.emod_nonneg _ (by omega)) (Int.emod_lt_of_pos _ (by omega))
      rw[<- g]at x;have M:(0:Int)<((ns.map V.int).length:Nat):=by rw[g];omega
      walk_at"rd";exact⟨xc3,λl b=>q l _ _ b⟩
     ·walk_at"rd"
      exact⟨xc3,λl b=>q l _ _ b⟩
    ·refine iteF ?_
     walk_at"rd";exact⟨xc3,λl b=>q l _ _ b⟩
  ·refine iteF ?_
   walk_at"rd";refine ite2 (λi=>?_) (λi=>?_)
   ·walk_at"rd"
    refine ite2 (λm=>?_) (λm=>?_)
    ·have e:=of_decide_eq_false (Bool.eq_false_iff.mpr j)
     exact absurd (of_decide_eq_true m) e
    ·walk_at"rd"
     exact⟨xc3,λl b=>q l _ _ b⟩
   ·refine iteF ?_
    walk_at"rd";exact⟨xc3,λl b=>q l _ _ b⟩
theorem xg0(T:Tx K e):DefIs P w K e base (n+1) "_law_take" qac xcl:=by
 refine DefIs.of T.jU scl_take (λvs H Q E h=>?_) (λf i A outer s H vs Q E l h=>?_)
 ·obtain⟨a,p,q,m,rfl,_⟩:=h
  rfl
 obtain⟨a,p,q,m,rfl,g,b,j,k⟩:=h;have nd:=scl_take.nd;have o:SqL K H a [.int p,.int q]:=SqL.of g
 refine⟨_,(zpn (xa6 (pR xc2 (pxl K (pv 0) pI) pI (nM _)) (zpn (psn 2 nd (xak xcc (pxl K (pv 0) pI) (pv 1)))
   (zpn (xde (xak xb8 (pxl K (pv 0) pI) (pv 1)) (xpt (pv 0) pI xkm))
   (zpo (xae (pv 2))))) pQ)
   (zpn (psn 3 nd (xak xcc (xak xc5 (pxl K (pv 0) pI) pI) pI))
   (zpn (xde (xak xba (xak xcc (xak xba (xak xc5 (pv 3) pI) pI) pI) pI) (xpt (pv 0) pI xkm))
   (zpo (xae (xak xcc (xak xb8 (xak xba (xak xc5 (pv 3) pI) (pxl K (pv 0) pI)) pI) (pv 1))))))),?_⟩
 walk_at"rd";refine ite2 (λc=>?_) (λc=>?_)
 ·walk_at"rd"
  refine k _ _ (Int.emod_nonneg _ (by omega)) (Int.emod_lt_of_pos _ b) Fed.of
 ·walk_at"rd"
  refine(xag _ _ _ _ rfl rfl (SqL.of ups) rfl ?_);walk_at"rd";refine k _ _ (Int.emod_nonneg _ (by omega)) (Int.emod_lt_of_pos _ b) Fed.of
def xl5:Sp:=λvs H Q _=>∃c:Int,vs=[.int c,.int 26]/\∀(b:Addr) (H':Hp) (nms:List Str),Same H H'->H b=none->H' b=some (.lst (nms.map V.str))->xi6 nms->(∀z∈nms,NoBy z/\NoMo z)->Q (.ref b) H'
theorem xmx(T:Tx K mg):DefIs P w K mg base (n+1) "_law_names" qa7 xl5:=by
 refine DefIs.of T.jV scl_names (by walk_at"l") (λf a4 A outer s H vs Q E hr h=>?_);obtain⟨c,rfl,k⟩:=h;have nd:=scl_names.nd
 refine⟨_,(zpn (psn 2 nd pS)
   (zpn (psn 3 nd (xak xcc (pv 0) pI))
   (zpn (psn 4 nd (xak xcc (xak xb8 (pv 0) pI) (xak xba (pv 3) pI)))
   (zpn (psn 5 nd (xc7 PySem.F.plainAttrs_str PySem.F.slot_str_join PySem.F.type_str_join xq5 pS (pc (xbp ["_law_j","_law_cell"] [none,some 0] rfl (by kernel_rfl) (xb1 rfl T.kX (v1 3)) (λ_ _ _ _=>(pgc 0)) (λ_ _ _ _=>xbr) (λ_ _ _ _=>(xlj xky pS (xak xcc (xak xba (xak xb8 (pv 1) pI) (pv 0)) pI) (λ_ _=>rfl)))) pN xbw)))
   (zpn (psn 6 nd (xbp ["_law_k","_law_common","_law_letters","_law_at","_law_cell"] [none,some 5,some 2,some 4,some 0] rfl (by kernel_rfl) (xb1 rfl T.kX (v1 1)) (λ_ _ _ _=>(pgc 0)) (λ_ _ _ _=>xbr) (λ_ _ _ _=>(xak xdr (xak xdr (xdq xpr (pv 1) xgy (xdj (pv 3))) (xlj xky (pv 2) (xak xcc (xak xba (xak xb8 (pv 4) pI) (xak xc5 pI (pv 0))) pI) (λ_ _=>rfl))) (xdq xpr (pv 1) (xdj (pv 3)) xgy)))))
   (zpn (xa6 (pR xa9 (xak xcc (xak xb8 (pv 0) pI) pI) pI (nM _)) (zpo (xae (pv 6))) pQ)
   (zpo (xae (xbp ["_law_k","_law_found"] [none,some 6] rfl (by kernel_rfl) (xb1 rfl T.kX (v1 1)) (λ_ _ _ _=>(pgc 0)) (λ_ _ _ _=>xbr) (λ_ _ _ _=>(xak xdr (pxl K (pv 1) (xak xcg (pv 0) (xak xcc (pv 0) pI))) (xak xqv pS (xak xcc (pv 0) pI))))))))))))),?_⟩
 have m0:0<=c%5:=Int.emod_nonneg _ (by decide);have m5:c%5<5:=Int.emod_lt_of_pos _ (by decide);refine(xa0 _ rfl _ _ rfl rfl ⟨(by show(0:Int)<5;decide),?_⟩);have hp:0<(c%5)+1:=by omega
 refine(xa0 _ rfl _ _ rfl rfl (jAEA ⟨by decide,by decide⟩ _ rfl (xas _ _ rfl rfl (xbv _ _ rfl rfl hp ?_))));have a0:0<=c / 5%((c%5)+1):=Int.emod_nonneg _ (by omega);have a1:c / 5%((c%5)+1)<(c%5)+1:=Int.emod_lt_of_pos _ hp;refine(jAEA rfl _ rfl (xby _ rfl (by omega) (by omega) ?_));refine xc8 (j:=0) (λi ys I=>I=H/\∃cs:List Nat,ys=(cs.map xc4).map V.str/\∀c∈cs,c∈five) (by rfl) (jAEA rfl ([]) rfl (λ_ h=>nomatch h)) (xa4 (by omega)) ?_ ?_
 ·rintro i ys I hi Y ⟨rfl,cs,rfl,a⟩
  refine(xa0 _ rfl _ _ rfl rfl (jAEA ⟨by decide,by decide⟩ _ rfl (xas _ _ rfl rfl (xbv _ _ rfl rfl (by show(0:Int)<5;decide) ?_))));obtain⟨ch,Z,a2⟩:=xrj (Int.emod_nonneg (c / 25+(0+(i:Int))) (by decide:(5:Int)≠0)) (Int.emod_lt_of_pos _ (by decide));refine(xap _ _ ch rfl rfl (by walk_at"k") a2 ?_)
  exact nxt hi Y ⟨rfl,cs++[ch],by simp[xc4],λx o=>by
   rcases zMA o with o |o
   ·exact a x o
   ·rw[zMO o];exact Z⟩
 ·rintro ys I Y ⟨rfl,cs,rfl,a⟩ D hD
  rw[zLM,zLM]at Y;refine(xap (S "") D (cs.map xc4) rfl rfl (SqL.of ups) ?_ ?_)
  ·rw[xja,show(S "").length=0 by walk_at"k"]
   omega
  rw[xin];have m:=Same.new hD (.lst ((cs.map xc4).map V.str));generalize upd I D (.lst ((cs.map xc4).map V.str))=H1 at m⊢;have b:(ofL cs).length=cs.length:=by rw[<- xem,xdo]
  have c4:cs.length<=4:=by omega
  refine(xbd _ rfl _ rfl (by decide) ⟨by decide,?_⟩);refine xc8 (j:=0) (λi ys G=>G=H1/\ys=((List.range i).map λk=>ofL (nmA cs (c / 5%(c%5+1)).toNat (c / 125) k)).map V.str) (by rfl) ⟨rfl,rfl⟩ (xa4 (by decide)) ?_ ?_
  ·rintro i ys G hi r ⟨rfl,rfl⟩
   have e0:(0+(i:Int))=(i:Int):=by omega
   have U:0<=(c / 125+5*(0+(i:Int)))%26:=Int.emod_nonneg _ (by decide);have O:(c / 125+5*(0+(i:Int)))%26<26:=Int.emod_lt_of_pos _ (by decide);refine(jEA _ rfl (jEA _ rfl (xbd _ rfl _ rfl (fits (by rw[b];omega)) ?_)));refine(jEA _ rfl (xa0 _ rfl _ _ rfl rfl (jAEA ⟨by decide,by decide⟩ _ rfl (xbv _ _ rfl rfl (.inl ⟨by decide,by decide⟩) (xas _ _ rfl rfl (xbv _ _ rfl rfl (by show(0:Int)<26;decide) ?_))))));refine(xap _ _ _ rfl rfl (by walk_at"k") (xng U O) ?_);rw[xoh (ofL cs) a0 (by rw[b];omega)];refine(xbv _ _ rfl rfl ?_ ?_)
   ·refine fits ?_
    rw[show(ofL ((L (ofL cs)).take (c / 5%(c%5+1)).toNat)).length=(cs.take (c / 5%(c%5+1)).toNat).length by rw[<- xem,xdo,xdo],List.length_take];show _+1<=_;omega
   refine(jEA _ rfl (jEA _ rfl (xbd _ rfl _ rfl (fits (by rw[b];omega)) ?_)));rw[xle (ofL cs) a0 (by rw[b];omega),xdo];refine(xbv _ _ rfl rfl ?_ ?_)
   ·refine fits ?_
    rw[Str.length_append,show(ofL (cs.take (c / 5%(c%5+1)).toNat)).length=(cs.take (c / 5%(c%5+1)).toNat).length by rw[<- xem,xdo],show(ofL (cs.drop (c / 5%(c%5+1)).toNat)).length=(cs.drop (c / 5%(c%5+1)).toNat).length by rw[<- xem,xdo],List.length_take,List.length_drop];show _+1+_<=_;omega
   rw[xm9];refine nxt hi r ⟨rfl,?_⟩;rw[List.range_succ,zAP,zAP,e0];rfl
  ·rintro ys G r ⟨rfl,rfl⟩ J y
   have g:=Same.new y (.lst (((List.range 26).map λk=>ofL (nmA cs (c / 5%(c%5+1)).toNat (c / 125) k)).map V.str));refine(xa0 _ rfl _ _ rfl rfl (jAE ⟨by decide,by decide⟩ _ (xbl _ rfl rfl (by show(0:Int)<3;decide) rfl (jEA _ rfl (ite2 (λcc=>?_) (λcc=>?_))))))
   ·exact(jEA _ rfl (k J _ _ (m.trans g) (xay m y) ups (nmsA c4 a) (λz hz=>⟨xq3 a z hz,xq2 a z hz⟩)))
   ·refine(xbd _ rfl _ rfl (by decide) ⟨by decide,?_⟩)
    obtain⟨C,l⟩:∃C,C=upd G J (.lst (((List.range 26).map λk=>ofL (nmA cs (c / 5%(c%5+1)).toNat (c / 125) k)).map V.str)):=⟨_,rfl⟩;have hb:C J=some (.lst (((List.range 26).map λk=>ofL (nmA cs (c / 5%(c%5+1)).toNat (c / 125) k)).map V.str)):=by rw[l];exact ups
    rw[<- l]at g;refine xc8 (j:=0) (λi ys H4=>H4=C/\ys=((List.range i).map λk=>ofL (nmB cs (c / 5%(c%5+1)).toNat (c / 125) k)).map V.str) (by rfl) ⟨l.symm,rfl⟩ (xa4 (by decide)) ?_ ?_
    ·rintro i ys H4 hi p ⟨rfl,rfl⟩
     have a3:i<26:=hi;have er:(0+(i:Int))%2=((i%2:Nat):Int):=by omega
     have es:(0+(i:Int))-(0+(i:Int))%2=((i-i%2:Nat):Int):=by omega
     refine(xaq _ rfl _ rfl _ rfl _ _ rfl rfl (jAE (by show(0:Int)<2;decide) _ (jEAA _ rfl rfl (xag J _ _ (.str (ofL (nmA cs (c / 5%(c%5+1)).toNat (c / 125) (i-i%2)))) rfl rfl (SqL.of hb) ?_ ?_))))
     ·rw[es]
      refine xax ?_;rw[zGM,zGM,List.getElem?_range (by omega)];rfl
     refine(xa0 _ rfl _ _ rfl rfl (jAE (by show(0:Int)<2;decide) _ (xby _ rfl rfl (by omega) ?_)));refine(xbv _ _ rfl rfl ?_ ?_)
     ·refine fits ?_
      rw[show(ofL (nmA cs (c / 5%(c%5+1)).toNat (c / 125) (i-i%2))).length=cs.length+1 by rw[<- xem,xdo,xfl]];have:(if (0+(i:Int))%2=1 then S "q" else Str.empty).length<=1:=by split <;> decide +kernel
      show _+(if (0+(i:Int))%2=1 then S "q" else Str.empty).length<=_;omega
     refine nxt hi p ⟨rfl,?_⟩;rw[List.range_succ,zAP,zAP];congr 1;show[V.str _]=[V.str _];congr 2;apply xoa;rw[xdw,xdo,xdo];unfold nmB;congr 1;rw[er];rcases Nat.mod_two_eq_zero_or_one i with e |e
     ·rw[e];decide +kernel
     ·rw[e];decide +kernel
    ·rintro ys H4 p ⟨rfl,rfl⟩ D4 u
     have M:=Same.new u (.lst (((List.range 26).map λk=>ofL (nmB cs (c / 5%(c%5+1)).toNat (c / 125) k)).map V.str));exact k D4 _ _ (m.trans (g.trans M)) (xay (m.trans g) u) ups (nmsB c4 a) (λz hz=>⟨xq1 a z hz,xq0 a z hz⟩)
def xfd:Sp:=λvs H Q _=>∃v ks x,vs=[v,.str x]/\KsSeq H v ks/\∀t pv H',Same H H'->H' t=some (.tup [.str (xfy (kAt ks x)),pv])->RelD H' pv (xkq (kAt ks x))->Q (.ref t) H'
def xgc(m:Nat):Sp:=λvs H Q _=>∃v ks x,vs=[v,.str x]/\KsSeq H v ks/\KWf ks/\KIn ks m x/\∀H',Same H H'->Q (.int (szF (m+1) ks x)) H'
theorem xcm (T:Tx K Y):DefIs P w K Y base (n+1) "_law_sort_of" qab xfd:=by
  refine DefIs.of T.jX scl_sort_of (by walk_at"l") (λf a0 A outer s H vs Q E hr h=>?_);obtain⟨v,ks,x,rfl,⟨a,us,rfl,J,M⟩,q⟩:=h;have nd:=scl_sort_of.nd
  refine⟨_,(zpn (xca PassesOwn.never rfl (xsl (xbs (K:=K) rfl (pv 0)) (xaw (K:=K) rfl (pv 0))) (xbk (K:=K) rfl rfl (xaf (pgn 2 nd) (xaf (pgn 3 nd) (xaf (pgn 4 nd) xbj))))
      (zpo (xa6 (pR xa9 (pv 2) (pv 1) (nM _)) (zpo (xae (xau (va 3 (v1 4))))) pQ)))
      (zpo (xae (xau (pc pS (pc (xau pN) pN sT) so))))),?_⟩
  have Z:=M.length;rw[zLM]at Z
  have l:∀(i:Nat) (v:V),us[i]?=some v->(ks.take i).find? (λk=>decide (k.name=x))=none->∃k b pv,ks[i]?=some k/\v=.ref b/\H b=some (.tup [.str k.name,.str k.sort,pv])/\RelD H pv (xdg k.parts):=λi v C hn=>by
    obtain⟨d,hd,rd⟩:=M.get C;rw[zGM]at hd;obtain⟨k,g,rfl⟩:=zMS hd;obtain⟨b,ws,rfl,I,_,_,rfl,rfl,_,_,rfl,rfl,O,_,rfl,y,rfl⟩:=rd;exact(xb0 k b O g rfl I y)
  rcases J with u |u
  case' inl=>
    refine .inl (xbd _ rfl a rfl ⟨_,SqL.of u⟩ ?_);refine xdb (xs:=us) (λi σ j=>∃r o m,σ=[some (.ref a),some (.str x),r,o,m]/\j=H/\(ks.take i).find? (λk=>decide (k.name=x))=none) (xbo none none none rfl rfl rfl) (λi σ j _ p=>by obtain⟨_,_,_,_,rfl,_⟩:=p;exact SqL.of u) ?_ ?_
  case' inr=>
    refine .inr (xbd _ rfl a rfl ⟨_,SqT.of u⟩ ?_);refine xdl (xs:=us) (λi σ j=>∃r o m,σ=[some (.ref a),some (.str x),r,o,m]/\j=H/\(ks.take i).find? (λk=>decide (k.name=x))=none) (xbo none none none rfl rfl rfl) (λi σ j _ p=>by obtain⟨_,_,_,_,rfl,_⟩:=p;exact SqT.of u) ?_ ?_
  all_goals first
    | (rintro i v σ j C ⟨r,o,m,rfl,rfl,hn⟩
       obtain⟨k,b,pv,g,rfl,I,y⟩:=l i v C hn;refine(xa2 b _ rfl (SqT.of I) rfl _ _ rfl _ (xa0 _ rfl _ _ rfl rfl ?_));refine(xcp _ rfl _ rfl rfl _ rfl (ite2 (λc=>?_) (λc=>?_)))
       · have e:k.name=x:=V.str.inj (of_decide_eq_true c)
         have e2:kAt ks x=some k:=(xcs hn g).1 (zDT e);refine(xbd _ rfl _ rfl (by walk_at"s") (λt G=>?_));have st:=Same.new G (.tup [.str k.sort,pv]);rw[e2]at q;exact q t pv _ st ups (y.same st _)
       · have e:¬k.name=x:=λz=>c (zDT (congrArg V.str z))
         exact(xbo _ _ _ rfl rfl ((xcs hn g).2 (zDF e))))
    | (rintro σ j ⟨r,o,m,rfl,rfl,hn⟩
       rw[zTL (by omega)]at hn;rw[show kAt ks x=none from hn]at q;refine⟨(by walk_at"s"),λe he=>⟨(by walk_at"s"),λt G=>?_⟩⟩;have U:=Same.new he (.tup []);have st:=Same.new G (.tup [.str (S "num"),.ref e]);exact q t (.ref e) _ (U.trans st) ups (xas e ([]) rfl (st _ _ ups) rfl))
theorem xku (T:Tx K mg) (G:Sp) (a:DefIs P w K mg base n "_law_sort_of" qab xfd) (g:DefIs P w K mg base n "_law_size" qab G) (M:∀j,m=j+1->G=xgc j) (hm:m<=6) :
  DefIs P w K mg base (n+1) "_law_size" qab (xgc m):=by
 refine DefIs.of T.jY scl_size (by walk_at"l") (λf a5 A outer s H vs Q E hr h=>?_);obtain⟨v,ks,x,rfl,hk,u,a3,q⟩:=h;have nd:=scl_size.nd
 refine⟨_,(zpn (xde (pd a hr (va 0 (v1 1))) (xbk (K:=K) rfl rfl (xaf (pgn 2 nd) (xaf (pgn 3 nd) xbj))))
   (zpn (xcy (i:=4) ["_law_name","_law_part","_law_kinds_here"] [none,none,some 0] rfl (by kernel_rfl) nd rfl (by walk_at"o") (xaw (K:=K) rfl (pv 3)) (λ_ _ _ _=>(xbk (K:=K) (n:=2) rfl rfl (xaf (pgc 0) (xaf (pgc 1) xbj)))) (λ_ _ _ _=>xbr) (λ_ _ _ _=>(pd g hr (va 2 (v1 1)))))
   (zpn (xa6 (pR xa9 (pv 2) pS (nM _)) (zpo (xae (xak xba pI (xan (xn5 rfl) rfl T.kU PyProof.Rows.boot_max (v1 4))))) pQ)
   (zpo (xae (xak xba pI (xan (xix rfl) rfl T.kY PyProof.Rows.boot_sum (v1 4)))))))),?_⟩
 refine(xai _ rfl _ rfl v ks x (jAA rfl hk (λt pv H1 s1 ht rp=>?_)));refine(xa2 t _ rfl (SqT.of ht) rfl _ _ rfl _ (jEAA _ rfl rfl ?_))
 have a2:∃ps:List (Str×Str),xkq (kAt ks x)=xdg ps/\ps.length<=5/\(∀p∈ps,∃j,m=j+1/\KIn ks j p.2)/\(xfy (kAt ks x)=S "alt"->ps≠[]/\szF (m+1) ks x=1+maxD (ps.map λp=>szF m ks p.2)) ∧
   (xfy (kAt ks x)≠S "alt"->szF (m+1) ks x=1+(ps.map λp=>szF m ks p.2).sum):=by
  cases C:kAt ks x with
  |none=>
   refine(xbl ([]) rfl (by decide) (λ_ h=>nomatch h) (λh=>absurd h (by walk_at"k")) (λ_=>?_));unfold szF;rw[C];rfl
  | some k=>
   have l:k∈ks:=zMF C
   have y:k.name=x:=by
    have:=List.find?_some C;simpa using this
   refine(xbl k.parts rfl (u.pts k l) (λp hp=>?_) (λh=>?_) (λh=>?_))
   ·rcases a3 with rfl |⟨j,k',hj,a0,e⟩
    ·exact absurd y (xd8 (u.nm k l))
    ·have e2:kAt ks k'.name=some k':=u.at a0
     rw[e,C]at e2;cases e2;refine(jEA (m-1) (by omega) ?_);rcases u.ref j k a0 p hp with z |⟨i,k2,hi,z⟩
     ·exact .inl z
     ·exact .inr (jEEA i k2 (by omega) z)
   ·have o:k.rc=false:=by
     cases hc:k.rc with
     |false=>rfl
     |true=>
      have:k.sort=S "alt":=h;unfold Kn.sort at this;rw[hc,if_pos rfl]at this;exact absurd this (by walk_at"k")
    refine⟨u.alt k l o,?_⟩
    conv=>lhs;unfold szF
    rw[C];show 1+(if k.rc=true then _ else _)=_;rw[if_neg (by rw[o];decide)]
   ·have o:k.rc=true:=by
     cases hc:k.rc with
     |true=>rfl
     |false=>
      refine absurd ?_ h;show k.sort=S "alt";unfold Kn.sort;rw[hc,if_neg (by decide)]
    conv=>lhs;unfold szF
    rw[C];show 1+(if k.rc=true then _ else _)=_;rw[if_pos o]
 obtain⟨ps,a4,h5,U,a1,O⟩:=a2;rw[a4]at rp;obtain⟨e,us,rfl,he,J⟩:=rp;have hl:=J.length;rw[zLM]at hl;refine(xbd _ rfl e rfl ⟨_,SqT.of he⟩ ?_);refine xbm (xs:=us) (λi ys H'=>Same H1 H'/\ys=((ps.take i).map λp=>szF m ks p.2).map V.int) ⟨Same.refl _,rfl⟩ (xa4 (by omega)) (λi ys H' _ p=>SqT.of (p.1 _ _ he)) ?_ ?_
 ·rintro i z ys H' hz hi Z ⟨I,rfl⟩
  obtain⟨d,hd,rd⟩:=J.get hz;rw[zGM]at hd;obtain⟨p,hp,rfl⟩:=zMS hd;obtain⟨b,ws,rfl,hb,_,_,rfl,rfl,_,_,rfl,rfl,rfl⟩:=rd;obtain⟨j,rfl,hj⟩:=U p (zMG hp);have D':=M j rfl;subst D';refine(xa2 b _ rfl (SqT.of (I _ _ hb)) rfl _ _ rfl _ (xby _ rfl rfl (ext2 rfl rfl) (xdd ?_)));refine(xb4 _ rfl _ rfl _ ks p.2 rfl (hk.same (s1.trans I)) u ⟨hj,λH2 s2=>nxtG hi Z ⟨I.trans s2,?_⟩⟩);rw[zTA,hp];simp
 ·rintro ys H' Z ⟨I,rfl⟩ D hD
  rw[zTL (by omega)];have sD:=Same.new hD (.lst ((ps.map λp=>szF m ks p.2).map V.int));have r:=s1.trans (I.trans sD)
  have hb:∀n∈ps.map (λp=>szF m ks p.2),0<=n/\n<=1000000:=λn hn=>by
   obtain⟨p,_,rfl⟩:=zMP hn;have h1:=xe9 u.pts m p.2
   have h2:(6:Int) ^ m<=6 ^ 6:=by
    rcases(show m=0\/m=1\/m=2\/m=3\/m=4\/m=5\/m=6 by omega) with h |h |h |h |h |h |h <;> subst h <;> decide
   have h3:(6:Int) ^ 6=46656:=by decide
   omega
  refine(xa3 _ rfl rfl _ rfl (ite2 (λc=>?_) (λc=>?_)))
  ·obtain⟨Y,ez⟩:=a1 (V.str.inj (of_decide_eq_true c))
   refine(xa0 _ rfl D _ rfl (SqL.of ups) ⟨(λz=>Y (List.map_eq_nil_iff.mp z)),λmx h1 h2=>(xas _ _ rfl rfl ?_)⟩);have:=q _ r;rw[ez,<- xq6 (λz=>Y (List.map_eq_nil_iff.mp z)) (λn hn=>(hb n hn).1) h1 h2]at this;exact this
  ·have ez:=O (λz=>c (zDT (congrArg V.str z)))
   refine(xa0 _ rfl D _ rfl (SqL.of ups) (jAA hb (by rw[zLM];omega) (xas _ _ rfl rfl ?_)));have:=q _ r;rw[ez]at this;exact this
theorem xmg(T:Tx K a):∀m,m<=6->DefIs P w K a base (m+2) "_law_size" qab (xgc m)
 |0,h=>xku (n:=1) T (λ_ _ _ _=>False) (xcm T) (DefIs.none T.jY λ_ _ _ _ h=>h) (λj e=>by cases e) h
 |m+1,h=>xku (n:=m+2) T (xgc m) (xcm T) (xmg T m (by omega)) (λj e=>by cases e;rfl) h
def xjb:Sp:=λvs H Q _=>∃(f l nb:Addr) (srt:Str) (p q:Int) (ws:List V) (ks:List Kn) (n4:List Str),vs=[.ref f,.ref l,.str srt,.ref nb]/\H f=some (.lst [.int p,.int q])/\H l=some (.lst ws)/\RelDs H ws (ks.map Kn.d)/\KWf ks ∧
 H nb=some (.lst (n4.map V.str))/\n4.length=4/\(srt=S "rec"\/srt=S "alt")/\l≠f/\nb≠f ∧
 ∀v ps (H':Hp),Fed f H H'->RelD H' v (xdg ps)->ps.length<=4->ps.map (·.1)=n4.take ps.length->(srt=S "alt"->ps≠[])->(∀p∈ps,KIn ks ks.length p.2)->(ps.map λp=>sz ks p.2).sum<=29->Q v H'
theorem xs6{D:Ends}{σ:St}{H:Hp}{c:Bool}{B:Prop}{i:Nat}{v x:V}(a:V->St)(f:σ.set i (some v)=a v)(e:σ=a x)(b:D.nx σ H->B)(h:∀y,(y=v\/(y=x/\c=false))->D.nx (a y) H):if c=true then tAsg (tC v) (xfq i) D σ H else B:=by
 cases c with
 |false=>exact b (by rw[e];exact h x (.inr ⟨rfl,rfl⟩))
 |true=>
  show D.nx (σ.set i (some v)) H;rw[f];exact h v (.inl rfl)
theorem and2{a:TE}{σ:St}{H:Hp}{Q:VK}{c cA:Bool}(f:Q (.bl cA) H->a σ H Q)(h:∀b:Bool,(b=true->cA=true)->Q (.bl b) H):if c=true then a σ H Q else Q (.bl false) H:=by
 cases c with
 |false=>exact h false (λe=>by cases e)
 |true=>exact f (h cA id)
theorem xkw:∀{ns:List Int},(∀n∈ns,0<=n)->maxD ns<=ns.sum/\0<=ns.sum
 |[],_=>⟨Int.le_refl _,Int.le_refl _⟩
 |n::ns,h=>by
  have c:=h n (by simp);have b:=xkw (ns:=ns) λm a=>h m (by simp[a]);rw[List.sum_cons];show max n (maxD ns)<=_/\_;omega
theorem xo8{ks:List Kn}(a:KWf ks){x:Str}{b:Bool}{ps:List (Str×Str)}(h:(ps.map λp=>sz ks p.2).sum<=29):inSz (Kn.mk x b ps) (sz ks)<=29:=by
 have:=xkw (ns:=ps.map λp=>sz ks p.2) λn hn=>by
  obtain⟨p,_,rfl⟩:=zMP hn;have:=xtv a p.2;omega
 unfold inSz;show(if b=true then (ps.map λp=>sz ks p.2).sum else maxD (ps.map λp=>sz ks p.2))<=29;split <;> omega
theorem xmw (T:Tx K mg) (a:DefIs P w K mg base n "_law_take" qac xcl) (c:DefIs P w K mg base n "_law_size" qab (xgc 6)):DefIs P w K mg base (n+1) "_law_parts" qay xjb:=by
  refine DefIs.of T.j0 scl_parts (by walk_at"l") (λf bh A outer s H vs Q E hr h=>?_);obtain⟨J,l,nb,C,p,q,ws,ks,n4,rfl,hf,hl,a4,wf,al,h4,hs,lf,nf,k⟩:=h;have nd:=scl_parts.nd
  refine⟨_,(zpn (psn 4 nd (xcb pN))
      (zpn (psn 5 nd pI)
      (zpn (xca PassesOwn.never rfl (xb1 rfl T.kX (pc (xak xba (xak xba (pd a hr (va 0 (pc pI pN so))) (xat xfu rfl T.kQ PyProof.Rows.boot_int (pc (xcu xa9 (pv 2) pS (nM _)) pN xkf))) (xat xfu rfl T.kQ PyProof.Rows.boot_int (pc (xkp (xcu xa9 (pd a hr (va 0 (pc pI pN so))) pI (nM _)) (xge (xcu xa9 (pv 2) pS (nM _)))) pN xl0))) pN xa1)) (pgn 6 nd)
      (zpn (psn 7 nd (pxl K (xak xgf (xcb (pc pS pN so)) (xbp ["_law_row"] [none] rfl (by kernel_rfl) (xbs (K:=K) rfl (pv 1)) (λ_ _ _ _=>(pgc 0)) (λ_ _ _ _=>xbr) (λ_ _ _ _=>(px K (pv 0) pI)))) (pd a hr (va 0 (pc (xak xba pI (xan (xad (K:=K) rfl) rfl T.kS PySem.boot_len (v1 1))) pN xa1)))))
      (zpn (xa6 (pR xc2 (pd c hr (va 1 (v1 7))) (pv 5) (nM _)) (zpo (psn 7 nd pS)) pQ)
      (zpn (psn 5 nd (xak xcg (pv 5) (pd c hr (va 1 (v1 7)))))
      (zpo (xbx (xc7 PySem.F.plainAttrs_list PySem.F.slot_list_append PySem.F.type_list_append xbt (pv 4) (pc (xau (pc (pxl K (pv 3) (pv 6)) (v1 7) ss)) pN sT))))))))
      (zpo (xae (xat (xbq (K:=K) rfl) rfl T.kZ PyProof.Rows.boot_tuple (pc (xdq xgu (pv 4) xgy (xdj pI)) pN ss))))))),?_⟩
  refine⟨(by walk_at"s"),λpl a8=>?_⟩;have s0:=Same.new a8 (.lst []);have M:pl≠J:=Ne.symm (neN hf a8);have a2:=wf.few;have ah:=a4.length;rw[zLM]at ah;refine(xaa _ rfl J p q 4 rfl (s0 _ _ hf) (by decide) (by decide) (λr1 H1 bb ba f1=>?_));obtain⟨p1,q1,h1⟩:=f1.2;have F1:Fed J H H1:=⟨s0.but.trans f1.1,f1.2⟩;have au:H1 pl=some (.lst []):=f1.1 _ _ ups M
  have b6:∃cA cB:Bool,decide (V.str C=V.str (S "rec"))=cA/\decide (V.str C=V.str (S "alt"))=cB/\0<=(if cA=true then (1:Int) else 0)/\0<=(if cB=true then (1:Int) else 0)/\(if cA=true then (1:Int) else 0)+(if cB=true then (1:Int) else 0)<=1/\(C=S "alt"->(if cB=true then (1:Int) else 0)=1):=by
    rcases hs with rfl |rfl
    · exact(xa5 true false (by walk_at"k") (by walk_at"k") (by decide) (by decide) (by decide) (λe=>absurd e (by walk_at"k")))
    · exact(xa5 false true (by walk_at"k") (by walk_at"k") (by decide) (by decide) (by decide) (λ_=>rfl))
  obtain⟨cA,cB,eA,eB,b4,bg,bf,b3⟩:=b6;refine(jEAA _ rfl rfl (.inr (xa0 cB (congrArg (λb=>[V.bl b]) eB) r1 (if cB=true then 1 else 0) rfl rfl ?_)));refine(xaa _ rfl J p1 q1 9 rfl h1 (by decide) (by decide) (λr2 H2 b9 b8 f2=>(jAEA rfl _ rfl (and2 (cA:=decide (V.str C=V.str (S "rec"))) (λz=>(jEAA _ rfl rfl z)) (λb hb=>?_)))));rw[eA]at hb
  have be:0<=(if b=true then (1:Int) else 0)/\(if b=true then (1:Int) else 0)<=(if cA=true then (1:Int) else 0):=by
    cases b with
    |false=>exact⟨Int.le_refl _,b4⟩
    |true=>rw[hb rfl];exact⟨by decide,by decide⟩
  refine .inr (xbc b rfl _ (if b=true then 1 else 0) rfl rfl _ rfl (jAA (by omega) (by omega) ?_))
  all_goals
      have F2:Fed J H H2:=F1.trans f2;have ar:H2 pl=some (.lst []):=f2.1 _ _ au M
      refine xcr (λi σ H'=>∃us,∃ps:List (Str×Str),∃left o6 o7,σ=[some (.ref J),some (.ref l),some (.str _),some (.ref nb),some (.ref pl),some (.int left),o6,o7]/\Fed J H H'/\H' pl=some (.lst us)/\RelDs H' us (ps.map xj2)/\ps.length=i/\ps.map (·.1)=n4.take i/\(∀p∈ps,KIn ks ks.length p.2)/\(ps.map λp=>sz ks p.2).sum+left=25/\-(i:Int)<=left)
        (xah ([]) ([]) 25 none none rfl F2 ar rfl rfl (jAAA rfl (λ_ h=>nomatch h) rfl (by decide))) ?_ ?_
      · rintro i σ H3 hi ⟨us,ps,left,o6,o7,rfl,F,a6,I,g,a7,ab,aj,a9⟩
        have bd:i<4:=by omega
        obtain⟨p3,q3,h3⟩:=F.2;have aa:=F.1 l _ hl lf;have bc:=F.1 nb _ al nf;have ag:=a4.tups (xaj (jEE p q hf) F) _;refine⟨(by walk_at"s"),λl1 ax=>?_⟩;have U:=Same.new ax (.lst [.str (S "num")]);refine(xbd _ rfl l rfl ⟨_,SqL.of (U _ _ aa)⟩ ?_);refine xiv (j:=0) (xs:=ws) (λi ys H'=>H'=upd H3 l1 (.lst [.str (S "num")])/\ys=((ks.take i).map Kn.name).map V.str) (by rfl) ⟨rfl,rfl⟩ (xa4 (by omega)) (λi ys H' _ p=>by obtain⟨rfl,_⟩:=p;exact SqL.of (U _ _ aa)) ?_ ?_
        · rintro i' x ys H' hx am ⟨rfl,rfl⟩
          obtain⟨d,hd,rd⟩:=(ag.same U _).get hx;rw[zGM]at hd;obtain⟨k',az,rfl⟩:=zMS hd;obtain⟨b,b7,rfl,hb,_,_,rfl,rfl,_,_,rfl,rfl,v3,_,rfl,r3,rfl⟩:=rd;have b0:i'<ws.length:=(zES hx).1;refine(xaa _ rfl b _ _ _ rfl rfl (SqT.of hb) rfl (nxt b0 am ⟨rfl,?_⟩));rw[zTA,az];simp
        rintro ys H' am ⟨rfl,rfl⟩ D2 b5;rw[zTL (by omega)];have s2:=Same.new b5 (.lst ((ks.map Kn.name).map V.str));refine(xav l1 D2 _ _ rfl rfl (s2 _ _ ups) ups (fits (by rw[zLM,zLM];show 1+_<=_;omega)) (λl3 a0=>?_));have s3:=Same.new a0 (.lst ([.str (S "num")]++(ks.map Kn.name).map V.str));have u:=U.trans (s2.trans s3);have aq:l3≠J:=Ne.symm (neN (s2 _ _ (U _ _ h3)) a0);refine(xbe _ rfl _ rfl l _ rfl (.inl (SqL.of (u _ _ aa))) _ (jEAA _ rfl rfl ?_));refine(xag J p3 q3 _ rfl (u _ _ h3) (by omega) (by omega) (λr H4 r0 ac f4=>?_));rw[ah]at ac;obtain⟨x,hx,Z⟩:=xg8 r0 ac;have an:H4 l3=some (.lst ([.str (S "num")]++(ks.map Kn.name).map V.str)):=f4.1 _ _ ups aq;refine(xag l3 _ _ _ rfl rfl (SqL.of an) hx ?_);have F4:Fed J H H4:=(F.same u).trans f4;have m:=f4.1 _ _ (u _ _ a6) M;have ai:=(I.same u _).tups (xaj (jEE p3 q3 (u _ _ h3)) f4) _;have aw:=F4.1 l _ hl lf;have av:=F4.1 nb _ al nf;have af:=a4.tups (xaj (jEE p q hf) F4) _;have O:KsSeq H4 (.ref l) ks:=(xas l ws rfl (.inl aw) af);refine(xb4 _ rfl _ rfl _ ks x rfl O wf ⟨Z.mono a2,λH5 s5=>(xbc _ rfl _ _ rfl rfl _ rfl (xs6 (x:=.str x) (λy=>[some (.ref J),some (.ref l),some (.str C),some (.ref nb),some (.ref pl),some (.int left),some (.int (0+(i:Int))),some y]) rfl rfl id (λy hy=>?_)))⟩)
        obtain⟨Y,rfl,ae,ay⟩:∃Y,y=.str Y/\KIn ks ks.length Y/\-((i:Int)+1)<=left-sz ks Y:=by
          rcases hy with rfl |⟨rfl,b1⟩
          · exact ⟨S "num", rfl, .inl rfl, by have h1:sz ks (S "num") = 1 := xr6 wf
                                              omega⟩
          · refine(jEAA _ rfl Z ?_)
            have h0:¬left<sz ks x:=of_decide_eq_false b1;omega
        · refine(xbu _ rfl _ rfl _ rfl _ ks (xbl Y rfl (O.same s5) wf (ae.mono a2) (λH6 s6=>(xas _ _ rfl rfl ?_))))
          have a3:=s5.trans s6;have ak:=a3 _ _ m;have a1:i<n4.length:=by omega
          refine(xa3 _ rfl (.inl (jAE rfl _ (SqL.of ak))) _ rfl (xaa _ rfl nb _ _ _ rfl rfl (SqL.of (a3 _ _ av)) (xkb a1) (jEAA _ rfl (by walk_at"s") (λt ht=>?_))));have G:∀o,Same H4 (upd H6 t o):=λo=>a3.trans (Same.new ht o);have a5:=I.length;rw[zLM]at a5;refine(xap pl us _ rfl rfl (G _ _ _ m) (xa4 (by omega)) ?_);refine(xah _ (ps++[(n4[i],Y)]) _ _ _ rfl (Fed.put (F4.same (G _)) a8 M _) ups ?_ (by rw[zLA,List.length_singleton,g]) (jAAA ?_ (λz hz=>?_) ?_ (by push_cast;exact ay)))
          · rw[zAP]
            refine RelDs.append ((ai.same (G _) _).tups (xck (G _ _ _ m) _) _) ?_;exact(xas _ ([]) rfl (xam t _ rfl (xck (G _ _ _ m) _ _ _ ups) _ _ rfl rfl _ (jEAA _ rfl rfl rfl)) rfl)
          · rw[zAP,a7,zTA,zGA a1]
            rfl
          · rcases zMA hz with hz |hz
            · exact ab z hz
            · rw[zMO hz];exact ae
          · show((ps++[(n4[i],Y)]).map λp=>sz ks p.2).sum+(left-sz ks Y)=25
            rw[zAP,List.sum_append];simp only[List.map_cons,List.map_nil,List.sum_cons,List.sum_nil];omega
      · rintro σ H3 ⟨us,ps,left,o6,o7,rfl,F,a6,I,g,a7,ab,aj,a9⟩
        have a5:=I.length;rw[zLM]at a5;refine(jEA _ rfl (xa0 _ rfl pl us rfl (SqL.of a6) (λc2 b2=>?_)))
        have ao:cutV us none (some 4)=us:=by
          unfold cutV;rw[show HT.sIx us.length 0 none=0 from rfl,List.drop_zero,Nat.sub_zero];refine zTL ?_;unfold HT.sIx;simp;omega
        have U:=Same.new b2 (.lst (cutV us none (some 4)));refine(jEEA c2 _ rfl (.inl ⟨SqL.of ups,λt ht=>?_⟩));have s2:=Same.new ht (.tup (cutV us none (some 4)));refine k _ ps _ (F.same (U.trans s2)) (xas t us rfl (by rw[ao];exact ups) (I.same (U.trans s2) _)) (by omega) (by rw[g];exact a7) ?_ ab (by omega);intro ha e;have h9:=b3 ha;rw[e]at g;simp only[List.length_nil]at g;omega
def xl8:Sp:=λvs H Q _=>∃(f nb:Addr) (p q:Int) (nms:List Str),vs=[.ref f,.ref nb]/\H f=some (.lst [.int p,.int q])/\H nb=some (.lst (nms.map V.str))/\xi6 nms/\nb≠f/\∀v ks (H':Hp),Fed f H H'->RelD H' v (xdn ks)->xth nms ks->Fit ks->Q v H'
theorem xmy(T:Tx K mg)(a:DefIs P w K mg base n "_law_take" qac xcl)(g:DefIs P w K mg base n "_law_parts" qay xjb):DefIs P w K mg base (n+1) "_law_kinds" qa9 xl8:=by
 refine DefIs.of T.j1 scl_kinds (by walk_at"l") (λf aq A outer s H vs Q E hr h=>?_);obtain⟨G,nb,p,q,j,rfl,hf,ag,J,nf,k⟩:=h;have nd:=scl_kinds.nd
 refine⟨_,(zpn (psn 2 nd (xcb pN))
   (zpn (xca PassesOwn.never rfl (xb1 rfl T.kX (pc (pd a hr (va 0 (pc pI pN so))) pN zsc)) (pgn 3 nd)
   (zpn (psn 4 nd (pxl K (xcb (pc pS (pc pS pN so) so)) (pd a hr (va 0 (pc pI pN so)))))
   (zpo (xbx (xc7 PySem.F.plainAttrs_list PySem.F.slot_list_append PySem.F.type_list_append xbt (pv 2) (pc (xau (pc (pxl K (pv 1) (pv 3)) (va 4 (pc (pd g hr (va 0 (va 2 (va 4 (pc (xdq xgu (pv 1) (xdj pI) (xdj pI)) pN ss))))) pN zsc)) ss)) pN sT))))))
   (zpo (xae (xat (xbq (K:=K) rfl) rfl T.kZ PyProof.Rows.boot_tuple (v1 2)))))),?_⟩
 refine⟨(by walk_at"s"),λl hl=>?_⟩;have s0:=Same.new hl (.lst []);have lf:l≠G:=Ne.symm (neN hf hl);have a0:=J.1;refine(xaa _ rfl G p q 5 rfl (s0 _ _ hf) (by decide) (by decide) (λr1 H1 al ak f1=>(xby _ rfl (by omega) (by omega) ?_)));have F1:Fed G H H1:=⟨s0.but.trans f1.1,f1.2⟩;have af:H1 l=some (.lst []):=f1.1 _ _ ups lf
 refine xcr (λi σ H'=>∃us,∃ks:List Kn,∃o3 o4,σ=[some (.ref G),some (.ref nb),some (.ref l),o3,o4]/\Fed G H H'/\H' l=some (.lst us)/\RelDs H' us (ks.map Kn.d)/\ks.length=i/\Fit ks/\xth j ks)
  (xav ([]) ([]) none none rfl F1 af rfl rfl (jAAA Fit.nil KWf.nil (Nat.zero_le _) ⟨rfl,λ_ h=>nomatch h⟩)) ?_ ?_
 ·rintro i σ H2 hi ⟨us,ks,o3,o4,rfl,F,a3,I,M,C,wf,an,ai,ah⟩
  have ao:i<4:=by omega
  have ac:=I.length;rw[zLM]at ac;obtain⟨p2,q2,h2⟩:=F.2;refine⟨(by walk_at"s"),λl1 a7=>?_⟩;have U:=Same.new a7 (.lst [.str (S "rec"),.str (S "alt")]);have aa:l1≠G:=Ne.symm (neN h2 a7);refine(xaa _ rfl G p2 q2 2 rfl (U _ _ h2) (by decide) (by decide) (λr H3 r0 am f3=>?_))
  have ab:∃b:Str,atI [V.str (S "rec"),V.str (S "alt")] r=some (.str b)/\(b=S "rec"\/b=S "alt"):=by
   rcases(show r=0\/r=1 by omega) with rfl |rfl
   ·exact(jEA (S "rec") rfl (.inl rfl))
   ·exact(jEA (S "alt") rfl (.inr rfl))
  obtain⟨b,aj,u⟩:=ab;refine(xag l1 _ _ _ rfl rfl (SqL.of (f3.1 _ _ ups aa)) aj ?_);have F3:Fed G H H3:=(F.same U).trans f3;obtain⟨p3,q3,h3⟩:=f3.2;have y:=f3.1 _ _ (U _ _ a3) lf;have Y:=(I.same U _).tups (xaj (jEE p2 q2 (U _ _ h2)) f3) _;have a6:=F3.1 nb _ ag nf;have O:i<j.length:=by omega
  refine(xa3 _ rfl (.inl (jAE rfl _ (SqL.of y))) _ rfl (xaa _ rfl nb _ _ _ rfl rfl (SqL.of a6) (xkb O) (jEA _ rfl ?_)));refine(xar _ rfl _ rfl _ rfl _ rfl _ rfl (xa0 _ rfl nb _ rfl (SqL.of a6) (λc hc=>?_)));rw[xtg a0];have sc:=Same.new hc (.lst (((j.drop 8).take 4).map V.str));have cf:c≠G:=Ne.symm (neN h3 hc);refine(xal G l c b p3 (xav q3 us ks ((j.drop 8).take 4) rfl (sc _ _ h3) (sc _ _ y) (Y.same sc _) wf (jAAA ups (by rw[List.length_take,List.length_drop,a0];rfl) u (jAA lf cf (λv ps H4 f4 rv h4 a2 a8 Z a5=>?_)))));have F4:Fed G H H4:=(F3.same sc).trans f4;have m:=f4.1 _ _ (sc _ _ y) lf;have a4:=(Y.same sc _).tups (xaj (jEE p3 q3 (sc _ _ h3)) f4) _;refine⟨(by walk_at"s"),λt ht=>?_⟩;have s5:∀o,Same H4 (upd H4 t o):=λo=>Same.new ht o;refine(xap l us _ rfl rfl (s5 _ _ _ m) (xa4 (by omega)) ?_);have a9:=xt3 J ps.length
  have a1:(Kn.mk j[i] (decide (b=S "rec")) ps).sort=b:=by
   unfold Kn.sort;rcases u with rfl |rfl
   ·rfl
   ·show(if decide (S "alt"=S "rec")=true then _ else _)=_
    rw[if_neg (by walk_at"k")]
  have x:ks.map Kn.name=j.take i:=by rw[ai,M]
  have w2:KWf (ks++[Kn.mk j[i] (decide (b=S "rec")) ps]):=by
   refine wf.snoc ?_ (J.2.2 _ (List.getElem_mem O)) Z ?_ (by omega) (by show ps.length<=5;omega) (by show(ps.map (·.1)).Nodup;rw[a2];exact a9.1) (λz hz=>a9.2 z.1 (by rw[<- a2];exact List.mem_map_of_mem hz))
   ·show j[i] ∉ks.map Kn.name
    rw[x];exact xm6 J.2.1 O
   ·intro ae
    refine a8 ?_;rcases u with e |e
    ·exact absurd ae (by show ¬decide (b=S "rec")=false;rw[e];decide +kernel)
    ·exact e
  refine(xav _ (ks++[Kn.mk j[i] (decide (b=S "rec")) ps]) _ _ rfl (Fed.put (F4.same (s5 _)) hl lf _) ups ?_ (by rw[zLA,List.length_singleton,M]) ⟨C.snoc wf w2 Z (xo8 wf a5),?_⟩)
  ·rw[zAP]
   refine RelDs.append ((a4.same (s5 _) _).tups (xck (s5 _ _ _ m) _) _) ?_;refine(xas _ ([]) rfl (xam t _ rfl (xck (s5 _ _ _ m) _ _ _ ups) _ _ rfl rfl _ (xbn _ rfl ?_ _ _ rfl ((rv.same (s5 _) _).tups (xck (s5 _ _ _ m) _) _) rfl)) rfl);show V.str b=V.str _;rw[a1]
  ·refine(jAAA w2 (by rw[zLA,List.length_singleton];omega) ?_ ?_)
   ·rw[zAP,x,zLA,List.length_singleton,M,zTA,zGA O]
    rfl
   ·intro z hz
    rcases zMA hz with hz |hz
    ·exact ah z hz
    ·rw[zMO hz]
     exact⟨h4,a2⟩
 ·rintro σ H2 ⟨us,ks,o3,o4,rfl,F,a3,I,M,C,hK⟩
  refine(jEA _ rfl (jEEA l us rfl (.inl ⟨SqL.of a3,λt ht=>?_⟩)));have U:=Same.new ht (.tup us);exact k _ ks _ (F.same U) (xas t us rfl ups (I.same U _)) hK C
def xpp:Sp:=λvs H Q _=>∃(a:Addr) (p q:Int),vs=[.ref a]/\H a=some (.lst [.int p,.int q])/\∀(i:Int) (H':Hp),Nm i->Fed a H H'->Q (.int i) H'
theorem xlk(T:Tx K x)(b:DefIs P w K x base n "_law_take" qac xcl):DefIs P w K x base (n+1) "_law_number" qa8 xpp:=by
 refine DefIs.of T.jW scl_number (λvs H Q E h=>?_) (λf I A outer s H vs Q E j h=>?_)
 ·obtain⟨a,p,q,rfl,_⟩:=h
  rfl
 obtain⟨a,p,q,rfl,G,k⟩:=h;have nd:=scl_number.nd;have M:(2:Int) ^ (32:Int).toNat=4294967296:=by decide
 refine⟨_,(zpn (psn 1 nd (pd b j (va 0 (pc pI pN so))))
   (zpn (xa6 (pR xfi (pv 1) pI (nM _)) (zpo (xae (pd b j (va 0 (pc pI pN so))))) pQ)
   (zpn (xa6 (pR xa9 (pv 1) pI (nM _)) (zpo (xae (xak xcg (xak xcg (xak xpu pI pI) pI) (pd b j (va 0 (pc pI pN so)))))) pQ)
   (zpo (xae (pd b j (va 0 (pc (xak xpu pI pI) pN xa1)))))))),?_⟩
 refine(xaa _ rfl a p q 4 rfl G (by decide) (by decide) (λJ O C z l=>?_));obtain⟨o,m,r⟩:=l.2;refine(xbc _ rfl _ _ rfl rfl _ rfl ?_);refine ite2 (λc=>?_) (λc=>?_)
 ·exact(xaa _ rfl a o m 6 rfl r (by decide) (by decide) (λu y e g i=>k _ _ ⟨e,by omega⟩ (l.trans i)))
 refine(xa3 _ rfl rfl _ rfl ?_);refine ite2 (λc=>?_) (λc=>?_)
 ·refine(xbv _ _ rfl rfl (jAA (by decide) (by decide) (by decide)) (xas _ _ rfl rfl (xaa _ rfl a o m 6 rfl r (by decide) (by decide) (λu y e g i=>(xas _ _ rfl rfl (k _ _ ⟨by omega,by omega⟩ (l.trans i)))))))
 ·refine(xa0 _ rfl _ _ rfl rfl (jAE (jAA (by decide) (by decide) (by decide)) a (xap o m _ rfl r (by omega) (by omega) (λu y e g i=>k _ _ ⟨e,by omega⟩ (l.trans i)))))
theorem xab{t u:TS}{D:Ends}{σ:St}{H:Hp}(h:∀R:St->Hp->Prop,(∀σ H,u D σ H->R σ H)->t {D with nx:=R} σ H):tSeq t u D σ H:=h (u D) λ_ _ h=>h
theorem xea{k:Kn}(h:k.rc=true):k.sort=S "rec":=by unfold Kn.sort;rw[if_pos h]
theorem xel{k:Kn}(h:k.rc=false):k.sort=S "alt":=by unfold Kn.sort;rw[if_neg (by rw[h];decide)]
def spSm(F:List Kn->Str->Int)(m:Nat):Sp:=λvs H Q _=>∃v ks x,vs=[v,.str x]/\RelD H v (xdn ks)/\KWf ks/\KIn ks m x/\∀H',Same H H'->Q (.int (F ks x)) H'
theorem xh4 (T:Tx K mg) (U:Sp) (g:DefIs P w K mg base n "_law_sort_of" qab xfd) (c:DefIs P w K mg base n "_law_small" qab U) (a0:∀j,m=j+1->U=spSm smK j) :
  DefIs P w K mg base (n+1) "_law_small" qab (spSm smK m):=by
 refine DefIs.of T.jZ scl_small (by walk_at"l") (λf a5 A outer s H vs Q E hr h=>?_);obtain⟨v,ks,x,rfl,hk,C,a2,q⟩:=h;have nd:=scl_small.nd
 refine⟨_,(zpn (xde (pd g hr (va 0 (v1 1))) (xbk (K:=K) rfl rfl (xaf (pgn 2 nd) (xaf (pgn 3 nd) xbj))))
   (zpn (xa6 (pR xa9 (pv 2) pS (nM _)) (zpo (xae (xak xba pI (pd c hr (va 0 (pc (px K (px K (pv 3) pI) pI) pN ss)))))) pQ)
   (zpo (xae (xak xba pI (xan (xix rfl) rfl T.kY PyProof.Rows.boot_sum (pc (xbp ["_law_name","_law_part","_law_kinds_here"] [none,none,some 0] rfl (by kernel_rfl) (xaw (K:=K) rfl (pv 3)) (λ_ _ _ _=>(xbk (K:=K) (n:=2) rfl rfl (xaf (pgc 0) (xaf (pgc 1) xbj)))) (λ_ _ _ _=>xbr) (λ_ _ _ _=>(pd c hr (va 2 (v1 1))))) pN xbw))))))),?_⟩
 refine(xai _ rfl _ rfl v ks x (jAA rfl ((C.ksAt hk).seq) (λt a4 H1 Y ht M=>?_)));refine(xa2 t _ rfl (SqT.of ht) rfl _ _ rfl _ (jEAA _ rfl rfl ?_));rcases a2.look C with⟨rfl,o⟩ |⟨j,k,rfl,o,hn,hm,hp⟩
 ·refine(xa3 _ rfl rfl _ rfl (iteKF (zDF (by rw[o];decide +kernel)) ?_))
  rw[o]at M;obtain⟨a,us,rfl,O,l⟩:=M;obtain rfl:us=[]:=l;refine(xbd _ rfl a rfl ⟨_,SqT.of O⟩ ?_);refine xbm (xs:=[]) (λi ys G=>G=H1/\ys=[]) ⟨rfl,rfl⟩ (xa4 (by decide)) (λi ys G _ p=>by obtain⟨rfl,_⟩:=p;exact SqT.of O) (λi y ys G hy=>by simp at hy) ?_;rintro ys G J ⟨rfl,rfl⟩ D hD;refine(xcf D ([]) rfl (SqL.of ups) (λ_ h=>nomatch h) (by decide) (xas _ _ rfl rfl ?_));have e:=(xmf C).1;rw[e]at q;exact q _ (Y.trans (Same.new hD _))
 ·have D':=a0 j rfl
  subst D';rw[o]at M;obtain⟨a,us,rfl,O,l⟩:=M;have hl:=l.length;rw[zLM]at hl;have h5:=C.pts k hm;have Z:xfy (kAt ks x)=k.sort:=by rw[o];rfl
  have e:=(xsc C o).1;unfold smS at e
  cases hc:k.rc with
  | false=>
   rw[if_neg (by rw[hc];decide)]at e;refine(xa3 _ rfl rfl _ rfl (iteKT (zDT (by rw[Z,xel hc];rfl)) ?_))
   cases I:k.parts with
   |nil=>exact absurd I (C.alt k hm hc)
   |cons p r=>
    rw[I]at l e;obtain⟨vp,rest,rfl,M,_⟩:=l;obtain⟨b,ws,rfl,hb,_,_,rfl,rfl,_,_,rfl,rfl,rfl⟩:=M;refine(xai _ rfl _ rfl a _ _ (xbl _ rfl rfl (SqT.of O) (xax (j:=0) rfl) (xag b _ _ _ rfl rfl (SqT.of hb) rfl ?_)));refine(xap v ks p.2 rfl (hk.same Y _) C (hp p (by rw[I];simp)) (λH2 s2=>(xas _ _ rfl rfl ?_)));rw[e]at q;exact q _ (Y.trans s2)
  | true=>
   rw[if_pos hc]at e;refine(xa3 _ rfl rfl _ rfl (iteKF (zDF (by rw[Z,xea hc];decide +kernel)) ?_));refine(xbd _ rfl a rfl ⟨_,SqT.of O⟩ ?_);refine xbm (xs:=us) (λi ys G=>Same H1 G/\ys=((k.parts.take i).map λp=>smK ks p.2).map V.int) ⟨Same.refl _,rfl⟩ (xa4 (by omega)) (λi ys G _ p=>SqT.of (p.1 _ _ O)) ?_ ?_
   ·rintro i y ys G hy a3 J ⟨u,rfl⟩
    obtain⟨d,hd,rd⟩:=l.get hy;rw[zGM]at hd;obtain⟨pr,a1,rfl⟩:=zMS hd;obtain⟨b,ws,rfl,hb,_,_,rfl,rfl,_,_,rfl,rfl,rfl⟩:=rd;refine(xa2 b _ rfl (SqT.of (u _ _ hb)) rfl _ _ rfl _ (xby _ rfl rfl (ext2 rfl rfl) (xdd ?_)));refine(xb4 _ rfl _ rfl v ks pr.2 rfl (hk.same (Y.trans u) _) C ⟨hp pr (zMG a1),λH2 s2=>nxtG a3 J ⟨u.trans s2,?_⟩⟩);rw[zTA,a1,zAP,zAP];rfl
   ·rintro ys G J ⟨u,rfl⟩ D hD
    rw[zTL (by omega)];refine(xcf D (k.parts.map λp=>smK ks p.2) rfl (SqL.of ups) (λz hz=>?_) (by rw[zLM];omega) (xas _ _ rfl rfl ?_))
    ·obtain⟨p,_,rfl⟩:=zMP hz
     have:=xkl C p.2;omega
    ·rw[e]at q
     exact q _ (Y.trans (u.trans (Same.new hD _)))
theorem xgs(T:Tx K a):∀m,DefIs P w K a base (m+2) "_law_small" qab (spSm smK m)
 |0=>xh4 (n:=1) T (λ_ _ _ _=>False) (xcm T) (DefIs.none T.jZ λ_ _ _ _ h=>h) (λj e=>by cases e)
 |m+1=>xh4 (n:=m+2) T (spSm smK m) (xcm T) (xgs T m) (λj e=>by cases e;rfl)
def xog:Sp:=λvs H Q _=>∃(f ka:Addr) (p q:Int) (us:List V) (ks:List Kn),vs=[.ref f,.ref ka]/\H f=some (.lst [.int p,.int q])/\(H ka=some (.lst us)\/H ka=some (.tup us))/\RelDs H us (ks.map Kn.d)/\ks.length<=6/\∀x H',KIn ks ks.length x->Fed f H H'->Q (.str x) H'
theorem xh8(T:Tx K mg)(c:DefIs P w K mg base n "_law_take" qac xcl):DefIs P w K mg base (n+1) "_law_any_kind" qam xog:=by
 refine DefIs.of T.j7 scl_any_kind (by walk_at"l") (λf a3 A outer s H vs Q E hr h=>?_);obtain⟨f',ka,p1,q1,us,ks,rfl,Y,a,I,a2,q⟩:=h;have nd:=scl_any_kind.nd;refine(jEA _ (zpo (xae (pxl K (xak xgf (xcb (pc pS pN so)) (xbp ["_law_row"] [none] rfl (by kernel_rfl) (xsl (xbs (K:=K) rfl (pv 1)) (xaw (K:=K) rfl (pv 1))) (λ_ _ _ _=>(pgc 0)) (λ_ _ _ _=>xbr) (λ_ _ _ _=>(px K (pv 0) pI)))) (pd c hr (va 0 (pc (xak xba pI (xan (xad (K:=K) rfl) rfl T.kS PySem.boot_len (v1 1))) pN xa1)))))) ?_);refine⟨(by walk_at"s"),λl2 a1=>?_⟩;have o:=Same.new a1 (.lst [.str (S "num")]);have J:=I.length;rw[zLM]at J;rcases a with a |a
 ·refine .inl (xbd _ rfl ka rfl ⟨_,SqL.of (o _ _ a)⟩ ?_)
  refine xiv (j:=0) (xs:=us) (λi ys u=>u=upd H l2 (.lst [.str (S "num")])/\ys=((ks.take i).map Kn.name).map V.str) (by rfl) ⟨rfl,rfl⟩ (xa4 (by omega)) (λi ys u _ p=>by obtain⟨rfl,_⟩:=p;exact SqL.of (o _ _ a)) ?_ ?_
  ·rintro i' x ys u r l ⟨rfl,rfl⟩
   obtain⟨d,hd,rd⟩:=(I.same o _).get r;rw[zGM]at hd;obtain⟨k',M,rfl⟩:=zMS hd;obtain⟨b,a0,rfl,hb,_,_,rfl,rfl,_,_,rfl,rfl,v3,_,rfl,r3,rfl⟩:=rd;have O:i'<us.length:=(zES r).1;refine(xaa _ rfl b _ _ _ rfl rfl (SqT.of hb) rfl (nxt O l ⟨rfl,?_⟩));rw[zTA,M];simp
  rintro ys u l ⟨rfl,rfl⟩ D2 U;rw[zTL (by omega)];have y:=Same.new U (.lst ((ks.map Kn.name).map V.str));refine(xav l2 D2 _ _ rfl rfl (y _ _ ups) ups (fits (by rw[zLM,zLM];show 1+_<=_;omega)) (λZ m=>?_));have s4:=Same.new m (.lst ([.str (S "num")]++(ks.map Kn.name).map V.str));have e:=o.trans (y.trans s4);have G:Z≠f':=Ne.symm (neN ((o.trans y) _ _ Y) m);refine(xbe _ rfl _ rfl ka _ rfl (.inl (SqL.of (e _ _ a))) _ (jEAA _ rfl rfl (xag f' p1 q1 _ rfl (e _ _ Y) (by omega) (by omega) (λr5 H5 C z f5=>?_))));obtain⟨x,r,g⟩:=xg8 (ks:=ks) C (by rw[<- J];exact z);exact(xag Z _ _ _ rfl rfl (SqL.of (f5.1 _ _ ups G)) r (q x _ g (((Fed.refl Y).same e).trans f5)))
 ·refine .inr (xbd _ rfl ka rfl ⟨_,SqT.of (o _ _ a)⟩ ?_)
  refine xe7 (j:=0) (xs:=us) (λi ys u=>u=upd H l2 (.lst [.str (S "num")])/\ys=((ks.take i).map Kn.name).map V.str) (by rfl) ⟨rfl,rfl⟩ (xa4 (by omega)) (λi ys u _ p=>by obtain⟨rfl,_⟩:=p;exact SqT.of (o _ _ a)) ?_ ?_
  ·rintro i' x ys u r l ⟨rfl,rfl⟩
   obtain⟨d,hd,rd⟩:=(I.same o _).get r;rw[zGM]at hd;obtain⟨k',M,rfl⟩:=zMS hd;obtain⟨b,a0,rfl,hb,_,_,rfl,rfl,_,_,rfl,rfl,v3,_,rfl,r3,rfl⟩:=rd;have O:i'<us.length:=(zES r).1;refine(xaa _ rfl b _ _ _ rfl rfl (SqT.of hb) rfl (nxt O l ⟨rfl,?_⟩));rw[zTA,M];simp
  rintro ys u l ⟨rfl,rfl⟩ D2 U;rw[zTL (by omega)];have y:=Same.new U (.lst ((ks.map Kn.name).map V.str));refine(xav l2 D2 _ _ rfl rfl (y _ _ ups) ups (fits (by rw[zLM,zLM];show 1+_<=_;omega)) (λZ m=>?_));have s4:=Same.new m (.lst ([.str (S "num")]++(ks.map Kn.name).map V.str));have e:=o.trans (y.trans s4);have G:Z≠f':=Ne.symm (neN ((o.trans y) _ _ Y) m);refine(xbe _ rfl _ rfl ka _ rfl (.inr (SqT.of (e _ _ a))) _ (jEAA _ rfl rfl (xag f' p1 q1 _ rfl (e _ _ Y) (by omega) (by omega) (λr5 H5 C z f5=>?_))));obtain⟨x,r,g⟩:=xg8 (ks:=ks) C (by rw[<- J];exact z);exact(xag Z _ _ _ rfl rfl (SqL.of (f5.1 _ _ ups G)) r (q x _ g (((Fed.refl Y).same e).trans f5)))
theorem RelDs.rev{H:Hp}:∀{vs:List V} {ds:List D},RelDs H vs ds->RelDs H vs.reverse ds.reverse
 |vs,[],h=>by rw[show vs=[] from h];rfl
 |vs,d::ds,⟨v,r,e,b,a⟩=>by
  subst e;rw[List.reverse_cons,List.reverse_cons];exact(RelDs.rev a).append (xas v ([]) rfl b rfl)
theorem xm7{α:Type}{l:List α}(h:l.Nodup):l.reverse.Nodup:=List.pairwise_reverse.mpr (h.imp λh=>Ne.symm h)
def bKV(bs:List (Str×Str)):List (Key×V):=bs.map λb=>(Sum.inr b.1,.str b.2)
theorem xkr{H:Hp}:∀{us:List V} {bs:List (Str×Str)},RelDs H us (bs.map xj2)->PairsV H us (bKV bs)
 |us,[],h=>by rw[show us=[] from h];trivial
 |us,b::bs,⟨v,r,e,g,f⟩=>by
  subst e;obtain⟨a,ws,rfl,c,_,_,rfl,rfl,_,_,rfl,rfl,rfl⟩:=g;exact⟨(jEA a rfl c),xkr f⟩
theorem xlv{a b c d r:V}{i j:Int}(h:i=j):[a,b,c,d,r,V.int i]=[a,b,c,d,r,V.int j]:=by rw[h]
theorem xfm{ks:List Kn}(a:KWf ks){k:Kn}(h:k∈ks){p:Str×Str}(b:p∈k.parts):KIn ks 6 p.2:=by
 obtain⟨i,hi,e⟩:=zMI h;have:=a.few;exact KIn.mono (n:=i) (a.ref i k (by rw[<- e];exact zGA hi) p b) (by omega)
def spTw(c:Nat):Sp:=λvs H Q _=>∃(f:Addr) (kv bv:V) (ks:List Kn) (bs:List (Str×Str)) (x:Str) (room:Int) (m j:Nat),vs=[.ref f,kv,bv,.str x,.int room,.int (m:Int)]/\c=7*m+j/\j<=6/\TIn H f kv bv ks bs (m+1)/\m<=7/\KIn ks j x/\smK ks x<=room/\∀a d H',Fed f H H'->RelD H' (.ref a) d->TmB ks (c+1) bs d x->Q (.ref a) H'
def xof(c:Nat):Sp:=λvs H Q E=>∃c',c'<c/\spTw c' vs H Q E
def xmd:Sp:=λvs H Q _=>∃(f l:Addr) (p q:Int) (zs:List Str),vs=[.ref f,.ref l]/\H f=some (.lst [.int p,.int q])/\H l=some (.lst (zs.map V.str))/\zs≠[]/\zs.length<=100/\l≠f/\∀z t H',z∈zs->Fed f H H'->RelD H' (.ref t) (tBox z)->Q (.ref t) H'
def xjg(m:Nat):Sp:=λvs H Q _=>∃(f:Addr) (kv bv pvv:V) (ks:List Kn) (bs ps:List (Str×Str)) (x:Str) (room:Int),vs=[.ref f,kv,bv,pvv,.str x,.int room,.int ((m+1:Nat):Int)]/\TIn H f kv bv ks bs (m+2)/\m<7/\RelD H pvv (xdg ps)/\ps≠[]/\ps.length<=5/\(ps.map (·.1)).Nodup/\(∀p∈ps,KIn ks 6 p.2)/\KIn ks 6 x/\smK ks x*(ps.length:Int)<=room ∧
 ∀(u:V) (rs:List (Str×Str×D)) (H':Hp),Fed f H H'->RelD H' u (.tup (rs.map dArm))->rs.length=ps.length->(∀r∈rs,∃p∈ps,p.1=r.1)->(rs.map (·.1)).Nodup->(∀p∈ps,∃z e,(p.1,z,e)∈rs/\(∀q∈bs,q.1≠z)/\ArmN ks z/\TmB ks (7*m+7) (bs++[(z,p.2)]) e x)->Q u H'
theorem xm1(T:Tx K g)(a:DefIs P w K g base n "_law_take" qac xcl):DefIs P w K g base (n+1) "_law_boxed" qaz xmd:=by
 refine DefIs.of T.j2 xmi (by walk_at"l") (λf M A outer s H vs Q E G h=>?_);obtain⟨J,l,p,x,zs,rfl,I,j,e,m,y,q⟩:=h;refine(jEA _ (zpo (xae (xau (pc pS (pc (pxl K (pv 1) (pd a G (va 0 (pc (xan (xad (K:=K) rfl) rfl T.kS PySem.boot_len (v1 1)) pN zsc)))) pN ss) so)))) ?_);have z:0<zs.length:=List.length_pos_iff.mpr e;have c:(zs.map V.str).length=zs.length:=zLM _;refine(xaq _ rfl _ rfl _ rfl l _ rfl (.inl (SqL.of j)) (xag J p x _ rfl I (by rw[c];omega) (by rw[c];omega) (λr U O u o=>?_)));rw[c]at u;obtain⟨i,rfl⟩:∃i:Nat,r=(i:Int):=⟨r.toNat,by omega⟩;have b:i<zs.length:=by omega
 refine(xav l _ _ (.str zs[i]) rfl rfl (SqL.of (o.1 _ _ j y)) (xax (by rw[zGM,zGA b];rfl)) (by walk_at"s") (λt C=>?_));have st:=Same.new C (.tup [.str (S "box"),.str zs[i]]);exact q zs[i] t _ (List.getElem_mem b) (o.same st) (xam t _ rfl ups _ _ rfl rfl _ (jEAA _ rfl rfl rfl))
theorem xou(T:Tx K mg){c:Nat}(hc:7*m+6<c)(l:DefIs P w K mg base n "_law_take" qac xcl)(g:DefIs P w K mg base n "_law_term" qaf (xof c)):DefIs P w K mg base (n+1) "_law_arms" qba (xjg m):=by
 refine DefIs.of T.j3 scl_arms (by walk_at"l") (λf bc A outer s H vs Q E hr h=>?_);obtain⟨f',kv,bv,ba,ks,bs,ps,x,y,rfl,U,m8,ax,b0,h5,ag,ay,ab,a5,q⟩:=h;have nd:=scl_arms.nd;have hu:=xeg hr
 refine⟨_,(zpn (psn 7 nd (xcb pN))
   (zpn (psn 8 nd (xak xb8 (pv 5) (xan (xad (K:=K) rfl) rfl T.kS PySem.boot_len (v1 3))))
   (zpn (xca PassesOwn.never rfl (xaw (K:=K) rfl (pv 3)) (xbk (K:=K) rfl rfl (xaf (pgn 9 nd) (xaf (pgn 10 nd) xbj)))
   (zpn (psn 11 nd (xak xdr pS (xlj xky pS (pv 6) (λ_ _=>rfl))))
   (zpo (xbx (xc7 PySem.F.plainAttrs_list PySem.F.slot_list_append PySem.F.type_list_append xbt (pv 7) (pc (xau (va 9 (va 11 (pc (pd g hr (va 0 (va 1 (pc (xak xgf (pv 2) (xcb (pc (xau (va 11 (v1 10))) pN sT))) (va 4 (va 8 (pc (xak xcg (pv 6) pI) pN xa1))) xa1)))) pN zsc)))) pN sT))))))
   (zpn (xa6 (pR xa9 (pd l hr (va 0 (pc pI pN so))) pI (nM _)) (zpo (xbx (xsr PySem.F.plainAttrs_list PySem.F.slot_list_reverse PySem.F.type_list_reverse xln (pv 7)))) pQ)
   (zpo (xae (xat (xbq (K:=K) rfl) rfl T.kZ PyProof.Rows.boot_tuple (v1 7)))))))),xab λR1 b7=>?_⟩
 refine⟨(by walk_at"s"),λal Z=>?_⟩;have s0:=Same.new Z (.lst []);obtain⟨p0,q0,hf⟩:=U.fd;have O:al≠f':=Ne.symm (neN hf Z);obtain⟨pa,us,rfl,a9,ae⟩:=ax;have hl:=ae.length;rw[zLM]at hl;have b8:0<ps.length:=List.length_pos_iff.mpr b0;have a8:(0:Int)<(us.length:Int):=by omega
 have b2:(((m+1:Nat):Int))-1=(m:Int):=by omega
 have aa:smK ks x<=y / (us.length:Int):=by
  refine(Int.le_ediv_iff_mul_le a8).mpr ?_;rw[hl];exact a5
 refine b7 _ _ (xab λR2 b6=>?_);refine(xbe _ rfl _ rfl pa _ rfl (.inr (SqT.of (s0 _ _ a9))) _ (xby _ rfl rfl ⟨by omega,by omega⟩ ?_));refine b6 _ _ (xab λR3 b5=>?_);refine(xbd _ rfl pa rfl ⟨_,SqT.of (s0 _ _ a9)⟩ ?_)
 refine xdl (xs:=us) (λi σ H'=>∃(ws:List V) (rs:List (Str×Str×D)) (o8 o9 a3:Option V),σ=[some (.ref f'),some kv,some bv,some (.ref pa),some (.str x),some (.int y),some (.int ((m+1:Nat):Int)),some (.ref al),some (.int (y / (us.length:Int))),o8,o9,a3]/\Fed f' H H'/\H' al=some (.lst ws)/\RelDs H' ws (rs.map dArm)/\rs.map (·.1)=(ps.take i).map (·.1)/\∀p∈ps.take i,∃z e,(p.1,z,e)∈rs/\(∀q∈bs,q.1≠z)/\ArmN ks z/\TmB ks (7*m+7) (bs++[(z,p.2)]) e x)
  (xah ([]) ([]) none none none rfl ((Fed.refl hf).same s0) ups rfl rfl (λp C=>by rw[List.take_zero]at C;exact nomatch C)) (λi σ H' _ p=>?_) ?_ ?_
 ·obtain⟨_,_,_,_,_,_,G,_⟩:=p
  exact SqT.of (xaj U.fd G _ _ a9)
 ·rintro i vv σ H1 ac ⟨ws,rs,o8,o9,a3,rfl,G,J,I,o,M⟩
  have tp:=xaj U.fd G;obtain⟨d,hd,rd⟩:=ae.get ac;rw[zGM]at hd;obtain⟨pr,a7,rfl⟩:=zMS hd;obtain⟨b,wz,rfl,hb,_,_,rfl,rfl,_,_,rfl,rfl,rfl⟩:=rd;have az:=zMG a7;have bb:i<us.length:=(zES ac).1;have ar:=I.length
  have a6:rs.length<=5:=by
   have:=congrArg List.length o;rw[zLM,zLM,List.length_take]at this;omega
  rw[zLM]at ar;refine(xa2 b _ rfl (SqT.of (tp _ _ hb)) rfl _ _ rfl _ (jEAA _ rfl rfl (xab λR4 b4=>?_)));have e2:(Str.ofString "by").length=2:=by walk_at"k"
  refine(jEA _ rfl (xap _ _ _ rfl rfl (by walk_at"k") (xpd (i:=m+1) (by omega)) (xbv _ _ rfl rfl (fits (by rw[e2];show 2+1<=_;decide)) ?_)));rw[show Str.ofString "by"++(⟨#[97+(m+1)]⟩:Str)=byN (m+1) from xpi (m+1)];have hy:∀b∈bs,b.1≠byN (m+1):=λb hb=>U.fr b hb (m+1) (by omega);have aq:∀j,j<m+1->byN (m+1)≠byN j:=λj hj e=>by have:=xrr e;omega
  have t3:=U.fed G;obtain⟨bd,ak,e3,ai,a0,b9⟩:=t3.bx;cases e3;obtain⟨p3,q3,h3⟩:=G.2;refine b4 _ _ ?_;refine(xa3 _ rfl (.inl (jAE rfl _ (SqL.of J))) _ rfl (xar _ rfl _ rfl _ rfl _ rfl _ rfl (jEAA _ rfl (by walk_at"s") (λt1 aw=>⟨(by walk_at"s"),λl1 b1=>?_⟩))));have y1:=Same.new aw (.tup [.str (byN (m+1)),.str pr.2]);have y2:=Same.new b1 (.lst [.ref t1]);have af:=a0.length;rw[zLM]at af;have b3:=U.bl;refine(xav _ l1 _ _ rfl rfl ((y1.trans y2) _ _ ai) ups (fits (by show _+1<=_;omega)) (λl2 ah=>?_));have y3:=Same.new ah (.lst (ak++[.ref t1]));have a2:=y1.trans (y2.trans y3);have t4:=t3.same a2;have ao:l2≠f':=Ne.symm (neN ((y1.trans y2) _ _ h3) ah);refine(xaq _ rfl _ rfl _ rfl _ _ rfl rfl (xaz (7*m+6) hc f' kv (.ref l2) ks (xah (bs++[((byN (m+1)),pr.2)]) x (y / (us.length:Int)) m 6 (xlv b2) rfl (by decide) ⟨t4.fd,t4.kd,t4.wf,t4.nb,(xbv l2 _ rfl ups ?_ ao),?_,?_,?_,?_⟩ (by omega) (jAA ab aa (λu dd H6 f6 ru au=>?_)))))
  ·rw[zAP]
   exact(a0.same a2 _).append (xas _ ([]) rfl (xam t1 _ rfl ((y2.trans y3) _ _ ups) _ _ rfl rfl _ (jEAA _ rfl rfl rfl)) rfl)
  ·rw[zAP]
   exact xjt U.nd λhm=>by
    obtain⟨b',a,e'⟩:=zMP hm;exact hy b' a e'
  ·rw[zLA,List.length_singleton]
   omega
  ·intro b' a j hj
   rcases zMA a with a |a
   ·exact U.fr b' a j (by omega)
   ·rw[zMO a]
    exact aq j hj
  ·intro b' a
   rcases zMA a with a |a
   ·exact U.kn b' a
   ·rw[zMO a]
    exact ay pr az
  refine⟨(by walk_at"s"),λt6 av=>?_⟩;have F6:Fed f' H1 H6:=((Fed.refl h3).same a2).trans f6;have st:=Same.new av (.tup [.str pr.1,.str (byN (m+1)),.ref u]);have Y:=st _ _ (F6.1 _ _ J O);have am:=(I.tups (xaj G.2 F6) _).same st _;refine(xap al ws _ rfl rfl Y (xa4 (by omega)) (xah _ (rs++[(pr.1,(byN (m+1)),dd)]) _ _ _ rfl (Fed.put ((G.trans F6).same st) Z O _) ups ?_ ?_ (λp C=>?_)))
  ·rw[zAP]
   exact(am.tups (xck Y _) _).append (xas _ ([]) rfl (xam t6 _ rfl (xck Y _ _ _ ups) _ _ rfl rfl _ (xbn _ rfl rfl _ _ rfl ((ru.same st _).tups (xck Y _) _) rfl)) rfl)
  ·rw[zAP,o,zTA,a7,zAP]
   rfl
  ·rw[zTA,a7]at C
   rcases zMA C with C |C
   ·obtain⟨z,e,g1,g2,g3⟩:=M p C
    exact(xas z e (List.mem_append_left _ g1) g2 g3)
   ·have ep:p=pr:=by simpa using C
    rw[ep];exact(xbv (byN (m+1)) dd (List.mem_append_right _ (by simp)) hy (.inl ⟨m+1,rfl⟩) au)
 ·rintro σ H1 ⟨ws,rs,o8,o9,a3,rfl,G,J,I,o,M⟩
  rw[zTL (by omega)]at o M
  have a6:rs.length=ps.length:=by
   have:=congrArg List.length o
   rwa[zLM,zLM]at this
  have a1:∀r∈rs,∃p∈ps,p.1=r.1:=λr hr=>by
   have:r.1∈rs.map (·.1):=List.mem_map_of_mem hr;rw[o]at this;obtain⟨p,C,e⟩:=zMP this;exact(jEA p C e)
  obtain⟨p1,q1,h1⟩:=G.2;refine b5 _ _ (xab λR5 aj=>?_);refine(xaa _ rfl f' p1 q1 _ rfl h1 (by decide) (by decide) (λr H2 r0 r1 f2=>(jAEA rfl _ rfl (ite2 (λc=>?_) (λc=>?_)))))
  ·have a4:=f2.1 _ _ J O
   have an:=I.tups (xaj G.2 f2) _;refine(xbn _ rfl (.inl (jAE rfl _ (SqL.of a4))) al ws rfl rfl ⟨a4,?_⟩);refine aj _ _ ?_;refine(jEA _ rfl (jEEA al _ rfl (.inl ⟨SqL.of ups,λt ht=>?_⟩)));have st:=Same.new ht (.tup ws.reverse);refine q _ rs.reverse _ ((Fed.put (G.trans f2) Z O _).same st) (xas t _ rfl ups ?_) (by rw[List.length_reverse];exact a6) (λr hr=>a1 r (List.mem_reverse.mp hr)) ?_ λp C=>?_
   ·rw[List.map_reverse]
    exact(RelDs.rev (an.tups (xck a4 _) _)).same st _
   ·rw[List.map_reverse]
    exact xm7 (by rw[o];exact ag)
   ·obtain⟨z,e,h1,h2,h3⟩:=M p C
    exact(xas z e (List.mem_reverse.mpr h1) h2 h3)
  ·refine aj _ _ ?_
   refine(jEA _ rfl (jEEA al _ rfl (.inl ⟨SqL.of (f2.1 _ _ J O),λt ht=>?_⟩)));have st:=Same.new ht (.tup ws);exact q _ rs _ ((G.trans f2).same st) (xas t _ rfl ups ((I.tups (xaj G.2 f2) _).same st _)) a6 a1 (by rw[o];exact ag) M
def PtAt(H:Hp)(ks:List Kn)(k:Kn)(room:Int)(w:V):Prop:=∃(b:Addr) (p:Str×Str),w=.ref b/\H b=some (.tup [.str p.1,.str p.2])/\p∈k.parts/\smK ks p.2<room
theorem PtAt.tups{H c:Hp}{ks:List Kn}{k:Kn}{a:Int}{w:V}(h:PtAt H ks k a w)(s:∀b us,H b=some (.tup us)->c b=some (.tup us)):PtAt c ks k a w:=by
 obtain⟨b,p,e,f,r⟩:=h;exact(xas b p e (s _ _ f) r)
theorem xqj{r:Int}(h0:0<=r)(h:r<5):∃c,atI (S "+-*<=").cps.toList r=some c/\Sg ⟨#[c]⟩:=by
 obtain⟨i,rfl⟩:∃i:Nat,r=(i:Int):=⟨r.toNat,by omega⟩;have hi:i=0\/i=1\/i=2\/i=3\/i=4:=by omega
 rcases hi with rfl |rfl |rfl |rfl |rfl
 ·exact(jEA 43 (xax (by walk_at"k")) (.inl (by walk_at"k")))
 ·exact(jEA 45 (xax (by walk_at"k")) (.inr (.inl (by walk_at"k"))))
 ·exact(jEA 42 (xax (by walk_at"k")) (.inr (.inr (.inl (by walk_at"k")))))
 ·exact(jEA 60 (xax (by walk_at"k")) (.inr (.inr (.inr (.inl (by walk_at"k"))))))
 ·exact(jEA 61 (xax (by walk_at"k")) (.inr (.inr (.inr (.inr (by walk_at"k"))))))
theorem xi5{α β:Type}{R:α->β->Prop}:∀{as:List α} {bs:List β} {a:α} {b:β},All2 R as bs->R a b->All2 R (as++[a]) (bs++[b])
 |_,_,_,_,.nil,h=>.cons h .nil
 |_,_,_,_,.cons h t,k=>.cons h (xi5 t k)
theorem xp2{ks:List Kn}:∀(n:Nat) (env:En) (d v:D),Evs ks n env d v->Evs ks (n+1) env d v
 |0,_,_,_,h=>.inl h
 |n+1,env,d,v,h=>by
  rcases h with h |⟨h,g⟩
  ·exact .inl h
  ·exact .inr ⟨h.mono (xp2 n),g⟩
theorem xta{ks:List Kn}{n m:Nat}(l:n<=m){env:En}{d v:D}(h:Evs ks n env d v):Evs ks m env d v:=by
 obtain⟨k,rfl⟩:∃k,m=n+k:=⟨m-n,by omega⟩;clear l
 induction k with
 |zero=>exact h
 |succ k a=>exact xp2 _ _ _ _ a
theorem TmB.le{ks:List Kn}{n m:Nat}{bs:List (Str×Str)}{d:D}{x:Str}(h:TmB ks n bs d x)(l:n<=m):TmB ks m bs d x:=⟨λenv a=>by
 obtain⟨v,c,b⟩:=h.1 env a;exact(jEA v (xta l c) b),λenv a=>xt7 l (h.2 env a)⟩
theorem xf2 (T:Tx K mg) {c:Nat} (G:DefIs P w K mg base n "_law_sort_of" qab xfd) (o:DefIs P w K mg base n "_law_take" qac xcl) (I:DefIs P w K mg base n "_law_number" qa8 xpp) (l:DefIs P w K mg base n "_law_small" qab (spSm smK 6)) (g:DefIs P w K mg base n "_law_term" qaf (xof c)) :
  DefIs P w K mg base (n+1) "_law_whole_term" qaf (spTw c):=by
 refine DefIs.of T.j4 scl_whole_term (by walk_at"l") (λf bu A outer s H vs Q E hr h=>?_);obtain⟨Y,kv,bv,ks,bs,x,C,m,j,rfl,bt,bd,ti,m8,am,bb,q⟩:=h;have nd:=scl_whole_term.nd;have wf:=ti.wf;have an:KIn ks 6 x:=am.mono bd
 refine⟨_,(zpn (xde (pd G hr (va 1 (v1 3))) (xbk (K:=K) rfl rfl (xaf (pgn 6 nd) (xaf (pgn 7 nd) xbj))))
   (zpn (xa6 (pR xa9 (pv 6) pS (nM _)) (zpn (xa6 (PW.pt (xol (pR xfi (pv 4) pI (nM _)) (xol (pR xa9 (pv 5) pI (nM _)) (xml (pR xa9 (pd o hr (va 0 (pc pI pN so))) pI (nM _)))))) (zpo (xae (xau (pc pS (pc (pd I hr (v1 0)) pN zsc) so)))) pQ)
   (zpn (psn 8 nd (pd g hr (va 0 (va 1 (va 2 (pc pS (pc (xak xb8 (xak xcg (pv 4) pI) pI) (pc (xak xcg (pv 5) pI) pN xa1) xa1) so))))))
   (zpn (psn 9 nd (pd g hr (va 0 (va 1 (va 2 (pc pS (pc (xak xb8 (xak xcg (pv 4) pI) pI) (pc (xak xcg (pv 5) pI) pN xa1) xa1) so))))))
   (zpo (xae (xau (pc pS (pc (xlj xky pS (pd o hr (va 0 (pc pI pN so))) (λ_ _=>rfl)) (va 8 (v1 9)) ss) so))))))) pQ)
   (zpn (xa6 (pR xa9 (pv 6) pS (nM _)) (zpn (xcy (i:=10) ["_law_part","_law_room","_law_kinds_here"] [none,some 4,some 1] rfl (by kernel_rfl) nd rfl (by walk_at"o") (xaw (K:=K) rfl (pv 7)) (λ_ _ _ _=>(pgc 0)) (λ_ _ _ _=>(xd6 (pR xfi (pd l hr (va 2 (pc (px K (pv 0) pI) pN ss))) (pv 1) (nM _)))) (λ_ _ _ _=>(pv 0)))
   (zpn (xde (pxl K (pv 10) (pd o hr (va 0 (pc (xan (xad (K:=K) rfl) rfl T.kS PySem.boot_len (v1 10)) pN zsc)))) (xbk (K:=K) rfl rfl (xaf (pgn 11 nd) (xaf (pgn 12 nd) xbj))))
   (zpo (xae (xau (pc pS (va 3 (va 11 (pc (pd g hr (va 0 (va 1 (va 2 (va 12 (pc (xak xcg (pv 4) pI) (v1 5) xa1)))))) pN zsc))) so)))))) pQ)
   (zpn (psn 13 nd (xak xcg (pv 4) (pd l hr (va 1 (v1 3)))))
   (zpn (psn 14 nd (xcb pN))
   (zpn (xca PassesOwn.never rfl (xaw (K:=K) rfl (pv 7)) (xbk (K:=K) rfl rfl (xaf (pgn 15 nd) (xaf (pgn 12 nd) xbj)))
   (zpo (xbx (xc7 PySem.F.plainAttrs_list PySem.F.slot_list_append PySem.F.type_list_append xbt (pv 14) (pc (pd g hr (va 0 (va 1 (va 2 (va 12 (pc (xak xba (pd l hr (va 1 (v1 12))) (xak xb8 (pv 13) (xan (xad (K:=K) rfl) rfl T.kS PySem.boot_len (v1 7)))) (v1 5) xa1)))))) pN zsc)))))
   (zpo (xae (xau (pc pS (va 3 (pc (xat (xbq (K:=K) rfl) rfl T.kZ PyProof.Rows.boot_tuple (v1 14)) pN zsc)) so)))))))))),xab λR1 bl=>?_⟩
 refine(xai _ rfl _ rfl kv ks x (jAA rfl ((wf.ksAt ti.kd).seq) (λt bm H1 s1 ht rp=>?_)));refine(xa2 t _ rfl (SqT.of ht) rfl _ _ rfl _ (jEAA _ rfl rfl ?_));refine bl _ _ (xab λR2 az=>?_);have t1:=ti.same s1;obtain⟨p1,q1,h1⟩:=t1.fd;obtain⟨p0,q0,hf⟩:=ti.fd;have F1:Fed Y H H1:=(Fed.refl hf).same s1;rcases am.look wf with⟨rfl,Z⟩ |⟨j',k,bc,Z,hn,a6,av⟩
 ·refine(xa3 _ rfl rfl _ rfl (iteKT (zDT (by rw[Z];rfl)) ?_))
  have RN:∀(H2:Hp) (f2:Fed Y H1 H2),∀(i:Int) (H3:Hp),Nm i->Fed Y H2 H3->∀t,H3 t=none->Q (.ref t) (upd H3 t (.tup [.str (S "num"),.int i])):=λH2 f2 i H3 hi f3 t ht=>by
   have st:=Same.new ht (.tup [.str (S "num"),.int i]);exact q _ (tNum i) _ (((F1.trans f2).trans f3).same st) (xam t _ rfl ups _ _ rfl rfl _ (jEAA _ rfl rfl rfl)) (xr2 hi)
  refine(xbc _ rfl _ _ rfl rfl _ rfl (ite2 (λc1=>?_) (λc1=>?_)))
  ·exact iteT (jEA _ rfl (xbo Y p1 q1 rfl h1 (λi H3 hi f3=>⟨(by walk_at"s"),λt ht=>RN H1 (Fed.refl h1) i H3 hi f3 t ht⟩)))
  refine(xa3 _ rfl rfl _ rfl (ite2 (λc2=>?_) (λc2=>?_)))
  ·exact iteT (jEA _ rfl (xbo Y p1 q1 rfl h1 (λi H3 hi f3=>⟨(by walk_at"s"),λt ht=>RN H1 (Fed.refl h1) i H3 hi f3 t ht⟩)))
  have bx:¬C<3:=λz=>c1 (zDT z);have bw:¬(m:Int)=0:=λz=>c2 (zDT (congrArg V.int z));obtain⟨m',rfl⟩:∃m',m=m'+1:=⟨m-1,by omega⟩;have aw:(((m'+1:Nat):Int))-1=(m':Int):=by omega
  refine(xaa _ rfl Y p1 q1 _ rfl h1 (by decide) (by decide) (λr H2 r0 r1 f2=>(jAEA rfl _ rfl (ite2 (λc3=>?_) (λc3=>?_)))))
  ·obtain⟨p2,q2,h2⟩:=f2.2
   exact(jEA _ rfl (xbo Y p2 q2 rfl h2 (λi H3 hi f3=>⟨(by walk_at"s"),λt ht=>RN H2 f2 i H3 hi f3 t ht⟩)))
  have t2:=t1.fed f2;have ba:=(xmf wf).1;have ar:smK ks (S "num")<=(C-1) / 2:=by rw[ba];omega
  refine(jEA _ rfl (xaq _ rfl _ rfl _ rfl _ _ rfl rfl (xbv _ _ rfl rfl ⟨by decide,by decide⟩ (xa0 _ rfl _ _ rfl rfl ?_))));refine(xaz (7*m') (by omega) Y kv bv ks (xah bs (S "num") ((C-1) / 2) m' 0 (xlv aw) rfl (by decide) (t2.down (by omega)) (by omega) (jAA (.inl rfl) ar (λu1 d1 H3 f3 b4 b8=>?_))));have t3:=t2.fed f3;refine(jEA _ rfl (xaq _ rfl _ rfl _ rfl _ _ rfl rfl (xbv _ _ rfl rfl ⟨by decide,by decide⟩ (xa0 _ rfl _ _ rfl rfl ?_))));refine(xaz (7*m') (by omega) Y kv bv ks (xah bs (S "num") ((C-1) / 2) m' 0 (xlv aw) rfl (by decide) (t3.down (by omega)) (by omega) (jAA (.inl rfl) ar (λu2 d2 H4 f4 b3 af=>?_))));have t4:=t3.fed f4;obtain⟨p4,q4,h4⟩:=t4.fd;refine(xaa _ rfl Y p4 q4 _ rfl h4 (by decide) (by decide) (λr' H5 b6 b5 f5=>?_));obtain⟨ch,be,b9⟩:=xqj b6 b5;refine(xap _ _ ch rfl rfl (by walk_at"k") be (xbd _ rfl _ rfl (by walk_at"s") (λt' ag=>?_)));have st:=Same.new ag (.tup [.str (S "op"),.str ⟨#[ch]⟩,.ref u1,.ref u2]);exact q _ (tOpD ⟨#[ch]⟩ d1 d2) _ (((((F1.trans f2).trans f3).trans f4).trans f5).same st) (xam t' _ rfl ups _ _ rfl rfl _ (xbn _ rfl rfl _ _ rfl (((b4.tups (xaj t3.fd f4) _).tups (xaj t4.fd f5) _).same st _) (xas _ _ rfl ((b3.tups (xaj t4.fd f5) _).same st _) rfl))) (TmB.le (xtm wf b9 b8 af) (by omega))
 ·subst bc
  rw[Z]at rp;obtain⟨a,us,rfl,ha,ac⟩:=rp;have hl:=ac.length;rw[zLM]at hl;have h5:=wf.pts k a6;have a5:xfy (kAt ks x)=k.sort:=by rw[Z];rfl
  have es:=(xsc wf Z).1;unfold smS at es
  cases hc:k.rc with
  | false=>
   rw[if_neg (by rw[hc];decide)]at es;refine(xa3 _ rfl rfl _ rfl (iteKF (zDF (by rw[a5,xel hc];decide +kernel)) ?_));refine az _ _ (xab λR3 ay=>?_);refine(xa3 _ rfl rfl _ rfl (iteKT (zDT (by rw[a5,xel hc];rfl)) ?_));refine(xbd _ rfl a rfl ⟨_,SqT.of ha⟩ ?_);refine xbm (xs:=us) (λi ys H'=>Same H1 H'/\(∀z∈ys,PtAt H' ks k C z)/\(1<=i->ys≠[])) (jAA (Same.refl _) (λ_ h=>nomatch h) (λh=>absurd h (by decide))) (xa4 (by omega)) (λi ys H' _ p=>SqT.of (p.1 _ _ ha)) ?_ ?_
   ·rintro i y ys H' hy ax ai ⟨M,a3,ah⟩
    obtain⟨d',a1,a8⟩:=ac.get hy;rw[zGM]at a1;obtain⟨pr,J,rfl⟩:=zMS a1;obtain⟨b,b0,rfl,hb,_,_,rfl,rfl,_,_,rfl,rfl,rfl⟩:=a8;have O:=zMG J
    have first:i=0->smK ks pr.2<C:=λe0=>by
     subst e0
     cases au:k.parts with
     |nil=>rw[au]at J;simp at J
     |cons p r=>
      rw[au]at J es;simp at J;subst J;have es':smK ks x=1+smK ks p.2:=es;omega
    refine⟨xfs rfl,?_⟩;refine(xai _ rfl _ rfl b _ _ (xbl _ rfl rfl (SqT.of (M _ _ hb)) rfl (xap kv ks pr.2 rfl (t1.kd.same M _) wf (xfm wf a6 O) (λH3 s3=>(xbc _ rfl _ _ rfl rfl _ rfl (ite2 (λc1=>?_) (λc1=>?_)))))))
    ·refine(jEA _ rfl (nxtG ax ai (jAA (M.trans s3) (λz hz=>?_) (λ_=>by simp))))
     rcases zMA hz with hz |hz
     ·exact(a3 z hz).tups λb us q=>s3 _ _ q
     ·rw[zMO hz]
      exact(xbv b pr rfl (s3 _ _ (M _ _ hb)) O (of_decide_eq_true c1))
    ·refine nxtN ax ai (jAA (M.trans s3) (λz hz=>(a3 z hz).tups λb us q=>s3 _ _ q) (λ_=>?_))
     by_cases e0:i=0
     ·exact absurd (zDT (first e0)) c1
     ·exact ah (by omega)
   ·rintro ys H2 ai ⟨M,a3,ah⟩ D hD
    have bq:k.parts.length≠0:=λe=>wf.alt k a6 hc (List.length_eq_zero_iff.mp e);have al:=ah (by omega);have bn:0<ys.length:=Nat.pos_of_ne_zero λe=>al (List.length_eq_zero_iff.mp e);have sD:=Same.new hD (.lst ys);have a0:=M.trans sD;have Df:D≠Y:=Ne.symm (neN (M _ _ h1) hD);refine(xaq _ rfl _ rfl _ rfl D _ rfl (.inl (SqL.of ups)) (xag Y p1 q1 _ rfl (a0 _ _ h1) (by omega) (by omega) (λr H5 r0 r1 f5=>?_)));obtain⟨i,rfl⟩:∃i:Nat,r=(i:Int):=⟨r.toNat,by omega⟩;have aj:i<ys.length:=by omega
    have t2:=t1.same a0;have b1:=xaj t2.fd f5;obtain⟨b,p,eb,hb,O,bp⟩:=((a3 ys[i] (List.getElem_mem aj)).tups λb us q=>sD _ _ q).tups b1;have bf:atI ys (i:Int)=some (.ref b):=xax (by rw[zGA aj,eb]);refine(xa8 D _ _ _ rfl rfl (SqL.of (f5.1 _ _ ups Df)) bf b (xby _ rfl (SqT.of hb) rfl (jEEA _ _ rfl (xas _ _ rfl rfl ?_))));have t5:=t2.fed f5;refine(xar _ rfl _ rfl _ rfl _ rfl _ rfl (xbe _ rfl _ rfl _ _ rfl rfl _ ⟨rfl,?_⟩));refine(xaz (7*m+j') (by omega) Y kv bv ks (xah bs p.2 (C-1) m j' rfl rfl (by omega) t5 m8 (jAA (av p O) (by omega) (λu du H7 f7 ru ae=>⟨(by walk_at"s"),λt' ag=>?_⟩))));have st:=Same.new ag (.tup [.str (S "tag"),.str x,.str p.1,.ref u]);exact q _ (tTag x p.1 du) _ ((((F1.same a0).trans f5).trans f7).same st) (xam t' _ rfl ups _ _ rfl rfl _ (xbn _ rfl rfl _ _ rfl rfl (xas _ _ rfl (ru.same st _) rfl))) (TmB.le (xr0 wf Z hc O ae) (by omega))
  | true=>
   rw[if_pos hc]at es;refine(xa3 _ rfl rfl _ rfl (iteKF (zDF (by rw[a5,xea hc];decide +kernel)) ?_));refine az _ _ (xab λR3 ay=>?_);refine(xa3 _ rfl rfl _ rfl (iteKF (zDF (by rw[a5,xea hc];decide +kernel)) ?_));refine ay _ _ (xab λR4 bj=>?_);refine(xbu _ rfl _ rfl _ rfl kv ks (xbl x rfl t1.kd wf an (λH2 s2=>(xas _ _ rfl rfl ?_))));refine bj _ _ (xab λR5 bi=>?_);refine⟨(by walk_at"s"),λtl aq=>?_⟩;refine bi _ _ (xab λR6 bh=>?_);have a0:=s2.trans (Same.new aq (.lst []));have a7:=xay s2 aq;have ak:tl≠Y:=Ne.symm (neN h1 a7);refine(xbd _ rfl a rfl ⟨_,SqT.of (a0 _ _ ha)⟩ ?_);refine xdl (xs:=us) (λi σ H'=>∃(ws:List V) (ds:List D) (aa a9:Option V),σ=[some (.ref Y),some kv,some bv,some (.str x),some (.int C),some (.int (m:Int)),some (.str (xfy (kAt ks x))),some (.ref a),none,none,none,none,aa,some (.int (C-smK ks x)),some (.ref tl),a9]/\Fed Y H1 H'/\H' tl=some (.lst ws)/\RelDs H' ws ds/\All2 (λe (p:Str×Str)=>TmB ks (7*m+j'+1) bs e p.2) ds (k.parts.take i)) (xag ([]) ([]) none none rfl ((Fed.refl h1).same a0) ups rfl (by rw[List.take_zero];exact .nil)) (λi σ H' _ p=>?_) ?_ ?_
   ·obtain⟨_,_,_,_,_,fm,_⟩:=p
    exact SqT.of (xaj t1.fd fm _ _ ha)
   ·rintro i vv σ H3 ao ⟨ws,ds,aa,a9,rfl,fm,a4,a2,U⟩
    have tp:=xaj t1.fd fm;obtain⟨d',a1,a8⟩:=ac.get ao;rw[zGM]at a1;obtain⟨pr,J,rfl⟩:=zMS a1;obtain⟨b,b0,rfl,hb,_,_,rfl,rfl,_,_,rfl,rfl,rfl⟩:=a8;have O:=zMG J;have t3:=t1.fed fm;have bo:=a2.length;have bg:=U.length;rw[List.length_take]at bg;have aj:i<us.length:=(zES ao).1;refine(xa2 b _ rfl (SqT.of (tp _ _ hb)) rfl _ _ rfl _ (jEAA _ rfl rfl ?_));refine(xa3 _ rfl (.inl (jAE rfl _ (SqL.of a4))) _ rfl (xar _ rfl _ rfl _ rfl _ rfl _ rfl (xap kv ks pr.2 rfl t3.kd wf (xfm wf a6 O) (λH4 s4=>?_))));have br:0<=(C-smK ks x) / (us.length:Int):=Int.ediv_nonneg (by omega) (by omega);refine(xbe _ rfl _ rfl a _ rfl (.inr (SqT.of (s4 _ _ (tp _ _ ha)))) _ (xby _ rfl rfl ⟨by omega,by omega⟩ (xas _ _ rfl rfl (jEA _ rfl ?_))));have t4:=t3.same s4;refine(xaz (7*m+j') (by omega) Y kv bv ks (xah bs pr.2 (smK ks pr.2+(C-smK ks x) / (us.length:Int)) m j' rfl rfl (by omega) t4 m8 (jAA (av pr O) (by omega) (λu du H5 f5 ru ae=>?_))));have ab:=f5.1 _ _ (s4 _ _ a4) ak;have b2:=(a2.same s4 _).tups (xaj t4.fd f5) _;refine(xap tl ws _ rfl rfl ab (xa4 (by omega)) (xag _ (ds++[du]) _ _ rfl (Fed.put ((fm.same s4).trans f5) a7 ak _) ups ((b2.tups (xck ab _) _).append (xas (.ref u) ([]) rfl (ru.tups (xck ab _) _) rfl)) ?_));rw[zTA,J];exact xi5 U ae
   ·rintro σ H3 ⟨ws,ds,aa,a9,rfl,fm,a4,a2,U⟩
    rw[zTL (by omega)]at U;refine bh _ _ ?_;refine(jEA _ rfl (jEA _ rfl (jEEA tl ws rfl (.inl ⟨SqL.of a4,λt2 af=>⟨(by walk_at"s"),λt3 b7=>?_⟩⟩))));have y2:=Same.new af (.tup ws);have y3:=Same.new b7 (.tup [.str (S "rec"),.str x,.ref t2]);exact q _ (tRec x ds) _ ((F1.trans fm).same (y2.trans y3)) (xam t3 _ rfl ups _ _ rfl rfl _ (xbn _ rfl rfl _ _ rfl (xas t2 ws rfl (y3 _ _ ups) (a2.same (y2.trans y3) _)) rfl)) (TmB.le (xr1 Z hc (by omega) U) (by omega))
structure Hold(R:Prop):Prop where
 go:R
theorem xpy{R A:Prop}(h:Hold R->A)(r:R):A:=h ⟨r⟩
theorem DefIs.anyP{P:Program}{w:World}{K:Fg}{e:Str->Option Value}{base:Heap}{n:Nat}{x:Str}{st:Stmt}{ps:List Str}{Pr:Nat->Prop}{sps:Nat->Sp}(T:DefTx K e x st ps)(D:∀m,Pr m->DefIs P w K e base n x ps (sps m)):DefIs P w K e base n x ps (λvs H Q E=>∃m,Pr m/\sps m vs H Q E):=by
 by_cases p:∃m,Pr m
 ·obtain⟨u,h0⟩:=p
  obtain⟨f,I,F,b,k,o,l⟩:=(D u h0).ex;refine⟨f,(xbl I ⟨?_,?_⟩ b k o l)⟩
  ·rintro vs H Q E ⟨m,g,h⟩
   obtain⟨J,i,j,_⟩:=(D m g).ex;exact j.1 vs H Q E h
  ·rintro A outer s H args us vs Q E G C z y ⟨m,g,h⟩
   obtain⟨J,i,j,U,O,a,c⟩:=(D m g).ex;rw[o]at a;cases a;obtain⟨M,od,r,l⟩:=l;obtain⟨_,_,_,c⟩:=c;rw[l]at c;cases c;exact j.2 A outer s H args us vs Q E G C z y h
 ·exact DefIs.none T λvs H Q E h=>p ⟨h.choose,h.choose_spec.1⟩
def xqi(c:Nat):Sp:=λvs H Q E=>∃m,7*m+6<c/\xjg m vs H Q E
theorem xlw{z:Str}:∀{bs:List (Str×Str)},(∀b∈bs,b.1≠z)->∀acc,valV (xcx acc (bKV bs)) (Sum.inr z)=valV acc (Sum.inr z)
 |[],_,acc=>rfl
 |b::bs,h,acc=>by
  have:=xlw (bs:=bs) (λc a=>h c (by simp[a])) (putK acc (Sum.inr b.1) (.str b.2));show valV (xcx (putK acc (Sum.inr b.1) (.str b.2)) (bKV bs)) (Sum.inr z)=_;rw[this,xgp,if_neg];intro e;exact h b (by simp) (Sum.inr.inj e).symm
theorem xpl{z k:Str}:∀{bs:List (Str×Str)},(bs.map (·.1)).Nodup->(z,k)∈bs->∀acc,valV (xcx acc (bKV bs)) (Sum.inr z)=some (.str k)
 | b::bs,nd,h,acc=>by
  rw[List.map_cons,List.nodup_cons]at nd;show valV (xcx (putK acc (Sum.inr b.1) (.str b.2)) (bKV bs)) (Sum.inr z)=_;rcases zMC h with h |h
  ·subst h
   rw[xlw (bs:=bs) (λc a e=>nd.1 (List.mem_map.mpr (jEA c a e))),xgp,if_pos rfl]
  ·exact xpl nd.2 h _
theorem xne{ks:List Kn}(f:KWf ks){y:Str}(h:KIn ks 6 y){H:Hp}{v:V}(b:RelD H v (xkq (kAt ks y))):∃ps,RelD H v (xdg ps)/\ps.length<=5/\(xfy (kAt ks y)=S "rec"->∃k,kAt ks y=some k/\k.rc=true/\k.parts=ps)/\(xfy (kAt ks y)=S "alt"->∃k,kAt ks y=some k/\k.rc=false/\k.parts=ps):=by
 rcases h.look f with⟨rfl,e⟩ |⟨j,k,l,e,hn,g,i⟩
 ·rw[e]at b⊢
  exact(xby ([]) b (by decide) (λz=>absurd z (by walk_at"k")) (λz=>absurd z (by walk_at"k")))
 ·rw[e]at b⊢
  refine(xby k.parts b (by have:=f.pts k g;omega) (λz=>(jEAA k rfl ?_ rfl)) (λz=>(jEAA k rfl ?_ rfl)))
  ·cases c:k.rc with
   |true=>rfl
   |false=>
    have a:k.sort=S "rec":=z;rw[xel c]at a;exact absurd a (by walk_at"k")
  ·cases c:k.rc with
   |false=>rfl
   |true=>
    have a:k.sort=S "alt":=z;rw[xea c]at a;exact absurd a (by walk_at"k")
def HdAt(H:Hp)(ks:List Kn)(bs:List (Str×Str))(x:Str)(w:V):Prop:=∃(b:Addr) (z g y:Str) (k:Kn),w=.ref b/\H b=some (.tup [.str z,.str g])/\(z,y)∈bs/\kAt ks y=some k/\k.rc=true/\(g,x)∈k.parts
theorem HdAt.tups{H a:Hp}{ks:List Kn}{bs:List (Str×Str)}{x:Str}{w:V}(h:HdAt H ks bs x w)(s:∀b us,H b=some (.tup us)->a b=some (.tup us)):HdAt a ks bs x w:=by
 obtain⟨b,z,g,y,k,e,c,r⟩:=h;exact(xal b z g y k (jAA e (s _ _ c) r))
def TgOk(ks:List Kn)(bs:List (Str×Str))(z:Str):Prop:=∃(y:Str) (k:Kn),(z,y)∈bs/\kAt ks y=some k/\k.rc=false
theorem xop (T:Tx K mg) {c:Nat} (C:DefIs P w K mg base n "_law_take" qac xcl) (a3:DefIs P w K mg base n "_law_boxed" qaz xmd) (a2:DefIs P w K mg base n "_law_small" qab (spSm smK 6)) (e:DefIs P w K mg base n "_law_sort_of" qab xfd) (o:DefIs P w K mg base n "_law_term" qaf (xof c)) (a6:DefIs P w K mg base n "_law_arms" qba (xqi c)) (M:DefIs P w K mg base n "_law_whole_term" qaf (spTw c)) :
  DefIs P w K mg base (n+1) "_law_term" qaf (spTw c):=by
 refine DefIs.of T.j5 scl_term (by walk_at"l") (λf da A outer s H vs Q E hr h=>?_);obtain⟨f',kv,bv,ks,bs,x,l,m,j,rfl,ac,a0,ti,m8,Z,J,q⟩:=h;have nd:=scl_term.nd;have hu:=xeg hr;have wf:=ti.wf;have ax:KIn ks 6 x:=Z.mono a0;have d8:=xkl wf x
 refine⟨_,(zpn (xcy (i:=6) ["_law_x","_law_told","_law_kind"] [none,none,some 3] rfl (by kernel_rfl) nd rfl (by walk_at"o") (xbs (K:=K) rfl (pv 2)) (λ_ _ _ _=>(xbk (K:=K) (n:=2) rfl rfl (xaf (pgc 0) (xaf (pgc 1) xbj)))) (λ_ _ _ _=>(xd6 (pR xa9 (pv 1) (pv 2) (nM _)))) (λ_ _ _ _=>(pv 0)))
   (zpn (psn 7 nd (pd C hr (va 0 (pc pI pN so))))
   (zpn (xa6 (PW.pt (xci (pR xc2 (xan (xad (K:=K) rfl) rfl T.kS PySem.boot_len (v1 6)) pI (nM _)) (xb3 (pR xfi (pv 7) pI (nM _))))) (zpo (xae (pd a3 hr (va 0 (v1 6))))) pQ)
   (zpn (psn 8 nd (pd a2 hr (va 1 (v1 3))))
   (zpn (xa6 (PW.pt (xci (pR xa9 (pv 7) pI (nM _)) (xci (pR xc2 (pv 5) pI (nM _)) (xb3 (pR xc2 (pv 4) (xak xba (xak xc5 pI (pv 8)) pI) (nM _)))))) (zpn (psn 9 nd (xak xb8 (xak xcg (xak xcg (pv 4) pI) (xak xc5 pI (pv 8))) pI))
   (zpn (psn 10 nd (pd o hr (va 0 (va 1 (va 2 (pc pS (pc (xak xba pI (pv 9)) (pc (xak xcg (pv 5) pI) pN xa1) xa1) so))))))
   (zpn (psn 11 nd (pd o hr (va 0 (va 1 (va 2 (va 3 (pc (xak xba (pv 8) (pv 9)) (pc (xak xcg (pv 5) pI) pN xa1) xa1)))))))
   (zpo (xae (xau (pc pS (va 10 (va 11 (pc (pd o hr (va 0 (va 1 (va 2 (va 3 (pc (xak xba (pv 8) (pv 9)) (pc (xak xcg (pv 5) pI) pN xa1) xa1)))))) pN zsc))) so))))))) pQ)
   (zpn (xa6 (PW.pt (xci (pR xa9 (pv 7) pI (nM _)) (xb3 (pR xc2 (pv 4) pI (nM _))))) (zpn (psn 12 nd (xcb pN))
   (zpn (xca PassesOwn.never rfl (xbs (K:=K) rfl (pv 2)) (xbk (K:=K) rfl rfl (xaf (pgn 13 nd) (xaf (pgn 14 nd) xbj)))
   (zpn (xde (pd e hr (va 1 (v1 14))) (xbk (K:=K) rfl rfl (xaf (pgn 15 nd) (xaf (pgn 16 nd) xbj))))
   (zpo (psn 12 nd (xak xgf (pv 12) (xbp ["_law_f","_law_part","_law_x","_law_sort","_law_kind"] [none,none,some 13,some 15,some 3] rfl (by kernel_rfl) (xaw (K:=K) rfl (pv 16)) (λ_ _ _ _=>(xbk (K:=K) (n:=2) rfl rfl (xaf (pgc 0) (xaf (pgc 1) xbj)))) (λ_ _ _ _=>(xd6 (PW.pt (xci (pR xa9 (pv 3) pS (nM _)) (xb3 (pR xa9 (pv 1) (pv 4) (nM _))))))) (λ_ _ _ _=>(xau (va 2 (v1 0))))))))))
   (zpo (xa6 (pR xc2 (xan (xad (K:=K) rfl) rfl T.kS PySem.boot_len (v1 12)) pI (nM _)) (zpn (xde (pxl K (pv 12) (pd C hr (va 0 (pc (xan (xad (K:=K) rfl) rfl T.kS PySem.boot_len (v1 12)) pN zsc)))) (xbk (K:=K) rfl rfl (xaf (pgn 13 nd) (xaf (pgn 17 nd) xbj))))
   (zpo (xae (xau (pc pS (pc (xau (pc pS (v1 13) so)) (v1 17) sT) so))))) pQ)))) pQ)
   (zpn (xa6 (PW.pt (xci (pR xa9 (pv 7) pI (nM _)) (xb3 (pR xc2 (pv 5) pI (nM _))))) (zpn (xcy (i:=18) ["_law_x","_law_told","_law_kinds_here"] [none,none,some 1] rfl (by kernel_rfl) nd rfl (by walk_at"o") (xbs (K:=K) rfl (pv 2)) (λ_ _ _ _=>(xbk (K:=K) (n:=2) rfl rfl (xaf (pgc 0) (xaf (pgc 1) xbj)))) (λ_ _ _ _=>(xd6 (pR xa9 (px K (pd e hr (va 2 (v1 1))) pI) pS (nM _)))) (λ_ _ _ _=>(pv 0)))
   (zpo (xa6 (pR xc2 (xan (xad (K:=K) rfl) rfl T.kS PySem.boot_len (v1 18)) pI (nM _)) (zpn (psn 13 nd (pxl K (pv 18) (pd C hr (va 0 (pc (xan (xad (K:=K) rfl) rfl T.kS PySem.boot_len (v1 18)) pN zsc)))))
   (zpn (psn 16 nd (px K (pd e hr (va 1 (pc (xcj hu (xat (xcz rfl) rfl T.kP PyProof.Rows.boot_dict (v1 2)) (pv 13) (λ_ _=>rfl)) pN ss))) pI))
   (zpo (xa6 (pR xst (xak xcg (pv 4) pI) (xak xc5 (pv 8) (xan (xad (K:=K) rfl) rfl T.kS PySem.boot_len (v1 16))) (nM _)) (zpo (xae (xau (pc pS (pc (xau (pc pS (v1 13) so)) (pc (pd a6 hr (va 0 (va 1 (va 2 (va 16 (va 3 (pc (xak xcg (pv 4) pI) (v1 5) xa1))))))) pN zsc) sT) so)))) pQ)))) pQ))) pQ)
   (zpo (xae (pd M hr (va 0 (va 1 (va 2 (va 3 (va 4 (v1 5)))))))))))))))),?_⟩
 refine xab λR1 cw=>?_;obtain⟨p0,q0,hf⟩:=ti.fd;have cl:=ti.bx;obtain⟨bl,ub,rfl,br,bg,dc⟩:=cl;have cd:=bg.length;rw[zLM]at cd;have cm:=ti.bl;refine(xbd _ rfl bl rfl ⟨_,SqL.of br⟩ ?_);refine xen (xs:=ub) (λi ys I=>I=H/\∃zs:List Str,ys=zs.map V.str/\(∀z∈zs,(z,x)∈bs)/\zs.length<=i) (xf7 rfl ([]) rfl (λ_ h=>nomatch h) (Nat.le_refl _)) (xa4 (by omega)) (λi ys I _ p=>by obtain⟨rfl,_⟩:=p;exact SqL.of br) ?_ ?_
 ·rintro i y ys I hy a5 O ⟨rfl,zs,rfl,aa,bc⟩
  obtain⟨d',U,a9⟩:=bg.get hy;rw[zGM]at U;obtain⟨pr,am,rfl⟩:=zMS U;obtain⟨b,b7,rfl,hb,_,_,rfl,rfl,_,_,rfl,rfl,rfl⟩:=a9;refine(xa2 b _ rfl (SqT.of hb) rfl _ _ rfl _ (xby _ rfl rfl (ext2 rfl rfl) ?_));refine(xcp _ rfl _ rfl rfl _ rfl ?_);by_cases ab:pr.2=x
  ·refine iteKT (zDT (by rw[ab])) (jEA _ rfl (nxtG a5 O (xf7 rfl (zs++[pr.1]) (by rw[zAP];rfl) (λz hz=>?_) (by rw[zLA,List.length_singleton];omega))))
   rcases zMA hz with hz |hz
   ·exact aa z hz
   ·rw[zMO hz,<- ab]
    exact zMG am
  ·exact iteKF (zDF λz=>ab (V.str.inj z)) (nxtN a5 O (xf7 rfl zs rfl aa (by omega)))
 rintro ys H2 O ⟨rfl,zs,rfl,aa,bc⟩ D hD;have sD:=Same.new hD (.lst (zs.map V.str));have t1:=ti.same sD;have F1:=(Fed.refl hf).same sD;have Df:D≠f':=Ne.symm (neN hf hD);refine cw _ _ (xab λR2 cv=>?_);refine(xaa _ rfl f' p0 q0 _ rfl (sD _ _ hf) (by decide) (by decide) (λfm H1 m0 m1 f1=>?_));have t2:=t1.fed f1;have F2:=F1.trans f1;obtain⟨p2,q2,h2⟩:=t2.fd;have bz:=f1.1 _ _ ups Df;have zl:(zs.map V.str).length=zs.length:=zLM _;refine cv _ _ (xab λR3 cu=>?_);apply xpy
 ·intro ah
  refine(xbg _ rfl D _ rfl (.inl (SqL.of bz)) _ _ rfl rfl (jEA _ rfl (ite2 (λc1=>?_) (λc1=>?_))))
  ·refine(xbc _ rfl _ _ rfl rfl _ rfl (ite2 (λc2=>?_) (λc2=>?_)))
   ·have ca:=of_decide_eq_true c1
    rw[zl]at ca;exact(xai _ rfl _ rfl f' D p2 (xa5 q2 zs rfl h2 bz (List.length_pos_iff.mp (by omega)) (by omega) ⟨Df,λz t I hz fz rz=>q t (tBox z) I (F2.trans fz) rz (xlz (aa z hz))⟩))
   ·exact ah.go
  ·exact iteF ah.go
 refine cu _ _ (xab λR4 cr=>?_);refine(xb4 _ rfl _ rfl kv ks x rfl t2.kd wf ⟨ax,λH3 s3=>?_⟩);have t3:=t2.same s3;have F3:=F2.same s3;obtain⟨p3,q3,h3⟩:=t3.fd;have bp:=t3.bx;obtain⟨de,b0,cy,ae,ak,d4⟩:=bp;cases cy;have be:=ak.length;rw[zLM]at be;refine cr _ _ (xab λR5 bu=>?_);by_cases e3:fm=3
 ·refine(xa3 _ rfl rfl _ rfl (iteKT (zDT (by rw[e3])) ?_))
  apply xpy
  ·intro ah
   refine(xbc _ rfl _ _ rfl rfl _ rfl (ite2 (λc2=>?_) (λc2=>iteF ah.go)));refine(jEA _ rfl (xa0 _ rfl _ _ rfl rfl (jAE (.inr ⟨by omega,by omega⟩) _ (xbn _ rfl rfl _ _ rfl rfl (jEA _ rfl (ite2 (λc3=>?_) (λc3=>ah.go)))))));have cz:(0:Int)<(m:Int):=of_decide_eq_true c2;have db:2*smK ks x+1<l:=of_decide_eq_true c3;obtain⟨m',rfl⟩:∃m',m=m'+1:=⟨m-1,by omega⟩;have b6:(((m'+1:Nat):Int))-1=(m':Int):=by omega
   refine(xbc _ rfl _ _ rfl rfl _ rfl (xbv _ _ rfl rfl (.inr ⟨by omega,by omega⟩) (xas _ _ rfl rfl (xbv _ _ rfl rfl ⟨by decide,by decide⟩ ?_))));have d9:0<=(l-2-2*smK ks x) / 3:=Int.ediv_nonneg (by omega) (by decide);refine(jEA _ rfl (xaq _ rfl _ rfl _ rfl _ _ rfl rfl (xa0 _ rfl _ _ rfl rfl ?_)));refine(xaz (7*m') (by omega) f' kv (.ref bl) ks (xah bs (S "num") (1+(l-2-2*smK ks x) / 3) m' 0 (xlv b6) rfl (by decide) (t3.down (by omega)) (by omega) (jAA (.inl rfl) (by rw[(xmf wf).1];omega) (λu1 d1 H5 f5 c8 al=>?_))));have t5:=t3.fed f5;refine(xar _ rfl _ rfl _ rfl _ rfl _ rfl (xbc _ rfl _ _ rfl rfl _ rfl (xas _ _ rfl rfl ?_)));refine(xaz (7*m'+j) (by omega) f' kv (.ref bl) ks (xah bs x (smK ks x+(l-2-2*smK ks x) / 3) m' j (xlv b6) rfl a0 (t5.down (by omega)) (by omega) (jAA Z (by omega) (λu2 d2 H6 f6 c7 a7=>?_))));have t6:=t5.fed f6;refine(xar _ rfl _ rfl _ rfl _ rfl _ rfl (xaq _ rfl _ rfl _ rfl _ _ rfl rfl (xa0 _ rfl _ _ rfl rfl ?_)));refine(xaz (7*m'+j) (by omega) f' kv (.ref bl) ks (xah bs x (smK ks x+(l-2-2*smK ks x) / 3) m' j (xlv b6) rfl a0 (t6.down (by omega)) (by omega) (jAA Z (by omega) (λu3 d3 H7 f7 c6 cf=>⟨(by walk_at"s"),λt ht=>?_⟩))));have st:=Same.new ht (.tup [.str (S "if"),.ref u1,.ref u2,.ref u3])
   exact q _ (tIfD d1 d2 d3) _ ((((F3.trans f5).trans f6).trans f7).same st) (xam t _ rfl ups _ _ rfl rfl _ (xbn _ rfl (((c8.tups (xaj t5.fd f6) _).tups (xaj t6.fd f7) _).same st _) _ _ rfl ((c7.tups (xaj t6.fd f7) _).same st _) (xas _ _ rfl (c6.same st _) rfl))) (TmB.le (xtn wf (TmB.le al (by omega)) a7 cf) (by omega))
  refine bu _ _ (xab λR6 aq=>?_);refine(xa3 _ rfl rfl _ rfl (iteKF (zDF λz=>absurd (V.int.inj z) (by omega)) (iteF ?_)));refine aq _ _ (xab λR7 a1=>?_);refine(xa3 _ rfl rfl _ rfl (iteKF (zDF λz=>absurd (V.int.inj z) (by omega)) (iteF ?_)));refine a1 _ _ ?_;exact(xar _ rfl _ rfl _ rfl _ rfl _ rfl (xaz _ rfl f' kv (.ref bl) ks (xah bs x l m j rfl ac a0 t3 m8 (jAA Z J (λa d I fd ra Y=>q a d I (F3.trans fd) ra Y)))))
 refine(xa3 _ rfl rfl _ rfl (iteKF (zDF λz=>e3 (V.int.inj z)) (iteF ?_)));refine bu _ _ (xab λR6 aq=>?_);by_cases e4:fm=4
 ·refine(xa3 _ rfl rfl _ rfl (iteKT (zDT (by rw[e4])) ?_))
  refine(xbc _ rfl _ _ rfl rfl _ rfl (ite2 (λc2=>?_) (λc2=>?_)))
  ·refine⟨(by walk_at"s"),λhd bm=>?_⟩
   have s4:=Same.new bm (.lst []);refine(xbd _ rfl bl rfl ⟨_,SqL.of (s4 _ _ ae)⟩ ?_)
   refine xdb (xs:=b0) (λi σ I=>∃(Y:Addr) (ws:List V) (b5 b4 b3 b1:Option V),σ=[some (.ref f'),some kv,some (.ref bl),some (.str x),some (.int l),some (.int (m:Int)),some (.ref D),some (.int fm),some (.int (smK ks x)),none,none,none,some (.ref Y),b5,b4,b3,b1,none,none]/\Same H3 I/\I Y=some (.lst ws)/\Y≠f'/\(∀w∈ws,HdAt I ks bs x w)/\ws.length<=5*i)
    (xal hd ([]) none none none (xbh none rfl s4 ups (Ne.symm (neN h3 bm)) (λ_ h=>nomatch h) (Nat.zero_le _))) (λi σ I _ p=>?_) ?_ ?_
   ·obtain⟨_,_,_,_,_,_,_,sm,_⟩:=p
    exact SqL.of (sm _ _ ae)
   ·rintro i vv σ H4 bd ⟨Y,ws,b5,b4,b3,b1,rfl,sm,aj,bt,ao,cc⟩
    obtain⟨d',U,a9⟩:=ak.get bd;rw[zGM]at U;obtain⟨pr,am,rfl⟩:=zMS U;obtain⟨b,b7,rfl,hb,_,_,rfl,rfl,_,_,rfl,rfl,rfl⟩:=a9;have an:=zMG am;have ag:i<b0.length:=(zES bd).1;refine(xa2 b _ rfl (SqT.of (sm _ _ hb)) rfl _ _ rfl _ (jEAA _ rfl rfl ?_));refine(xai _ rfl _ rfl kv ks pr.2 (jAA rfl ((wf.ksAt (t3.kd.same sm _)).seq) (λt ba H5 s5 ht rp=>?_)));refine(xa2 t _ rfl (SqT.of ht) rfl _ _ rfl _ (jEAA _ rfl rfl ?_));obtain⟨ps,b9,h5,ay,az⟩:=xne wf (t3.kn pr an) rp;obtain⟨a,us,rfl,av,au⟩:=b9;have hl:=au.length;rw[zLM]at hl;refine(jEA _ rfl (xbd _ rfl a rfl ⟨_,SqT.of av⟩ ?_));refine xbm (xs:=us) (λi ys I=>Same H5 I/\(∀w∈ys,HdAt I ks bs x w)/\ys.length<=i) (jAA (Same.refl _) (λ_ h=>nomatch h) (Nat.le_refl _)) (xa4 (by omega)) (λi ys I _ p=>SqT.of (p.1 _ _ av)) ?_ ?_
    ·rintro i2 y ys I hy a5 O ⟨af,ai,cb⟩
     obtain⟨d',U,a9⟩:=au.get hy;rw[zGM]at U;obtain⟨pt,ch,rfl⟩:=zMS U;obtain⟨b2,d5,rfl,cp,_,_,rfl,rfl,_,_,rfl,rfl,rfl⟩:=a9;refine(xa2 b2 _ rfl (SqT.of (af _ _ cp)) rfl _ _ rfl _ (xby _ rfl rfl (ext2 rfl rfl) ?_));refine(xa3 _ rfl rfl _ rfl ?_);by_cases hs:xfy (kAt ks pr.2)=S "rec"
     ·refine iteKT (zDT (congrArg V.str hs)) ?_
      refine(xcp _ rfl _ rfl rfl _ rfl ?_);by_cases ab:pt.2=x
      ·refine iteKT (zDT (by rw[ab])) (xbd _ rfl _ rfl (by walk_at"s") (λt2 a7=>nxtG a5 O (jAA (af.trans (Same.new a7 _)) (λz hz=>?_) (by rw[zLA,List.length_singleton];omega))))
       rcases zMA hz with hz |hz
       ·exact(ai z hz).tups λb us q=>Same.new a7 _ _ _ q
       ·obtain⟨k,hk,a8,cj⟩:=ay hs
        rw[zMO hz];exact(xah t2 pr.1 pt.1 pr.2 k rfl ups an hk a8 (by rw[cj,<- ab];exact zMG ch))
      ·exact iteKF (zDF λz=>ab (V.str.inj z)) (nxtN a5 O (jAA af ai (by omega)))
     ·exact iteKF (zDF λz=>hs (V.str.inj z)) (iteF (nxtN a5 O (jAA af ai (by omega))))
    ·rintro ys H6 O ⟨af,ai,cb⟩ D2 bw
     have b8:=Same.new bw (.lst ys);have ar:=s5.trans (af.trans b8);refine(xav Y D2 _ _ rfl rfl (ar _ _ aj) ups (fits (by omega)) (λl3 bj=>?_));have sl:=Same.new bj (.lst (ws++ys));refine(xal l3 (ws++ys) _ _ _ (xbh _ rfl (sm.trans (ar.trans sl)) ups (Ne.symm (neN ((sm.trans ar) _ _ h3) bj)) (λz hz=>?_) (by rw[zLA];omega)));rcases zMA hz with hz |hz
     ·exact(ao z hz).tups λb us q=>(ar.trans sl) _ _ q
     ·exact(ai z hz).tups λb us q=>(b8.trans sl) _ _ q
   ·rintro σ H4 ⟨Y,ws,b5,b4,b3,b1,rfl,sm,aj,bt,ao,cc⟩
    have t4:=t3.same sm;have F4:=F3.same sm;refine(xbg _ rfl Y _ rfl (.inl (SqL.of aj)) _ _ rfl rfl (jEA _ rfl (ite2 (λc3=>?_) (λc3=>?_))))
    ·have d6:=of_decide_eq_true c3
     refine(xaq _ rfl _ rfl _ rfl Y _ rfl (.inl (SqL.of aj)) (xag f' p3 q3 _ rfl (sm _ _ h3) (by omega) (by omega) (λr H6 r0 r1 f6=>?_)));obtain⟨i,rfl⟩:∃i:Nat,r=(i:Int):=⟨r.toNat,by omega⟩;have ag:i<ws.length:=by omega
     obtain⟨b,z,g,y,k,eb,hb,hz,hk,a8,hg⟩:=(ao ws[i] (List.getElem_mem ag)).tups (xaj t4.fd f6);have cq:atI ws (i:Int)=some (.ref b):=xax (by rw[zGA ag,eb]);refine(xa8 Y _ _ _ rfl rfl (SqL.of (f6.1 _ _ aj bt)) cq b (xby _ rfl (SqT.of hb) rfl (jEEA _ _ rfl (xas _ _ rfl rfl ?_))));refine(jEAA _ rfl (by walk_at"s") (λt1 al=>(jEAA _ rfl (by walk_at"s") (λt2 a7=>?_))));have y1:=Same.new al (.tup [.str (S "box"),.str z]);have y2:=Same.new a7 (.tup [.str (S "get"),.ref t1,.str g]);exact q _ (tGet (tBox z) g) _ ((F4.trans f6).same (y1.trans y2)) (xam t2 _ rfl ups _ _ rfl rfl _ (xbn _ rfl (xam t1 _ rfl (y2 _ _ ups) _ _ rfl rfl _ (jEAA _ rfl rfl rfl)) _ _ rfl rfl rfl)) (xr3 (p:=(g,x)) wf hk a8 hg (xlz hz))
    ·refine aq _ _ (xab λR7 a1=>?_)
     refine(xa3 _ rfl rfl _ rfl (iteKF (zDF λz=>absurd (V.int.inj z) (by omega)) (iteF ?_)));refine a1 _ _ ?_;exact(xar _ rfl _ rfl _ rfl _ rfl _ rfl (xaz _ rfl f' kv (.ref bl) ks (xah bs x l m j rfl ac a0 t4 m8 (jAA Z J (λa d I fd ra Y=>q a d I (F4.trans fd) ra Y)))))
  ·refine aq _ _ (xab λR7 a1=>?_)
   refine(xa3 _ rfl rfl _ rfl (iteKF (zDF λz=>absurd (V.int.inj z) (by omega)) (iteF ?_)));refine a1 _ _ ?_;exact(xar _ rfl _ rfl _ rfl _ rfl _ rfl (xaz _ rfl f' kv (.ref bl) ks (xah bs x l m j rfl ac a0 t3 m8 (jAA Z J (λa d I fd ra Y=>q a d I (F3.trans fd) ra Y)))))
 refine(xa3 _ rfl rfl _ rfl (iteKF (zDF λz=>e4 (V.int.inj z)) (iteF ?_)));refine aq _ _ (xab λR7 a1=>?_);by_cases e5:fm=5
 ·refine(xa3 _ rfl rfl _ rfl (iteKT (zDT (by rw[e5])) ?_))
  refine(xbc _ rfl _ _ rfl rfl _ rfl (ite2 (λc2=>?_) (λc2=>?_)))
  ·have cz:(0:Int)<(m:Int):=of_decide_eq_true c2
   refine(xbd _ rfl bl rfl ⟨_,SqL.of ae⟩ ?_);refine xen (xs:=b0) (λi ys I=>Same H3 I/\∃zs:List Str,ys=zs.map V.str/\(∀z∈zs,TgOk ks bs z)/\zs.length<=i) (xf7 (Same.refl _) ([]) rfl (λ_ h=>nomatch h) (Nat.le_refl _)) (xa4 (by omega)) (λi ys I _ p=>SqL.of (p.1 _ _ ae)) ?_ ?_
   ·rintro i y ys I hy a5 O ⟨sm,zs,rfl,aa,bc⟩
    obtain⟨d',U,a9⟩:=ak.get hy;rw[zGM]at U;obtain⟨pr,am,rfl⟩:=zMS U;obtain⟨b,b7,rfl,hb,_,_,rfl,rfl,_,_,rfl,rfl,rfl⟩:=a9;have an:=zMG am;refine(xa2 b _ rfl (SqT.of (sm _ _ hb)) rfl _ _ rfl _ (xby _ rfl rfl (ext2 rfl rfl) ?_));refine(xai _ rfl _ rfl kv ks pr.2 (jAA rfl ((wf.ksAt (t3.kd.same sm _)).seq) (λt ba H5 s5 ht rp=>(xav t _ _ _ rfl rfl (SqT.of ht) rfl rfl (jEA _ rfl ?_)))));obtain⟨ps,b9,h5,ay,az⟩:=xne wf (t3.kn pr an) rp;by_cases hs:xfy (kAt ks pr.2)=S "alt"
    ·refine iteKT (zDT (congrArg V.str hs)) (jEA _ rfl (nxtG a5 O (xf7 (sm.trans s5) (zs++[pr.1]) (by rw[zAP];rfl) (λz hz=>?_) (by rw[zLA,List.length_singleton];omega))))
     rcases zMA hz with hz |hz
     ·exact aa z hz
     ·obtain⟨k,hk,a8,_⟩:=az hs
      rw[zMO hz];exact(xas pr.2 k an hk a8)
    ·exact iteKF (zDF λz=>hs (V.str.inj z)) (nxtN a5 O (xf7 (sm.trans s5) zs rfl aa (by omega)))
   rintro ys H4 O ⟨sm,a4,rfl,ce,d7⟩ G hG;have sG:=Same.new hG (.lst (a4.map V.str));have s4:=sm.trans sG;have t4:=t3.same s4;have F4:=F3.same s4;have Gf:G≠f':=Ne.symm (neN (sm _ _ h3) hG);have gl:(a4.map V.str).length=a4.length:=zLM _;refine(xbg _ rfl G _ rfl (.inl (SqL.of ups)) _ _ rfl rfl (jEA _ rfl (ite2 (λc3=>?_) (λc3=>?_))))
   ·have ck:=of_decide_eq_true c3
    rw[gl]at ck;refine(xaq _ rfl _ rfl _ rfl G _ rfl (.inl (SqL.of ups)) (xag f' p3 q3 _ rfl (s4 _ _ h3) (by rw[gl];omega) (by rw[gl];omega) (λr H6 r0 r1 f6=>?_)));rw[gl]at r1;obtain⟨i,rfl⟩:∃i:Nat,r=(i:Int):=⟨r.toNat,by omega⟩;have ag:i<a4.length:=by omega
    obtain⟨y,k,bb,hk,a8⟩:=ce a4[i] (List.getElem_mem ag);have aw:=zMF hk;have t6:=t4.fed f6;have F6:=F4.trans f6;have bo:=t6.bx;obtain⟨dd,c5,cx,bq,bf,d0⟩:=bo;cases cx;refine(xag G _ _ (.str a4[i]) rfl rfl (SqL.of (f6.1 _ _ ups Gf)) (xax (by rw[zGM,zGA ag];rfl)) ?_);refine(xb4 _ rfl _ rfl bl c5 (bKV bs) rfl bq (xkr bf) (λp hp=>?_));have sp:=Same.new hp (.dK (xcx [] (bKV bs)));have bn:=DGet.rd (H:=upd H6 p (.dK (xcx [] (bKV bs)))) (a:=p) (kvs:=xcx [] (bKV bs)) (k:=(Sum.inr a4[i]:Key)) (Or.inl ups);rw[xpl ti.nd bb]at bn;refine(xa0 _ rfl p (.str y) rfl bn ?_);have t7:=t6.same sp;refine(xbo kv ks y rfl ((wf.ksAt t7.kd).seq) (λt ba H8 s8 ht rp=>(xag t _ _ _ rfl rfl (SqT.of ht) rfl ?_)));have t8:=t7.same s8;have F8:=F6.same (sp.trans s8);rw[hk]at rp;have c9:=rp;obtain⟨a,us,rfl,av,au⟩:=rp;have hl:=au.length;rw[zLM]at hl;have h5:=wf.pts k aw;refine(xbc _ rfl _ _ rfl rfl _ rfl (xbg _ rfl a _ rfl (.inr (SqT.of av)) _ _ rfl rfl (jAE (.inl ⟨by omega,by omega⟩) _ (xa3 _ rfl rfl _ rfl (ite2 (λc4=>?_) (λc4=>?_))))))
    ·have c0:smK ks x*(us.length:Int)<=l-2:=of_decide_eq_true c4
     rw[hl]at c0;obtain⟨m',rfl⟩:∃m',m=m'+1:=⟨m-1,by omega⟩;refine(jEAA _ rfl (by walk_at"s") (λt1 al=>?_));have y1:=Same.new al (.tup [.str (S "box"),.str a4[i]]);refine(xar _ rfl _ rfl _ rfl _ rfl _ rfl (xbc _ rfl _ _ rfl rfl _ rfl (xaz m' (by omega) f' kv (.ref bl) (.ref a) (xah ks bs k.parts x (l-2) rfl (t8.same y1) (by omega) (c9.same y1 _) (wf.alt k aw a8) (jAAA h5 (wf.pnd k aw) (λp hp=>xfm wf aw hp) (jAA ax c0 (λu rs H9 f9 ru bi bh ci cg=>⟨(by walk_at"s"),λt2 a7=>?_⟩)))))));have y2:=Same.new a7 (.tup [.str (S "case"),.ref t1,u]);have co:=xaj (t8.same y1).fd f9 _ _ ups;exact q _ (xlc (tBox a4[i]) rs) _ (((F8.same y1).trans f9).same y2) (xam t2 _ rfl ups _ _ rfl rfl _ (xbn _ rfl (xam t1 _ rfl (y2 _ _ co) _ _ rfl rfl _ (jEAA _ rfl rfl rfl)) _ _ rfl (ru.same y2 _) rfl)) (TmB.le (xqc wf hk a8 (xlz bb) (by omega) ci bi bh cg) (by omega))
    ·refine a1 _ _ ?_
     exact(xar _ rfl _ rfl _ rfl _ rfl _ rfl (xaz _ rfl f' kv (.ref bl) ks (xah bs x l m j rfl ac a0 t8 m8 (jAA Z J (λa d I fd ra Y=>q a d I (F8.trans fd) ra Y)))))
   ·refine a1 _ _ ?_
    exact(xar _ rfl _ rfl _ rfl _ rfl _ rfl (xaz _ rfl f' kv (.ref bl) ks (xah bs x l m j rfl ac a0 t4 m8 (jAA Z J (λa d I fd ra Y=>q a d I (F4.trans fd) ra Y)))))
  ·refine a1 _ _ ?_
   exact(xar _ rfl _ rfl _ rfl _ rfl _ rfl (xaz _ rfl f' kv (.ref bl) ks (xah bs x l m j rfl ac a0 t3 m8 (jAA Z J (λa d I fd ra Y=>q a d I (F3.trans fd) ra Y)))))
 refine(xa3 _ rfl rfl _ rfl (iteKF (zDF λz=>e5 (V.int.inj z)) (iteF ?_)));refine a1 _ _ ?_;exact(xar _ rfl _ rfl _ rfl _ rfl _ rfl (xaz _ rfl f' kv (.ref bl) ks (xah bs x l m j rfl ac a0 t3 m8 (jAA Z J (λa d I fd ra Y=>q a d I (F3.trans fd) ra Y)))))
theorem xqb(T:Tx K e):∀c,DefIs P w K e base (3*c+10) "_law_term" qaf (spTw c):=by
 intro c
 induction c using Nat.strongRecOn with
 |_ c g=>
  have take:∀k,DefIs P w K e base (k+1) "_law_take" qac xcl:=λk=>xg0 T;have b:∀k,8<=k->DefIs P w K e base k "_law_small" qab (spSm smK 6):=λk j=>(xgs T 6).mono j;have a:DefIs P w K e base (3*c+7) "_law_term" qaf (xof c):=DefIs.anyP (Pr:=λf=>f<c) (sps:=spTw) T.j5 λf h=>(g f h).mono (by omega);exact xop (n:=3*c+9) T (take _) (xm1 (n:=3*c+8) T (take _)) (b _ (by omega)) (xcm T) (a.mono (by omega)) (DefIs.anyP (Pr:=λm=>7*m+6<c) (sps:=xjg) T.j3 λm i=>xou (n:=3*c+8) T i (take _) (a.mono (by omega))) (xf2 (n:=3*c+8) T (xcm T) (take _) (xlk T (take _)) (b _ (by omega)) (a.mono (by omega)))
def xhq:Sp:=λvs H Q _=>∃(f:Addr) (kv bv:V) (ks:List Kn) (bs:List (Str×Str)) (x:Str),vs=[.ref f,kv,bv,.str x]/\TIn H f kv bv ks bs 3/\KIn ks 6 x/\∀a d H',Fed f H H'->RelD H' (.ref a) d->TmB ks 21 bs d x->Q (.ref a) H'
def spTC:Sp:=λvs H Q E=>∃c,c<=20/\spTw c vs H Q E
theorem xh5 (T:Tx K j) (e:DefIs P w K j base n "_law_take" qac xcl) (b:DefIs P w K j base n "_law_small" qab (spSm smK 6)) (c:DefIs P w K j base n "_law_term" qaf spTC) :
  DefIs P w K j base (n+1) "_law_new_term" qak xhq:=by
 refine DefIs.of T.j6 xhu (by walk_at"l") (λf U A outer s H vs Q E l h=>?_);obtain⟨y,p,Y,ks,bs,x,rfl,i,g,q⟩:=h;refine(jEA _ (zpo (xae (pd c l (va 0 (va 1 (va 2 (va 3 (pc (xak xba (pd b l (va 1 (v1 3))) (pd e l (va 0 (pc pI pN so)))) (pc pI pN so) xa1)))))))) ?_);refine(xar _ rfl _ rfl _ rfl _ rfl _ rfl (jEA _ rfl (xap p ks x rfl i.kd i.wf g (λH1 o=>?_))));have m:=i.same o;obtain⟨p0,q0,I⟩:=i.fd;obtain⟨G,C,M⟩:=m.fd;refine(xaa _ rfl y G C _ rfl M (by decide) (by decide) (λr H2 r0 r1 u=>?_));refine(xas _ _ rfl rfl (xaz 20 (Nat.le_refl _) y p Y ks (xah bs x _ 2 6 rfl rfl (by decide) (m.fed u) (by decide) (jAA g (by omega) (λa d Z O z J=>q a d Z ((((Fed.refl I).same o).trans u).trans O) z J)))))
theorem xjs(T:Tx K a):DefIs P w K a base 80 "_law_new_term" qak xhq:=
 xh5 (n:=79) T (xg0 T) ((xgs T 6).mono (by omega)) (DefIs.anyP (Pr:=λc=>c<=20) (sps:=spTw) T.j5 λc b=>(xqb T c).mono (by omega))
def spNu(F:Nat->List Kn->Str->D)(m:Nat):Sp:=λvs H Q _=>∃v ks x,vs=[v,.str x]/\RelD H v (xdn ks)/\KWf ks/\KIn ks m x/\∀u H',Same H H'->RelD H' u (F (m+1) ks x)->Q u H'
theorem xia (T:Tx K mg) (M:Sp) (g:DefIs P w K mg base n "parts_of" qai xfb) (l:DefIs P w K mg base n "sort_of" qai xkg) (c:DefIs P w K mg base n "nought" qao M) (Z:∀j,m=j+1->M=spNu nuV j) :
  DefIs P w K mg base (n+1) "nought" qao (spNu nuV m):=by
 refine DefIs.of T.jG sc_nought (by walk_at"l") (λf a8 A outer s H vs Q E hr h=>?_);obtain⟨v,ks,x,rfl,hk,J,a7,q⟩:=h;have nd:=sc_nought.nd
 refine⟨_,(zpn (xa6 (pR xa9 (pv 1) pS (nM _)) (zpo (xae pI)) pQ)
   (zpn (psn 2 nd (pd g hr (va 0 (v1 1))))
   (zpn (xa6 (pR xa9 (pd l hr (va 0 (v1 1))) pS (nM _)) (zpo (xae (xau (va 1 (pc (xat (xbq (K:=K) rfl) rfl T.kZ PyProof.Rows.boot_tuple (pc (xbp ["part","kinds"] [none,some 0] rfl (by kernel_rfl) (xaw (K:=K) rfl (pv 2)) (λ_ _ _ _=>(pgc 0)) (λ_ _ _ _=>xbr) (λ_ _ _ _=>(pd c hr (va 1 (pc (px K (pv 0) pI) pN ss))))) pN xbw)) pN zsc))))) pQ)
   (zpo (xae (xau (va 1 (pc (px K (px K (pv 2) pI) pI) (pc (pd c hr (va 0 (pc (px K (px K (pv 2) pI) pI) pN ss))) pN zsc) ss)))))))),?_⟩
 rcases a7.nu J with⟨rfl,_,_,e⟩ |⟨j,k,rfl,a2,hn,hm,hp,a5,I⟩
 ·refine(xa3 _ rfl rfl _ rfl (iteKT (by walk_at"k") ?_))
  rw[e]at q;exact q _ _ (Same.refl _) rfl
 ·have D':=Z j rfl
  subst D';refine(xa3 _ rfl rfl _ rfl (iteKF (zDF λz=>a5 (V.str.inj z)) ?_));refine(xai _ rfl _ rfl v ks x (jAA rfl (J.ksAt hk) (λu H1 Y r1=>?_)));rw[a2]at r1;obtain⟨a,us,rfl,ha,C⟩:=r1;have hl:=C.length;rw[zLM]at hl;have h5:=J.pts k hm;refine(xai _ rfl _ rfl v ks x (jAA rfl (J.ksAt (hk.same Y _)) ?_));rw[a2];rcases I with⟨hc,_,e⟩ |⟨hc,p,r,er,_,e⟩
  ·refine(jAEA rfl _ rfl (iteKT (zDT (by show V.str k.sort=_;rw[xea hc];rfl)) ?_))
   refine(jEA _ rfl (xbd _ rfl a rfl ⟨_,SqT.of ha⟩ ?_));refine xe7 (j:=0) (xs:=us) (λi ys H'=>Same H1 H'/\RelDs H' ys ((k.parts.take i).map λp=>nuV (j+1) ks p.2)) (by rfl) ⟨Same.refl _,rfl⟩ (xa4 (by omega)) (λi ys H' _ p=>SqT.of (p.1 _ _ ha)) ?_ ?_
   ·rintro i y ys H' hy a1 ⟨O,o⟩
    obtain⟨d,hd,rd⟩:=C.get hy;rw[zGM]at hd;obtain⟨p,a0,rfl⟩:=zMS hd;obtain⟨b,ws,rfl,hb,_,_,rfl,rfl,_,_,rfl,rfl,rfl⟩:=rd;have hi:i<us.length:=(zES hy).1;refine(xai _ rfl _ rfl b _ _ (xbl _ rfl rfl (SqT.of (O _ _ hb)) rfl (xap _ ks p.2 rfl (hk.same (Y.trans O) _) J (hp p (zMG a0)) (λu H2 G r2=>nxt hi a1 ⟨O.trans G,?_⟩))));rw[zTA,a0,zAP];exact(o.same G _).append (xas u ([]) rfl r2 rfl)
   ·rintro ys H' a1 ⟨O,o⟩ D hD
    rw[zTL (by omega)]at o;refine(jEEA D ys rfl (.inl ⟨SqL.of ups,λl' a6=>⟨(by walk_at"s"),λt ht=>?_⟩⟩));have G:=Same.new hD (.lst ys);have U:=Same.new a6 (.tup ys);have s4:=Same.new ht (.tup [.str x,.ref l']);rw[e]at q;exact q _ _ (Y.trans (O.trans (G.trans (U.trans s4)))) (xam t _ rfl ups _ _ rfl rfl _ (jEAA _ rfl (xas l' ys rfl (s4 _ _ ups) (o.same (G.trans (U.trans s4)) _)) rfl))
  ·refine(jAEA rfl _ rfl (iteKF (zDF (by show ¬V.str k.sort=_;rw[xel hc];decide +kernel)) ?_))
   rw[er]at C;obtain⟨vp,rest,rfl,rp,_⟩:=C;obtain⟨b,ws,rfl,hb,_,_,rfl,rfl,_,_,rfl,rfl,rfl⟩:=rp;have a3:SqT K H1 a (.ref b::rest):=SqT.of ha;have a4:atI (V.ref b::rest) 0=some (.ref b):=xax (j:=0) rfl;refine(xai _ rfl _ rfl a _ _ (xbl _ rfl rfl a3 a4 (xag b _ _ _ rfl rfl (SqT.of hb) rfl ?_)));refine(xai _ rfl _ rfl a _ _ (xbl _ rfl rfl a3 a4 (xag b _ _ _ rfl rfl (SqT.of hb) rfl ?_)));refine(xap _ ks p.2 rfl (hk.same Y _) J (hp p (by rw[er];simp)) (λu H2 G r2=>⟨(by walk_at"s"),λt ht=>?_⟩));have U:=Same.new ht (.tup [.str x,.str p.1,u]);rw[e]at q;exact q _ _ (Y.trans (G.trans U)) (xam t _ rfl ups _ _ rfl rfl _ (xbn _ rfl rfl _ _ rfl (r2.same U _) rfl))
theorem xib(T:Tx K a):∀m,DefIs P w K a base (m+2) "nought" qao (spNu nuV m)
 |0=>xia (n:=1) T (λ_ _ _ _=>False) (xd7 T) (xgg T) (DefIs.none T.jG λ_ _ _ _ h=>h) (λj e=>by cases e)
 |m+1=>xia (n:=m+2) T (spNu nuV m) (xd7 T) (xgg T) (xib T m) (λj e=>by cases e;rfl)
def xl6:Sp:=λvs H Q _=>∃(tv:V) (x:Str) (hs:List Hand) (hd:Hand),vs=[tv,.str x]/\RelD H tv (.tup (hs.map Hand.d))/\hs.find? (λh=>decide (h.name=x))=some hd/\∀u,RelD H u hd.d->Q u H
def xe0:Sp:=λvs H Q _=>∃(mv:V) (x:Str) (mk:Mak) (hd:Hand),vs=[mv,.str x]/\RelD H mv mk.d/\xeh mk x=some hd/\∀u,RelD H u hd.d->Q u H
def begL(mk:Mak)(hd:Hand):List (Str×D):=hd.boxes.map λb=>(b.1,nuV 7 mk.kinds b.2)
def xme:Sp:=λvs H Q _=>∃(mv:V) (x:Str) (mk:Mak) (hd:Hand),vs=[mv,.str x]/\RelD H mv mk.d/\MakOk mk/\xeh mk x=some hd/\∀a p H',Same H H'->H p=none->StAt H' a p 0 (begL mk hd)->Q (.ref a) H'
def xl4:Sp:=λvs H Q _=>∃(sa p:Addr) (k:Nat) (bx:List (Str×D)),vs=[.ref sa]/\StAt H sa p k bx/\bx.length<=100/\∀a' p' H',Same H H'->H p'=none->StAt H' a' p' k bx->Q (.ref a') H'
def xfa:Sp:=λvs H Q _=>∃(mv:V) (x:Str) (sa p:Addr) (k:Nat) (mk:Mak) (hd:Hand) (r:Row),vs=[mv,.str x,.ref sa]/\RelD H mv mk.d/\xeh mk x=some hd/\H sa=some (.tup [.int k,.ref p])/\hd.rows[k]?=some r/\∀u,RelD H u r.d->Q u H
def xjf:Sp:=λvs H Q _=>∃(rv:V) (ca:Addr) (r:Row),vs=[rv,.ref ca]/\RelD H rv r.d/\(match r with
 |.take _ c _=>∃kvs la us,H ca=some (.dK kvs)/\valV kvs (Sum.inr c)=some (.ref la)/\H la=some (.lst us)/\Q (us.headD .non) H
 |_=>Q .non H)
def xpo:Sp:=λvs H Q _=>∃(mv rv:V) (sa p:Addr) (k:Nat) (bx:List (Str×D)) (mk:Mak) (bs:List (Str×Str)) (r:Row),vs=[mv,rv,.ref sa]/\RelD H mv mk.d/\KWf mk.kinds/\RelD H rv r.d/\r≠.fin/\StAt H sa p k bx/\bx.length<=6/\FitB mk.kinds bs (enOf bx)/\(∀t g,r=.cond t g->TmOk mk.kinds 21 bs t (S "num"))/\∀H',Same H H'->Q (.int (xcv mk.kinds bx k r:Nat)) H'
def xsa:Sp:=λvs H Q _=>∃(mv rv lv:V) (p:Addr) (kvs:List (Key×V)) (bx:List (Str×D)) (l:D) (mk:Mak) (bs:List (Str×Str)) (r:Row),vs=[mv,rv,.ref p,lv]/\RelD H mv mk.d/\KWf mk.kinds/\RelD H rv r.d/\H p=some (.dK kvs)/\KvD H kvs bx/\bx.length<=6/\FitB mk.kinds bs (enOf bx)/\(∀x t,r=.set x t->∃k,TmOk mk.kinds 21 bs t k)/\(∀n c x,r=.take n c x->RelD H lv l) ∧
 ∀p' kvs' H',Same H H'->p'=p\/H p'=none->H' p'=some (.dK kvs')->KvD H' kvs' (xep mk.kinds bx l r)->Q (.ref p') H'
theorem hd_d{H:Hp}{u:V}{hd:Hand}(h:RelD H u hd.d):∃a c b,u=.ref a/\H a=some (.tup [.str hd.name,c,b])/\RelD H c (xdg hd.boxes)/\RelD H b (.tup (hd.rows.map Row.d)):=by
 obtain⟨a,us,e,f,_,_,rfl,rfl,c,_,rfl,i,b,_,rfl,g,rfl⟩:=h;exact(xb0 a c b e f i g)
theorem mk_d{H:Hp}{u:V}{b:Mak}(h:RelD H u b.d):∃a c g f,u=.ref a/\H a=some (.tup [c,g,f])/\RelD H c (xdn b.kinds)/\RelD H g (.tup (b.chans.map dChn))/\RelD H f (.tup (b.hands.map Hand.d)):=by
 obtain⟨a,us,e,i,c,_,rfl,h0,g,_,rfl,l,f,_,rfl,j,rfl⟩:=h;exact(xag a c g f e i h0 l j)
theorem xhx{H:Hp}{u:V}{r:Row}(h:RelD H u r.d):∃a us,u=.ref a/\H a=some (.tup (.str r.hd::us))/\RelDs H us r.as:=by
 obtain⟨a,us,e,c,_,b,rfl,rfl,f⟩:=h;exact(xas a b e c f)
theorem xow(T:Tx K G):DefIs P w K G base (n+1) "named" qa4 xl6:=by
 refine DefIs.of T.jC sc_named (by walk_at"l") (λf U A outer s H vs Q E hr h=>?_);obtain⟨Y,x,hs,hd,rfl,J,r,q⟩:=h;have nd:=sc_named.nd
 refine⟨_,(zpn (xca PassesOwn.never rfl (xaw (K:=K) rfl (pv 0)) (pgn 2 nd)
   (zpo (xa6 (pR xa9 (px K (pv 2) pI) (pv 1) (nM _)) (zpo (xae (pv 2))) pQ)))
   (zpo (xae xeb))),?_⟩
 obtain⟨a,us,rfl,u,y⟩:=J;refine(xbd _ rfl a rfl ⟨_,SqT.of u⟩ ?_);have M:=y.length;rw[zLM]at M;refine xdl (xs:=us) (λi σ l=>∃o,σ=[some (.ref a),some (.str x),o]/\l=H/\(hs.take i).find? (λh=>decide (h.name=x))=none) (jEAA none rfl rfl rfl) (λi σ l _ p=>?_) ?_ ?_
 ·obtain⟨_,_,rfl,_⟩:=p
  exact SqT.of u
 ·rintro i v σ l I ⟨o,rfl,rfl,hn⟩
  obtain⟨d,j,rd⟩:=y.get I;rw[zGM]at j;obtain⟨h',g,rfl⟩:=zMS j;have m:=rd;obtain⟨b,bv,Z,rfl,O,_,_⟩:=hd_d rd;refine(xaa _ rfl b _ _ _ rfl rfl (SqT.of O) rfl (xa3 _ rfl rfl _ rfl (ite2 (λc=>?_) (λc=>?_))))
  ·have e:h'.name=x:=V.str.inj (of_decide_eq_true c)
   have C:=(xcs hn g).1 (zDT e);rw[r]at C;cases C;exact(jEA _ rfl (q _ m))
  ·have e:¬h'.name=x:=λz=>c (zDT (congrArg V.str z))
   exact(jEAA _ rfl rfl ((xcs hn g).2 (zDF e)))
 ·rintro σ l ⟨o,rfl,rfl,hn⟩
  rw[zTL (by omega),r]at hn;cases hn
theorem xll(T:Tx K c)(b:DefIs P w K c base n "named" qa4 xl6):DefIs P w K c base (n+1) "hand_of" qag xe0:=by
 refine DefIs.of T.jB xlg (by walk_at"l") (λf o A outer s H vs Q E g h=>?_);obtain⟨p,x,e,hd,rfl,i,j,q⟩:=h;obtain⟨a,r,y,u,rfl,l,_,_,m⟩:=mk_d i;refine(jEA _ (zpo (xae (pd b g (pc (px K (pv 0) pI) (v1 1) ss)))) ?_);exact(xaa _ rfl a _ _ _ rfl rfl (SqT.of l) rfl (xaz _ rfl _ x e.hands hd (jAAA rfl m j q)))
theorem xhe{H:Hp}{us:List V}{cs:List Chn}(g:RelDs H us (cs.map dChn)){i:Nat}{v:V}(a:us[i]?=some v):∃(b:Addr) (c:Chn),cs[i]?=some c/\v=.ref b/\H b=some (.tup [.str c.1,.str c.2.1,.str c.2.2.1,.str c.2.2.2]):=by
 obtain⟨d,hd,rd⟩:=g.get a;rw[zGM]at hd;obtain⟨c,e,rfl⟩:=zMS hd;obtain⟨b,ws,rfl,f,_,_,rfl,rfl,_,_,rfl,rfl,_,_,rfl,rfl,_,_,rfl,rfl,rfl⟩:=rd;exact(xas b c e rfl f)
def Row.wy(k:Nat):Row->List Nat
 |.go g=>[g]
 |.cond _ g=>[g,k+1]
 |.fin=>[]
 |_=>[k+1]
def xho:Sp:=λvs H Q _=>∃(rv:V) (k:Nat) (r:Row),vs=[rv,.int k]/\RelD H rv r.d/\∀a H',Same H H'->H' a=some (.tup ((Row.wy k r).map λi:Nat=>V.int i))->Q (.ref a) H'
theorem xjp(T:Tx K mg):DefIs P w K mg base (n+1) "row_ways" ["row","k"] xho:=by
 refine DefIs.of T.jA xjh (by walk_at"l") (λf cdv A outer s H vs Q E hr h=>?_);obtain⟨rv,k,r,rfl,hrr,q⟩:=h;obtain⟨a,us,rfl,ha,hus⟩:=xhx hrr
 refine⟨_,(zpn (xa6 (pR xa9 (px K (pv 0) pI) pS (nM _)) (zpo (xae (xau (pc (px K (pv 0) pI) pN ss)))) pQ)
   (zpn (xa6 (pR xa9 (px K (pv 0) pI) pS (nM _)) (zpo (xae (xau (pc (px K (pv 0) pI) (pc (xak xba (pv 1) pI) pN xa1) ss)))) pQ)
   (zpn (xa6 (pR xa9 (px K (pv 0) pI) pS (nM _)) (zpo (xae (xau pN))) pQ)
   (zpo (xae (xau (pc (xak xba (pv 1) pI) pN xa1))))))),?_⟩
 have hh:SqT K H a (.str r.hd::us):=SqT.of ha;have h0:atI (V.str r.hd::us) 0=some (.str r.hd):=xax (j:=0) rfl
 cases r with
 |go g=>
  obtain⟨_,_,rfl,rfl,rfl⟩:=hus;refine(xaa _ rfl a _ _ _ rfl rfl hh h0 (jAEA rfl _ rfl (iteKT (hdT rfl) ?_)));exact(xaa _ rfl a _ _ _ rfl rfl hh rfl ⟨(by walk_at"s"),λp hp=>q p _ (Same.new hp _) ups⟩)
 |cond t g=>
  obtain⟨_,_,rfl,_,_,_,rfl,rfl,rfl⟩:=hus;refine(xaa _ rfl a _ _ _ rfl rfl hh h0 (jAEA rfl _ rfl (iteKF (hdF (xrf (by intro _ e;cases e))) ?_)));refine(xaa _ rfl a _ _ _ rfl rfl hh h0 (jAEA rfl _ rfl (iteKT (hdT rfl) ?_)));exact(xaa _ rfl a _ _ _ rfl rfl hh rfl (xa0 _ rfl _ _ rfl rfl ⟨(by walk_at"s"),λp hp=>q p _ (Same.new hp _) (by rw[ups];rfl)⟩))
 |fin=>
  refine(xaa _ rfl a _ _ _ rfl rfl hh h0 (jAEA rfl _ rfl (iteKF (hdF (xrf (by intro _ e;cases e))) ?_)));refine(xaa _ rfl a _ _ _ rfl rfl hh h0 (jAEA rfl _ rfl (iteKF (hdF (xre (by intro _ _ e;cases e))) ?_)));refine(xaa _ rfl a _ _ _ rfl rfl hh h0 (jAEA rfl _ rfl (iteKT (hdT rfl) ?_)));exact⟨(by walk_at"s"),λp hp=>q p _ (Same.new hp _) ups⟩
 |_=>
  refine(xaa _ rfl a _ _ _ rfl rfl hh h0 (jAEA rfl _ rfl (iteKF (hdF (xrf (by intro _ e;cases e))) ?_)));refine(xaa _ rfl a _ _ _ rfl rfl hh h0 (jAEA rfl _ rfl (iteKF (hdF (xre (by intro _ _ e;cases e))) ?_)));refine(xaa _ rfl a _ _ _ rfl rfl hh h0 (jAEA rfl _ rfl (iteKF (hdF (xir (by intro e;cases e))) ?_)));exact(xa0 _ rfl _ _ rfl rfl ⟨(by walk_at"s"),λp hp=>q p _ (Same.new hp _) (by rw[ups];rfl)⟩)
theorem xm3(T:Tx K mg)(D_hand_of:DefIs P w K mg base n "hand_of" qag xe0):DefIs P w K mg base (n+1) "row_at" qaj xfa:=by
 refine DefIs.of T.jN xmj (by walk_at"l") (λf cdv A outer s H vs Q E hr h=>?_);obtain⟨mv,x,sa,p,k,mk,hd,r,rfl,hm,hf,hsa,hk,q⟩:=h;refine(jEA _ (zpo (xae (px K (px K (pd D_hand_of hr (va 0 (v1 1))) pI) (px K (pv 2) pI)))) ?_);refine(xai _ rfl _ rfl mv x mk (xby hd rfl hm hf (λu hu=>?_)));obtain⟨a,bv,rv,rfl,ha,_,h2⟩:=hd_d hu;obtain⟨ra,us,rfl,hra,hR⟩:=h2;refine(xa8 a _ _ _ rfl rfl (SqT.of ha) rfl _ (jAE rfl sa (xap _ _ _ rfl rfl (SqT.of hsa) rfl ?_)));have hl:=hR.length;rw[zLM]at hl;have hk':=(zES hk).1;have hv:us[k]?=some (us[k]'(by omega)):=zGA _;obtain⟨d,hd',rd⟩:=hR.get hv;rw[zGM,hk]at hd';cases hd';exact(xag ra _ _ _ rfl rfl (SqT.of hra) (xax hv) (q _ rd))
theorem xdk(T:Tx K mg):DefIs P w K mg base (n+1) "first_letter" qap xjf:=by
 refine DefIs.of T.jO xff (by walk_at"l") (λf cdv A outer s H vs Q E hr h=>?_);obtain⟨rv,ca,r,rfl,hrr,q⟩:=h;have hu:=xeg hr;obtain⟨a,us,rfl,ha,hus⟩:=xhx hrr
 refine⟨_,(zpn (xa6 (PW.pt (xci (pR xa9 (px K (pv 0) pI) pS (nM _)) (xb3 (pR xc2 (xan (xad (K:=K) rfl) rfl T.kS PySem.boot_len (pc (xcj hu (pv 1) (px K (pv 0) pI) (λ_ _=>rfl)) pN ss)) pI (nM _))))) (zpo (xae (pxl K (xcj hu (pv 1) (px K (pv 0) pI) (λ_ _=>rfl)) pI))) pQ)
   (zpo (xae xeb))),?_⟩
 have hh:SqT K H a (.str r.hd::us):=SqT.of ha;have h0:atI (V.str r.hd::us) 0=some (.str r.hd):=xax (j:=0) rfl
 cases r with
 | take l c x=>
  obtain⟨_,_,rfl,rfl,_,_,rfl,rfl,_,_,rfl,rfl,rfl⟩:=hus;obtain⟨kvs,la,zs,hca,hv,hla,q⟩:=q
  have gd:DGet H ca (.str c) (some (.ref la)):=by
   have:=DGet.rd (k:=Sum.inr c) (.inl hca);rw[hv]at this;exact this
  refine(xaa _ rfl a _ _ _ rfl rfl hh h0 (jAEA rfl _ rfl (iteKT (hdT rfl) ?_)));refine(xai _ rfl _ rfl a _ _ (xbl _ rfl rfl hh rfl (xam ca _ rfl gd la _ rfl (.inl (SqL.of hla)) _ (xa3 _ rfl rfl _ rfl ?_))))
  cases zs with
  |nil=>exact iteKF (by decide) q
  |cons z zs=>
   refine iteKT (zDT (by show(0:Int)<((zs.length+1:Nat):Int);omega)) ?_;exact(xai _ rfl _ rfl a _ _ (xbl _ rfl rfl hh rfl (xas ca _ rfl gd (xag la _ _ _ rfl rfl (SqL.of hla) (xax (j:=0) rfl) q))))
 |_=>
  exact(xaa _ rfl a _ _ _ rfl rfl hh h0 (jAEA rfl _ rfl (iteKF (hdF (xd9 (by intro _ _ _ e;cases e))) (iteF q))))
theorem xg2(T:Tx K mg)(D_row_ways:DefIs P w K mg base n "row_ways" ["row","k"] xho)(D_worth:DefIs P w K mg base n "worth" qad (xc0 (λks=>Ev ks 21) 6)):DefIs P w K mg base (n+1) "row_behind" qa6 xpo:=by
 refine DefIs.of T.jQ sc_row_behind (by walk_at"l") (λf cdv A outer s H vs Q E hr h=>?_);obtain⟨mv,rv,sa,p,k,bx,mk,bs,r,rfl,hm,wf,hrr,hne,hst,h6,hfit,hcond,q⟩:=h;have nd:=sc_row_behind.nd;have hrr0:=hrr;obtain⟨a,us,rfl,ha,hus⟩:=xhx hrr;obtain⟨hsa,kvs,hp,hkv⟩:=hst;obtain⟨ma,kv,cv,hv,rfl,hma,hk0,_,_⟩:=mk_d hm
 refine⟨_,(zpn (psn 3 nd (pd D_row_ways hr (va 1 (pc (px K (pv 2) pI) pN ss))))
   (zpn (xa6 (PW.pt (xci (pR xa9 (px K (pv 1) pI) pS (nM _)) (xb3 (pR xa9 (pd D_worth hr (pc (px K (pv 0) pI) (pc (px K (pv 1) pI) (pc (px K (pv 2) pI) pN ss) ss) ss)) pI (nM _))))) (zpo (xae (px K (pv 3) pI))) pQ)
   (zpo (xae (px K (pv 3) pI))))),?_⟩
 refine(xai _ rfl _ rfl sa _ _ (xbl _ rfl rfl (SqT.of hsa) rfl (xbo _ k r rfl hrr0 (λwa H1 s1 hwa=>?_))));have hh:SqT K H1 a (.str r.hd::us):=SqT.of (s1 _ _ ha);have h0:atI (V.str r.hd::us) 0=some (.str r.hd):=xax (j:=0) rfl
 cases r with
 |fin=>exact absurd rfl hne
 | cond t g=>
  obtain⟨tv,_,rfl,ht,_,_,rfl,rfl,rfl⟩:=hus;obtain⟨ev,vk⟩:=xk9 (hcond t g rfl) hfit;obtain⟨i,hi,e⟩:=xga wf rfl vk;refine(xaa _ rfl a _ _ _ rfl rfl hh h0 (jAEA rfl _ rfl (iteKT (hdT rfl) ?_)));refine(xaa _ rfl ma _ _ _ rfl rfl (SqT.of (s1 _ _ hma)) rfl (xaa _ rfl a _ _ _ rfl rfl hh rfl (xaa _ rfl sa _ _ _ rfl rfl (SqT.of (s1 _ _ hsa)) rfl ?_)));refine(xal _ _ p mk.kinds t (xa5 (enOf bx) _ rfl (wf.ksAt (hk0.same s1 _)) (ht.same s1 _) (KvD.en (s1 _ _ hp) (hkv.tups (Same.tups s1)) h6) ev (λu H2 s2 hu=>?_)));rw[e]at hu;obtain rfl:u=.int i:=hu;refine(jAEA rfl _ rfl ?_);have s12:=s1.trans s2;by_cases h0:i=0
  ·subst h0
   refine iteKT (by decide) ?_;refine(xaa _ rfl wa _ _ _ rfl rfl (SqT.of (s2 _ _ hwa)) rfl ?_);have:=q H2 s12;rw[show xcv mk.kinds bx k (.cond t g)=k+1 from if_pos e]at this;exact this
  ·refine iteKF (zDF λz=>h0 (V.int.inj z)) ?_
   refine(xaa _ rfl wa _ _ _ rfl rfl (SqT.of (s2 _ _ hwa)) rfl ?_);have:=q H2 s12;rw[show xcv mk.kinds bx k (.cond t g)=g from if_neg λz=>h0 (by rw[e]at z;exact D.int.inj z)]at this;exact this
 |_=>
  refine(xaa _ rfl a _ _ _ rfl rfl hh h0 (jAEA rfl _ rfl (iteKF (hdF (xre (by intro _ _ e;cases e))) (iteF ?_))));exact(xaa _ rfl wa _ _ _ rfl rfl (SqT.of hwa) rfl (q H1 s1))
theorem xfj(T:Tx K mg)(D_with_box:DefIs P w K mg base n "with_box" qan xr8)(D_worth:DefIs P w K mg base n "worth" qad (xc0 (λks=>Ev ks 21) 6)):DefIs P w K mg base (n+1) "boxes_behind" qaw xsa:=by
 refine DefIs.of T.jR xfg (by walk_at"l") (λf cdv A outer s H vs Q E hr h=>?_);obtain⟨mv,rv,lv,p,kvs,bx,l,mk,bs,r,rfl,hm,wf,hrr,hp,hkv,h6,hfit,hset,htake,q⟩:=h;obtain⟨a,us,rfl,ha,hus⟩:=xhx hrr;obtain⟨ma,kv,cv,hv,rfl,hma,hk0,_,_⟩:=mk_d hm;have hkl:=hkv.length
 refine⟨_,(zpn (xa6 (pR xa9 (px K (pv 1) pI) pS (nM _)) (zpo (xae (pd D_with_box hr (va 2 (pc (px K (pv 1) pI) (pc (pd D_worth hr (pc (px K (pv 0) pI) (pc (px K (pv 1) pI) (v1 2) ss) ss)) pN zsc) ss))))) pQ)
   (zpn (xa6 (pR xa9 (px K (pv 1) pI) pS (nM _)) (zpo (xae (pd D_with_box hr (va 2 (pc (px K (pv 1) pI) (v1 3) ss))))) pQ)
   (zpo (xae (pv 2))))),?_⟩
 have hh:SqT K H a (.str r.hd::us):=SqT.of ha;have h0:atI (V.str r.hd::us) 0=some (.str r.hd):=xax (j:=0) rfl
 cases r with
 |set x t=>
  obtain⟨_,_,rfl,rfl,tv,_,rfl,ht,rfl⟩:=hus;obtain⟨kk,tok⟩:=hset x t rfl;obtain⟨ev,vk⟩:=xk9 tok hfit;refine(xaa _ rfl a _ _ _ rfl rfl hh h0 (jAEA rfl _ rfl (iteKT (hdT rfl) ?_)));refine(xai _ rfl _ rfl a _ _ (xbl _ rfl rfl hh rfl (xaa _ rfl ma _ _ _ rfl rfl (SqT.of hma) rfl (xaa _ rfl a _ _ _ rfl rfl hh rfl (jEA _ rfl ?_)))));refine(xal _ _ p mk.kinds t (xa5 (enOf bx) _ rfl (wf.ksAt hk0) ht (KvD.en hp hkv h6) ev (λu H2 s2 hu=>?_)));refine(jEEE p x u (xby kvs rfl (s2 _ _ hp) (by omega) (λp' H3 s3 hp' h3=>?_)));refine q p' _ H3 (s2.trans s3) (.inr (xay s2 hp')) h3 ?_;exact(hkv.tups (Same.tups (s2.trans s3))).put (hu.same s3 _)
 |take nm c x=>
  obtain⟨_,_,rfl,rfl,_,_,rfl,rfl,_,_,rfl,rfl,rfl⟩:=hus;refine(xaa _ rfl a _ _ _ rfl rfl hh h0 (jAEA rfl _ rfl (iteKF (hdF (xp1 (by intro _ _ e;cases e))) ?_)));refine(xaa _ rfl a _ _ _ rfl rfl hh h0 (jAEA rfl _ rfl (iteKT (hdT rfl) ?_)));refine(xai _ rfl _ rfl a _ _ (xbl _ rfl rfl hh rfl (xaz _ rfl p x lv kvs (jAAA rfl hp (by omega) (λp' H3 s3 hp' h3=>?_)))));refine q p' _ H3 s3 (.inr hp') h3 ?_;exact(hkv.tups (Same.tups s3)).put ((htake nm c x rfl).same s3 _)
 |_=>
  refine(xaa _ rfl a _ _ _ rfl rfl hh h0 (jAEA rfl _ rfl (iteKF (hdF (xp1 (by intro _ _ e;cases e))) ?_)));refine(xaa _ rfl a _ _ _ rfl rfl hh h0 (jAEA rfl _ rfl (iteKF (hdF (xd9 (by intro _ _ _ e;cases e))) ?_)));exact(jEA _ rfl (q p kvs H (Same.refl _) (.inl rfl) hp hkv))
theorem xns{mk:Mak}{x:Str}{hd:Hand}(h:xeh mk x=some hd):hd∈mk.hands/\hd.name=x:=⟨zMF h,by
 have:=List.find?_some h;exact of_decide_eq_true this⟩
theorem xn8{mk:Mak}{hd:Hand}(h:(hd.boxes.map (·.1)).Nodup):((begL mk hd).map (·.1)).Nodup:=by
 unfold begL;rw[List.map_map];exact h
theorem xh9(T:Tx K mg):DefIs P w K mg base (n+1) "own_stand" ["stand"] xl4:=by
 refine DefIs.of T.jM xhw (by walk_at"l") (λf cdv A outer s H vs Q E hr h=>?_);obtain⟨sa,p,k,bx,rfl,⟨hsa,kvs,hp,hkv⟩,h100,q⟩:=h;refine(jEA _ (zpo (xae (xau (pc (px K (pv 0) pI) (pc (xat xgn rfl T.kP PyProof.Rows.boot_dict (pc (px K (pv 0) pI) pN ss)) pN zsc) ss)))) ?_);refine(xaa _ rfl sa _ _ _ rfl rfl (SqT.of hsa) rfl (xaa _ rfl sa _ _ _ rfl rfl (SqT.of hsa) rfl (xas p kvs rfl hp (λc hc=>⟨(by walk_at"s"),λt ht=>?_⟩))));have s1:=Same.new hc (.dK kvs);have s2:=Same.new ht (.tup [.int k,.ref c]);exact q t c _ (s1.trans s2) hc (jAEA ups kvs (s2 _ _ ups) (hkv.tups (Same.tups (s1.trans s2))))
theorem xjr(T:Tx K mg)(D_hand_of:DefIs P w K mg base n "hand_of" qag xe0)(D_nought:DefIs P w K mg base n "nought" qao (spNu nuV 6)):DefIs P w K mg base (n+1) "begin_of" qag xme:=by
 refine DefIs.of T.jL xjj (by walk_at"l") (λf cdv A outer s H vs Q E hr h=>?_);obtain⟨mv,x,mk,hd,rfl,hm,mok,hf,q⟩:=h;obtain⟨hin,hnm⟩:=xns hf;have hok:=mok.hok hd hin;refine(jEA _ (zpo (xae (xau (pc pI (pc (xat (xcz rfl) rfl T.kP PyProof.Rows.boot_dict (pc (xbp ["x","kind","make"] [none,none,some 0] rfl (by kernel_rfl) (xaw (K:=K) rfl (px K (pd D_hand_of hr (va 0 (v1 1))) pI)) (λ_ _ _ _=>(xbk (K:=K) (n:=2) rfl rfl (xaf (pgc 0) (xaf (pgc 1) xbj)))) (λ_ _ _ _=>xbr) (λ_ _ _ _=>(xau (va 0 (pc (pd D_nought hr (pc (px K (pv 2) pI) (v1 1) ss)) pN zsc))))) pN xbw)) pN zsc) so)))) ?_);obtain⟨ma,kv,cv,hv,rfl,hma,hk0,_,_⟩:=mk_d hm;refine(xai _ rfl _ rfl _ x mk (xby hd rfl hm hf (λu hu=>?_)));obtain⟨a,bv,rv,rfl,ha,hb,_⟩:=hd_d hu;obtain⟨ba,us,rfl,hba,hR⟩:=hb;have hl:=hR.length;rw[zLM]at hl;have h5:=hok.few;refine(xa8 a _ _ _ rfl rfl (SqT.of ha) rfl ba (jAA rfl ⟨_,SqT.of hba⟩ ?_));refine xbm (xs:=us) (λi ys H'=>Same H H'/\∃kvs,PairsV H' ys kvs/\KvD H' kvs ((begL mk hd).take i)) (jAEA (Same.refl _) ([]) trivial (by rw[List.take_zero];trivial)) (xa4 (by omega)) (λi ys H' _ p=>SqT.of (p.1 _ _ hba)) ?_ ?_
 ·rintro i y ys H' hy hi hly ⟨sm,kvs,hpv,hkv⟩
  obtain⟨d,hd',rd⟩:=hR.get hy;rw[zGM]at hd';obtain⟨b,hb',rfl⟩:=zMS hd';obtain⟨pb,ws,rfl,hpb,_,_,rfl,rfl,_,_,rfl,rfl,rfl⟩:=rd;have hbm:=zMG hb';refine(xa2 pb _ rfl (SqT.of (sm _ _ hpb)) rfl _ _ rfl _ (xby _ rfl rfl (ext2 rfl rfl) (xdd ?_)));refine(xai _ rfl _ rfl ma _ _ (xbl _ rfl rfl (SqT.of (sm _ _ hma)) rfl (jEA _ rfl (xap kv mk.kinds b.2 rfl (hk0.same sm _) mok.wf (hok.kin b hbm) (λu H2 s2 r2=>⟨(by walk_at"s"),λt ht=>nxtG hi hly ?_⟩)))));have s3:=Same.new ht (.tup [.str b.1,u]);refine(jAEA (sm.trans (s2.trans s3)) (kvs++[(Sum.inr b.1,u)]) ?_ ?_)
  ·exact(hpv.same (Same.tups (s2.trans s3))).append ⟨(jEA t rfl ups),trivial⟩
  ·have e:(begL mk hd).take (i+1)=(begL mk hd).take i++[(b.1,nuV 7 mk.kinds b.2)]:=by
    rw[zTA];unfold begL;rw[zGM,hb'];rfl
   rw[e];exact(hkv.tups (Same.tups (s2.trans s3))).snoc (r2.same s3 _)
 ·rintro ys H' hly ⟨sm,kvs,hpv,hkv⟩ D hD
  have sD:=Same.new hD (.lst ys);have hbl:(begL mk hd).length=us.length:=by unfold begL;rw[zLM,hl]
  rw[zTL (by omega)]at hkv;refine(xb0 D ys kvs rfl ups (hpv.same (Same.tups sD)) (λc hc=>⟨(by walk_at"s"),λt ht=>?_⟩))
  have hkd:(kvs.map (·.1)).Nodup:=by
   rw[hkv.keys];exact xpz (xn8 hok.nd)
  rw[xec hkd]at ht⊢;have s3:=Same.new hc (.dK kvs);have s4:=Same.new ht (.tup [.int 0,.ref c]);have sA:=sD.trans (s3.trans s4);exact q t c _ (sm.trans sA) (xay (sm.trans sD) hc) (jAEA ups kvs (s4 _ _ ups) (hkv.tups (Same.tups sA)))
structure Here(H:Hp)(mv:V)(x:Str)(sa p:Addr)(k:Nat)(bx:List (Str×D))(mk:Mak)(hd:Hand)(r:Row):Prop where
 md:RelD H mv mk.d
 mok:MakOk mk
 hf:xeh mk x=some hd
 st:StAt H sa p k bx
 few:bx.length<=6
 fit:FitB mk.kinds hd.boxes (enOf bx)
 row:hd.rows[k]?=some r
theorem Here.ok{H:Hp}{c:V}{x:Str}{b p:Addr}{k:Nat}{bx:List (Str×D)}{a:Mak}{hd:Hand}{r:Row}(h:Here H c x b p k bx a hd r):xeu a.kinds a.chans x hd.boxes hd.rows.length r:=by
 have hi:=xns h.hf;have:=(h.mok.hok hd hi.1).ok r (zMG h.row)
 rwa[hi.2]at this
def xew:Sp:=λvs H Q _=>∃(mv lv:V) (x:Str) (sa p:Addr) (k:Nat) (bx:List (Str×D)) (l:D) (mk:Mak) (hd:Hand) (r:Row),vs=[mv,.str x,.ref sa,lv]/\Here H mv x sa p k bx mk hd r ∧
 ((r=.fin/\Q .non H)\/(∃n c y,r=.take n c y/\lv=.non/\Q .non H)\/(r≠.fin/\(∀n c y,r=.take n c y->lv≠.non/\RelD H lv l)/\∀a' p' H',Same H H'->p'=p\/H p'=none->StAt H' a' p' (xcv mk.kinds bx k r) (xep mk.kinds bx l r)->Q (.ref a') H'))
def xug(H:Hp)(Q:VK)(mk:Mak)(k:Nat)(bx:List (Str×D))(p ca ga ta:Addr):Row->Prop
 |.fin=>Q .non H
 |.take _ c x=>∃kvs la us ds,H ca=some (.dK kvs)/\valV kvs (Sum.inr c)=some (.ref la)/\H la=some (.lst us)/\RelDs H us ds/\(ds=[]->Q .non H)/\∀d ds',ds=d::ds'->∀a' p' H',Chg la us.tail H H'->p'=p\/H p'=none->StAt H' a' p' (k+1) (putA bx x d)->Q (.ref a') H'
 |.send c t=>∃kvs la us,H ga=some (.dK kvs)/\valV kvs (Sum.inr c)=some (.ref la)/\H la=some (.lst us)/\us.length<=1000/\∀a' p' u H',Chg la (us++[u]) H H'->RelD H' u (wv mk.kinds bx t)->p'=p\/H p'=none->StAt H' a' p' (k+1) bx->Q (.ref a') H'
 |.tell t=>∃us,H ta=some (.lst us)/\us.length<=1000/\∀a' p' u H',Chg ta (us++[u]) H H'->RelD H' u (wv mk.kinds bx t)->p'=p\/H p'=none->StAt H' a' p' (k+1) bx->Q (.ref a') H'
 |r=>∀a' p' H',Same H H'->p'=p\/H p'=none->StAt H' a' p' (xcv mk.kinds bx k r) (xep mk.kinds bx (.int 0) r)->Q (.ref a') H'
def xmb:Sp:=λvs H Q _=>∃(mv:V) (x:Str) (sa ca ga ta p:Addr) (k:Nat) (bx:List (Str×D)) (mk:Mak) (hd:Hand) (r:Row),vs=[mv,.str x,.ref sa,.ref ca,.ref ga,.ref ta]/\Here H mv x sa p k bx mk hd r/\xug H Q mk k bx p ca ga ta r
theorem xmk{H:Hp}{d:D}{v:V}(h:RelD H v d):v≠.non:=by
 intro e;subst e
 cases d with
 |int i=>exact nomatch h
 |str x=>exact nomatch h
 |tup ds=>obtain⟨_,_,e,_⟩:=h;exact nomatch e
theorem xm2(T:Tx K mg)(o:DefIs P w K mg base n "row_at" qaj xfa)(i:DefIs P w K mg base n "row_behind" qa6 xpo)(b:DefIs P w K mg base n "boxes_behind" qaw xsa):DefIs P w K mg base (n+1) "stride" qaq xew:=by
 refine DefIs.of T.jP sc_stride (by walk_at"l") (λf a7 A outer s H vs Q E hr h=>?_);obtain⟨mv,lv,x,sa,p,k,bx,l,mk,hd,r,rfl,m,q⟩:=h;have nd:=sc_stride.nd
 refine⟨_,(zpn (psn 4 nd (pd o hr (va 0 (va 1 (v1 2)))))
   (zpn (xa6 (PW.pt (xol (pR xa9 (px K (pv 4) pI) pS (nM _)) (xml (PW.pt (xci (pR xa9 (px K (pv 4) pI) pS (nM _)) (xb3 (pR xkt (pv 3) xeb (nM _)))))))) (zpo (xae xeb)) pQ)
   (zpo (xae (xau (pc (pd i hr (va 0 (va 4 (v1 2)))) (pc (pd b hr (va 0 (va 4 (pc (px K (pv 2) pI) (v1 3) ss)))) pN zsc) zsc)))))),xab λR1 a5=>?_⟩
 refine(xbu _ rfl _ rfl _ rfl mv x (xal sa p k mk hd (xbh r rfl m.md m.hf m.st.1 m.row (λrv U=>a5 _ _ (xab λR2 a4=>?_)))));have C:=U;obtain⟨a,us,rfl,ha,a6⟩:=xhx U;have J:SqT K H a (.str r.hd::us):=SqT.of ha;have h0:atI (V.str r.hd::us) 0=some (.str r.hd):=xax (j:=0) rfl;have Y:=m.ok;rcases q with⟨rfl,q⟩ |⟨nn,c,y,rfl,rfl,q⟩ |⟨Z,hl,q⟩
 ·exact(xaa _ rfl a _ _ _ rfl rfl J h0 (jAEA rfl _ rfl (iteKT (hdT rfl) (iteT q))))
 ·refine(xaa _ rfl a _ _ _ rfl rfl J h0 (jAEA rfl _ rfl (iteKF (hdF (xir (by intro e;cases e))) ?_)))
  exact(xaa _ rfl a _ _ _ rfl rfl J h0 (jAEA rfl _ rfl (iteKT (hdT rfl) (xa3 _ rfl rfl _ rfl (iteKT (zDT rfl) q)))))
 ·have O:R2 [some mv,some (.str x),some (.ref sa),some lv,some (.ref a)] H:=by
   refine a4 _ _ ?_;refine(xbu _ rfl _ rfl _ rfl mv (.ref a) (xal sa p k bx mk (xa5 hd.boxes r rfl m.md m.mok.wf C Z (jAAA m.st m.few m.fit ⟨λt g e=>?_,λH1 z=>?_⟩))))
   ·subst e
    exact Y.1
   obtain⟨a0,kvs,hp,a2⟩:=m.st;refine(xbu _ rfl _ rfl _ rfl sa _ (xcf _ _ rfl rfl (SqT.of (z _ _ a0)) rfl (jEA _ rfl ?_)));refine(xal mv (.ref a) lv p kvs (xah bx l mk hd.boxes r rfl (m.md.same z _) m.mok.wf (C.same z _) (z _ _ hp) (jAAA (a2.tups (Same.tups z)) m.few m.fit (jAA (λu t e=>?_) (λG I u e=>(hl G I u e).2.same z _) (λp' M H2 s2 a1 h2 a3=>⟨(by walk_at"s"),λt ht=>?_⟩)))))
   ·subst e
    obtain⟨kk,_,h⟩:=Y;exact⟨kk,h⟩
   have s3:=Same.new ht (.tup [.int (xcv mk.kinds bx k r:Nat),.ref p']);exact q t p' _ (z.trans (s2.trans s3)) (a1.imp id λh=>xay z h) (jAEA ups M (s3 _ _ h2) (a3.tups (Same.tups s3)))
  refine(xaa _ rfl a _ _ _ rfl rfl J h0 (jAEA rfl _ rfl (iteKF (hdF (xir Z)) ?_)));by_cases ht:∃G I u,r=.take G I u
  ·obtain⟨G,I,u,rfl⟩:=ht
   exact(xaa _ rfl a _ _ _ rfl rfl J h0 (jAEA rfl _ rfl (iteKT (hdT rfl) (xa3 _ rfl rfl _ rfl (iteKF (zDF (hl G I u rfl).1) O)))))
  ·exact(xaa _ rfl a _ _ _ rfl rfl J h0 (jAEA rfl _ rfl (iteKF (hdF (xd9 λG I u e=>ht (jEEE G I u e))) (iteF O))))
theorem xqx(T:Tx K mg)(Y:DefIs P w K mg base n "row_at" qaj xfa)(U:DefIs P w K mg base n "stride" qaq xew)(g:DefIs P w K mg base n "first_letter" qap xjf)(o:DefIs P w K mg base n "worth" qad (xc0 (λks=>Ev ks 21) 6)):DefIs P w K mg base (n+1) "done" qax xmb:=by
 refine DefIs.of T.jS sc_done (by walk_at"l") (λf am A outer s H vs Q E hr h=>?_);obtain⟨mv,x,sa,ca,ga,ta,p,k,bx,J,hd,r,rfl,l,q⟩:=h;have nd:=sc_done.nd;have hu:=xeg hr
 refine⟨_,(zpn (psn 6 nd (pd Y hr (va 0 (va 1 (v1 2)))))
   (zpn (psn 7 nd (pd U hr (va 0 (va 1 (va 2 (pc (pd g hr (va 6 (v1 3))) pN zsc))))))
   (zpn (xa6 (pR xkt (pv 7) xeb (nM _)) (zpo (xae xeb)) pQ)
   (zpn (xa6 (pR xa9 (px K (pv 6) pI) pS (nM _)) (zpo (xbx (xc7 PySem.F.plainAttrs_list PySem.F.slot_list_pop PySem.F.type_list_pop xg9 (xcj hu (pv 3) (px K (pv 6) pI) (λ_ _=>rfl)) (pc pI pN so)))) (zpo (xa6 (pR xa9 (px K (pv 6) pI) pS (nM _)) (zpo (xbx (xc7 PySem.F.plainAttrs_list PySem.F.slot_list_append PySem.F.type_list_append xbt (xcj hu (pv 4) (px K (pv 6) pI) (λ_ _=>rfl)) (pc (pd o hr (pc (px K (pv 0) pI) (pc (px K (pv 6) pI) (pc (px K (pv 2) pI) pN ss) ss) ss)) pN zsc)))) (zpo (xa6 (pR xa9 (px K (pv 6) pI) pS (nM _)) (zpo (xbx (xc7 PySem.F.plainAttrs_list PySem.F.slot_list_append PySem.F.type_list_append xbt (pv 5) (pc (pd o hr (pc (px K (pv 0) pI) (pc (px K (pv 6) pI) (pc (px K (pv 2) pI) pN ss) ss) ss)) pN zsc)))) pQ)))))
   (zpo (xae (pv 7))))))),xab λR1 aj=>?_⟩
 refine(xbu _ rfl _ rfl _ rfl mv x (xal sa p k J hd (xbh r rfl l.md l.hf l.st.1 l.row (λrv M=>aj _ _ (xab λR2 a1=>?_)))));have a9:=l.ok;obtain⟨a,us,rfl,ha,a2⟩:=xhx (id M);have O:∀{H'},Same H H'->SqT K H' a (.str r.hd::us):=λs=>SqT.of (s _ _ ha);have h0:atI (V.str r.hd::us) 0=some (.str r.hd):=xax (j:=0) rfl
 have wk:∀{H1 t kk u},Same H H1->TmOk J.kinds 21 hd.boxes t kk->RelD H u t->∃(ma:Addr) (kv cv hv:V),mv=.ref ma/\H1 ma=some (.tup [kv,cv,hv])/\KsAt H1 kv J.kinds/\RelD H1 u t/\EnAt H1 p 6 (enOf bx)/\Ev J.kinds 21 (enOf bx) t (wv J.kinds bx t):=λ{H1 t kk u} s1 tok hu=>by
  obtain⟨ma,kv,cv,hv,e,a0,ah,_,_⟩:=mk_d l.md;obtain⟨_,kvs,hp,ag⟩:=l.st;exact(xav ma kv cv hv e (s1 _ _ a0) (l.mok.wf.ksAt (ah.same s1 _)) (hu.same s1 _) (KvD.en (s1 _ _ hp) (ag.tups (Same.tups s1)) l.few) ((xk9 tok l.fit).1))
 have shut:Q .non H->R2 [some mv,some (.str x),some (.ref sa),some (.ref ca),some (.ref ga),some (.ref ta),some (.ref a),some .non] H:=λq=>a1 _ _ (xab λR3 m=>(xa3 _ rfl rfl _ rfl (iteKT (zDT rfl) q)))
 cases r with
 |fin=>
  exact(xar _ rfl _ rfl _ rfl _ rfl _ rfl (xbo (.ref a) ca (.fin) rfl M (xal mv (.non) x sa p (xal k bx (.int 0) J hd (jEAA (.fin) rfl l (.inl ⟨rfl,shut q⟩))))))
 | take nn c y=>
  obtain⟨kvs,la,ls,ds,ae,hv,b,ab,qn,qs⟩:=q;obtain⟨_,_,rfl,rfl,_,_,rfl,rfl,_,_,rfl,rfl,rfl⟩:=a2;refine(xar _ rfl _ rfl _ rfl _ rfl _ rfl (xbo (.ref a) ca (.take nn c y) rfl M (xb0 kvs la ls ae hv b ?_)))
  cases ds with
  |nil=>
   obtain rfl:ls=[]:=ab;exact(xal mv (.non) x sa p (xal k bx (.int 0) J hd (jEAA _ rfl l (.inr (.inl (xbo nn c y rfl rfl (shut (qn rfl))))))))
  | cons d ds=>
   obtain⟨lv,a8,rfl,aa,ak⟩:=ab;refine(xal mv lv x sa p (xal k bx d J hd (jEAA _ rfl l (.inr (.inr (jAA (by intro e;cases e) (λ_ _ _ _=>⟨xmk aa,aa⟩) (λa' p' H' s' G C=>?_)))))));refine a1 _ _ (xab λR3 m=>(xa3 _ rfl rfl _ rfl (iteKF (zDF λz=>nomatch z) (m _ _ (xab λR4 I=>?_)))))
   have gd:DGet H' ca (.str c) (some (.ref la)):=by
    have:=DGet.rd (k:=Sum.inr c) (.inl (s' _ _ ae));rw[hv]at this;exact this
   refine(xaa _ rfl a _ _ _ rfl rfl (O s') h0 (jAEA rfl _ rfl (iteKT (hdT rfl) ?_)));refine(xai _ rfl _ rfl a _ _ (xbl _ rfl rfl (O s') rfl (xbv ca _ rfl gd (.inl (jAE rfl _ (SqL.of (s' _ _ b)))) (xah la _ 0 0 lv rfl rfl (s' _ _ b) (by decide) (by decide) (jAA (by simp[seqIndex?]) rfl ?_)))));refine I _ _ (jEA _ rfl ?_);have ch:Chg la a8 H' (upd H' la (.lst a8)):=Chg.upd;exact qs d ds rfl a' p' _ (Chg.pre s' ch) G (C.chg (s' _ _ b) ch)
 | send c t=>
  obtain⟨kvs,la,ls,ai,hv,b,ac,qs⟩:=q;obtain⟨_,_,rfl,rfl,tv,_,rfl,a4,rfl⟩:=a2;obtain⟨al,_,_,_,tok⟩:=a9;refine(xar _ rfl _ rfl _ rfl _ rfl _ rfl (xbo (.ref a) ca (.send c t) rfl M ?_));refine(xal mv (.non) x sa p (xal k bx (.int 0) J hd (jEAA _ rfl l (.inr (.inr (jAA (by intro e;cases e) (λ_ _ _ e=>by cases e) (λa' p' H' s' G C=>?_)))))));refine a1 _ _ (xab λR3 m=>(xa3 _ rfl rfl _ rfl (iteKF (zDF λz=>nomatch z) (m _ _ (xab λR4 I=>?_)))))
  have gd:DGet H' ga (.str c) (some (.ref la)):=by
   have:=DGet.rd (k:=Sum.inr c) (.inl (s' _ _ ai));rw[hv]at this;exact this
  obtain⟨ma,kv,cv,af,rfl,a0,a5,Z,a7,a6⟩:=wk s' tok a4;refine(xaa _ rfl a _ _ _ rfl rfl (O s') h0 (jAEA rfl _ rfl (iteKF (hdF (xd9 (by intro _ _ _ e;cases e))) ?_)));refine(xaa _ rfl a _ _ _ rfl rfl (O s') h0 (jAEA rfl _ rfl (iteKT (hdT rfl) ?_)));refine(xai _ rfl _ rfl a _ _ (xbl _ rfl rfl (O s') rfl (xbv ga _ rfl gd (.inl (jAE rfl _ (SqL.of (s' _ _ b)))) ?_)));refine(xaa _ rfl ma _ _ _ rfl rfl (SqT.of a0) rfl (xaa _ rfl a _ _ _ rfl rfl (O s') rfl (xaa _ rfl sa _ _ _ rfl rfl (SqT.of (s' _ _ l.st.1)) rfl ?_)));refine(xal _ _ p J.kinds t (xa5 (enOf bx) _ rfl a5 Z a7 a6 (λu H2 s2 a3=>?_)));have i:=s'.trans s2;refine(xap la _ u rfl rfl (i _ _ b) (xa4 (by omega)) (I _ _ (jEA _ rfl ?_)));have ch:Chg la (ls++[u]) H2 (upd H2 la (.lst (ls++[u]))):=Chg.upd;exact qs a' p' u _ (Chg.pre i ch) (a3.tups (ch.tups (i _ _ b)) _) G ((C.same s2).chg (i _ _ b) ch)
 |tell t=>
  obtain⟨ls,b,ac,qs⟩:=q;obtain⟨tv,_,rfl,a4,rfl⟩:=a2;refine(xar _ rfl _ rfl _ rfl _ rfl _ rfl (xbo (.ref a) ca (.tell t) rfl M ?_));refine(xal mv (.non) x sa p (xal k bx (.int 0) J hd (jEAA _ rfl l (.inr (.inr (jAA (by intro e;cases e) (λ_ _ _ e=>by cases e) (λa' p' H' s' G C=>?_)))))));refine a1 _ _ (xab λR3 m=>(xa3 _ rfl rfl _ rfl (iteKF (zDF λz=>nomatch z) (m _ _ (xab λR4 I=>?_)))));obtain⟨ma,kv,cv,af,rfl,a0,a5,Z,a7,a6⟩:=wk s' a9 a4;refine(xaa _ rfl a _ _ _ rfl rfl (O s') h0 (jAEA rfl _ rfl (iteKF (hdF (xd9 (by intro _ _ _ e;cases e))) ?_)));refine(xaa _ rfl a _ _ _ rfl rfl (O s') h0 (jAEA rfl _ rfl (iteKF (hdF (xnq (by intro _ _ e;cases e))) ?_)));refine(xaa _ rfl a _ _ _ rfl rfl (O s') h0 (jAEA rfl _ rfl (iteKT (hdT rfl) ?_)));refine(jEAA _ rfl (.inl (jAE rfl _ (SqL.of (s' _ _ b)))) ?_);refine(xaa _ rfl ma _ _ _ rfl rfl (SqT.of a0) rfl (xaa _ rfl a _ _ _ rfl rfl (O s') rfl (xaa _ rfl sa _ _ _ rfl rfl (SqT.of (s' _ _ l.st.1)) rfl ?_)));refine(xal _ _ p J.kinds t (xa5 (enOf bx) _ rfl a5 Z a7 a6 (λu H2 s2 a3=>?_)));have i:=s'.trans s2;refine(xap ta _ u rfl rfl (i _ _ b) (xa4 (by omega)) (I _ _ (jEA _ rfl ?_)));have ch:Chg ta (ls++[u]) H2 (upd H2 ta (.lst (ls++[u]))):=Chg.upd;exact qs a' p' u _ (Chg.pre i ch) (a3.tups (ch.tups (i _ _ b)) _) G ((C.same s2).chg (i _ _ b) ch)
 |_=>
  refine(xar _ rfl _ rfl _ rfl _ rfl _ rfl (xbo (.ref a) ca _ rfl M ?_));refine(xal mv (.non) x sa p (xal k bx (.int 0) J hd (jEAA _ rfl l (.inr (.inr (jAA (by intro e;cases e) (λ_ _ _ e=>by cases e) (λa' p' H' s' G C=>?_)))))));refine a1 _ _ (xab λR3 m=>(xa3 _ rfl rfl _ rfl (iteKF (zDF λz=>nomatch z) (m _ _ (xab λR4 I=>?_)))));refine(xaa _ rfl a _ _ _ rfl rfl (O s') h0 (jAEA rfl _ rfl (iteKF (hdF (xd9 (by intro _ _ _ e;cases e))) ?_)));refine(xaa _ rfl a _ _ _ rfl rfl (O s') h0 (jAEA rfl _ rfl (iteKF (hdF (xnq (by intro _ _ e;cases e))) ?_)));refine(xaa _ rfl a _ _ _ rfl rfl (O s') h0 (jAEA rfl _ rfl (iteKF (hdF (xrd (by intro _ e;cases e))) ?_)));exact I _ _ (jEA _ rfl (q a' p' H' s' G C))
structure HsHere(K:Fg)(H:Hp)(x:Addr)(mv:V)(a:HsA)(s:HSt)(mk:Mak)(N:Nat):Prop where
 at_:HsAt H (ad K "Plain") x mv mk a s
 md:RelD H mv mk.d
 mok:MakOk mk
 ok:HOk mk s N
theorem HsHere.same{K:Fg}{H e:Hp}{x:Addr}{b:V}{a:HsA}{s:HSt}{c:Mak}{N:Nat}(l:HsHere K H x b a s c N)(q:Same H e):HsHere K e x b a s c N:=⟨l.at_.same q,l.md.same q _,l.mok,l.ok⟩
structure HFr(mk:Mak)(x:Addr)(a a':HsA)(H H':Hp):Prop where
 fr:∀b o,H b=some o->¬a.F mk x b->H' b=some o
 tp:∀b vs,H b=some (.tup vs)->H' b=some (.tup vs)
 nw:∀b,a'.F mk x b->a.F mk x b\/H b=none
theorem HFr.refl{b:Mak}{x:Addr}{a:HsA}{H:Hp}:HFr b x a a H H:=⟨λ_ _ e _=>e,λ_ _ e=>e,λ_ h=>.inl h⟩
theorem HFr.trans{j:Mak}{x:Addr}{a m c:HsA}{H p i:Hp}(f:HFr j x a m H p)(g:HFr j x m c p i):HFr j x a c H i:=by
 refine⟨λb o e n=>g.fr b o (f.fr b o e n) λz=>?_,λb vs e=>g.tp b vs (f.tp b vs e),λb h=>?_⟩
 ·rcases f.nw b z with q |q
  ·exact n q
  ·rw[q]at e;cases e
 ·rcases g.nw b h with q |q
  ·exact f.nw b q
  ·by_cases l:a.F j x b
   ·exact .inl l
   ·refine .inr ?_
    cases e:H b with
    |none=>rfl
    |some o=>rw[f.fr b o e l]at q;cases q
def xgr(K:Fg):Sp:=λvs H Q _=>∃(x:Addr) (mv:V) (h:Str) (a:HsA) (s:HSt) (mk:Mak),vs=[.ref x,.str h]/\HsAt H (ad K "Plain") x mv mk a s/\h∈hn mk/\Q (.int (s.ct h:Nat)) H
def xl3(K:Fg):Sp:=λvs H Q _=>∃(x:Addr) (mv:V) (h:Str) (a:HsA) (s:HSt) (mk:Mak),vs=[.ref x,.str h]/\HsAt H (ad K "Plain") x mv mk a s/\h∈hn mk/\∀l us H',Same H H'->H l=none->H' l=some (.lst us)->RelDs H' us (s.tl h)->Q (.ref l) H'
def xjc(K:Fg):Sp:=λvs H Q _=>∃(x:Addr) (mv:V) (c:Str) (a:HsA) (s:HSt) (mk:Mak),vs=[.ref x,.str c]/\HsAt H (ad K "Plain") x mv mk a s/\c∈cn mk/\∀l us H',Same H H'->H l=none->H' l=some (.lst us)->RelDs H' us (s.bt c)->Q (.ref l) H'
def xez(K:Fg):Sp:=λvs H Q _=>∃(x:Addr) (mv:V) (h:Str) (a:HsA) (s:HSt) (mk:Mak),vs=[.ref x,.str h]/\HsAt H (ad K "Plain") x mv mk a s/\h∈hn mk/\(s.sd h).2.length<=100/\∀sa' p' H',Same H H'->H p'=none->StAt H' sa' p' (s.sd h).1 (s.sd h).2->Q (.ref sa') H'
def xkh(K:Fg):Sp:=λvs H Q _=>∃(x:Addr) (mv:V) (a:HsA) (s:HSt) (mk:Mak) (N:Nat) (hd:Hand) (r:Row),vs=[.ref x,.str hd.name]/\HsHere K H x mv a s mk N/\hd∈mk.hands/\hd.rows[(s.sd hd.name).1]?=some r/\∀H',Same H H'->Q (.bl (r.shutF s.bt)) H'
def xey(K:Fg):Sp:=λvs H Q _=>∃(x:Addr) (mv:V) (a:HsA) (s:HSt) (mk:Mak) (N:Nat),vs=[.ref x]/\HsHere K H x mv a s mk N/\∀b H',Same H H'->(b=true ↔ xhg mk s)->Q (.bl b) H'
def xfc(K:Fg):Sp:=λvs H Q _=>∃(x:Addr) (mv:V) (a:HsA) (s:HSt) (mk:Mak) (N:Nat) (hd:Hand) (r:Row),vs=[.ref x,.str hd.name]/\HsHere K H x mv a s mk N/\hd∈mk.hands/\hd.rows[(s.sd hd.name).1]?=some r/\N<=900/\(r.shutF s.bt=true->Q (.bl false) H) ∧
 (r.shutF s.bt=false->∀a' H',HFr mk x a a' H H'->HsHere K H' x mv a' (s.go mk.kinds hd.name r) mk (N+1)->Q (.bl true) H')
def xex(K:Fg):Sp:=λvs H Q _=>∃(x l:Addr) (mv:V) (a:HsA) (s:HSt) (mk:Mak) (N:Nat) (ws:List Str),vs=[.ref x,.ref l]/\HsHere K H x mv a s mk N/\H l=some (.lst (ws.map V.str))/\(∀z∈ws,z∈hn mk)/\¬a.F mk x l/\N+ws.length<=900 ∧
 ∀(n:Nat) a' s' H',HFr mk x a a' H H'->HsHere K H' x mv a' s' mk (N+ws.length)->Rch mk s s'->(xhg mk s->n=0/\H'=H/\a'=a)->Q (.int n) H'
theorem gdK{H:Hp}{d:Addr}{ns:List Str}{f:Str->V}{h:Str}(e:H d=some (.dK (mapK ns f)))(a:h∈ns):DGet H d (.str h) (some (f h)):=by
 have:=DGet.rd (k:=Sum.inr h) (.inl e);rw[xed a]at this;exact this
theorem xdz(T:Tx K b):MethIs P w K b base (n+1) (ad K "Plain") "count" qaa [[]] (xgr K):=by
 refine MethIs.of T.uA xf1 (λvs H Q E h=>?_) (λf m A outer s H vs Q E i h=>?_)
 ·obtain⟨_,_,_,_,_,_,rfl,_⟩:=h
  rfl
 obtain⟨x,o,h,a,st,p,rfl,l,j,q⟩:=h;have g:=xeg i;obtain⟨fs,e,c⟩:=l.ob;refine(jEA _ (zpo (xae (xcj g (xcq (pv 0) rfl) (pv 1) (λ_ _=>rfl)))) ?_);exact(xaz _ rfl x _ _ fs (xbh _ rfl e T.k3.cl (T.k3.no _ (by simp)) c.ct (xa0 _ rfl a.cd _ rfl (gdK l.inn.hcd j) q)))
theorem xg4(T:Tx K i):MethIs P w K i base (n+1) (ad K "Plain") "told" qaa [[]] (xl3 K):=by
 refine MethIs.of T.k8 xgv (λvs H Q E h=>?_) (λf y A outer s H vs Q E p h=>?_)
 ·obtain⟨_,_,_,_,_,_,rfl,_⟩:=h
  rfl
 obtain⟨x,z,h,a,st,C,rfl,l,e,q⟩:=h;have o:=xeg p;obtain⟨fs,m,j⟩:=l.ob;obtain⟨us,u,r⟩:=l.inn.tel h e;refine(jEA _ (zpo (xae (xat xb5 rfl T.kT PyProof.Rows.boot_list (pc (xcj o (xcq (pv 0) rfl) (pv 1) (λ_ _=>rfl)) pN ss)))) ?_);refine(xaz _ rfl x _ _ fs (xbh _ rfl m T.k3.cl (T.k3.no _ (by simp)) j.tl (xbg _ rfl a.td _ rfl (gdK l.inn.htd e) (a.ta h) us rfl (.inl (SqL.of u)) (λb g=>?_))));have c:=Same.new g (.lst us);exact q b us _ c g ups (r.same c _)
theorem xdf(T:Tx K j):MethIs P w K j base (n+1) (ad K "Plain") "letters" qat [[]] (xjc K):=by
 refine MethIs.of T.k9 xes (λvs H Q E h=>?_) (λf z A outer s H vs Q E r h=>?_)
 ·obtain⟨_,_,_,_,_,_,rfl,_⟩:=h
  rfl
 obtain⟨x,C,h,a,st,G,rfl,l,g,q⟩:=h;have p:=xeg r;obtain⟨fs,o,m⟩:=l.ob;obtain⟨us,y,u⟩:=l.inn.let_ h g;refine(jEA _ (zpo (xae (xat xb5 rfl T.kT PyProof.Rows.boot_list (pc (xcj p (xcq (pv 0) rfl) (pv 1) (λ_ _=>rfl)) pN ss)))) ?_);refine(xaz _ rfl x _ _ fs (xbh _ rfl o T.k3.cl (T.k3.no _ (by simp)) m.bt (xbg _ rfl a.bd _ rfl (gdK l.inn.hbd g) (a.la h) us rfl (.inl (SqL.of y)) (λb i=>?_))));have e:=Same.new i (.lst us);exact q b us _ e i ups (u.same e _)
theorem xf6(T:Tx K e)(b:DefIs P w K e base n "own_stand" ["stand"] xl4):MethIs P w K e base (n+1) (ad K "Plain") "stand" qaa [[]] (xez K):=by
 refine MethIs.of T.k7 xf0 (λvs H Q E h=>?_) (λf p A outer s H vs Q E g h=>?_)
 ·obtain⟨_,_,_,_,_,_,rfl,_⟩:=h
  rfl
 obtain⟨x,r,h,a,st,u,rfl,l,i,c,q⟩:=h;have o:=xeg g;obtain⟨fs,m,j⟩:=l.ob;refine(jEA _ (zpo (xae (pd b g (pc (xcj o (xcq (pv 0) rfl) (pv 1) (λ_ _=>rfl)) pN ss)))) ?_);exact(xaz _ rfl x _ _ fs (xbh _ rfl m T.k3.cl (T.k3.no _ (by simp)) j.st (xa0 _ rfl a.sd _ rfl (gdK l.inn.hsd i) (jEEE (a.sa h) (a.pa h) ((st.sd h).1) (xby ((st.sd h).2) rfl (l.inn.sta h i) c q)))))
theorem HsHere.here{H:Hp}{x:Addr}{e:V}{a:HsA}{s:HSt}{c:Mak}{N:Nat}(l:HsHere K H x e a s c N){hd:Hand}(b:hd∈c.hands){r:Row}(f:hd.rows[(s.sd hd.name).1]?=some r):Here H e hd.name (a.sa hd.name) (a.pa hd.name) (s.sd hd.name).1 (s.sd hd.name).2 c hd r:=
 ⟨l.md,l.mok,xfp l.mok b,l.at_.inn.sta _ (List.mem_map_of_mem b),by have:=l.ok.bxlen l.mok b;omega,l.ok.fit hd b,f⟩
theorem xf5(T:Tx K I)(i:DefIs P w K I base n "row_at" qaj xfa)(g:DefIs P w K I base n "stride" qaq xew)(b:DefIs P w K I base n "first_letter" qap xjf):MethIs P w K I base (n+1) (ad K "Plain") "stays" qaa [[]] (xkh K):=by
 refine MethIs.of T.uF sc_Plain_stays (λvs H Q E h=>?_) (λf a3 A outer s H vs Q E O h=>?_)
 ·obtain⟨_,_,_,_,_,_,_,_,rfl,_⟩:=h
  rfl
 obtain⟨x,u,a,st,o,N,hd,r,rfl,l,C,m,q⟩:=h;have nd:=sc_Plain_stays.nd;have hu:=xeg O;obtain⟨fs,M,J⟩:=l.at_.ob;have hh:hd.name∈hn o:=List.mem_map_of_mem C;have p:=l.here C m;have Y:=T.k3.cl;have no:=T.k3.no
 refine⟨_,(zpn (psn 2 nd (xcj hu (xcq (pv 0) rfl) (pv 1) (λ_ _=>rfl)))
   (zpo (xae (xcu xkt (pd g O (pc (xcq (pv 0) rfl) (va 1 (va 2 (pc (pd b O (pc (pd i O (pc (xcq (pv 0) rfl) (va 1 (v1 2)) xc6)) (pc (xcq (pv 0) rfl) pN xc6) zsc)) pN zsc))) xc6)) xeb (nM _))))),?_⟩
 refine(xaz _ rfl x _ _ fs (xbh _ rfl M Y (no _ (by simp)) J.st (xa0 _ rfl a.sd _ rfl (gdK l.at_.inn.hsd hh) ?_)));refine(xaz _ rfl x _ _ fs (xbh _ rfl M Y (no _ (by simp)) J.mkv (jEA _ rfl (jEA _ rfl ?_))));refine(xaz _ rfl x _ _ fs (xbh _ rfl M Y (no _ (by simp)) J.mkv (xai _ rfl _ rfl u hd.name (a.sa hd.name) (xah (a.pa hd.name) _ o hd r rfl l.md p.hf p.st.1 m (λrv a0=>?_)))));refine(xaz _ rfl x _ _ fs (xbh _ rfl M Y (no _ (by simp)) J.bt (xbo rv a.bd r rfl a0 ?_)))
 cases r with
 |fin=>exact(xal u (.non) hd.name (a.sa hd.name) (a.pa hd.name) (xal _ _ (.int 0) o hd (jEAA (.fin) rfl p (.inl (jAA rfl rfl (q H (Same.refl _)))))))
 | take Z c y=>
  obtain⟨ch,hc,rfl,_,_⟩:=p.ok;have G:ch.1∈cn o:=List.mem_map_of_mem hc;obtain⟨us,a1,j⟩:=l.at_.inn.let_ _ G;refine(xb0 _ (a.la ch.1) us l.at_.inn.hbd (xed G) a1 ?_)
  cases U:st.bt ch.1 with
  |nil=>
   rw[U]at j;obtain rfl:us=[]:=j;have e:(Row.take Z ch.1 y).shutF st.bt=true:=by show(st.bt ch.1).isEmpty=true;rw[U];rfl
   rw[e]at q;exact(xal u (.non) hd.name (a.sa hd.name) (a.pa hd.name) (xal _ _ (.int 0) o hd (jEAA _ rfl p (.inr (.inl (xb0 Z ch.1 y rfl rfl rfl (q H (Same.refl _))))))))
  |cons d ds=>
   rw[U]at j;obtain⟨lv,a2,rfl,z,_⟩:=j;have e:(Row.take Z ch.1 y).shutF st.bt=false:=by show(st.bt ch.1).isEmpty=false;rw[U];rfl
   rw[e]at q;exact(xal u lv hd.name (a.sa hd.name) (a.pa hd.name) (xal _ _ d o hd (jEAA _ rfl p (.inr (.inr (jAA (by intro e;cases e) (λ_ _ _ _=>⟨xmk z,z⟩) (λa' p' H' s' _ _=>⟨rfl,q H' s'⟩)))))))
 |_=>exact(xal u (.non) hd.name (a.sa hd.name) (a.pa hd.name) (xal _ _ (.int 0) o hd (jEAA _ rfl p (.inr (.inr (jAA (by intro e;cases e) (λ_ _ _ e=>by cases e) (λa' p' H' s' _ _=>⟨rfl,q H' s'⟩)))))))
theorem xg5(T:Tx K mg)(a4:DefIs P w K mg base n "done" qax xmb):MethIs P w K mg base (n+1) (ad K "Plain") "step" qaa [[]] (xfc K):=by
 refine MethIs.of T.uC sc_Plain_step (λvs H Q E h=>?_) (λf av A outer s H vs Q E hr h=>?_)
 ·obtain⟨_,_,_,_,_,_,_,_,rfl,_⟩:=h
  rfl
 obtain⟨x,mv,a,st,m,N,hd,r,rfl,l,a3,a6,ar,qn,qs⟩:=h;have nd:=sc_Plain_step.nd;have hu:=xeg hr;have i:=l.at_.inn;obtain⟨fs,hx,lf⟩:=l.at_.ob;have hh:hd.name∈hn m:=List.mem_map_of_mem a3;have h4:(hn m).length<=4:=by rw[zLM];exact l.mok.hfew
 have he:=l.here a3 a6;have cl:=T.k3.cl;have no:=T.k3.no
 refine⟨_,(zpn (psn 2 nd (pd a4 hr (pc (xcq (pv 0) rfl) (va 1 (pc (xcj hu (xcq (pv 0) rfl) (pv 1) (λ_ _=>rfl)) (pc (xcq (pv 0) rfl) (pc (xcq (pv 0) rfl) (pc (xcj hu (xcq (pv 0) rfl) (pv 1) (λ_ _=>rfl)) pN ss) xc6) xc6) ss)) xc6)))
   (zpn (xa6 (pR xkt (pv 2) xeb (nM _)) (zpo (xae xgz)) pQ)
   (zpn (xjk hu (xcq (pv 0) rfl) (pv 1) (pv 2) rfl)
   (zpn (xjk hu (xcq (pv 0) rfl) (pv 1) (xak xba (xcj hu (xcq (pv 0) rfl) (pv 1) (λ_ _=>rfl)) pI) rfl)
   (zpo (xae xgz)))))),xab λR1 aj=>?_⟩
 refine(xaz _ rfl x _ _ fs (xbh _ rfl hx cl (no _ (by simp)) lf.mkv (xai _ rfl _ rfl x _ _ (xa5 fs _ rfl hx cl (no _ (by simp)) lf.st (xbc _ rfl a.sd _ rfl (gdK i.hsd hh) _ rfl (xah x _ _ fs _ rfl hx cl (no _ (by simp)) lf.bt (xaz _ rfl x _ _ fs (xbh _ rfl hx cl (no _ (by simp)) lf.bt (xaz _ rfl x _ _ fs (xbh _ rfl hx cl (no _ (by simp)) lf.tl (xa0 _ rfl a.td _ rfl (gdK i.htd hh) ?_)))))))))));refine(xal mv hd.name (a.sa hd.name) a.bd a.bd (xal (a.ta hd.name) (a.pa hd.name) _ _ m (xas hd r rfl he ?_)));have Z:Q (.bl false) H->R1 [some (.ref x),some (.str hd.name),some .non] H:=λq=>aj _ _ (xab λR2 ai=>(xa3 _ rfl rfl _ rfl (iteKT (zDT rfl) q)))
 have C:r.shutF st.bt=false->∀{G p':Addr} {j:Hp},StAt j G p' (xcv m.kinds (st.sd hd.name).2 (st.sd hd.name).1 r) (xep m.kinds (st.sd hd.name).2 (r.letF st.bt) r)->(∀z∈cn m,∃us,j (a.la z)=some (.lst us)/\RelDs j us (r.btF m.kinds (st.sd hd.name).2 st.bt z))->(∀z∈hn m,∃us,j (a.ta z)=some (.lst us)/\RelDs j us (upF st.tl hd.name (r.told m.kinds (st.sd hd.name).2 (st.tl hd.name)) z))->
   (∀b o,H b=some o->(∀us,o≠.lst us)->j b=some o)->(∀b o,H b=some o->¬a.F m x b->j b=some o)->p'=a.pa hd.name\/H p'=none->R1 [some (.ref x),some (.str hd.name),some (.ref G)] j:=λsh {G p' j} Y U h3 a0 fr hp=>by
  refine aj _ _ (xab λR2 ai=>(xa3 _ rfl rfl _ rfl (iteKF (zDF λz=>nomatch z) (ai _ _ (xab λR3 ao=>?_)))));have a1:=a0 _ _ hx λus e=>by cases e
  have a5:=a0 _ _ i.hsd λus e=>by cases e
  have ah:=a0 _ _ i.hcd λus e=>by cases e
  have ag:∀f,(mapK (hn m) f).length<sizeLine:=λf=>by rw[xo3];exact xa4 (by omega)
  refine(xai _ rfl _ rfl x _ _ (xa5 fs _ rfl a1 cl (no _ (by simp)) lf.st (xa0 _ rfl a.sd _ rfl (DPut.k (k:=Sum.inr hd.name) a5 (ag _)) (ao _ _ (xab λR4 an=>?_)))));have xs:x≠a.sd:=λz=>by rw[z,a5]at a1;cases a1
  have ac:upd j a.sd (.dK (putK (mapK (hn m) λz=>.ref (a.sa z)) (Sum.inr hd.name) (.ref G))) x=some (.ins (ad K "Plain") a.dx fs):=by rw[xao xs];exact a1
  have a7:upd j a.sd (.dK (putK (mapK (hn m) λz=>.ref (a.sa z)) (Sum.inr hd.name) (.ref G))) a.cd=some (.dK (mapK (hn m) λz=>.int (st.ct z:Nat))):=by rw[xao (Ne.symm i.n1.2.2.1)];exact ah
  refine(xaz _ rfl x _ _ fs (xbh _ rfl ac cl (no _ (by simp)) lf.ct (xbg _ rfl a.cd _ rfl (gdK a7 hh) _ _ rfl rfl (xaz _ rfl x _ _ fs (xbh _ rfl ac cl (no _ (by simp)) lf.ct (xa0 _ rfl a.cd _ rfl (DPut.k (k:=Sum.inr hd.name) a7 (ag _)) (an _ _ ?_)))))));obtain⟨g1,g2,g3,g4⟩:=l.at_.stepped (s':=st.go m.kinds hd.name r) hh (by show upF _ _ _=_;rw[show(st.go m.kinds hd.name r).sd hd.name=_ from xa7]) rfl (by rw[show(st.go m.kinds hd.name r).sd hd.name=_ from xa7];exact Y) U h3 a0 fr hp;exact qs sh _ _ ⟨g2,g3,g4⟩ ⟨g1,l.md.tups g3 _,l.mok,l.ok.go l.mok a3 a6 sh⟩
 have ab:∀{z},z∈cn m->a.F m x (a.la z):=λhz=>.inr (.inr (.inr (.inr (.inr (.inl (jEA _ hz rfl))))));have al:∀{z},z∈hn m->a.F m x (a.ta z):=λhz=>.inr (.inr (.inr (.inr (.inr (.inr (jEA _ hz (.inl rfl)))))));have a8:∀{la:Addr} {us xs:List V} {j:Hp},H la=some (.lst us)->Chg la xs H j->∀b o,H b=some o->(∀us,o≠.lst us)->j b=some o:=λ{la us xs j} g c b o e n=>c.ne e λz=>by rw[z,g]at e;exact n us (Option.some.inj e).symm
 have a9:∀{la:Addr} {us xs:List V} {j:Hp},H la=some (.lst us)->Chg la xs H j->(∀z∈hn m,a.ta z≠la)->∀z∈hn m,∃us,j (a.ta z)=some (.lst us)/\RelDs j us (upF st.tl hd.name (st.tl hd.name) z):=λ{la us xs j} g c n z hz=>by
  obtain⟨ut,Y,U⟩:=i.tel z hz;refine(jEA ut (c.ne Y (n z hz)) ?_);have e:upF st.tl hd.name (st.tl hd.name) z=st.tl z:=by unfold upF;split <;> rename_i q <;> first |rw[q] |rfl
  rw[e];exact U.tups (c.tups g) _
 have aa:∀{c:Str} {us xs:List V} {ds:List D} {j:Hp},c∈cn m->H (a.la c)=some (.lst us)->Chg (a.la c) xs H j->RelDs j xs ds->∀z∈cn m,∃us,j (a.la z)=some (.lst us)/\RelDs j us (upF st.bt c ds z):=λ{c us xs ds j} hc g ch hx z hz=>by
  by_cases e:z=c
  ·subst e
   exact(jEA xs (ch.at g) (by rw[xa7];exact hx))
  ·obtain⟨ut,Y,U⟩:=i.let_ z hz
   exact(jEA ut (ch.ne Y λq=>e (i.nl z hz c hc q)) (by rw[xbi e];exact U.tups (ch.tups g) _))
 cases r with
 |fin=>exact Z (qn rfl)
 |take nn c y=>
  obtain⟨ch,hc,rfl,_,_⟩:=he.ok;have p:ch.1∈cn m:=List.mem_map_of_mem hc;obtain⟨us,g,J⟩:=i.let_ _ p;refine(xav _ (a.la ch.1) us (st.bt ch.1) i.hbd (xed p) g J (λe=>Z (qn (by show(st.bt ch.1).isEmpty=true;rw[e];rfl))) (λd au e G p' j chg M I=>?_));have aq:=J;rw[e]at J;obtain⟨u,ak,rfl,a2,af⟩:=J;refine C (by show(st.bt ch.1).isEmpty=false;rw[e];rfl) (by rw[show(Row.take nn ch.1 y).letF st.bt=d by show(st.bt ch.1).headD _=d;rw[e];rfl];exact I) (aa p g chg (by show RelDs j ak (st.bt ch.1).tail;rw[e];exact af.tups (chg.tups g) _)) (a9 g chg λz hz q=>i.nlt _ p z hz q.symm) (a8 g chg) (λb o eb n=>chg.ne eb λz=>n (z ▸ ab p)) M
 |send c t=>
  obtain⟨ch,hc,rfl,_,_⟩:=he.ok;have p:ch.1∈cn m:=List.mem_map_of_mem hc;obtain⟨us,g,J⟩:=i.let_ _ p;have hb:=(l.ok.cok ch hc).1;have am:=J.length;refine(xap _ (a.la ch.1) us i.hbd (xed p) g (by omega) (λG p' u j chg a2 M I=>?_));exact C rfl I (aa p g chg ((J.tups (chg.tups g) _).append (xas u ([]) rfl a2 rfl))) (a9 g chg λz hz q=>i.nlt _ p z hz q.symm) (a8 g chg) (λb o eb n=>chg.ne eb λz=>n (z ▸ ab p)) M
 | tell t=>
  obtain⟨ut,O,ae⟩:=i.tel _ hh;have hb:=(l.ok.tok hd a3).1;have am:=ae.length;refine(jEAA ut O (by omega) (λG p' u j chg a2 M I=>?_));refine C rfl I (λz hz=>?_) (λz hz=>?_) (a8 O chg) (λb o eb n=>chg.ne eb λz=>n (z ▸ al hh)) M
  ·obtain⟨us,Y,U⟩:=i.let_ z hz
   exact(jEA us (chg.ne Y (i.nlt z hz _ hh)) (U.tups (chg.tups O) _))
  ·by_cases e:z=hd.name
   ·subst e
    exact(jEA (ut++[u]) (chg.at O) (by rw[xa7];exact(ae.tups (chg.tups O) _).append (xas u ([]) rfl a2 rfl)))
   ·obtain⟨us,Y,U⟩:=i.tel z hz
    exact(jEA us (chg.ne Y λq=>e (i.nt z hz _ hh q)) (by rw[xbi e];exact U.tups (chg.tups O) _))
 | _=>
  intro G p' j s1 M I;refine C rfl I (λz hz=>?_) (λz hz=>?_) (λb o e _=>s1 b o e) (λb o e _=>s1 b o e) M
  ·obtain⟨us,Y,U⟩:=i.let_ z hz
   exact(jEA us (s1 _ _ Y) (U.same s1 _))
  ·obtain⟨us,Y,U⟩:=i.tel z hz
   refine(jEA us (s1 _ _ Y) ?_);have e:upF st.tl hd.name (st.tl hd.name) z=st.tl z:=by unfold upF;split <;> rename_i q <;> first |rw[q] |rfl
   show RelDs j us (upF st.tl hd.name (st.tl hd.name) z);rw[e];exact U.same s1 _
theorem HsHere.row{K:Fg}{H:Hp}{x:Addr}{e:V}{a:HsA}{s:HSt}{c:Mak}{N:Nat}(l:HsHere K H x e a s c N){hd:Hand}(b:hd∈c.hands):∃r,hd.rows[(s.sd hd.name).1]?=some r:=⟨_,zGA (l.ok.row hd b)⟩
theorem HsHere.mono{K:Fg}{H:Hp}{x:Addr}{b:V}{a:HsA}{s:HSt}{c:Mak}{N e:Nat}(l:HsHere K H x b a s c N)(h:N<=e):HsHere K H x b a s c e:=⟨l.at_,l.md,l.mok,l.ok.mono h⟩
theorem xgb{c:Mak}{s:HSt}{f:Hand->Row}(i:∀h∈c.hands,h.rows[(s.sd h.name).1]?=some (f h)){bs:List Bool}(e:bs=c.hands.map λh=>(f h).shutF s.bt):bs.all id=true ↔ xhg c s:=by
 subst e;rw[List.all_eq_true];constructor
 ·intro h hd a r g
  rw[i hd a]at g;cases g;exact h _ (List.mem_map_of_mem a)
 ·intro h b j
  obtain⟨hd,a,rfl⟩:=zMP j;exact h hd a _ (i hd a)
theorem xf3(T:Tx K mg)(b:MethIs P w K mg base n (ad K "Plain") "step" qaa [[]] (xfc K)):MethIs P w K mg base (n+1) (ad K "Plain") "weave" qau [[]] (xex K):=by
 refine MethIs.of T.uD sc_Plain_weave (λvs H Q E h=>?_) (λf a1 A outer s H vs Q E hr h=>?_)
 ·obtain⟨_,_,_,_,_,_,_,_,rfl,_⟩:=h
  rfl
 obtain⟨x,l,mv,a,st,m,N,ws,rfl,hs,hl,M,nl,a0,q⟩:=h;have nd:=sc_Plain_weave.nd
 refine⟨_,(zpn (psn 2 nd pI)
   (zpn (xca PassesOwn.never rfl (xbs (K:=K) rfl (pv 1)) (pgn 3 nd)
   (zpo (xa6 (xgd (xb2 b T.k3.cl hr (pv 0) (v1 3))) (zpo (psn 2 nd (xak xba (pv 2) pI))) pQ)))
   (zpo (xae (pv 2))))),?_⟩
 refine(xbd _ rfl l rfl ⟨_,SqL.of hl⟩ ?_);have G:(ws.map V.str).length=ws.length:=zLM ..
 refine xdb (xs:=ws.map V.str) (λi σ y=>∃(n:Nat) (j:HsA) (s':HSt) (o:Option V),σ=[some (.ref x),some (.ref l),some (.int n),o]/\HFr m x a j H y/\HsHere K y x mv j s' m (N+i)/\Rch m st s'/\(xhg m st->n=0/\y=H/\j=a/\s'=st))
  (xag 0 a st none rfl HFr.refl hs (.refl _) (λ_=>(jAAA rfl rfl rfl rfl))) (λi σ y _ p=>?_) ?_ ?_
 ·obtain⟨_,_,_,_,_,fr,_⟩:=p
  exact SqL.of (fr.fr _ _ hl nl)
 ·rintro i v σ y O ⟨J,j,s',o,rfl,fr,c,I,e⟩
  have hi:=(zES O).1;rw[zGM]at O;obtain⟨z,hz,rfl⟩:=zMS O;obtain⟨hd,u,rfl⟩:=zMP (M z (zMG hz));obtain⟨r,g⟩:=c.row u;obtain⟨fs,hx,lf⟩:=c.at_.ob;refine(xbf _ rfl x _ fs rfl hx (lf.no _ (by walk_at"k")) _ rfl (xal x mv j s' m (xb9 (N+i) hd r rfl c u g (by omega) (λZ=>?_) (λZ a2 H2 Y U=>?_))))
  ·refine(jEA _ rfl (iteF ?_))
   exact(xag J j s' _ rfl fr (c.mono (by omega)) I e)
  ·refine(jEA _ rfl (iteT ?_))
   have C:Stp m s' (s'.go m.kinds hd.name r) hd:=(xf7 u r g Z rfl);refine(xa0 _ rfl _ _ rfl rfl ?_);refine(xag (J+1) a2 _ _ rfl (fr.trans Y) U (I.trans (.one C)) (λh=>?_));obtain⟨_,_,_,rfl⟩:=e h;exact(C.moves h).elim
 ·rintro σ y ⟨J,j,s',o,rfl,fr,c,I,e⟩
  rw[G]at c;exact(jEA _ rfl (q J j s' y fr c I λh=>(jAA ((e h).1) ((e h).2.1) ((e h).2.2.1))))
theorem xf4(T:Tx K mg)(b:MethIs P w K mg base n (ad K "Plain") "stays" qaa [[]] (xkh K)):MethIs P w K mg base (n+1) (ad K "Plain") "still" ["self"] [[]] (xey K):=by
 refine MethIs.of T.uE xfz (λvs H Q E h=>?_) (λf a0 A outer s H vs Q E M h=>?_)
 ·obtain⟨_,_,_,_,_,_,rfl,_⟩:=h
  rfl
 obtain⟨x,mv,a,st,C,N,rfl,hs,q⟩:=h;obtain⟨fs,hx,lf⟩:=hs.at_.ob;obtain⟨ma,kv,cv,hv,rfl,O,_,_,Y⟩:=mk_d hs.md;obtain⟨ha,uh,rfl,m,o⟩:=Y;have U:=o.length;rw[zLM]at U;have h4:=hs.mok.hfew;refine(jEA _ (zpo (xae (xan (xk7 rfl) rfl T.kN PyProof.Rows.boot_all (pc (xbp ["hand","self"] [none,some 0] rfl (by kernel_rfl) (xaw (K:=K) rfl (px K (xcq (pv 0) rfl) pI)) (λ_ _ _ _=>(pgc 0)) (λ_ _ _ _=>xbr) (λ_ _ _ _=>(xb2 b T.k3.cl M (pv 1) (pc (px K (pv 0) pI) pN ss)))) pN xbw)))) ?_);refine(xaz _ rfl x _ _ fs (xbh _ rfl hx T.k3.cl (T.k3.no _ (by simp)) lf.mkv (xa8 ma _ _ _ rfl rfl (SqT.of O) rfl ha (jAA rfl ⟨_,SqT.of m⟩ ?_))));let G:Hand->Row:=λh=>(h.rows[(st.sd h.name).1]?).getD .fin
 have u:∀h∈C.hands,h.rows[(st.sd h.name).1]?=some (G h):=λh c=>by
  obtain⟨r,M⟩:=hs.row c;show _=some ((h.rows[(st.sd h.name).1]?).getD .fin);rw[M];rfl
 refine xbm (xs:=uh) (λi ys I=>Same H I/\ys=((C.hands.map λh=>(G h).shutF st.bt).take i).map V.bl) ⟨Same.refl _,by rw[List.take_zero];rfl⟩ (xa4 (by omega)) (λi ys I _ p=>SqT.of (p.1 _ _ m)) ?_ ?_
 ·rintro i y ys I hy hi g ⟨e,rfl⟩
  obtain⟨d,z,rd⟩:=o.get hy;rw[zGM]at z;obtain⟨hd,l,rfl⟩:=zMS z;have c:=zMG l;obtain⟨Z,bv,rv,rfl,j,_,_⟩:=hd_d rd;have J:=hs.same e;refine⟨ext1 rfl,xdd ?_⟩;refine(xbf _ rfl x _ fs rfl (e _ _ hx) (lf.no _ (by walk_at"k")) _ rfl (xa8 Z _ _ _ rfl rfl (SqT.of (e _ _ j)) rfl x (xal _ a st C N (xcf hd (G hd) rfl J c (u hd c) (λH2 s2=>nxtG hi g ⟨e.trans s2,?_⟩)))));rw[zTA,zGM,l,zAP];rfl
 ·rintro ys I g ⟨e,rfl⟩ D hD
  rw[zTL (by rw[zLM];omega)];have sD:=Same.new hD (.lst ((C.hands.map λh=>(G h).shutF st.bt).map V.bl));exact(xas D _ rfl (SqL.of ups) (q _ _ (e.trans sD) (xgb u rfl)))
def xl9(K:Fg):Sp:=λvs H Q _=>∃(x dx:Addr) (mv:V) (mk:Mak),vs=[.ref x,mv]/\H x=some (.ins (ad K "Plain") dx [])/\RelD H mv mk.d/\MakOk mk ∧
 ∀a H',SameBut x H H'->(∀b,a.F mk x b->b=x\/H b=none)->a.dx=dx->H' x=some (.ins (ad K "Plain") dx (hFs a))->HsIn H' mk a (hs0 mk)->Q .non H'
def xjd(K:Fg):Sp:=λvs H Q _=>∃(x dx:Addr) (mv:V) (mk:Mak),vs=[.ref x,mv]/\H x=some (.ins (ad K "Plain") dx [])/\RelD H mv mk.d/\MakOk mk ∧
 ∀a H',SameBut x H H'->(∀b,a.F mk x b->b=x\/H b=none)->HsHere K H' x mv a (hs0 mk) mk 0->Q .non H'
theorem xdv{x:Addr}{H a:Hp}{C f:Addr}{fs:List (Str×V)}(s:SameBut x H a)(c:H x=some (.ins C f fs)):∀b vs,H b=some (.tup vs)->a b=some (.tup vs):=λb vs e=>s b _ e λz=>by rw[z,c]at e;cases e
theorem xek{x b:Addr}{H a:Hp}{o:HO}(s:SameBut x H a)(f:a x=some o)(e:a b=none):H b=none:=by
 cases h:H b with
 |none=>rfl
 |some u=>
  by_cases c:b=x
  ·rw[c,f]at e;cases e
  ·rw[s b u h c]at e;cases e
theorem xg7(T:Tx K mg)(a6:DefIs P w K mg base n "begin_of" qag xme):MethIs P w K mg base (n+1) (ad K "House") "__init__" qah [[]] (xl9 K):=by
 refine MethIs.of T.k6 xgx (λvs H Q E h=>?_) (λf cp A outer s H vs Q E hr h=>?_)
 ·obtain⟨_,_,_,_,rfl,_⟩:=h
  rfl
 obtain⟨x,dx,mv,c,rfl,hx,md,a8,q⟩:=h;have cl:=T.k3.cl;have no:=T.k3.no;have h4:=a8.hfew;have h6:=a8.cfew;obtain⟨ma,kv,cv,hv,rfl,am,co,c8,c5⟩:=mk_d md;obtain⟨ha,uh,rfl,ab,bp⟩:=c5;obtain⟨ca,uc,rfl,bu,bw⟩:=c8;have bm:=bp.length;have bn:=bw.length;rw[zLM]at bm bn;have ck:(hn c).length=uh.length:=by rw[zLM,bm]
 have cm:(cn c).length=uc.length:=by rw[zLM,bn]
 have ai:(hn c).Nodup:=a8.hnd;have bx:(cn c).Nodup:=a8.cnd
 have b6:∀{i:Nat} {y:V},uh[i]?=some y->∃hd I bv rv,y=.ref I/\H I=some (.tup [.str hd.name,bv,rv])/\hd∈c.hands/\(hn c)[i]?=some hd.name:=λ{i y} hy=>by
  obtain⟨d,g,rd⟩:=bp.get hy;rw[zGM]at g;obtain⟨hd,bo,rfl⟩:=zMS g;obtain⟨I,bv,rv,rfl,r,_,_⟩:=hd_d rd;exact(jEEE hd I bv (xby rv rfl r (zMG bo) (by rw[zGM,bo];rfl)))
 have bz:∀{i:Nat} {y:V},uc[i]?=some y->∃ch ao ws,y=.ref ao/\H ao=some (.tup (.str ch::ws))/\(cn c)[i]?=some ch:=λ{i y} hy=>by
  obtain⟨d,g,rd⟩:=bw.get hy;rw[zGM]at g;obtain⟨ch,c7,rfl⟩:=zMS g;obtain⟨ao,_,rfl,bt,_,ws,rfl,rfl,_⟩:=rd;exact(xbo ch.1 ao ws rfl bt (by rw[zGM,c7];rfl))
 refine⟨_,(zpn (xh0 (pv 0) (xat (xcz rfl) rfl T.kP PyProof.Rows.boot_dict (pc (xbp ["hand","make"] [none,some 1] rfl (by kernel_rfl) (xaw (K:=K) rfl (px K (pv 1) pI)) (λ_ _ _ _=>(pgc 0)) (λ_ _ _ _=>xbr) (λ_ _ _ _=>(xau (pc (px K (pv 0) pI) (pc (pd a6 hr (va 1 (pc (px K (pv 0) pI) pN ss))) pN zsc) ss)))) pN xbw)) rfl)
   (zpn (xh0 (pv 0) (xat (xcz rfl) rfl T.kP PyProof.Rows.boot_dict (pc (xbp ["channel"] [none] rfl (by kernel_rfl) (xaw (K:=K) rfl (px K (pv 1) pI)) (λ_ _ _ _=>(pgc 0)) (λ_ _ _ _=>xbr) (λ_ _ _ _=>(xau (pc (px K (pv 0) pI) (pc (xcb pN) pN xke) ss)))) pN xbw)) rfl)
   (zpn (xh0 (pv 0) (xat (xcz rfl) rfl T.kP PyProof.Rows.boot_dict (pc (xbp ["hand"] [none] rfl (by kernel_rfl) (xaw (K:=K) rfl (px K (pv 1) pI)) (λ_ _ _ _=>(pgc 0)) (λ_ _ _ _=>xbr) (λ_ _ _ _=>(xau (pc (px K (pv 0) pI) (pc (xcb pN) pN xke) ss)))) pN xbw)) rfl)
   (zpo (xh0 (pv 0) (xat (xcz rfl) rfl T.kP PyProof.Rows.boot_dict (pc (xbp ["hand"] [none] rfl (by kernel_rfl) (xaw (K:=K) rfl (px K (pv 1) pI)) (λ_ _ _ _=>(pgc 0)) (λ_ _ _ _=>xbr) (λ_ _ _ _=>(xau (pc (px K (pv 0) pI) (pc pI pN so) ss)))) pN xbw)) rfl))))),xab λR1 cc=>?_⟩
 refine(xaa _ rfl ma _ _ _ rfl rfl (SqT.of am) rfl (jEAA ha rfl ⟨_,SqT.of ab⟩ ?_));refine xbm (xs:=uh) (λi ys m=>Same H m/\∃sa pa,NewSt H m (hn c) i ys (hs0 c) sa pa) (jAE (Same.refl _) (λ_=>0) ⟨λ_=>0,by rw[List.take_zero];trivial,λz hz=>by rw[List.take_zero]at hz;cases hz⟩) (xa4 (by omega)) (λi ys m _ p=>SqT.of (p.1 _ _ ab)) ?_ ?_
 ·rintro i y ys m hy hi O ⟨u,sa,pa,ns⟩
  obtain⟨hd,I,bv,rv,rfl,r,an,a9⟩:=b6 hy;refine⟨ext1 rfl,xdd ?_⟩;refine(xaa _ rfl I _ _ _ rfl rfl (SqT.of (u _ _ r)) rfl (xai _ rfl _ rfl I _ _ (xbl _ rfl rfl (SqT.of (u _ _ r)) rfl (xag _ hd.name c hd rfl (md.same u _) a8 (xfp a8 an) (λc2 p' H1 s1 c4 c1=>⟨(by walk_at"s"),λt ht=>nxtG hi O ?_⟩)))));have e0:=xkz a8 an;exact(jAE (u.trans (s1.trans (Same.new ht _))) (upF sa hd.name c2) ⟨upF pa hd.name p',ns.snoc u s1 ai a9 c4 (by rw[e0];exact c1) ht⟩)
 rintro ys m O ⟨u,sa,pa,ns⟩ D hD;have M:=Same.new hD (.lst ys);obtain⟨az,au⟩:=ns;rw[zTL (show(hn c).length<=uh.length by omega)]at az au;refine(xb0 D ys _ rfl ups (az.same (Same.tups M)) (λsd hc=>?_));rw[xec (xhb ai)];have sC:=Same.new hc (.dK (mapK (hn c) λz=>.ref (sa z)));have J:=u.trans (M.trans sC)
 have af:∀z∈hn c,StAt (upd (upd m D (.lst ys)) sd (.dK (mapK (hn c) λz=>.ref (sa z)))) (sa z) (pa z) ((hs0 c).sd z).1 ((hs0 c).sd z).2/\pa z≠sd:=λz hz=>⟨(au z hz).1.same (M.trans sC),λe=>by
  obtain⟨_,kvs,h2,_⟩:=((au z hz).1.same M);rw[e,hc]at h2;cases h2⟩
 have ce:H sd=none:=xay (u.trans M) hc;have ah:upd (upd m D (.lst ys)) sd (.dK (mapK (hn c) λz=>.ref (sa z))) sd=some (.dK (mapK (hn c) λz=>.ref (sa z))):=ups;refine(xaa _ rfl x _ _ _ rfl (J _ _ hx) cl (no _ (by simp)) ⟨by decide,cc _ _ (xab λR2 cb=>?_)⟩);generalize upd (upd m D (.lst ys)) sd (.dK (mapK (hn c) λz=>.ref (sa z)))=HA at J af ah⊢;clear sC M hc;obtain⟨ae,b9⟩:∃f,f=putF (Str.ofString "stands") (.ref sd) []:=⟨_,rfl⟩;have cj:ae.length<=1:=by rw[b9];exact xbb _ _ _
 rw[<- b9];have Y:=SameBut.upd x HA (.ins (ad K "Plain") dx ae);have a0:upd HA x (.ins (ad K "Plain") dx ae) x=some (.ins (ad K "Plain") dx ae):=ups;generalize upd HA x (.ins (ad K "Plain") dx ae)=H1 at Y a0⊢;have b1:SameBut x H H1:=J.but.trans Y;have nI:∀b o,HA b=some o->(∀C d f,o≠.ins C d f)->H1 b=some o:=λb o e n=>Y b o e λz=>by rw[z,J _ _ hx]at e;exact n _ _ _ (Option.some.inj e).symm
 have aa:H1 sd=some (.dK (mapK (hn c) λz=>.ref (sa z))):=nI _ _ ah λ_ _ _ e=>by cases e
 have aw:∀z∈hn c,StAt H1 (sa z) (pa z) ((hs0 c).sd z).1 ((hs0 c).sd z).2:=λz hz=>(af z hz).1.keep (λb vs e=>nI _ _ e λ_ _ _ e=>by cases e) λo e=>by
  obtain⟨_,kvs,h2,_⟩:=(af z hz).1;rw[h2]at e;cases e;exact nI _ _ h2 λ_ _ _ e=>by cases e
 have c3:∀z∈hn c,pa z≠sd:=λz hz=>(af z hz).2;clear nI Y af ah J u az;have al:=xdv b1 hx;refine(xaa _ rfl ma _ _ _ rfl rfl (SqT.of (al _ _ am)) rfl (jEAA ca rfl ⟨_,SqT.of (al _ _ bu)⟩ ?_));refine xbm (xs:=uc) (λi ys m=>Same H1 m/\∃Z,EmpAt H1 m (cn c) i ys Z) (jAE (Same.refl _) (λ_=>0) ⟨by rw[List.take_zero];trivial,(λz hz=>by rw[List.take_zero]at hz;cases hz),λz hz=>by rw[List.take_zero]at hz;cases hz⟩) (xa4 (by omega)) (λi ys m _ p=>SqT.of (p.1 _ _ (al _ _ bu))) ?_ ?_
 ·rintro i y ys m hy hi O ⟨u,Z,em⟩
  obtain⟨ch,I,ws,rfl,r,a9⟩:=bz hy;have a5:=u _ _ (al _ _ r);refine⟨ext1 rfl,xdd ?_⟩;refine(xaa _ rfl I _ _ _ rfl rfl (SqT.of a5) (xax (j:=0) rfl) ⟨(by walk_at"s"),λl hl=>⟨(by walk_at"s"),λt ht=>nxtG hi O ?_⟩⟩);exact(jAE (u.trans ((Same.new hl _).trans (Same.new ht _))) (upF Z ch l) (em.snoc u bx a9 hl ht))
 rintro ys m O ⟨u,Z,em⟩ D hD;have M:=Same.new hD (.lst ys);obtain⟨a7,a3,ay⟩:=em;rw[zTL (show(cn c).length<=uc.length by omega)]at a7 a3 ay;refine(xb0 D ys _ rfl ups (a7.same (Same.tups M)) (λbd hc=>?_));rw[xec (xhb bx)];have sC:=Same.new hc (.dK (mapK (cn c) λz=>.ref (Z z)));have J:=u.trans (M.trans sC);have G:∀z∈cn c,upd (upd m D (.lst ys)) bd (.dK (mapK (cn c) λz=>.ref (Z z))) (Z z)=some (.lst []):=λz hz=>(M.trans sC) _ _ (a3 z hz).1;have bb:H1 bd=none:=xay (u.trans M) hc;have g:upd (upd m D (.lst ys)) bd (.dK (mapK (cn c) λz=>.ref (Z z))) bd=some (.dK (mapK (cn c) λz=>.ref (Z z))):=ups;refine(xaa _ rfl x _ _ _ rfl (J _ _ a0) cl (no _ (by simp)) ⟨by omega,cb _ _ (xab λR3 c9=>?_)⟩);generalize upd (upd m D (.lst ys)) bd (.dK (mapK (cn c) λz=>.ref (Z z)))=HA at J G g⊢;clear sC M hc;obtain⟨ac,b8⟩:∃f,f=putF (Str.ofString "between") (.ref bd) ae:=⟨_,rfl⟩;have ci:ac.length<=2:=by rw[b8];exact Nat.le_trans (xbb _ _ _) (by omega)
 rw[<- b8];have Y:=SameBut.upd x HA (.ins (ad K "Plain") dx ac);have a4:upd HA x (.ins (ad K "Plain") dx ac) x=some (.ins (ad K "Plain") dx ac):=ups;generalize upd HA x (.ins (ad K "Plain") dx ac)=H2 at Y a4⊢;have bc:SameBut x H1 H2:=J.but.trans Y;have b2:SameBut x H H2:=b1.trans bc;have br:H2 bd=some (.dK (mapK (cn c) λz=>.ref (Z z))):=Y _ _ g λz=>by rw[z,J _ _ a0]at g;cases g
 have bf:∀z∈cn c,H2 (Z z)=some (.lst [])/\H1 (Z z)=none:=λz hz=>⟨Y _ _ (G z hz) λe=>(by have:=G z hz;rw[e,J _ _ a0]at this;cases this),(a3 z hz).2⟩;clear Y g G a3 a7 J u;have ak:=xdv b2 hx;refine(xaa _ rfl ma _ _ _ rfl rfl (SqT.of (ak _ _ am)) rfl (jEAA ha rfl ⟨_,SqT.of (ak _ _ ab)⟩ ?_));refine xbm (xs:=uh) (λi ys m=>Same H2 m/\∃Z,EmpAt H2 m (hn c) i ys Z) (jAE (Same.refl _) (λ_=>0) ⟨by rw[List.take_zero];trivial,(λz hz=>by rw[List.take_zero]at hz;cases hz),λz hz=>by rw[List.take_zero]at hz;cases hz⟩) (xa4 (by omega)) (λi ys m _ p=>SqT.of (p.1 _ _ (ak _ _ ab))) ?_ ?_
 ·rintro i y ys m hy hi O ⟨u,Z,em⟩
  obtain⟨hd,I,bv,rv,rfl,r,an,a9⟩:=b6 hy;have a5:=u _ _ (ak _ _ r);refine⟨ext1 rfl,xdd ?_⟩;refine(xaa _ rfl I _ _ _ rfl rfl (SqT.of a5) rfl ⟨(by walk_at"s"),λl hl=>⟨(by walk_at"s"),λt ht=>nxtG hi O ?_⟩⟩);exact(jAE (u.trans ((Same.new hl _).trans (Same.new ht _))) (upF Z hd.name l) (em.snoc u ai a9 hl ht))
 rintro ys m O ⟨u,ta,em⟩ D hD;have M:=Same.new hD (.lst ys);obtain⟨a7,a3,ax⟩:=em;rw[zTL (show(hn c).length<=uh.length by omega)]at a7 a3 ax;refine(xb0 D ys _ rfl ups (a7.same (Same.tups M)) (λtd hc=>?_));rw[xec (xhb ai)];have sC:=Same.new hc (.dK (mapK (hn c) λz=>.ref (ta z)));have J:=u.trans (M.trans sC);have G:∀z∈hn c,upd (upd m D (.lst ys)) td (.dK (mapK (hn c) λz=>.ref (ta z))) (ta z)=some (.lst []):=λz hz=>(M.trans sC) _ _ (a3 z hz).1;have ba:H2 td=none:=xay (u.trans M) hc;have g:upd (upd m D (.lst ys)) td (.dK (mapK (hn c) λz=>.ref (ta z))) td=some (.dK (mapK (hn c) λz=>.ref (ta z))):=ups;refine(xaa _ rfl x _ _ _ rfl (J _ _ a4) cl (no _ (by simp)) ⟨by omega,c9 _ _ ?_⟩);generalize upd (upd m D (.lst ys)) td (.dK (mapK (hn c) λz=>.ref (ta z)))=HA at J G g⊢;clear sC M hc;obtain⟨a1,b7⟩:∃f,f=putF (Str.ofString "tellings") (.ref td) ac:=⟨_,rfl⟩;have cg:a1.length<=3:=by rw[b7];exact Nat.le_trans (xbb _ _ _) (by omega)
 rw[<- b7];have Y:=SameBut.upd x HA (.ins (ad K "Plain") dx a1);have ag:upd HA x (.ins (ad K "Plain") dx a1) x=some (.ins (ad K "Plain") dx a1):=ups;generalize upd HA x (.ins (ad K "Plain") dx a1)=H3 at Y ag⊢;have ar:SameBut x H2 H3:=J.but.trans Y;have b3:SameBut x H H3:=b2.trans ar;have bq:H3 td=some (.dK (mapK (hn c) λz=>.ref (ta z))):=Y _ _ g λz=>by rw[z,J _ _ a4]at g;cases g
 have be:∀z∈hn c,H3 (ta z)=some (.lst [])/\H2 (ta z)=none:=λz hz=>⟨Y _ _ (G z hz) λe=>(by have:=G z hz;rw[e,J _ _ a4]at this;cases this),(a3 z hz).2⟩;clear Y g G a3 a7 J u;have aj:=xdv b3 hx;refine(xaa _ rfl ma _ _ _ rfl rfl (SqT.of (aj _ _ am)) rfl (jEAA ha rfl ⟨_,SqT.of (aj _ _ ab)⟩ ?_));refine xbm (xs:=uh) (λi ys m=>Same H3 m/\PairsV m ys (mapK ((hn c).take i) λ_=>.int 0)) ⟨Same.refl _,by rw[List.take_zero];trivial⟩ (xa4 (by omega)) (λi ys m _ p=>SqT.of (p.1 _ _ (aj _ _ ab))) ?_ ?_
 ·rintro i y ys m hy hi O ⟨u,pr⟩
  obtain⟨hd,I,bv,rv,rfl,r,an,a9⟩:=b6 hy;have a5:=u _ _ (aj _ _ r);refine⟨ext1 rfl,xdd ?_⟩;refine(xaa _ rfl I _ _ _ rfl rfl (SqT.of a5) rfl ⟨(by walk_at"s"),λt ht=>nxtG hi O ?_⟩);have s2:=Same.new ht (.tup [.str hd.name,.int 0]);refine⟨u.trans s2,?_⟩;rw[xdh a9];unfold mapK;rw[zAP];exact(pr.same (Same.tups s2)).append ⟨(jEA t rfl ups),trivial⟩
 rintro ys m O ⟨u,pr⟩ D hD;have M:=Same.new hD (.lst ys);rw[zTL (show(hn c).length<=uh.length by omega)]at pr;refine(xb0 D ys _ rfl ups (pr.same (Same.tups M)) (λcd hc=>?_));rw[xec (xhb ai)];have sC:=Same.new hc (.dK (mapK (hn c) λ_=>.int 0));have J:=u.trans (M.trans sC);have a2:H3 cd=none:=xay (u.trans M) hc;have g:upd (upd m D (.lst ys)) cd (.dK (mapK (hn c) λ_=>.int 0)) cd=some (.dK (mapK (hn c) λ_=>.int 0)):=ups;refine(xaa _ rfl x _ _ _ rfl (J _ _ ag) cl (no _ (by simp)) ⟨by omega,?_⟩);generalize upd (upd m D (.lst ys)) cd (.dK (mapK (hn c) λ_=>.int 0))=HA at J g⊢;clear sC M hc;have Y:=SameBut.upd x HA (.ins (ad K "Plain") dx (putF (Str.ofString "counts") (.ref cd) a1));have bl:upd HA x (.ins (ad K "Plain") dx (putF (Str.ofString "counts") (.ref cd) a1)) x=some (.ins (ad K "Plain") dx (putF (Str.ofString "counts") (.ref cd) a1)):=ups;generalize upd HA x (.ins (ad K "Plain") dx (putF (Str.ofString "counts") (.ref cd) a1))=H4 at Y bl⊢;have aq:SameBut x H3 H4:=J.but.trans Y;have b4:SameBut x H H4:=b3.trans aq;have c0:SameBut x H1 H4:=bc.trans (ar.trans aq);have cf:SameBut x H2 H4:=ar.trans aq;have c6:H4 cd=some (.dK (mapK (hn c) λ_=>.int 0)):=Y _ _ g λz=>by rw[z,J _ _ ag]at g;cases g
 have bi:∀{b o},H1 b=some o->(∀C d f,o≠.ins C d f)->H4 b=some o:=λ{b o} e n=>c0 b o e λz=>by rw[z,a0]at e;exact n _ _ _ (Option.some.inj e).symm
 have bh:∀{b o},H2 b=some o->(∀C d f,o≠.ins C d f)->H4 b=some o:=λ{b o} e n=>cf b o e λz=>by rw[z,a4]at e;exact n _ _ _ (Option.some.inj e).symm
 have bg:∀{b o},H3 b=some o->(∀C d f,o≠.ins C d f)->H4 b=some o:=λ{b o} e n=>aq b o e λz=>by rw[z,ag]at e;exact n _ _ _ (Option.some.inj e).symm
 have b5:∀{b o},H1 b=some o->(∀C d f,o≠.ins C d f)->H2 b=some o:=λ{b o} e n=>bc b o e λz=>by rw[z,a0]at e;exact n _ _ _ (Option.some.inj e).symm
 have b0:∀{b o},H2 b=some o->(∀C d f,o≠.ins C d f)->H3 b=some o:=λ{b o} e n=>ar b o e λz=>by rw[z,a4]at e;exact n _ _ _ (Option.some.inj e).symm
 have U:∀{kv:List (Key×V)},∀C d f,HO.dK kv≠.ins C d f:=λC d f e=>by cases e
 have bj:∀C d f,HO.lst []≠.ins C d f:=λC d f e=>by cases e
 have av:∀z∈hn c,∃kvs,H1 (pa z)=some (.dK kvs):=λz hz=>by
  obtain⟨_,kvs,h2,_⟩:=aw z hz;exact⟨kvs,h2⟩
 refine q ⟨dx,sd,bd,td,cd,sa,pa,Z,ta⟩ H4 b4 (λb hb=>?_) rfl (by rw[bl,b7,b8,b9];rfl) ⟨bi aa U,bh br U,bg bq U,c6,λz hz=>?_,λz hz=>(jEA ([]) (bh (bf z hz).1 bj) rfl),λz hz=>(jEA ([]) (bg (be z hz).1 bj) rfl),ay,ax,λz hz y hy e=>?_,?_,λz hz=>⟨?_,?_⟩⟩
 ·rcases hb with h |h |h |h |h |⟨z,hz,h⟩ |⟨z,hz,h |h⟩
  ·exact .inl h
  ·exact .inr (by rw[h];exact ce)
  ·exact .inr (by rw[h];exact xek b1 a0 bb)
  ·exact .inr (by rw[h];exact xek b2 a4 ba)
  ·exact .inr (by rw[h];exact xek b3 ag a2)
  ·exact .inr (by rw[h];exact xek b1 a0 (bf z hz).2)
  ·exact .inr (by rw[h];exact xek b2 a4 (be z hz).2)
  ·exact .inr (by rw[h];exact(au z hz).2)
 ·refine(aw z hz).keep (xdv c0 a0) λo e=>?_
  obtain⟨kvs,h2⟩:=av z hz;rw[h2]at e;cases e;exact bi h2 U
 ·have e':Z z=ta y:=e
  have h1:=(be y hy).2;rw[<- e',(bf z hz).1]at h1;cases h1
 ·refine(jAAA (λe=>?_) (λe=>?_) (λe=>?_) ⟨λe=>?_,λe=>?_⟩)
  ·have e':sd=bd:=e
   rw[<- e',aa]at bb;cases bb
  ·have e':sd=td:=e
   rw[<- e',b5 aa U]at ba;cases ba
  ·have e':sd=cd:=e
   rw[<- e',b0 (b5 aa U) U]at a2;cases a2
  ·have e':cd=bd:=e
   rw[e',b0 br U]at a2;cases a2
  ·have e':cd=td:=e
   rw[e',bq]at a2;cases a2
 ·exact c3 z hz
 ·intro e
  have e':pa z=cd:=e;obtain⟨kvs,h2⟩:=av z hz;rw[<- e',b0 (b5 h2 U) U]at a2;cases a2
theorem xg6(T:Tx K r)(c:MethIs P w K r base n (ad K "House") "__init__" qah [[]] (xl9 K)):MethIs P w K r base (n+1) (ad K "Plain") "__init__" qah [[]] (xjd K):=by
 refine MethIs.of T.uB xgw (λvs H Q E h=>?_) (λf Y A outer s H vs Q E M h=>?_)
 ·obtain⟨_,_,_,_,rfl,_⟩:=h
  rfl
 obtain⟨x,G,p,J,rfl,y,u,g,q⟩:=h
 refine⟨_,(zpn (xbx (xon c T.k5 M T.k4 (va 0 (v1 1))))
   (zpo (xh0 (pv 0) (pv 1) rfl))),?_⟩
 refine(xai _ rfl _ rfl x G p (xbl J rfl y u g (λa H1 Z fr U i j=>?_)));refine(xai _ rfl _ rfl x _ _ (xbh _ rfl i T.k3.cl (T.k3.no _ (by simp)) ?_ ?_))
 ·exact Nat.lt_of_le_of_lt (show(hFs a).length<=4 from Nat.le_trans (xbb _ _ _) (Nat.succ_le_succ (Nat.le_trans (xbb _ _ _) (Nat.succ_le_succ (Nat.le_trans (xbb _ _ _) (Nat.succ_le_succ (Nat.le_trans (xbb _ _ _) (Nat.le_refl _)))))))) (by decide)
 ·have m:=SameBut.upd x H1 (.ins (ad K "Plain") G (putF (Str.ofString "make") p (hFs a)))
  have l:=xdv m i;have I:=Z.trans m;refine q a _ I fr ⟨⟨(jEA _ (by rw[U];exact ups) Hf.init),?_⟩,u.tups (xdv I y) _,g,hok0 g⟩;refine j.keep (x:=a.sd) l λb O o e=>m b o e λz=>?_;obtain⟨o',C,n⟩:=j.there b O;rw[z,i]at C;exact n _ _ _ (Option.some.inj C).symm
structure GIn(H:Hp)(f nb:Addr)(kv:V)(ks:List Kn)(nms:List Str):Prop where
 fd:∃p q:Int,H f=some (.lst [.int p,.int q])
 nl:H nb=some (.lst (nms.map V.str))
 ok:xi6 nms
 ne:nb≠f
 nby:∀z∈nms,NoBy z
 kd:RelD H kv (xdn ks)
 wf:KWf ks
 pb:PNB ks
theorem GIn.same{H e:Hp}{f b:Addr}{c:V}{ks:List Kn}{a:List Str}(g:GIn H f b c ks a)(s:Same H e):GIn e f b c ks a:=by
 obtain⟨p,q,h⟩:=g.fd;exact⟨(jEE p q (s _ _ h)),s _ _ g.nl,g.ok,g.ne,g.nby,g.kd.same s _,g.wf,g.pb⟩
theorem GIn.fed{H e:Hp}{f b:Addr}{c:V}{ks:List Kn}{a:List Str}(g:GIn H f b c ks a)(s:Fed f H e):GIn e f b c ks a:=⟨s.2,s.1 _ _ g.nl g.ne,g.ok,g.ne,g.nby,g.kd.tups (xaj g.fd s) _,g.wf,g.pb⟩
theorem GIn.refl{H:Hp}{f b:Addr}{c:V}{ks:List Kn}{a:List Str}(g:GIn H f b c ks a):Fed f H H:=by
 obtain⟨p,q,h⟩:=g.fd;exact Fed.refl h
theorem GIn.name{H:Hp}{f b:Addr}{c:V}{ks:List Kn}{a:List Str}(g:GIn H f b c ks a){i:Nat}(h:i<26):∃z,a[i]?=some z/\atI (a.map V.str) (i:Int)=some (.str z):=by
 have e:=g.ok.1;exact(jEA (a[i]'(by omega)) (zGA _) (xax (by rw[zGM,zGA (by omega)];rfl)))
structure ChsOk(ks:List Kn)(nms:List Str)(hn:Nat)(cs:List Chn):Prop where
 len:cs.length<=6
 nm:cs.map (·.1)=(nms.drop 12).take cs.length
 kin:∀c∈cs,KIn ks ks.length c.2.2.2
 ends:∀c∈cs,c.2.1∈nms.take hn/\c.2.2.1∈nms.take hn
def xpq:Sp:=λvs H Q _=>∃(f nb:Addr) (kv:V) (ks:List Kn) (nms:List Str) (hn:Nat),vs=[.ref f,kv,.ref nb,.int hn]/\GIn H f nb kv ks nms/\1<=hn/\hn<=4/\∀cv cs H',Fed f H H'->RelD H' cv (.tup (cs.map dChn))->ChsOk ks nms hn cs->Q cv H'
theorem xjw{a:List Str}{i hn:Nat}{z:Str}(h:a[i]?=some z)(hi:i<hn):z∈a.take hn:=zMG (i:=i) (by rw[List.getElem?_take,if_pos hi];exact h)
theorem xh7(T:Tx K mg)(a:DefIs P w K mg base n "_law_take" qac xcl)(j:DefIs P w K mg base n "_law_any_kind" qam xog):DefIs P w K mg base (n+1) "_law_channels" qbb xpq:=by
 refine DefIs.of T.j8 scl_channels (by walk_at"l") (λf bz A outer s H vs Q E hr h=>?_);obtain⟨p,nb,kv,ks,y,hn,rfl,g,h1,h4,q⟩:=h;have nd:=scl_channels.nd
 refine⟨_,(zpn (psn 4 nd (xcb pN))
   (zpn (psn 5 nd (pd a hr (va 0 (v1 3))))
   (zpn (xca PassesOwn.never rfl (xb1 rfl T.kX (pc (xan (xn6 rfl) rfl T.kU PyProof.Rows.boot_max (pc (pd a hr (va 0 (pc pI pN so))) (pc (xak xc5 (pv 3) (xat xfu rfl T.kQ PyProof.Rows.boot_int (pc (xcu xc2 (pd a hr (va 0 (pc pI pN so))) pI (nM _)) pN xkf))) pN xa1) zsc)) pN zsc)) (pgn 6 nd)
   (zpn (psn 7 nd (xau (pc (pxl K (pv 2) (pd a hr (va 0 (v1 3)))) (pc (pxl K (pv 2) (pd a hr (va 0 (v1 3)))) pN ss) ss)))
   (zpn (xa6 (PW.pt (xci (pR xfi (pv 6) (pv 3) (nM _)) (xb3 (pR xc2 (pd a hr (va 0 (pc pI pN so))) pI (nM _))))) (zpo (psn 7 nd (xau (pc (px K (pv 7) pI) (pc (pxl K (pv 2) (xak xcc (xak xba (pv 5) (pv 6)) (pv 3))) pN ss) ss)))) pQ)
   (zpo (xbx (xc7 PySem.F.plainAttrs_list PySem.F.slot_list_append PySem.F.type_list_append xbt (pv 4) (pc (xau (pc (pxl K (pv 2) (xak xba pI (pv 6))) (pc (px K (pv 7) pI) (pc (px K (pv 7) pI) (pc (pd j hr (va 0 (v1 1))) pN zsc) ss) ss) ss)) pN sT)))))))
   (zpo (xae (xat (xbq (K:=K) rfl) rfl T.kZ PyProof.Rows.boot_tuple (v1 4))))))),xab λR1 bd=>?_⟩
 refine⟨(by walk_at"s"),λl hl=>bd _ _ (xab λR2 bc=>?_)⟩;have s0:=Same.new hl (.lst []);have g0:=g.same s0;obtain⟨p0,q0,b8⟩:=g.fd;have I:l≠p:=Ne.symm (neN b8 hl);obtain⟨p1,q1,b7⟩:=g0.fd;refine(xai _ rfl _ rfl p p1 q1 (xbl hn rfl b7 (by omega) (by omega) (λtn H1 t0 t1 f1=>bc _ _ (xab λR3 bb=>?_))));have F1:Fed p H H1:=(g.refl.same s0).trans f1;have aw:=f1.1 _ _ ups I;obtain⟨p2,q2,b6⟩:=F1.2;refine(xaa _ rfl p p2 q2 6 rfl b6 (by decide) (by decide) (λr1 H2 bu bt f2=>?_));have F2:=F1.trans f2;have av:=f2.1 _ _ aw I;obtain⟨p3,q3,b5⟩:=F2.2;refine(xai _ rfl _ rfl p p3 q3 (xbl 5 rfl b5 (by decide) (by decide) (λr2 H3 br bq f3=>?_)));have F3:=F2.trans f3;have au:=f3.1 _ _ av I;refine(xas _ _ rfl rfl (.inr (xa0 _ rfl _ _ rfl rfl (jAE (.inl ⟨by omega,by omega⟩) _ (jEA _ rfl ?_)))))
 obtain⟨N,hN,bx⟩:∃N:Nat,(if (hn:Int)*(if decide (r2 > 0)=true then 1 else 0) > r1 then (hn:Int)*(if decide (r2 > 0)=true then 1 else 0) else r1)=(N:Int)/\N<=5:=by
  have hb:(hn:Int)*(if decide (r2 > 0)=true then (1:Int) else 0)=0\/(hn:Int)*(if decide (r2 > 0)=true then (1:Int) else 0)=hn:=by
   by_cases m:decide (r2 > 0)=true
   ·rw[if_pos m];exact .inr (Int.mul_one _)
   ·rw[if_neg m];exact .inl (Int.mul_zero _)
  generalize (hn:Int)*(if decide (r2 > 0)=true then (1:Int) else 0)=b at hb;refine(jEA ((if b > r1 then b else r1).toNat) ?_ ?_) <;> split <;> omega
 rw[hN];refine(xby _ rfl (by omega) (by omega) ?_)
 refine xcr (λi σ H'=>∃us,∃cs:List Chn,∃o6 o7,σ=[some (.ref p),some kv,some (.ref nb),some (.int hn),some (.ref l),some (.int tn),o6,o7]/\Fed p H H'/\H' l=some (.lst us)/\RelDs H' us (cs.map dChn)/\cs.length=i/\ChsOk ks y hn cs)
  (xav ([]) ([]) none none rfl F3 au rfl rfl ⟨by decide,rfl,(λ_ h=>nomatch h),λ_ h=>nomatch h⟩) ?_ ?_
 ·rintro i σ H4 hi ⟨us,cs,o6,o7,rfl,F4,a4,C,a5,x⟩
  have bw:i<5:=by omega
  have e0:(0+(i:Int))=(i:Int):=by omega
  have g4:=g.fed F4;obtain⟨p4,q4,b4⟩:=F4.2;have an:=C.length;rw[zLM]at an;refine xab λS1 ba=>?_;refine(xbu _ rfl _ rfl _ rfl p p4 (xcf q4 hn rfl b4 (by omega) (by omega) (λra H5 bp bo f5=>?_)));obtain⟨ia,rfl⟩:∃i:Nat,ra=(i:Int):=⟨ra.toNat,by omega⟩;have g5:=g4.fed f5;obtain⟨za,ak,bi⟩:=g5.name (i:=ia) (by omega);refine(xag nb _ _ _ rfl rfl (SqL.of g5.nl) bi ?_);obtain⟨p5,q5,b3⟩:=f5.2;refine(xbu _ rfl _ rfl _ rfl p p5 (xcf q5 hn rfl b3 (by omega) (by omega) (λrb H6 bn bm f6=>?_)));obtain⟨ib,rfl⟩:∃i:Nat,rb=(i:Int):=⟨rb.toNat,by omega⟩;have g6:=g5.fed f6;obtain⟨zb,aj,bh⟩:=g6.name (i:=ib) (by omega);refine(xav nb _ _ _ rfl rfl (SqL.of g6.nl) bh (by walk_at"s") (λte ao=>ba _ _ (xab λS2 b9=>?_)));have s7:=Same.new ao (.tup [.str za,.str zb]);have F6:=F4.trans (f5.trans f6);have ae:=xaj g4.fd (f5.trans f6)
  have a1:∀(Z:Addr) (Y U:Str) (O:Hp),Fed p H O->O l=some (.lst us)->RelDs O us (cs.map dChn)->O Z=some (.tup [.str Y,.str U])->Y∈y.take hn->U∈y.take hn->S2 [some (.ref p),some kv,some (.ref nb),some (.int hn),some (.ref l),some (.int tn),some (.int (0+(i:Int))),some (.ref Z)] O:=λZ Y U O F8 aa a8 G am al=>by
   refine b9 _ _ ?_;have g8:=g.fed F8;obtain⟨zc,ai,bg⟩:=g8.name (i:=12+i) (by omega)
   have ac:atI (y.map V.str) (12+(0+(i:Int)))=some (.str zc):=by
    rw[e0];exact bg
   refine(jEAA _ rfl (.inl (jAE rfl _ (SqL.of aa))) ?_);refine(xbe _ rfl _ rfl _ _ rfl rfl nb (xap _ _ _ rfl rfl (SqL.of g8.nl) ac ?_));refine(xaa _ rfl Z _ _ _ rfl rfl (SqT.of G) rfl (xaa _ rfl Z _ _ _ rfl rfl (SqT.of G) rfl ?_));obtain⟨p8,q8,b2⟩:=F8.2;obtain⟨ka,ag,be,az,ay⟩:=id g8.kd;subst be;have ab:=g.wf.few;refine(xai _ rfl _ rfl p ka p8 (xap q8 ag ks rfl b2 (.inr az) ay ⟨ab,λkx H9 ax f9=>⟨(by walk_at"s"),λt ht=>?_⟩⟩));have st:=Same.new ht (.tup [.str zc,.str Y,.str U,.str kx]);have a2:=f9.1 _ _ aa I;have af:=xaj g8.fd f9;refine(xap l us _ rfl rfl (st _ _ a2) (xa4 (by omega)) ?_);have bv:l≠t:=neN a2 ht;have aq:H l=none:=hl;refine(xav (us++[.ref t]) (cs++[(zc,Y,U,kx)]) _ _ rfl ?_ ups ?_ (by rw[zLA,List.length_singleton,a5]) ?_)
   ·refine⟨λb o e hb=>?_,?_⟩
    ·rw[xao (neN e aq)]
     exact st _ _ ((F8.trans f9).1 b o e hb)
    ·obtain⟨p9,q9,b1⟩:=f9.2
     exact(jEE p9 q9 (by rw[xao (Ne.symm I)];exact st _ _ b1))
   ·have a6:∀b vs,upd H9 t (.tup [.str zc,.str Y,.str U,.str kx]) b=some (.tup vs)->upd (upd H9 t (.tup [.str zc,.str Y,.str U,.str kx])) l (.lst (us++[.ref t])) b=some (.tup vs):=λb vs e=>by
     rw[xao λz=>by rw[z,st _ _ a2]at e;cases e];exact e
    rw[zAP];refine(((a8.tups af _).same st _).tups a6 _).append (xas (.ref t) ([]) rfl (xam t _ rfl (a6 _ _ ups) _ _ rfl rfl _ (xbn _ rfl rfl _ _ rfl rfl (xas _ _ rfl rfl rfl))) rfl)
   ·refine⟨by rw[zLA,List.length_singleton];omega,?_,λc m=>?_,λc m=>?_⟩
    ·rw[zAP,zLA,List.length_singleton,x.nm,zTA,List.getElem?_drop,a5,ai]
     rfl
    ·rcases zMA m with m |m
     ·exact x.kin c m
     ·rw[zMO m];exact ax
    ·rcases zMA m with m |m
     ·exact x.ends c m
     ·rw[zMO m];exact⟨am,al⟩
  have F7:=F6.same s7;have ar:=(f5.trans f6).1 _ _ a4 I;have a3:=s7 _ _ ar;have r:=(C.tups ae _).same s7 _;have a0:=xjw ak (by omega:ia<hn);have a7:=xjw aj (by omega:ib<hn);refine(xbe _ rfl _ rfl _ _ rfl rfl _ ⟨rfl,ite2 (λc1=>?_) (λc1=>?_)⟩)
  ·obtain⟨p7,q7,u⟩:=F7.2
   refine(xaa _ rfl p p7 q7 6 rfl u (by decide) (by decide) (λrc O bl bj M=>(xas _ _ rfl rfl (jEA _ rfl (ite2 (λc2=>?_) (λc2=>?_))))))
   ·have a9:=xaj (jEE p7 q7 u) M _ _ ups
    have F8:=F7.trans M;have g8:=g.fed F8;have J:(0:Int)<(hn:Int):=by omega
    have m0:=Int.emod_nonneg (tn+(0+(i:Int))) (by omega:(hn:Int)≠0);have m1:=Int.emod_lt_of_pos (tn+(0+(i:Int))) J;obtain⟨im,b0⟩:∃im:Nat,(tn+(0+(i:Int)))%(hn:Int)=(im:Int):=⟨((tn+(0+(i:Int)))%(hn:Int)).toNat,by omega⟩;obtain⟨zm,ah,bf⟩:=g8.name (i:=im) (by omega);refine(xaa _ rfl te _ _ _ rfl rfl (SqT.of a9) rfl (xaq _ rfl _ rfl _ rfl _ _ rfl rfl (xa0 _ rfl _ _ rfl rfl (jAE J nb (xap _ _ _ rfl rfl (SqL.of g8.nl) (by rw[b0];exact bf) ⟨(by walk_at"s"),λZ G=>?_⟩)))));have s9:=Same.new G (.tup [.str za,.str zm]);exact a1 Z za zm _ (F8.same s9) (s9 _ _ (M.1 _ _ a3 I)) ((r.tups (xaj (jEE p7 q7 u) M) _).same s9 _) ups a0 (xjw ah (by omega))
   ·exact a1 te za zb O (F7.trans M) (M.1 _ _ a3 I) (r.tups (xaj (jEE p7 q7 u) M) _) (xaj (jEE p7 q7 u) M _ _ ups) a0 a7
  ·exact iteF (a1 te za zb _ F7 a3 r ups a0 a7)
 ·rintro σ H4 ⟨us,cs,o6,o7,rfl,F4,a4,C,a5,x⟩
  refine bb _ _ ?_;refine(jEA _ rfl (jEEA l us rfl (.inl ⟨SqL.of a4,λt ht=>?_⟩)));have st:=Same.new ht (.tup us);exact q _ cs _ (F4.same st) (xas t us rfl ups (C.same st _)) x
structure BsOk(ks:List Kn)(nms:List Str)(bs:List (Str×Str)):Prop where
 len:bs.length<=5
 nd:(bs.map (·.1)).Nodup
 nm:∀b∈bs,b.1∈nms
 kin:∀b∈bs,KIn ks 6 b.2
def xr9:Sp:=λvs H Q _=>∃(f nb:Addr) (kv cv:V) (ks:List Kn) (nms:List Str) (cs:List Chn) (x:Str),vs=[.ref f,kv,cv,.str x,.ref nb]/\GIn H f nb kv ks nms/\RelD H cv (.tup (cs.map dChn))/\cs.length<=6/\(∀c∈cs,KIn ks ks.length c.2.2.2)/\∀bv bs H',Fed f H H'->RelD H' bv (xdg bs)->BsOk ks nms bs->Q bv H'
def xti(cs:List Chn)(x:Str)(bs:List (Str×Str))(c y:Str):Prop:=∃ch∈cs,ch.1=c/\ch.2.2.1=x/\(y,ch.2.2.2)∈bs
def IntoAt(H:Hp)(cs:List Chn)(x:Str)(bs:List (Str×Str))(w:V):Prop:=∃(b:Addr) (c y:Str),w=.ref b/\H b=some (.tup [.str c,.str y])/\xti cs x bs c y
theorem IntoAt.tups{H a:Hp}{cs:List Chn}{x:Str}{bs:List (Str×Str)}{w:V}(h:IntoAt H cs x bs w)(s:∀b vs,H b=some (.tup vs)->a b=some (.tup vs)):IntoAt a cs x bs w:=by
 obtain⟨b,c,y,e,f,r⟩:=h;exact(xbo b c y e (s _ _ f) r)
def xkj:Sp:=λvs H Q _=>∃(cv bv:V) (cs:List Chn) (x:Str) (bs:List (Str×Str)),vs=[cv,.str x,bv]/\RelD H cv (.tup (cs.map dChn))/\cs.length<=6/\RelD H bv (xdg bs)/\bs.length<=5/\∀l ws H',Same H H'->H l=none->H' l=some (.lst ws)->(∀w∈ws,IntoAt H' cs x bs w)->ws.length<=30->Q (.ref l) H'
theorem xit(xs:List Str):(xs.map V.str).all xf8=true:=by
 rw[List.all_map];exact List.all_eq_true.mpr λ_ _=>rfl
theorem xmq{H:Hp}{us:List V}{bs:List (Str×Str)}(g:RelDs H us (bs.map xj2)){i:Nat}{v:V}(a:us[i]?=some v):∃(b:Addr) (p:Str×Str),bs[i]?=some p/\v=.ref b/\H b=some (.tup [.str p.1,.str p.2]):=by
 obtain⟨d,hd,rd⟩:=g.get a;rw[zGM]at hd;obtain⟨c,e,rfl⟩:=zMS hd;obtain⟨b,ws,rfl,f,_,_,rfl,rfl,_,_,rfl,rfl,rfl⟩:=rd;exact(xas b c e rfl f)
theorem xos(T:Tx K mg):DefIs P w K mg base (n+1) "_law_into" qas xkj:=by
 refine DefIs.of T.kA scl_into (by walk_at"l") (λf aa A outer s H vs Q E hr h=>?_);obtain⟨cv,bv,cs,x,bs,rfl,a4,h6,a5,h5,q⟩:=h;have nd:=scl_into.nd
 refine⟨_,(zpn (psn 3 nd (xcb pN))
   (zpn (xca PassesOwn.never rfl (xaw (K:=K) rfl (pv 0)) (xbk (K:=K) rfl rfl (xaf (pgn 4 nd) (xaf (pgn 5 nd) (xaf (pgn 6 nd) (xaf (pgn 7 nd) xbj)))))
   (zpo (psn 3 nd (xak xgf (pv 3) (xbp ["_law_x","_law_told","_law_c","_law_to","_law_h","_law_kind"] [none,none,some 4,some 6,some 1,some 7] rfl (by kernel_rfl) (xaw (K:=K) rfl (pv 2)) (λ_ _ _ _=>(xbk (K:=K) (n:=2) rfl rfl (xaf (pgc 0) (xaf (pgc 1) xbj)))) (λ_ _ _ _=>(xd6 (PW.pt (xci (pR xa9 (pv 3) (pv 4) (nM _)) (xb3 (pR xa9 (pv 1) (pv 5) (nM _))))))) (λ_ _ _ _=>(xau (va 2 (v1 0)))))))))
   (zpo (xae (pv 3))))),xab λR1 a9=>?_⟩
 refine⟨(by walk_at"s"),λl0 J=>a9 _ _ (xab λR2 a8=>?_)⟩;have s0:=Same.new J (.lst []);obtain⟨ca,us,rfl,M,hR⟩:=a4;obtain⟨ba,ub,rfl,O,hB⟩:=a5;have a2:=hR.length;have a6:=hB.length;rw[zLM]at a2 a6;refine(xbd _ rfl ca rfl ⟨_,SqT.of (s0 _ _ M)⟩ ?_)
 refine xdl (xs:=us) (λi σ r=>∃(l:Addr) (ws:List V) (o4 Z Y U:Option V),σ=[some (.ref ca),some (.str x),some (.ref ba),some (.ref l),o4,Z,Y,U]/\Same H r/\H l=none/\r l=some (.lst ws)/\(∀w∈ws,IntoAt r cs x bs w)/\ws.length<=5*i)
  (xal l0 ([]) none none none (xbh none rfl s0 J ups (λ_ h=>nomatch h) (Nat.zero_le _))) (λi σ r _ p=>?_) ?_ ?_
 ·obtain⟨_,_,_,_,_,_,_,m,_⟩:=p
  exact SqT.of (m _ _ M)
 ·rintro i v σ H1 hv ⟨l,ws,o4,Z,Y,U,rfl,m,hl,z,g,a1⟩
  obtain⟨b,c,hc,rfl,hb⟩:=xhe hR hv;have hi:i<us.length:=(zES hv).1;refine(xa2 b _ rfl (SqT.of (m _ _ hb)) rfl _ _ rfl _ (jEA _ rfl (jEEA _ _ rfl (xas _ _ rfl rfl ?_))));refine(jEA _ rfl (xbd _ rfl ba rfl ⟨_,SqT.of (m _ _ O)⟩ ?_));refine xbm (xs:=ub) (λj ys r=>Same H1 r/\(∀w∈ys,IntoAt r cs x bs w)/\ys.length<=j) (jAA (Same.refl _) (λ_ h=>nomatch h) (Nat.le_refl _)) (xa4 (by omega)) (λj ys r _ p=>SqT.of ((m.trans p.1) _ _ O)) ?_ ?_
  ·rintro j y ys H2 hy hj o ⟨C,a,a0⟩
   obtain⟨b2,pb,a3,rfl,a7⟩:=xmq hB hy;refine(xa2 b2 _ rfl (SqT.of ((m.trans C) _ _ a7)) rfl _ _ rfl _ (xby _ rfl rfl (ext2 rfl rfl) ?_));refine(xcp _ rfl _ rfl rfl _ rfl (ite2 (λc1=>?_) (λc1=>iteF (nxtN hj o (jAA C a (by omega))))));refine(xcp _ rfl _ rfl rfl _ rfl (ite2 (λc2=>?_) (λc2=>nxtN hj o (jAA C a (by omega)))));refine(xbd _ rfl _ rfl (by walk_at"s") (λt ht=>nxtG hj o ?_));have st:=Same.new ht (.tup [.str c.1,.str pb.1]);refine(jAA (C.trans st) (λw e=>?_) (by rw[zLA,List.length_singleton];omega));rcases zMA e with e |e
   ·exact(a w e).tups (Same.tups st)
   ·rw[zMO e]
    have e1:c.2.2.1=x:=V.str.inj (of_decide_eq_true c1);have e2:pb.2=c.2.2.2:=V.str.inj (of_decide_eq_true c2);exact(xbo t c.1 pb.1 rfl ups (xby c (zMG hc) rfl e1 (by rw[<- e2];exact zMG a3)))
  ·rintro ys H2 o ⟨C,a,a0⟩ D hD
   have sD:=Same.new hD (.lst ys);have u:=C.trans sD;refine(xav l D ws ys rfl rfl (u _ _ z) ups (fits (by omega)) (λl2 I=>?_));have sl:=Same.new I (.lst (ws++ys));have G:=u.trans sl;refine(xal l2 (ws++ys) _ _ _ (xbh _ rfl (m.trans G) (xay (m.trans u) I) ups (λw e=>?_) (by rw[zLA];omega)));rcases zMA e with e |e
   ·exact(g w e).tups (Same.tups G)
   ·exact(a w e).tups (Same.tups (sD.trans sl))
 ·rintro σ H1 ⟨l,ws,o4,Z,Y,U,rfl,m,hl,z,g,a1⟩
  exact a8 _ _ (jEA _ rfl (q l ws H1 m hl z g (by omega)))
theorem xm0(T:Tx K mg)(a:DefIs P w K mg base n "_law_take" qac xcl)(m:DefIs P w K mg base n "_law_any_kind" qam xog):DefIs P w K mg base (n+1) "_law_boxes" qbc xr9:=by
 refine DefIs.of T.j9 scl_boxes (by walk_at"l") (λf b3 A outer s H vs Q E hr h=>?_);obtain⟨U,nb,kv,cv,ks,a8,cs,x,rfl,g,aj,h6,ak,q⟩:=h;have nd:=scl_boxes.nd
 refine⟨_,(zpn (psn 5 nd (xcb pN))
   (zpn (xca PassesOwn.never rfl (xaw (K:=K) rfl (pv 2)) (xbk (K:=K) rfl rfl (xaf (pgn 6 nd) (xaf (pgn 7 nd) (xaf (pgn 8 nd) (xaf (pgn 9 nd) xbj)))))
   (zpo (xa6 (PW.pt (xci (pR xa9 (pv 8) (pv 3) (nM _)) (xb3 (pR xeo (pv 9) (pv 5) (by with_unfolding_all rfl))))) (zpo (xbx (xc7 PySem.F.plainAttrs_list PySem.F.slot_list_append PySem.F.type_list_append xbt (pv 5) (v1 9)))) pQ)))
   (zpn (xca PassesOwn.never rfl (xb1 rfl T.kX (pc (pd a hr (va 0 (pc pI pN so))) pN zsc)) (pgn 10 nd)
   (zpo (xbx (xc7 PySem.F.plainAttrs_list PySem.F.slot_list_append PySem.F.type_list_append xbt (pv 5) (pc (pd m hr (va 0 (v1 1))) pN zsc)))))
   (zpn (psn 11 nd (xak xb8 (pd a hr (va 0 (pc pI pN so))) pI))
   (zpo (xae (xat (xbq (K:=K) rfl) rfl T.kZ PyProof.Rows.boot_tuple (pc (xbp ["_law_k","_law_names_here","_law_wants","_law_turn"] [none,some 4,some 5,some 11] rfl (by kernel_rfl) (xb1 rfl T.kX (pc (xan (xiy rfl) rfl T.kW PyProof.Rows.boot_min (pc pI (pc (xan (xad (K:=K) rfl) rfl T.kS PySem.boot_len (v1 5)) pN zsc) so)) pN zsc)) (λ_ _ _ _=>(pgc 0)) (λ_ _ _ _=>xbr) (λ_ _ _ _=>(xau (pc (pxl K (pv 1) (xak xba pI (xak xcc (xak xba (pv 0) (pv 3)) pI))) (pc (pxl K (pv 2) (pv 0)) pN ss) ss)))) pN xbw)))))))),xab λR1 ao=>?_⟩
 refine⟨(by walk_at"s"),λl M=>ao _ _ (xab λR2 an=>?_)⟩;have s0:=Same.new M (.lst []);obtain⟨p0,q0,a4⟩:=g.fd;have lf:l≠U:=Ne.symm (neN a4 M);have ay:nb≠l:=neN g.nl M;obtain⟨ca,us,rfl,a5,hR⟩:=aj;have aa:=hR.length;rw[zLM]at aa;have O:=g.wf.few;refine(xbd _ rfl ca rfl ⟨_,SqT.of (s0 _ _ a5)⟩ ?_);have ar:∀{C:Hp} {xs:List Str} (k:Str),SameBut l H C->C l=some (.lst (xs.map V.str))->SameBut l H (upd C l (.lst ((xs++[k]).map V.str))):=λk s _=>s.trans (SameBut.upd _ _ _)
 refine xdl (xs:=us) (λi σ C=>∃(xs:List Str) (o6 o7 o8 o9:Option V),σ=[some (.ref U),some kv,some (.ref ca),some (.str x),some (.ref nb),some (.ref l),o6,o7,o8,o9,none,none]/\SameBut l H C/\C l=some (.lst (xs.map V.str))/\(∀k∈xs,KIn ks ks.length k)/\xs.length<=i)
  (xch ([]) none none none none rfl s0.but ups (λ_ h=>nomatch h) (Nat.zero_le _)) (λi σ C _ p=>?_) ?_ ?_
 ·obtain⟨_,_,_,_,_,_,I,_⟩:=p
  exact SqT.of (I _ _ a5 (neN a5 M))
 ·rintro i v σ H1 hv ⟨xs,o6,o7,o8,o9,rfl,I,r,J,a0⟩
  obtain⟨b,c,hc,rfl,u⟩:=xhe hR hv;have hi:i<us.length:=(zES hv).1;refine(xa2 b _ rfl (SqT.of (I _ _ u (neN u M))) rfl _ _ rfl _ (jEA _ rfl (jEEA _ _ rfl (xas _ _ rfl rfl ?_))));refine(xcp _ rfl _ rfl rfl _ rfl (ite2 (λc1=>?_) (λc1=>iteF (xch xs _ _ _ _ rfl I r J (by omega)))));refine(jEA _ rfl (xa0 _ rfl l _ rfl (.inl (SqL.of r)) (jAA rfl (xit xs) (jEA _ rfl (ite2 (λc2=>?_) (λc2=>(xch xs _ _ _ _ rfl I r J (by omega))))))));refine(xa3 _ rfl (.inl (jAE rfl _ (SqL.of r))) _ rfl (xap l _ _ rfl rfl r (xa4 (by rw[zLM];omega)) ?_));refine(xch (xs++[c.2.2.2]) _ _ _ _ rfl (I.trans (SameBut.upd _ _ _)) (by rw[ups,zAP];rfl) (λk a2=>?_) (by rw[zLA,List.length_singleton];omega));rcases zMA a2 with h |h
  ·exact J k h
  ·rw[zMO h];exact ak c (zMG hc)
 rintro σ H1 ⟨xs,o6,o7,o8,o9,rfl,I,r,J,a0⟩;refine an _ _ (xab λR3 am=>?_);have F1:Fed U H H1:=(jAE (λb o e _=>I b o e (neN e M)) p0 ⟨q0,I _ _ a4 (neN a4 M)⟩);have g1:=g.fed F1;obtain⟨p1,q1,ai⟩:=F1.2;refine(xaa _ rfl U p1 q1 3 rfl ai (by decide) (by decide) (λr1 H2 ax aw f2=>(xby _ rfl (by omega) (by omega) ?_)))
 refine xcr (λi σ C=>∃(xs:List Str) (Y:Option V),σ=[some (.ref U),some kv,some (.ref ca),some (.str x),some (.ref nb),some (.ref l),o6,o7,o8,o9,Y,none]/\Fed U H C/\C l=some (.lst (xs.map V.str))/\(∀k∈xs,KIn ks ks.length k)/\xs.length<=6+i)
  (xcf xs none rfl (F1.trans f2) (f2.1 _ _ r lf) J (by omega)) ?_ ?_
 ·rintro i σ H3 hi ⟨xs,Y,rfl,F3,r,J,a0⟩
  have g3:=g.fed F3;obtain⟨p3,q3,a3⟩:=F3.2;obtain⟨ka,a9,aq,ag,af⟩:=id g3.kd;subst aq;refine(xa3 _ rfl (.inl (jAE rfl _ (SqL.of r))) _ rfl (xaz _ rfl U ka p3 q3 (xa5 a9 ks rfl a3 (.inr ag) af O (λkx H4 ae f4=>?_))));have y:=f4.1 _ _ r lf;refine(xap l _ _ rfl rfl y (xa4 (by rw[zLM];omega)) ?_);have F4:=F3.trans f4;refine(xcf (xs++[kx]) _ rfl ?_ (by rw[ups,zAP];rfl) (λk a2=>?_) (by rw[zLA,List.length_singleton];omega))
  ·refine⟨λb o e u=>by rw[xao (neN e M)];exact F4.1 b o e u,?_⟩
   obtain⟨p4,q4,ah⟩:=F4.2;exact(jEE p4 q4 (by rw[xao (Ne.symm lf)];exact ah))
  ·rcases zMA a2 with h |h
   ·exact J k h
   ·rw[zMO h];exact ae
 rintro σ H3 ⟨xs,Y,rfl,F3,r,J,a0⟩;refine am _ _ (xab λR4 al=>?_);obtain⟨p3,q3,a3⟩:=F3.2;refine(xaa _ rfl U p3 q3 4 rfl a3 (by decide) (by decide) (λr4 H4 av au f4=>(xbv _ _ rfl rfl ⟨by decide,by decide⟩ (al _ _ ?_))));have F4:=F3.trans f4;have g4:=g.fed F4;have y:=f4.1 _ _ r lf;have xl:(xs.map V.str).length=xs.length:=zLM _;refine(xa0 _ rfl l _ rfl (.inl (SqL.of y)) (jEEA _ _ rfl ?_))
 obtain⟨N,hN,b2,b1⟩:∃N:Nat,(if ((xs.map V.str).length:Int)<5 then ((xs.map V.str).length:Int) else 5)=(N:Int)/\N<=5/\N<=xs.length:=by
  rw[xl];refine(jEAA ((if (xs.length:Int)<5 then (xs.length:Int) else 5).toNat) ?_ ?_ ?_) <;> split <;> omega
 rw[hN];refine(xby _ rfl (by omega) (by omega) ?_);have tn:0<=r4 / 2/\r4 / 2<=1:=by omega
 obtain⟨tt,ab⟩:∃t:Nat,r4 / 2=(t:Int):=⟨(r4 / 2).toNat,by omega⟩;have ix:∀i:Nat,(18+((0+(i:Int))+r4 / 2)%6)=((18+(i+tt)%6:Nat):Int):=λi=>by rw[ab];omega
 refine xc8 (j:=0) (λi ys C=>Same H4 C/\∃bs:List (Str×Str),RelDs C ys (bs.map xj2)/\bs.length=i/\(∀(j:Nat) b,bs[j]?=some b->a8[18+(j+tt)%6]?=some b.1)/\∀b∈bs,KIn ks 6 b.2) (by rfl) (xf7 (Same.refl _) ([]) rfl rfl ⟨(λj b h=>by simp at h),λ_ h=>nomatch h⟩) (xa4 (by omega)) ?_ ?_
 ·rintro i ys H5 hi a7 ⟨s5,bs,Z,a6,G,a1⟩
  have g5:=g4.same s5;obtain⟨z,hz,az⟩:=g5.name (i:=18+(i+tt)%6) (by omega);have hx:i<xs.length:=by omega
  refine(xaq _ rfl _ rfl _ rfl _ _ rfl rfl (xbv _ _ rfl rfl (by show(0:Int)<6;decide) (xas _ _ rfl rfl (xag nb _ _ _ rfl rfl (SqL.of g5.nl) (by rw[ix];exact az) ?_))));refine(xai _ rfl _ rfl l _ _ (xbh (.str xs[i]) rfl rfl (SqL.of (s5 _ _ y)) ?_ (by walk_at"s") (λt ht=>nxt hi a7 ?_)))
  ·rw[show(0+(i:Int))=(i:Int) by omega]
   exact xax (by rw[zGM,zGA hx];rfl)
  have st:=Same.new ht (.tup [.str z,.str xs[i]]);refine(xf7 (s5.trans st) (bs++[(z,xs[i])]) ?_ (by rw[zLA,List.length_singleton,a6]) ⟨λj b u=>?_,λb u=>?_⟩)
  ·rw[zAP]
   exact(Z.same st _).append (xas (.ref t) ([]) rfl (xam t _ rfl ups _ _ rfl rfl _ (jEAA _ rfl rfl rfl)) rfl)
  ·by_cases hj:j<bs.length
   ·rw[List.getElem?_append_left hj]at u
    exact G j b u
   ·have ac:=(zES u).1
    rw[zLA,List.length_singleton]at ac;have e0:j=i:=by omega
    subst e0;rw[List.getElem?_append_right (by omega),a6,Nat.sub_self]at u;simp at u;subst u;exact hz
  ·rcases zMA u with h |h
   ·exact a1 b h
   ·rw[zMO h]
    exact(J _ (List.getElem_mem hx)).mono O
 ·rintro ys H5 a7 ⟨s5,bs,Z,a6,G,a1⟩ D hD
  have sD:=Same.new hD (.lst ys);refine(jEEA D ys rfl (.inl ⟨SqL.of ups,λt ht=>?_⟩));have st:=Same.new ht (.tup ys);have sA:=sD.trans st;refine q _ bs _ (F4.same (s5.trans sA)) (xas t ys rfl ups (Z.same sA _)) ⟨by omega,?_,λb u=>?_,a1⟩
  ·refine List.pairwise_iff_getElem.mpr λi j hi hj b0 e=>?_
   rw[zLM]at hi hj;rw[List.getElem_map,List.getElem_map]at e;have h1:=G i _ (zGA hi);have h2:=G j _ (zGA hj);rw[e]at h1;obtain⟨k1,e1⟩:=zES h1;obtain⟨k2,e2⟩:=zES h2;have:=(List.getElem_inj (h₀:=k1) (h₁:=k2) g.ok.2.1).mp (e1.trans e2.symm);omega
  ·obtain⟨j,hj,e⟩:=zMI u
   have:=G j b (by rw[<- e];exact zGA hj);exact zMG this
def Sb2(f m:Addr)(H H':Hp):Prop:=(∀b o,H b=some o->b≠f->b≠m->H' b=some o)/\∃p q:Int,H' f=some (.lst [.int p,.int q])
theorem Sb2.of{f m:Addr}{H a:Hp}(h:Fed f H a):Sb2 f m H a:=⟨λb o e n _=>h.1 b o e n,h.2⟩
theorem Sb2.same{f m:Addr}{H c a:Hp}(h:Sb2 f m H c)(s:Same c a):Sb2 f m H a:=by
 obtain⟨l,p,q,j⟩:=h;exact(jAE (λb o e i g=>s _ _ (l b o e i g)) p ⟨q,s _ _ j⟩)
theorem Sb2.upd{f m:Addr}{H c:Hp}(h:Sb2 f m H c)(n:m≠f)(o:HO):Sb2 f m H (L2.upd c m o):=by
 obtain⟨j,p,q,i⟩:=h;exact(jAE (λb u e g a=>by rw[xao a];exact j b u e g a) p ⟨q,by rw[xao (Ne.symm n)];exact i⟩)
structure DIn(H:Hp)(f:Addr)(kv cv bv:V)(ks:List Kn)(cs:List Chn)(bs:List (Str×Str)):Prop where
 fd:∃p q:Int,H f=some (.lst [.int p,.int q])
 kd:RelD H kv (xdn ks)
 wf:KWf ks
 pb:PNB ks
 cd:RelD H cv (.tup (cs.map dChn))
 c6:cs.length<=6
 ck:∀c∈cs,KIn ks 6 c.2.2.2
 bd:RelD H bv (xdg bs)
 b5:bs.length<=5
 bn:(bs.map (·.1)).Nodup
 bb:∀b∈bs,NoBy b.1
 bk:∀b∈bs,KIn ks 6 b.2
theorem DIn.keep{H a:Hp}{f:Addr}{c e g:V}{ks:List Kn}{cs:List Chn}{bs:List (Str×Str)}(d:DIn H f c e g ks cs bs)(s:∀b vs,H b=some (.tup vs)->a b=some (.tup vs))(h:∃p q:Int,a f=some (.lst [.int p,.int q])):DIn a f c e g ks cs bs:=
 ⟨h,d.kd.tups s _,d.wf,d.pb,d.cd.tups s _,d.c6,d.ck,d.bd.tups s _,d.b5,d.bn,d.bb,d.bk⟩
theorem DIn.same{H e:Hp}{f:Addr}{a b c:V}{ks:List Kn}{cs:List Chn}{bs:List (Str×Str)}(d:DIn H f a b c ks cs bs)(s:Same H e):DIn e f a b c ks cs bs:=d.keep (Same.tups s) (by obtain⟨p,q,h⟩:=d.fd;exact(jEE p q (s _ _ h)))
theorem DIn.fed{H e:Hp}{f:Addr}{a b c:V}{ks:List Kn}{cs:List Chn}{bs:List (Str×Str)}(d:DIn H f a b c ks cs bs)(s:Fed f H e):DIn e f a b c ks cs bs:=d.keep (xaj d.fd s) s.2
theorem DIn.tin{H:Hp}{f c:Addr}{g l m:V}{ks:List Kn}{cs:List Chn}{bs:List (Str×Str)}(d:DIn H f g l m ks cs bs){us:List V}(a:H c=none)(e:RelDs H us (bs.map xj2)):TIn (upd H c (.lst us)) f g (.ref c) ks bs 3:=by
 have s:=Same.new a (.lst us);have d':=d.same s;obtain⟨p,q,h⟩:=d.fd;exact⟨d'.fd,d'.kd,d.wf,d.pb,(xbv c us rfl ups (e.same s _) (Ne.symm (neN h a))),d.bn,by have:=d.b5;omega,λb i j _=>d.bb b i j,d.bk⟩
theorem xse{k n:Nat}(h:k<n):seqIndex? (k:Int) n=some k:=by
 unfold seqIndex?;have:¬(k:Int)<0:=by omega
 simp only[if_neg this];rw[if_pos (by simp;omega),Int.toNat_natCast]
theorem xp3:∀(l:List Str) (i:Nat),(l.map V.str).eraseIdx i=(l.eraseIdx i).map V.str
 |[],i=>rfl
 |a::l,0=>rfl
 |a::l,i+1=>by
  rw[List.map_cons,List.eraseIdx_cons_succ,List.eraseIdx_cons_succ,List.map_cons,xp3 l i]
def xmc:Sp:=λvs H Q _=>∃(f m:Addr) (kv cv bv:V) (ks:List Kn) (cs:List Chn) (bs:List (Str×Str)) (x:Str) (ms:List Str),vs=[.ref f,kv,cv,.str x,bv,.ref m]/\DIn H f kv cv bv ks cs bs/\H m=some (.lst (ms.map V.str))/\m≠f/\ms.length<=100 ∧
 ∀u r ms' H',Sb2 f m H H'->H' m=some (.lst (ms'.map V.str))->ms'.length<=ms.length->((∀l c y,r≠.take l c y)->ms'=ms)->RelD H' u r.d->(∀n,xeu ks cs x bs n r)->(∀b vs,H b=some (.tup vs)->H' b=some (.tup vs))->Q u H'
theorem xot(T:Tx K mg)(a:DefIs P w K mg base n "_law_take" qac xcl)(C:DefIs P w K mg base n "_law_into" qas xkj)(g:DefIs P w K mg base n "_law_new_term" qak xhq):DefIs P w K mg base (n+1) "_law_deal" qa0 xmc:=by
 refine DefIs.of T.kB scl_deal (by walk_at"l") (λf c4 A outer s H vs Q E hr h=>?_);obtain⟨G,ml,kv,cv,bv,ks,cs,bs,x,O,rfl,d,aq,mf,bx,q⟩:=h;have nd:=scl_deal.nd;have c6:=d.c6;have b5:=d.b5
 refine⟨_,(zpn (psn 6 nd (pd a hr (va 0 (pc pI pN so))))
   (zpn (psn 7 nd (pd C hr (va 2 (va 3 (v1 4)))))
   (zpn (xcy (i:=8) ["_law_c","_law_come","_law_to","_law_kind","_law_h"] [none,none,none,none,some 3] rfl (by kernel_rfl) nd rfl (by walk_at"o") (xaw (K:=K) rfl (pv 2)) (λ_ _ _ _=>(xbk (K:=K) (n:=4) rfl rfl (xaf (pgc 0) (xaf (pgc 1) (xaf (pgc 2) (xaf (pgc 3) xbj)))))) (λ_ _ _ _=>(xd6 (pR xa9 (pv 1) (pv 4) (nM _)))) (λ_ _ _ _=>(xau (va 0 (v1 3)))))
   (zpn (xa6 (PW.pt (xci (pR xfi (pv 6) pI (nM _)) (xci (pR xc2 (xan (xad (K:=K) rfl) rfl T.kS PySem.boot_len (v1 7)) pI (nM _)) (xb3 (pR xc2 (xan (xad (K:=K) rfl) rfl T.kS PySem.boot_len (v1 5)) pI (nM _)))))) (zpn (xde (pxl K (pv 7) (pd a hr (va 0 (pc (xan (xad (K:=K) rfl) rfl T.kS PySem.boot_len (v1 7)) pN zsc)))) (xbk (K:=K) rfl rfl (xaf (pgn 9 nd) (xaf (pgn 10 nd) xbj))))
   (zpo (xae (xau (pc pS (pc (xc7 PySem.F.plainAttrs_list PySem.F.slot_list_pop PySem.F.type_list_pop xg9 (pv 5) (pc (pd a hr (va 0 (pc (xan (xad (K:=K) rfl) rfl T.kS PySem.boot_len (v1 5)) pN zsc))) pN zsc)) (va 9 (v1 10)) zsc) so))))) pQ)
   (zpn (xa6 (PW.pt (xci (pR xfi (pv 6) pI (nM _)) (xb3 (pR xc2 (xan (xad (K:=K) rfl) rfl T.kS PySem.boot_len (v1 8)) pI (nM _))))) (zpn (xde (pxl K (pv 8) (pd a hr (va 0 (pc (xan (xad (K:=K) rfl) rfl T.kS PySem.boot_len (v1 8)) pN zsc)))) (xbk (K:=K) rfl rfl (xaf (pgn 9 nd) (xaf (pgn 11 nd) xbj))))
   (zpo (xae (xau (pc pS (va 9 (pc (pd g hr (va 0 (va 1 (pc (xat xb5 rfl T.kT PyProof.Rows.boot_list (v1 4)) (v1 11) zsc)))) pN zsc)) so))))) pQ)
   (zpn (xa6 (PW.pt (xci (pR xfi (pv 6) pI (nM _)) (xb3 (pR xc2 (xan (xad (K:=K) rfl) rfl T.kS PySem.boot_len (v1 4)) pI (nM _))))) (zpn (xde (px K (pv 4) (pd a hr (va 0 (pc (xan (xad (K:=K) rfl) rfl T.kS PySem.boot_len (v1 4)) pN zsc)))) (xbk (K:=K) rfl rfl (xaf (pgn 10 nd) (xaf (pgn 11 nd) xbj))))
   (zpo (xae (xau (pc pS (va 10 (pc (pd g hr (va 0 (va 1 (pc (xat xb5 rfl T.kT PyProof.Rows.boot_list (v1 4)) (v1 11) zsc)))) pN zsc)) so))))) pQ)
   (zpo (xae (xau (pc pS (pc (pd g hr (va 0 (va 1 (pc (xat xb5 rfl T.kT PyProof.Rows.boot_list (v1 4)) (pc pS pN so) zsc)))) pN zsc) so)))))))))),xab λR1 bn=>?_⟩
 obtain⟨p0,q0,b8⟩:=d.fd;refine(xaa _ rfl G p0 q0 8 rfl b8 (by decide) (by decide) (λfm H1 c0 bz f1=>bn _ _ (xab λR2 bm=>?_)));have d1:=d.fed f1;have ac:=f1.1 _ _ aq mf;refine(xbu _ rfl _ rfl _ rfl cv bv (xap cs x bs rfl d1.cd c6 d1.bd ⟨b5,λil ws H2 s2 ar b6 ae bu=>bm _ _ (xab λR3 bj=>?_)⟩));have d2:=d1.same s2;have ao:=s2 _ _ ac;have F2:Fed G H H2:=f1.same s2;obtain⟨ca,uc,bo,ax,ay⟩:=id d2.cd;subst bo;have bb:=ay.length;rw[zLM]at bb;refine(xbd _ rfl ca rfl ⟨_,SqT.of ax⟩ ?_);refine xbm (xs:=uc) (λi ys H'=>Same H2 H'/\(∀w∈ys,∃(b:Addr) (ch:Chn),w=.ref b/\H' b=some (.tup [.str ch.1,.str ch.2.2.2])/\ch∈cs/\ch.2.1=x)/\ys.length<=i) (jAA (Same.refl _) (λ_ h=>nomatch h) (Nat.le_refl _)) (xa4 (by omega)) (λi ys H' _ p=>SqT.of (p.1 _ _ ax)) ?_ ?_
 ·rintro i y ys H3 hy hi af ⟨s3,a0,b1⟩
  obtain⟨b,c,hc,rfl,hb⟩:=xhe ay hy;refine(xa2 b _ rfl (SqT.of (s3 _ _ hb)) rfl _ _ rfl _ (jEA _ rfl (jEEA _ _ rfl (xbv _ _ rfl rfl (ext4 rfl rfl rfl rfl) ?_))));refine(xcp _ rfl _ rfl rfl _ rfl (ite2 (λc1=>?_) (λc1=>nxtN hi af (jAA s3 a0 (by omega)))));refine(xbd _ rfl _ rfl (by walk_at"s") (λt ht=>nxtG hi af ?_));have st:=Same.new ht (.tup [.str c.1,.str c.2.2.2]);refine(jAA (s3.trans st) (λw hw=>?_) (by rw[zLA,List.length_singleton];omega));rcases zMA hw with hw |hw
  ·obtain⟨b',ch,e,bf,r⟩:=a0 w hw
   exact(xas b' ch e (st _ _ bf) r)
  ·rw[zMO hw]
   exact(xbv t c rfl ups (zMG hc) (V.str.inj (of_decide_eq_true c1)))
 rintro ys H3 af ⟨s3,a0,b1⟩ D hD;have sD:=Same.new hD (.lst ys);obtain⟨H4,a8⟩:∃H4,H4=upd H3 D (.lst ys):=⟨_,rfl⟩;have ai:H4 D=some (.lst ys):=by rw[a8];exact ups
 rw[<- a8]at sD;have s4:=s3.trans sD;have d4:=d2.same s4;have F4:Fed G H H4:=F2.same s4;have a2:=s4 _ _ ao;have a3:=s4 _ _ b6;obtain⟨p1,q1,av⟩:=f1.2;have b0:il≠G:=Ne.symm (neN av ar);have bt:il≠ml:=Ne.symm (neN ac ar);have Df:D≠G:=Ne.symm (neN (s3 _ _ (s2 _ _ av)) hD);obtain⟨p4,q4,M⟩:=F4.2;obtain⟨ba,ub,bp,U,a6⟩:=id d4.bd;subst bp;have bc:=a6.length;rw[zLM]at bc;have az:(O.map V.str).length=O.length:=zLM _;have ah:∀w∈ws,IntoAt H4 cs x bs w:=λw hw=>(ae w hw).tups (Same.tups s4)
 have al:∀w∈ys,∃(b:Addr) (ch:Chn),w=.ref b/\H4 b=some (.tup [.str ch.1,.str ch.2.2.2])/\ch∈cs/\ch.2.1=x:=λw hw=>by
  obtain⟨b,ch,e,hb,r⟩:=a0 w hw;exact(xas b ch e (sD _ _ hb) r)
 rw[<- a8];clear a8 ae a0
 have a7:∀{H5 H6:Hp} {u:V} {r:Row},Fed G H4 H5->Same H5 H6->(∀l c y,r≠.take l c y)->RelD H6 u r.d->(∀n,xeu ks cs x bs n r)->Q u H6:=λ{H5 H6 u r} o s6 bw hu b2=>by
  have F5:=(F4.trans o).same s6;exact q u r O H6 (Sb2.of F5) (s6 _ _ (o.1 _ _ a2 mf)) (Nat.le_refl _) (λ_=>rfl) hu b2 (xaj d.fd F5)
 refine bj _ _ (xab λR4 bi=>?_)
 have Z:R4 [some (.ref G),some kv,some (.ref ca),some (.str x),some (.ref ba),some (.ref ml),some (.int fm),some (.ref il),some (.ref D),none,none,none] H4:=by
  refine bi _ _ (xab λR5 bh=>?_)
  have aa:R5 [some (.ref G),some kv,some (.ref ca),some (.str x),some (.ref ba),some (.ref ml),some (.int fm),some (.ref il),some (.ref D),none,none,none] H4:=by
   refine bh _ _ (xab λR6 bg=>?_)
   have a9:R6 [some (.ref G),some kv,some (.ref ca),some (.str x),some (.ref ba),some (.ref ml),some (.int fm),some (.ref il),some (.ref D),none,none,none] H4:=by
    refine bg _ _ ?_;refine(xaq _ rfl _ rfl _ rfl ba ub rfl (.inr (SqT.of U)) (λbl j=>?_));have sb:=Same.new j (.lst ub);refine(xal G kv (.ref bl) ks bs (xby (S "num") rfl (d4.tin j a6) (.inl rfl) (λta td H5 o rd tb=>⟨(by walk_at"s"),λt ht=>?_⟩)));have st:=Same.new ht (.tup [.str (S "tell"),.ref ta]);exact a7 (r:=.tell td) (((Fed.refl M).same sb).trans o) st (by intro _ _ _ e;cases e) (xam t _ rfl ups _ _ rfl rfl _ (jEAA _ rfl (rd.same st _) rfl)) λ_=>tb.1
   refine(xbc _ rfl _ _ rfl rfl _ rfl (ite2 (λc1=>?_) (λc1=>iteF a9)));refine(xbg _ rfl ba _ rfl (.inr (SqT.of U)) _ _ rfl rfl (jEA _ rfl (ite2 (λc2=>?_) (λc2=>a9))));have ab:=of_decide_eq_true c2;refine xab λS1 a5=>?_;refine(xaq _ rfl _ rfl _ rfl ba _ rfl (.inr (SqT.of U)) (xag G p4 q4 _ rfl M (by omega) (by omega) (λr5 H5 ak aj o=>?_)));obtain⟨i5,rfl⟩:∃i:Nat,r5=(i:Int):=⟨r5.toNat,by omega⟩;have I:i5<ub.length:=by omega
   have m:=xaj (jEE p4 q4 M) o;obtain⟨J,pb,b4,eb,a4⟩:=xmq a6 (zGA I);refine(xa8 ba _ _ (.ref J) rfl rfl (SqT.of (m _ _ U)) (xax (by rw[zGA I,eb])) J (xby _ rfl (SqT.of (m _ _ a4)) rfl (jEEA _ _ rfl (xas _ _ rfl rfl (a5 _ _ ?_)))));have am:=zMG b4;have d5:=d4.fed o;refine(jEA _ rfl (xaq _ rfl _ rfl _ rfl ba ub rfl (.inr (SqT.of (m _ _ U))) (λbl j=>?_)));have sb:=Same.new j (.lst ub);refine(xaz _ rfl G kv (.ref bl) ks (xbv bs pb.2 rfl (d5.tin j (a6.tups m _)) (d.bk pb am) (λta td H6 f6 rd tb=>⟨(by walk_at"s"),λt ht=>?_⟩)));have st:=Same.new ht (.tup [.str (S "set"),.str pb.1,.ref ta]);exact a7 (r:=.set pb.1 td) ((o.same sb).trans f6) st (by intro _ _ _ e;cases e) (xam t _ rfl ups _ _ rfl rfl _ (xbn _ rfl rfl _ _ rfl (rd.same st _) rfl)) λ_=>(jEA pb.2 am tb.1)
  refine(xbc _ rfl _ _ rfl rfl _ rfl (ite2 (λc1=>?_) (λc1=>iteF aa)));refine(xbg _ rfl D _ rfl (.inl (SqL.of ai)) _ _ rfl rfl (jEA _ rfl (ite2 (λc2=>?_) (λc2=>aa))));have ab:=of_decide_eq_true c2;refine xab λS1 a5=>?_;refine(xaq _ rfl _ rfl _ rfl D _ rfl (.inl (SqL.of ai)) (xag G p4 q4 _ rfl M (by omega) (by omega) (λr5 H5 ak aj o=>?_)));obtain⟨i5,rfl⟩:∃i:Nat,r5=(i:Int):=⟨r5.toNat,by omega⟩;have I:i5<ys.length:=by omega
  have m:=xaj (jEE p4 q4 M) o;obtain⟨J,ch,eb,a4,aw,b9⟩:=al _ (List.getElem_mem I);refine(xa8 D _ _ (.ref J) rfl rfl (SqL.of (o.1 _ _ ai Df)) (xax (by rw[zGA I,eb])) J (xby _ rfl (SqT.of (m _ _ a4)) rfl (jEEA _ _ rfl (xas _ _ rfl rfl (a5 _ _ ?_)))));have d5:=d4.fed o;refine(jEA _ rfl (xaq _ rfl _ rfl _ rfl ba ub rfl (.inr (SqT.of (m _ _ U))) (λbl j=>?_)));have sb:=Same.new j (.lst ub);refine(xaz _ rfl G kv (.ref bl) ks (xbv bs ch.2.2.2 rfl (d5.tin j (a6.tups m _)) (d.ck ch aw) (λta td H6 f6 rd tb=>⟨(by walk_at"s"),λt ht=>?_⟩)));have st:=Same.new ht (.tup [.str (S "send"),.str ch.1,.ref ta]);exact a7 (r:=.send ch.1 td) ((o.same sb).trans f6) st (by intro _ _ _ e;cases e) (xam t _ rfl ups _ _ rfl rfl _ (xbn _ rfl rfl _ _ rfl (rd.same st _) rfl)) λ_=>(xby ch aw rfl b9 tb.1)
 refine(xbc _ rfl _ _ rfl rfl _ rfl (ite2 (λc1=>?_) (λc1=>iteF Z)));refine(xbg _ rfl il _ rfl (.inl (SqL.of a3)) _ _ rfl rfl (jEA _ rfl (ite2 (λc2=>?_) (λc2=>iteF Z))));refine(xbg _ rfl ml _ rfl (.inl (SqL.of a2)) _ _ rfl rfl (jEA _ rfl (ite2 (λc3=>?_) (λc3=>Z))));have ab:=of_decide_eq_true c2;have b3:=of_decide_eq_true c3;refine xab λS1 a5=>?_;refine(xaq _ rfl _ rfl _ rfl il _ rfl (.inl (SqL.of a3)) (xag G p4 q4 _ rfl M (by omega) (by omega) (λr5 H5 ak aj o=>?_)));obtain⟨i5,rfl⟩:∃i:Nat,r5=(i:Int):=⟨r5.toNat,by omega⟩;have I:i5<ws.length:=by omega
 have m:=xaj (jEE p4 q4 M) o;obtain⟨J,c5,y5,eb,a4,ag⟩:=ah _ (List.getElem_mem I);refine(xa8 il _ _ (.ref J) rfl rfl (SqL.of (o.1 _ _ a3 b0)) (xax (by rw[zGA I,eb])) J (xby _ rfl (SqT.of (m _ _ a4)) rfl (jEEA _ _ rfl (xas _ _ rfl rfl (a5 _ _ ?_)))));have a1:=o.1 _ _ a2 mf;obtain⟨p5,q5,b7⟩:=o.2;refine(jEAA _ rfl (.inl (jAE rfl _ (SqL.of a1))) ?_);refine(xbe _ rfl _ rfl ml _ rfl (.inl (SqL.of a1)) G (xap p5 q5 _ rfl b7 (by omega) (by omega) (λr6 H6 br bq f6=>?_)));obtain⟨Y,rfl⟩:∃i:Nat,r6=(i:Int):=⟨r6.toNat,by omega⟩;have au:Y<O.length:=by omega
 have an:=f6.1 _ _ a1 mf;refine(xah ml _ (Y:Int) Y (.str O[Y]) rfl rfl an (by omega) (by omega) (jAA (xse (by rw[az];exact au)) (by rw[zGM,zGA au];rfl) ?_));have er:(O.map V.str).eraseIdx Y=(O.eraseIdx Y).map V.str:=xp3 O Y;rw[er];refine(xbd _ rfl _ rfl (by walk_at"s") (λt ht=>?_));have st:=Same.new ht (.tup [.str (S "take"),.str O[Y],.str c5,.str y5]);have F6:Fed G H H6:=F4.trans (o.trans f6);have sb:Sb2 G ml H (upd (upd H6 ml (.lst ((O.eraseIdx Y).map V.str))) t (.tup [.str (S "take"),.str O[Y],.str c5,.str y5])):=((Sb2.of F6).upd mf _).same st
 refine q _ (.take O[Y] c5 y5) (O.eraseIdx Y) _ sb (st _ _ ups) (by rw[List.length_eraseIdx];split <;> omega) (λh=>absurd rfl (h _ _ _)) (xam t _ rfl ups _ _ rfl rfl _ (xbn _ rfl rfl _ _ rfl rfl (xas _ _ rfl rfl rfl))) (λ_=>ag) λb vs e=>st _ _ (by
  rw[xao λz=>by rw[z,aq]at e;cases e];exact xaj d.fd F6 b vs e)
structure RowsOk(ks:List Kn)(cs:List Chn)(x:Str)(bs:List (Str×Str))(rs:List Row):Prop where
 len:rs.length<=30
 ok:∀r∈rs,xeu ks cs x bs rs.length r
 last:∃r,rs.getLast?=some r/\r.ends
theorem xli{ks:List Kn}{cs:List Chn}{x:Str}{bs:List (Str×Str)}{n a:Nat}{r:Row}(h:xeu ks cs x bs n r)(l:n<=a):xeu ks cs x bs a r:=by
 cases r with
 |go g=>exact Nat.lt_of_lt_of_le h l
 |cond t g=>exact⟨h.1,Nat.lt_of_lt_of_le h.2 l⟩
 |_=>exact h
def xqh:Sp:=λvs H Q _=>∃(f nb:Addr) (kv cv bv:V) (ks:List Kn) (cs:List Chn) (bs:List (Str×Str)) (x:Str) (nms:List Str),vs=[.ref f,kv,cv,.str x,bv,.ref nb]/\DIn H f kv cv bv ks cs bs/\H nb=some (.lst (nms.map V.str))/\nms.length=26/\nb≠f/\∀rv rs H',Fed f H H'->RelD H' rv (.tup (rs.map Row.d))->RowsOk ks cs x bs rs->Q rv H'
theorem xrq{a:List Str}(h:a.length=26):cutV (a.map V.str) (some 20) (some 26)=((a.drop 20).take 6).map V.str:=by
 unfold cutV HT.sIx;rw[zLM,h,List.map_take,List.map_drop];rfl
theorem xsf{H:Hp}{us:List V}{rs:List Row}(h:RelDs H us (rs.map Row.d)){i:Nat}{v:V}(c:us[i]?=some v):∃(b:Addr) (r:Row) (zs:List V),rs[i]?=some r/\v=.ref b/\H b=some (.tup (.str r.hd::zs)):=by
 obtain⟨d,hd,rd⟩:=h.get c;rw[zGM]at hd;obtain⟨r,f,rfl⟩:=zMS hd;obtain⟨a,zs,e,g,_⟩:=xhx rd;exact(xbo a r zs f e g)
theorem xql{H:Hp}{us:List V}{ds:List D}{v:V}{d:D}(h:RelDs H us ds)(c:RelD H v d)(i:Nat):RelDs H (us.take i++v::us.drop i) (ds.take i++d::ds.drop i):=by
 have a:∀(i:Nat) {us:List V} {ds:List D},RelDs H us ds->RelDs H (us.take i) (ds.take i)/\RelDs H (us.drop i) (ds.drop i):=by
  intro i
  induction i with
  |zero=>intro us ds h;exact⟨rfl,h⟩
  | succ i b=>
   intro us ds h
   cases ds with
   |nil=>rw[show us=[] from h];exact⟨rfl,rfl⟩
   |cons d ds=>
    obtain⟨v,r,e,g,f⟩:=h;subst e;have:=b f;exact⟨(xas v _ rfl g this.1),this.2⟩
 have:=a i h;exact this.1.append (xas v _ rfl c this.2)
theorem xjz{f l:Addr}{H H1:Hp}{o:HO}(F:Fed f H H1)(hl:H l=none)(lf:l≠f):Fed f H (upd H1 l o):=by
 obtain⟨h1,p,q,h2⟩:=F;exact(jAE (λb u e n=>by rw[xao (neN e hl)];exact h1 b u e n) p ⟨q,by rw[xao (Ne.symm lf)];exact h2⟩)
theorem xoq(T:Tx K mg)(m:DefIs P w K mg base n "_law_take" qac xcl)(ab:DefIs P w K mg base n "_law_into" qas xkj)(U:DefIs P w K mg base n "_law_new_term" qak xhq)(ac:DefIs P w K mg base n "_law_deal" qa0 xmc):DefIs P w K mg base (n+1) "_law_rows" qa1 xqh:=by
 refine DefIs.of T.kC scl_rows (by walk_at"l") (λf ej A outer s H vs Q E hr h=>?_);obtain⟨I,nb,kv,cv,bv,ks,cs,bs,x,d1,rfl,d,d8,cq,ed,q⟩:=h;have nd:=scl_rows.nd;have c6:=d.c6;have b5:=d.b5
 refine⟨_,(zpn (psn 6 nd (xat xb5 rfl T.kT PyProof.Rows.boot_list (pc (xdq xgu (pv 5) (xdj pI) (xdj pI)) pN ss)))
   (zpn (psn 7 nd (xcb pN))
   (zpn (psn 8 nd (xak xba pI (pd m hr (va 0 (pc pI pN so)))))
   (zpn (xca PassesOwn.never rfl (xb1 rfl T.kX (pc (xak xcg (pv 8) pI) pN xa1)) (pgn 9 nd)
   (zpn (psn 10 nd (pd m hr (va 0 (pc pI pN so))))
   (zpo (xa6 (pR xfi (pv 10) pI (nM _)) (zpn (psn 11 nd (pd U hr (va 0 (va 1 (pc (xat xb5 rfl T.kT PyProof.Rows.boot_list (v1 4)) (pc pS pN so) zsc)))))
   (zpo (xbx (xc7 PySem.F.plainAttrs_list PySem.F.slot_list_append PySem.F.type_list_append xbt (pv 7) (pc (xau (pc pS (va 11 (pc (pd m hr (va 0 (v1 8))) pN zsc)) so)) pN sT))))) (zpo (xa6 (pR xa9 (pv 10) pI (nM _)) (zpo (xbx (xc7 PySem.F.plainAttrs_list PySem.F.slot_list_append PySem.F.type_list_append xbt (pv 7) (pc (pxl K (xcb (pc (xau (pc pS pN so)) (pc (xau (pc pS (pc (pd m hr (va 0 (v1 8))) pN zsc) so)) pN sT) sT)) (pd m hr (va 0 (pc pI pN so)))) pN ss)))) (zpo (xbx (xc7 PySem.F.plainAttrs_list PySem.F.slot_list_append PySem.F.type_list_append xbt (pv 7) (pc (pd ac hr (va 0 (va 1 (va 2 (va 3 (va 4 (v1 6))))))) pN zsc))))))))))
   (zpn (psn 12 nd (pd ab hr (va 2 (va 3 (v1 4)))))
   (zpn (xa6 (PW.pt (xci (pR xc2 (xan (xad (K:=K) rfl) rfl T.kS PySem.boot_len (v1 12)) pI (nM _)) (xb3 (pR xeo pS (xbp ["_law_row"] [none] rfl (by kernel_rfl) (xbs (K:=K) rfl (pv 7)) (λ_ _ _ _=>(pgc 0)) (λ_ _ _ _=>xbr) (λ_ _ _ _=>(px K (pv 0) pI))) (by with_unfolding_all rfl))))) (zpn (xde (pxl K (pv 12) (pd m hr (va 0 (pc (xan (xad (K:=K) rfl) rfl T.kS PySem.boot_len (v1 12)) pN zsc)))) (xbk (K:=K) rfl rfl (xaf (pgn 13 nd) (xaf (pgn 14 nd) xbj))))
   (zpo (xbx (xc7 PySem.F.plainAttrs_list PySem.F.slot_list_insert PySem.F.type_list_insert xnb (pv 7) (pc (pd m hr (va 0 (pc (xak xba (xan (xad (K:=K) rfl) rfl T.kS PySem.boot_len (v1 7)) pI) pN xa1))) (pc (xau (pc pS (pc (xc7 PySem.F.plainAttrs_list PySem.F.slot_list_pop PySem.F.type_list_pop xg9 (pv 6) (pc pI pN so)) (va 13 (v1 14)) zsc) so)) pN sT) zsc))))) pQ)
   (zpn (xa6 (pR xc2 (pd m hr (va 0 (pc pI pN so))) pI (nM _)) (zpo (xae (xak (xk0 (K:=K) rfl) (xat (xbq (K:=K) rfl) rfl T.kZ PyProof.Rows.boot_tuple (v1 7)) (xau (pc (xau (pc pS (pc (pd m hr (va 0 (v1 8))) pN zsc) so)) pN sT))))) pQ)
   (zpo (xae (xak (xk0 (K:=K) rfl) (xat (xbq (K:=K) rfl) rfl T.kZ PyProof.Rows.boot_tuple (v1 7)) (xau (pc (xau (pc pS pN so)) pN sT)))))))))))),xab λR1 ds=>?_⟩
 obtain⟨p0,q0,bu⟩:=d.fd;refine(xaq _ rfl _ rfl _ rfl nb _ rfl (SqL.of d8) (λc0 df=>?_));rw[xrq cq];obtain⟨a9,b8⟩:∃a9,(d1.drop 20).take 6=a9:=⟨_,rfl⟩;have da:a9.length=6:=by rw[<- b8,List.length_take,List.length_drop,cq];rfl
 rw[b8];have bg:=Same.new df (.lst (a9.map V.str));refine(xas c0 _ rfl (.inl (SqL.of ups)) (λml b9=>ds _ _ (xab λR2 dr=>?_)));have c4:=Same.new b9 (.lst (a9.map V.str));refine⟨(by walk_at"s"),λO ah=>dr _ _ (xab λR3 dq=>?_)⟩;have c3:=Same.new ah (.lst []);have s0:=bg.trans (c4.trans c3);obtain⟨H0,b3⟩:∃H0,H0=upd (upd (upd H c0 (.lst (a9.map V.str))) ml (.lst (a9.map V.str))) O (.lst []):=⟨_,rfl⟩;have cg:H0 O=some (.lst []):=by rw[b3];exact ups
 have ci:H0 ml=some (.lst (a9.map V.str)):=by rw[b3];exact c3 _ _ ups
 rw[<- b3]at s0⊢;clear b3;have bm:H ml=none:=xay bg b9;have bj:H O=none:=xay (bg.trans c4) ah;have aa:ml≠I:=Ne.symm (neN bu bm);have a0:O≠I:=Ne.symm (neN bu bj);have bi:O≠ml:=λz=>by rw[z,ups]at ah;cases ah
 have F0:Fed I H H0:=(Fed.refl bu).same s0;obtain⟨pA,qA,de⟩:=F0.2;refine(xaa _ rfl I pA qA 10 rfl de (by decide) (by decide) (λrm H1 e3 e2 f1=>(xas _ _ rfl rfl ?_)));obtain⟨many,bq,eg,e1⟩:∃many:Nat,1+rm=(many:Int)/\1<=many/\many<=10:=(jEAA ((1+rm).toNat) (by omega) (by omega) (by omega))
 suffices ca:R3 [some (.ref I),some kv,some cv,some (.str x),some bv,some (.ref nb),some (.ref ml),some (.ref O),some (.int (many:Int)),none,none,none,none,none,none] H1 by
  rw[<- bq]at ca;exact ca
 refine dq _ _ (xab λR4 dn=>?_);refine(xbc _ rfl _ _ rfl rfl _ rfl (jAA (by omega) (by omega) ?_))
 refine xcr (λi σ H'=>∃us,∃(rs:List Row) (ms:List Str) (o9 a2 a1:Option V),σ=[some (.ref I),some kv,some cv,some (.str x),some bv,some (.ref nb),some (.ref ml),some (.ref O),some (.int many),o9,a2,a1,none,none,none]/\Fed I H H'/\H' O=some (.lst us)/\RelDs H' us (rs.map Row.d)/\rs.length=i/\(∀r∈rs,xeu ks cs x bs many r)/\H' ml=some (.lst (ms.map V.str))/\ms.length<=6/\((∀r∈rs,r.hd≠S "take")->ms.length=6))
  (xal ([]) ([]) a9 none none (xbh none rfl (F0.trans f1) (f1.1 _ _ cg a0) rfl rfl (jAAA (λ_ h=>nomatch h) (f1.1 _ _ ci aa) (by omega) (λ_=>da)))) ?_ ?_
 ·rintro i σ H2 hi ⟨us,rs,ms,o9,a2,a1,rfl,F2,av,an,b6,a7,b0,ai,aw⟩
  have d2:=d.keep (xaj d.fd F2) F2.2;obtain⟨p2,q2,bt⟩:=F2.2;have bn:=an.length;rw[zLM]at bn
  have put:∀{H5:Hp} {u:V} {r:Row} {a5:List Str} (a2 a1:Option V),Fed I H H5->H5 O=some (.lst us)->RelDs H5 us (rs.map Row.d)->RelD H5 u r.d->xeu ks cs x bs many r->H5 ml=some (.lst (a5.map V.str))->a5.length<=6->((∀l c y,r≠.take l c y)->a5=ms)->
    (λi σ H'=>∃us,∃(rs:List Row) (ms:List Str) (o9 a2 a1:Option V),σ=[some (.ref I),some kv,some cv,some (.str x),some bv,some (.ref nb),some (.ref ml),some (.ref O),some (.int many),o9,a2,a1,none,none,none]/\Fed I H H'/\H' O=some (.lst us)/\RelDs H' us (rs.map Row.d)/\rs.length=i/\(∀r∈rs,xeu ks cs x bs many r)/\H' ml=some (.lst (ms.map V.str))/\ms.length<=6/\((∀r∈rs,r.hd≠S "take")->ms.length=6)) (i+1) [some (.ref I),some kv,some cv,some (.str x),some bv,some (.ref nb),some (.ref ml),some (.ref O),some (.int many),some (.int (0+(i:Int))),a2,a1,none,none,none] (upd H5 O (.lst (us++[u]))):=λ{H5 u r a5} a2 a1 F5 C a6 hu au ay db bp=>by
   have tp:∀b vs,H5 b=some (.tup vs)->upd H5 O (.lst (us++[u])) b=some (.tup vs):=λb vs e=>by
    rw[xao λz=>by rw[z,C]at e;cases e];exact e
   refine(xal (us++[u]) (rs++[r]) a5 _ a2 (xbh a1 rfl (xjz F5 bj a0) ups ?_ (by rw[zLA,List.length_singleton,b6]) (jAAA (λr' a4=>?_) (by rw[xao (Ne.symm bi)];exact ay) db (λhT=>?_))))
   ·rw[zAP]
    exact(a6.tups tp _).append (xas u ([]) rfl (hu.tups tp _) rfl)
   ·rcases zMA a4 with h |h
    ·exact a7 r' h
    ·rw[zMO h];exact au
   ·rw[bp λl c y e=>hT r (by simp) (by rw[e];rfl)]
    exact aw λr' a4=>hT r' (List.mem_append_left _ a4)
  refine xab λS1 bw=>?_;refine(xaa _ rfl I p2 q2 16 rfl bt (by decide) (by decide) (λfm H3 ei eh f3=>bw _ _ ?_));have F3:=F2.trans f3;have d3:=d2.fed f3;have cy:=xaj d2.fd f3;have G:=f3.1 _ _ av a0;have a8:=f3.1 _ _ b0 aa;have M:=an.tups cy _;obtain⟨p3,q3,b2⟩:=F3.2;obtain⟨ba,ub,dw,dg,dj⟩:=id d3.bd;refine(xbc _ rfl _ _ rfl rfl _ rfl (ite2 (λc1=>?_) (λc1=>?_)))
  ·
   refine xab λS2 di=>?_;refine(xaq _ rfl _ rfl _ rfl ba ub (congrArg (λv=>[v]) dw) (.inr (SqT.of dg)) (λbl bf=>?_));have sb:=Same.new bf (.lst ub);refine(xal I kv (.ref bl) ks bs (xby (S "num") rfl (d3.tin bf dj) (.inl rfl) (λta td H4 f4 rd tb=>di _ _ ?_)));have ak:Fed I H3 H4:=((Fed.refl b2).same sb).trans f4;have bz:=xaj d3.fd ak;have Y:=ak.1 _ _ G a0;obtain⟨p4,q4,af⟩:=f4.2;refine(jEAA _ rfl (.inl (jAE rfl _ (SqL.of Y))) ?_);refine(xbu _ rfl _ rfl _ rfl I p4 (xcf q4 many rfl af (by omega) (by omega) (λg H5 g0 g1 f5=>⟨(by walk_at"s"),λt ht=>?_⟩)));obtain⟨gn,rfl⟩:∃i:Nat,g=(i:Int):=⟨g.toNat,by omega⟩;have st:=Same.new ht (.tup [.str (S "if"),.ref ta,.int gn]);have Z:=(ak.trans f5).same st;have aj:=xaj d3.fd Z;have C:=Z.1 _ _ G a0;refine(xap O us _ rfl rfl C (xa4 (by omega)) ?_);exact put (r:=.cond td gn) _ _ (F3.trans Z) C (M.tups aj _) (xam t _ rfl ups _ _ rfl rfl _ (xbn _ rfl ((rd.tups (xaj (jEE p4 q4 af) f5) _).same st _) _ _ rfl rfl rfl)) ⟨tb.1,by omega⟩ (Z.1 _ _ a8 aa) ai λ_=>rfl
  ·refine(xa3 _ rfl rfl _ rfl (ite2 (λc2=>?_) (λc2=>?_)))
   ·
    refine(jEAA _ rfl (.inl (jAE rfl _ (SqL.of G))) ?_);refine⟨(by walk_at"s"),λt1 ar=>?_⟩;have s1:=Same.new ar (.tup [.str (S "end")]);refine(xai _ rfl _ rfl I p3 q3 (xbl many rfl (s1 _ _ b2) (by omega) (by omega) (λg H4 g0 g1 f4=>⟨(by walk_at"s"),λt2 aq=>⟨(by walk_at"s"),λll cl=>?_⟩⟩)));obtain⟨gn,rfl⟩:∃i:Nat,g=(i:Int):=⟨g.toNat,by omega⟩;have s2:=Same.new aq (.tup [.str (S "go"),.int gn]);have s3:=Same.new cl (.lst [.ref t1,.ref t2]);have ak:Fed I H3 _:=(((Fed.refl b2).same s1).trans f4).same (s2.trans s3);obtain⟨p5,q5,ae⟩:=ak.2
    have d4:ll≠I:=by
     obtain⟨p6,q6,h6⟩:=f4.2;exact Ne.symm (neN (s2 _ _ h6) cl)
    refine(xaa _ rfl I p5 q5 2 rfl ae (by decide) (by decide) (λr2 H5 ec ea f5=>?_));have Z:=ak.trans f5;have C:=Z.1 _ _ G a0;have ce:H4 t1=some (.tup [.str (S "end")]):=xaj (jEE p3 q3 (s1 _ _ b2)) f4 _ _ ups;have bx:=xaj (jEE p5 q5 ae) f5;have du:=bx _ _ ((s2.trans s3) _ _ ce);have dt:=bx _ _ (s3 _ _ ups);have bb:=f5.1 _ _ ups d4;have cz:r2=0\/r2=1:=by omega
    rcases cz with rfl |rfl
    ·refine(xa8 ll _ _ (.ref t1) rfl rfl (SqL.of bb) rfl O (xcf us _ rfl rfl C (xa4 (by omega)) ?_))
     exact put (r:=.fin) _ _ (F3.trans Z) C (M.tups (xaj d3.fd Z) _) (xas t1 _ rfl du (xas _ _ rfl rfl rfl)) trivial (Z.1 _ _ a8 aa) ai λ_=>rfl
    ·refine(xa8 ll _ _ (.ref t2) rfl rfl (SqL.of bb) rfl O (xcf us _ rfl rfl C (xa4 (by omega)) ?_))
     exact put (r:=.go gn) _ _ (F3.trans Z) C (M.tups (xaj d3.fd Z) _) (xam t2 _ rfl dt _ _ rfl rfl _ (jEAA _ rfl rfl rfl)) (by show gn<many;omega) (Z.1 _ _ a8 aa) ai λ_=>rfl
   ·
    refine(jEAA _ rfl (.inl (jAE rfl _ (SqL.of G))) ?_);refine(xar _ rfl _ rfl _ rfl _ rfl _ rfl (xaz _ rfl I ml kv cv (xal bv ks cs bs x (xbh ms rfl d3 a8 aa (by omega) (λu r a5 H4 bh az e0 bp hu au bz=>?_)))));have Y:=bh.1 _ _ G a0 bi;have F4:Fed I H H4:=⟨λb o e c9=>bh.1 b o (F3.1 b o e c9) c9 (neN e bm),bh.2⟩;refine(xap O us _ rfl rfl Y (xa4 (by omega)) ?_);exact put (r:=r) _ _ F4 Y (M.tups bz _) hu (au many) az (by omega) bp
 rintro σ H2 ⟨us,rs,ms,o9,a2,a1,rfl,F2,av,an,b6,a7,b0,ai,aw⟩;have dx:rs.length<=9:=by omega
 have d2:=d.keep (xaj d.fd F2) F2.2;refine dn _ _ (xab λR5 dm=>?_);refine(xbu _ rfl _ rfl _ rfl cv bv (xap cs x bs rfl d2.cd c6 d2.bd ⟨b5,λil ws H3 s3 dd ck cp ee=>dm _ _ (xab λR6 dl=>?_)⟩));have F3:Fed I H H3:=F2.same s3;have G:=s3 _ _ av;have a8:=s3 _ _ b0;have M:=an.same s3 _;obtain⟨p2,q2,bt⟩:=F2.2;have d5:il≠I:=Ne.symm (neN bt dd);have bn:=an.length;rw[zLM]at bn
 have am:∀(c8 c7:Option V) (H4:Hp) (us:List V) (rs:List Row),Fed I H H4->H4 O=some (.lst us)->RelDs H4 us (rs.map Row.d)->rs.length<=10->many<=rs.length+1->(∀r∈rs,xeu ks cs x bs many r)->R6 [some (.ref I),some kv,some cv,some (.str x),some bv,some (.ref nb),some (.ref ml),some (.ref O),some (.int many),o9,a2,a1,some (.ref il),c8,c7] H4:=λc8 c7 H4 us rs F4 Y ag dy ef au=>by
  refine dl _ _ (xab λR7 dk=>?_);obtain⟨p4,q4,af⟩:=F4.2;have cc:=ag.length;rw[zLM]at cc;refine(xaa _ rfl I p4 q4 4 rfl af (by decide) (by decide) (λr4 H5 e9 e8 f5=>(xas _ _ rfl rfl (jEA _ rfl ?_))));have aj:=xaj (jEE p4 q4 af) f5;have F5:=F4.trans f5;have C:=f5.1 _ _ Y a0;have a6:=ag.tups aj _
  have fin:∀{H6 H7:Hp} {tr tl:Addr} {v:V} {r:Row},Fed I H H6->Same H6 H7->H6 tr=some (.tup us)->RelDs H6 us (rs.map Row.d)->RelD H6 v r.d->r.ends->xeu ks cs x bs (rs.length+1) r->H7 tl=some (.tup (us++[v]))->Q (.ref tl) H7:=λ{H6 H7 tr tl v r} F6 s7 _ J hv he cf ao=>by
   refine q (.ref tl) (rs++[r]) H7 (F6.same s7) (xas tl _ rfl ao ?_) ⟨by rw[zLA,List.length_singleton];omega,λr' a4=>?_,(jEA r (by simp) he)⟩
   ·rw[zAP]
    exact(J.same s7 _).append (xas v ([]) rfl (hv.same s7 _) rfl)
   ·rw[zLA,List.length_singleton]
    rcases zMA a4 with h |h
    ·exact xli (au r' h) (by omega)
    ·rw[zMO h];exact cf
  refine ite2 (λc1=>?_) (λc1=>?_)
  ·refine(jEA _ rfl (jEEA O us rfl (.inl ⟨SqL.of C,λtr bo=>?_⟩)))
   have sr:=Same.new bo (.tup us);obtain⟨p5,q5,ae⟩:=f5.2;refine(xai _ rfl _ rfl I p5 q5 (xbl many rfl (sr _ _ ae) (by omega) (by omega) (λg H6 g0 g1 f6=>⟨(by walk_at"s"),λt1 ar=>⟨(by walk_at"s"),λt2 aq=>?_⟩⟩)));obtain⟨gn,rfl⟩:∃i:Nat,g=(i:Int):=⟨g.toNat,by omega⟩;have s1:=Same.new ar (.tup [.str (S "go"),.int gn]);have s2:=Same.new aq (.tup [.ref t1]);have b1:=xaj (jEE p5 q5 (sr _ _ ae)) f6;have F6:Fed I H _:=((F5.same sr).trans f6).same (s1.trans s2);have a3:=(s1.trans s2) _ _ (b1 _ _ ups);have J:=((a6.same sr _).tups b1 _).same (s1.trans s2) _;have hv:RelD (upd (upd H6 t1 (.tup [.str (S "go"),.int gn])) t2 (.tup [.ref t1])) (.ref t1) (Row.go gn).d:=(xam t1 _ rfl (s2 _ _ ups) _ _ rfl rfl _ (jEAA _ rfl rfl rfl));refine(xav tr t2 _ _ rfl rfl (SqT.of a3) (SqT.of ups) (fits (by rw[List.length_singleton];omega)) (jAA (λe=>?_) (λ_ e=>nomatch e) (λ_ _ tl ao=>?_)))
   ·exact fin F6 (Same.refl _) a3 J hv trivial (by show gn<_;omega) (by rw[ups,e];rfl)
   ·have s7:=Same.new ao (.tup (us++[.ref t1]))
    exact fin F6 s7 a3 J hv trivial (by show gn<_;omega) ups
  ·refine dk _ _ ?_
   refine(jEA _ rfl (jEEA O us rfl (.inl ⟨SqL.of C,λtr bo=>?_⟩)));have sr:=Same.new bo (.tup us);refine⟨(by walk_at"s"),λt1 ar=>⟨(by walk_at"s"),λt2 aq=>?_⟩⟩;have s1:=Same.new ar (.tup [.str (S "end")]);have s2:=Same.new aq (.tup [.ref t1]);have sA:=sr.trans (s1.trans s2);have F6:Fed I H _:=F5.same sA;have a3:=(s1.trans s2) _ _ (show upd H5 tr (.tup us) tr=some (.tup us) from ups);have J:=a6.same sA _;have hv:RelD (upd (upd (upd H5 tr (.tup us)) t1 (.tup [.str (S "end")])) t2 (.tup [.ref t1])) (.ref t1) Row.fin.d:=(xas t1 _ rfl (s2 _ _ ups) (xas _ _ rfl rfl rfl));refine(xav tr t2 _ _ rfl rfl (SqT.of a3) (SqT.of ups) (fits (by rw[List.length_singleton];omega)) (jAA (λe=>?_) (λ_ e=>nomatch e) (λ_ _ tl ao=>?_)))
   ·exact fin F6 (Same.refl _) a3 J hv trivial trivial (by rw[ups,e];rfl)
   ·have s7:=Same.new ao (.tup (us++[.ref t1]))
    exact fin F6 s7 a3 J hv trivial trivial ups
 have plain:R6 [some (.ref I),some kv,some cv,some (.str x),some bv,some (.ref nb),some (.ref ml),some (.ref O),some (.int many),o9,a2,a1,some (.ref il),none,none] H3:=am none none H3 us rs F3 G M (by omega) (by omega) a7;refine(xbg _ rfl il _ rfl (.inl (SqL.of ck)) _ _ rfl rfl (jEA _ rfl (ite2 (λc1=>?_) (λc1=>iteF plain))));have dz:=of_decide_eq_true c1;refine(xbd _ rfl O rfl ⟨_,SqL.of G⟩ ?_);refine xen (xs:=us) (λi ys H'=>H'=H3/\ys=((rs.take i).map Row.hd).map V.str) ⟨rfl,rfl⟩ (xa4 (by omega)) (λi ys H' _ p=>by obtain⟨rfl,_⟩:=p;exact SqL.of G) ?_ ?_
 ·rintro i y ys H' hy hi cj ⟨rfl,rfl⟩
  obtain⟨b,r,zs,a4,rfl,hb⟩:=xsf M hy;refine⟨ext1 rfl,xdd ?_⟩;refine(xaa _ rfl b _ _ _ rfl rfl (SqT.of hb) (xax (j:=0) rfl) (nxtG hi cj ⟨rfl,?_⟩));rw[zTA,a4,zAP,zAP];rfl
 rintro ys H' cj ⟨rfl,rfl⟩ D hD;rw[zTL (by omega)];have sD:=Same.new hD (.lst ((rs.map Row.hd).map V.str));refine(xcf D _ rfl (.inl (SqL.of ups)) rfl (xit _) (jEA _ rfl (ite2 (λc2=>?_) (λc2=>?_))))
 ·have d0:∀r∈rs,r.hd≠S "take":=λr a4 e=>by
   have dc:inV (.str (Str.ofString "take")) ((rs.map Row.hd).map V.str)=true:=by
    unfold inV;refine List.any_eq_true.mpr (jEA (.str r.hd) (List.mem_map_of_mem (List.mem_map_of_mem a4)) ?_);rw[e];decide +kernel
   have cr:(!inV (.str (Str.ofString "take")) ((rs.map Row.hd).map V.str))=true:=c2;rw[dc]at cr;cases cr
  have d9:=aw d0;have F4:=F3.same sD;have Y:=sD _ _ G;have az:=sD _ _ a8;have be:=sD _ _ ck;have ag:=M.same sD _;obtain⟨p4,q4,af⟩:=F4.2;refine xab λS1 bw=>?_;refine(xaq _ rfl _ rfl _ rfl il _ rfl (.inl (SqL.of be)) (xag I p4 q4 _ rfl af (by omega) (by omega) (λr5 H5 e7 e6 f5=>?_)));obtain⟨i5,rfl⟩:∃i:Nat,r5=(i:Int):=⟨r5.toNat,by omega⟩;have co:i5<ws.length:=by omega
  have aj:=xaj (jEE p4 q4 af) f5;obtain⟨cu,c5,y5,eb,dh,br⟩:=cp _ (List.getElem_mem co);refine(xa8 il _ _ (.ref cu) rfl rfl (SqL.of (f5.1 _ _ be d5)) (xax (by rw[zGA co,eb])) cu (xby _ rfl (SqT.of (aj _ _ (sD _ _ dh))) rfl (jEEA _ _ rfl (xas _ _ rfl rfl (bw _ _ ?_)))));have C:=f5.1 _ _ Y a0;have ay:=f5.1 _ _ az aa;have a6:=ag.tups aj _;obtain⟨p5,q5,ae⟩:=f5.2;refine(jEAA _ rfl (.inl (jAE rfl _ (SqL.of C))) ?_);refine(xbe _ rfl _ rfl O _ rfl (.inl (SqL.of C)) _ (jEAA _ rfl rfl (xag I p5 q5 _ rfl ae (by omega) (by omega) (λr6 H6 e5 e4 f6=>?_))));obtain⟨i6,rfl⟩:∃i:Nat,r6=(i:Int):=⟨r6.toNat,by omega⟩;have b1:=xaj (jEE p5 q5 ae) f6;have ch:=f6.1 _ _ C a0;have ax:=f6.1 _ _ ay aa;have J:=a6.tups b1 _
  obtain⟨m0,a5,dv⟩:∃m0 a5,ms=m0::a5:=by
   cases ms with
   |nil=>cases d9
   |cons a l=>exact(jEE a l rfl)
  subst dv;refine(jEAA _ rfl (.inl (jAE rfl _ (SqL.of ax))) (xah ml _ 0 0 (.str m0) rfl rfl ax (by decide) (by decide) (jAA (xse (k:=0) (by simp)) rfl ?_)));refine(xbd _ rfl _ rfl (by walk_at"s") (λt ht=>?_));have F6:Fed I H H6:=F4.trans (f5.trans f6);obtain⟨H7,al⟩:∃H7,H7=upd (upd H6 ml (.lst ((m0::a5).map V.str |>.eraseIdx 0))) t (.tup [.str (Str.ofString "take"),.str m0,.str c5,.str y5]):=⟨_,rfl⟩;have F7:Fed I H H7:=by rw[al];exact(xjz F6 bm aa).same (Same.new ht _)
  have b7:H7 O=some (.lst us):=by
   rw[al];exact Same.new ht _ _ _ (by rw[xao bi];exact ch)
  have cx:∀b vs,H6 b=some (.tup vs)->H7 b=some (.tup vs):=λb vs e=>by
   rw[al];exact Same.new ht _ _ _ (by rw[xao λz=>by rw[z,ax]at e;cases e];exact e)
  have d6:H7 t=some (.tup [.str (Str.ofString "take"),.str m0,.str c5,.str y5]):=by rw[al];exact ups
  have b4:=J.tups cx _;have cb:=b4.length;rw[zLM]at cb;refine(xav O us i6 (.ref t) rfl rfl (by rw[<- al];exact b7) (by omega) (by omega) ?_);rw[<- al]
  have cw:∀b vs,H7 b=some (.tup vs)->upd H7 O (.lst (us.take i6++.ref t::us.drop i6)) b=some (.tup vs):=λb vs e=>by
   rw[xao λz=>by rw[z,b7]at e;cases e];exact e
  have d7:RelD H7 (.ref t) (Row.take m0 c5 y5).d:=(xam t _ rfl d6 _ _ rfl rfl _ (xbn _ rfl rfl _ _ rfl rfl (xas _ _ rfl rfl rfl)));have bc:=(xql b4 d7 i6).tups cw _
  have em:(rs.map Row.d).take i6++(Row.take m0 c5 y5).d::(rs.map Row.d).drop i6=(rs.take i6++Row.take m0 c5 y5::rs.drop i6).map Row.d:=by
   rw[zAP,List.map_cons,List.map_take,List.map_drop]
  rw[em]at bc
  have cm:(rs.take i6++Row.take m0 c5 y5::rs.drop i6).length=rs.length+1:=by
   rw[zLA,List.length_cons,List.length_take,List.length_drop];omega
  refine am _ _ _ _ _ (xjz F7 bj a0) ups bc (by rw[cm];omega) (by rw[cm];omega) λr a4=>?_;rcases zMA a4 with h |h
  ·exact a7 r (List.mem_of_mem_take h)
  ·rcases zMC h with h |h
   ·rw[h];exact br
   ·exact a7 r (List.mem_of_mem_drop h)
 ·exact am none none _ us rs (F3.same sD) (sD _ _ G) (M.same sD _) (by omega) (by omega) a7
structure NIn(H:Hp)(nb:Addr)(nms:List Str):Prop where
 nl:H nb=some (.lst (nms.map V.str))
 ok:xi6 nms
 nby:∀z∈nms,NoBy z
theorem NIn.same{H c:Hp}{b:Addr}{a:List Str}(g:NIn H b a)(s:Same H c):NIn c b a:=⟨s _ _ g.nl,g.ok,g.nby⟩
theorem NIn.name{H:Hp}{b:Addr}{a:List Str}(g:NIn H b a){i:Nat}(h:i<26):∃z,a[i]?=some z/\atI (a.map V.str) (i:Int)=some (.str z):=by
 have c:=g.ok.1;exact(jEA (a[i]'(by omega)) (zGA _) (xax (by rw[zGM,zGA (by omega)];rfl)))
def xje(K:Fg):Sp:=λvs H Q _=>∃(a nb:Addr) (ns:List Int) (at_ many:Nat) (kv cv:V) (ks:List Kn) (cs:List Chn) (nms:List Str),vs=[.ref a,.int at_,kv,cv,.int many,.ref nb]/\SqL K H a (ns.map V.int)/\ns.length<=63/\NIn H nb nms/\RelD H kv (xdn ks)/\KWf ks/\PNB ks/\RelD H cv (.tup (cs.map dChn))/\ChsOk ks nms many cs/\1<=many/\many<=4 ∧
 ∀v mk H',Same H H'->RelD H' v mk.d->MakOk mk->mk.hands.map Hand.name=nms.take many->mk.chans=cs->Q v H'
def xl7(K:Fg):Sp:=λvs H Q _=>∃(a nb:Addr) (ns:List Int) (at_:Nat) (nms:List Str),vs=[.ref a,.int at_,.ref nb]/\SqL K H a (ns.map V.int)/\ns.length<=63/\NIn H nb nms ∧
 ∀v mk H',Same H H'->RelD H' v mk.d->MakOk mk->mk.hands≠[]->Q v H'
theorem xrg{ks:List Kn}{cs:List Chn}{a:List Str}{bs:List (Str×Str)}{rs:List Row}{x:Str}(b:BsOk ks a bs)(r:RowsOk ks cs x bs rs):HandOk ks cs ⟨x,bs,rs⟩:=⟨b.nd,b.len,b.kin,r.len,r.ok,r.last⟩
theorem xmz(T:Tx K mg)(p:DefIs P w K mg base n "_law_feed" qar (xkk K))(j:DefIs P w K mg base n "_law_boxes" qbc xr9)(m:DefIs P w K mg base n "_law_rows" qa1 xqh):DefIs P w K mg base (n+1) "_law_hands" qa3 (xje K):=by
 refine DefIs.of T.kE scl_hands (by walk_at"l") (λf ar A outer s H vs Q E hr h=>?_);obtain⟨a,O,ns,ao,many,kv,cv,ks,cs,x,rfl,hS,al,g,hk,wf,pb,hc,u,h1,h4,q⟩:=h;have nd:=scl_hands.nd;have am:=g.ok.1
 refine⟨_,(zpn (psn 6 nd (xcb pN))
   (zpn (xca PassesOwn.never rfl (xb1 rfl T.kX (v1 4)) (pgn 7 nd)
   (zpn (psn 8 nd (pd p hr (va 0 (pc (xak xba (pv 1) (pv 7)) pN xa1))))
   (zpn (psn 9 nd (pd j hr (va 8 (va 2 (va 3 (pc (pxl K (pv 5) (pv 7)) (v1 5) ss))))))
   (zpo (xbx (xc7 PySem.F.plainAttrs_list PySem.F.slot_list_append PySem.F.type_list_append xbt (pv 6) (pc (xau (pc (pxl K (pv 5) (pv 7)) (va 9 (pc (pd m hr (va 8 (va 2 (va 3 (pc (pxl K (pv 5) (pv 7)) (va 9 (v1 5)) ss))))) pN zsc)) ss)) pN sT)))))))
   (zpo (xae (xau (va 2 (va 3 (pc (xat (xbq (K:=K) rfl) rfl T.kZ PyProof.Rows.boot_tuple (v1 6)) pN zsc)))))))),xab λR1 ak=>?_⟩
 refine⟨(by walk_at"s"),λl hl=>ak _ _ (xab λR2 aj=>?_)⟩;have s0:=Same.new hl (.lst []);refine(xbd _ rfl _ rfl (by omega) ⟨by omega,?_⟩)
 refine xcr (λi σ H'=>∃us,∃(hs:List Hand) (o7 o8 o9:Option V),σ=[some (.ref a),some (.int ao),some kv,some cv,some (.int many),some (.ref O),some (.ref l),o7,o8,o9]/\Same H H'/\H' l=some (.lst us)/\RelDs H' us (hs.map Hand.d)/\hs.length=i/\hs.map Hand.name=x.take i/\∀h∈hs,HandOk ks cs h)
  (xah ([]) ([]) none none none rfl s0 ups rfl rfl ⟨rfl,λ_ h=>nomatch h⟩) ?_ ?_
 ·rintro i σ H1 hi ⟨us,hs,o7,o8,o9,rfl,s1,J,I,a6,M,Y⟩
  have aq:i<4:=by omega
  have e0:(0+(i:Int))=(i:Int):=by omega
  have aa:=I.length;rw[zLM]at aa;refine xab λS1 ai=>?_;refine(xaq _ rfl _ rfl _ rfl _ _ rfl rfl (xap a ns _ rfl (s1.seq hS) al (by omega) (λr p1 q1 nr=>ai _ _ (xab λS2 ah=>?_))));have sr:=Same.new nr (.lst [.int p1,.int q1]);obtain⟨H2,a0⟩:∃H2,H2=upd H1 r (.lst [.int p1,.int q1]):=⟨_,rfl⟩;have af:H2 r=some (.lst [.int p1,.int q1]):=by rw[a0];exact ups
  rw[<- a0]at sr⊢;clear a0;have G:=s1.trans sr;have g2:=g.same G;have a3:O≠r:=neN (g.same s1).nl nr;have lr:l≠r:=neN J nr;obtain⟨z,hz,az⟩:=g2.name (i:=i) (by omega);have a1:atI (x.map V.str) (0+(i:Int))=some (.str z):=by rw[e0];exact az
  have G2:GIn H2 r O kv ks x:=⟨(jEE p1 q1 af),g2.nl,g.ok,a3,g.nby,hk.same G _,wf,pb⟩;refine(xar _ rfl _ rfl _ rfl _ rfl _ rfl (xa8 O _ _ _ rfl rfl (SqL.of g2.nl) a1 _ (jAE rfl r (xal O kv cv ks x (xa5 cs z rfl G2 (hc.same G _) u.len u.kin (λbv bs H3 f3 a7 y=>ah _ _ ?_))))));have G3:=G2.fed f3;have a8:=xaj G2.fd f3;have a5:=f3.1 _ _ (sr _ _ J) lr;have d3:DIn H3 r kv cv bv ks cs bs:=⟨G3.fd,G3.kd,wf,pb,(hc.same G _).tups a8 _,u.len,λc Z=>(u.kin c Z).mono wf.few,a7,y.len,y.nd,λb hb=>g.nby _ (y.nm b hb),y.kin⟩;refine(jEAA _ rfl (.inl (jAE rfl _ (SqL.of a5))) ?_);refine(xai _ rfl _ rfl O _ _ (xbl _ rfl rfl (SqL.of G3.nl) a1 (jEA _ rfl ?_)));refine(xar _ rfl _ rfl _ rfl _ rfl _ rfl (xa8 O _ _ _ rfl rfl (SqL.of G3.nl) a1 _ (jAEA rfl _ rfl (xal r O kv cv bv (xah ks cs bs z x rfl d3 G3.nl am a3 (λrv rs H4 f4 ac ae=>⟨(by walk_at"s"),λt ht=>?_⟩))))));have st:=Same.new ht (.tup [.str z,bv,rv]);have an:=f3.trans f4;have a4:=f4.1 _ _ a5 lr;have a9:Same H1 H4:=Fed.back nr sr an;refine(xap l us _ rfl rfl (st _ _ a4) (xa4 (by omega)) ?_);have a2:=a9.trans st
  have C:∀b vs,upd H4 t (.tup [.str z,bv,rv]) b=some (.tup vs)->upd (upd H4 t (.tup [.str z,bv,rv])) l (.lst (us++[.ref t])) b=some (.tup vs):=λb vs e=>by
   rw[xao λz=>by rw[z,st _ _ a4]at e;cases e];exact e
  refine(xah (us++[.ref t]) (hs++[⟨z,bs,rs⟩]) _ _ _ rfl (λb o e=>?_) ups ?_ (by rw[zLA,List.length_singleton,a6]) ⟨?_,λh hh=>?_⟩)
  ·rw[xao (neN e hl)]
   exact a2 _ _ (s1 _ _ e)
  ·rw[zAP]
   refine((I.same a2 _).tups C _).append (xas (.ref t) ([]) rfl ?_ rfl);exact(xam t _ rfl (C _ _ ups) _ _ rfl rfl _ (xbn _ rfl (((a7.tups (xaj G3.fd f4) _).same st _).tups C _) _ _ rfl ((ac.same st _).tups C _) rfl))
  ·rw[zAP,M,zTA,hz]
   rfl
  ·rcases zMA hh with h' | h'
   ·exact Y h h'
   ·rw[zMO h']
    exact xrg y ae
 ·rintro σ H1 ⟨us,hs,o7,o8,o9,rfl,s1,J,I,a6,M,Y⟩
  refine aj _ _ ?_;refine(xbu _ rfl _ rfl _ rfl l us ⟨rfl,.inl ⟨SqL.of J,λt ht=>⟨(by walk_at"s"),λt2 ab=>?_⟩⟩⟩);have st:=Same.new ht (.tup us);have U:=Same.new ab (.tup [kv,cv,.ref t]);have sA:=s1.trans (st.trans U)
  have ag:(cs.map (·.1)).Nodup:=by
   rw[u.nm];exact(g.ok.2.1.sublist (List.drop_sublist _ _)).sublist (List.take_sublist _ _)
  refine q _ ⟨ks,cs,hs⟩ _ sA (xam t2 _ rfl ups _ _ rfl (hk.same sA _) _ (xbn _ rfl (hc.same sA _) _ _ rfl (xas t us rfl (U _ _ ups) (I.same (st.trans U) _)) rfl)) ⟨wf,ag,u.len,λc Z=>(u.kin c Z).mono wf.few,?_,by show hs.length<=4;omega,Y⟩ ?_ rfl
  ·show(hs.map Hand.name).Nodup
   rw[M];exact g.ok.2.1.sublist (List.take_sublist _ _)
  ·exact M
theorem xor(T:Tx K U)(b:DefIs P w K U base n "_law_feed" qar (xkk K))(m:DefIs P w K U base n "_law_take" qac xcl)(i:DefIs P w K U base n "_law_kinds" qa9 xl8)(c:DefIs P w K U base n "_law_channels" qbb xpq)(l:DefIs P w K U base n "_law_hands" qa3 (xje K)):DefIs P w K U base (n+1) "_law_make" qa2 (xl7 K):=by
 refine DefIs.of T.kD scl_make (by walk_at"l") (λf ak A outer s H vs Q E Y h=>?_);obtain⟨a,y,ns,o,u,rfl,hS,M,g,q⟩:=h;have nd:=scl_make.nd
 refine⟨_,(zpn (psn 3 nd (pd i Y (pc (pd b Y (va 0 (v1 1))) (v1 2) zsc)))
   (zpn (psn 4 nd (pd b Y (va 0 (pc (xak xba (pv 1) pI) pN xa1))))
   (zpn (psn 5 nd (xak xba pI (pd m Y (va 4 (pc pI pN so)))))
   (zpo (xae (pd l Y (va 0 (pc (xak xba (pv 1) pI) (va 3 (pc (pd c Y (va 4 (va 3 (va 2 (v1 5))))) (va 5 (v1 2)) zsc)) xa1)))))))),xab λR1 af=>?_⟩
 refine(xb4 _ rfl _ rfl a ns o rfl hS M ⟨by omega,λr p1 q1 nr=>?_⟩);have sr:=Same.new nr (.lst [.int p1,.int q1]);have g1:=g.same sr;have a7:y≠r:=neN g.nl nr;refine(xaz _ rfl r y p1 q1 (xbh u rfl ups g1.nl g.ok a7 (λkv ks H1 f1 a3 aa ag=>af _ _ (xab λR2 ae=>?_))));have O:Same H H1:=Fed.back nr sr f1;obtain⟨wf,h4,aj,a9⟩:=aa
 have pb:PNB ks:=λk hk p hp j=>by
  have hm:p.1∈u:=by
   have h9:=(a9 k hk).2;have a6:p.1∈k.parts.map (·.1):=List.mem_map_of_mem hp;rw[h9]at a6;exact List.mem_of_mem_drop (List.mem_of_mem_take (List.mem_of_mem_take a6))
  exact g.nby _ hm j
 refine(xbe _ rfl _ rfl _ _ rfl rfl a (xcf ns _ rfl (O.seq hS) M (by omega) (λr2 p2 q2 x=>ae _ _ (xab λR3 ac=>?_))));have G:=Same.new x (.lst [.int p2,.int q2]);have g2:=(g.same O).same G;have a0:y≠r2:=neN (g.same O).nl x;refine(xaa _ rfl r2 p2 q2 4 rfl ups (by decide) (by decide) (λhm H3 ai ah f3=>(xas _ _ rfl rfl ?_)));obtain⟨many,J,C,z⟩:∃many:Nat,1+hm=(many:Int)/\1<=many/\many<=4:=(jEAA ((1+hm).toNat) (by omega) (by omega) (by omega))
 suffices a1:R3 [some (.ref a),some (.int o),some (.ref y),some kv,some (.ref r2),some (.int (many:Int))] H3 by
  rw[<- J]at a1;exact a1
 refine ac _ _ ?_;have I:Same H1 H3:=Fed.back x G f3;have g3:=(g.same O).same I;have s3:=O.trans I;have a8:=f3.2;have G3:GIn H3 r2 y kv ks u:=⟨a8,g3.nl,g.ok,a0,g.nby,a3.same I _,wf,pb⟩;refine(xbe _ rfl _ rfl _ _ rfl rfl _ (jAEA rfl _ rfl (xbu _ rfl _ rfl _ rfl r2 y (xag kv ks u many rfl G3 C z (λcv cs H4 f4 ab a5=>?_)))));have Z:Same H1 H4:=Fed.back x G (f3.trans f4);have s4:=O.trans Z;refine(xai _ rfl _ rfl a y ns (xal (o+2) many kv cv ks (xa5 cs u ?_ (s4.seq hS) M (g.same s4) (a3.same Z _) (jAAA wf pb ab (jAAA a5 C z (λv mk H5 s5 hv a2 a4 _=>q v mk H5 (s4.trans s5) hv a2 λe=>?_))))))
 ·show[V.ref a,V.int ((o:Int)+2),kv,cv,V.int many,V.ref y]=_
  rw[show((o:Int)+2)=((o+2:Nat):Int) by omega]
 ·rw[e]at a4
  have:=congrArg List.length a4;rw[List.length_take,g.ok.1]at this;simp at this;omega
def xdi:Sp:=λvs H Q _=>∃(mv:V) (mk:Mak),vs=[mv]/\RelD H mv mk.d/\mk.hands.length<=4/\∀l,H l=none->Q (.ref l) (upd H l (.lst ((hn mk).map V.str)))
def xhn(K:Fg):Sp:=λvs H Q _=>∃(a:Addr) (ns:List Int) (at_:Nat) (mv:V) (mk:Mak),vs=[.ref a,.int at_,mv]/\SqL K H a (ns.map V.int)/\ns.length<=63/\RelD H mv mk.d/\mk.hands.length<=4/\mk.hands≠[]/\at_<=100 ∧
 ∀l (ws:List Str) H',Same H H'->H l=none->H' l=some (.lst (ws.map V.str))->(∀z∈ws,z∈hn mk)->ws.length<=315->Q (.ref l) H'
def HSeen(H:Hp)(mk:Mak)(s:HSt)(u:V)(hd:Hand):Prop:=∃b sa p lt ut,u=.ref b/\H b=some (.tup [.str hd.name,.ref sa,.ref lt,.int (s.ct hd.name:Nat)])/\StAt H sa p (s.sd hd.name).1 (s.sd hd.name).2/\H lt=some (.lst ut)/\RelDs H ut (s.tl hd.name)
def CSeen(H:Hp)(s:HSt)(u:V)(c:Chn):Prop:=∃b lt ut,u=.ref b/\H b=some (.tup [.str c.1,.ref lt])/\H lt=some (.lst ut)/\RelDs H ut (s.bt c.1)
structure StateAt(H:Hp)(t:Addr)(mk:Mak)(s:HSt):Prop where
 ex:∃l1 l2 us1 us2,H t=some (.tup [.ref l1,.ref l2])/\H l1=some (.lst us1)/\H l2=some (.lst us2)/\us1.length=mk.hands.length/\us2.length=mk.chans.length/\(∀(i:Nat) u hd,us1[i]?=some u->mk.hands[i]?=some hd->HSeen H mk s u hd)/\∀(i:Nat) u c,us2[i]?=some u->mk.chans[i]?=some c->CSeen H s u c
theorem HSeen.same{H c:Hp}{a:Mak}{s:HSt}{u:V}{hd:Hand}(h:HSeen H a s u hd)(q:Same H c):HSeen c a s u hd:=by
 obtain⟨b,f,p,lt,e,m,l,j,i,g⟩:=h;exact(xch b f p lt e m (q _ _ l) (j.same q) (q _ _ i) (g.same q _))
theorem CSeen.same{H a:Hp}{s:HSt}{u:V}{c:Chn}(h:CSeen H s u c)(q:Same H a):CSeen a s u c:=by
 obtain⟨b,lt,e,j,i,g,f⟩:=h;exact(xb0 b lt e j (q _ _ i) (q _ _ g) (f.same q _))
theorem StateAt.same{H j:Hp}{t:Addr}{g:Mak}{s:HSt}(h:StateAt H t g s)(q:Same H j):StateAt j t g s:=by
 obtain⟨m,l,f,e,y,x,w,r,p,o,n⟩:=h.ex;exact⟨m,(xb9 l f e (q _ _ y) (q _ _ x) (q _ _ w) r p (λi u hd a b=>(o i u hd a b).same q) (λi u c a b=>(n i u c a b).same q))⟩
def xgq(K:Fg):Sp:=λvs H Q _=>∃(x:Addr) (mv:V) (a:HsA) (s:HSt) (mk:Mak) (N:Nat),vs=[.ref x,mv]/\HsHere K H x mv a s mk N/\∀t H',Same H H'->StateAt H' t mk s->Q (.ref t) H'
def xl1(K:Fg):Sp:=λvs H Q _=>∃(x:Addr) (hv mv:V) (a:HsA) (s:HSt) (mk:Mak) (N:Nat) (hd:Hand) (r:Row),vs=[.ref x,hv]/\HsHere K H x mv a s mk N/\hd∈mk.hands/\RelD H hv hd.d/\hd.rows[(s.sd hd.name).1]?=some r/\∀H',Same H H'->Q (.bl (r.shutF s.bt)) H'
def xki(K:Fg):Sp:=λvs H Q _=>∃(x:Addr) (mv:V) (a:HsA) (s:HSt) (mk:Mak) (N:Nat),vs=[.ref x,mv]/\HsHere K H x mv a s mk N/\∀H',Same H H'->Q (.bl true) H'
def xl2(K:Fg):Sp:=λvs H Q _=>∃(x:Addr) (mv:V) (a:HsA) (s:HSt) (mk:Mak) (N:Nat),vs=[.ref x,mv]/\HsHere K H x mv a s mk N/\xhg mk s/\N<=800/\∀H',Same H H'->Q (.bl true) H'
def xet(H:Hp)(l:Addr):Hp:=λb=>if b=l then none else H b
theorem xe5{H:Hp}{l b:Addr}{o:HO}(e:H b=some o)(n:b≠l):xet H l b=some o:=by unfold xet;rw[if_neg n];exact e
theorem xlu{H a:Hp}{l:Addr}(s:Same H a):Same (xet H l) (xet a l):=λb o e=>by
 unfold xet at e;by_cases h:b=l
 ·rw[if_pos h]at e;cases e
 ·rw[if_neg h]at e
  exact xe5 (s b o e) h
theorem xpe{H:Hp}{l:Addr}:Same (xet H l) H:=λb o e=>by
 unfold xet at e;by_cases h:b=l
 ·rw[if_pos h]at e;cases e
 ·rw[if_neg h]at e
  exact e
theorem xn0{H:Hp}{l:Addr}{o:HO}:xet (upd H l o) l=xet H l:=by
 funext b
 unfold xet;by_cases h:b=l
 ·rw[if_pos h,if_pos h]
 ·rw[if_neg h,if_neg h,xao h]
theorem xlt{H:Hp}{l:Addr}{us:List V}(e:H l=some (.lst us)):∀b vs,H b=some (.tup vs)->xet H l b=some (.tup vs):=λb vs h=>xe5 h λz=>by rw[z,e]at h;cases h
theorem xh6(T:Tx K C):DefIs P w K C base (n+1) "_law_hands_of" qal xdi:=by
 refine DefIs.of T.kF xhv (by walk_at"l") (λf U A outer s H vs Q E hr h=>?_);obtain⟨Z,z,rfl,G,h4,q⟩:=h;obtain⟨I,kv,cv,hv,rfl,l,_,_,r⟩:=mk_d G;obtain⟨M,x,rfl,c,e⟩:=r;have m:=e.length;rw[zLM]at m;refine(jEA _ (zpo (xae (xbp ["_law_hand"] [none] rfl (by kernel_rfl) (xaw (K:=K) rfl (px K (pv 0) pI)) (λ_ _ _ _=>(pgc 0)) (λ_ _ _ _=>xbr) (λ_ _ _ _=>(px K (pv 0) pI))))) ?_);refine(xaa _ rfl I _ _ _ rfl rfl (SqT.of l) rfl (jEAA M rfl ⟨_,SqT.of c⟩ ?_));refine xbm (xs:=x) (λi ys j=>j=H/\ys=((hn z).take i).map V.str) ⟨rfl,by rw[List.take_zero];rfl⟩ (xa4 (by omega)) (λi ys j _ p=>by rw[p.1];exact SqT.of c) ?_ ?_
 ·rintro i y ys j J hi a ⟨rfl,rfl⟩
  obtain⟨d,g,rd⟩:=e.get J;rw[zGM]at g;obtain⟨hd,o,rfl⟩:=zMS g;obtain⟨u,bv,Y,rfl,b,_,_⟩:=hd_d rd;refine⟨ext1 rfl,xdd ?_⟩;refine(xaa _ rfl u _ _ _ rfl rfl (SqT.of b) rfl (nxtG hi a ⟨rfl,?_⟩));rw[zTA,zGM,o,zAP];rfl
 ·rintro ys j a ⟨rfl,rfl⟩ D O
  rw[zTL (by rw[zLM];omega)];exact q D O
theorem xms(T:Tx K Y)(g:MethIs P w K Y base n (ad K "Plain") "stand" qaa [[]] (xez K))(b:MethIs P w K Y base n (ad K "Plain") "letters" qat [[]] (xjc K)):DefIs P w K Y base (n+1) "_law_waits" qbe (xl1 K):=by
 refine DefIs.of T.kI scl_waits (by walk_at"l") (λf aa A outer s H vs Q E hr h=>?_);obtain⟨x,hv,mv,a,st,U,N,hd,r,rfl,l,o,a0,m,q⟩:=h;have hu:=xeg hr;have nd:=scl_waits.nd
 refine⟨_,(zpn (psn 2 nd (px K (px K (pv 1) pI) (px K (xb2 g T.k3.cl hr (pv 0) (pc (px K (pv 1) pI) pN ss)) pI)))
   (zpo (xae (xso (xcu xa9 (px K (pv 2) pI) pS (nM _)) (xge (xkp (xcu xa9 (px K (pv 2) pI) pS (nM _)) (xge (xcu (xsv (Nat.lt_of_succ_lt hu)) (xb2 b T.k3.cl hr (pv 0) (pc (px K (pv 2) pI) pN ss)) (xcb pN) (nM _))))))))),?_⟩
 obtain⟨fs,hx,lf⟩:=l.at_.ob;obtain⟨ha,bv,rv,rfl,J,_,h2⟩:=hd_d a0;obtain⟨ra,us,rfl,a1,hR⟩:=h2;have hl:=hR.length;rw[zLM]at hl;have a7:=(zES m).1;have hv:us[(st.sd hd.name).1]?=some (us[(st.sd hd.name).1]'(by omega)):=zGA _;obtain⟨d,M,rd⟩:=hR.get hv;rw[zGM,m]at M;cases M;have a2:hd.name∈hn U:=List.mem_map_of_mem o;refine(xaa _ rfl ha _ _ _ rfl rfl (SqT.of J) rfl (xbf _ rfl x _ fs rfl hx (lf.no _ (by walk_at"k")) _ rfl (xa8 ha _ _ _ rfl rfl (SqT.of J) rfl x (xch mv hd.name a st U rfl l.at_ a2 (by have:=l.ok.bxlen l.mok o;omega) (λsa p H1 u a6 O=>?_)))));refine(xa8 sa _ _ _ rfl rfl (SqT.of O.1) rfl ra (xap _ _ _ rfl rfl (SqT.of (u _ _ a1)) (xax hv) ?_));obtain⟨i,C,a5,I,G⟩:=xhx (rd.same u _);rw[a5];have z:SqT K H1 i (.str r.hd::C):=SqT.of I;have h0:atI (V.str r.hd::C) 0=some (.str r.hd):=xax (j:=0) rfl;have q1:=q H1 u
 cases r with
 |fin=>exact(xaa _ rfl i _ _ _ rfl rfl z h0 (jAEA rfl _ rfl (iteKT (hdT rfl) (q1))))
 | take lm c y=>
  obtain⟨_,_,rfl,rfl,_,_,rfl,rfl,_,_,rfl,rfl,rfl⟩:=G;refine(xaa _ rfl i _ _ _ rfl rfl z h0 (jAEA rfl _ rfl (iteKF (hdF (xir (by intro e;cases e))) ?_)));refine(xaa _ rfl i _ _ _ rfl rfl z h0 (jAEA rfl _ rfl (iteKT (hdT rfl) ?_)));obtain⟨ch,a4,rfl,a9,_⟩:=(l.mok.hok hd o).ok _ (zMG m);refine(xbf _ rfl x _ fs rfl (u _ _ hx) (lf.no _ (by walk_at"k")) _ rfl (xa8 i _ _ _ rfl rfl z rfl x (xal mv ch.1 a st U (jAAA rfl (l.at_.same u) (List.mem_map_of_mem a4) (λla zs H2 s2 a8 a3 Z=>?_)))));refine⟨(by walk_at"s"),λe he=>(xap la e zs rfl rfl (SqL.of (Same.new he _ _ _ a3)) (SqL.of ups) ?_)⟩
  have e1:Row.shutF st.bt (.take lm ch.1 y)=zs.isEmpty:=by
   show(st.bt ch.1).isEmpty=zs.isEmpty;have:=Z.length;cases hb:st.bt ch.1 <;> cases zs <;> rw[hb]at this <;> first |rfl |cases this
  rw[<- e1];exact q _ (u.trans (s2.trans (Same.new he _)))
 |_=>
  refine(xaa _ rfl i _ _ _ rfl rfl z h0 (jAEA rfl _ rfl (iteKF (hdF (xir (by intro e;cases e))) ?_)));exact(xaa _ rfl i _ _ _ rfl rfl z h0 (jAEA rfl _ rfl (iteKF (hdF (xd9 (by intro _ _ _ e;cases e))) q1)))
theorem xmt(T:Tx K mg)(g:DefIs P w K mg base n "_law_waits" qbe (xl1 K))(c:MethIs P w K mg base n (ad K "Plain") "still" ["self"] [[]] (xey K)):DefIs P w K mg base (n+1) "_law_still" qae (xki K):=by
 refine DefIs.of T.kJ scl_still (by walk_at"l") (λf a3 A outer s H vs Q E O h=>?_);obtain⟨x,mv,a,st,l,N,rfl,hs,q⟩:=h;have nd:=scl_still.nd;obtain⟨fs,hx,lf⟩:=hs.at_.ob;obtain⟨ma,kv,cv,hv,rfl,a0,_,_,a2⟩:=mk_d hs.md;obtain⟨ha,uh,rfl,C,G⟩:=a2;have a1:=G.length;rw[zLM]at a1;have h4:=hs.mok.hfew
 refine⟨_,(zpn (psn 2 nd (xan (xk7 rfl) rfl T.kN PyProof.Rows.boot_all (pc (xbp ["_law_hand","_law_house"] [none,some 0] rfl (by kernel_rfl) (xaw (K:=K) rfl (px K (pv 1) pI)) (λ_ _ _ _=>(pgc 0)) (λ_ _ _ _=>xbr) (λ_ _ _ _=>(pd g O (va 1 (v1 0))))) pN xbw)))
   (zpn (psn 3 nd (xfh c T.k3.cl O (pv 0)))
   (zpo (xae (xkp (xan xj4 rfl T.kR PyProof.Rows.boot_isinstance (va 3 (pc (xsq T.kO PyProof.Rows.boot_bool) pN zsn))) (xge (xcu xa9 (pv 3) (pv 2) (nM _)))))))),?_⟩
 refine(xaa _ rfl ma _ _ _ rfl rfl (SqT.of a0) rfl (jEAA ha rfl ⟨_,SqT.of C⟩ ?_));let M:Hand->Row:=λh=>(h.rows[(st.sd h.name).1]?).getD .fin
 have I:∀h∈l.hands,h.rows[(st.sd h.name).1]?=some (M h):=λh j=>by
  obtain⟨r,O⟩:=hs.row j;show _=some ((h.rows[(st.sd h.name).1]?).getD .fin);rw[O];rfl
 refine xbm (xs:=uh) (λi ys U=>Same H U/\ys=((l.hands.map λh=>(M h).shutF st.bt).take i).map V.bl) ⟨Same.refl _,by rw[List.take_zero];rfl⟩ (xa4 (by omega)) (λi ys U _ p=>SqT.of (p.1 _ _ C)) ?_ ?_
 ·rintro i y ys U hy hi o ⟨m,rfl⟩
  obtain⟨d,J,rd⟩:=G.get hy;rw[zGM]at J;obtain⟨hd,z,rfl⟩:=zMS J;have j:=zMG z;refine⟨ext1 rfl,xdd ?_⟩;refine(xai _ rfl _ rfl x _ _ (xal a st l N hd (xbh (M hd) rfl (hs.same m) j (rd.same m _) (I hd j) (λH2 Z=>nxtG hi o ⟨m.trans Z,?_⟩))));rw[zTA,zGM,z,zAP];rfl
 ·rintro ys U o ⟨m,rfl⟩ D hD
  rw[zTL (by rw[zLM];omega)];have sD:=Same.new hD (.lst ((l.hands.map λh=>(M h).shutF st.bt).map V.bl));have Y:=m.trans sD;refine(xas D _ rfl (SqL.of ups) ?_);refine(jEA _ rfl (xb0 x _ fs rfl (Y _ _ hx) (lf.no _ (by walk_at"k")) (xal x _ a st l (jEAA N rfl (hs.same Y) (λb H2 Z hb=>?_)))))
  have e:((l.hands.map λh=>(M h).shutF st.bt).all id)=b:=by
   have h1:=xgb I rfl;rw[Bool.eq_iff_iff];exact h1.trans hb.symm
  refine(xaz _ rfl (.bl b) _ _ _ (xbl _ rfl (λu r=>r) (.bl b) rfl (jEA _ rfl (iteT ?_))));refine(xbd _ rfl _ rfl rfl ?_);rw[e,zDT rfl];exact q _ (Y.trans Z)
theorem xmu(T:Tx K mg)(g:DefIs P w K mg base n "_law_hands_of" qal xdi)(m:MethIs P w K mg base n (ad K "Plain") "stand" qaa [[]] (xez K))(C:MethIs P w K mg base n (ad K "Plain") "told" qaa [[]] (xl3 K))(l:MethIs P w K mg base n (ad K "Plain") "letters" qat [[]] (xjc K))(r:MethIs P w K mg base n (ad K "Plain") "count" qaa [[]] (xgr K)):DefIs P w K mg base (n+1) "_law_state" qae (xgq K):=by
 refine DefIs.of T.kH scl_state (by walk_at"l") (λf b3 A outer s H vs Q E hr h=>?_);obtain⟨x,mv,a,st,J,N,rfl,hs,q⟩:=h;have nd:=scl_state.nd;have h4:=hs.mok.hfew;have h6:=hs.mok.cfew;obtain⟨fs,hx,lf⟩:=hs.at_.ob
 refine⟨_,(zpn (psn 2 nd (xcb pN))
   (zpn (xca PassesOwn.never rfl (xbs (K:=K) rfl (pd g hr (v1 1))) (pgn 3 nd)
   (zpo (xbx (xc7 PySem.F.plainAttrs_list PySem.F.slot_list_append PySem.F.type_list_append xbt (pv 2) (pc (xau (va 3 (pc (xb2 m T.k3.cl hr (pv 0) (v1 3)) (pc (xb2 C T.k3.cl hr (pv 0) (v1 3)) (pc (xb2 r T.k3.cl hr (pv 0) (v1 3)) pN zsc) zsc) zsc))) pN sT)))))
   (zpo (xae (xau (va 2 (pc (xbp ["_law_channel","_law_house"] [none,some 0] rfl (by kernel_rfl) (xaw (K:=K) rfl (px K (pv 1) pI)) (λ_ _ _ _=>(pgc 0)) (λ_ _ _ _=>xbr) (λ_ _ _ _=>(xau (pc (px K (pv 0) pI) (pc (xb2 l T.k3.cl hr (pv 1) (pc (px K (pv 0) pI) pN ss)) pN zsc) ss)))) pN xbw))))))),xab λR1 b1=>?_⟩
 refine⟨(by walk_at"s"),λY ak=>b1 _ _ (xab λR2 b0=>?_)⟩;have s1:=Same.new ak (.lst []);refine(xa0 _ rfl mv J rfl (hs.md.same s1 _) ⟨h4,λl2 a2=>?_⟩);have s2:=Same.new a2 (.lst ((hn J).map V.str));have a5:upd (upd H Y (.lst [])) l2 (.lst ((hn J).map V.str)) Y=some (.lst []):=s2 _ _ ups;have a0:upd (upd H Y (.lst [])) l2 (.lst ((hn J).map V.str)) l2=some (.lst ((hn J).map V.str)):=ups;have ah:=s1.trans s2;have aw:l2≠Y:=λz=>by rw[z,ups]at a2;cases a2
 generalize upd (upd H Y (.lst [])) l2 (.lst ((hn J).map V.str))=H2 at a5 a0 ah⊢;clear s1 s2 a2;refine(jEAA l2 rfl ⟨_,SqL.of a0⟩ ?_)
 refine xdb (xs:=(hn J).map V.str) (λi σ H'=>∃(us:List V) (o:Option V),σ=[some (.ref x),some mv,some (.ref Y),o]/\Same H H'/\H' Y=some (.lst us)/\H' l2=some (.lst ((hn J).map V.str))/\us.length=i/\∀(j:Nat) u hd,us[j]?=some u->J.hands[j]?=some hd->HSeen (xet H' Y) J st u hd)
  (xa5 ([]) none rfl ah a5 a0 rfl (λj u hd h=>by simp at h)) (λi σ H' _ p=>by obtain⟨_,_,_,_,_,h,_⟩:=p;exact SqL.of h) ?_ ?_
 ·rintro i v σ H' hv ⟨us,o,rfl,sm,G,a4,M,a8⟩
  rw[zGM,zGM]at hv;obtain⟨z,hz,rfl⟩:=zMS hv;obtain⟨hd,af,rfl⟩:=zMS hz;have al:=zMG af;have ab:hd.name∈hn J:=List.mem_map_of_mem al;have hi:i<J.hands.length:=(zES af).1;have l':=hs.at_.same sm;refine(jEAA _ rfl (.inl (jAE rfl _ (SqL.of G))) ?_);refine(xb4 _ rfl _ rfl x _ fs rfl (sm _ _ hx) (lf.no _ (by walk_at"k")) (xaz _ rfl x mv hd.name a (xcf st J rfl l' ab (by have:=hs.ok.bxlen hs.mok al;omega) (λsa p H3 U ai av=>?_))));refine(xbf _ rfl x _ fs rfl (U _ _ (sm _ _ hx)) (lf.no _ (by walk_at"k")) _ rfl (xal x mv hd.name a st (xby J rfl (l'.same U) ab (λlt ut H4 s4 ac aa a9=>?_))));refine(xbf _ rfl x _ fs rfl (s4 _ _ (U _ _ (sm _ _ hx))) (lf.no _ (by walk_at"k")) _ rfl (xal x mv hd.name a st (xbl J rfl ((l'.same U).same s4) ab (by walk_at"s") (λt ht=>?_))));have O:=Same.new ht (.tup [.str hd.name,.ref sa,.ref lt,.int (st.ct hd.name:Nat)]);have I:=U.trans (s4.trans O);have ar:=I _ _ G;refine(xap Y us (.ref t) rfl rfl ar (xa4 (by omega)) ?_);refine(xa5 (us++[.ref t]) _ rfl (λb o e=>?_) ups (by rw[xao aw];exact I _ _ a4) (by rw[zLA,List.length_singleton,M]) (λj u a3 hj hh=>?_))
  ·rw[xao (neN e ak)]
   exact I _ _ (sm _ _ e)
  ·rw[xn0]
   by_cases ae:j<us.length
   ·rw[List.getElem?_append_left ae]at hj
    exact(a8 j u a3 hj hh).same (xlu I)
   ·have Z:=(zES hj).1
    rw[zLA,List.length_singleton]at Z;have ej:j=i:=by omega
    subst ej;rw[af]at hh;cases hh;rw[List.getElem?_append_right (by omega),M,Nat.sub_self]at hj;cases hj;have a6:=xlt ar;have b2:=U _ _ G;refine(xch t sa p lt ut rfl (a6 _ _ ups) ((av.same (s4.trans O)).keep a6 λo e=>xe5 e λz=>?_) (xe5 (O _ _ aa) λz=>?_) ((a9.same O _).tups a6 _))
    ·rw[z,G]at ai;cases ai
    ·rw[z,b2]at ac;cases ac
 ·rintro σ H' ⟨us,o,rfl,sm,G,a4,M,a8⟩
  rw[zLM,zLM]at M;obtain⟨ma,kv,cv,hv,rfl,ax,_,az,_⟩:=mk_d (hs.md.same sm _);obtain⟨ca,uc,rfl,ao,aq⟩:=az;have ay:=aq.length;rw[zLM]at ay;refine b0 _ _ (xai _ rfl _ rfl ma _ _ (xbl _ rfl rfl (SqT.of ax) rfl (jEAA ca rfl ⟨_,SqT.of ao⟩ ?_)));refine xbm (xs:=uc) (λi ys H3=>Same H' H3/\ys.length=i/\∀(j:Nat) u c,ys[j]?=some u->J.chans[j]?=some c->CSeen H3 st u c) (jAA (Same.refl _) rfl (λj u c h=>by simp at h)) (xa4 (by omega)) (λi ys H' _ p=>SqT.of (p.1 _ _ ao)) ?_ ?_
  ·rintro i y ys H3 hy hi aj ⟨U,a7,ag⟩
   obtain⟨d,a3,rd⟩:=aq.get hy;rw[zGM]at a3;obtain⟨ch,am,rfl⟩:=zMS a3;obtain⟨au,_,rfl,an,_,ws,rfl,rfl,_⟩:=rd;have a1:=U _ _ an;have l3:=(hs.at_.same sm).same U;refine⟨ext1 rfl,xdd ?_⟩;refine(xaa _ rfl au _ _ _ rfl rfl (SqT.of a1) (xax (j:=0) rfl) ?_);refine(xbf _ rfl x _ fs rfl (U _ _ (sm _ _ hx)) (lf.no _ (by walk_at"k")) _ rfl (xa8 au _ _ _ rfl rfl (SqT.of a1) (xax (j:=0) rfl) x (xal _ ch.1 a st J (jAAA rfl l3 (List.mem_map_of_mem (zMG am)) (λlt ut H4 s4 ac aa a9=>⟨(by walk_at"s"),λt ht=>nxtG hi aj ?_⟩)))));have O:=Same.new ht (.tup [.str ch.1,.ref lt]);refine(jAA (U.trans (s4.trans O)) (by rw[zLA,List.length_singleton,a7]) (λj u c hj hh=>?_));by_cases ae:j<ys.length
   ·rw[List.getElem?_append_left ae]at hj
    exact(ag j u c hj hh).same (s4.trans O)
   ·have Z:=(zES hj).1
    rw[zLA,List.length_singleton]at Z;have ej:j=i:=by omega
    subst ej;rw[am]at hh;cases hh;rw[List.getElem?_append_right (by omega),a7,Nat.sub_self]at hj;cases hj;exact(xb0 t lt ut rfl ups (O _ _ aa) (a9.same O _))
  ·rintro ys H3 aj ⟨U,a7,ag⟩ D hD
   have sD:=Same.new hD (.lst ys);refine⟨(by walk_at"s"),λt ht=>?_⟩;have O:=Same.new ht (.tup [.ref Y,.ref D]);have I:=U.trans (sD.trans O);exact q t _ (sm.trans I) ⟨Y,(xb9 D us ys ups (I _ _ G) (O _ _ ups) (by omega) (by omega) (λj u hd a b=>((a8 j u hd a b).same xpe).same I) (λj u c a b=>(ag j u c a b).same (sD.trans O)))⟩
theorem xnh{H:Hp}:∀{kvs:List (Key×V)} {bx:List (Str×D)},KvD H kvs bx->∀p∈kvs,∃b∈bx,p.1=Sum.inr b.1/\RelD H p.2 b.2
 |[],[],_=>λp h=>nomatch h
 | j::kvs,b::bx,⟨i,g,f⟩=>λp h=>by
  rcases zMC h with rfl |h
  ·exact(jEAA b (by simp) i g)
  ·obtain⟨c,a,e⟩:=xnh f p h
   exact(jEA c (List.mem_cons_of_mem _ a) e)
 |[],_::_,h=>h.elim
 |_::_,[],h=>h.elim
theorem xpc{H:Hp}{a b:Addr}{g f:List (Key×V)}{bx:List (Str×D)}{n:Nat}(u:H a=some (.dK g))(s:H b=some (.dK f))(j:KvD H g bx)(i:KvD H f bx)(nd:(bx.map (·.1)).Nodup)(dp:∀b∈bx,b.2.deep<=12):EqS H (n+1) (.ref a) (.ref b):=by
 refine .inr (.inr (xav a b g f rfl rfl u s (j.length.trans i.length.symm) (λp o=>?_)));obtain⟨c,h,e,r⟩:=xnh j p o;obtain⟨v,m,l⟩:=i.val.2 _ (xj0 nd h);exact(jEA v (by rw[e];exact m) (.inl (jEAA c.2 r l (Nat.le_trans (dp c h) (by decide)))))
theorem xkd{H:Hp}{t t':Addr}{c:Mak}{s:HSt}{N:Nat}(h:StateAt H t c s)(h':StateAt H t' c s)(e:MakOk c)(o:HOk c s N):EqS H 12 (.ref t) (.ref t'):=by
 obtain⟨l1,l2,G,C,a1,a2,a3,a4,a5,a6,a7⟩:=h.ex;obtain⟨k1,k2,w,r,b1,b2,b3,b4,b5,b6,b7⟩:=h'.ex;have j:∀{n:Nat} (i:Int),EqS H n (.int i) (.int i):=λi=>EqS.dat (.inl (jEAA (.int i) rfl rfl (by show D.deep (.int i)<=100;unfold D.deep;decide)));have g:∀{n:Nat} (i:Str),EqS H n (.str i) (.str i):=λi=>EqS.dat (.inl (jEAA (.str i) rfl rfl (by show D.deep (.str i)<=100;unfold D.deep;decide)));refine .inr (.inl (xag t t' _ _ rfl rfl (.inl ⟨a1,b1⟩) rfl (λi u z a hz=>?_)));rcases i with _ |_ |i
 ·cases a;cases hz
  refine .inr (.inl (xag l1 k1 G w rfl rfl (.inr ⟨a2,b2⟩) (by omega) (λi u z a hz=>?_)));have hi:=(zES a).1;have f:c.hands[i]?=some (c.hands[i]'(by omega)):=zGA _;obtain⟨c1,sa,p,lt,y,rfl,e1,⟨e2,kb,a0,m⟩,Z,Y⟩:=a6 i u _ a f;obtain⟨d1,sb,p',I,x,rfl,U,⟨g2,a8,O,l⟩,M,J⟩:=b6 i z _ hz f;have b:=zMG f;generalize c.hands[i]=hd at *
  refine .inr (.inl (xag c1 d1 _ _ rfl rfl (.inl ⟨e1,U⟩) rfl (λi u z a hz=>?_)));rcases i with _ |_ |_ |_ |i
  ·cases a;cases hz;exact g _
  ·cases a;cases hz
   refine .inr (.inl (xag sa sb _ _ rfl rfl (.inl ⟨e2,g2⟩) rfl (λi u z a hz=>?_)));rcases i with _ |_ |i
   ·cases a;cases hz;exact j _
   ·cases a;cases hz
    exact xpc a0 O m l (by rw[o.keys hd b];exact(e.hok hd b).nd) (o.bxdeep e b)
   ·cases a
  ·cases a;cases hz
   exact EqS.dat (.inr (xah lt I y x _ rfl rfl Z M Y ⟨J,Nat.le_trans (xe6 (o.tok hd b).2) (by decide)⟩))
  ·cases a;cases hz;exact j _
  ·cases a
 ·cases a;cases hz
  refine .inr (.inl (xag l2 k2 C r rfl rfl (.inr ⟨a3,b3⟩) (by omega) (λi u z a hz=>?_)));have hi:=(zES a).1;have f:c.chans[i]?=some (c.chans[i]'(by omega)):=zGA _;obtain⟨c1,lt,y,rfl,e1,Z,Y⟩:=a7 i u _ a f;obtain⟨d1,I,x,rfl,U,M,J⟩:=b7 i z _ hz f;have b:=zMG f;generalize c.chans[i]=ch at *
  refine .inr (.inl (xag c1 d1 _ _ rfl rfl (.inl ⟨e1,U⟩) rfl (λi u z a hz=>?_)));rcases i with _ |_ |i
  ·cases a;cases hz;exact g _
  ·cases a;cases hz
   exact EqS.dat (.inr (xah lt I y x _ rfl rfl Z M Y ⟨J,Nat.le_trans (xe6 λd hd=>xgo e.wf (e.ckin ch b) ((o.cok ch b).2 d hd)) (by decide)⟩))
  ·cases a
 ·cases a
theorem xmv(T:Tx K Y)(c:DefIs P w K Y base n "_law_state" qae (xgq K))(b:DefIs P w K Y base n "_law_hands_of" qal xdi)(g:MethIs P w K Y base n (ad K "Plain") "step" qaa [[]] (xfc K))(e:MethIs P w K Y base n (ad K "Plain") "weave" qau [[]] (xex K)):DefIs P w K Y base (n+1) "_law_rests" qae (xl2 K):=by
 refine DefIs.of T.kK scl_rests (by walk_at"l") (λf ag A outer s H vs Q E y h=>?_);obtain⟨x,u,a,st,j,N,rfl,hs,J,ab,q⟩:=h;have nd:=scl_rests.nd;have a5:=xp0 y;have h4:=hs.mok.hfew
 refine⟨_,(zpn (psn 2 nd (pd c y (va 0 (v1 1))))
   (zpn (xca PassesOwn.never rfl (xbs (K:=K) rfl (pd b y (v1 1))) (pgn 3 nd)
   (zpo (xa6 (pR xqu (xb2 g T.k3.cl y (pv 0) (v1 3)) xgz (nM _)) (zpo (xae xgz)) pQ)))
   (zpo (xae (xkp (xcu xa9 (xb2 e T.k3.cl y (pv 0) (pc (xak xss (pd b y (v1 1)) pI) pN xa1)) pI (nM _)) (xge (xcu (xmr a5) (pd c y (va 0 (v1 1))) (pv 2) (nM _)))))))),xab λR1 aa=>?_⟩
 refine(xai _ rfl _ rfl x u a (xbo st j N rfl hs (λt H1 s1 a4=>aa _ _ (xab λR2 a9=>?_))));have a0:=hs.same s1;refine(xa0 _ rfl u j rfl a0.md ⟨h4,λl2 a7=>?_⟩);have s2:=Same.new a7 (.lst ((hn j).map V.str));have l:=a0.same s2;have C:upd H1 l2 (.lst ((hn j).map V.str)) l2=some (.lst ((hn j).map V.str)):=ups;have U:=s1.trans s2;have M:=a4.same s2;generalize upd H1 l2 (.lst ((hn j).map V.str))=H2 at s2 l C U M⊢;obtain⟨fs,hx,lf⟩:=l.at_.ob;refine(jEAA l2 rfl ⟨_,SqL.of C⟩ ?_);refine xdb (xs:=(hn j).map V.str) (λi σ H'=>∃(o:Option V),σ=[some (.ref x),some u,some (.ref t),o]/\H'=H2) (jEA none rfl rfl) (λi σ H' _ p=>by obtain⟨_,_,rfl⟩:=p;exact SqL.of C) ?_ ?_
 ·rintro i v σ H' hv ⟨o,rfl,rfl⟩
  rw[zGM,zGM]at hv;obtain⟨z,hz,rfl⟩:=zMS hv;obtain⟨hd,a8,rfl⟩:=zMS hz;have G:=zMG a8;obtain⟨r,m⟩:=l.row G;have sh:=J hd G r m;refine(xbf _ rfl x _ fs rfl hx (lf.no _ (by walk_at"k")) _ rfl (xal x u a st j (xb9 N hd r rfl l G m (by omega) (λ_=>?_) (λz=>(by rw[sh]at z;cases z)))));exact(jAEA rfl false rfl (jEA _ rfl (iteF (jEA _ rfl rfl))))
 ·rintro σ H' ⟨o,rfl,rfl⟩
  refine a9 _ _ (xbf _ rfl x _ fs rfl hx (lf.no _ (by walk_at"k")) _ rfl (xbv u j rfl l.md h4 (λl3 a6=>?_)));have s3:=Same.new a6 (.lst ((hn j).map V.str));have a1:((hn j).map V.str).length<=4:=by rw[zLM,zLM];exact h4
  refine(xb9 l3 2 _ rfl rfl ups (by decide) (by decide) (fits (by show _*2<=_;omega)) (λl4 a2=>?_));have e2:(List.replicate (2:Int).toNat ((hn j).map V.str)).flatten=(hn j++(hn j++[])).map V.str:=by rw[zAP,zAP];rfl
  rw[e2]at *
  have s4:=Same.new a2 (.lst ((hn j++(hn j++[])).map V.str));have O:=s3.trans s4;have Z:=l.same O;refine(xal x l4 u a st (xb9 j N (hn j++(hn j++[])) rfl Z ups (λz hz=>by rw[List.append_nil]at hz;rcases zMA hz with h |h <;> exact h) (λhF=>?_) ?_ (λn a' s' H5 af ae ac I=>?_)))
  ·obtain⟨o,ho,_⟩:=(l.same s3).at_.there l4 hF
   rw[a2]at ho;cases ho
  ·rw[List.append_nil,zLA]
   rw[zLM]at a1;omega
  ·obtain⟨rfl,rfl,rfl⟩:=I J
   refine(jAEA rfl _ rfl (iteKT (zDT rfl) ?_));refine(xai _ rfl _ rfl x u a' (xbo st j N rfl Z (λt2 H6 s6 a3=>?_)));have sA:=O.trans s6;exact(xby _ rfl (xkd a3 (M.same sA) hs.mok hs.ok) (jEEA _ _ rfl rfl) (q _ (U.trans sA)))
theorem xjn(T:Tx K mg)(c:DefIs P w K mg base n "_law_feed" qar (xkk K))(b:DefIs P w K mg base n "_law_take" qac xcl):DefIs P w K mg base (n+1) "_law_weaving" qbd (xhn K):=by
 refine DefIs.of T.kG scl_weaving (by walk_at"l") (λf ao A outer s H vs Q E hr h=>?_);obtain⟨a,ns,y,mv,mk,rfl,hS,a9,md,h4,af,am,q⟩:=h;have nd:=scl_weaving.nd
 refine⟨_,(zpn (psn 3 nd (xcb pN))
   (zpn (xca PassesOwn.never rfl (xmn rfl T.kX (va 1 (pc (xan (xiy rfl) rfl T.kW PyProof.Rows.boot_min (pc (xan (xad (K:=K) rfl) rfl T.kS PySem.boot_len (v1 0)) (pc pI pN so) zsc)) pN zsc))) (pgn 4 nd)
   (zpn (psn 5 nd (pd c hr (va 0 (v1 4))))
   (zpo (psn 3 nd (xak xgf (pv 3) (xbp ["_law_j","_law_make_here","_law_feed_here"] [none,some 2,some 5] rfl (by kernel_rfl) (xb1 rfl T.kX (pc pI pN so)) (λ_ _ _ _=>(pgc 0)) (λ_ _ _ _=>xbr) (λ_ _ _ _=>(px K (px K (px K (pv 1) pI) (pd b hr (va 2 (pc (xan (xad (K:=K) rfl) rfl T.kS PySem.boot_len (pc (px K (pv 1) pI) pN ss)) pN zsc)))) pI))))))))
   (zpo (xae (pv 3))))),?_⟩
 refine⟨(by walk_at"s"),λl0 a1=>?_⟩;have s0:=Same.new a1 (.lst []);have al:0<mk.hands.length:=List.length_pos_iff.mpr af;have ae:(ns.map V.int).length=ns.length:=zLM ..;refine(xbe _ rfl _ rfl a _ rfl (.inl (s0.seq hS)) _ (jEA _ rfl ?_))
 obtain⟨M,hM,an⟩:∃M:Nat,(if (63:Int)<((ns.map V.int).length:Nat) then (63:Int) else ((ns.map V.int).length:Nat))=(M:Nat)/\M<=63:=by
  refine(jEA ns.length ?_ a9);rw[ae,if_neg (by omega)]
 rw[hM];refine(xas _ _ rfl (jAAA (by omega) (by omega) (by omega) (by omega)) ?_);have a8:((M:Int)-(y:Nat)).toNat<=63:=by omega
 generalize ((M:Int)-(y:Nat)).toNat=ak at a8⊢
 refine xcr (n:=ak) (λi σ H'=>∃(x:Addr) (ws:List Str) (o4 o5:Option V),σ=[some (.ref a),some (.int y),some mv,some (.ref x),o4,o5]/\Same H H'/\H x=none/\H' x=some (.lst (ws.map V.str))/\(∀z∈ws,z∈hn mk)/\ws.length<=5*i)
  (xav l0 ([]) none none rfl s0 a1 ups (λz h=>nomatch h) (Nat.le_refl _)) ?_ ?_
 ·rintro i σ H1 hi ⟨x,ws,o4,o5,rfl,C,O,u,o,ab⟩
  refine(xb4 _ rfl _ rfl a ns _ rfl (C.seq hS) a9 ⟨by omega,λfd J I U=>?_⟩);have s2:=Same.new U (.lst [.int J,.int I]);have g:upd H1 fd (.lst [.int J,.int I]) fd=some (.lst [.int J,.int I]):=ups;generalize upd H1 fd (.lst [.int J,.int I])=H2 at s2 g⊢;have aa:=C.trans s2;obtain⟨ma,kv,cv,hv,rfl,a0,_,_,ai⟩:=mk_d (md.same aa _);obtain⟨ha,uh,rfl,a3,a4⟩:=ai;have ag:=a4.length;rw[zLM]at ag;refine(xbd _ rfl 5 rfl (by decide) ⟨by decide,?_⟩);refine xc8 (j:=0) (λj ys H'=>Fed fd H2 H'/\∃vs:List Str,ys=vs.map V.str/\∀z∈vs,z∈hn mk) (by rfl) (jAEA (Fed.refl g) ([]) rfl (λ_ h=>nomatch h)) (xa4 (by decide)) ?_ ?_
  ·rintro j ys H3 hj l ⟨f3,vs,rfl,p⟩
   have e:=xaj (jEE J I g) f3;obtain⟨p3,q3,a6⟩:=f3.2;refine(xaa _ rfl ma _ _ _ rfl rfl (SqT.of (e _ _ a0)) rfl (xai _ rfl _ rfl ma _ _ (xbl _ rfl rfl (SqT.of (e _ _ a0)) rfl (xas ha _ rfl (.inr (SqT.of (e _ _ a3))) (xag fd p3 q3 _ rfl a6 (by omega) (by omega) (λr H4 r0 r1 f4=>?_))))));have G:=xaj (jEE p3 q3 a6) f4;obtain⟨ri,rfl⟩:∃i:Nat,r=(i:Int):=⟨r.toNat,by omega⟩;have ac:ri<uh.length:=by omega
   have Y:uh[ri]?=some uh[ri]:=zGA ac;obtain⟨d,a7,rd⟩:=a4.get Y;rw[zGM]at a7;obtain⟨hd,ah,rfl⟩:=zMS a7;obtain⟨aj,bv,rv,eh,a2,_,_⟩:=hd_d rd;refine(xag ha _ _ _ rfl rfl (SqT.of (G _ _ (e _ _ a3))) (xax Y) ?_);rw[eh];refine(xag aj _ _ _ rfl rfl (SqT.of (G _ _ (e _ _ a2))) rfl (nxt hj l (jAEA (f3.trans f4) (vs++[hd.name]) (by rw[zAP];rfl) (λz hz=>?_))));rcases zMA hz with hz |hz
   ·exact p z hz
   ·rw[zMO hz];exact List.mem_map_of_mem (zMG ah)
  ·rintro ys H3 l ⟨f3,vs,rfl,p⟩ D hD
   have m:Same H1 H3:=Fed.back U s2 f3;have sD:=Same.new hD (.lst (vs.map V.str));have a5:=sD _ _ (m _ _ u);have e5:vs.length=5:=by rw[zLM]at l;exact l
   refine(xav x D _ _ rfl rfl a5 ups (fits (by rw[zLM,zLM];omega)) (λnp Z=>?_));have sN:=Same.new Z (.lst (ws.map V.str++vs.map V.str));have sA:=m.trans (sD.trans sN);refine(xav np (ws++vs) _ _ rfl (C.trans sA) (xay C (xay (m.trans sD) Z)) (by rw[zAP];exact ups) (λz hz=>?_) (by rw[zLA];omega));rcases zMA hz with hz |hz
   ·exact o z hz
   ·exact p z hz
 ·rintro σ H1 ⟨x,ws,o4,o5,rfl,C,O,u,o,ab⟩
  exact(jEA _ rfl (q x ws H1 C O u o (by omega)))
def spLaw(K:Fg):Sp:=λvs H Q _=>∃(a:Addr) (ns:List Int),vs=[.ref a]/\SqL K H a (ns.map V.int)/\ns.length<=63/\∀H',Q (.bl true) H'
theorem xtf(us:List V)(k:Nat):cutV us none (some (k:Int))=us.take k:=by
 unfold cutV;rw[HT.sIx_none,HT.sIx_nat,List.drop_zero,Nat.sub_zero];rcases Nat.le_total k us.length with h |h
 ·rw[Nat.min_eq_left h]
 ·rw[Nat.min_eq_right h,zTL (Nat.le_refl _),zTL h]
theorem xm5{a i:Hp}{C x f:Addr}(g:a x=none)(c:a f=none)(s:SameBut x (upd (upd a f (.own x)) x (.ins C f [])) i):Same a i/\∀b,(b=x\/upd (upd a f (.own x)) x (.ins C f []) b=none)->a b=none:=by
 refine⟨λb o e=>s b o ?_ (neN e g),λb h=>?_⟩
 ·rw[xao (neN e g),xao (neN e c)]
  exact e
 ·rcases h with rfl |h
  ·exact g
  ·cases e:a b with
   |none=>rfl
   |some o=>
    rw[xao (neN e g),xao (neN e c),e]at h;cases h
structure HsOn(K:Fg)(HB H:Hp)(x:Addr)(mv:V)(a:HsA)(s:HSt)(mk:Mak)(N:Nat):Prop where
 sm:Same HB H
 fr:∀b,a.F mk x b->HB b=none
 hs:HsHere K H x mv a s mk N
theorem HsOn.same{K:Fg}{e H f:Hp}{x:Addr}{b:V}{a:HsA}{s:HSt}{c:Mak}{N:Nat}(o:HsOn K e H x b a s c N)(q:Same H f):HsOn K e f x b a s c N:=⟨o.sm.trans q,o.fr,o.hs.same q⟩
theorem HsOn.step{K:Fg}{m H j:Hp}{x:Addr}{g:V}{a i:HsA}{s s':HSt}{c:Mak}{N l:Nat}(o:HsOn K m H x g a s c N)(f:HFr c x a i H j)(h:HsHere K j x g i s' c l):HsOn K m j x g i s' c l:=by
 refine⟨λb u e=>f.fr b u (o.sm b u e) λz=>?_,λb n=>?_,h⟩
 ·rw[o.fr b z]at e;cases e
 ·rcases f.nw b n with q |q
  ·exact o.fr b q
  ·exact xay o.sm q
theorem HsOn.out{K:Fg}{g H:Hp}{x l:Addr}{c:V}{a:HsA}{s:HSt}{b:Mak}{N:Nat}(o:HsOn K g H x c a s b N)(f:H l=none):¬a.F b x l:=λh=>by
 obtain⟨u,e,_⟩:=o.hs.at_.there l h;rw[f]at e;cases e
theorem xsx (T:Tx K mg) (Z:DefIs P w K mg base (n+1) "_law_names" qa7 xl5) (a6:DefIs P w K mg base (n+1) "_law_make" qa2 (xl7 K)) (c:DefIs P w K mg base (n+1) "_law_still" qae (xki K)) (e:DefIs P w K mg base (n+1) "_law_hands_of" qal xdi) (G:DefIs P w K mg base (n+1) "_law_weaving" qbd (xhn K)) (Y:DefIs P w K mg base (n+1) "_law_rests" qae (xl2 K)) (u:DefIs P w K mg base (n+1) "_law_state" qae (xgq K))
  (C:MethIs P w K mg base n (ad K "Plain") "__init__" qah [[]] (xjd K)) (O:MethIs P w K mg base (n+1) (ad K "Plain") "weave" qau [[]] (xex K)) (a0:MethIs P w K mg base (n+1) (ad K "Plain") "step" qaa [[]] (xfc K)) (m:MethIs P w K mg base (n+1) (ad K "Plain") "still" ["self"] [[]] (xey K)) (o:MethIs P w K mg base (n+1) (ad K "Plain") "count" qaa [[]] (xgr K)) :
  DefIs P w K mg base (n+2) "law" ["_law_script"] (spLaw K):=by
 refine DefIs.of T.kL sc_law (by walk_at"l") (λf cy A outer s H vs Q E U h=>?_);obtain⟨a,ns,rfl,hS,bo,k⟩:=h;have nd:=sc_law.nd;have hu:=xeg U;have c9:=xp0 U
 refine⟨_,(zpn (psn 1 nd (pd Z U (pc (xe2 (pR xc2 (xan (xad (K:=K) rfl) rfl T.kS PySem.boot_len (v1 0)) pI (nM _)) (xak xb8 (pxl K (pv 0) pI) pI) pI) (pc pI pN so) xoe)))
   (zpn (psn 2 nd (pd a6 U (va 0 (pc pI (v1 1) so))))
   (zpn (psn 3 nd (xh2 (ds:=[]) (dvs:=[]) C T.k3 U T.k0 (by simp) .nil (v1 2)))
   (zpn (xca PassesOwn.never rfl (xb1 rfl T.kX (pc pI pN so)) (pgn 4 nd)
   (zpn (xa6 (xhz (xgd (pd c U (va 3 (v1 2))))) (zpo (xae xgz)) pQ)
   (zpo (xbx (xb2 O T.k3.cl U (pv 3) (pc (pd e U (v1 2)) pN zsc))))))
   (zpn (psn 5 nd (xh2 (ds:=[]) (dvs:=[]) C T.k3 U T.k0 (by simp) .nil (v1 2)))
   (zpn (xca PassesOwn.never rfl (xbs (K:=K) rfl (xdq xgu (pd G U (va 0 (pc pI (v1 2) so))) xgy (xdj pI))) (pgn 6 nd)
   (zpo (xbx (xb2 a0 T.k3.cl U (pv 5) (v1 6)))))
   (zpn (xa6 (PW.pt (xol (xhz (xgd (pd c U (va 3 (v1 2))))) (xml (xhz (xgd (pd c U (va 5 (v1 2)))))))) (zpo (xae xgz)) pQ)
   (zpn (xa6 (xhz (xgd (xfh m T.k3.cl U (pv 3)))) (zpo (xae xgz)) pQ)
   (zpn (xa6 (xhz (xgd (pd Y U (va 3 (v1 2))))) (zpo (xae xgz)) pQ)
   (zpn (xca PassesOwn.never rfl (xbs (K:=K) rfl (pd e U (v1 2))) (pgn 6 nd)
   (zpo (xa6 (pR xc2 (xb2 o T.k3.cl U (pv 5) (v1 6)) (xb2 o T.k3.cl U (pv 3) (v1 6)) (nM _)) (zpo (xae xgz)) pQ)))
   (zpo (xae (xso (xsp (xfh m T.k3.cl U (pv 5))) (xge (xcu (xmr c9) (pd u U (va 3 (v1 2))) (pd u U (va 5 (v1 2))) (nM _)))))))))))))))),xab λR1 cq=>?_⟩
 have K1:∀b H1 a5,Same H H1->H1 b=some (.lst (a5.map V.str))->xi6 a5->(∀z∈a5,NoBy z/\NoMo z)->R1 [some (.ref a),some (.ref b),none,none,none,none,none] H1:=by
  intro b H1 a5 s1 hb af aa;refine cq _ _ (xab λR2 cp=>?_);refine(xai _ rfl _ rfl a b ns (xcf 1 a5 rfl (s1.seq hS) bo ⟨hb,af,λz hz=>(aa z hz).1⟩ (λI g H2 s2 md ac ca=>cp _ _ (xab λR3 co=>?_))));have bx:=s1.trans s2;have h4:=ac.hfew;have cw:((hn g).map V.str).length<=4:=by rw[zLM,zLM];exact h4
  clear hb aa;refine(jEA _ rfl (λx dx hx b0 ne=>?_));refine(xag x dx I g rfl ups (md.same (show Same H2 _ from(Same.new b0 _).trans (Same.new (by rw[xao (Ne.symm ne)];exact hx) _)) _) ac (λa1 H3 b5 bq bl=>⟨rfl,co _ _ (xab λR4 cm=>?_)⟩));obtain⟨bt,ba⟩:=xm5 hx b0 b5;have ab:HsOn K H2 H3 x I a1 (hs0 g) g 0:=⟨bt,λb hb=>ba b (bq b hb),bl⟩;clear b5 bq ba bl hx b0 ne;refine(xby 30 rfl (by decide) (by decide) ?_);refine xcr (n:=30) (λi σ H'=>∃(a':HsA) (st:HSt) (o4:Option V),σ=[some (.ref a),some (.ref b),some I,some (.ref x),o4,none,none]/\HsOn K H2 H' x I a' st g (4*i)/\Rch g (hs0 g) st) (xbo a1 (hs0 g) none rfl ab (.refl _)) ?_ ?_
  ·rintro i σ H' hi ⟨a',st,o4,rfl,on,rc⟩
   refine xab λS1 cf=>?_;refine(xai _ rfl _ rfl x I a' (xbo st g _ rfl on.hs (λH4 s4=>(jEA _ rfl (iteF (cf _ _ ?_))))));have a4:=on.same s4;obtain⟨fs,c6,lf⟩:=a4.hs.at_.ob;refine(xbf _ rfl x _ fs rfl c6 (lf.no _ (by walk_at"k")) _ rfl (xbv I g rfl a4.hs.md h4 (λl hl=>?_)));have sl:=Same.new hl (.lst ((hn g).map V.str));have b8:=a4.same sl;refine(xal x l I a' st (xb9 g _ (hn g) rfl b8.hs ups (λz hz=>hz) (a4.out hl) (by rw[zLM];omega) (λn a2 s2 H6 f6 h6 bz _=>?_)));refine(xbo a2 s2 _ rfl (b8.step f6 (h6.mono (by rw[zLM];omega))) (rc.trans bz))
  rintro σ H3 ⟨a1,a7,o4,rfl,ab,c2⟩;refine cm _ _ (xab λR5 ck=>?_);have bi:=ab.hs;have bw:=bx.trans ab.sm;clear ab;refine(jEA _ rfl (λy dy hy az ne=>?_));refine(xag y dy I g rfl ups (bi.md.same (show Same H3 _ from(Same.new az _).trans (Same.new (by rw[xao (Ne.symm ne)];exact hy) _)) _) ac (λa2 H4 b4 bp bj=>⟨rfl,ck _ _ (xab λR6 cj=>?_)⟩));obtain⟨aq,b9⟩:=xm5 hy az b4;have a4:HsOn K H3 H4 y I a2 (hs0 g) g 0:=⟨aq,λb hb=>b9 b (bp b hb),bj⟩;clear b4 bp b9 bj hy az ne;refine(xai _ rfl _ rfl a ns 7 (xa5 I g rfl ((bw.trans aq).seq hS) bo a4.hs.md h4 (jAA ca (by decide) (λl0 ws H5 s5 cc ao bg c7=>?_))));refine(xa0 _ rfl l0 _ rfl (SqL.of ao) (λlw ax=>?_));rw[show cutV (ws.map V.str) none (some (150:Int))=(ws.take 150).map V.str from(xtf _ 150).trans (List.map_take ..).symm]at *
  have sW:=Same.new ax (.lst ((ws.take 150).map V.str));have c8:∀z∈ws.take 150,z∈hn g:=λz hz=>bg z (List.mem_of_mem_take hz);have cb:(ws.take 150).length<=150:=List.length_take_le ..;generalize ws.take 150=vs at *
  have av:=(a4.same s5).same sW;have bc:=(a4.same s5).out ax;have a9:upd H5 lw (.lst (vs.map V.str)) lw=some (.lst (vs.map V.str)):=ups;generalize upd H5 lw (.lst (vs.map V.str))=H6 at av a9⊢;clear bg c7 ao cc s5 sW ax a4 aq;refine(jEAA lw rfl ⟨_,SqL.of a9⟩ ?_);have cv:(vs.map V.str).length=vs.length:=zLM ..;refine xdb (xs:=vs.map V.str) (λi σ H'=>∃(a':HsA) (st:HSt) (o6:Option V),σ=[some (.ref a),some (.ref b),some I,some (.ref x),o4,some (.ref y),o6]/\HFr g y a2 a' H6 H'/\HsOn K H3 H' y I a' st g i/\Rch g (hs0 g) st) (xb0 a2 (hs0 g) none rfl HFr.refl av (.refl _)) (λi σ H' _ p=>by obtain⟨_,_,_,_,fr,_⟩:=p;exact SqL.of (fr.fr _ _ a9 bc)) ?_ ?_
  ·rintro i v σ H' hv ⟨a',st,o6,rfl,fr,on,rc⟩
   have hi:=(zES hv).1;rw[zGM]at hv;obtain⟨z,hz,rfl⟩:=zMS hv;obtain⟨hd,ay,rfl⟩:=zMP (c8 z (zMG hz));obtain⟨r,an⟩:=on.hs.row ay;obtain⟨fs,c4,lf⟩:=on.hs.at_.ob;refine(xbf _ rfl y _ fs rfl c4 (lf.no _ (by walk_at"k")) _ rfl (xal y I a' st g (xb9 i hd r rfl on.hs ay an (by omega) (λsh=>?_) (λsh a3 H7 f7 h7=>?_))))
   ·exact(xb0 a' st _ rfl fr ⟨on.sm,on.fr,on.hs.mono (by omega)⟩ rc)
   ·exact(xb0 a3 _ _ rfl (fr.trans f7) (on.step f7 h7) (rc.trans (.one (xf7 ay r an sh rfl))))
  rintro σ H7 ⟨a3,ah,o6,rfl,_,au,c0⟩;refine cj _ _ (xab λR7 ci=>?_);have am:=bi.same au.sm;have al:=au.hs;clear au av a9 bc;refine(xai _ rfl _ rfl x I a1 (xbo a7 g _ rfl am (λH8 s8=>(jEA _ rfl (iteF ?_)))));refine(xai _ rfl _ rfl y I a3 (xbo ah g _ rfl (al.same s8) (λH9 s9=>(jEA _ rfl (iteF (ci _ _ (xab λR8 ch=>?_)))))));have a8:=am.same (s8.trans s9);have bh:=al.same (s8.trans s9);obtain⟨cr,c5,c3⟩:=a8.at_.ob;refine(jEA _ rfl (xb0 x _ cr rfl c5 (c3.no _ (by walk_at"k")) (xal x I a1 a7 g (jEAA _ rfl a8 (λbb d3 ar cd=>?_)))))
  cases bb with
  |false=>exact(jEA _ rfl (iteT (k _)))
  |true=>
  have b1:=cd.mp rfl;refine(jEA _ rfl (iteF (ch _ _ (xab λR9 cg=>?_))));refine(xai _ rfl _ rfl x I a1 (xap a7 g _ rfl (a8.same ar) b1 (by omega) (λbr b7=>(jEA _ rfl (iteF (cg _ _ (xab λcz bn=>?_)))))));have ai:Rch g ah a7:=c0.all ac c2 b1;have ae:=(a8.same ar).same b7;have aw:=(bh.same ar).same b7;refine(xa0 _ rfl I g rfl ae.md ⟨h4,λl hl=>?_⟩);have sl:=Same.new hl (.lst ((hn g).map V.str));have M:=ae.same sl;have J:=aw.same sl;have ag:upd br l (.lst ((hn g).map V.str)) l=some (.lst ((hn g).map V.str)):=ups;generalize upd br l (.lst ((hn g).map V.str))=cu at M J ag⊢;obtain⟨fA,bf,bd⟩:=M.at_.ob;obtain⟨fB,ak,aj⟩:=J.at_.ob;refine(jEAA l rfl ⟨_,SqL.of ag⟩ ?_);refine xdb (xs:=(hn g).map V.str) (λi σ H'=>∃(o6:Option V),σ=[some (.ref a),some (.ref b),some I,some (.ref x),o4,some (.ref y),o6]/\H'=cu) (jEA o6 rfl rfl) (λi σ H' _ p=>by obtain⟨_,_,rfl⟩:=p;exact SqL.of ag) ?_ ?_
  ·rintro i v σ H' hv ⟨o6,rfl,rfl⟩
   rw[zGM]at hv;obtain⟨z,hz,rfl⟩:=zMS hv;have be:=zMG hz;have cx:=ai.le z;refine(xbf _ rfl y _ fB rfl ak (aj.no _ (by walk_at"k")) _ rfl (xal y I z a3 ah (xby g rfl J.at_ be ?_)));refine(xbf _ rfl x _ fA rfl bf (bd.no _ (by walk_at"k")) _ rfl (xal x I z a1 a7 (xby g rfl M.at_ be ?_)));exact(xas _ _ rfl rfl (jEA _ rfl (iteKF (zDF (by omega)) (jEA _ rfl rfl))))
  ·rintro σ H' ⟨o6,rfl,rfl⟩
   refine bn _ _ ?_;refine(jEA _ rfl (xb0 y _ fB rfl ak (aj.no _ (by walk_at"k")) (xal y I a3 ah g (jEAA _ rfl J (λbb d2 b6 bm=>?_)))))
   cases bb with
   |false=>exact(jEA _ rfl (jEA _ rfl (iteT (k _))))
   |true=>
    obtain rfl:=ai.end_ (bm.mp rfl);refine(jEA _ rfl (jEA _ rfl (iteF ?_)));refine(xai _ rfl _ rfl x I a1 (xbo a7 g _ rfl (M.same b6) (λt1 d1 bv b3=>?_)));refine(xai _ rfl _ rfl y I a3 (xbo a7 g _ rfl ((J.same b6).same bv) (λt2 d0 bu b2=>?_)));exact(jAA (xkd (b3.same bu) b2 ac M.ok) (jEEA _ _ rfl rfl) (k _))
 refine(xbg _ rfl a _ rfl (.inl hS) _ _ rfl rfl (jEA _ rfl (ite2 (λc1=>?_) (λc1=>?_))))
 ·cases ns with
  |nil=>exact absurd (of_decide_eq_true c1) (by decide)
  |cons n0 ns=>
   refine(xaa _ rfl a _ _ _ rfl rfl hS (xax (j:=0) rfl) (xbv _ _ rfl rfl ⟨by decide,by decide⟩ (jEA _ rfl (λb H1 a5 s1 ce hb af aa=>K1 b H1 a5 s1 hb af aa))))
 ·exact(jEA _ rfl (λb H1 a5 s1 ce hb af aa=>K1 b H1 a5 s1 hb af aa))
theorem law_is(T:Tx K a):DefIs P w K a base 100 "law" ["_law_script"] (spLaw K):=by
 have take:∀k,DefIs P w K a base (k+1) "_law_take" qac xcl:=λk=>xg0 T;have size:DefIs P w K a base 28 "_law_size" qab (xgc 6):=(xmg T 6 (by omega)).mono (by omega);have r:DefIs P w K a base 30 "_law_parts" qay xjb:=xmw T (take 28) (size.mono (by omega));have p:∀k,DefIs P w K a base (k+2) "_law_any_kind" qam xog:=λk=>xh8 T (take k);have b:DefIs P w K a base 45 "worth" qad (xc0 (λks=>Ev ks 21) 6):=xj9 T 21 6 (by omega);have f:∀k,DefIs P w K a base (k+2) "hand_of" qag xe0:=λk=>xll (n:=k+1) T (xow T);have c:∀k,DefIs P w K a base (k+3) "row_at" qaj xfa:=λk=>xm3 (n:=k+2) T (f k);have e:DefIs P w K a base 50 "stride" qaq xew:=xm2 (n:=49) T (c 46) (xg2 (n:=48) T (xjp T) (b.mono (by omega))) (xfj (n:=48) T (xpv T) (b.mono (by omega)));have z:DefIs P w K a base 51 "done" qax xmb:=xqx (n:=50) T (c 47) e (xdk T) (b.mono (by omega));have step:∀k,52<=k->MethIs P w K a base k (ad K "Plain") "step" qaa [[]] (xfc K):=λk y=>(xg5 (n:=51) T z).mono y;have l:∀k,MethIs P w K a base (k+2) (ad K "Plain") "stand" qaa [[]] (xez K):=λk=>xf6 (n:=k+1) T (xh9 T);have g:∀k,53<=k->MethIs P w K a base k (ad K "Plain") "weave" qau [[]] (xex K):=λk y=>(xf3 (n:=52) T (step 52 (by omega))).mono y;have i:∀k,52<=k->MethIs P w K a base k (ad K "Plain") "still" ["self"] [[]] (xey K):=λk y=>(xf4 (n:=51) T (xf5 (n:=50) T (c 47) e (xdk T))).mono y
 have init:MethIs P w K a base 98 (ad K "Plain") "__init__" qah [[]] (xjd K):=xg6 (n:=97) T (xg7 (n:=96) T (xjr (n:=95) T (f 93) ((xib T 6).mono (by omega))));have s:∀k,DefIs P w K a base (k+1) "_law_hands_of" qal xdi:=λk=>xh6 T;have j:∀k,DefIs P w K a base (k+3) "_law_state" qae (xgq K):=λk=>xmu (n:=k+2) T (s (k+1)) (l k) (xg4 T) (xdf T) (xdz T);have m:DefIs P w K a base 80 "_law_new_term" qak xhq:=xjs T;have o:∀k,DefIs P w K a base (k+1) "_law_into" qas xkj:=λk=>xos T;have C:DefIs P w K a base 81 "_law_deal" qa0 xmc:=xot (n:=80) T (take 79) (o 79) m;have x:DefIs P w K a base 82 "_law_rows" qa1 xqh:=xoq (n:=81) T (take 80) (o 80) (m.mono (by omega)) C;have u:DefIs P w K a base 83 "_law_hands" qa3 (xje K):=xmz (n:=82) T (xg1 T) (xm0 (n:=81) T (take 80) (p 79)) x;have make:DefIs P w K a base 84 "_law_make" qa2 (xl7 K):=xor (n:=83) T (xg1 T) (take 82) ((xmy T (take 29) r).mono (by omega)) (xh7 (n:=82) T (take 81) (p 80)) u;exact xsx (n:=98) T (xmx T) (make.mono (by omega)) (xmt (n:=98) T (xms (n:=97) T (l 95) (xdf T)) (i 98 (by omega))) (s 98) (xjn (n:=98) T (xg1 T) (take 97)) (xmv (n:=98) T (j 95) (s 97) (step 98 (by omega)) (g 98 (by omega))) (j 96) init (g 99 (by omega)) (step 99 (by omega)) (i 99 (by omega)) (xdz T)
end
end K38
end
end
namespace PySem.W.Fast
theorem tw18321407865959806014:0=0:=rfl
theorem tw7573680339198368642:0=0:=rfl
theorem tw14136127230790252227:0=0:=rfl
theorem tw6870122016258379421:0=0:=rfl
theorem tw8190982474217076351:0=0:=rfl
theorem tw9555532055791427026:0=0:=rfl
theorem tw17478883545013862915:0=0:=rfl
theorem tw15181364152114358217:0=0:=rfl
theorem tw14272888822658790802:0=0:=rfl
theorem tw4583505893952013627:0=0:=rfl
theorem tw7108044295937401485:0=0:=rfl
theorem tw15853267397855635071:0=0:=rfl
theorem tw13864140780638512200:0=0:=rfl
theorem tw14938032947894109209:0=0:=rfl
theorem tw11889462302704676837:0=0:=rfl
theorem tw2944030028716708735:0=0:=rfl
theorem tw932341024308008566:0=0:=rfl
theorem tw6075912892241126993:0=0:=rfl
theorem tw12553533379854733514:0=0:=rfl
theorem tw6164404024953136711:0=0:=rfl
theorem tw6312550183177886049:0=0:=rfl
theorem tw4384607010440013306:0=0:=rfl
theorem tw17345168665778905309:0=0:=rfl
theorem tw4728164404257521472:0=0:=rfl
theorem tw8820165935125010071:0=0:=rfl
theorem tw132471990683368818:0=0:=rfl
theorem tw15939984839079357435:0=0:=rfl
theorem tw302909151177746912:0=0:=rfl
theorem tw5686787619630968604:0=0:=rfl
theorem tw10465236817608401410:0=0:=rfl
theorem tw4187785984330017634:0=0:=rfl
theorem tw16995916291320448709:0=0:=rfl
theorem tw1397107124340877349:0=0:=rfl
theorem tw6373866759453449877:0=0:=rfl
theorem tw5666496432286111333:0=0:=rfl
theorem tw3539507144055514753:0=0:=rfl
theorem tw9454371971455501066:0=0:=rfl
theorem tw13673790794097412048:0=0:=rfl
theorem tw1324033862470112402:0=0:=rfl
theorem tw17232926119085247796:0=0:=rfl
theorem tw17772301986465070954:0=0:=rfl
theorem tw10058376908233446274:0=0:=rfl
theorem tw11690201705109473719:0=0:=rfl
theorem tw419165059401376911:0=0:=rfl
theorem tw953507881550860546:0=0:=rfl
theorem tw6274019916651559301:0=0:=rfl
theorem tw17445014562514745042:0=0:=rfl
theorem tw14193797202279144587:0=0:=rfl
theorem tw13797029252039921229:0=0:=rfl
theorem tw13801274630183944415:0=0:=rfl
theorem tw12829195919592167838:0=0:=rfl
theorem tw4005746626371995923:0=0:=rfl
theorem tw12492428280587182197:0=0:=rfl
theorem tw7934805984404863894:0=0:=rfl
theorem tw3390208178512269595:0=0:=rfl
theorem tw7111597576260791103:0=0:=rfl
theorem tw4625842470102952717:0=0:=rfl
theorem tw8750289191455422776:0=0:=rfl
theorem tw1272947639142990987:0=0:=rfl
theorem tw3346827004007518477:0=0:=rfl
theorem tw13126326897138463059:0=0:=rfl
theorem tw18254895903211594682:0=0:=rfl
theorem tw4563107737817391692:0=0:=rfl
theorem tw2575922414097286270:0=0:=rfl
theorem tw18349574916289222611:0=0:=rfl
theorem tw9549461970615365029:0=0:=rfl
theorem tw14845806836675789484:0=0:=rfl
theorem tw11522980130438611151:0=0:=rfl
theorem tw16068468225349255543:0=0:=rfl
theorem tw18125062066506722331:0=0:=rfl
theorem tw17185483451851839514:0=0:=rfl
theorem tw11770207557140186492:0=0:=rfl
theorem tw13732666119567740686:0=0:=rfl
theorem tw10468569231014317384:0=0:=rfl
theorem tw2770091216493201829:0=0:=rfl
theorem tw17180608772274024408:0=0:=rfl
theorem tw5927954130778692819:0=0:=rfl
theorem tw9258885222493935478:0=0:=rfl
theorem tw5972394987398401125:0=0:=rfl
theorem tw7130694206967717377:0=0:=rfl
theorem tw5601280003751109594:0=0:=rfl
theorem tw8344542791813673335:0=0:=rfl
theorem tw14581046457838931973:0=0:=rfl
theorem tw422212445955636338:0=0:=rfl
theorem tw11264230775359423518:0=0:=rfl
theorem tw8580221322850056395:0=0:=rfl
theorem tw939791911679965757:0=0:=rfl
theorem tw13924768488723235506:0=0:=rfl
theorem tw14816190455992558083:0=0:=rfl
theorem tw12821521248485931859:0=0:=rfl
theorem tw9624458616701958610:0=0:=rfl
theorem tw16089421942054997261:0=0:=rfl
theorem tw16446893747875794275:0=0:=rfl
theorem tw16764323910086388202:0=0:=rfl
theorem tw13244393930058840766:0=0:=rfl
theorem tw6622894589956167519:0=0:=rfl
theorem tw17050554745703679403:0=0:=rfl
theorem tw1391305481823834264:0=0:=rfl
theorem tw4617349228901581882:0=0:=rfl
theorem tw3303232787918732160:0=0:=rfl
theorem tw9424743897936612870:0=0:=rfl
theorem tw1406710885287795202:0=0:=rfl
theorem tw16657950697503266385:0=0:=rfl
theorem tw15142201548134734859:0=0:=rfl
theorem tw12281893439931601988:0=0:=rfl
theorem tw14147907651557215187:0=0:=rfl
theorem tw7816747531385210483:0=0:=rfl
theorem tw5988754928859080528:0=0:=rfl
theorem tw1101543397163111125:0=0:=rfl
theorem tw9882842832335480918:0=0:=rfl
theorem tw6188022652219054129:0=0:=rfl
theorem tw619408304117923494:0=0:=rfl
theorem tw15089658028927920847:0=0:=rfl
theorem tw1425249083827924926:0=0:=rfl
theorem tw2853965081424830112:0=0:=rfl
theorem tw14454811508455068652:0=0:=rfl
theorem tw10181125787438931200:0=0:=rfl
theorem tw6588141050905451950:0=0:=rfl
theorem tw2273154409490421182:0=0:=rfl
theorem tw6373322815389522779:0=0:=rfl
theorem tw2348678611050767828:0=0:=rfl
theorem tw1645417105740804526:0=0:=rfl
theorem tw4633000195615542556:0=0:=rfl
theorem tw16374267095542656802:0=0:=rfl
theorem tw786095176836996059:0=0:=rfl
theorem tw13971153919781994741:0=0:=rfl
theorem tw12100227345808373513:0=0:=rfl
theorem tw15329051144549033664:0=0:=rfl
theorem tw9494508269296227330:0=0:=rfl
theorem tw3849726318910606799:0=0:=rfl
theorem tw15268545093996900882:0=0:=rfl
theorem tw17725694989283969008:0=0:=rfl
theorem tw16238714710198995275:0=0:=rfl
theorem tw138228896362181843:0=0:=rfl
theorem tw16874868554855995436:0=0:=rfl
theorem tw13922064301350114368:0=0:=rfl
theorem tw4673427387035397885:0=0:=rfl
theorem tw11733886042307821797:0=0:=rfl
theorem tw884280387787076829:0=0:=rfl
theorem tw145056732933930974:0=0:=rfl
theorem tw1126647153753651147:0=0:=rfl
theorem tw2080433624372089651:0=0:=rfl
theorem tw6948572288847674472:0=0:=rfl
theorem tw5984151615339814509:0=0:=rfl
theorem tw15254156068225573496:0=0:=rfl
theorem tw1212340564739822988:0=0:=rfl
theorem tw2776604178163588565:0=0:=rfl
theorem tw10259623137124685114:0=0:=rfl
theorem tw8050106704188439324:0=0:=rfl
theorem tw9645003676212235429:0=0:=rfl
theorem tw1919632172020403633:0=0:=rfl
theorem tw8076276694049583679:0=0:=rfl
theorem tw3636358114691962825:0=0:=rfl
theorem tw5719274155629322938:0=0:=rfl
theorem tw16335869191641306905:0=0:=rfl
theorem tw16796007760612130099:0=0:=rfl
theorem tw7920255709510667092:0=0:=rfl
theorem tw18122166864960051590:0=0:=rfl
theorem tw7251367244730284343:0=0:=rfl
theorem tw8572238431172195371:0=0:=rfl
theorem tw7488420405592033074:0=0:=rfl
theorem tw8877205142164909228:0=0:=rfl
theorem tw8504542526683155551:0=0:=rfl
theorem tw13714047030651965427:0=0:=rfl
theorem tw9864655220996313580:0=0:=rfl
theorem tw5370489935557403944:0=0:=rfl
theorem tw5233666159048155386:0=0:=rfl
theorem tw23007742323578780:0=0:=rfl
theorem tw8252132412169686663:0=0:=rfl
theorem tw11459070440831700157:0=0:=rfl
theorem tw3933641955778782939:0=0:=rfl
theorem tw7419822684544606134:0=0:=rfl
theorem tw3715945332128337215:0=0:=rfl
theorem tw1654633593484483334:0=0:=rfl
theorem tw2257225165026907289:0=0:=rfl
theorem tw13099827718783113807:0=0:=rfl
theorem tw3928252347971929434:0=0:=rfl
theorem tw16906496146949135774:0=0:=rfl
theorem tw6787180358132983915:0=0:=rfl
theorem tw10702753843159046022:0=0:=rfl
theorem tw11466565603468039822:0=0:=rfl
theorem tw2590579273150847167:0=0:=rfl
theorem tw12502731250814946648:0=0:=rfl
theorem tw13422642107330067620:0=0:=rfl
theorem tw5230952873932504338:0=0:=rfl
theorem tw6652431394078760836:0=0:=rfl
theorem tw462767255812061443:0=0:=rfl
theorem tw2120453246703323777:0=0:=rfl
theorem tw4863689422438309104:0=0:=rfl
theorem tw2230671679202705493:0=0:=rfl
theorem tw18040682957482471039:0=0:=rfl
theorem tw17354511092767175718:0=0:=rfl
theorem tw10379707668668684498:0=0:=rfl
theorem tw12649597604814209041:0=0:=rfl
theorem tw16423637290327027030:0=0:=rfl
theorem tw1751241124295022785:0=0:=rfl
theorem tw14074052826338847910:0=0:=rfl
theorem tw799412888992360426:0=0:=rfl
theorem tw7405581986644116043:0=0:=rfl
theorem tw12187469511615958989:0=0:=rfl
theorem tw7412702942896952574:0=0:=rfl
theorem tw16979682326669537211:0=0:=rfl
theorem tw8654572489011135812:0=0:=rfl
theorem tw3999247842815718329:0=0:=rfl
theorem tw18261599665047325546:0=0:=rfl
theorem tw1572945889924862411:0=0:=rfl
theorem tw10049490217935921977:0=0:=rfl
theorem tw14067434725286403976:0=0:=rfl
theorem tw14486446854658479957:0=0:=rfl
theorem tw4375685246364759138:0=0:=rfl
theorem tw6053485962771467613:0=0:=rfl
theorem tw866821804666429395:0=0:=rfl
theorem tw11915954820277943068:0=0:=rfl
theorem tw13074722855724260775:0=0:=rfl
theorem tw908210636047681574:0=0:=rfl
theorem tw7606704025121377895:0=0:=rfl
theorem tw4603553462548506723:0=0:=rfl
theorem tw18071493890872129319:0=0:=rfl
theorem tw42793568216820115:0=0:=rfl
theorem tw4656911646881413646:0=0:=rfl
theorem tw18148978468102249665:0=0:=rfl
theorem tw14978906879002486824:0=0:=rfl
theorem tw17265141743837696002:0=0:=rfl
theorem tw8539075133424549231:0=0:=rfl
theorem tw17068305386271966218:0=0:=rfl
theorem tw13462471366676697913:0=0:=rfl
theorem tw7934207625918520633:0=0:=rfl
theorem tw6646213356979114392:0=0:=rfl
theorem tw11206591904901046881:0=0:=rfl
theorem tw14387179386511370611:0=0:=rfl
theorem tw5186536826601196490:0=0:=rfl
theorem tw470509292992310794:0=0:=rfl
theorem tw12406209141040870451:0=0:=rfl
theorem tw4216771283606326324:0=0:=rfl
theorem tw497103977379008246:0=0:=rfl
theorem tw1320208970911603281:0=0:=rfl
theorem tw1446926045437741986:0=0:=rfl
theorem tw9499557415961148781:0=0:=rfl
theorem tw6519076402305765252:0=0:=rfl
theorem tw6512225730346428476:0=0:=rfl
theorem tw6122379131128679167:0=0:=rfl
theorem tw7418691945272385992:0=0:=rfl
theorem tw9414028400906411737:0=0:=rfl
theorem tw4769713101051391579:0=0:=rfl
theorem tw6147253445315666639:0=0:=rfl
theorem tw384983693901964456:0=0:=rfl
theorem tw13336582008812999936:0=0:=rfl
theorem tw5583031296972385301:0=0:=rfl
theorem tw15550344589945962225:0=0:=rfl
theorem tw17318966631027651398:0=0:=rfl
theorem tw11358880819198711914:0=0:=rfl
theorem tw16584297916777426494:0=0:=rfl
theorem tw2177070516069654516:0=0:=rfl
end PySem.W.Fast
open PySem PySem.W PyProof.Rows
set_option maxRecDepth 100000 in
set_option maxHeartbeats 0 in
theorem PySem.Challenge.cw_swapstride_k38_still_houses_holds : PySem.Challenge.rw_swapstride_k38_still_houses.Holds := by
 w_on;o_law;k_head;(case hw=>w_witness2)
 k_fill
 refine L2.walk_of (l:=PySem.Challenge.rw_swapstride_k38_still_houses) (n:=63) (k:=100) (x:="_law_script") (CX:=λ_=>L2.CX0) (sp:=λ_=>K38.spLaw _) rfl (by decide) rfl ⟨rfl,by decide,by decide⟩ (λw h Y=>PySem.W.kIn_of Y) ?F (λ_ _ a ns hl _ hS=>⟨a,ns,rfl,hS,hl,λ_=>rfl⟩) λ_ _ _ _ _ z=>z
 case F=>
  intro w mg fa h KX G hmg
  have jA:L2.DefTx (L2.KOf KX) mg "row_ways" K38.s_row_ways ["row","k"]:=by
   walk_at"d"
  have jB:L2.DefTx (L2.KOf KX) mg "hand_of" K38.s_hand_of L2.qag:=by
   walk_at"d"
  have jC:L2.DefTx (L2.KOf KX) mg "named" K38.s_named L2.qa4:=by
   walk_at"d"
  have jD:L2.DefTx (L2.KOf KX) mg "sort_of" K38.s_sort_of L2.qai:=by
   walk_at"d"
  have jE:L2.DefTx (L2.KOf KX) mg "parts_of" K38.s_parts_of L2.qai:=by
   walk_at"d"
  have jF:L2.DefTx (L2.KOf KX) mg "with_box" K38.s_with_box L2.qan:=by
   walk_at"d"
  have jG:L2.DefTx (L2.KOf KX) mg "nought" K38.s_nought L2.qao:=by
   walk_at"d"
  have jH:L2.DefTx (L2.KOf KX) mg "field" K38.s_field L2.qa5:=by
   walk_at"d"
  have jI:L2.DefTx (L2.KOf KX) mg "worth" K38.s_worth L2.qad:=by
   walk_at"d"
  have jJ:L2.DefTx (L2.KOf KX) mg "op_worth" K38.s_op_worth L2.qav:=by
   walk_at"d"
  have jK:L2.DefTx (L2.KOf KX) mg "case_worth" K38.s_case_worth L2.qad:=by
   walk_at"d"
  have jL:L2.DefTx (L2.KOf KX) mg "begin_of" K38.s_begin_of L2.qag:=by
   walk_at"d"
  have jM:L2.DefTx (L2.KOf KX) mg "own_stand" K38.s_own_stand ["stand"]:=by
   walk_at"d"
  have jN:L2.DefTx (L2.KOf KX) mg "row_at" K38.s_row_at L2.qaj:=by
   walk_at"d"
  have jO:L2.DefTx (L2.KOf KX) mg "first_letter" K38.s_first_letter L2.qap:=by
   walk_at"d"
  have jP:L2.DefTx (L2.KOf KX) mg "stride" K38.s_stride L2.qaq:=by
   walk_at"d"
  have jQ:L2.DefTx (L2.KOf KX) mg "row_behind" K38.s_row_behind L2.qa6:=by
   walk_at"d"
  have jR:L2.DefTx (L2.KOf KX) mg "boxes_behind" K38.s_boxes_behind L2.qaw:=by
   walk_at"d"
  have jS:L2.DefTx (L2.KOf KX) mg "done" K38.s_done L2.qax:=by
   walk_at"d"
  have jT:L2.DefTx (L2.KOf KX) mg "_law_feed" K38.sl_feed L2.qar:=by
   walk_at"d"
  have jU:L2.DefTx (L2.KOf KX) mg "_law_take" K38.sl_take L2.qac:=by
   walk_at"d"
  have jV:L2.DefTx (L2.KOf KX) mg "_law_names" K38.sl_names L2.qa7:=by
   walk_at"d"
  have jW:L2.DefTx (L2.KOf KX) mg "_law_number" K38.sl_number L2.qa8:=by
   walk_at"d"
  have jX:L2.DefTx (L2.KOf KX) mg "_law_sort_of" K38.sl_sort_of L2.qab:=by
   walk_at"d"
  have jY:L2.DefTx (L2.KOf KX) mg "_law_size" K38.sl_size L2.qab:=by
   walk_at"d"
  have jZ:L2.DefTx (L2.KOf KX) mg "_law_small" K38.sl_small L2.qab:=by
   walk_at"d"
  have j0:L2.DefTx (L2.KOf KX) mg "_law_parts" K38.sl_parts L2.qay:=by
   walk_at"d"
  have j1:L2.DefTx (L2.KOf KX) mg "_law_kinds" K38.sl_kinds L2.qa9:=by
   walk_at"d"
  have j2:L2.DefTx (L2.KOf KX) mg "_law_boxed" K38.sl_boxed L2.qaz:=by
   walk_at"d"
  have j3:L2.DefTx (L2.KOf KX) mg "_law_arms" K38.sl_arms L2.qba:=by
   walk_at"d"
  have j4:L2.DefTx (L2.KOf KX) mg "_law_whole_term" K38.sl_whole_term L2.qaf:=by
   walk_at"d"
  have j5:L2.DefTx (L2.KOf KX) mg "_law_term" K38.sl_term L2.qaf:=by
   walk_at"d"
  have j6:L2.DefTx (L2.KOf KX) mg "_law_new_term" K38.sl_new_term L2.qak:=by
   walk_at"d"
  have j7:L2.DefTx (L2.KOf KX) mg "_law_any_kind" K38.sl_any_kind L2.qam:=by
   walk_at"d"
  have j8:L2.DefTx (L2.KOf KX) mg "_law_channels" K38.sl_channels L2.qbb:=by
   walk_at"d"
  have j9:L2.DefTx (L2.KOf KX) mg "_law_boxes" K38.sl_boxes L2.qbc:=by
   walk_at"d"
  have kA:L2.DefTx (L2.KOf KX) mg "_law_into" K38.sl_into L2.qas:=by
   walk_at"d"
  have kB:L2.DefTx (L2.KOf KX) mg "_law_deal" K38.sl_deal L2.qa0:=by
   walk_at"d"
  have kC:L2.DefTx (L2.KOf KX) mg "_law_rows" K38.sl_rows L2.qa1:=by
   walk_at"d"
  have kD:L2.DefTx (L2.KOf KX) mg "_law_make" K38.sl_make L2.qa2:=by
   walk_at"d"
  have kE:L2.DefTx (L2.KOf KX) mg "_law_hands" K38.sl_hands L2.qa3:=by
   walk_at"d"
  have kF:L2.DefTx (L2.KOf KX) mg "_law_hands_of" K38.sl_hands_of L2.qal:=by
   walk_at"d"
  have kG:L2.DefTx (L2.KOf KX) mg "_law_weaving" K38.sl_weaving L2.qbd:=by
   walk_at"d"
  have kH:L2.DefTx (L2.KOf KX) mg "_law_state" K38.sl_state L2.qae:=by
   walk_at"d"
  have kI:L2.DefTx (L2.KOf KX) mg "_law_waits" K38.sl_waits L2.qbe:=by
   walk_at"d"
  have kJ:L2.DefTx (L2.KOf KX) mg "_law_still" K38.sl_still L2.qae:=by
   walk_at"d"
  have kK:L2.DefTx (L2.KOf KX) mg "_law_rests" K38.sl_rests L2.qae:=by
   walk_at"d"
  have kL:L2.DefTx (L2.KOf KX) mg "law" K38.s_law ["_law_script"]:=by
   walk_at"d"
  have kM:∃t,mg "WIDE"=some (.int 4294967296 t):=by
   refine' L2.gint_mk KX G ?a
   (case a=>k_is)
  have kN:mg "all"=none:=by
   refine' PySem.W.mg_none_of KX G ?a
   (case a=>k_is)
  have kO:mg "bool"=none:=by
   refine' PySem.W.mg_none_of KX G ?a
   (case a=>k_is)
  have kP:mg "dict"=none:=by
   refine' PySem.W.mg_none_of KX G ?a
   (case a=>k_is)
  have kQ:mg "int"=none:=by
   refine' PySem.W.mg_none_of KX G ?a
   (case a=>k_is)
  have kR:mg "isinstance"=none:=by
   refine' PySem.W.mg_none_of KX G ?a
   (case a=>k_is)
  have kS:mg "len"=none:=by
   refine' PySem.W.mg_none_of KX G ?a
   (case a=>k_is)
  have kT:mg "list"=none:=by
   refine' PySem.W.mg_none_of KX G ?a
   (case a=>k_is)
  have kU:mg "max"=none:=by
   refine' PySem.W.mg_none_of KX G ?a
   (case a=>k_is)
  have kW:mg "min"=none:=by
   refine' PySem.W.mg_none_of KX G ?a
   (case a=>k_is)
  have kX:mg "range"=none:=by
   refine' PySem.W.mg_none_of KX G ?a
   (case a=>k_is)
  have kY:mg "sum"=none:=by
   refine' PySem.W.mg_none_of KX G ?a
   (case a=>k_is)
  have kZ:mg "tuple"=none:=by
   refine' PySem.W.mg_none_of KX G ?a
   (case a=>k_is)
  have k0:mg "Plain"=some (.ref (L2.ad (L2.KOf KX) "Plain")):=by
   refine' PySem.W.mg_of KX G ?a
   (case a=>kernel_rfl)
  have k3:L2.DTab (L2.KOf KX) "Plain" ["make","stands","between","tellings","counts"]:=by
   refine' L2.dtab_of ?a
   (case a=>kernel_rfl)
  have k4:mg "House"=some (.ref (L2.ad (L2.KOf KX) "House")):=by
   refine' PySem.W.mg_of KX G ?a
   (case a=>kernel_rfl)
  have k5:L2.CTab (L2.KOf KX) "House" "__init__":=by
   refine' L2.ctab_of ?a
   (case a=>kernel_rfl)
  have k6:L2.MethTx (L2.KOf KX) "House.__init__" (L2.ad (L2.KOf KX) "House") "__init__" K38.s_House_init L2.qah [[]]:=by
   dsimp only[L2.KOf];refine' L2.meth_mk ?a ?i ?n ?l ?c ?k ?b
   (case a=>k_is);(case i=>k_is);(case n=>k_is);(case l=>k_is);(case c=>k_is);(case k=>k_is)
   (case b=>exact λ_ _ _ _ _ _ us hl=>match us,hl with |[_,_],_=>rfl)
  have k7:L2.MethTx (L2.KOf KX) "House.stand" (L2.ad (L2.KOf KX) "Plain") "stand" K38.s_Plain_stand L2.qaa [[]]:=by
   dsimp only[L2.KOf];refine' L2.meth_mk ?a ?i ?n ?l ?c ?k ?b
   (case a=>k_is);(case i=>k_is);(case n=>k_is);(case l=>k_is);(case c=>k_is);(case k=>k_is)
   (case b=>exact λ_ _ _ _ _ _ us hl=>match us,hl with |[_,_],_=>rfl)
  have k8:L2.MethTx (L2.KOf KX) "House.told" (L2.ad (L2.KOf KX) "Plain") "told" K38.s_Plain_told L2.qaa [[]]:=by
   dsimp only[L2.KOf];refine' L2.meth_mk ?a ?i ?n ?l ?c ?k ?b
   (case a=>k_is);(case i=>k_is);(case n=>k_is);(case l=>k_is);(case c=>k_is);(case k=>k_is)
   (case b=>exact λ_ _ _ _ _ _ us hl=>match us,hl with |[_,_],_=>rfl)
  have k9:L2.MethTx (L2.KOf KX) "House.letters" (L2.ad (L2.KOf KX) "Plain") "letters" K38.s_Plain_letters L2.qat [[]]:=by
   dsimp only[L2.KOf];refine' L2.meth_mk ?a ?i ?n ?l ?c ?k ?b
   (case a=>k_is);(case i=>k_is);(case n=>k_is);(case l=>k_is);(case c=>k_is);(case k=>k_is)
   (case b=>exact λ_ _ _ _ _ _ us hl=>match us,hl with |[_,_],_=>rfl)
  have uA:L2.MethTx (L2.KOf KX) "House.count" (L2.ad (L2.KOf KX) "Plain") "count" K38.s_Plain_count L2.qaa [[]]:=by
   dsimp only[L2.KOf];refine' L2.meth_mk ?a ?i ?n ?l ?c ?k ?b
   (case a=>k_is);(case i=>k_is);(case n=>k_is);(case l=>k_is);(case c=>k_is);(case k=>k_is)
   (case b=>exact λ_ _ _ _ _ _ us hl=>match us,hl with |[_,_],_=>rfl)
  have uB:L2.MethTx (L2.KOf KX) "Plain.__init__" (L2.ad (L2.KOf KX) "Plain") "__init__" K38.s_Plain_init L2.qah [[]]:=by
   dsimp only[L2.KOf];refine' L2.meth_mk ?a ?i ?n ?l ?c ?k ?b
   (case a=>k_is);(case i=>k_is);(case n=>k_is);(case l=>k_is);(case c=>k_is);(case k=>k_is)
   (case b=>exact λ_ _ _ _ _ _ us hl=>match us,hl with |[_,_],_=>rfl)
  have uC:L2.MethTx (L2.KOf KX) "Plain.step" (L2.ad (L2.KOf KX) "Plain") "step" K38.s_Plain_step L2.qaa [[]]:=by
   dsimp only[L2.KOf];refine' L2.meth_mk ?a ?i ?n ?l ?c ?k ?b
   (case a=>k_is);(case i=>k_is);(case n=>k_is);(case l=>k_is);(case c=>k_is);(case k=>k_is)
   (case b=>exact λ_ _ _ _ _ _ us hl=>match us,hl with |[_,_],_=>rfl)
  have uD:L2.MethTx (L2.KOf KX) "Plain.weave" (L2.ad (L2.KOf KX) "Plain") "weave" K38.s_Plain_weave L2.qau [[]]:=by
   dsimp only[L2.KOf];refine' L2.meth_mk ?a ?i ?n ?l ?c ?k ?b
   (case a=>k_is);(case i=>k_is);(case n=>k_is);(case l=>k_is);(case c=>k_is);(case k=>k_is)
   (case b=>exact λ_ _ _ _ _ _ us hl=>match us,hl with |[_,_],_=>rfl)
  have uE:L2.MethTx (L2.KOf KX) "Plain.still" (L2.ad (L2.KOf KX) "Plain") "still" K38.s_Plain_still ["self"] [[]]:=by
   dsimp only[L2.KOf];refine' L2.meth_mk ?a ?i ?n ?l ?c ?k ?b
   (case a=>k_is);(case i=>k_is);(case n=>k_is);(case l=>k_is);(case c=>k_is);(case k=>k_is)
   (case b=>exact λ_ _ _ _ _ _ us hl=>match us,hl with |[_],_=>rfl)
  have uF:L2.MethTx (L2.KOf KX) "Plain.stays" (L2.ad (L2.KOf KX) "Plain") "stays" K38.s_Plain_stays L2.qaa [[]]:=by
   dsimp only[L2.KOf];refine' L2.meth_mk ?a ?i ?n ?l ?c ?k ?b
   (case a=>k_is);(case i=>k_is);(case n=>k_is);(case l=>k_is);(case c=>k_is);(case k=>k_is)
   (case b=>exact λ_ _ _ _ _ _ us hl=>match us,hl with |[_,_],_=>rfl)
  have T:K38.Tx (L2.KOf KX) mg:=⟨jA,jB,jC,jD,jE,jF,jG,jH,jI,jJ,jK,jL,jM,jN,jO,jP,jQ,jR,jS,jT,jU,jV,jW,jX,jY,jZ,j0,j1,j2,j3,j4,j5,j6,j7,j8,j9,kA,kB,kC,kD,kE,kF,kG,kH,kI,kJ,kK,kL,kM,kN,kO,kP,kQ,kR,kS,kT,kU,kW,kX,kY,kZ,k0,k3,k4,k5,k6,k7,k8,k9,uA,uB,uC,uD,uE,uF⟩;exact L2.law_top kL hmg λbase=>K38.law_is T
