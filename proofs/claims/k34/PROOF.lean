import PyProof.Rows.All
import Wide.All
import OpenK.AllK
import Wide.FinOn
import Lean
import PyProof.EqAt
import PyProof.EqKinds
import PyProof.TupleCall
import PyProof.ZipIter
import PyProof.ListNew
import PyProof.TupleIter
import PyProof.WalksMore
import KE.KIntText
import PyProof.Rows.EqBoolInt
import PyProof.Rows.ZipGen
import PySem.Str
import PyProof.StrLawsTight
import PyProof.StrLawsIdx
import PyProof.StrLawsIn
import PyProof.Rows.SetFrom
import KE.KDictSum
import PyProof.Rows.SortWalk
import PyProof.NeKinds
import KE.KDictList
import KE.KRevIter
import PyProof.EnumMake
import PyProof.Rows.EnumRows
import PyProof.ExcInit
import PyProof.InstStoreFacts
import PyProof.ExcArgsOwn
import PyProof.ExcAttrAll.ValueError
import PyProof.ExcBaseAll.ValueError
import PyProof.ConsumeWalk
import PyProof.AttrMissHeap
import KE.KItemsList
import KE.KEqDict
import PyProof.StationsW
import PyProof.RulesAs
import PyProof.NsDelKeeps
import PyProof.ListMulRoad
import PyProof.FactsAll.tuple
import OpenK.KMore
import PyProof.DictWalks
import KE.KPairComp
import PyProof.DictValues
import PyProof.AutoListH
import PySem.Challenge.RW_swapstride_k34_rows_of_a_lone_hand
set_option Elab.async false
set_option linter.all false
set_option maxRecDepth 100000
set_option maxHeartbeats 4000000
abbrev Fg:=PySem.W.Frag
local macro_rules | `(tactic| walk_at"o")=>`(tactic| first |exact Or.inl rfl |exact Or.inr rfl)
local macro_rules | `(tactic| walk_at"q")=>`(tactic| exact⟨rfl,rfl,rfl,by decide +kernel,rfl,by decide +kernel,by decide +kernel⟩)
local macro_rules | `(tactic| walk_at"k")=>`(tactic| decide +kernel)
local macro_rules | `(tactic| walk_at"c")=>`(tactic| ((case a=>k_is);(case l=>k_is);(case c=>k_is);(case k=>k_is)))
set_option hygiene false in
local macro_rules | `(tactic| walk_at"d")=>`(tactic| (dsimp only[L2.KOf];refine' L2.deftx_mk KX G ?a ?l ?c ?k ?b;(case a=>k_is);(case l=>k_is);(case c=>k_is);(case k=>k_is);(case b=>(intro _ _ _ _ _ _ us hl;first |(obtain⟨_,rfl⟩:=L2.ln1 hl;rfl) |(obtain⟨_,_,rfl⟩:=L2.ln2 hl;rfl) |(obtain⟨_,_,_,rfl⟩:=L2.ln3 hl;rfl) |(obtain⟨_,_,_,_,rfl⟩:=L2.ln4 hl;rfl) |(obtain⟨_,_,_,_,_,rfl⟩:=L2.ln5 hl;rfl) |(obtain⟨_,_,_,_,_,_,rfl⟩:=L2.ln6 hl;rfl) |(obtain⟨_,_,_,_,_,_,_,rfl⟩:=L2.ln7 hl;rfl)))))
set_option hygiene false in
local macro_rules | `(tactic| walk_at"i")=>`(tactic| first |intro f cdv A outer s H vs Q E hr h |intro vs H Q E h)
local macro_rules | `(tactic| walk_at"s")=>`(tactic| first |(show 2 ≤ PySem.sizeLine;decide) |(show 3 ≤ PySem.sizeLine;decide) |(show 1 ≤ PySem.sizeLine;decide) |(show 0 ≤ PySem.sizeLine;decide) |(show 4 ≤ PySem.sizeLine;decide) |(show 5 ≤ PySem.sizeLine;decide) |(show 6 ≤ PySem.sizeLine;decide) |(show 8 ≤ PySem.sizeLine;decide))
theorem zGA{α:Type _}{l:List α}{i:Nat}(h:i<l.length):l[i]?=some l[i]:=List.getElem?_eq_getElem h
theorem zMS{α β:Type _}{f:α→β}{x:Option α}{b:β}(h:x.map f=some b):∃a,x=some a∧f a=b:=Option.map_eq_some_iff.mp h
theorem zLM{α β:Type _}{as:List α}(f:α→β):(as.map f).length=as.length:=List.length_map f
theorem zGM{α β:Type _}{f:α→β}{l:List α}{i:Nat}:(l.map f)[i]?=l[i]?.map f:=List.getElem?_map
theorem zES{α:Type _}{l:List α}{i:Nat}{a:α}(h:l[i]?=some a):∃h:i<l.length,l[i]=a:=List.getElem?_eq_some_iff.mp h
theorem zMG{α:Type _}{l:List α}{i:Nat}{a:α}(e:l[i]?=some a):a∈l:=List.mem_of_getElem? e
theorem zTL{α:Type _}{i:Nat}{l:List α}(h:l.length ≤ i):l.take i=l:=List.take_of_length_le h
theorem zMA{α:Type _}{a:α}{s t:List α}(h:a∈s++t):a∈s∨a∈t:=List.mem_append.mp h
theorem zMO{α:Type _}{a b:α}(h:a∈[b]):a=b:=List.mem_singleton.mp h
theorem zDT{p:Prop}[Decidable p](h:p):decide p=true:=decide_eq_true h
theorem zDF{p:Prop}[Decidable p](h:¬p):decide p=false:=decide_eq_false h
local macro_rules | `(tactic| walk_at"l")=>`(tactic| (intro vs H Q E h;(repeat (rcases h with⟨_,h⟩)) <;> (subst_vars;rfl)))
local macro_rules | `(tactic| walk_at"rd1")=>`(tactic| first
 |refine⟨_,rfl,?_⟩
 |refine⟨_,_,rfl,rfl,?_⟩
 |refine⟨_,_,_,_,rfl,rfl,(by assumption),(by first |rfl |assumption),?_⟩
 |refine⟨rfl,?_⟩
 |refine M.iteKF (by walk_at"k") ?_
 |refine M.iteKT (by walk_at"k") ?_)
local macro_rules | `(tactic| walk_at"rd")=>`(tactic| repeat walk_at"rd1")
local macro_rules | `(tactic| walk_at"rd1")=>`(tactic| first
 |refine⟨_,rfl,?_⟩
 |refine⟨_,_,rfl,rfl,?_⟩
 |refine⟨_,_,_,_,rfl,rfl,(by assumption),(by first |rfl |assumption),?_⟩
 |refine⟨_,_,rfl,.inl (by assumption),?_⟩
 |refine⟨(by first |exact .inr ⟨by decide,by decide⟩ |exact .inl ⟨by decide,by decide⟩ |exact⟨by decide,by decide,by decide⟩ |exact⟨by decide,by decide⟩ |exact⟨by assumption,by assumption⟩ |(show(0:Int)<_;first |decide |assumption)),?_⟩
 |refine⟨rfl,?_⟩)
section
open PySem
theorem zPO{h:Heap}{a:Addr}{u:Obj}(o:Obj)(e:h.get? a=some u):(h.push o).get? a=some u:=Heap.get?_push_of_some o e
theorem zLA{α:Type _}{as bs:List α}:(as++bs).length=as.length+bs.length:=List.length_append
theorem zMF{α:Type _}{p:α→Bool}{a:α}{l:List α}(h:l.find? p=some a):a∈l:=List.mem_of_find?_eq_some h
theorem zTA{α:Type _}{l:List α}{i:Nat}:l.take (i+1)=l.take i++l[i]?.toList:=List.take_add_one
theorem zMI{α:Type _}{a:α}{l:List α}(h:a∈l):∃(i:Nat) (h:i<l.length),l[i]=a:=List.mem_iff_getElem.mp h
theorem zMC{α:Type _}{a b:α}{l:List α}(h:a∈b::l):a=b∨a∈l:=List.mem_cons.mp h
theorem zMP{α β:Type _}{b:β}{f:α→β}{l:List α}(h:b∈l.map f):∃a,a∈l∧f a=b:=List.mem_map.mp h
theorem zAP{α β:Type _}{f:α→β}{as bs:List α}:(as++bs).map f=as.map f++bs.map f:=List.map_append
end
namespace L2
theorem ln1{α:Type}{l:List α}(h:l.length=1):∃a,l=[a]:=match l,h with |[a],_=>⟨a,rfl⟩
theorem ln2{α:Type}{l:List α}(h:l.length=2):∃a b,l=[a,b]:=match l,h with |[a,b],_=>⟨a,b,rfl⟩
theorem ln3{α:Type}{l:List α}(h:l.length=3):∃a b c,l=[a,b,c]:=match l,h with |[a,b,c],_=>⟨a,b,c,rfl⟩
theorem ln4{α:Type}{l:List α}(h:l.length=4):∃a b c d,l=[a,b,c,d]:=match l,h with |[a,b,c,d],_=>⟨a,b,c,d,rfl⟩
theorem ln5{α:Type}{l:List α}(h:l.length=5):∃a b c d e,l=[a,b,c,d,e]:=match l,h with |[a,b,c,d,e],_=>⟨a,b,c,d,e,rfl⟩
theorem ln6{α:Type}{l:List α}(h:l.length=6):∃a b c d e f,l=[a,b,c,d,e,f]:=match l,h with |[a,b,c,d,e,f],_=>⟨a,b,c,d,e,f,rfl⟩
theorem ln7{α:Type}{l:List α}(h:l.length=7):∃a b c d e f g,l=[a,b,c,d,e,f,g]:=match l,h with |[a,b,c,d,e,f,g],_=>⟨a,b,c,d,e,f,g,rfl⟩
end L2
section
theorem gcut{A:Prop}(h:∀G:Prop,(A->G)->G):A:=h A id
theorem jAA{p:Prop}{q:Prop}{F:Prop}(H0:p)(H1:q)(k:F):p/\q/\F:=⟨H0,H1,k⟩
theorem jAAA{p:Prop}{q:Prop}{r:Prop}{F:Prop}(H0:p)(H1:q)(H2:r)(k:F):p/\q/\r/\F:=⟨H0,H1,H2,k⟩
theorem jAE{p:Prop}{a:Sort _}{F:a->Prop}(H0:p)(u:a)(k:F u):p/\∃u,F u:=⟨H0,u,k⟩
theorem jAEA{p:Prop}{a:Sort _}{q:a->Prop}{F:a->Prop}(H0:p)(u:a)(H1:q u)(k:F u):p/\∃u,q u/\F u:=⟨H0,u,H1,k⟩
theorem xf8{p:Prop}{a:Sort _}{q:a->Prop}{r:a->Prop}{F:a->Prop}(H0:p)(u:a)(H1:q u)(H2:r u)(k:F u):p/\∃u,q u/\r u/\F u:=⟨H0,u,H1,H2,k⟩
theorem jEA{a:Sort _}{p:a->Prop}{F:a->Prop}(u:a)(H0:p u)(k:F u):∃u,p u/\F u:=⟨u,H0,k⟩
theorem jEAA{a:Sort _}{p:a->Prop}{q:a->Prop}{F:a->Prop}(u:a)(H0:p u)(H1:q u)(k:F u):∃u,p u/\q u/\F u:=⟨u,H0,H1,k⟩
theorem xbn{a:Sort _}{p:a->Prop}{q:a->Prop}{r:a->Prop}{F:a->Prop}(u:a)(H0:p u)(H1:q u)(H2:r u)(k:F u):∃u,p u/\q u/\r u/\F u:=⟨u,H0,H1,H2,k⟩
theorem xb5{a:Sort _}{p:a->Prop}{q:a->Prop}{r:a->Prop}{i:a->Prop}{F:a->Prop}(u:a)(H0:p u)(H1:q u)(H2:r u)(H3:i u)(k:F u):∃u,p u/\q u/\r u/\i u/\F u:=⟨u,H0,H1,H2,H3,k⟩
theorem xbc{a:Sort _}{p:a->Prop}{q:a->Prop}{r:a->Prop}{i:a->Prop}{j:a->Prop}{F:a->Prop}(u:a)(H0:p u)(H1:q u)(H2:r u)(H3:i u)(H4:j u)(k:F u):∃u,p u/\q u/\r u/\i u/\j u/\F u:=⟨u,H0,H1,H2,H3,H4,k⟩
theorem xbr{a:Sort _}{p:a->Prop}{q:a->Prop}{r:a->Prop}{i:a->Prop}{b:Sort _}{j:a->b->Prop}{F:a->b->Prop}(u:a)(H0:p u)(H1:q u)(H2:r u)(H3:i u)(v:b)(H4:j u v)(k:F u v):∃u,p u/\q u/\r u/\i u/\∃v,j u v/\F u v:=⟨u,H0,H1,H2,H3,v,H4,k⟩
theorem xaz{a:Sort _}{p:a->Prop}{q:a->Prop}{b:Sort _}{r:a->b->Prop}{F:a->b->Prop}(u:a)(H0:p u)(H1:q u)(v:b)(H2:r u v)(k:F u v):∃u,p u/\q u/\∃v,r u v/\F u v:=⟨u,H0,H1,v,H2,k⟩
theorem xbe{a:Sort _}{p:a->Prop}{q:a->Prop}{b:Sort _}{c:Sort _}{r:a->b->c->Prop}{i:a->b->c->Prop}{F:a->b->c->Prop}(u:a)(H0:p u)(H1:q u)(v:b)(w:c)(H2:r u v w)(H3:i u v w)(k:F u v w):∃u,p u/\q u/\∃v,∃w,r u v w/\i u v w/\F u v w:=⟨u,H0,H1,v,w,H2,H3,k⟩
theorem xbg{a:Sort _}{p:a->Prop}{b:Sort _}{q:a->b->Prop}{r:a->b->Prop}{F:a->b->Prop}(u:a)(H0:p u)(v:b)(H1:q u v)(H2:r u v)(k:F u v):∃u,p u/\∃v,q u v/\r u v/\F u v:=⟨u,H0,v,H1,H2,k⟩
theorem xca{a:Sort _}{p:a->Prop}{b:Sort _}{q:a->b->Prop}{r:a->b->Prop}{c:Sort _}{i:a->b->c->Prop}{F:a->b->c->Prop}(u:a)(H0:p u)(v:b)(H1:q u v)(H2:r u v)(w:c)(H3:i u v w)(k:F u v w):∃u,p u/\∃v,q u v/\r u v/\∃w,i u v w/\F u v w:=⟨u,H0,v,H1,H2,w,H3,k⟩
theorem xaw{a:Sort _}{p:a->Prop}{b:Sort _}{q:a->b->Prop}{c:Sort _}{r:a->b->c->Prop}{d:Sort _}{i:a->b->c->d->Prop}{e:Sort _}{j:a->b->c->d->e->Prop}{F:a->b->c->d->e->Prop}(u:a)(H0:p u)(v:b)(H1:q u v)(w:c)(H2:r u v w)(x:d)(H3:i u v w x)(y:e)(H4:j u v w x y)(k:F u v w x y):∃u,p u/\∃v,q u v/\∃w,r u v w/\∃x,i u v w x/\∃y,j u v w x y/\F u v w x y:=⟨u,H0,v,H1,w,H2,x,H3,y,H4,k⟩
theorem xbk{a:Sort _}{p:a->Prop}{b:Sort _}{q:a->b->Prop}{c:Sort _}{r:a->b->c->Prop}{d:Sort _}{e:Sort _}{F:a->b->c->d->e->Prop}(u:a)(H0:p u)(v:b)(H1:q u v)(w:c)(H2:r u v w)(x:d)(y:e)(k:F u v w x y):∃u,p u/\∃v,q u v/\∃w,r u v w/\∃x,∃y,F u v w x y:=⟨u,H0,v,H1,w,H2,x,y,k⟩
theorem xat{a:Sort _}{p:a->Prop}{b:Sort _}{q:a->b->Prop}{c:Sort _}{r:a->b->c->Prop}{d:Sort _}{e:Sort _}{i:a->b->c->d->e->Prop}{j:a->b->c->d->e->Prop}{F:a->b->c->d->e->Prop}(u:a)(H0:p u)(v:b)(H1:q u v)(w:c)(H2:r u v w)(x:d)(y:e)(H3:i u v w x y)(H4:j u v w x y)(k:F u v w x y):∃u,p u/\∃v,q u v/\∃w,r u v w/\∃x,∃y,i u v w x y/\j u v w x y/\F u v w x y:=⟨u,H0,v,H1,w,H2,x,y,H3,H4,k⟩
theorem xbi{a:Sort _}{p:a->Prop}{b:Sort _}{q:a->b->Prop}{c:Sort _}{d:Sort _}{r:a->b->c->d->Prop}{i:a->b->c->d->Prop}{e:Sort _}{F:a->b->c->d->e->Prop}(u:a)(H0:p u)(v:b)(H1:q u v)(w:c)(x:d)(H2:r u v w x)(H3:i u v w x)(y:e)(k:F u v w x y):∃u,p u/\∃v,q u v/\∃w,∃x,r u v w x/\i u v w x/\∃y,F u v w x y:=⟨u,H0,v,H1,w,x,H2,H3,y,k⟩
theorem xap{a:Sort _}{p:a->Prop}{b:Sort _}{q:a->b->Prop}{c:Sort _}{d:Sort _}{e:Sort _}{F:a->b->c->d->e->Prop}(u:a)(H0:p u)(v:b)(H1:q u v)(w:c)(x:d)(y:e)(k:F u v w x y):∃u,p u/\∃v,q u v/\∃w,∃x,∃y,F u v w x y:=⟨u,H0,v,H1,w,x,y,k⟩
theorem xci{a:Sort _}{p:a->Prop}{b:Sort _}{q:a->b->Prop}{c:Sort _}{d:Sort _}{e:Sort _}{r:a->b->c->d->e->Prop}{i:a->b->c->d->e->Prop}{F:a->b->c->d->e->Prop}(u:a)(H0:p u)(v:b)(H1:q u v)(w:c)(x:d)(y:e)(H2:r u v w x y)(H3:i u v w x y)(k:F u v w x y):∃u,p u/\∃v,q u v/\∃w,∃x,∃y,r u v w x y/\i u v w x y/\F u v w x y:=⟨u,H0,v,H1,w,x,y,H2,H3,k⟩
theorem xb9{a:Sort _}{p:a->Prop}{b:Sort _}{q:a->b->Prop}{c:Sort _}{d:Sort _}{e:Sort _}{r:a->b->c->d->e->Prop}{i:a->b->c->d->e->Prop}{j:a->b->c->d->e->Prop}{F:a->b->c->d->e->Prop}(u:a)(H0:p u)(v:b)(H1:q u v)(w:c)(x:d)(y:e)(H2:r u v w x y)(H3:i u v w x y)(H4:j u v w x y)(k:F u v w x y):∃u,p u/\∃v,q u v/\∃w,∃x,∃y,r u v w x y/\i u v w x y/\j u v w x y/\F u v w x y:=⟨u,H0,v,H1,w,x,y,H2,H3,H4,k⟩
theorem xax{a:Sort _}{p:a->Prop}{b:Sort _}{c:Sort _}{q:a->b->c->Prop}{r:a->b->c->Prop}{F:a->b->c->Prop}(u:a)(H0:p u)(v:b)(w:c)(H1:q u v w)(H2:r u v w)(k:F u v w):∃u,p u/\∃v,∃w,q u v w/\r u v w/\F u v w:=⟨u,H0,v,w,H1,H2,k⟩
theorem xbv{a:Sort _}{p:a->Prop}{b:Sort _}{c:Sort _}{q:a->b->c->Prop}{r:a->b->c->Prop}{d:Sort _}{i:a->b->c->d->Prop}{F:a->b->c->d->Prop}(u:a)(H0:p u)(v:b)(w:c)(H1:q u v w)(H2:r u v w)(x:d)(H3:i u v w x)(k:F u v w x):∃u,p u/\∃v,∃w,q u v w/\r u v w/\∃x,i u v w x/\F u v w x:=⟨u,H0,v,w,H1,H2,x,H3,k⟩
theorem xb4{a:Sort _}{p:a->Prop}{b:Sort _}{c:Sort _}{q:a->b->c->Prop}{r:a->b->c->Prop}{d:Sort _}{i:a->b->c->d->Prop}{e:Sort _}{F:a->b->c->d->e->Prop}(u:a)(H0:p u)(v:b)(w:c)(H1:q u v w)(H2:r u v w)(x:d)(H3:i u v w x)(y:e)(k:F u v w x y):∃u,p u/\∃v,∃w,q u v w/\r u v w/\∃x,i u v w x/\∃y,F u v w x y:=⟨u,H0,v,w,H1,H2,x,H3,y,k⟩
theorem xbu{a:Sort _}{p:a->Prop}{b:Sort _}{c:Sort _}{q:a->b->c->Prop}{r:a->b->c->Prop}{d:Sort _}{e:Sort _}{i:a->b->c->d->e->Prop}{j:a->b->c->d->e->Prop}{F:a->b->c->d->e->Prop}(u:a)(H0:p u)(v:b)(w:c)(H1:q u v w)(H2:r u v w)(x:d)(y:e)(H3:i u v w x y)(H4:j u v w x y)(k:F u v w x y):∃u,p u/\∃v,∃w,q u v w/\r u v w/\∃x,∃y,i u v w x y/\j u v w x y/\F u v w x y:=⟨u,H0,v,w,H1,H2,x,y,H3,H4,k⟩
theorem xbs{a:Sort _}{p:a->Prop}{b:Sort _}{c:Sort _}{d:Sort _}{q:a->b->c->d->Prop}{r:a->b->c->d->Prop}{i:a->b->c->d->Prop}{e:Sort _}{F:a->b->c->d->e->Prop}(u:a)(H0:p u)(v:b)(w:c)(x:d)(H1:q u v w x)(H2:r u v w x)(H3:i u v w x)(y:e)(k:F u v w x y):∃u,p u/\∃v,∃w,∃x,q u v w x/\r u v w x/\i u v w x/\∃y,F u v w x y:=⟨u,H0,v,w,x,H1,H2,H3,y,k⟩
theorem xa5{a:Sort _}{p:a->Prop}{b:Sort _}{c:Sort _}{d:Sort _}{e:Sort _}{F:a->b->c->d->e->Prop}(u:a)(H0:p u)(v:b)(w:c)(x:d)(y:e)(k:F u v w x y):∃u,p u/\∃v,∃w,∃x,∃y,F u v w x y:=⟨u,H0,v,w,x,y,k⟩
theorem xaa{a:Sort _}{p:a->Prop}{b:Sort _}{c:Sort _}{d:Sort _}{e:Sort _}{q:a->b->c->d->e->Prop}{r:a->b->c->d->e->Prop}{i:a->b->c->d->e->Prop}{j:a->b->c->d->e->Prop}{F:a->b->c->d->e->Prop}(u:a)(H0:p u)(v:b)(w:c)(x:d)(y:e)(H1:q u v w x y)(H2:r u v w x y)(H3:i u v w x y)(H4:j u v w x y)(k:F u v w x y):∃u,p u/\∃v,∃w,∃x,∃y,q u v w x y/\r u v w x y/\i u v w x y/\j u v w x y/\F u v w x y:=⟨u,H0,v,w,x,y,H1,H2,H3,H4,k⟩
theorem jEE{a:Sort _}{b:Sort _}{F:a->b->Prop}(u:a)(v:b)(k:F u v):∃u,∃v,F u v:=⟨u,v,k⟩
theorem jEEA{a:Sort _}{b:Sort _}{p:a->b->Prop}{F:a->b->Prop}(u:a)(v:b)(H0:p u v)(k:F u v):∃u,∃v,p u v/\F u v:=⟨u,v,H0,k⟩
theorem xan{a:Sort _}{b:Sort _}{p:a->b->Prop}{q:a->b->Prop}{F:a->b->Prop}(u:a)(v:b)(H0:p u v)(H1:q u v)(k:F u v):∃u,∃v,p u v/\q u v/\F u v:=⟨u,v,H0,H1,k⟩
theorem xbh{a:Sort _}{b:Sort _}{p:a->b->Prop}{q:a->b->Prop}{r:a->b->Prop}{F:a->b->Prop}(u:a)(v:b)(H0:p u v)(H1:q u v)(H2:r u v)(k:F u v):∃u,∃v,p u v/\q u v/\r u v/\F u v:=⟨u,v,H0,H1,H2,k⟩
theorem xck{a:Sort _}{b:Sort _}{p:a->b->Prop}{q:a->b->Prop}{r:a->b->Prop}{i:a->b->Prop}{F:a->b->Prop}(u:a)(v:b)(H0:p u v)(H1:q u v)(H2:r u v)(H3:i u v)(k:F u v):∃u,∃v,p u v/\q u v/\r u v/\i u v/\F u v:=⟨u,v,H0,H1,H2,H3,k⟩
theorem xa8{a:Sort _}{b:Sort _}{p:a->b->Prop}{q:a->b->Prop}{r:a->b->Prop}{i:a->b->Prop}{j:a->b->Prop}{F:a->b->Prop}(u:a)(v:b)(H0:p u v)(H1:q u v)(H2:r u v)(H3:i u v)(H4:j u v)(k:F u v):∃u,∃v,p u v/\q u v/\r u v/\i u v/\j u v/\F u v:=⟨u,v,H0,H1,H2,H3,H4,k⟩
theorem xas{a:Sort _}{b:Sort _}{p:a->b->Prop}{q:a->b->Prop}{r:a->b->Prop}{c:Sort _}{d:Sort _}{i:a->b->c->d->Prop}{e:Sort _}{F:a->b->c->d->e->Prop}(u:a)(v:b)(H0:p u v)(H1:q u v)(H2:r u v)(w:c)(x:d)(H3:i u v w x)(y:e)(k:F u v w x y):∃u,∃v,p u v/\q u v/\r u v/\∃w,∃x,i u v w x/\∃y,F u v w x y:=⟨u,v,H0,H1,H2,w,x,H3,y,k⟩
theorem xal{a:Sort _}{b:Sort _}{p:a->b->Prop}{q:a->b->Prop}{c:Sort _}{d:Sort _}{r:a->b->c->d->Prop}{i:a->b->c->d->Prop}{e:Sort _}{F:a->b->c->d->e->Prop}(u:a)(v:b)(H0:p u v)(H1:q u v)(w:c)(x:d)(H2:r u v w x)(H3:i u v w x)(y:e)(k:F u v w x y):∃u,∃v,p u v/\q u v/\∃w,∃x,r u v w x/\i u v w x/\∃y,F u v w x y:=⟨u,v,H0,H1,w,x,H2,H3,y,k⟩
theorem jEEE{a:Sort _}{b:Sort _}{c:Sort _}{F:a->b->c->Prop}(u:a)(v:b)(w:c)(k:F u v w):∃u,∃v,∃w,F u v w:=⟨u,v,w,k⟩
theorem xcd{a:Sort _}{b:Sort _}{c:Sort _}{p:a->b->c->Prop}{q:a->b->c->Prop}{F:a->b->c->Prop}(u:a)(v:b)(w:c)(H0:p u v w)(H1:q u v w)(k:F u v w):∃u,∃v,∃w,p u v w/\q u v w/\F u v w:=⟨u,v,w,H0,H1,k⟩
theorem xdd{a:Sort _}{b:Sort _}{c:Sort _}{p:a->b->c->Prop}{q:a->b->c->Prop}{r:a->b->c->Prop}{F:a->b->c->Prop}(u:a)(v:b)(w:c)(H0:p u v w)(H1:q u v w)(H2:r u v w)(k:F u v w):∃u,∃v,∃w,p u v w/\q u v w/\r u v w/\F u v w:=⟨u,v,w,H0,H1,H2,k⟩
theorem xaq{a:Sort _}{b:Sort _}{c:Sort _}{p:a->b->c->Prop}{q:a->b->c->Prop}{r:a->b->c->Prop}{i:a->b->c->Prop}{F:a->b->c->Prop}(u:a)(v:b)(w:c)(H0:p u v w)(H1:q u v w)(H2:r u v w)(H3:i u v w)(k:F u v w):∃u,∃v,∃w,p u v w/\q u v w/\r u v w/\i u v w/\F u v w:=⟨u,v,w,H0,H1,H2,H3,k⟩
theorem xb3{a:Sort _}{b:Sort _}{c:Sort _}{p:a->b->c->Prop}{q:a->b->c->Prop}{r:a->b->c->Prop}{i:a->b->c->Prop}{j:a->b->c->Prop}{F:a->b->c->Prop}(u:a)(v:b)(w:c)(H0:p u v w)(H1:q u v w)(H2:r u v w)(H3:i u v w)(H4:j u v w)(k:F u v w):∃u,∃v,∃w,p u v w/\q u v w/\r u v w/\i u v w/\j u v w/\F u v w:=⟨u,v,w,H0,H1,H2,H3,H4,k⟩
theorem xak{a:Sort _}{b:Sort _}{c:Sort _}{d:Sort _}{p:a->b->c->d->Prop}{q:a->b->c->d->Prop}{r:a->b->c->d->Prop}{i:a->b->c->d->Prop}{F:a->b->c->d->Prop}(u:a)(v:b)(w:c)(x:d)(H0:p u v w x)(H1:q u v w x)(H2:r u v w x)(H3:i u v w x)(k:F u v w x):∃u,∃v,∃w,∃x,p u v w x/\q u v w x/\r u v w x/\i u v w x/\F u v w x:=⟨u,v,w,x,H0,H1,H2,H3,k⟩
theorem xav{a:Sort _}{b:Sort _}{c:Sort _}{d:Sort _}{p:a->b->c->d->Prop}{q:a->b->c->d->Prop}{r:a->b->c->d->Prop}{i:a->b->c->d->Prop}{j:a->b->c->d->Prop}{F:a->b->c->d->Prop}(u:a)(v:b)(w:c)(x:d)(H0:p u v w x)(H1:q u v w x)(H2:r u v w x)(H3:i u v w x)(H4:j u v w x)(k:F u v w x):∃u,∃v,∃w,∃x,p u v w x/\q u v w x/\r u v w x/\i u v w x/\j u v w x/\F u v w x:=⟨u,v,w,x,H0,H1,H2,H3,H4,k⟩
theorem xbm{a:Sort _}{b:Sort _}{c:Sort _}{d:Sort _}{p:a->b->c->d->Prop}{q:a->b->c->d->Prop}{r:a->b->c->d->Prop}{i:a->b->c->d->Prop}{e:Sort _}{F:a->b->c->d->e->Prop}(u:a)(v:b)(w:c)(x:d)(H0:p u v w x)(H1:q u v w x)(H2:r u v w x)(H3:i u v w x)(y:e)(k:F u v w x y):∃u,∃v,∃w,∃x,p u v w x/\q u v w x/\r u v w x/\i u v w x/\∃y,F u v w x y:=⟨u,v,w,x,H0,H1,H2,H3,y,k⟩
theorem xau{a:Sort _}{b:Sort _}{c:Sort _}{d:Sort _}{e:Sort _}{F:a->b->c->d->e->Prop}(u:a)(v:b)(w:c)(x:d)(y:e)(k:F u v w x y):∃u,∃v,∃w,∃x,∃y,F u v w x y:=⟨u,v,w,x,y,k⟩
theorem xce{a:Sort _}{b:Sort _}{c:Sort _}{d:Sort _}{e:Sort _}{p:a->b->c->d->e->Prop}{q:a->b->c->d->e->Prop}{r:a->b->c->d->e->Prop}{i:a->b->c->d->e->Prop}{F:a->b->c->d->e->Prop}(u:a)(v:b)(w:c)(x:d)(y:e)(H0:p u v w x y)(H1:q u v w x y)(H2:r u v w x y)(H3:i u v w x y)(k:F u v w x y):∃u,∃v,∃w,∃x,∃y,p u v w x y/\q u v w x y/\r u v w x y/\i u v w x y/\F u v w x y:=⟨u,v,w,x,y,H0,H1,H2,H3,k⟩
theorem xaj{a:Sort _}{b:Sort _}{c:Sort _}{d:Sort _}{e:Sort _}{p:a->b->c->d->e->Prop}{q:a->b->c->d->e->Prop}{r:a->b->c->d->e->Prop}{i:a->b->c->d->e->Prop}{j:a->b->c->d->e->Prop}{F:a->b->c->d->e->Prop}(u:a)(v:b)(w:c)(x:d)(y:e)(H0:p u v w x y)(H1:q u v w x y)(H2:r u v w x y)(H3:i u v w x y)(H4:j u v w x y)(k:F u v w x y):∃u,∃v,∃w,∃x,∃y,p u v w x y/\q u v w x y/\r u v w x y/\i u v w x y/\j u v w x y/\F u v w x y:=⟨u,v,w,x,y,H0,H1,H2,H3,H4,k⟩
end
section
namespace L2
open PySem PySem.Spec PyProof.Rows
abbrev Key:=Sum Int Str
def xmp:Key->Value->Bool
 |.inl k,v=>Value.isInt k v
 |.inr x,v=>Value.isStrOf x v
def keyH(w:World):Key->Int
 |.inl k=>hashInt k
 |.inr x=>hashStr w x
theorem xb8:∀{k:Key} {v:Value},xmp k v=true->(∃i t,k=Sum.inl i/\v=Value.int i t)\/(∃x t,k=Sum.inr x/\v=Value.str x t)
 |.inl i,v,h=>by
  obtain⟨t,e⟩:=Value.isInt_shape (k:=i) (v:=v) h;exact .inl ⟨i,t,rfl,e⟩
 |.inr x,v,h=>by
  obtain⟨t,e⟩:=Value.isStrOf_shape (x:=x) (v:=v) h;exact .inr ⟨x,t,rfl,e⟩
theorem xol(i:Int)(t:Tok):xmp (.inl i) (.int i t)=true:=by simp[xmp,Value.isInt]
theorem xok(x:Str)(t:Tok):xmp (.inr x) (.str x t)=true:=by simp[xmp,Value.isStrOf]
theorem xue(a b:Int):decide ((Sum.inl a:Key)=Sum.inl b)=(a == b):=by
 by_cases e:a=b
 ·subst e;simp
 ·have h:¬(Sum.inl a:Key)=Sum.inl b:=λq=>e (Sum.inl.inj q)
  rw[zDF h];exact(beq_eq_false_iff_ne.mpr e).symm
theorem xub(a b:Str):decide ((Sum.inr a:Key)=Sum.inr b)=decide (a=b):=by
 by_cases e:a=b
 ·subst e;simp
 ·have h:¬(Sum.inr a:Key)=Sum.inr b:=λq=>e (Sum.inr.inj q)
  rw[zDF h,zDF e]
theorem xud(a:Int)(b:Str):decide ((Sum.inl a:Key)=Sum.inr b)=false:=zDF (λq=>nomatch q)
theorem xuc(a:Str)(b:Int):decide ((Sum.inr a:Key)=Sum.inl b)=false:=zDF (λq=>nomatch q)
def xbq(prog:Program)(w:World):PySem.KeyKind prog w Key where
 is:=xmp
 hash:=keyH w
 inj:=λv a b ha hb=>by
  rcases xb8 ha with⟨i,t,rfl,rfl⟩ |⟨x,t,rfl,rfl⟩
  ·rcases xb8 hb with⟨j,u,rfl,e⟩ |⟨y,u,rfl,e⟩
   ·injection e with e1 _;rw[e1]
   ·exact nomatch e
  ·rcases xb8 hb with⟨j,u,rfl,e⟩ |⟨y,u,rfl,e⟩
   ·exact nomatch e
   ·injection e with e1 _;rw[e1]
 byValue:=λk v h=>by
  rcases xb8 h with⟨i,t,rfl,rfl⟩ |⟨x,t,rfl,rfl⟩ <;> rfl
 pyHash:=λhv h=>by
  rcases xb8 hv with⟨i,t,rfl,rfl⟩ |⟨x,t,rfl,rfl⟩
  ·exact wpAny_pyHash_int h
  ·exact wpAny_pyHash_str h
 eqBool:=λhu hv h=>by
  rcases xb8 hu with⟨i,t,rfl,rfl⟩ |⟨x,t,rfl,rfl⟩
  ·rcases xb8 hv with⟨j,u,rfl,rfl⟩ |⟨y,u,rfl,rfl⟩
   ·rw[xue]at h;exact wpAny_eqBool_int h
   ·rw[xud]at h;exact SeqAt.EqAt.int_str i t y u _ _ _ _ h
  ·rcases xb8 hv with⟨j,u,rfl,rfl⟩ |⟨y,u,rfl,rfl⟩
   ·rw[xuc]at h;exact SeqAt.EqAt.str_int x t j u _ _ _ _ h
   ·rw[xub]at h;exact wpAny_eqBool_str h
 «strs»:=λk x t v h=>by
  rcases xb8 h with⟨i,u,rfl,e⟩ |⟨y,u,rfl,e⟩
  ·exact nomatch e
  ·injection e with e1 _
   subst e1;cases v <;> rfl
theorem xkv(prog:Program)(w:World)(i:Int)(t:Tok):(xbq prog w).is (.inl i) (.int i t)=true:=xol i t
theorem xku(prog:Program)(w:World)(x:Str)(t:Tok):(xbq prog w).is (.inr x) (.str x t)=true:=xok x t
inductive V where
 |non |bl (b:Bool) |int (i:Int) |str (x:Str) |byt (b:Array UInt8) |flt (b:UInt64) |ref (a:Addr) |ty (n:String)
 deriving DecidableEq
def RelV:V->Value->Prop
 |.non,u=>u=Value.none
 |.bl b,u=>u=Value.bool b
 |.int i,u=>∃t,u=Value.int i t
 |.str x,u=>∃t,u=Value.str x t
 |.byt b,u=>∃t,u=Value.bytes b t
 |.flt b,u=>∃t,u=Value.float b t
 |.ref a,u=>u=Value.ref a
 |.ty n,u=>u=Value.type n
abbrev Vals:List V->List Value->Prop:=Paired RelV
theorem Vals.length{xs:List V}{us:List Value}(r:Vals xs us):xs.length=us.length:=Paired.length r
theorem Vals.get:∀{xs:List V} {us:List Value} {i:Nat} {x:V},Vals xs us->xs[i]?=some x->∃u,us[i]?=some u/\RelV x u
 |_,_,_,_,.nil,e=>by simp at e
 |_,_,0,_,.cons r _,e=>by simp at e;subst e;exact⟨_,rfl,r⟩
 |_,_,i+1,x,.cons _ t,e=>by
  obtain⟨u,h1,h2⟩:=Vals.get (i:=i) (x:=x) t (by simpa using e);exact⟨u,by simpa using h1,h2⟩
theorem Vals.set{x:V}{u:Value}(r:RelV x u):∀{xs:List V} {us:List Value} (i:Nat),Vals xs us->Vals (xs.set i x) (us.set i u)
 |_,_,_,.nil=>.nil
 |_,_,0,.cons _ t=>.cons r t
 |_,_,i+1,.cons q t=>.cons q (Vals.set r i t)
theorem Vals.append:∀{xs ys:List V} {us ws:List Value},Vals xs us->Vals ys ws->Vals (xs++ys) (us++ws)
 |_,_,_,_,.nil,s=>s
 |_,_,_,_,.cons r t,s=>.cons r (Vals.append t s)
theorem Vals.take:∀{xs:List V} {us:List Value} (n:Nat),Vals xs us->Vals (xs.take n) (us.take n)
 |_,_,0,_=>.nil
 |_,_,_+1,.nil=>.nil
 |_,_,n+1,.cons r t=>.cons r (Vals.take n t)
theorem Vals.drop:∀{xs:List V} {us:List Value} (n:Nat),Vals xs us->Vals (xs.drop n) (us.drop n)
 |_,_,0,r=>r
 |_,_,_+1,.nil=>.nil
 |_,_,n+1,.cons _ t=>Vals.drop n t
def RelO:Option V->Option Value->Prop
 |some v,some u=>RelV v u
 |none,none=>True
 |_,_=>False
def KV{κ:Type}:List (κ×V)->List (κ×Value)->Prop:=Paired λ(p:κ×V) (q:κ×Value)=>p.1=q.1/\RelV p.2 q.2
def kV:Key->V
 |.inl i=>.int i
 |.inr x=>.str x
inductive HO where
 |lst (xs:List V)
 |tup (xs:List V)
 |dK (kvs:List (Key×V)) |dT (kvs:List (List Key×V))
 |set (S:Int->Bool) (n:Nat)
 |ins (C dx:Addr) (fs:List (Str×V))
 |own (x:Addr)
 |xd (fs:List (Str×V))
 |met (f x:Addr)
 |rng (lo hi:Int)
 |frz (o:Obj) (u:HO)
 |tbl (ps:Array Value)
 |ext (φ:Heap->Prop)
abbrev Hp:=Addr->Option HO
def upd(H:Hp)(a:Addr)(o:HO):Hp:=λb=>if b=a then some o else H b
theorem ups{H:Hp}{a:Addr}{o:HO}:upd H a o a=some o:=by unfold upd;rw[if_pos rfl]
theorem xad{H:Hp}{a b:Addr}{o:HO}(h:b≠a):upd H a o b=H b:=by unfold upd;rw[if_neg h]
theorem xg6{H:Hp}{a:Addr}{o u:HO}:upd (upd H a o) a u=upd H a u:=by
 funext b;unfold upd;split <;> rfl
theorem xvl{H:Hp}{a b:Addr}{o u:HO}(h:H a=some o)(h':H b=some u)(d:o≠u):a≠b:=by
 intro e;subst e;rw[h]at h';exact d (Option.some.inj h')
theorem neN{H:Hp}{a b:Addr}{o:HO}(h:H a=some o)(h':H b=none):a≠b:=by
 intro e;subst e;rw[h]at h';cases h'
section
variable (P:Program)(w:World)
def ObjOk(H:Hp)(h:Heap)(a:Addr):HO->Prop
 |.lst xs=>xs.length<=sizeLine/\∃(its:List Value) (n:Nat),Vals xs its/\h.get? a=some {cls:=.type "list",data:=.seq its.toArray n}
 |.tup xs=>xs.length<=sizeLine/\∃its:List Value,Vals xs its/\∃o,h.get? a=some o/\o.cls=.type "tuple"/\∃n,o.data=.seq its.toArray n/\o.dict=none
 |.dK kvs=>kvs.length<=sizeLine/\(a == sysModules)=false/\∃vs,KV kvs vs/\h.DictOf (xbq P w) a vs
 | .dT kvs=>kvs.length<=sizeLine/\(a == sysModules)=false/\∃xs:List (List Key×Addr×Value),
   Paired (λ(p:List Key×V) (q:List Key×Addr×Value)=>p.1=q.1/\H q.2.1=some (.tup (p.1.map kV))/\RelV p.2 q.2.2) kvs xs ∧
   ∃o es ep,h.get? a=some o/\o.ExactDict/\o.data=.dict es ep/\es.toList=xs.map (entryOfKey (tupleKind (xbq P w)))/\(xs.map (·.1)).Nodup
 |.set S n=>h.SetOf (intKind P w) a S n
 | .ins C dx fs=>H dx=some (.own a)/\fs.length<=1000/\dx≠a/\h.get? a=some (PySem.W.instObj C dx) ∧
   ∃mA,h.Ns1 dx mA/\(∀f,RelO (fs.lookup f) (mA f))/\PySem.Within mA (fs.map (·.1))
 |.own _=>∃o,h.get? a=some o
 |.xd fs=>∃mA,h.Ns1 a mA/\∀f,RelO (fs.lookup f) (mA f)
 |.rng lo hi=>∃t u v,h.get? a=some {cls:=.type "range",data:=.fields #[.int lo t,.int hi u,.int 1 v]}
 |.frz o u=>h.get? a=some o/\ObjOk H h a u
 |.tbl ps=>h.get? a=some {cls:=.none,data:=.fields ps}
 |.met f x=>h.get? a=some (PySem.W.methodObj (.ref f) (.ref x))
 |.ext φ=>φ h/\(∃o,h.get? a=some o)/\∀h1 h2:Heap,φ h1->(∀o,h1.get? a=some o->h2.get? a=some o)->φ h2
def HOk(H:Hp)(h:Heap):Prop:=∀a o,H a=some o->ObjOk P w H h a o
end
section
variable {P:Program}{w:World}{H H':Hp}{h h':Heap}{a:Addr}{o:HO}
theorem ObjOk.lt(x:ObjOk P w H h a o):a<h.objs.size:=by
 cases o with
 |lst xs=>obtain⟨_,_,_,_,e⟩:=x;exact Heap.lt_size e
 |tup xs=>obtain⟨_,_,_,_,e,_⟩:=x;exact Heap.lt_size e
 |dK kvs=>obtain⟨_,_,_,_,o,_,_,e,_⟩:=x;exact Heap.lt_size e
 |dT kvs=>obtain⟨_,_,_,_,o,_,_,e,_⟩:=x;exact Heap.lt_size e
 |set S n=>obtain⟨o,_,_,_,e,_⟩:=x;exact Heap.lt_size e
 |ins C dx fs=>obtain⟨_,_,_,e,_⟩:=x;exact Heap.lt_size e
 |own y=>obtain⟨_,e⟩:=x;exact Heap.lt_size e
 |xd fs=>obtain⟨_,⟨_,_,_,e,_⟩,_⟩:=x;exact Heap.lt_size e
 |rng lo hi=>obtain⟨_,_,_,e⟩:=x;exact Heap.lt_size e
 |frz c u=>obtain⟨e,_⟩:=x;exact Heap.lt_size e
 |tbl ps=>exact Heap.lt_size (show h.get? a=some _ from x)
 |met f y=>exact Heap.lt_size (show h.get? a=some _ from x)
 |ext φ=>obtain⟨_,⟨_,e⟩,_⟩:=x;exact Heap.lt_size e
theorem Paired.mapP{α β:Type}{F G:α->β->Prop}:∀{e:List α} {c:List β},Paired F e c->(∀a b,F a b->G a b)->Paired G e c
 |_,_,.nil,_=>.nil
 |_,_,.cons r t,f=>.cons (f _ _ r) (Paired.mapP t f)
theorem ObjOk.stay (x:ObjOk P w H h a o) (k:∀b u,(b=a\/H b=some (.own a))->h.get? b=some u->h'.get? b=some u)
  (ho:∀b,H b=some (.own a)->H' b=some (.own a)) (ht:∀b xs,H b=some (.tup xs)->H' b=some (.tup xs)):ObjOk P w H' h' a o:=by
 induction o with
 |lst xs=>obtain⟨z,its,n,r,e⟩:=x;exact⟨z,its,n,r,k _ _ (.inl rfl) e⟩
 |tup xs=>obtain⟨z,its,r,ob,e,c⟩:=x;exact⟨z,its,r,ob,k _ _ (.inl rfl) e,c⟩
 |dK kvs=>obtain⟨z,y,vs,r,ob,es,ep,e,c⟩:=x;exact⟨z,y,vs,r,ob,es,ep,k _ _ (.inl rfl) e,c⟩
 |dT kvs=>
  obtain⟨z,y,xs,r,ob,es,ep,e,c⟩:=x;exact⟨z,y,xs,Paired.mapP r λp q z=>⟨z.1,ht _ _ z.2.1,z.2.2⟩,ob,es,ep,k _ _ (.inl rfl) e,c⟩
 |set S n=>obtain⟨ob,es,ep,t,e,c⟩:=x;exact⟨ob,es,ep,t,k _ _ (.inl rfl) e,c⟩
 |ins C dx fs=>
  obtain⟨d,z,ne,e,mA,⟨od,es,ep,e2,c⟩,r⟩:=x;exact⟨ho _ d,z,ne,k _ _ (.inl rfl) e,mA,⟨od,es,ep,k _ _ (.inr d) e2,c⟩,r⟩
 |own y=>obtain⟨ob,e⟩:=x;exact⟨ob,k _ _ (.inl rfl) e⟩
 |xd fs=>obtain⟨mA,⟨od,es,ep,e,c⟩,r⟩:=x;exact⟨mA,⟨od,es,ep,k _ _ (.inl rfl) e,c⟩,r⟩
 |rng lo hi=>obtain⟨t,u,v,e⟩:=x;exact⟨t,u,v,k _ _ (.inl rfl) e⟩
 |frz ob u ih=>obtain⟨e,q⟩:=x;exact⟨k _ _ (.inl rfl) e,ih q⟩
 |tbl ps=>
  have e:h.get? a=some {cls:=.none,data:=.fields ps}:=x;show h'.get? a=some {cls:=.none,data:=.fields ps};exact k a _ (.inl rfl) e
 |met f y=>
  have e:h.get? a=some (PySem.W.methodObj (.ref f) (.ref y)):=x;show h'.get? a=some (PySem.W.methodObj (.ref f) (.ref y));exact k a _ (.inl rfl) e
 |ext φ=>obtain⟨p,⟨o,e⟩,st⟩:=x;exact⟨st _ _ p λo q=>k _ _ (.inl rfl) q,⟨o,k _ _ (.inl rfl) e⟩,st⟩
theorem HOk.lt(x:HOk P w H h)(e:H a=some o):a<h.objs.size:=(x a o e).lt
theorem HOk.fresh(x:HOk P w H h)(e:h.objs.size<=a):H a=none:=by
 cases q:H a with
 |none=>rfl
 |some u=>exact absurd (Nat.lt_of_lt_of_le (x.lt q) e) (Nat.lt_irrefl _)
theorem HOk.kept(x:HOk P w H h)(k:∀b u,h.get? b=some u->h'.get? b=some u):HOk P w H h':=λa o e=>
 (x a o e).stay (λb u _ q=>k b u q) (λ_ q=>q) λ_ _ q=>q
theorem HOk.laid(x:HOk P w H h)(k:∀b u,h.get? b=some u->h'.get? b=some u)(hp:h.objs.size<=a)(new:ObjOk P w (upd H a o) h' a o):HOk P w (upd H a o) h':=λb u e=>by
 have hn:=x.fresh hp;by_cases hb:b=a
 ·subst hb;rw[ups]at e;cases e;exact new
 ·rw[xad hb]at e
  exact(x b u e).stay (λc v _ q=>k c v q) (λc q=>by rw[xad (neN q hn)];exact q) λc xs q=>by rw[xad (neN q hn)];exact q
end
def Rd(H:Hp)(a:Addr)(u:HO):Prop:=H a=some u\/∃o,H a=some (.frz o u)
theorem Rd.ok{P:Program}{w:World}{H:Hp}{h:Heap}{a:Addr}{u:HO}(r:Rd H a u)(x:HOk P w H h):ObjOk P w H h a u:=by
 rcases r with r |⟨o,r⟩
 ·exact x a u r
 ·obtain⟨_,q⟩:=x a _ r
  exact q
def Mut:Option HO->Prop
 |some (.lst _)=>True
 |some (.dK _)=>True
 |some (.dT _)=>True
 |some (.set _ _)=>True
 |some (.ins _ _ _)=>True
 |some (.ext _)=>True
 |_=>False
section
variable {P:Program}{w:World}{H:Hp}{h h':Heap}{x e:Addr}{o':HO}
theorem HOk.write (ok:HOk P w H h) (mu:Mut (H x)) (he:e=x\/H e=some (.own x)) (k:∀b u,b≠e->h.get? b=some u->h'.get? b=some u) (heo:∃u,h'.get? e=some u)
  (new:ObjOk P w (upd H x o') h' x o'):HOk P w (upd H x o') h':=λb u q=>by
 have nown:∀c y,H c=some (.own y)->c≠x:=λc y r z=>by subst z;rw[r]at mu;exact mu
 have ntup:∀c xs,H c=some (.tup xs)->c≠x:=λc xs r z=>by subst z;rw[r]at mu;exact mu
 by_cases hb:b=x
 ·subst hb;rw[ups]at q;cases q;exact new
 ·rw[xad hb]at q
  by_cases hbe:b=e
  ·have q':H b=some (.own x):=by
    rcases he with z |z
    ·exact absurd (hbe.trans z) hb
    ·rw[hbe];exact z
   rw[q]at q';cases q';obtain⟨v,hv⟩:=heo;exact⟨v,by rw[hbe];exact hv⟩
  ·refine(ok b u q).stay (λc v hc r=>k c v ?_ r) (λc r=>by rw[xad (nown c b r)];exact r) λc xs r=>by rw[xad (ntup c xs r)];exact r
   rcases hc with rfl |hc
   ·exact hbe
   ·rintro rfl
    rcases he with z |z
    ·exact nown c b hc z
    ·rw[hc]at z;cases z;exact hb rfl
end
structure Un(fs ex:List Addr)(H H':Hp)(h h':Heap):Prop where
 keep:∀b o,h.get? b=some o->H b=none->b ∉fs->b ∉ex->h'.get? b=some o
 slot:∀b o,h.get? b=some o->H b=none->b∈fs->b ∉ex->∃sl,h'.get? b=some {o with slots:=sl}
 free:∀b o,h.get? b=some o->H b=none->b ∉ex->H' b=none
 there:∀b o,h.get? b=some o->b ∉ex->∃o',h'.get? b=some o'
 tups:∀b xs,H b=some (.tup xs)->H' b=some (.tup xs)
 frzs:∀b o u,H b=some (.frz o u)->H' b=some (.frz o u)
 tbls:∀b ps,H b=some (.tbl ps)->∃more,H' b=some (.tbl (ps++more))
section
variable {fs fs' ex ex':List Addr}{H H1 H2:Hp}{h h1 h2 h':Heap}{a x e:Addr}{o:HO}
theorem Un.any(u:Un fs ex H H1 h h1){b:Addr}{a:Obj}(q:h.get? b=some a)(n:H b=none)(c:b ∉ex):∃sl,h1.get? b=some {a with slots:=sl}:=by
 by_cases e:b∈fs
 ·exact u.slot b a q n e c
 ·exact⟨a.slots,u.keep b a q n e c⟩
theorem Un.kept(k:∀b u,h.get? b=some u->h'.get? b=some u):Un fs ex H H h h':=
 ⟨λb a q _ _ _=>k b a q,λb a q _ _ _=>⟨a.slots,k b a q⟩,λ_ _ _ n _=>n,λb a q _=>⟨a,k b a q⟩,λ_ _ q=>q,λ_ _ _ q=>q,λ_ ps q=>⟨#[],by rw[q];simp⟩⟩
theorem Un.refl:Un fs ex H H h h:=Un.kept λ_ _ q=>q
theorem Un.laid(k:∀b u,h.get? b=some u->h'.get? b=some u)(c:h.objs.size<=a)(hn:H a=none):Un fs ex H (upd H a o) h h' where
 keep:=λb u q _ _ _=>k b u q
 slot:=λb u q _ _ _=>⟨u.slots,k b u q⟩
 free:=λb u q n _=>by rw[xad (Nat.ne_of_lt (Nat.lt_of_lt_of_le (Heap.lt_size q) c))];exact n
 there:=λb u q _=>⟨u,k b u q⟩
 tups:=λb xs q=>by rw[xad (neN q hn)];exact q
 frzs:=λb u xs q=>by rw[xad (neN q hn)];exact q
 tbls:=λb ps q=>⟨#[],by rw[xad (neN q hn),q];simp⟩
theorem Un.write(c:Mut (H x))(l:e=x\/H e=some (.own x))(k:∀b u,b≠e->h.get? b=some u->h'.get? b=some u)(g:∃u,h'.get? e=some u):Un fs ex H (upd H x o) h h':=by
 have i:∀b,H b=none->b≠x:=λb n z=>by subst z;rw[n]at c;exact c
 have j:∀b,H b=none->b≠e:=λb n z=>by
  subst z;rcases l with r |r
  ·exact i b n r
  ·rw[n]at r;cases r
 have f:∀b u,H b=some u->¬Mut (some u)->b≠x:=λb u q nm z=>by subst z;rw[q]at c;exact nm c
 refine⟨λb u q n _ _=>k b u (j b n) q,λb u q n _ _=>⟨u.slots,k b u (j b n) q⟩,λb u q n _=>by rw[xad (i b n)];exact n,λb u q _=>?_,
  λb xs q=>by rw[xad (f b _ q λz=>z)];exact q,λb u xs q=>by rw[xad (f b _ q λz=>z)];exact q,λb ps q=>⟨#[],by rw[xad (f b _ q λz=>z),q];simp⟩⟩
 by_cases a:b=e
 ·subst a;exact g
 ·exact⟨u,k b u a q⟩
end
def trk(h:Heap)(H:Hp):List Addr:=(List.range h.objs.size).filter λa=>(H a).isSome
def hidT(h:Heap)(H:Hp):Heap:=PySem.W.hideAll h (trk h H)
theorem xoq(h:Heap)(H:Hp):(hidT h H).objs.size=h.objs.size:=PySem.W.hideAll_size _ _
theorem xqk{h:Heap}{H:Hp}{b:Addr}{o:Obj}(e:h.get? b=some o)(n:H b=none):(hidT h H).get? b=some o:=
 PySem.W.hideAll_get _ e λa=>by
  have q:(H b).isSome=true:=(List.mem_filter.mp a).2;rw[n]at q;simp at q
theorem xsg{h:Heap}{H:Hp}{b:Addr}{o:Obj}(e:(hidT h H).get? b=some o):h.get? b=some o/\H b=none:=by
 have a:h.get? b=some o:=PySem.W.of_hideAll (trk h H) e;refine⟨a,?_⟩
 cases q:H b with
 |none=>rfl
 |some x=>
  have c:b∈trk h H:=List.mem_filter.mpr ⟨List.mem_range.mpr (Heap.lt_size a),by simp[q]⟩;have z:(hidT h H).get? b=none:=PySem.W.hideAll_none (trk h H) c;rw[z]at e;cases e
structure Mod(K:Fg)(mg:Str->Option Value)(base:Heap):Prop where
 kin:K.In base
 glob:base.Ns mainGlobals mg
 blt:∃mb,base.Ns builtinsNs mb/\∀x:Str,x≠"__name__"->mb x=bootBuiltins x
 nolimit:base.NoLimit
structure Cx where
 prog:Program
 w:World
 K:Fg
 mg:Str->Option Value
 base:Heap
 A:Around
 N:List Str
 s₀:Shared
 H₀:Hp
 env:Env
 outer:List Env
 stack:List Env
 ex:List Addr
 fn:Str->Bool
 calm:Bool
 pn:List (Addr×Obj)
 xe:Value->Shared->Prop
def frs(l:List Env):List Addr:=l.filterMap (·.frame)
abbrev Cx.fs(X:Cx):List Addr:=frs X.outer
def Vis(sc:Scope)(x:Str):Prop:=sc.names.lookup x=some .local\/sc.names.lookup x=some .cell\/sc.names.lookup x=some .free
def Loc(sc:Scope)(x:Str):Prop:=sc.names.lookup x=some .local\/sc.names.lookup x=some .cell
def Look(env:Env)(h:Heap)(m:Str->Option Value)(x:Str)(u:Value):Prop:=
 (env.kindOf x=some .local/\m x=some u)\/((env.kindOf x=some .cell\/env.kindOf x=some .free)/\∃c,env.cells.lookup x=some c/\h.IsCell c (some u))
structure Cx.Ok(X:Cx):Prop where
 mod:Mod X.K X.mg X.base
 kind:X.env.scope.kind=.function
 glob:X.env.globals=mainGlobals
 blt:X.env.builtins=builtinsNs
 above:X.s₀.heap.objs.size<=X.env.locals
 inj:∀x y c,X.env.cells.lookup x=some c->X.env.cells.lookup y=some c->x=y
 has:∀x,(X.env.kindOf x=some .cell\/X.env.kindOf x=some .free)->∃c,X.env.cells.lookup x=some c
 cab:∀x c,X.fn x=true->X.env.cells.lookup x=some c->X.s₀.heap.objs.size<=c
 hd:X.calm=true->X.A.handled=none
 frames:X.A.frames=some X.stack
 stk:X.stack=X.outer\/(X.stack=X.env::X.outer/\X.env.frame=some X.env.locals)
 exf:∀b∈X.ex,b≠X.env.locals/\∀x c,X.env.cells.lookup x=some c->c≠b
 bs:∀b o,X.base.get? b=some o->X.s₀.heap.get? b=some o/\X.H₀ b=none
 bsz:X.base.objs.size<=X.s₀.heap.objs.size
 noex:∀b o,X.base.get? b=some o->b ∉X.ex
 exfs:∀b∈X.ex,b ∉X.fs
 funs:X.s₀.heap.FunFrames X.base X.outer
 frf:∀b∈X.fs,X.H₀ b=none
structure Inv(X:Cx)(pins:List (Addr×Obj))(σ:List (Option V))(H:Hp)(s:Shared):Prop where
 ok:X.Ok
 os:s.os=X.s₀.os
 bare:AllBare s.gens
 base:Un X.fs X.ex X.H₀ H X.s₀.heap s.heap
 loc:∃m,s.heap.Ns X.env.locals m/\∀(i:Nat) (x:Str) (v:V),X.N[i]?=some x->σ[i]?=some (some v)->Vis X.env.scope x->∃u,RelV v u/\Look X.env s.heap m x u
 cell:∀x c,X.env.cells.lookup x=some c->∃v,s.heap.IsCell c v
 free:H X.env.locals=none
 freeC:∀x c,X.env.cells.lookup x=some c->H c=none
 pin:∀p∈X.pn++pins,s.heap.get? p.1=some p.2/\H p.1=none/\p.1≠X.env.locals/\p.1 ∉X.fs/\∀v,p.2.data≠.cell v
 hok:HOk X.prog X.w H s.heap
 len:σ.length=X.N.length
section
variable {X:Cx}{pins:List (Addr×Obj)}{σ:List (Option V)}{H H':Hp}{s:Shared}{h':Heap}
theorem Cx.Ok.nofr(ok:X.Ok){b:Addr}{o:Obj}(e:X.base.get? b=some o):b ∉X.fs:=λa=>by
 have:=(ok.funs.mem a).1;rw[e]at this;cases this
theorem Inv.bs(I:Inv X pins σ H s):∀b o,X.base.get? b=some o->s.heap.get? b=some o/\H b=none:=λb o e=>
 ⟨I.base.keep b o (I.ok.bs b o e).1 (I.ok.bs b o e).2 (I.ok.nofr e) (I.ok.noex b o e),I.base.free b o (I.ok.bs b o e).1 (I.ok.bs b o e).2 (I.ok.noex b o e)⟩
theorem Inv.bk(I:Inv X pins σ H s):∀b o,X.base.get? b=some o->s.heap.get? b=some o:=λb o e=>(I.bs b o e).1
theorem Inv.mod(I:Inv X pins σ H s):Mod X.K X.mg X.base:=I.ok.mod
theorem Inv.kIn(I:Inv X pins σ H s):X.K.In s.heap:=I.ok.mod.kin.keeps I.bk
theorem Inv.lt(I:Inv X pins σ H s):X.env.locals<s.heap.objs.size:=let ⟨_,hn,_⟩:=I.loc;hn.lt
theorem Inv.sz(I:Inv X pins σ H s):X.s₀.heap.objs.size<=s.heap.objs.size:=Nat.le_trans I.ok.above (Nat.le_of_lt I.lt)
theorem Inv.nofs(I:Inv X pins σ H s){a:Addr}(h:s.heap.objs.size<=a):a ∉X.fs:=λe=>by
 obtain⟨_,o,c,_⟩:=I.ok.funs.mem e;exact absurd (Nat.lt_of_lt_of_le (Heap.lt_size c) (Nat.le_trans I.sz h)) (Nat.lt_irrefl _)
theorem Inv.cne(I:Inv X pins σ H s):∀x c,X.env.cells.lookup x=some c->c≠X.env.locals:=λx c e z=>by
 obtain⟨v,o,g,hd⟩:=I.cell x c e;obtain⟨m,⟨o',es,ep,a,f,_⟩,_⟩:=I.loc;rw[z,a]at g;cases g;rw[f]at hd;cases hd
theorem Inv.funs(I:Inv X pins σ H s):s.heap.FunFrames X.base X.outer:=by
 have all:∀(l:List Env),(∀b∈frs l,b∈X.fs)->X.s₀.heap.FunFrames X.base l->s.heap.FunFrames X.base l:=by
  intro l
  induction l with
  |nil=>intro _ _;trivial
  |cons env r g=>
   intro hs j;obtain⟨m,⟨L,o,a,hn,i,hd⟩,h⟩:=j;have f:L∈X.fs:=hs L (by unfold frs;rw[List.filterMap_cons,a];exact List.mem_cons_self);obtain⟨sl,e⟩:=I.base.slot L o i (I.ok.frf L f) f λz=>I.ok.exfs L z f;exact⟨m,⟨L,_,a,hn,e,hd⟩,g (λb c=>hs b (by unfold frs;rw[List.filterMap_cons,a];exact List.mem_cons_of_mem _ c)) h⟩
 exact all X.outer (λ_ c=>c) I.ok.funs
theorem Inv.stack(I:Inv X pins σ H s):s.heap.FunFrames X.base X.stack:=by
 rcases I.ok.stk with e |⟨e,hf⟩
 ·rw[e];exact I.funs
 ·rw[e]
  obtain⟨m,hn,_⟩:=I.loc;refine .cons (by rw[I.ok.kind];decide) hf hn ?_ I.funs;exact Heap.get?_none_of_le (Nat.le_trans I.ok.bsz I.ok.above)
theorem Inv.stkSub(I:Inv X pins σ H s):∀b∈frs X.stack,b∈X.env.locals::X.fs:=λb a=>by
 rcases I.ok.stk with e |⟨e,c⟩
 ·rw[e]at a;exact List.mem_cons_of_mem _ a
 ·rw[e]at a
  unfold frs at a;rw[List.filterMap_cons,c]at a;exact a
theorem Inv.stkFree(I:Inv X pins σ H s):∀b∈frs X.stack,H b=none:=λb a=>by
 rcases zMC (I.stkSub b a) with e |a
 ·rw[e];exact I.free
 ·obtain⟨_,o,c,_⟩:=I.ok.funs.mem a
  exact I.base.free b o c (I.ok.frf b a) λz=>I.ok.exfs b z a
theorem Inv.step {g':Array GenState} {t':Nat} {d':Drawn} {ch:List Addr} (I:Inv X pins σ H s)
  (hch:∀b∈ch,(b∈X.ex\/X.s₀.heap.objs.size<=b)/\b≠X.env.locals/\(∀x c,X.env.cells.lookup x=some c->c≠b)/\∀p∈X.pn++pins,p.1≠b)
  (keep:∀b o,b≠X.env.locals->b ∉X.fs->b ∉ch->s.heap.get? b=some o->H b=none->h'.get? b=some o)
  (slot:∀b o,b≠X.env.locals->b∈X.fs->b ∉ch->s.heap.get? b=some o->H b=none->∃sl,h'.get? b=some {o with slots:=sl}) (free:∀b o,b ∉ch->s.heap.get? b=some o->H b=none->H' b=none)
  (there:∀b o,b ∉ch->s.heap.get? b=some o->∃o',h'.get? b=some o')
  (tups:∀b xs,H b=some (.tup xs)->H' b=some (.tup xs)) (frzs:∀b o u,H b=some (.frz o u)->H' b=some (.frz o u)) (tbls:∀b ps,H b=some (.tbl ps)->∃more,H' b=some (.tbl (ps++more)))
  (ns:∀m,s.heap.Ns X.env.locals m->h'.Ns X.env.locals m) (hok:HOk X.prog X.w H' h') (hg:AllBare g') :
  Inv X pins σ H' {s with heap:=h',gens:=g',drawn:=d',toks:=t'}:=by
 have neL:∀b o,X.s₀.heap.get? b=some o->b≠X.env.locals:=λb o e=>Nat.ne_of_lt (Nat.lt_of_lt_of_le (Heap.lt_size e) I.ok.above)
 have neC:∀b o,X.s₀.heap.get? b=some o->b ∉X.ex->b ∉ch:=λb o e hx hb=>by
  rcases(hch b hb).1 with z |z
  ·exact hx z
  ·exact absurd (Nat.lt_of_lt_of_le (Heap.lt_size e) z) (Nat.lt_irrefl _)
 have cellK:∀x c,X.env.cells.lookup x=some c->∀v,s.heap.IsCell c v->h'.IsCell c v:=λx c e v ⟨o,ho,hd⟩=>by
  have nch:c ∉ch:=λz=>(hch c z).2.2.1 x c e rfl;by_cases hc:c∈X.fs
  ·obtain⟨sl,q⟩:=slot c o (I.cne x c e) hc nch ho (I.freeC x c e)
   exact⟨_,q,hd⟩
  ·exact⟨o,keep c o (I.cne x c e) hc nch ho (I.freeC x c e),hd⟩
 refine⟨I.ok,I.os,hg,⟨λb o e n hb hx=>?_,λb o e n hb hx=>?_,λb o e n hx=>?_,λb o e hx=>?_,λb xs e=>tups b xs (I.base.tups b xs e),λb o xs e=>frzs b o xs (I.base.frzs b o xs e),λb ps e=>?_⟩,?_,λx c e=>?_,?_,λx c e=>?_,λp hp=>?_,hok,I.len⟩
 ·exact keep b o (neL b o e) hb (neC b o e hx) (I.base.keep b o e n hb hx) (I.base.free b o e n hx)
 ·obtain⟨sl,e1⟩:=I.base.slot b o e n hb hx
  obtain⟨sl',e2⟩:=slot b _ (neL b o e) hb (neC b o e hx) e1 (I.base.free b o e n hx);exact⟨sl',e2⟩
 ·obtain⟨o',e1⟩:=I.base.there b o e hx
  exact free b o' (neC b o e hx) e1 (I.base.free b o e n hx)
 ·obtain⟨o',e1⟩:=I.base.there b o e hx
  exact there b o' (neC b o e hx) e1
 ·obtain⟨m1,e1⟩:=I.base.tbls b ps e
  obtain⟨m2,e2⟩:=tbls b _ e1;exact⟨m1++m2,by rw[e2,Array.append_assoc]⟩
 ·obtain⟨m,hn,hl⟩:=I.loc
  refine⟨m,ns m hn,λi x v e1 e2 e3=>?_⟩;obtain⟨u,r,l⟩:=hl i x v e1 e2 e3;refine⟨u,r,?_⟩;rcases l with l |⟨k,c,e,z⟩
  ·exact .inl l
  ·exact .inr ⟨k,c,e,cellK x c e _ z⟩
 ·obtain⟨v,z⟩:=I.cell x c e
  exact⟨v,cellK x c e v z⟩
 ·obtain⟨m,⟨o,_,_,ho,_⟩,_⟩:=I.loc
  exact free _ o (λz=>(hch _ z).2.1 rfl) ho I.free
 ·obtain⟨v,o,ho,hd⟩:=I.cell x c e
  exact free c o (λz=>(hch c z).2.2.1 x c e rfl) ho (I.freeC x c e)
 ·obtain⟨e,n,ne,nf,d⟩:=I.pin p hp
  have nch:p.1 ∉ch:=λz=>(hch p.1 z).2.2.2 p hp rfl;exact⟨keep p.1 p.2 ne nf nch e n,free p.1 p.2 nch e n,ne,nf,d⟩
theorem Inv.un{t':Nat}(I:Inv X pins σ H s)(u:Un X.fs [] H H' s.heap h')(hok:HOk X.prog X.w H' h'):Inv X pins σ H' {s with heap:=h',toks:=t'}:=by
 obtain⟨m,⟨o,es,ep,ho,r⟩,_⟩:=id I.loc;obtain⟨sl,hL⟩:=u.any ho I.free (by simp)
 exact I.step (g':=s.gens) (d':=s.drawn) (ch:=[]) (λ_ z=>nomatch z) (λb o _ hb _ e n=>u.keep b o e n hb (by simp)) (λb o _ hb _ e n=>u.slot b o e n hb (by simp)) (λb o _ e n=>u.free b o e n (by simp)) (λb o _ e=>u.there b o e (by simp)) u.tups u.frzs u.tbls (λm' hm=>by
  obtain⟨o',es',ep',ho',r'⟩:=hm;rw[ho]at ho';cases ho';exact⟨_,es',ep',hL,r'⟩) hok I.bare
theorem Inv.call {g':Array GenState} {t':Nat} {d':Drawn} {ch:List Addr} (I:Inv X pins σ H s) (u:Un (frs X.stack) ch H H' s.heap h') (hok:HOk X.prog X.w H' h') (hg:AllBare g')
  (hch:∀b∈ch,(b∈X.ex\/X.s₀.heap.objs.size<=b)/\b≠X.env.locals/\(∀x c,X.env.cells.lookup x=some c->c≠b)/\∀p∈X.pn++pins,p.1≠b) :
  Inv X pins σ H' {s with heap:=h',gens:=g',drawn:=d',toks:=t'}:=by
 obtain⟨m,⟨o,es,ep,ho,r⟩,_⟩:=id I.loc;obtain⟨sl,hL⟩:=u.any ho I.free λz=>(hch _ z).2.1 rfl
 exact I.step (ch:=ch) hch (λb o hL hb hc e n=>u.keep b o e n (λz=>(zMC (I.stkSub b z)).elim hL hb) hc) (λb o _ _ hc e n=>u.any e n hc) (λb o hc e n=>u.free b o e n hc) (λb o hc e=>u.there b o e hc) u.tups u.frzs u.tbls (λm' hm=>by
  obtain⟨o',es',ep',ho',r'⟩:=hm;rw[ho]at ho';cases ho';exact⟨_,es',ep',hL,r'⟩) hok hg
theorem Inv.turned {t':Nat} {it:Addr} (I:Inv X pins σ H s) (k:∀b o,b≠it->s.heap.get? b=some o->h'.get? b=some o) (hn:H it=none) (hL:it≠X.env.locals)
  (h1:it∈X.ex\/X.s₀.heap.objs.size<=it) (h2:∀x c,X.env.cells.lookup x=some c->c≠it) (h3:∀p∈X.pn++pins,p.1≠it):Inv X pins σ H {s with heap:=h',toks:=t'}:=by
 have nit:∀b u,H b=some u->b≠it:=λb u e z=>by rw[z,hn]at e;cases e
 refine I.step (g':=s.gens) (d':=s.drawn) (ch:=[it]) (λb hb=>?_) (λb o _ _ hc e _=>k b o (λz=>hc (by simp[z])) e) (λb o _ _ hc e _=>⟨o.slots,k b o (λz=>hc (by simp[z])) e⟩) (λ_ _ _ _ n=>n)
  (λb o hc e=>⟨o,k b o (λz=>hc (by simp[z])) e⟩) (λ_ _ e=>e) (λ_ _ _ e=>e) (λb ps e=>⟨#[],by rw[e];simp⟩) (λm hm=>?_) (λb u e=>?_) I.bare
 ·have e:b=it:=by simpa using hb
  subst e;exact⟨h1,hL,h2,h3⟩
 ·obtain⟨o,es,ep,ho,r⟩:=hm
  exact⟨o,es,ep,k _ o (Ne.symm hL) ho,r⟩
 ·refine(I.hok b u e).stay (λc v hc q=>k c v ?_ q) (λ_ q=>q) λ_ _ q=>q
  rcases hc with z |z
  ·rw[z];exact nit b u e
  ·exact nit c _ z
theorem Inv.tok(I:Inv X pins σ H s)(t:Nat):Inv X pins σ H {s with toks:=t}:=I.un (h':=s.heap) (t':=t) Un.refl I.hok
theorem Inv.kept{t':Nat}(I:Inv X pins σ H s)(k:∀b u,s.heap.get? b=some u->h'.get? b=some u):Inv X pins σ H {s with heap:=h',toks:=t'}:=I.un (Un.kept k) (I.hok.kept k)
theorem Inv.laid {a:Addr} {o:HO} {t':Nat} (I:Inv X pins σ H s) (k:∀b u,s.heap.get? b=some u->h'.get? b=some u) (hp:s.heap.objs.size<=a) (new:ObjOk X.prog X.w (upd H a o) h' a o) :
  Inv X pins σ (upd H a o) {s with heap:=h',toks:=t'}:=I.un (Un.laid k hp (I.hok.fresh hp)) (I.hok.laid k hp new)
theorem Inv.write {x e:Addr} {o:HO} {t':Nat} (I:Inv X pins σ H s) (mu:Mut (H x)) (he:e=x\/H e=some (.own x)) (k:∀b u,b≠e->s.heap.get? b=some u->h'.get? b=some u) (heo:∃u,h'.get? e=some u)
  (new:ObjOk X.prog X.w (upd H x o) h' x o):Inv X pins σ (upd H x o) {s with heap:=h',toks:=t'}:=I.un (Un.write mu he k heo) (I.hok.write mu he k heo new)
theorem Inv.weak{σ':List (Option V)}(I:Inv X pins σ H s)(hl:σ'.length=σ.length)(w:∀(i:Nat) v,σ'[i]?=some (some v)->σ[i]?=some (some v)):Inv X pins σ' H s:=
 ⟨I.ok,I.os,I.bare,I.base,let ⟨m,hn,hl'⟩:=I.loc;⟨m,hn,λi x v e1 e2 e3=>hl' i x v e1 (w i v e2) e3⟩,I.cell,I.free,I.freeC,I.pin,I.hok,hl.trans I.len⟩
theorem Inv.pins_of{a:List (Addr×Obj)}(I:Inv X pins σ H s)(h:∀p∈a,s.heap.get? p.1=some p.2/\H p.1=none/\p.1≠X.env.locals/\p.1 ∉X.fs/\∀v,p.2.data≠.cell v):Inv X a σ H s:=
 ⟨I.ok,I.os,I.bare,I.base,I.loc,I.cell,I.free,I.freeC,λp c=>(zMA c).elim (λz=>I.pin p (List.mem_append_left _ z)) (h p),I.hok,I.len⟩
theorem xlp{N:List Str}(c:N.Nodup){i j:Nat}{x:Str}(a:N[i]?=some x)(b:N[j]?=some x):i=j:=by
 obtain⟨h1,f⟩:=zES a;obtain⟨h2,e⟩:=zES b;exact(List.getElem_inj c).mp (f.trans e.symm)
theorem xh0 {M:Model} {A:Around} {E:Value->Shared->Prop} {i:Nat} {x:Str} {v:V} {u:Value} {Q:Unit->Shared->Prop} (I:Inv X pins σ H s) (hN:X.N.Nodup) (hi:X.N[i]?=some x) (hx:Loc X.env.scope x) (r:RelV v u)
  (h:∀s',Inv X pins (σ.set i (some v)) H s'->(∃a,Heap.SameBut a s.heap s'.heap/\(a=X.env.locals\/X.env.cells.lookup x=some a))->Q () s') (hf:X.fn x=true\/X.env.scope.names.lookup x=some .local:=by first |exact .inl rfl |exact .inr rfl |assumption):wpAny M A (storeName X.env x u) Q E s:=by
 obtain⟨m,hn,hl⟩:=id I.loc;have hcls:(X.env.scope.kind == .class || (X.env.scope.kind == .module && X.env.locals != X.env.globals))=false:=by rw[I.ok.kind];rfl
 have hiσ:i<σ.length:=by rw[I.len];exact(zES hi).1
 have cne:=I.cne
 have tracked:∀{a:Addr} {h':Heap},(∃o,s.heap.get? a=some o/\H a=none)->Heap.SameBut a s.heap h'->HOk X.prog X.w H h':=λ{a h'} ha hs b ob e=>by
  obtain⟨_,_,hfree⟩:=ha;refine(I.hok b ob e).stay (λc w' hc q=>(hs.2 c ?_).trans q) (λ_ q=>q) λ_ _ q=>q;rintro rfl;rcases hc with rfl |hc
  ·rw[hfree]at e;cases e
  ·rw[hfree]at hc;cases hc
 rcases hx with hk |hk
 ·refine wpAny_storeName_local hk hn (λh' hn' hs=>?_) hcls
  obtain⟨oL,_,_,hoL,_⟩:=id hn;refine h _ ⟨I.ok,I.os,I.bare,⟨λb o e n hb hx=>?_,λb o e n hb hx=>?_,I.base.free,λb o e hx=>?_,I.base.tups,I.base.frzs,I.base.tbls⟩,⟨_,hn',λj y v' e1 e2 e3=>?_⟩,λy c e=>?_,I.free,I.freeC,λp hp=>?_,tracked ⟨oL,hoL,I.free⟩ hs,by simpa using I.len⟩ ⟨_,hs,.inl rfl⟩
  ·exact(hs.2 b (Nat.ne_of_lt (Nat.lt_of_lt_of_le (Heap.lt_size e) I.ok.above))).trans (I.base.keep b o e n hb hx)
  ·obtain⟨sl,e1⟩:=I.base.slot b o e n hb hx
   exact⟨sl,(hs.2 b (Nat.ne_of_lt (Nat.lt_of_lt_of_le (Heap.lt_size e) I.ok.above))).trans e1⟩
  ·obtain⟨o',e1⟩:=I.base.there b o e hx
   exact⟨o',(hs.2 b (Nat.ne_of_lt (Nat.lt_of_lt_of_le (Heap.lt_size e) I.ok.above))).trans e1⟩
  ·by_cases hj:j=i
   ·subst hj
    rw[hi]at e1;cases e1;rw[List.getElem?_set_self hiσ]at e2;cases e2;exact⟨u,r,.inl ⟨hk,by simp⟩⟩
   ·rw[List.getElem?_set_ne (Ne.symm hj)]at e2
    obtain⟨u',r',q⟩:=hl j y v' e1 e2 e3;refine⟨u',r',?_⟩;rcases q with⟨k,e⟩ |⟨k,c,e,z⟩
    ·refine .inl ⟨k,?_⟩
     have:y≠x:=λe=>hj (xlp hN e1 (e ▸ hi));simp[this,e]
    ·exact .inr ⟨k,c,e,z.sameBut hs (cne y c e)⟩
  ·obtain⟨w',z⟩:=I.cell y c e
   exact⟨w',z.sameBut hs (cne y c e)⟩
  ·obtain⟨e,n,ne,nf,d⟩:=I.pin p hp
   exact⟨(hs.2 p.1 ne).trans e,n,ne,nf,d⟩
 ·have hfn:X.fn x=true:=by
   rcases hf with z |z
   ·exact z
   ·rw[z]at hk;cases hk
  obtain⟨c,hc⟩:=I.ok.has x (.inl hk);obtain⟨w',z⟩:=I.cell x c hc;refine wpAny_storeName_cell I.ok.kind hk hc z (λh' hc' hs=>?_);obtain⟨oc,hoc,hocd⟩:=id z;refine h {s with heap:=h'} ⟨I.ok,I.os,I.bare,⟨λb o e n hb hx=>?_,λb o e n hb hx=>?_,I.base.free,λb o e hx=>?_,I.base.tups,I.base.frzs,I.base.tbls⟩,⟨m,hn.sameBut hs (Ne.symm (cne x c hc)),λj y v' e1 e2 e3=>?_⟩,λy c' e=>?_,I.free,I.freeC,λp hp=>?_,tracked ⟨oc,hoc,I.freeC x c hc⟩ hs,by simpa using I.len⟩ ⟨c,hs,.inr hc⟩
  ·exact(hs.2 b (Nat.ne_of_lt (Nat.lt_of_lt_of_le (Heap.lt_size e) (I.ok.cab x c hfn hc)))).trans (I.base.keep b o e n hb hx)
  ·obtain⟨sl,e1⟩:=I.base.slot b o e n hb hx
   exact⟨sl,(hs.2 b (Nat.ne_of_lt (Nat.lt_of_lt_of_le (Heap.lt_size e) (I.ok.cab x c hfn hc)))).trans e1⟩
  ·obtain⟨o',e1⟩:=I.base.there b o e hx
   exact⟨o',(hs.2 b (Nat.ne_of_lt (Nat.lt_of_lt_of_le (Heap.lt_size e) (I.ok.cab x c hfn hc)))).trans e1⟩
  ·by_cases hj:j=i
   ·subst hj
    rw[hi]at e1;cases e1;rw[List.getElem?_set_self hiσ]at e2;cases e2;exact⟨u,r,.inr ⟨.inl hk,c,hc,hc'⟩⟩
   ·rw[List.getElem?_set_ne (Ne.symm hj)]at e2
    obtain⟨u',r',q⟩:=hl j y v' e1 e2 e3;refine⟨u',r',?_⟩;rcases q with q |⟨k,c',e,z'⟩
    ·exact .inl q
    ·refine .inr ⟨k,c',e,z'.sameBut hs ?_⟩
     rintro rfl;exact hj (xlp hN e1 (I.ok.inj _ _ _ e hc ▸ hi))
  ·by_cases hcc:c'=c
   ·subst hcc;exact⟨_,hc'⟩
   ·obtain⟨w2,z2⟩:=I.cell y c' e
    exact⟨w2,z2.sameBut hs hcc⟩
  ·obtain⟨e,n,ne,nf,d⟩:=I.pin p hp
   refine⟨(hs.2 p.1 ?_).trans e,n,ne,nf,d⟩;intro q;rw[q,hoc]at e;have q':oc=p.2:=Option.some.inj e;exact d w' (by rw[<- q'];exact hocd)
theorem xlb {M:Model} {A:Around} {E:Value->Shared->Prop} {i:Nat} {x:Str} {v:V} {u:Value} {Q:Unit->Shared->Prop} (I:Inv X pins σ H s) (e:X.N.Nodup) (hi:X.N[i]?=some x) (a:Loc X.env.scope x) (r:RelV v u)
  (h:∀s',Inv X pins (σ.set i (some v)) H s'->Q () s') (c:X.fn x=true\/X.env.scope.names.lookup x=some .local:=by first |exact .inl rfl |exact .inr rfl |assumption):wpAny M A (storeName X.env x u) Q E s:=
 xh0 I e hi a r (λs' f _=>h s' f) c
theorem Inv.call' {s':Shared} {ch:List Addr} (I:Inv X pins σ H s) (ho:s'.os=s.os) (u:Un (frs X.stack) ch H H' s.heap s'.heap) (hok:HOk X.prog X.w H' s'.heap) (hg:AllBare s'.gens)
  (hch:∀b∈ch,(b∈X.ex\/X.s₀.heap.objs.size<=b)/\b≠X.env.locals/\(∀x c,X.env.cells.lookup x=some c->c≠b)/\∀p∈X.pn++pins,p.1≠b):Inv X pins σ H' s':=by
 obtain⟨h',g',d',t',o'⟩:=s';have e:o'=s.os:=ho;subst e;exact I.call (g':=g') (t':=t') (d':=d') u hok hg hch
end
abbrev XK:=Value->Option Addr->Hp->Prop
abbrev St:=List (Option V)
abbrev VK:=V->Hp->Prop
abbrev TE:=St->Hp->VK->Prop
abbrev TT:=St->Hp->(Bool->Hp->Prop)->Prop
abbrev TA:=St->Hp->(List V->Hp->Prop)->Prop
structure Ends where
 nx:St->Hp->Prop
 rt:VK
 bk:St->Hp->Prop:=λ_ _=>False
 ct:St->Hp->Prop:=λ_ _=>False
abbrev TS:=Ends->St->Hp->Prop
def EP(X:Cx)(pins:List (Addr×Obj))(σ:St)(Q:VK)(u:Value)(s':Shared):Prop:=∃v H',Inv X pins σ H' s'/\RelV v u/\Q v H'
def TP(X:Cx)(pins:List (Addr×Obj))(σ:St)(Q:Bool->Hp->Prop)(b:Bool)(s':Shared):Prop:=∃H',Inv X pins σ H' s'/\Q b H'
def AP(X:Cx)(pins:List (Addr×Obj))(σ:St)(Q:List V->Hp->Prop)(us:List Value)(s':Shared):Prop:=∃vs H',Inv X pins σ H' s'/\Vals vs us/\Q vs H'
def SP(X:Cx)(pins:List (Addr×Obj))(D:Ends)(f:Flow)(s':Shared):Prop:=
 match f with
 |.next=>∃σ' H',Inv X pins σ' H' s'/\D.nx σ' H'
 |.brk=>∃σ' H',Inv X pins σ' H' s'/\D.bk σ' H'
 |.cont=>∃σ' H',Inv X pins σ' H' s'/\D.ct σ' H'
 |.ret u=>∃v σ' H',Inv X pins σ' H' s'/\RelV v u/\D.rt v H'
def PE(X:Cx)(e:Expr)(t:TE):Prop:=
 ∀(pins:List (Addr×Obj)) (s:Shared) (σ:St) (H:Hp) (Q:VK),Inv X pins σ H s->t σ H Q->wpAny (model X.prog X.w) X.A (eval e X.env) (EP X pins σ Q) X.xe s
def PT(X:Cx)(e:Expr)(t:TT):Prop:=
 ∀(pins:List (Addr×Obj)) (s:Shared) (σ:St) (H:Hp) (Q:Bool->Hp->Prop),Inv X pins σ H s->t σ H Q->wpAny (model X.prog X.w) X.A (isTrue e X.env (eval e X.env)) (TP X pins σ Q) X.xe s
def PW(X:Cx)(e:Expr)(t:TT):Prop:=
 ∀(whole:Sem Value) (pins:List (Addr×Obj)) (s:Shared) (σ:St) (H:Hp) (Q:Bool->Hp->Prop),Inv X pins σ H s->t σ H Q->wpAny (model X.prog X.w) X.A (isTrue e X.env whole) (TP X pins σ Q) X.xe s
theorem PW.pt{X:Cx}{e:Expr}{t:TT}(h:PW X e t):PT X e t:=h _
def PA(X:Cx)(es:List Expr)(t:TA):Prop:=
 ∀(pos:Pos) (pins:List (Addr×Obj)) (s:Shared) (σ:St) (H:Hp) (Q:List V->Hp->Prop),Inv X pins σ H s->t σ H Q->wpAny (model X.prog X.w) X.A (spliced (backTo pos (starEach es X.env))) (AP X pins σ Q) X.xe s
def PS(X:Cx)(st:Stmt)(t:TS):Prop:=
 ∀(pins:List (Addr×Obj)) (s:Shared) (σ:St) (H:Hp) (D:Ends),Inv X pins σ H s->t D σ H->wpAny (model X.prog X.w) X.A (exec st X.env) (SP X pins D) X.xe s
def PSs(X:Cx)(st:List Stmt)(t:TS):Prop:=
 ∀(pins:List (Addr×Obj)) (s:Shared) (σ:St) (H:Hp) (D:Ends),Inv X pins σ H s->t D σ H->wpAny (model X.prog X.w) X.A (execs st X.env) (SP X pins D) X.xe s
theorem thn{α:Type}{t:Sem α}{Q Q':α->Shared->Prop}{M:Model}{A:Around}{E:Value->Shared->Prop}{s:Shared}(h:wpAny M A t Q E s)(hQ:∀a s,Q a s->Q' a s):wpAny M A t Q' E s:=wpAny_mono h hQ λ_ _ x=>x
section
variable {X:Cx}
def tVar(i:Nat):TE:=λσ H Q=>∃v,σ[i]?=some (some v)/\Q v H
def tC(v:V):TE:=λ_ H Q=>Q v H
theorem xt0{i:Nat}{x:Str}{pos:Pos}(w:X.N[i]?=some x)(n:Vis X.env.scope x)(hd:(x == ("__debug__":Str))=false:=by decide)(g:(x == ("__classdict__":Str))=false:=by decide):PE X (.Name x pos) (tVar i):=by
 intro pins s σ H Q I h;obtain⟨v,e,h⟩:=h;obtain⟨m,hn,p⟩:=I.loc;obtain⟨u,r,l⟩:=p i x v w e n;have fin:EP X pins σ Q u s:=⟨v,H,I,r,h⟩;rcases l with⟨f,o⟩ |⟨f,c,j,a⟩
 ·exact wpAny_Name (wpAny_loadName_local I.ok.kind f hn o fin) hd
 ·rcases f with f |f
  ·exact wpAny_Name (wpAny_loadName_cell I.ok.kind f j a fin) hd
  ·exact wpAny_Name (wpAny_loadName_free I.ok.kind f j a fin g) hd
theorem pI{i j pos}:PE X (.Constant (.int i) j pos) (tC (.int i)):=λ_ _ _ H _ I h=>wpAny_Constant_int ⟨.int i,H,I.tok _,⟨_,rfl⟩,h⟩
theorem xil{b j pos}:PE X (.Constant (.bool b) j pos) (tC (.bl b)):=λ_ _ _ H _ I h=>Constant_bool ⟨.bl b,H,I,rfl,h⟩
theorem xdx{j pos}:PE X (.Constant .none j pos) (tC .non):=λ_ _ _ H _ I h=>Constant_none ⟨.non,H,I,rfl,h⟩
theorem pS{x j pos}:PE X (.Constant (.str x) j pos) (tC (.str x)):=λ_ _ _ H _ I h=>Calls.Constant_str ⟨.str x,H,I.tok _,⟨_,rfl⟩,h⟩
def Gl(X:Cx)(x:Str):Prop:=X.env.kindOf x=some .globalImplicit
theorem xkw {E:Value->Shared->Prop} {pins:List (Addr×Obj)} {s:Shared} {σ:St} {H:Hp} {x:Str} {u:Value} {pos:Pos} {Q:Value->Shared->Prop} (I:Inv X pins σ H s) (c:Gl X x) (a:X.mg x=some u) (h:Q u s)
  (hd:(x == ("__debug__":Str))=false:=by decide):wpAny (model X.prog X.w) X.A (eval (.Name x pos) X.env) Q E s:=
 Calls.Name_function_global I.ok.kind c (Calls.loadGlobal_global (by rw[I.ok.glob];exact I.mod.glob.keeps I.bk) a h) hd
theorem xjb {E:Value->Shared->Prop} {pins:List (Addr×Obj)} {s:Shared} {σ:St} {H:Hp} {x:Str} {u:Value} {pos:Pos} {Q:Value->Shared->Prop} (I:Inv X pins σ H s) (e:Gl X x) (c:X.mg x=none) (a:bootBuiltins x=some u) (h:Q u s)
  (hn:x≠"__name__":=by decide) (hd:(x == ("__debug__":Str))=false:=by decide):wpAny (model X.prog X.w) X.A (eval (.Name x pos) X.env) Q E s:=by
 obtain⟨f,h1,h2⟩:=I.mod.blt;exact Calls.Name_function_global I.ok.kind e (Calls.loadGlobal_builtin (by rw[I.ok.glob];exact I.mod.glob.keeps I.bk) c (by rw[I.ok.blt];exact h1.keeps I.bk) ((h2 x hn).trans a) h) hd
theorem xr7{x:Str}{v:V}{u:Value}{pos:Pos}(hg:Gl X x)(hm:X.mg x=some u)(r:RelV v u)(hd:(x == ("__debug__":Str))=false:=by decide):PE X (.Name x pos) (tC v):=
 λ_ _ _ H _ I h=>xkw I hg hm ⟨v,H,I,r,h⟩ hd
theorem xsa{x:Str}{v:V}{u:Value}{pos:Pos}(e:Gl X x)(c:X.mg x=none)(a:bootBuiltins x=some u)(r:RelV v u)(hn:x≠"__name__":=by decide)(hd:(x == ("__debug__":Str))=false:=by decide):PE X (.Name x pos) (tC v):=
 λ_ _ _ H _ I h=>xjb I e c a ⟨v,H,I,r,h⟩ hn hd
variable {a b:Expr}{ta tb:TE}{pos:Pos}
def tB(t:TE):TT:=λσ H Q=>t σ H λx H1=>∃c,x=.bl c/\Q c H1
theorem xii{e:Expr}{t:TE}(h:PE X e t)(he:∀whole,isTrue e X.env whole=(do let v <- whole;standAt e.pos;holding [v] (truthy v)):=by intro _;rfl):PT X e (tB t):=by
 intro pins s σ H Q I hw;refine isTrue_plain (thn (h pins s σ H _ I hw) λv s1 ⟨x,H1,I1,r1,q1⟩=>?_) (he _);obtain⟨d,rfl,q⟩:=q1;cases r1;exact wpAny_truthy_bool ⟨H1,I1,q⟩
variable {tA tB':TT}{rest:List Expr}
def tAnd(t u:TT):TT:=λσ H Q=>t σ H λc H1=>if c=true then u σ H1 Q else Q false H1
def tOr(t u:TT):TT:=λσ H Q=>t σ H λc H1=>if c=true then Q true H1 else u σ H1 Q
def tNot(t:TT):TT:=λσ H Q=>t σ H λc H1=>Q (!c) H1
theorem xb0(f:PT X a tA):PW X (.BoolOp .And [a] pos) tA:=by
 intro g pins s σ H Q I h;refine isTrue_and (thn (f pins s σ H Q I h) λc i e=>?_)
 cases c with
 |true=>exact isTrue_and_nil e
 |false=>exact e
theorem xgq(f:PT X a tA):PW X (.BoolOp .Or [a] pos) tA:=by
 intro g pins s σ H Q I h;refine isTrue_or (thn (f pins s σ H Q I h) λc i e=>?_)
 cases c with
 |false=>exact isTrue_or_nil e
 |true=>exact e
theorem xcj(l:PT X a tA)(j:PW X (.BoolOp .And (b::rest) pos) tB'):PW X (.BoolOp .And (a::b::rest) pos) (tAnd tA tB'):=by
 intro g pins s σ H Q I h;refine isTrue_and (thn (l pins s σ H _ I h) λc i ⟨H1,f,e⟩=>?_)
 cases c with
 |true=>exact j g pins i σ H1 Q f e
 |false=>exact⟨H1,f,e⟩
theorem xgj(l:PT X a tA)(j:PW X (.BoolOp .Or (b::rest) pos) tB'):PW X (.BoolOp .Or (a::b::rest) pos) (tOr tA tB'):=by
 intro g pins s σ H Q I h;refine isTrue_or (thn (l pins s σ H _ I h) λc i ⟨H1,f,e⟩=>?_)
 cases c with
 |true=>exact⟨H1,f,e⟩
 |false=>exact j g pins i σ H1 Q f e
theorem xnp(e:PT X a tA):PT X (.UnaryOp .Not a pos) (tNot tA):=by
 intro pins s σ H Q I h;exact isTrue_not (e pins s σ H (λc H1=>Q (!c) H1) I h)
def xva(ta tb:TE):TE:=λσ H Q=>ta σ H λx H1=>∃c,x=.bl c/\if c=true then tb σ H1 Q else Q (.bl false) H1
def xu5(ta:TE):TE:=λσ H Q=>ta σ H λx H1=>∃c,x=.bl c/\Q (.bl (!c)) H1
theorem xt1{op}{t:TE}(h:PE X a t):PE X (.BoolOp op [a] pos) t:=λpins s σ H Q I c=>BoolOp_one (h pins s σ H Q I c)
theorem xt3(l:PE X a ta)(j:PE X (.BoolOp .And (b::rest) pos) tb):PE X (.BoolOp .And (a::b::rest) pos) (xva ta tb):=by
 intro pins s σ H Q I h;refine BoolOp_and (thn (l pins s σ H _ I h) λv g ⟨x,H1,f,i,e⟩=>?_);obtain⟨c,rfl,e⟩:=e;cases i;refine wpAny_truthy_bool ?_
 cases c with
 |true=>exact j pins g σ H1 Q f e
 |false=>exact⟨.bl false,H1,f,rfl,e⟩
theorem xt2(g:PE X a ta):PE X (.UnaryOp .Not a pos) (xu5 ta):=by
 intro pins s σ H Q I h;refine UnaryOp_ (thn (g pins s σ H _ I h) λv j ⟨x,H1,i,f,e⟩=>?_);obtain⟨c,rfl,e⟩:=e;cases f;exact not_of (wpAny_truthy_bool ⟨.bl (!c),H1,i,rfl,e⟩)
def tIf(t:TT)(ta tb:TE):TE:=λσ H Q=>t σ H λc H1=>if c=true then ta σ H1 Q else tb σ H1 Q
theorem xes{c:Expr}(i:PT X c tA)(l:PE X a ta)(j:PE X b tb):PE X (.IfExp c a b pos) (tIf tA ta tb):=by
 intro pins s σ H Q I h;refine wpAny_IfExp (thn (i pins s σ H _ I h) λd e ⟨H1,g,f⟩=>?_)
 cases d with
 |true=>exact l pins e σ H1 Q g f
 |false=>exact j pins e σ H1 Q g f
end
def SqL(K:Fg)(H:Hp)(a:Addr)(xs:List V):Prop:=
 Rd H a (.lst xs) ∨
  ∃(o:Obj) (its:Array Value) (n:Nat),K.lookup a=some o/\o.cls=.type "list"/\o.dict=none/\o.data=.seq its n/\its.size<=sizeLine/\Vals xs its.toList
def SqT(K:Fg)(H:Hp)(a:Addr)(xs:List V):Prop:=
 Rd H a (.tup xs) ∨
  ∃(o:Obj) (its:Array Value) (n:Nat),K.lookup a=some o/\o.cls=.type "tuple"/\o.data=.seq its n/\its.size<=sizeLine/\Vals xs its.toList
def absV:Value->Option V
 |.none=>some .non
 |.bool b=>some (.bl b)
 |.int i _=>some (.int i)
 |.str x _=>some (.str x)
 |.bytes b _=>some (.byt b)
 |.float b _=>some (.flt b)
 |.ref a=>some (.ref a)
 |.type n=>some (.ty n)
 |_=>none
theorem RelV.abs{x:V}{u:Value}(r:RelV x u):absV u=some x:=by
 cases x with
 |non=>cases r;rfl
 |bl _=>cases r;rfl
 |int _=>obtain⟨t,rfl⟩:=r;rfl
 |str _=>obtain⟨t,rfl⟩:=r;rfl
 |byt _=>obtain⟨t,rfl⟩:=r;rfl
 |flt _=>obtain⟨t,rfl⟩:=r;rfl
 |ref _=>cases r;rfl
 |ty _=>cases r;rfl
theorem RelV.inj{x y:V}{u:Value}(r:RelV x u)(q:RelV y u):x=y:=Option.some.inj (r.abs.symm.trans q.abs)
theorem Vals.inj:∀{xs ys:List V} {us:List Value},Vals xs us->Vals ys us->xs=ys
 |_,_,_,.nil,.nil=>rfl
 |_,_,_,.cons r t,.cons a t'=>by rw[r.inj a,Vals.inj t t']
section
variable {X:Cx}{pins:List (Addr×Obj)}{σ:St}{H:Hp}{s:Shared}{a:Addr}{xs ys:List V}
theorem SqL.of{K:Fg}(h:H a=some (.lst xs)):SqL K H a xs:=.inl (.inl h)
theorem SqT.of{K:Fg}(h:H a=some (.tup xs)):SqT K H a xs:=.inl (.inl h)
theorem Inv.list(I:Inv X pins σ H s)(h:SqL X.K H a xs):∃its:List Value,Vals xs its/\PlainL s.heap a its.toArray/\xs.length<=sizeLine:=by
 rcases h with h |⟨o,its,n,c,f,hd,hs,hz,r⟩
 ·obtain⟨z,its,n,r,e⟩:=h.ok I.hok
  exact⟨its,r,⟨_,n,e,rfl,rfl,rfl⟩,z⟩
 ·refine⟨its.toList,r,⟨o,n,I.kIn a o c,f,hd,by simpa using hs⟩,?_⟩
  have e:=r.length;simp only[Array.length_toList]at e;omega
theorem Inv.tuple(I:Inv X pins σ H s)(h:SqT X.K H a xs):∃its:List Value,Vals xs its/\IsTup s.heap a its.toArray/\xs.length<=sizeLine:=by
 rcases h with h |⟨o,its,n,f,g,hs,hz,r⟩
 ·obtain⟨z,its,r,o,e,c,n,d,_⟩:=h.ok I.hok
  exact⟨its,r,⟨o,e,c,n,d⟩,z⟩
 ·refine⟨its.toList,r,⟨o,I.kIn a o f,g,n,by simpa using hs⟩,?_⟩
  have e:=r.length;simp only[Array.length_toList]at e;omega
theorem Inv.list_inj(I:Inv X pins σ H s)(h:SqL X.K H a xs)(h':SqL X.K H a ys):xs=ys:=by
 obtain⟨its,r,⟨o,n,e,_,_,d⟩,_⟩:=I.list h;obtain⟨its',f,⟨o',i,c,_,_,d'⟩,_⟩:=I.list h';rw[e]at c;cases c;rw[d]at d';injection d' with g _;have:its=its':=by simpa using congrArg Array.toList g
 subst this;exact r.inj f
theorem Inv.tuple_inj(I:Inv X pins σ H s)(h:SqT X.K H a xs)(h':SqT X.K H a ys):xs=ys:=by
 obtain⟨its,r,⟨o,e,_,n,d⟩,_⟩:=I.tuple h;obtain⟨its',f,⟨o',c,_,i,d'⟩,_⟩:=I.tuple h';rw[e]at c;cases c;rw[d]at d';injection d' with g _;have:its=its':=by simpa using congrArg Array.toList g
 subst this;exact r.inj f
end
abbrev Cx.wish(X:Cx)(E:Value->Shared->Prop):Cx:={X with xe:=E}
abbrev Cx.nox(X:Cx):Cx:=X.wish λ_ _=>False
theorem Cx.Ok.wish{X:Cx}(ok:X.Ok)(E:Value->Shared->Prop):(X.wish E).Ok:=
 ⟨ok.mod,ok.kind,ok.glob,ok.blt,ok.above,ok.inj,ok.has,ok.cab,ok.hd,ok.frames,ok.stk,ok.exf,ok.bs,ok.bsz,ok.noex,ok.exfs,ok.funs,ok.frf⟩
theorem Cx.Ok.unwish{X:Cx}{E:Value->Shared->Prop}(ok:(X.wish E).Ok):X.Ok:=
 ⟨ok.mod,ok.kind,ok.glob,ok.blt,ok.above,ok.inj,ok.has,ok.cab,ok.hd,ok.frames,ok.stk,ok.exf,ok.bs,ok.bsz,ok.noex,ok.exfs,ok.funs,ok.frf⟩
section
variable {X:Cx}{pins:List (Addr×Obj)}{σ:St}{H:Hp}{s:Shared}{E:Value->Shared->Prop}
theorem Inv.wish(I:Inv X pins σ H s)(E:Value->Shared->Prop):Inv (X.wish E) pins σ H s:=⟨I.ok.wish E,I.os,I.bare,I.base,I.loc,I.cell,I.free,I.freeC,I.pin,I.hok,I.len⟩
theorem Inv.unwish(I:Inv (X.wish E) pins σ H s):Inv X pins σ H s:=⟨I.ok.unwish,I.os,I.bare,I.base,I.loc,I.cell,I.free,I.freeC,I.pin,I.hok,I.len⟩
theorem SP.unwish{D:Ends}{f:Flow}{s':Shared}(h:SP (X.wish E) pins D f s'):SP X pins D f s':=by
 cases f with
 |next=>obtain⟨a,H',I,q⟩:=h;exact⟨a,H',I.unwish,q⟩
 |brk=>obtain⟨a,H',I,q⟩:=h;exact⟨a,H',I.unwish,q⟩
 |cont=>obtain⟨a,H',I,q⟩:=h;exact⟨a,H',I.unwish,q⟩
 |ret u=>obtain⟨v,a,H',I,r,q⟩:=h;exact⟨v,a,H',I.unwish,r,q⟩
theorem PSs.nox{st:List Stmt}{t:TS}(h:PSs X.nox st t):PSs X st t:=λpins s σ H D I a=>
 wpAny_mono (h pins s σ H D (I.wish _) a) (λ_ _ q=>q.unwish) λ_ _ z=>False.elim z
end
section
variable {X:Cx}{st:Stmt}{rest:List Stmt}{t u:TS}{e:Expr}{te:TE}{pos:Pos}
def xu6:TS:=λD σ H=>D.nx σ H
def tSeq(t u:TS):TS:=λD σ H=>t {D with nx:=u D} σ H
theorem pQ:PSs X [] xu6:=λ_ _ σ H _ I h=>wpAny_execs_nil ⟨σ,H,I,h⟩
theorem zpn(h1:PS X st t)(h2:PSs X rest u):PSs X (st::rest) (tSeq t u):=by
 intro pins s σ H D I h;refine wpAny_execs_cons (thn (h1 pins s σ H {D with nx:=u D} I h) λf c q=>?_)
 cases f with
 |next=>
  obtain⟨a,H',e,q⟩:=q;exact h2 pins c a H' D e q
 |ret v=>exact q
 |brk=>exact q
 |cont=>exact q
theorem zpo(h1:PS X st t):PSs X [st] t:=by
 intro pins s σ H D I h;refine wpAny_execs_cons (thn (h1 pins s σ H D I h) λf a q=>?_)
 cases f with
 |next=>exact wpAny_execs_nil q
 |ret v=>exact q
 |brk=>exact q
 |cont=>exact q
theorem Inv.quiet{pins:List (Addr×Obj)}{σ:St}{H:Hp}{s:Shared}(I:Inv X pins σ H s):interactive X.env=false:=by simp[interactive,I.ok.kind]
def xu7(te:TE):TS:=λD σ H=>te σ H λ_ H1=>D.nx σ H1
theorem xbl(c:PE X e te)(hs:swapsWith e none pos.line X.env=pure false:=by rfl):PS X (.Expr e pos) (xu7 te):=by
 intro pins s σ H D I h;exact wpAny_Expr_any (thn (c pins s σ H _ I h) λv g ⟨x,H1,f,i,a⟩=>⟨σ,H1,f,a⟩) I.quiet hs
def tRet(te:TE):TS:=λD σ H=>te σ H D.rt
theorem xai(f:PE X e te):PS X (.Return (some e) pos) (tRet te):=by
 intro pins s σ H D I h;exact wpAny_Return_some (thn (f pins s σ H _ I h) λv i ⟨x,H1,g,a,c⟩=>⟨x,σ,H1,g,a,c⟩)
def tIfS(c:TT)(t u:TS):TS:=λD σ H=>c σ H λb H1=>if b=true then t D σ H1 else u D σ H1
theorem xa4{c:Expr}{a b:List Stmt}{tc:TT}(i:PT X c tc)(l:PSs X a t)(j:PSs X b u):PS X (.If c a b pos) (tIfS tc t u):=by
 intro pins s σ H D I h;refine wpAny_If (thn (i pins s σ H _ I h) λd e ⟨H1,g,f⟩=>?_)
 cases d with
 |true=>exact l pins e σ H1 D g f
 |false=>exact j pins e σ H1 D g f
end
abbrev TG:=V->St->Hp->(St->Hp->Prop)->Prop
abbrev TGs:=List V->St->Hp->(St->Hp->Prop)->Prop
def PG(X:Cx)(target:Expr)(t:TG):Prop:=
 ∀(pins:List (Addr×Obj)) (s:Shared) (σ:St) (H:Hp) (v:V) (u:Value) (Q:St->Hp->Prop),Inv X pins σ H s->RelV v u->t v σ H Q->
  wpAny (model X.prog X.w) X.A (assign target X.env u) (λ_ s'=>∃σ' H',Inv X pins σ' H' s'/\Q σ' H') X.xe s
def PGs(X:Cx)(ts:List Expr)(t:TGs):Prop:=
 ∀(pins:List (Addr×Obj)) (s:Shared) (σ:St) (H:Hp) (vs:List V) (us:List Value) (Q:St->Hp->Prop),Inv X pins σ H s->Vals vs us->t vs σ H Q->
  wpAny (model X.prog X.w) X.A (assignInOrder ((assignEach ts X.env).map (·.2)) us) (λ_ s'=>∃σ' H',Inv X pins σ' H' s'/\Q σ' H') X.xe s
abbrev TSet:=V->V->V->Hp->(Hp->Prop)->Prop
def PSet(X:Cx)(t:TSet):Prop:=
 ∀(pins:List (Addr×Obj)) (s:Shared) (σ:St) (H:Hp) (o i v:V) (ov iv u:Value) (Q:Hp->Prop),Inv X pins σ H s->RelV o ov->RelV i iv->RelV v u->t o i v H Q->
  wpAny (model X.prog X.w) X.A (setItem ov iv u) (λ_ s'=>∃H',Inv X pins σ H' s'/\Q H') X.xe s
section
variable {X:Cx}{pos:Pos}
def xgc(i:Nat):TG:=λv σ H Q=>Q (σ.set i (some v)) H
theorem xns{i:Nat}{x:Str}(e:X.N.Nodup)(hi:X.N[i]?=some x)(a:Loc X.env.scope x)(c:X.fn x=true\/X.env.scope.names.lookup x=some .local:=by first |exact .inl rfl |exact .inr rfl |assumption):PG X (.Name x pos) (xgc i):=by
 intro pins s σ H v u Q I r h;exact wpAny_assign_Name (xlb I e hi a r (λs' f=>⟨_,H,f,h⟩) c)
def gNil:TGs:=λvs σ H Q=>vs=[]/\Q σ H
def xvr(t:TG)(u:TGs):TGs:=λvs σ H Q=>∃v r,vs=v::r/\t v σ H λσ' H'=>u r σ' H' Q
theorem xa7:PGs X [] gNil:=by
 intro pins s σ H vs us Q I r h;obtain⟨e,h⟩:=h;subst e;cases r;exact assignInOrder_nil ⟨σ,H,I,h⟩
theorem xac {e:Expr} {es:List Expr} {t:TG} {u:TGs} (h1:PG X e t) (h2:PGs X es u)
  (hs:(assignEach (e::es) X.env).map (·.2)=assign e X.env::(assignEach es X.env).map (·.2):=by rfl):PGs X (e::es) (xvr t u):=by
 intro pins s σ H vs us Q I r h;obtain⟨v,l,i,h⟩:=h;subst i
 cases r with
 |cons r f=>
  rw[hs];refine assignInOrder_cons (thn (h1 pins s σ H _ _ _ I r h) λ_ c ⟨a,H1,j,g⟩=>?_);exact h2 pins c a H1 _ _ Q j f g
def gTup(K:Fg)(n:Nat)(t:TGs):TG:=λv σ H Q=>∃a xs,v=.ref a/\SqT K H a xs/\xs.length=n/\t xs σ H Q
theorem xtz {es:List Expr} {k:Nat} {t:TGs} {n:Nat} (p:X.calm=true) (h:PGs X es t)
  (hn:(assignEach es X.env).length=n:=by rfl) (f:(assignEach es X.env).findIdx? (·.1)=none:=by rfl):PG X (.Tuple es k pos) (gTup X.K n t):=by
 intro pins s σ H v u Q I r c;obtain⟨a,xs,w,l,m,c⟩:=c;subst w;cases r;obtain⟨its,g,j,hz⟩:=I.tuple l;refine assign_Tuple_tuple (I.ok.hd p) j (by simp[hn,<- m,g.length]) f λh' i=>?_;have x:Inv X pins σ H {s with heap:=h'}:=I.kept (t':=s.toks) λb o e=>i b o (Nat.ne_of_lt (Heap.lt_size e)) e;exact h pins _ σ H xs _ Q x (by simpa using g) c
def gSub(to ti:TE)(t:TSet):TG:=λv σ H Q=>to σ H λo H1=>ti σ H1 λi H2=>t o i v H2 λH3=>Q σ H3
theorem xq5 {o i:Expr} {to e:TE} {t:TSet} (w:PE X o to) (hi:PE X i e) (hs:PSet X t)
  (z:∀v,assign (.Subscript o i pos) X.env v=(do
   let a <- holding [v] (eval o X.env)
   let c <- holding [v,a] (eval i X.env)
   standAt pos
   holding [v,a,c] (setItem a c v)
   release [v,a,c] []):=by intro _;rfl):PG X (.Subscript o i pos) (gSub to e t):=by
 intro pins s σ H v u Q I r h;rw[z];refine wpAny_bind (wpAny_holding (thn (w pins s σ H _ I h) λa g ⟨x,H1,J,l,p⟩=>?_));refine wpAny_bind (wpAny_holding (thn (hi pins g σ H1 _ J p) λc f ⟨y,H2,G,j,n⟩=>?_));refine wpAny_bind (wpAny_standAt (wpAny_bind (wpAny_holding (thn (hs pins f σ H2 x y v a c u _ G l j r n) λ_ O ⟨M,C,m⟩=>?_))));exact wpAny_release ⟨σ,M,C,m⟩
def tAsg(te:TE)(g:TG):TS:=λD σ H=>te σ H λx H1=>g x σ H1 D.nx
theorem xc0 {tg e:Expr} {te:TE} {g:TG} (l:PE X e te) (j:PG X tg g) (hs:swapsWithSole [tg] e pos.line X.env=pure false:=by rfl) (i:swappedStores [tg] e X.env=pure none:=by rfl)
  (h1:(assignEach [tg] X.env).map (·.2)=[assign tg X.env]:=by rfl):PS X (.Assign [tg] e pos) (tAsg te g):=by
 intro pins s σ H D I h;refine wpAny_Assign_stores (thn (l pins s σ H _ I h) λv a ⟨x,H1,m,c,f⟩=>?_) hs i;rw[h1];exact thn (j pins a σ H1 x v _ m c f) λ_ n q=>q
theorem xtw {i:Nat} {x:Str} {e:Expr} {te:TE} {pos':Pos} (hN:X.N.Nodup) (hi:X.N[i]?=some x) (hx:Loc X.env.scope x) (he:PE X e te) (hs:swapsWith e (some (.Name x pos')) pos.line X.env=pure false:=by rfl) (hf:X.fn x=true\/X.env.scope.names.lookup x=some .local:=by first |exact .inl rfl |exact .inr rfl |assumption) :
  PS X (.Assign [.Name x pos'] e pos) (tAsg te (xgc i)):=by
 intro pins s σ H D I h;refine wpAny_Assign_Name (thn (he pins s σ H _ I h) λv s1 ⟨y,H1,I1,r1,q1⟩=>?_) hs;exact xlb I1 hN hi hx r1 (λs2 I2=>⟨_,H1,I2,q1⟩) hf
end
structure It where
 go:Nat->Hp->Prop
 yld:Nat->Hp->V->Hp->Prop
 stop:Nat->Hp->Prop
def FpOk(X:Cx)(pins:List (Addr×Obj))(H:Hp)(b:Addr):Prop:=
 H b=none/\b≠X.env.locals/\b ∉X.fs/\(b∈X.ex\/X.s₀.heap.objs.size<=b)/\(∀x c,X.env.cells.lookup x=some c->c≠b)/\∀p∈X.pn++pins,p.1≠b
theorem Inv.fpOk{X:Cx}{pins:List (Addr×Obj)}{σ:St}{H H':Hp}{s:Shared}{b:Addr}(I:Inv X pins σ H s)(a:s.heap.objs.size<=b)(hn:H' b=none):FpOk X pins H' b:=by
 refine⟨hn,Nat.ne_of_gt (Nat.lt_of_lt_of_le I.lt a),I.nofs a,.inr (Nat.le_trans I.sz a),λx c e z=>?_,λp f z=>?_⟩
 ·obtain⟨v,q⟩:=I.cell x c e
  exact absurd (Nat.lt_of_lt_of_le q.lt (by rw[z];exact a)) (Nat.lt_irrefl _)
 ·exact absurd (Nat.lt_of_lt_of_le (Heap.lt_size (I.pin p f).1) (by rw[z];exact a)) (Nat.lt_irrefl _)
structure Turn(P:Program)(w:World)(K:Fg)(tg:Expr)(J:It)(fp:List Addr)(it:Addr)(tn:Nat->Heap->Prop):Prop where
 mem:it∈fp
 obj:∀i h,tn i h->∀b∈fp,∃o,h.get? b=some o/\∀v,o.data≠.cell v
 keep:∀i h h',tn i h->(∀b∈fp,∀o,h.get? b=some o->h'.get? b=some o)->tn i h'
 item:∀(X:Cx),X.prog=P->X.w=w->X.K=K->X.calm=true->∀(i:Nat) (pins:List (Addr×Obj)) (s:Shared) (σ:St) (H:Hp) (E:Value->Shared->Prop),Inv X pins σ H s->(∀b∈fp,FpOk X pins H b)->tn i s.heap->J.go i H->
  wpAny (model P w) X.A (pyNext (.ref it)) (λr s1=>∃u,r=some u ∧
   wpAny (model P w) X.A (letOwnedTupleGo tg (.ref it) u) (λ_ s2=>∃x H',Inv X pins σ H' s2/\RelV x u/\J.yld i H x H'/\tn (i+1) s2.heap/\∀b∈fp,H' b=none) E s1) E s
 done:∀(X:Cx),X.prog=P->X.w=w->X.K=K->X.calm=true->∀(i:Nat) (pins:List (Addr×Obj)) (s:Shared) (σ:St) (H:Hp) (E:Value->Shared->Prop),Inv X pins σ H s->(∀b∈fp,FpOk X pins H b)->tn i s.heap->J.stop i H->
  wpAny (model P w) X.A (pyNext (.ref it)) (λr s1=>r=none/\Inv X pins σ H s1) E s
 self:∀(A:Around) (i:Nat) (s:Shared) (Q:Value->Shared->Prop) (E:Value->Shared->Prop),tn i s.heap->Q (.ref it) s->wpAny (model P w) A (pyIter (.ref it)) Q E s
abbrev TI:=St->Hp->(It->Hp->Prop)->Prop
def PIE(X:Cx)(pins:List (Addr×Obj))(σ:St)(tg:Expr)(R:It->Hp->Prop)(itv:Value)(s2:Shared):Prop:=
 ∃(it:Addr) (fp:List Addr) (tn:Nat->Heap->Prop) (J:It) (H':Hp),itv=.ref it/\Inv X pins σ H' s2/\Turn X.prog X.w X.K tg J fp it tn/\tn 0 s2.heap/\(∀b∈fp,FpOk X pins H' b)/\R J H'
def PI(X:Cx)(tg iter:Expr)(wi:TI):Prop:=
 ∀(pins:List (Addr×Obj)) (s:Shared) (σ:St) (H:Hp) (R:It->Hp->Prop),Inv X pins σ H s->wi σ H R->
  wpAny (model X.prog X.w) X.A (eval iter X.env) (λv s1=>wpAny (model X.prog X.w) X.A (pyIter v) (PIE X pins σ tg R) X.xe s1) X.xe s
theorem xqm {M:Model} {A:Around} {E:Value->Shared->Prop} {s:Shared} {tg:Expr} {it:Addr} {u:Value} {o:Obj} {n:String} {vs:Array Value} {Q:Unit->Shared->Prop} (ho:s.heap.get? it=some o) (hc:o.cls=.type n) (hd:o.data=.fields vs)
    (hn:["enumerate","zip","dict_itemiterator","dict_reverseitemiterator","odict_iterator","itertools.zip_longest","itertools.pairwise"].contains n=false) (hQ:Q () s):wpAny M A (letOwnedTupleGo tg (.ref it) u) Q E s:=by
  unfold letOwnedTupleGo
  cases tg <;> first
    |exact wpAny_pure hQ
    |(cases u <;> first
        |exact wpAny_pure hQ
        | (refine wpAny_bind (wpAny_load ho ?_)
           rw[hc,hd];show wpAny M A (if (["enumerate","zip","dict_itemiterator","dict_reverseitemiterator","odict_iterator","itertools.zip_longest","itertools.pairwise"].contains n && vs[0]? == some (rawInt _))=true then _ else _) Q E s;rw[if_neg (by intro h;rw[hn,Bool.false_and]at h;cases h)];exact wpAny_pure hQ))
def Itl(K:Fg)(a:Addr):It:=
 ⟨λi H=>∃xs x,SqL K H a xs/\xs[i]?=some x,λi H x H'=>H'=H/\∀xs,SqL K H a xs->xs[i]?=some x,λi H=>∃xs,SqL K H a xs/\xs.length<=i⟩
def Itt(K:Fg)(a:Addr):It:=
 ⟨λi H=>∃xs x,SqT K H a xs/\xs[i]?=some x,λi H x H'=>H'=H/\∀xs,SqT K H a xs->xs[i]?=some x,λi H=>∃xs,SqT K H a xs/\xs.length<=i⟩
def Itr(lo:Int)(n:Nat):It:=⟨λi _=>i<n,λi H x H'=>H'=H/\x=.int (lo+i),λi _=>n<=i⟩
theorem xmz{P:Program}{w:World}{K:Fg}{tg:Expr}(a it:Addr):Turn P w K tg (Itl K a) [it] it (λi h=>h.IsListIter it a i) where
 mem:=by simp
 obj:=λi h st b f=>by
  have e:b=it:=by simpa using f
  subst e;obtain⟨o,e,c,d⟩:=st;exact⟨o,e,λv z=>by rw[d]at z;cases z⟩
 keep:=λi h h' st k=>st.at λo e=>k it (by simp) o e
 item:=by
  intro X y n C Y i pins s σ H E I j st r;subst y n C;obtain⟨xs,x,g,m⟩:=r;obtain⟨its,l,p,hz⟩:=I.list g;obtain⟨u,hu,ru⟩:=l.get m;obtain⟨U,O,f2,M,J,G⟩:=j it (by simp);refine wpAny_pyNext_list_item st p.isList (x:=u) (by simpa using hu) λh' st' Z=>?_;have I1:Inv X pins σ H {s with heap:=h'}:=I.turned (t':=s.toks) (λb o f e=>(Z.2 b f).trans e) U O M J G;obtain⟨o,e,c,d⟩:=id st';exact⟨u,rfl,xqm (s:={s with heap:=h'}) e c d (by decide) ⟨x,H,I1,ru,⟨rfl,λys hy=>by rw[I.list_inj hy g];exact m⟩,st',λb f=>(j b f).1⟩⟩
 done:=by
  intro X y n C Y i pins s σ H E I j st r;subst y n C;obtain⟨xs,g,m⟩:=r;obtain⟨its,l,p,hz⟩:=I.list g;obtain⟨U,O,f2,M,J,G⟩:=j it (by simp);have hl:=l.length;exact wpAny_pyNext_list_end (I.ok.hd Y) st p.isList (by simp;omega) λh' eb=>⟨rfl,I.turned (t':=s.toks) (λb o f e=>eb b o f e) U O M J G⟩
 self:=λ_ _ _ _ _ st h=>wpAny_pyIter_listiter st h
theorem xl9{P:Program}{w:World}{K:Fg}{tg:Expr}(a it:Addr):Turn P w K tg (Itt K a) [it] it (λi h=>h.IsTupleIter it a i) where
 mem:=by simp
 obj:=λi h st b f=>by
  have e:b=it:=by simpa using f
  subst e;obtain⟨o,e,c,d⟩:=st;exact⟨o,e,λv z=>by rw[d]at z;cases z⟩
 keep:=λi h h' st k=>st.at λo e=>k it (by simp) o e
 item:=by
  intro X y n C Y i pins s σ H E I j st r;subst y n C;obtain⟨xs,x,g,m⟩:=r;obtain⟨its,l,p,hz⟩:=I.tuple g;obtain⟨u,hu,ru⟩:=l.get m;obtain⟨U,O,f2,M,J,G⟩:=j it (by simp);refine wpAny_pyNext_tuple_item st (show s.heap.IsTuple a its.toArray from p) (x:=u) (by simpa using hu) λh' st' Z=>?_;have I1:Inv X pins σ H {s with heap:=h'}:=I.turned (t':=s.toks) (λb o f e=>(Z.2 b f).trans e) U O M J G;obtain⟨o,e,c,d⟩:=id st';exact⟨u,rfl,xqm (s:={s with heap:=h'}) e c d (by decide) ⟨x,H,I1,ru,⟨rfl,λys hy=>by rw[I.tuple_inj hy g];exact m⟩,st',λb f=>(j b f).1⟩⟩
 done:=by
  intro X y n C Y i pins s σ H E I j st r;subst y n C;obtain⟨xs,g,m⟩:=r;obtain⟨its,l,p,hz⟩:=I.tuple g;obtain⟨U,O,f2,M,J,G⟩:=j it (by simp);have hl:=l.length;exact wpAny_pyNext_tuple_end (I.ok.hd Y) st (show s.heap.IsTuple a its.toArray from p) (by simp;omega) λh' eb=>⟨rfl,I.turned (t':=s.toks) (λb o f e=>eb b o f e) U O M J G⟩
 self:=λ_ _ _ _ _ st h=>wpAny_pyIter_tupleiter st h
theorem xma{P:Program}{w:World}{K:Fg}{tg:Expr}(it:Addr)(lo:Int)(n:Nat):Turn P w K tg (Itr lo n) [it] it (λi h=>IsRangeIter h it (lo+(i:Nat)*1) ((n:Int)-(i:Nat)) 1) where
 mem:=by simp
 obj:=λi h st b a=>by
  have e:b=it:=by simpa using a
  subst e
  exact⟨_,st,λv z=>by
   have C:Data.fields _=Data.cell v:=z;cases C⟩
 keep:=λi h h' st k=>k it (by simp) _ st
 item:=by
  intro X l f m j i pins s σ H E I c st g;subst l f m;obtain⟨y,x,M,u,r,p⟩:=c it (by simp);have W:=Walks.range (prog:=X.prog) (w:=X.w) (I.ok.hd j) it lo 1 n;refine W.item i s _ _ g st λv h' tk J st' G=>?_;obtain⟨t,rfl⟩:=J;have U:Inv X pins σ H {s with heap:=h',toks:=tk}:=I.turned (λb o a e=>G b o (by simpa using a) e) y x u r p;refine⟨_,rfl,xqm (s:={s with heap:=h',toks:=tk}) (n:="range_iterator") st' rfl rfl (by decide) ⟨.int (lo+i),H,U,⟨t,?_⟩,⟨rfl,rfl⟩,st',λb a=>(c b a).1⟩⟩;rw[Int.mul_one]
 done:=by
  intro X l f m j i pins s σ H E I c st g;subst l f m;obtain⟨y,x,M,u,r,p⟩:=c it (by simp);exact wpAny_pyNext_range_end (I.ok.hd j) st (by have:n<=i:=g;omega) λh' O=>⟨rfl,I.turned (t':=s.toks) (λb o a e=>O b o a e) y x u r p⟩
 self:=λ_ _ _ _ _ st h=>wpAny_pyIter_rangeiter st h
section
variable {X:Cx}{tg:Expr}
def xuj(K:Fg)(tl:TE):TI:=λσ H R=>tl σ H λx H1=>∃a,x=.ref a/\(∃xs,SqL K H1 a xs)/\R (Itl K a) H1
def iTup(K:Fg)(tl:TE):TI:=λσ H R=>tl σ H λx H1=>∃a,x=.ref a/\(∃xs,SqT K H1 a xs)/\R (Itt K a) H1
theorem xr4{l:Expr}{tl:TE}(m:PE X l tl):PI X tg l (xuj X.K tl):=by
 intro pins s σ H R I h;refine thn (m pins s σ H _ I h) λv c ⟨x,H1,f,g,i⟩=>?_;obtain⟨a,e,⟨xs,j⟩,q⟩:=i;subst e;cases g;obtain⟨its,r,p,hz⟩:=f.list j;refine wpAny_pyIter_list p.isList ?_;refine⟨c.heap.objs.size,[c.heap.objs.size],_,_,H1,rfl,f.kept (t':=c.toks) λb o e=>zPO _ e,xmz a _,⟨_,Heap.get?_push_size _ rfl,rfl,rfl⟩,λb n=>?_,q⟩;have e:b=c.heap.objs.size:=by simpa using n
 subst e;exact f.fpOk (Nat.le_refl _) (f.hok.fresh (Nat.le_refl _))
theorem xtx{l:Expr}{tl:TE}(m:PE X l tl):PI X tg l (iTup X.K tl):=by
 intro pins s σ H R I h;refine thn (m pins s σ H _ I h) λv c ⟨x,H1,f,g,i⟩=>?_;obtain⟨a,e,⟨xs,j⟩,q⟩:=i;subst e;cases g;obtain⟨its,r,p,hz⟩:=f.tuple j;refine wpAny_pyIter_tuple (show c.heap.IsTuple a its.toArray from p) ?_;refine⟨c.heap.objs.size,[c.heap.objs.size],_,_,H1,rfl,f.kept (t':=c.toks) λb o e=>zPO _ e,xl9 a _,⟨_,Heap.get?_push_size _ rfl,rfl,rfl⟩,λb n=>?_,q⟩;have e:b=c.heap.objs.size:=by simpa using n
 subst e;exact f.fpOk (Nat.le_refl _) (f.hok.fresh (Nat.le_refl _))
theorem xpn {pins:List (Addr×Obj)} {σ:St} {H:Hp} {s:Shared} {R:It->Hp->Prop} {E:Value->Shared->Prop} {lo hi:Int} {t u v:Tok} {tk:Nat} (I:Inv X pins σ H s) (h1:-(2 ^ 62)<=lo) (h2:lo<2 ^ 62) (h3:-(2 ^ 62)<=hi) (h4:hi<2 ^ 62)
  (q:R (Itr lo (hi-lo).toNat) H):wpAny (model X.prog X.w) X.A (pyIter (.ref s.heap.objs.size)) (PIE X pins σ tg R) E {s with heap:=s.heap.push {cls:=.type "range",data:=.fields #[.int lo t,.int hi u,.int 1 v]},toks:=tk}:=by
 refine wpAny_pyIter_range (IsRange.new ..) (small_one h1 h2 h3 h4) ?_;have I1:Inv X pins σ H {s with heap:=s.heap.push {cls:=.type "range",data:=.fields #[.int lo t,.int hi u,.int 1 v]},toks:=tk}:=I.kept λb o e=>zPO _ e
 refine⟨(s.heap.push {cls:=.type "range",data:=.fields #[.int lo t,.int hi u,.int 1 v]}).objs.size,[(s.heap.push {cls:=.type "range",data:=.fields #[.int lo t,.int hi u,.int 1 v]}).objs.size],_,_,H,rfl,
  I1.kept (t':=tk) λb o e=>zPO _ e,xma _ lo (hi-lo).toNat,?_,λb hb=>?_,q⟩
 ·have e1:lo+((0:Nat):Int)*1=lo:=by simp
  have e2:(((hi-lo).toNat:Nat):Int)-((0:Nat):Int)=Builtin.Range.rangeSize lo hi 1:=by rw[rangeSize_one];split <;> omega
  show IsRangeIter _ _ (lo+((0:Nat):Int)*1) ((((hi-lo).toNat:Nat):Int)-((0:Nat):Int)) 1;rw[e1,e2];exact Heap.get?_push_size _ rfl
 ·have e:b=(s.heap.push {cls:=.type "range",data:=.fields #[.int lo t,.int hi u,.int 1 v]}).objs.size:=by simpa using hb
  subst e;exact I1.fpOk (Nat.le_refl _) (I1.hok.fresh (Nat.le_refl _))
def xvq(ta:TA):TI:=λσ H R=>ta σ H λvs H1=>∃j:Int,vs=[.int j]/\-(2 ^ 62)<=j/\j<2 ^ 62/\R (Itr 0 j.toNat) H1
theorem xcb{a:Expr}{ta:TA}{p pos:Pos}(m:Gl X "range")(l:X.mg "range"=none)(n:PA X [a] ta)(hs:starEach [a] X.env=[(false,eval a X.env)]:=by rfl):PI X tg (.Call (.Name "range" p) [a] [] pos) (xvq ta):=by
 intro pins s σ H R I h;refine Call_ (xjb I m l boot_range (PyProof.Rows.callWith_type1 (thn (n pos pins s σ H _ I h) λus u ⟨vs,H1,o,g,c⟩=>?_) hs rfl));obtain⟨j,e,c,i,q⟩:=c;subst e
 cases g with
 |cons r f=>
  cases f;obtain⟨t,rfl⟩:=r;exact call_range_1 (xpn o (by omega) (by omega) c i (by simpa using q))
def tFor(wi:TI)(g:TG)(tb:TS):TS:=λD σ H=>wi σ H λJ H1=>∃W:Nat->Nat->St->Hp->Prop,(∃m,W 0 m σ H1)/\∀i m σ H,W i m σ H->
 (J.stop i H/\D.nx σ H)\/(J.go i H/\∃N:St->Hp->Prop,(∀σ' H',N σ' H'->∃m',m'<m/\W (i+1) m' σ' H')/\∀x H',J.yld i H x H'->g x σ H' λσ2 H2=>tb {D with nx:=N,ct:=N,bk:=D.nx} σ2 H2)
def xij(fp:List Addr)(h:Heap):List (Addr×Obj):=fp.filterMap λb=>(h.get? b).map λo=>(b,o)
theorem xd9{a:List Addr}{h:Heap}{b:Addr}{o:Obj}(c:b∈a)(e:h.get? b=some o):(b,o)∈xij a h:=List.mem_filterMap.mpr ⟨b,c,by rw[e];rfl⟩
theorem xn5{a:List Addr}{h:Heap}{p:Addr×Obj}(c:p∈xij a h):p.1∈a/\h.get? p.1=some p.2:=by
 obtain⟨b,f,e⟩:=List.mem_filterMap.mp c
 cases q:h.get? b with
 |none=>rw[q]at e;cases e
 |some o=>
  rw[q]at e;have g:(b,o)=p:=Option.some.inj e;subst g;exact⟨f,q⟩
theorem Inv.pinned{pins:List (Addr×Obj)}{σ:St}{H:Hp}{s:Shared}{a:List Addr}(I:Inv X pins σ H s)(i:∀b∈a,FpOk X pins H b)(h:∀b∈a,∃o,s.heap.get? b=some o/\∀v,o.data≠.cell v):Inv X (pins++xij a s.heap) σ H s:=
 I.pins_of λp g=>(zMA g).elim (λz=>I.pin p (List.mem_append_right _ z)) λz=>by
  obtain⟨c,e⟩:=xn5 z;obtain⟨m,l,j,_⟩:=i p.1 c;obtain⟨o,f,d⟩:=h p.1 c;rw[e]at f;cases f;exact⟨e,m,l,j,d⟩
theorem Inv.unpinned{pins pl:List (Addr×Obj)}{σ:St}{H:Hp}{s:Shared}(I:Inv X (pins++pl) σ H s):Inv X pins σ H s:=I.pins_of λp a=>I.pin p (List.mem_append_right _ (List.mem_append_left _ a))
theorem xcm {j:Expr} {G:List Stmt} {wi:TI} {g:TG} {tb:TS} {pos:Pos} (hp:PassesOwn (model X.prog X.w) X.A X.env X.xe) (hc:X.calm=true) (hi:PI X tg j wi) (hg:PG X tg g) (l:PSs X G tb)
  (hs:∀x,foldedSetIterable j X.env x=pure x:=by intro _;rfl):PS X (.For tg j G [] pos) (tFor wi g tb):=by
 intro pins s σ H D I h;refine wpAny_For (thn (hi pins s σ H _ I h) λv s1 h1=>thn h1 λa5 s2 h2=>?_) hs;obtain⟨it,fp,tn,J,H2,e,I2,T,a2,f2,W,⟨m0,w0⟩,Y⟩:=h2;subst e;have c:∀{H':Hp},(∀b∈fp,H' b=none)->∀b∈fp,FpOk X pins H' b:=λhn b l=>⟨hn b l,(f2 b l).2⟩;refine codeAny_forLoop_any (λn s'=>∃i U H',Inv X pins U H' s'/\tn i s'.heap/\(∀b∈fp,H' b=none)/\W i n U H') ?_ m0 ⟨0,σ,H2,I2,a2,λb l=>(f2 b l).1,w0⟩;rintro n s3 ⟨i,O,H3,I3,a0,a1,w3⟩;rcases Y i n O H3 w3 with⟨Z,qn⟩ |⟨go,N,hN,step⟩
 ·refine wpAny_passesOwn hp (thn (T.done X rfl rfl rfl hc i pins s3 O H3 X.xe I3 (c a1) a0 Z) λr s4 ⟨hr,I4⟩=>?_)
  subst hr;exact wpAny_execs_nil ⟨O,H3,I4,qn⟩
 ·refine wpAny_passesOwn hp (thn (T.item X rfl rfl rfl hc i pins s3 O H3 X.xe I3 (c a1) a0 go) λr s4 ⟨u,hr,h4⟩=>?_)
  subst hr;refine wpAny_passesOwn hp (thn h4 λ_ s5 ⟨x,H5,I5,r5,y5,M,a3⟩=>?_);have a4:=I5.pinned (c a3) (T.obj _ _ M);refine wpAny_passesOwn hp (thn (hg _ s5 O H5 x u _ a4 r5 (step x H5 y5)) λ_ s6 ⟨σ6,H6,I6,q6⟩=>?_);refine wpAny_passesOwn hp (thn (l _ s6 σ6 H6 _ I6 q6) λf s7 C=>?_)
  have p:∀{a:St} {z:Hp},Inv X (pins++xij fp s5.heap) a z s7->N a z->∃m,m<n/\∃i U H',Inv X pins U H' s7/\tn i s7.heap/\(∀b∈fp,H' b=none)/\W i m U H':=λ{a z} y n7=>by
   obtain⟨m',hm,w7⟩:=hN a z n7;refine⟨m',hm,i+1,a,z,y.unpinned,T.keep _ _ _ M λb l o e=>(y.pin (b,o) (List.mem_append_right _ (List.mem_append_right _ (xd9 l e)))).1,λb l=>?_,w7⟩;obtain⟨o,e,d⟩:=T.obj _ _ M b l;exact(y.pin (b,o) (List.mem_append_right _ (List.mem_append_right _ (xd9 l e)))).2.1
  cases f with
  |next=>obtain⟨a,z,y,n7⟩:=C;exact p y n7
  |cont=>obtain⟨a,z,y,n7⟩:=C;exact p y n7
  |brk=>obtain⟨a,z,y,C⟩:=C;exact⟨a,z,y.unpinned,C⟩
  |ret v=>obtain⟨x7,a,z,y,r7,C⟩:=C;exact⟨x7,a,z,y.unpinned,r7,C⟩
end
theorem xhs {K:Fg} {a:Addr} {xs:List V} {g:TG} {tb:TS} {D:Ends} {σ:St} {H:Hp} (Pv:Nat->St->Hp->Prop) (h0:Pv 0 σ H) (hl:∀i σ H,i<=xs.length->Pv i σ H->SqL K H a xs)
  (hs:∀i x σ H,xs[i]?=some x->Pv i σ H->g x σ H λσ2 H2=>tb {D with nx:=Pv (i+1),ct:=Pv (i+1),bk:=D.nx} σ2 H2) (hd:∀σ H,Pv xs.length σ H->D.nx σ H) :
  ∃W:Nat->Nat->St->Hp->Prop,(∃m,W 0 m σ H)/\∀i m σ H,W i m σ H->
   ((Itl K a).stop i H/\D.nx σ H)\/((Itl K a).go i H/\∃N:St->Hp->Prop,(∀σ' H',N σ' H'->∃m',m'<m/\W (i+1) m' σ' H')/\∀x H',(Itl K a).yld i H x H'->g x σ H' λσ2 H2=>tb {D with nx:=N,ct:=N,bk:=D.nx} σ2 H2):=by
 refine⟨λi m σ H=>m=xs.length-i/\i<=xs.length/\Pv i σ H,⟨xs.length,by simp,Nat.zero_le _,h0⟩,?_⟩;rintro i m σ H ⟨rfl,hi,p⟩;have q:=hl i σ H hi p;by_cases hlt:i<xs.length
 ·refine .inr ⟨⟨xs,xs[i],q,by simp[hlt]⟩,Pv (i+1),λσ' H' p'=>⟨xs.length-(i+1),by omega,rfl,hlt,p'⟩,λx H' y=>?_⟩
  obtain⟨e,y⟩:=y;subst e;exact hs i x σ _ (y xs q) p
 ·have e:i=xs.length:=by omega
  subst e;exact .inl ⟨⟨xs,q,Nat.le_refl _⟩,hd σ H p⟩
theorem xde {K:Fg} {a:Addr} {xs:List V} {g:TG} {tb:TS} {D:Ends} {σ:St} {H:Hp} (c:Nat->St->Hp->Prop) (h0:c 0 σ H) (o:∀i σ H,i<=xs.length->c i σ H->SqT K H a xs)
  (hs:∀i x σ H,xs[i]?=some x->c i σ H->g x σ H λh H2=>tb {D with nx:=c (i+1),ct:=c (i+1),bk:=D.nx} h H2) (hd:∀σ H,c xs.length σ H->D.nx σ H) :
  ∃W:Nat->Nat->St->Hp->Prop,(∃m,W 0 m σ H)/\∀i m σ H,W i m σ H->
   ((Itt K a).stop i H/\D.nx σ H)\/((Itt K a).go i H/\∃N:St->Hp->Prop,(∀j H',N j H'->∃l,l<m/\W (i+1) l j H')/\∀x H',(Itt K a).yld i H x H'->g x σ H' λh H2=>tb {D with nx:=N,ct:=N,bk:=D.nx} h H2):=by
 refine⟨λi m σ H=>m=xs.length-i/\i<=xs.length/\c i σ H,⟨xs.length,by simp,Nat.zero_le _,h0⟩,?_⟩;rintro i m σ H ⟨rfl,hi,p⟩;have q:=o i σ H hi p;by_cases f:i<xs.length
 ·refine .inr ⟨⟨xs,xs[i],q,by simp[f]⟩,c (i+1),λj H' n=>⟨xs.length-(i+1),by omega,rfl,f,n⟩,λx H' y=>?_⟩
  obtain⟨e,y⟩:=y;subst e;exact hs i x σ _ (y xs q) p
 ·have e:i=xs.length:=by omega
  subst e;exact .inl ⟨⟨xs,q,Nat.le_refl _⟩,hd σ H p⟩
theorem xc1 {lo:Int} {n:Nat} {g:TG} {tb:TS} {D:Ends} {σ:St} {H:Hp} (c:Nat->St->Hp->Prop) (h0:c 0 σ H)
  (hs:∀i σ H,i<n->c i σ H->g (.int (lo+i)) σ H λf H2=>tb {D with nx:=c (i+1),ct:=c (i+1),bk:=D.nx} f H2) (hd:∀σ H,c n σ H->D.nx σ H) :
  ∃W:Nat->Nat->St->Hp->Prop,(∃m,W 0 m σ H)/\∀i m σ H,W i m σ H->
   ((Itr lo n).stop i H/\D.nx σ H)\/((Itr lo n).go i H/\∃N:St->Hp->Prop,(∀h H',N h H'->∃j,j<m/\W (i+1) j h H')/\∀x H',(Itr lo n).yld i H x H'->g x σ H' λf H2=>tb {D with nx:=N,ct:=N,bk:=D.nx} f H2):=by
 refine⟨λi m σ H=>m=n-i/\i<=n/\c i σ H,⟨n,by simp,Nat.zero_le _,h0⟩,?_⟩;rintro i m σ H ⟨rfl,hi,p⟩;by_cases a:i<n
 ·refine .inr ⟨a,c (i+1),λh H' l=>⟨n-(i+1),by omega,rfl,a,l⟩,λx H' y=>?_⟩
  obtain⟨e,y⟩:=y;subst e y;exact hs i σ _ a p
 ·have e:i=n:=by omega
  subst e;exact .inl ⟨Nat.le_refl _,hd σ H p⟩
abbrev R2:=V->V->Hp->VK->Prop
def OpR(X:Cx)(f:Value->Value->Sem Value)(r:R2):Prop:=
 ∀(pins:List (Addr×Obj)) (s:Shared) (σ:St) (H:Hp) (x y:V) (v u:Value) (Q:VK),Inv X pins σ H s->RelV x v->RelV y u->r x y H Q->
  wpAny (model X.prog X.w) X.A (f v u) (EP X pins σ Q) X.xe s
def xef(X:Cx)(f:Value)(r:List V->Hp->VK->Prop):Prop:=
 ∀(pins:List (Addr×Obj)) (s:Shared) (σ:St) (H:Hp) (xs:List V) (us:List Value) (Q:VK),Inv X pins σ H s->Vals xs us->r xs H Q->
  wpAny (model X.prog X.w) X.A (call f us) (EP X pins σ Q) X.xe s
def tOp(r:R2)(ta tb:TE):TE:=λσ H Q=>ta σ H λx H1=>tb σ H1 λy H2=>r x y H2 Q
def rI(C:Int->Int->Prop)(g:Int->Int->V):R2:=λx y H Q=>∃i j,x=.int i/\y=.int j/\C i j/\Q (g i j) H
def rI0(g:Int->Int->V):R2:=λx y H Q=>∃i j,x=.int i/\y=.int j/\Q (g i j) H
section
variable {X:Cx}{a b c:Expr}{ta tb tc:TE}{pos:Pos}
theorem binT (r:PE X a ta) (p:PE X b tb) {pins:List (Addr×Obj)} {s:Shared} {σ:St} {H:Hp} {R:V->V->Hp->Prop} (I:Inv X pins σ H s)
  (h:ta σ H λx H1=>tb σ H1 λy H2=>R x y H2) {Q:Value->Shared->Prop} {f:Value->Value->Sem Value}
  (o:∀v u c x y H2,Inv X pins σ H2 c->RelV x v->RelV y u->R x y H2->wpAny (model X.prog X.w) X.A (f v u) Q X.xe c) :
  wpAny (model X.prog X.w) X.A (eval a X.env) (λv g=>wpAny (model X.prog X.w) X.A (eval b X.env) (λu e=>wpAny (model X.prog X.w) X.A (f v u) Q X.xe e) X.xe g) X.xe s:=by
 refine thn (r pins s σ H _ I h) λv i ⟨x,H1,C,l,n⟩=>?_;refine thn (p pins i σ H1 _ C n) λu c ⟨y,H2,z,j,m⟩=>?_;exact o v u c x y H2 z l j m
theorem xam{op:Operator}{r:R2}(g:OpR X (binaryOp op) r)(j:PE X a ta)(i:PE X b tb):PE X (.BinOp a op b pos) (tOp r ta tb):=by
 intro pins s σ H Q I h;exact wpAny_BinOp (binT j i I h λv u c x y H2 l f e q=>g pins c σ H2 x y v u Q l f e q)
theorem opI {f:Value->Value->Sem Value} {C:Int->Int->Prop} {g:Int->Int->Int}
  (a:∀(i j:Int) (t u:Tok) (s:Shared) (Q:Value->Shared->Prop) (E:Value->Shared->Prop),C i j->Q (.int (g i j) s.toks) {s with toks:=s.toks+1}->wpAny (model X.prog X.w) X.A (f (.int i t) (.int j u)) Q E s) :
  OpR X f (rI C λi j=>.int (g i j)):=by
 intro pins s σ H x y v u Q I e c h;obtain⟨i,j,rfl,rfl,l,q⟩:=h;obtain⟨t,rfl⟩:=e;obtain⟨t',rfl⟩:=c;exact a i j t t' s _ _ l ⟨.int (g i j),H,I.tok _,⟨_,rfl⟩,q⟩
theorem opI0 {f:Value->Value->Sem Value} {g:Int->Int->Int}
  (a:∀(i j:Int) (t u:Tok) (s:Shared) (Q:Value->Shared->Prop) (E:Value->Shared->Prop),Q (.int (g i j) s.toks) {s with toks:=s.toks+1}->wpAny (model X.prog X.w) X.A (f (.int i t) (.int j u)) Q E s) :
  OpR X f (rI0 λi j=>.int (g i j)):=by
 intro pins s σ H x y v u Q I e c h;obtain⟨i,j,rfl,rfl,q⟩:=h;obtain⟨t,rfl⟩:=e;obtain⟨t',rfl⟩:=c;exact a i j t t' s _ _ ⟨.int (g i j),H,I.tok _,⟨_,rfl⟩,q⟩
theorem opB0 {f:Value->Value->Sem Value} {g:Int->Int->Bool}
  (a:∀(i j:Int) (t u:Tok) (s:Shared) (Q:Value->Shared->Prop) (E:Value->Shared->Prop),Q (.bool (g i j)) s->wpAny (model X.prog X.w) X.A (f (.int i t) (.int j u)) Q E s) :
  OpR X f (rI0 λi j=>.bl (g i j)):=by
 intro pins s σ H x y v u Q I e c h;obtain⟨i,j,rfl,rfl,q⟩:=h;obtain⟨t,rfl⟩:=e;obtain⟨t',rfl⟩:=c;exact a i j t t' s _ _ ⟨.bl (g i j),H,I,rfl,q⟩
def CPow(i j:Int):Prop:=0<=j/\j<=1000000/\i.natAbs<2 ^ 64
def CMul(i j:Int):Prop:=(-(2 ^ 64)<i/\i<2 ^ 64)\/(-(2 ^ 64)<j/\j<2 ^ 64)
theorem CMul.ok{i j:Int}(h:CMul i j):IntMulOk i j:=by
 rcases h with⟨h1,h2⟩ |⟨h1,h2⟩
 ·exact .of_left (intBits_le_64 h1 h2)
 ·exact .of_right (intBits_le_64 h1 h2)
theorem xbd:OpR X (binaryOp .Add) (rI0 λi j=>.int (i+j)):=opI0 λ_ _ _ _ _ _ _ q=>add_int q
theorem xcq:OpR X (binaryOp .Sub) (rI0 λi j=>.int (i-j)):=opI0 λ_ _ _ _ _ _ _ q=>sub_int q
theorem xda:OpR X (binaryOp .Mult) (rI CMul λi j=>.int (i*j)):=opI λ_ _ _ _ _ _ _ a q=>mul_int q a.ok
theorem xcg:OpR X (binaryOp .Mod) (rI (λ_ j=>0<j) λi j=>.int (i%j)):=opI λi j _ _ _ _ _ hc q=>by
 have h1:(0:Int)<j:=hc;exact mod_int' (by omega) (by rw[Int.fmod_eq_emod_of_nonneg i (by omega)];exact q)
theorem xq7:OpR X (binaryOp .Pow) (rI CPow λi j=>.int (i ^ j.toNat)):=opI λ_ _ _ _ _ _ _ a q=>pow_int_small a.1 a.2.1 a.2.2 q
end
def scal:V->V->Bool
 |.non,.non=>true |.non,.int _=>true |.int _,.non=>true |.non,.bl _=>true |.bl _,.non=>true |.non,.str _=>true |.str _,.non=>true
 |.int _,.int _=>true |.bl _,.bl _=>true |.str _,.str _=>true |.byt _,.byt _=>true
 |.int _,.str _=>true |.str _,.int _=>true |.bl _,.str _=>true |.str _,.bl _=>true
 |_,_=>false
def rEq:R2:=λx y H Q=>scal x y=true/\Q (.bl (decide (x=y))) H
def rNe:R2:=λx y H Q=>scal x y=true/\Q (.bl (!decide (x=y))) H
theorem xo1{i j:Int}:decide (V.int i=V.int j)=(i == j):=by
 rw[Bool.eq_iff_iff];simp
theorem xri{i j:Bool}:decide (V.bl i=V.bl j)=(i == j):=by
 rw[Bool.eq_iff_iff];simp
theorem xo0{i j:Str}:decide (V.str i=V.str j)=(i == j):=by
 rw[Bool.eq_iff_iff];simp
theorem xo2{i j:Array UInt8}:decide (V.byt i=V.byt j)=(i.toList == j.toList):=by
 rw[Bool.eq_iff_iff];cases i;cases j;simp
section
variable {X:Cx}{a b c:Expr}{ta tb tc:TE}{pos:Pos}
theorem xbw{pins:List (Addr×Obj)}{σ:St}{H:Hp}{s:Shared}{Q:VK}{k k':Bool}(I:Inv X pins σ H s)(q:Q (.bl k) H)(e:k=k'):EP X pins σ Q (.bool k') s:=by
 subst e;exact⟨.bl k,H,I,rfl,q⟩
theorem xa6:OpR X (compareOp .Eq) rEq:=by
 intro pins s σ H x y v u Q I c a h;obtain⟨hs,q⟩:=h
 cases x with
 |non=>
  cases c
  cases y with
  |non=>cases a;exact PySem.EqNone.eq_none_none (xbw I q (by simp))
  |bl j=>cases a;exact PySem.EqNone.eq_none_bool (xbw I q (by simp))
  |int j=>obtain⟨t',rfl⟩:=a;exact PySem.EqNone.eq_none_int (xbw I q (by simp))
  |str j=>obtain⟨t',rfl⟩:=a;exact PySem.EqNone.eq_none_str (xbw I q (by simp))
  |_=>exact absurd (show false=true from hs) Bool.false_ne_true
 |bl i=>
  cases c
  cases y with
  |non=>cases a;exact PySem.EqNone.eq_bool_none (xbw I q (by simp))
  |bl j=>cases a;exact eq_bool (xbw I q xri)
  |str j=>obtain⟨t',rfl⟩:=a;exact PySem.EqMixed.eq_bool_str (xbw I q (by simp))
  |_=>exact absurd (show false=true from hs) Bool.false_ne_true
 |int i=>
  obtain⟨t,rfl⟩:=c
  cases y with
  |non=>cases a;exact PySem.EqNone.eq_int_none (xbw I q (by simp))
  |int j=>obtain⟨t',rfl⟩:=a;exact eq_int (xbw I q xo1)
  |str j=>obtain⟨t',rfl⟩:=a;exact PySem.EqMixed.eq_int_str (xbw I q (by simp))
  |_=>exact absurd (show false=true from hs) Bool.false_ne_true
 |str i=>
  obtain⟨t,rfl⟩:=c
  cases y with
  |non=>cases a;exact PySem.EqNone.eq_str_none (xbw I q (by simp))
  |bl j=>cases a;exact PySem.EqMixed.eq_str_bool (xbw I q (by simp))
  |int j=>obtain⟨t',rfl⟩:=a;exact PySem.EqMixed.eq_str_int (xbw I q (by simp))
  |str j=>obtain⟨t',rfl⟩:=a;exact eq_str (xbw I q xo0)
  |_=>exact absurd (show false=true from hs) Bool.false_ne_true
 |byt i=>
  obtain⟨t,rfl⟩:=c
  cases y with
  |byt j=>obtain⟨t',rfl⟩:=a;exact PySem.W.eq_bytes (xbw I q xo2)
  |_=>exact absurd (show false=true from hs) Bool.false_ne_true
 |_=>cases y <;> exact absurd (show false=true from hs) Bool.false_ne_true
theorem xsc:OpR X (compareOp .NotEq) rNe:=by
 intro pins s σ H x y v u Q I c a h;obtain⟨hs,q⟩:=h
 cases x with
 |non=>
  cases c
  cases y with
  |non=>cases a;exact PySem.EqNone.ne_none_none (xbw I q (by simp))
  |bl j=>cases a;exact PySem.EqNone.ne_none_bool (xbw I q (by simp))
  |int j=>obtain⟨t',rfl⟩:=a;exact PySem.EqNone.ne_none_int (xbw I q (by simp))
  |str j=>obtain⟨t',rfl⟩:=a;exact PySem.EqNone.ne_none_str (xbw I q (by simp))
  |_=>exact absurd (show false=true from hs) Bool.false_ne_true
 |bl i=>
  cases c
  cases y with
  |non=>cases a;exact PySem.EqNone.ne_bool_none (xbw I q (by simp))
  |bl j=>cases a;exact ne_bool (xbw I q (congrArg not xri))
  |str j=>obtain⟨t',rfl⟩:=a;exact PySem.EqMixed.ne_bool_str (xbw I q (by simp))
  |_=>exact absurd (show false=true from hs) Bool.false_ne_true
 |int i=>
  obtain⟨t,rfl⟩:=c
  cases y with
  |non=>cases a;exact PySem.EqNone.ne_int_none (xbw I q (by simp))
  |int j=>obtain⟨t',rfl⟩:=a;exact ne_int (xbw I q (congrArg not xo1))
  |str j=>obtain⟨t',rfl⟩:=a;exact PySem.EqMixed.ne_int_str (xbw I q (by simp))
  |_=>exact absurd (show false=true from hs) Bool.false_ne_true
 |str i=>
  obtain⟨t,rfl⟩:=c
  cases y with
  |non=>cases a;exact PySem.EqNone.ne_str_none (xbw I q (by simp))
  |bl j=>cases a;exact PySem.EqMixed.ne_str_bool (xbw I q (by simp))
  |int j=>obtain⟨t',rfl⟩:=a;exact PySem.EqMixed.ne_str_int (xbw I q (by simp))
  |str j=>obtain⟨t',rfl⟩:=a;exact ne_str (xbw I q (congrArg not xo0))
  |_=>exact absurd (show false=true from hs) Bool.false_ne_true
 |byt i=>
  obtain⟨t,rfl⟩:=c
  cases y with
  |byt j=>obtain⟨t',rfl⟩:=a;exact PySem.W.ne_bytes (xbw I q (congrArg not xo2))
  |_=>exact absurd (show false=true from hs) Bool.false_ne_true
 |_=>cases y <;> exact absurd (show false=true from hs) Bool.false_ne_true
theorem xfc:OpR X (compareOp .Lt) (rI0 λi j=>.bl (decide (i<j))):=opB0 λ_ _ _ _ _ _ _ q=>lt_int q
theorem xdc:OpR X (compareOp .Gt) (rI0 λi j=>.bl (decide (j<i))):=opB0 λ_ _ _ _ _ _ _ q=>gt_int q
theorem xt4:OpR X (compareOp .GtE) (rI0 λi j=>.bl (decide (j<=i))):=opB0 λ_ _ _ _ _ _ _ q=>ge_int q
theorem xin:OpR X (compareOp .Is) (λx y H Q=>y=.non/\Q (.bl (decide (x=.non))) H):=by
 intro pins s σ H x y v u Q I rx ry h;obtain⟨rfl,q⟩:=h;cases ry;refine is_none_gen (xbw I q ?_)
 cases x <;> first
  |(cases rx;rfl)
  |(obtain⟨t,rfl⟩:=rx;rfl)
theorem nM(b:Expr){op:CmpOp}(h:op≠.In:=by decide)(h2:op≠.NotIn:=by decide):behindInMarks op b=false:=by
 have c:(op == CmpOp.In)=false:=by cases op <;> first |rfl |exact absurd rfl h
 have a:(op == CmpOp.NotIn)=false:=by cases op <;> first |rfl |exact absurd rfl h2
 cases b <;> simp[behindInMarks,c,a]
theorem xey{op:CmpOp}{r:R2}(ho:OpR X (compareOp op) r)(ha:PE X a ta)(hb:PE X b tb)(hm:behindInMarks op b=false):PE X (.Compare a [op] [b] pos) (tOp r ta tb):=by
 intro pins s σ H Q I h;exact wpAny_Compare1 (binT ha hb I h λv u s2 x y H2 I2 rx ry q=>ho pins s2 σ H2 x y v u Q I2 rx ry q) hm
def xu3(t:TE):TT:=λσ H Q=>t σ H λx H'=>∃k,x=.bl k/\Q k H'
theorem pR{op:CmpOp}{r:R2}(p:OpR X (compareOp op) r)(G:PE X a ta)(C:PE X b tb)(w:behindInMarks op b=false):PT X (.Compare a [op] [b] pos) (xu3 (tOp r ta tb)):=by
 intro pins s σ H Q I h
 refine wpAny_isTrue_Compare1 (thn (G pins s σ H _ I h) λv g ⟨x,H1,O,l,o⟩=>thn (C pins g σ H1 _ O o) λu f ⟨y,H2,M,j,n⟩=>
  thn (p pins f σ H2 x y v u _ M l j n) λc Y ⟨z,U,J,i,k,e,m⟩=>?_) w
 subst e;cases i;exact wpAny_truthy_bool ⟨U,J,m⟩
theorem xi6:(sizeLine:Nat)<2 ^ 63:=by rw[sizeLine_eq];decide
theorem xd8:OpR X (binaryOp .Add) (λx y H Q=>∃i j,x=.str i/\y=.str j/\i.length+j.length<=sizeLine/\Q (.str (i++j)) H):=by
 intro pins s σ H x y v u Q I c a h;obtain⟨i,j,rfl,rfl,hz,q⟩:=h;obtain⟨t,rfl⟩:=c;obtain⟨t',rfl⟩:=a;exact add_str (λt' tk=>⟨.str (i++j),H,I.tok _,⟨_,rfl⟩,q⟩) hz
theorem xg4{x:V}{us:List Value}(r:Vals [x] us):∃u,us=[u]/\RelV x u:=by
 cases r with
 |cons c a=>cases a;exact⟨_,rfl,c⟩
theorem xs2{x y:V}{us:List Value}(r:Vals [x,y] us):∃u a,us=[u,a]/\RelV x u/\RelV y a:=by
 cases r with
 |cons g f=>
  cases f with
  |cons e c=>cases c;exact⟨_,_,rfl,g,e⟩
theorem xo8(c:X.calm=true):xef X (.builtin "max") (λxs H Q=>∃i j,xs=[.int i,.int j]/\Q (.int (if j > i then j else i)) H):=by
 intro pins s σ H xs us Q I r h;obtain⟨i,j,rfl,q⟩:=h;obtain⟨u,e,rfl,⟨t,rfl⟩,⟨t',rfl⟩⟩:=xs2 r;refine max_two_ints (I.ok.hd c) λh' tk k=>⟨_,H,I.kept k,?_,q⟩;by_cases a:j > i
 ·rw[if_pos a,if_pos a];exact⟨_,rfl⟩
 ·rw[if_neg a,if_neg a];exact⟨_,rfl⟩
theorem xo6(c:X.calm=true):xef X (.builtin "min") (λxs H Q=>∃i j,xs=[.int i,.int j]/\Q (.int (if j<i then j else i)) H):=by
 intro pins s σ H xs us Q I r h;obtain⟨i,j,rfl,q⟩:=h;obtain⟨u,e,rfl,⟨t,rfl⟩,⟨t',rfl⟩⟩:=xs2 r;refine min_two_ints (I.ok.hd c) λh' tk k=>⟨_,H,I.kept k,?_,q⟩;by_cases a:j<i
 ·rw[if_pos a,if_pos a];exact⟨_,rfl⟩
 ·rw[if_neg a,if_neg a];exact⟨_,rfl⟩
theorem xgh:xef X (.type "int") (λxs H Q=>(∃i,xs=[.int i]/\Q (.int i) H)\/∃k,xs=[.bl k]/\Q (.int (if k then 1 else 0)) H):=by
 intro pins s σ H xs us Q I r h;rcases h with⟨i,rfl,q⟩ |⟨k,rfl,q⟩
 ·obtain⟨u,rfl,t,rfl⟩:=xg4 r
  exact call_int_int ⟨.int i,H,I,⟨_,rfl⟩,q⟩
 ·obtain⟨u,rfl,a⟩:=xg4 r
  cases a;exact call_int_bool ⟨.int (if k then 1 else 0),H,I.tok _,⟨_,rfl⟩,q⟩
end
structure ObjM(h:Heap)(x dx C:Addr)(mA:Str->Option Value):Prop where
 obj:h.get? x=some (PySem.W.instObj C dx)
 ns:h.Ns1 dx mA
 ne:dx≠x
theorem xoh{h:Heap}{dx:Addr}{mA:Str->Option Value}(n:h.Ns1 dx mA):∃od,h.get? dx=some od/\∀name,PySem.W.lookIn name od=some (mA name):=by
 obtain⟨o,es,ep,g,hd,j,_,i⟩:=n;refine⟨o,g,λname=>?_⟩;have e:=i name;unfold nsFind findBy at e;rw[<- Array.find?_toList]at e;unfold PySem.W.lookIn;rw[hd];dsimp only;split
 ·rename_i y q
  rw[q]at e;exact congrArg some e
 ·rename_i q
  rw[q]at e
  have a:es.toList.any (·.refKey)=false:=by
   rw[List.any_eq_false];intro y f;obtain⟨z,t,c⟩:=j y (Array.mem_toList_iff.mp f);simp[DictEntry.refKey,c]
  have l:¬es.toList.any (·.refKey)=true:=by rw[a];exact Bool.false_ne_true
  rw[if_neg l];exact congrArg some e
theorem ObjM.look{h:Heap}{x dx C:Addr}{mA:Str->Option Value}(I:ObjM h x dx C mA):∃od,PySem.W.InstAt h x (PySem.W.instObj C dx) C (some od)/\∀name,PySem.W.lookIn name od=some (mA name):=
 let ⟨od,a,c⟩:=xoh I.ns
 ⟨od,⟨I.obj,rfl,rfl,a⟩,c⟩
section
variable {prog:Program}{w:World}{A:Around}{E:Value->Shared->Prop}{s:Shared}{K:Fg}{x dx C f:Addr}{mA:Str->Option Value}{name:Str}{v:Value}
theorem xsu {a:Bool} {Q:Value->Shared->Prop} (X:K.In s.heap) (I:ObjM s.heap x dx C mA) (i:PySem.W.plainGet K C name=true) (g:PySem.W.hasDictIn K C=true)
  (j:PySem.W.findIn K (.ref C) name=some none) (e:mA name=some v) (c:PySem.W.handedIn v=true) (h:Q v {s with toks:=s.toks+1}) :
  wpAny (model prog w) A (getAttr (.ref x) name a) Q E s:=by
 obtain⟨od,J,f⟩:=I.look;exact PySem.W.get_value X J (PySem.W.plainGet_of i).1 (PySem.W.findObj_own g j rfl (by rw[f,e])) c h
theorem xqn {pl:Sem Bool} {Q:Value×List Value->Shared->Prop} (X:K.In s.heap) (I:ObjM s.heap x dx C mA) (a:PySem.W.plainGet K C name=true)
  (i:PySem.W.findIn K (.ref C) name=some (some (.ref f))) (e:PySem.W.isFn K (.ref f)=true) (c:mA name=none) (h:Q (.ref f,[.ref x]) s) :
  wpAny (model prog w) A (getMethod (.ref x) name pl) Q E s:=by
 obtain⟨od,J,g⟩:=I.look;exact PySem.W.method_fn X J (PySem.W.plainGet_of a).1 (PySem.W.plainGet_of a).2 i (beq_iff_eq.mp e) (by show(PySem.W.lookIn name od).map (·.isSome)=some false;rw[g,c];rfl) h
theorem xrx {ns:List Str} {Q:Unit->Shared->Prop} (X:K.In s.heap) (I:ObjM s.heap x dx C mA)
  (hs:PySem.W.findIn K (.ref C) "__setattr__"=some (some (.builtin "object.__setattr__"))) (o:PySem.W.plainOver K C=true) (n:PySem.W.takerIn K C name=some none) (p:PySem.W.hasDictIn K C=true)
  (m:PySem.Within mA ns) (hsz:ns.length<=sizeLine)
  (h:∀h',ObjM h' x dx C (λy=>if y=name then some v else mA y)->Heap.SameBut dx s.heap h'->Q () {s with heap:=h',toks:=s.toks+2}) :
  wpAny (model prog w) A (setAttr (.ref x) name v) Q E s:=by
 obtain⟨od,J,O⟩:=I.look;refine PySem.W.set_plain X J hs (PySem.W.osa_open (s:={s with toks:=s.toks+1}) (r:=none) X J o n λb=>?_);obtain⟨U,u,i⟩:=PySem.W.any_some p;have l:s.heap.get? x=some ⟨.ref C,some dx,.plain,#[]⟩:=I.obj;refine wpAny_bind (wpAny_pure (wpAny_bind (wpAny_bind (wpAny_loadPart l (wpAny_bind (PySem.W.Looks.here (s:={s with toks:=s.toks+1}) (PySem.W.looks_clsIn X u) ?_))))));rw[i];refine wpAny_pure (a:=some dx) (wpAny_bind (wpAny_pure (wpAny_bind ?_)));refine wpAny_nsSet1 (s:={s with toks:=s.toks+1}) I.ns λh' e c=>?_;obtain⟨M,z,G,f,g,j⟩:=e.count (PySem.Within.cons name v m);refine wpAny_bind (wpAny_lookBehind f (by rw[g];exact pastItsLine_dict (Nat.le_trans j (by rw[List.length_cons];omega))) ?_);exact wpAny_pure (h _ ⟨(c.2 _ (Ne.symm I.ne)).trans I.obj,e,I.ne⟩ c)
theorem xqf {R:Result->Shared->Prop} {vs:List Value} {kw:List (Str×Value)} (X:K.In s.heap) (hm:PySem.W.makesIn K C=true)
  (hi:PySem.W.findIn K (.ref C) "__init__"=some (some (.ref f))) (hf:PySem.W.typeIn K (.ref f)=some (.type "function"))
  (h:codeAny (model prog w) (A.under (.builtin "type.__call__" ⟨.ref C::vs,kw⟩)) (.call (.ref f) ⟨.ref (s.heap.objs.size+1)::vs,kw⟩) (PySem.W.InitBack (s.heap.objs.size+1) R)
   {s with heap:=(s.heap.push PySem.W.emptyDict).push (PySem.W.instObj C s.heap.objs.size)}) :
  codeAny (model prog w) A (.call (.ref C) ⟨vs,kw⟩) R s:=by
 obtain⟨hh,g,d,t,os⟩:=s;exact PySem.W.make_core (PySem.W.makes_of X hm) (PySem.W.looks_findIn X hi) (λself=>PySem.W.bind_fn X self hf) (.inl rfl) h
end
def putF(f:Str)(v:V):List (Str×V)->List (Str×V)
 |[]=>[(f,v)]
 |(g,x)::r=>if g=f then (g,v)::r else (g,x)::putF f v r
theorem xb7(f g:Str)(v:V):∀fs:List (Str×V),(putF f v fs).lookup g=if g=f then some v else fs.lookup g
 | []=>by
  show List.lookup g [(f,v)]=_;by_cases h:g=f
  ·have a:(g == f)=true:=beq_iff_eq.mpr h
   simp only[List.lookup,a,if_pos h]
  ·have a:(g == f)=false:=beq_eq_false_iff_ne.mpr h
   simp only[List.lookup,a,if_neg h]
 | (k,x)::r=>by
  have i:=xb7 f g v r;rw[show putF f v ((k,x)::r)=(if k=f then (k,v)::r else (k,x)::putF f v r) from rfl];by_cases c:k=f
  ·rw[if_pos c]
   by_cases h:g=k
   ·have a:(g == k)=true:=beq_iff_eq.mpr h
    simp only[List.lookup,a,if_pos (h.trans c)]
   ·have a:(g == k)=false:=beq_eq_false_iff_ne.mpr h
    simp only[List.lookup,a,if_neg (λe:g=f=>h (e.trans c.symm))]
  ·rw[if_neg c]
   by_cases h:g=k
   ·have a:(g == k)=true:=beq_iff_eq.mpr h
    simp only[List.lookup,a,if_neg (λe:g=f=>c (h.symm.trans e))]
   ·have a:(g == k)=false:=beq_eq_false_iff_ne.mpr h
    simp only[List.lookup,a];exact i
theorem xf7(f:Str)(v:V):∀fs:List (Str×V),f∈(putF f v fs).map (·.1)/\∀g,g∈fs.map (·.1)->g∈(putF f v fs).map (·.1)
 |[]=>⟨by simp[putF],λg h=>by simp at h⟩
 | (k,x)::r=>by
  obtain⟨i,c⟩:=xf7 f v r;rw[show putF f v ((k,x)::r)=(if k=f then (k,v)::r else (k,x)::putF f v r) from rfl];by_cases a:k=f
  ·rw[if_pos a]
   subst a;exact⟨by simp,λg h=>by simpa using h⟩
  ·rw[if_neg a]
   refine⟨?_,λg h=>?_⟩
   ·rw[List.map_cons]
    exact List.mem_cons_of_mem _ i
   ·rw[List.map_cons]at h⊢
    rcases zMC h with e |e
    ·exact List.mem_cons.mpr (.inl e)
    ·exact List.mem_cons_of_mem _ (c g e)
theorem xbb(f:Str)(v:V):∀fs:List (Str×V),(putF f v fs).length<=fs.length+1
 |[]=>by simp[putF]
 |(k,x)::r=>by
  have c:=xbb f v r;rw[show putF f v ((k,x)::r)=(if k=f then (k,v)::r else (k,x)::putF f v r) from rfl];by_cases a:k=f
  ·rw[if_pos a,List.length_cons,List.length_cons];omega
  ·rw[if_neg a,List.length_cons,List.length_cons];omega
theorem RelO.some_of{v:V}{o:Option Value}(r:RelO (some v) o):∃u,o=some u/\RelV v u:=by
 cases o with
 |none=>exact(show False from r).elim
 |some u=>exact⟨u,rfl,r⟩
theorem RelO.none_of{o:Option Value}(r:RelO none o):o=none:=by
 cases o with
 |none=>rfl
 |some u=>exact(show False from r).elim
theorem xor{v:V}{u:Value}(r:RelV v u):PySem.W.handedIn u=true:=by
 cases v with
 |non=>cases (show u=Value.none from r);rfl
 |bl b=>cases (show u=Value.bool b from r);rfl
 |int i=>obtain⟨t,e⟩:=(show ∃t,u=Value.int i t from r);cases e;rfl
 |str x=>obtain⟨t,e⟩:=(show ∃t,u=Value.str x t from r);cases e;rfl
 |byt b=>obtain⟨t,e⟩:=(show ∃t,u=Value.bytes b t from r);cases e;rfl
 |flt b=>obtain⟨t,e⟩:=(show ∃t,u=Value.float b t from r);cases e;rfl
 |ref a=>cases (show u=Value.ref a from r);rfl
 |ty n=>cases (show u=Value.type n from r);rfl
section
variable {P:Program}{w:World}{H H':Hp}{h h':Heap}{a C dx:Addr}{fs fs':List (Str×V)}
theorem xhr(c:HOk P w H h)(e:H a=some (.ins C dx fs)):∃mA,ObjM h a dx C mA/\(∀f,RelO (fs.lookup f) (mA f))/\PySem.Within mA (fs.map (·.1))/\fs.length<=1000/\H dx=some (.own a):=by
 obtain⟨d,z,ne,g,mA,n,r,q⟩:=(show ObjOk P w H h a (.ins C dx fs) from c a _ e);exact⟨mA,⟨g,n,ne⟩,r,q,z,d⟩
end
structure Cls(K:Fg)(C:Addr):Prop where
 pg:PySem.W.plainGet K C Str.empty=true
 hd:PySem.W.hasDictIn K C=true
 po:PySem.W.plainOver K C=true
 sa:PySem.W.findIn K (.ref C) "__setattr__"=some (some (.builtin "object.__setattr__"))
theorem Cls.get{K:Fg}{C:Addr}(c:Cls K C)(f:Str):PySem.W.plainGet K C f=true:=c.pg
def NoAttr(K:Fg)(C:Addr)(f:Str):Prop:=PySem.W.findIn K (.ref C) f=some none
theorem NoAttr.taker{K:Fg}{C:Addr}{f:Str}(n:NoAttr K C f):PySem.W.takerIn K C f=some none:=by
 unfold PySem.W.takerIn;rw[show PySem.W.findIn K (.ref C) f=some none from n];rfl
structure Meth(K:Fg)(C:Addr)(m:Str)(f:Addr):Prop where
 at_:PySem.W.findIn K (.ref C) m=some (some (.ref f))
 fn:PySem.W.isFn K (.ref f)=true
 kp:PySem.W.keepIn K (.ref f)=true
section
variable {X:Cx}{pins:List (Addr×Obj)}{σ:St}{H:Hp}{s:Shared}{a C dx:Addr}{fs:List (Str×V)}{f:Str}{v:V}{A:Around}{E:Value->Shared->Prop}
theorem xms {b:Bool} {Q:Value->Shared->Prop} (I:Inv X pins σ H s) (e:H a=some (.ins C dx fs)) (c:Cls X.K C) (n:NoAttr X.K C f) (l:fs.lookup f=some v)
  (h:∀u s',Inv X pins σ H s'->RelV v u->Q u s'):wpAny (model X.prog X.w) A (getAttr (.ref a) f b) Q E s:=by
 obtain⟨mA,O,r,_,_,_⟩:=xhr I.hok e;obtain⟨u,i,g⟩:=RelO.some_of (v:=v) (o:=mA f) (by rw[<- l];exact r f);exact xsu I.kIn O (c.get f) c.hd n i (xor g) (h u _ (I.tok _) g)
theorem xmr {m:Str} {g:Addr} {pl:Sem Bool} {Q:Value×List Value->Shared->Prop} (I:Inv X pins σ H s) (e:H a=some (.ins C dx fs)) (c:Cls X.K C) (k:Meth X.K C m g) (l:fs.lookup m=none)
  (h:Q (.ref g,[.ref a]) s):wpAny (model X.prog X.w) A (getMethod (.ref a) m pl) Q E s:=by
 obtain⟨mA,O,r,_,_,_⟩:=xhr I.hok e;have hn:mA m=none:=RelO.none_of (by rw[<- l];exact r m);exact xqn I.kIn O (c.get m) k.at_ k.fn hn h
theorem xmf {y:V} {u:Value} {Q:Unit->Shared->Prop} (I:Inv X pins σ H s) (e:H a=some (.ins C dx fs)) (c:Cls X.K C) (n:NoAttr X.K C f) (U:fs.length<1000) (p:RelV y u)
  (h:∀s',Inv X pins σ (upd H a (.ins C dx (putF f y fs))) s'->Q () s'):wpAny (model X.prog X.w) A (setAttr (.ref a) f u) Q E s:=by
 obtain⟨mA,O,r,j,_,l⟩:=xhr I.hok e;have hz:(fs.map (·.1)).length<=sizeLine:=by rw[zLM,sizeLine_eq];omega
 refine xrx I.kIn O c.sa c.po n.taker c.hd j hz λh' i m=>h _ ?_;have hd:∃o,h'.get? dx=some o:=let ⟨o,_,_,M,_⟩:=i.ns;⟨o,M⟩;refine I.write (x:=a) (e:=dx) (by rw[e];exact True.intro) (.inr l) (λb q J z=>(m.2 b J).trans z) hd ?_;refine⟨by rw[xad O.ne];exact l,?_,O.ne,i.obj,_,i.ns,λg=>?_,λg G=>?_⟩
 ·have:=xbb f y fs;omega
 ·show RelO ((putF f y fs).lookup g) (if g=f then some u else mA g)
  rw[xb7];by_cases q:g=f
  ·rw[if_pos q,if_pos q];exact p
  ·rw[if_neg q,if_neg q];exact r g
 ·by_cases q:g=f
  ·rw[q];exact(xf7 f y fs).1
  ·refine(xf7 f y fs).2 g (j g λz=>G ?_)
   show(if g=f then some u else mA g)=none;rw[if_neg q];exact z
theorem Inv.made (I:Inv X pins σ H s):Inv X pins σ (upd (upd H s.heap.objs.size (.own (s.heap.objs.size+1))) (s.heap.objs.size+1) (.ins C s.heap.objs.size []))
  {s with heap:=(s.heap.push PySem.W.emptyDict).push (PySem.W.instObj C s.heap.objs.size)}:=by
 have e1:(s.heap.push PySem.W.emptyDict).get? s.heap.objs.size=some PySem.W.emptyDict:=Heap.get?_push_size s.heap rfl
 have e2:((s.heap.push PySem.W.emptyDict).push (PySem.W.instObj C s.heap.objs.size)).get? (s.heap.objs.size+1)=some (PySem.W.instObj C s.heap.objs.size):=by
  have:=Heap.get?_push_size (s.heap.push PySem.W.emptyDict) (o:=PySem.W.instObj C s.heap.objs.size) rfl
  rwa[Heap.size_push]at this
 have e3:(s.heap.push PySem.W.emptyDict).Ns s.heap.objs.size (λ_=>none):=⟨PySem.W.emptyDict,#[],_,e1,rfl,(λe he=>absurd he (by simp)),λ_=>rfl⟩;have I1:=I.laid (a:=s.heap.objs.size) (o:=.own (s.heap.objs.size+1)) (h':=s.heap.push PySem.W.emptyDict) (t':=s.toks) (λb u q=>zPO _ q) (Nat.le_refl _) ⟨_,e1⟩;refine I1.laid (a:=s.heap.objs.size+1) (o:=.ins C s.heap.objs.size []) (t':=s.toks) (λb u q=>zPO _ q) (Nat.le_of_eq (Heap.size_push _ _)) ?_;have ne:s.heap.objs.size≠s.heap.objs.size+1:=Nat.ne_of_lt (Nat.lt_succ_self _);refine⟨by rw[xad ne,ups],Nat.zero_le _,ne,e2,λ_=>none,(Heap.Ns1.of_empty e3).at λo q=>zPO _ q,λ_=>True.intro,λy hy=>absurd rfl hy⟩
theorem xs1 {prog:Program} {w:World} {env:Env} {e:Expr} {f:Str} {pos:Pos} {s:Shared} {Q:Value->Shared->Prop} (hb:attributeBase e f env (eval e env)=eval e env)
  (h:wpAny (model prog w) A (eval e env) (λo s₁=>wpAny (model prog w) A (getAttr o f true) Q E s₁) E s):wpAny (model prog w) A (eval (.Attribute e f pos) env) Q E s:=
 Attribute_any_ h (by rw[arm_eval_Attribute,hb])
end
def tFld(K:Fg)(ta:TE)(f:Str):TE:=λσ H Q=>ta σ H λx H1=>∃a C dx fs v,x=.ref a/\H1 a=some (.ins C dx fs)/\Cls K C/\NoAttr K C f/\fs.lookup f=some v/\Q v H1
def sFld(K:Fg)(ta tv:TE)(f:Str):TS:=λD σ H=>tv σ H λy H1=>ta σ H1 λx H2=>∃a C dx fs,x=.ref a/\H2 a=some (.ins C dx fs)/\Cls K C/\NoAttr K C f/\fs.length<1000 ∧
 D.nx σ (upd H2 a (.ins C dx (putF f y fs)))
section
variable {X:Cx}{o e value:Expr}{f:Str}{pos pos' tpos:Pos}{ta tv:TE}
theorem xdu(j:PE X e ta)(m:attributeBase e f X.env (eval e X.env)=eval e X.env):PE X (.Attribute e f pos) (tFld X.K ta f):=by
 intro pins s σ H Q I h;refine xs1 m (thn (j pins s σ H _ I h) λu z ⟨x,H1,r,g,a,C,dx,fs,v,ex,o,c,n,l,q⟩=>?_);subst ex;obtain rfl:u=Value.ref a:=g;exact xms r o c n l λw y p i=>⟨v,H1,p,i,q⟩
theorem xer(r:PE X o ta)(p:PE X value tv)(hs:swapsWith value (some (.Attribute o f pos')) pos.line X.env=pure false):PS X (.Assign [.Attribute o f pos'] value pos) (sFld X.K ta tv f):=by
 intro pins s σ H D I h;refine plainObj_wpAny_Assign_Attribute (thn (p pins s σ H _ I h) λu e ⟨y,H1,J,g,q⟩=>thn (r pins e σ H1 _ J q) λm O ⟨x,H2,G,i,a,C,dx,fs,ex,w,c,n,l,j⟩=>?_) hs;subst ex;obtain rfl:m=Value.ref a:=i;exact xmf G w c n l g λM z=>⟨σ,_,z,j⟩
end
section
variable {X:Cx}{pins:List (Addr×Obj)}{σ:St}{H:Hp}{s:Shared}{A:Around}{E:Value->Shared->Prop}{Q:Value->Shared->Prop}{c:Value}{b:Bool}
inductive TyOf(K:Fg)(H:Hp):V->Value->Prop where
 |non:TyOf K H .non (.type "NoneType")
 |bl (x:Bool):TyOf K H (.bl x) (.type "bool")
 |int (i:Int):TyOf K H (.int i) (.type "int")
 |str (x:Str):TyOf K H (.str x) (.type "str")
 |flt (x:UInt64):TyOf K H (.flt x) (.type "float")
 |lst {a:Addr} {xs:List V} (e:H a=some (.lst xs)):TyOf K H (.ref a) (.type "list")
 |frz {a:Addr} {o:Obj} {xs:List V} (e:H a=some (.frz o (.lst xs))):TyOf K H (.ref a) (.type "list")
 |tup {a:Addr} {xs:List V} (e:H a=some (.tup xs)):TyOf K H (.ref a) (.type "tuple")
 |dK {a:Addr} {kvs:List (Key×V)} (e:H a=some (.dK kvs)):TyOf K H (.ref a) (.type "dict")
 |dT {a:Addr} {kvs:List (List Key×V)} (e:H a=some (.dT kvs)):TyOf K H (.ref a) (.type "dict")
 | ins {a C dx:Addr} {fs:List (Str×V)} (e:H a=some (.ins C dx fs)) (cl:Cls K C) (ha:PySem.W.findIn K (.ref C) "__class__"=some (some (.builtin "object.__class__")))
   (hn:PySem.W.specialIn K (.builtin "object.__class__") "__get__"=some (some (.builtin "getset_descriptor.__get__"))) (htk:PySem.W.takesIn K (.builtin "object.__class__")=some true)
   (hm:PySem.W.mroIn K C (.type "object")=some true):TyOf K H (.ref a) (.ref C)
theorem xoo {x:V} {u t:Value} (I:Inv X pins σ H s) (rx:RelV x u) (ty:TyOf X.K H x t) (e:PySem.W.kitOne X.K t c=some b) (h:∀tk,Q (.bool b) {s with toks:=tk}) :
  wpAny (model X.prog X.w) A (call (.builtin "isinstance") [u,c]) Q E s:=by
 cases ty with
 |non=>cases (show u=Value.none from rx);exact PySem.W.kia_one PySem.W.kitx_none I.kIn True.intro e (λz=>nomatch z) h
 |bl y=>cases (show u=Value.bool y from rx);exact PySem.W.kia_one PySem.W.kitx_bool I.kIn True.intro e (λz=>nomatch z) h
 |int i=>obtain⟨t,q⟩:=(show ∃t,u=Value.int i t from rx);cases q;exact PySem.W.kia_one PySem.W.kitx_int I.kIn True.intro e (λz=>nomatch z) h
 |str y=>obtain⟨t,q⟩:=(show ∃t,u=Value.str y t from rx);cases q;exact PySem.W.kia_one PySem.W.kitx_str I.kIn True.intro e (λz=>nomatch z) h
 |flt y=>obtain⟨t,q⟩:=(show ∃t,u=Value.float y t from rx);cases q;exact PySem.W.kia_one PySem.W.kitx_float I.kIn True.intro e (λz=>nomatch z) h
 |@lst a xs ea=>
  cases (show u=Value.ref a from rx);obtain⟨_,_,n,_,h1⟩:=(show ObjOk X.prog X.w H s.heap a (.lst xs) from I.hok a _ ea);exact PySem.W.kia_one PySem.W.kitx_list I.kIn ⟨_,h1,rfl⟩ e (λz=>nomatch z) h
 |@frz a ob xs ea=>
  cases (show u=Value.ref a from rx);obtain⟨_,_,_,n,_,h1⟩:=(show ObjOk X.prog X.w H s.heap a (.frz ob (.lst xs)) from I.hok a _ ea);exact PySem.W.kia_one PySem.W.kitx_list I.kIn ⟨_,h1,rfl⟩ e (λz=>nomatch z) h
 |@tup a xs ea=>
  cases (show u=Value.ref a from rx);obtain⟨_,_,_,p⟩:=(show ObjOk X.prog X.w H s.heap a (.tup xs) from I.hok a _ ea);obtain⟨o,h1,h2,_⟩:=p;exact PySem.W.kia_one PySem.W.kitx_tuple I.kIn ⟨o,h1,h2⟩ e (λz=>nomatch z) h
 |@dK a kvs ea=>
  cases (show u=Value.ref a from rx);obtain⟨_,_,vs,_,p⟩:=(show ObjOk X.prog X.w H s.heap a (.dK kvs) from I.hok a _ ea);obtain⟨o,es,ep,h1,h2,_⟩:=p;exact PySem.W.kia_one PySem.W.kitx_dict I.kIn ⟨o,h1,h2.1⟩ e (λz=>nomatch z) h
 |@dT a kvs ea=>
  cases (show u=Value.ref a from rx);obtain⟨_,_,xs,_,o,es,ep,h1,h2,_⟩:=(show ObjOk X.prog X.w H s.heap a (.dT kvs) from I.hok a _ ea);exact PySem.W.kia_one PySem.W.kitx_dict I.kIn ⟨o,h1,h2.1⟩ e (λz=>nomatch z) h
 |@ins a C dx fs ea cl ha hn htk hm=>
  cases (show u=Value.ref a from rx);obtain⟨mA,O,_⟩:=xhr I.hok ea;obtain⟨od,J,_⟩:=O.look;exact PySem.W.kia_one (PySem.W.kitx_own (cl.get _) cl.hd ha hn htk hm) I.kIn J e (λz=>nomatch z) h
end
structure Room(k:Nat)(A:Around):Prop where
 hd:A.handled=none
 dp:A.depth+3*k+5<recursionLimit
 un:A.units+16*k+200<cLine
theorem Room.mono{j k:Nat}{A:Around}(r:Room k A)(h:j<=k):Room j A:=⟨r.hd,by have:=r.dp;omega,by have:=r.un;omega⟩
theorem Room.deeper{k:Nat}{A:Around}(r:Room (k+1) A)(env:Env):Room k (A.deeper env):=
 ⟨r.hd,by have:=r.dp;show A.depth+1+3*k+5<_;omega,by have:=r.un;show A.units+3+16*k+200<_;omega⟩
theorem xmo{A:Around}{C:Addr}{us:List Value}{kw:List (Str×Value)}:(A.under (.builtin "type.__call__" ⟨.ref C::us,kw⟩)).depth=A.depth+1:=by
 first |rfl |simp[Around.under,Code.weight,Code.isCreation,Code.isGuard,Code.isCaller,Code.frames,Code.isFrame,guardIds]
theorem xmn{A:Around}{C:Addr}{us:List Value}{kw:List (Str×Value)}:(A.under (.builtin "type.__call__" ⟨.ref C::us,kw⟩)).units=A.units+1:=by
 first |rfl |simp[Around.under,Code.cUnits,Code.frames,Code.isFrame]
theorem Room.make{k:Nat}{A:Around}(r:Room (k+1) A)(C:Addr)(us:List Value)(kw:List (Str×Value)):Room k (A.under (.builtin "type.__call__" ⟨.ref C::us,kw⟩)):=
 ⟨r.hd,by have:=r.dp;rw[xmo];omega,by have:=r.un;rw[xmn];omega⟩
theorem Room.depth{k:Nat}{A:Around}(r:Room k A):A.depth<recursionLimit:=by have:=r.dp;omega
theorem Room.units{k:Nat}{A:Around}(r:Room k A):A.units+64<cLine:=by have:=r.un;omega
def tNil:TA:=λ_ H Q=>Q [] H
def xrs(ta:TE)(tr:TA):TA:=λσ H Q=>ta σ H λx H1=>tr σ H1 λxs H2=>Q (x::xs) H2
section
variable {X:Cx}{e:Expr}{es:List Expr}{te:TE}{t:TA}{pos:Pos}
theorem pN:PA X [] tNil:=λ_ _ _ _ H Q I h=>Calls.spliced_nil ⟨[],H,I,.nil,h⟩
theorem zpc(l:PE X e te)(j:PA X es t)(hs:starEach (e::es) X.env=(false,eval e X.env)::starEach es X.env:=by rfl):PA X (e::es) (xrs te t):=by
 intro pos pins s σ H Q I h;rw[hs];show wpAny _ _ (spliced ((false,eval e X.env)::backTo pos (starEach es X.env))) _ _ s;refine Calls.spliced_cons (thn (l pins s σ H _ I h) λu a ⟨x,H1,n,f,i⟩=>?_);exact thn (j pos pins a σ H1 _ n i) λus o ⟨xs,H2,m,c,g⟩=>⟨x::xs,H2,m,.cons f c,g⟩
def tTup(t:TA):TE:=λσ H Q=>t σ H λxs H1=>xs.length<=sizeLine/\∀p,H1 p=none->Q (.ref p) (upd H1 p (.tup xs))
def tLst(t:TA):TE:=λσ H Q=>t σ H λxs H1=>xs.length<=sizeLine/\∀p,H1 p=none->Q (.ref p) (upd H1 p (.lst xs))
theorem xay{f}(h:PA X es t):PE X (.Tuple es f pos) (tTup t):=by
 intro pins s σ H Q I g;refine wpAny_Tuple_spliced (thn (h pos pins s σ H _ I g) λus a ⟨xs,H1,c,r,z,q⟩=>⟨by rw[<- r.length];exact z,?_⟩);have i:H1 a.heap.objs.size=none:=c.hok.fresh (Nat.le_refl _);refine⟨.ref a.heap.objs.size,upd H1 a.heap.objs.size (.tup xs),c.laid (t':=a.toks) (λb u e=>zPO _ e) (Nat.le_refl _) ?_,rfl,q _ i⟩;exact⟨z,us,r,⟨_,Heap.get?_push_size _ rfl,rfl,_,rfl,rfl⟩⟩
theorem xb2(h:PA X es t):PE X (.List es pos) (tLst t):=by
 intro pins s σ H Q I f;refine wpAny_List_spliced (thn (h pos pins s σ H _ I f) λus a ⟨xs,H1,c,r,z,q⟩=>⟨by rw[<- r.length];exact z,?_⟩);have g:H1 a.heap.objs.size=none:=c.hok.fresh (Nat.le_refl _);refine⟨.ref a.heap.objs.size,upd H1 a.heap.objs.size (.lst xs),c.laid (t':=a.toks) (λb u e=>zPO _ e) (Nat.le_refl _) ?_,rfl,q _ g⟩;exact⟨z,us,0,r,Heap.get?_push_size _ rfl⟩
end
abbrev Sp:=List V->Hp->VK->XK->Prop
abbrev CXT:=List Env->Hp->Shared->XK->Value->Shared->Prop
structure Env0(P:Program)(w:World)(K:Fg)(mg:Str->Option Value)(base:Heap)(A:Around)(outer:List Env)(s:Shared)(H:Hp):Prop where
 frames:A.frames=some outer
 mod:Mod K mg base
 bs:∀b o,base.get? b=some o->s.heap.get? b=some o/\H b=none
 bsz:base.objs.size<=s.heap.objs.size
 funs:s.heap.FunFrames base outer
 frf:∀b∈frs outer,H b=none
 hok:HOk P w H s.heap
 bare:AllBare s.gens
def CE(outer:List Env)(P:Program)(w:World)(H:Hp)(s:Shared)(Q:VK)(u:Value)(s':Shared):Prop:=
 ∃v H',s'.os=s.os/\AllBare s'.gens/\Un (frs outer) [] H H' s.heap s'.heap/\HOk P w H' s'.heap/\RelV v u/\Q v H'
def CR(CX:CXT)(outer:List Env)(P:Program)(w:World)(H:Hp)(s:Shared)(Q:VK)(E:XK)(r:Result)(s':Shared):Prop:=
 match r with
 |.ok (.ret u)=>CE outer P w H s Q u s'
 |.ok _=>False
 |.error e=>CX outer H s E e s'
structure FnOk(P:Program)(w:World)(K:Fg)(mg:Str->Option Value)(base:Heap)(CX:CXT)(k:Nat)(f:Addr)(fd:FuncData)(ps:List Str)(sp:Sp):Prop where
 len:∀vs H Q E,sp vs H Q E->vs.length=ps.length
 run:∀(A:Around) (outer:List Env) (s:Shared) (H:Hp) (args:Args) (us:List Value) (vs:List V) (Q:VK) (E:XK),Room k A->Env0 P w K mg base A outer s H->BindsTo s fd args (ps.zip us)->Vals vs us->sp vs H Q E->
  codeAny (model P w) A (.call (.ref f) args) (CR CX outer P w H s Q E) s
theorem FnOk.mono {P:Program} {w:World} {K:Fg} {mg:Str->Option Value} {base:Heap} {CX:CXT} {j k:Nat} {f:Addr} {fd:FuncData} {ps:List Str} {sp:Sp} (F:FnOk P w K mg base CX j f fd ps sp) (h:j<=k) :
  FnOk P w K mg base CX k f fd ps sp:=⟨F.len,λA outer s H args us vs Q E a=>F.run A outer s H args us vs Q E (a.mono h)⟩
theorem FnOk.imp {P:Program} {w:World} {K:Fg} {mg:Str->Option Value} {base:Heap} {CX:CXT} {k:Nat} {f:Addr} {fd:FuncData} {ps:List Str} {sp sp':Sp} (F:FnOk P w K mg base CX k f fd ps sp)
  (h:∀vs H Q E,sp' vs H Q E->sp vs H Q E):FnOk P w K mg base CX k f fd ps sp':=
 ⟨λvs H Q E q=>F.len vs H Q E (h _ _ _ _ q),λA outer s H args us vs Q E hr he hb hv hs=>F.run A outer s H args us vs Q E hr he hb hv (h _ _ _ _ hs)⟩
theorem Env0.make {P:Program} {w:World} {K:Fg} {mg:Str->Option Value} {base:Heap} {A:Around} {outer:List Env} {s:Shared} {H:Hp} (e:Env0 P w K mg base A outer s H) (C:Addr) (us:List Value) (kw:List (Str×Value)) :
  Env0 P w K mg base (A.under (.builtin "type.__call__" ⟨.ref C::us,kw⟩)) outer s H:=⟨by first |exact e.frames |(simpa[Around.under,Code.envs,Code.isFrame,pushEnvs] using e.frames),e.mod,e.bs,e.bsz,e.funs,e.frf,e.hok,e.bare⟩
section
variable {X:Cx}{pins:List (Addr×Obj)}{σ:St}{H:Hp}{s s':Shared}
theorem Inv.env0(I:Inv X pins σ H s):Env0 X.prog X.w X.K X.mg X.base X.A X.stack s H:=
 ⟨I.ok.frames,I.ok.mod,I.bs,Nat.le_trans I.ok.bsz I.sz,I.stack,I.stkFree,I.hok,I.bare⟩
theorem Inv.after{Q:VK}{u:Value}(I:Inv X pins σ H s)(h:CE X.stack X.prog X.w H s Q u s'):EP X pins σ Q u s':=by
 obtain⟨v,H',os,bare,un,hok,r,q⟩:=h;obtain⟨hh,g,d,t,os'⟩:=s';obtain rfl:os'=s.os:=os;exact⟨v,H',I.call (h':=hh) (g':=g) (d':=d) (t':=t) (ch:=[]) un hok bare (λb z=>absurd z (by simp)),r,q⟩
end
def xth(sp:Sp)(dvs:List V)(E:XK)(t:TA):TE:=λσ H Q=>t σ H λvs H1=>sp (vs++dvs) H1 Q E
def xtc(C:Addr)(m:Str)(sp:Sp)(dvs:List V)(E:XK)(ta:TE)(t:TA):TE:=λσ H Q=>ta σ H λx H1=>∃a dx fs,x=.ref a/\H1 a=some (.ins C dx fs)/\fs.lookup m=none ∧
 t σ H1 λvs H2=>sp (x::(vs++dvs)) H2 Q E
def xtd(C:Addr)(sp:Sp)(dvs:List V)(E:XK)(t:TA):TE:=λσ H Q=>t σ H λvs H1=>∀x dx,H1 x=none->H1 dx=none->dx≠x->
 sp (.ref x::(vs++dvs)) (upd (upd H1 dx (.own x)) x (.ins C dx [])) (λv H2=>v=.non/\Q (.ref x) H2) E
def Binds(K:Fg)(fd:FuncData)(ps:List Str)(ds:List Value):Prop:=
 ∀(s:Shared) (us:List Value),K.In s.heap->(us++ds).length=ps.length->BindsTo s fd ⟨us,[]⟩ (ps.zip (us++ds))
theorem Binds.all{K:Fg}{fd:FuncData}{ps:List Str}(h:∀us:List Value,us.length=ps.length->bindArgs fd ⟨us,[]⟩=pure (ps.zip us)):Binds K fd ps []:=λs us _ hl=>by
 rw[List.append_nil]at hl⊢;exact .of_eq (h us hl)
def xg2(CX:CXT)(X:Cx)(E:XK):Prop:=∀(pins:List (Addr×Obj)) (σ:St) (H:Hp) (s:Shared) (e:Value) (s':Shared),Inv X pins σ H s->CX X.stack H s E e s'->X.xe e s'
section
variable {X:Cx}{CX:CXT}{k:Nat}{f C:Addr}{fd:FuncData}{ps:List Str}{sp:Sp}{dvs:List V}{ds:List Value}{E:XK}{x m:Str}{p pos apos:Pos}{e o:Expr}{es:List Expr}{ta:TE}{t:TA}
theorem xq3 {pins:List (Addr×Obj)} {σ:St} {H:Hp} {s:Shared} {Q:VK} {us:List Value} {vs:List V} (F:FnOk X.prog X.w X.K X.mg X.base CX k f fd ps sp) (hr:Room k X.A) (hb:Binds X.K fd ps ds) (hd:Vals dvs ds) (hx:xg2 CX X E)
  (I:Inv X pins σ H s) (r:Vals vs us) (h:sp (vs++dvs) H Q E):wpAny (model X.prog X.w) X.A (call (.ref f) us) (EP X pins σ Q) X.xe s:=by
 have r2:Vals (vs++dvs) (us++ds):=r.append hd;have hl:(us++ds).length=ps.length:=by rw[<- r2.length];exact F.len _ _ _ _ h
 refine wpAny_call (codeAny_mono (F.run X.A X.stack s H ⟨us,[]⟩ (us++ds) (vs++dvs) Q E hr I.env0 (hb s us I.kIn hl) r2 h) λr s' hq=>?_)
 cases r with
 |error e=>exact hx pins σ H s e s' I hq
 |ok fl=>
  cases fl with
  |ret u=>exact I.after hq
  |next=>exact False.elim hq
  |brk=>exact False.elim hq
  |cont=>exact False.elim hq
theorem xr9 (F:FnOk X.prog X.w X.K X.mg X.base CX k f fd ps sp) (j:Room k X.A) (n:Gl X x) (l:X.mg x=some (.ref f)) (m:PySem.W.keepIn X.K (.ref f)=true) (u:Binds X.K fd ps ds) (hd:Vals dvs ds) (i:xg2 CX X E)
  (y:PA X (e::es) t) (c:(x == ("__debug__":Str))=false:=by decide) (o:starEach (e::es) X.env=(false,eval e X.env)::starEach es X.env:=by rfl) (a:(backTo pos (starEach es X.env)).any (·.1)=false:=by rfl) :
  PE X (.Call (.Name x p) (e::es) [] pos) (xth sp dvs E t):=by
 intro pins s σ H Q I h;refine wpAny_Call_Name_kw (xkw I n l ?_ c);refine PySem.W.callWith_K (h₀:=X.base) I.ok.mod.kin m (thn (y pos pins s σ H _ I h) λus z ⟨vs,H1,g,r,q⟩=>⟨g.kIn,?_⟩) o a;exact xq3 F j u hd i g r q
theorem xpq {pl:Sem Bool} (he:PE X o ta) (c:Cls X.K C) (hm:Meth X.K C m f) (F:FnOk X.prog X.w X.K X.mg X.base CX k f fd ps sp) (hr:Room k X.A) (hb:Binds X.K fd ps ds) (hd:Vals dvs ds) (hx:xg2 CX X E)
  (ht:eval (.Call (.Attribute o m apos) [] [] pos) X.env=(do
   let ov <- eval o X.env
   standAt apos.atName
   let (f,first) <- holding [ov] (getMethod ov m pl)
   callWith pos f first (backTo pos (starEach [] X.env)) (backToKw pos (keywordEach [] X.env))):=by rfl) :
  PE X (.Call (.Attribute o m apos) [] [] pos) (xtc C m sp dvs E ta tNil):=by
 intro pins s σ H Q I h;refine PySem.W.methodCall_KW (pl:=pl) (thn (he pins s σ H _ I h) λu s1 ⟨x,H1,I1,rx,a,dx,fs,ex,ea,l,q⟩=>?_) ht;subst ex;obtain rfl:u=Value.ref a:=rx;refine xmr I1 ea c hm l ?_;exact PySem.W.callWith_K0 (first:=[.ref a]) I1.kIn hm.kp (xq3 (us:=[.ref a]) (vs:=[.ref a]) F hr hb hd hx I1 (.cons rfl .nil) q)
structure Mk(K:Fg)(C f:Addr):Prop where
 makes:PySem.W.makesIn K C=true
 init:PySem.W.findIn K (.ref C) "__init__"=some (some (.ref f))
 fn:PySem.W.isFn K (.ref f)=true
 kp:PySem.W.keepIn K (.ref C)=true
theorem xpl {pins:List (Addr×Obj)} {σ:St} {H:Hp} {s:Shared} {Q:VK} {us:List Value} {vs:List V} (M:Mk X.K C f) (F:FnOk X.prog X.w X.K X.mg X.base CX k f fd ps sp) (n:Room (k+1) X.A) (p:Binds X.K fd ps ds) (hd:Vals dvs ds)
  (m:xg2 CX X E) (I:Inv X pins σ H s) (r:Vals vs us)
  (h:∀x dx,H x=none->H dx=none->dx≠x->sp (.ref x::(vs++dvs)) (upd (upd H dx (.own x)) x (.ins C dx [])) (λv H2=>v=.non/\Q (.ref x) H2) E) :
  wpAny (model X.prog X.w) X.A (call (.ref C) us) (EP X pins σ Q) X.xe s:=by
 have i:=h (s.heap.objs.size+1) s.heap.objs.size (I.hok.fresh (Nat.le_succ _)) (I.hok.fresh (Nat.le_refl _)) (Nat.ne_of_lt (Nat.lt_succ_self _));have c:=Inv.made (C:=C) I;have g:Vals (V.ref (s.heap.objs.size+1)::(vs++dvs)) (Value.ref (s.heap.objs.size+1)::(us++ds)):=.cons rfl (r.append hd)
 have o:(Value.ref (s.heap.objs.size+1)::us++ds).length=ps.length:=by
  have e:=g.length;rw[F.len _ _ _ _ i]at e;exact e.symm
 refine wpAny_call (xqf (f:=f) I.kIn M.makes M.init (beq_iff_eq.mp M.fn) (codeAny_mono (F.run _ X.stack _ _ ⟨Value.ref (s.heap.objs.size+1)::us,[]⟩ (Value.ref (s.heap.objs.size+1)::(us++ds)) _ _ E (n.make C us [])
  (c.env0.make C us []) (p _ (Value.ref (s.heap.objs.size+1)::us) c.kIn o) g i) λr s' a=>?_))
 cases r with
 |error e=>exact m pins σ _ _ e s' c a
 | ok y=>
  cases y with
  |ret u=>
   obtain⟨v,H',G,j,z,l⟩:=c.after a;subst z;exact⟨j,⟨V.ref (s.heap.objs.size+1),H',G,rfl,l⟩⟩
  |next=>exact False.elim a
  |brk=>exact False.elim a
  |cont=>exact False.elim a
theorem xr6 (M:Mk X.K C f) (F:FnOk X.prog X.w X.K X.mg X.base CX k f fd ps sp) (j:Room (k+1) X.A) (m:Gl X x) (l:X.mg x=some (.ref C)) (o:Binds X.K fd ps ds) (hd:Vals dvs ds) (i:xg2 CX X E)
  (u:PA X (e::es) t) (c:(x == ("__debug__":Str))=false:=by decide) (n:starEach (e::es) X.env=(false,eval e X.env)::starEach es X.env:=by rfl) (a:(backTo pos (starEach es X.env)).any (·.1)=false:=by rfl) :
  PE X (.Call (.Name x p) (e::es) [] pos) (xtd C sp dvs E t):=by
 intro pins s σ H Q I h;refine wpAny_Call_Name_kw (xkw I m l ?_ c);refine PySem.W.callWith_K (h₀:=X.base) I.ok.mod.kin M.kp (thn (u pos pins s σ H _ I h) λus y ⟨vs,H1,g,r,q⟩=>⟨g.kIn,?_⟩) n a;exact xpl M F j o hd i g r q
end
structure FnScope(N P:List Str)(sc:Scope):Prop where
 kind:sc.kind=.function
 co:sc.isCoroutine=false
 gen:sc.isGenerator=false
 nd:N.Nodup
 pre:N.take P.length=P
 par:∀x∈P,sc.names.lookup x=some .local\/sc.names.lookup x=some .cell
 nofree:∀y∈sc.names,y.2≠.free
theorem xjw{a:Str->Option NameKind}{x:Str}:∀{binds:List (Str×Value)} {m:Str->Option Value},(∀v,(x,v) ∉binds)->bindL a binds m x=m x
 |[],_,_=>rfl
 | (n,v)::r,m,h=>by
  unfold bindL;rw[xjw λw c=>h w (List.mem_cons_of_mem _ c)];split
  ·have:x≠n:=by rintro rfl;exact h v List.mem_cons_self
   simp[this]
  ·rfl
theorem xjy{a:Str->Option NameKind}{x:Str}:∀{binds:List (Str×Value)} {m:Str->Option Value},(∀v,(x,v) ∉binds)->bindC a binds m x=m x
 |[],_,_=>rfl
 | (n,v)::r,m,h=>by
  unfold bindC;rw[xjy λw c=>h w (List.mem_cons_of_mem _ c)];split
  ·rfl
  ·have:x≠n:=by rintro rfl;exact h v List.mem_cons_self
   simp[this]
theorem xjx {a:Str->Option NameKind} {x:Str} {v:Value}:∀{P:List Str} {vs:List Value} {i:Nat} {m:Str->Option Value},P.Nodup->P[i]?=some x->vs[i]?=some v->a x=some .local->
  bindL a (P.zip vs) m x=some v
 |[],_,_,_,_,h,_,_=>by simp at h
 |_::_,[],_,_,_,_,h,_=>by simp at h
 |p::P,w::vs,0,m,nd,h1,h2,c=>by
  simp at h1 h2;subst h1;subst h2;show bindL a ((p,w)::P.zip vs) m p=_;unfold bindL;rw[xjw λv e=>(List.nodup_cons.mp nd).1 (List.of_mem_zip e).1,if_pos c];simp
 |p::P,w::vs,i+1,m,nd,h1,h2,c=>by
  show bindL a ((p,w)::P.zip vs) m x=_;unfold bindL;exact xjx (i:=i) (List.nodup_cons.mp nd).2 (by simpa using h1) (by simpa using h2) c
theorem xjz {a:Str->Option NameKind} {x:Str} {v:Value}:∀{P:List Str} {vs:List Value} {i:Nat} {m:Str->Option Value},P.Nodup->P[i]?=some x->vs[i]?=some v->a x≠some .local->
  bindC a (P.zip vs) m x=some v
 |[],_,_,_,_,h,_,_=>by simp at h
 |_::_,[],_,_,_,_,h,_=>by simp at h
 |p::P,w::vs,0,m,nd,h1,h2,c=>by
  simp at h1 h2;subst h1;subst h2;show bindC a ((p,w)::P.zip vs) m p=_;unfold bindC;rw[xjy λv e=>(List.nodup_cons.mp nd).1 (List.of_mem_zip e).1,if_neg c];simp
 |p::P,w::vs,i+1,m,nd,h1,h2,c=>by
  show bindC a ((p,w)::P.zip vs) m x=_;unfold bindC;exact xjz (i:=i) (List.nodup_cons.mp nd).2 (by simpa using h1) (by simpa using h2) c
def xe9(N:List Str)(vs:List V):St:=vs.map some++List.replicate (N.length-vs.length) none
def cxOf(CX:CXT)(P:Program)(w:World)(K:Fg)(mg:Str->Option Value)(base:Heap)(N:List Str)(qual:Str)(scope:Scope)(f:Addr)(cd:Value)(A:Around)(outer:List Env)(s:Shared)(H:Hp)(E:XK):Cx where
 prog:=P
 w:=w
 K:=K
 mg:=mg
 base:=base
 A:=A.deeper (envOfC qual scope s.heap.objs.size f cd)
 N:=N
 s₀:=s
 H₀:=H
 env:=envOfC qual scope s.heap.objs.size f cd
 outer:=outer
 stack:=envOfC qual scope s.heap.objs.size f cd::outer
 ex:=[]
 calm:=true
 fn:=λ_=>true
 pn:=[]
 xe:=λe s'=>wpAny (model P w) (A.deeper (envOfC qual scope s.heap.objs.size f cd)) (leaving (envOfC qual scope s.heap.objs.size f cd) e) (λ_ s''=>CX outer H s E e s'') (λe' s''=>CX outer H s E e' s'') s'
theorem xl6{a:Scope}{n:Nat}{x:Str}(h:a.names.lookup x=some .cell):∃c,(cellsFrom n a.names []).lookup x=some c:=by
 have q:=PySem.W.cellsFrom_some a.names n [] (.inl h);exact Option.isSome_iff_exists.mp q
theorem xop {CX:CXT} {P:Program} {w:World} {K:Fg} {mg:Str->Option Value} {base:Heap} {N ps:List Str} {j:Str} {g:Scope} {f:Addr} {I:Value} {A:Around} {outer:List Env} {s J:Shared} {H:Hp} {E:XK} {us:List Value} {vs:List V}
  (S:FnScope N ps g) (hd:A.handled=none) (l:Env0 P w K mg base A outer s H) (hl:vs.length=ps.length) (r:Vals vs us)
  (x:InCallC s s.heap.objs.size (bindL (envOfC j g s.heap.objs.size f I).kindOf (ps.zip us) λ_=>none) (cellsFrom (s.heap.objs.size+1) g.names []) (bindC (envOfC j g s.heap.objs.size f I).kindOf (ps.zip us) λ_=>none) J) :
  Inv (cxOf CX P w K mg base N j g f I A outer s H E) [] (xe9 N vs) H J:=by
 have Y:ps.length<=N.length:=by have:=congrArg List.length S.pre;rw[List.length_take]at this;omega
 obtain⟨h1,tk,rfl,O⟩:=x.done;have m:∀b:Addr,b ∉(cxOf CX P w K mg base N j g f I A outer s H E).ex:=λb z=>absurd (show b∈([]:List Addr) from z) (by simp)
 refine⟨⟨l.mod,S.kind,rfl,rfl,Nat.le_refl _,λy z c h1 h2=>?_,λy o=>?_,λy c _ h=>?_,λ_=>hd,Around.frames_deeper l.frames,.inr ⟨rfl,rfl⟩,λb z=>absurd z (m b),l.bs,l.bsz,λb _ _=>m b,λb z=>absurd z (m b),l.funs,l.frf⟩,
  rfl,l.bare,Un.kept O,⟨_,x.toInCall.ns,λi y v h1 h2 h3=>?_⟩,λy c h=>⟨_,x.cell y c h⟩,l.hok.fresh (Nat.le_refl _),λy c h=>?_,λp G=>absurd (show p∈([]:List (Addr×Obj)) from G) (by simp),l.hok.kept O,?_⟩
 ·exact name_of_addr x.apart (PySem.mem_of_lookup h1) (PySem.mem_of_lookup h2)
 ·have o:g.names.lookup y=some .cell\/g.names.lookup y=some .free:=o
  rcases o with o |o
  ·exact xl6 o
  ·exact absurd rfl (S.nofree _ (PySem.mem_of_lookup o))
 ·exact Nat.le_of_lt (x.above y c (PySem.mem_of_lookup h))
 ·have hi:i<vs.length:=by
   unfold xe9 at h2;by_cases hi:i<vs.length
   ·exact hi
   ·rw[List.getElem?_append_right (by simpa using hi)]at h2
    rw[List.getElem?_replicate]at h2;split at h2 <;> cases h2
  have Z:vs[i]?=some v:=by
   unfold xe9 at h2;rw[List.getElem?_append_left (by simpa using hi),zGM]at h2
   cases e:vs[i]? with
   |none=>rw[e]at h2;cases h2
   |some a=>rw[e]at h2;cases h2;rfl
  obtain⟨u,M,U⟩:=r.get Z
  have G:ps[i]?=some y:=by
   rw[<- S.pre,List.getElem?_take_of_lt (by omega)];exact h1
  have C:ps.Nodup:=by rw[<- S.pre];exact S.nd.sublist (List.take_sublist _ _)
  refine⟨u,U,?_⟩;rcases S.par y (zMG G) with k |k
  ·exact .inl ⟨k,xjx C G M k⟩
  ·obtain⟨c,e⟩:=xl6 (n:=s.heap.objs.size+1) k
   refine .inr ⟨.inl k,c,e,?_⟩;have q:=x.cell y c e;rw[xjz C G M (by show g.names.lookup y≠_;rw[k];decide)]at q;exact q
 ·exact l.hok.fresh (Nat.le_of_lt (x.above y c (PySem.mem_of_lookup h)))
 ·unfold xe9
  show _=N.length;rw[zLA,zLM,List.length_replicate];omega
theorem xum {CX:CXT} {P:Program} {w:World} {K:Fg} {mg:Str->Option Value} {base:Heap} {k:Nat} {f:Addr} {name qual:Str} {params:Arguments} {body:List Stmt} {scope:Scope} {dV kV doc pm cdv ct oc:Value} {an od:Option Addr}
  {osl:Array (Option Value)} {N ps:List Str} {sp:Sp} (lk:K.lookup f=some ⟨oc,od,.func (PySem.W.fnOf name qual params body scope dV kV doc pm an cdv ct),osl⟩) (hcd:PySem.W.codeIn K cdv qual=true) (S:FnScope N ps scope)
  (len:∀vs H Q E,sp vs H Q E->vs.length=ps.length)
  (hbody:∀(A:Around) (outer:List Env) (s:Shared) (H:Hp) (vs:List V) (Q:VK) (E:XK),Room k (A.deeper (envOfC qual scope s.heap.objs.size f cdv))->sp vs H Q E->
   ∃t,PSs (cxOf CX P w K mg base N qual scope f cdv A outer s H E) body t/\t {nx:=λ_ H'=>Q .non H',rt:=Q} (xe9 N vs) H) :
  FnOk P w K mg base CX (k+1) f (PySem.W.fnOf name qual params body scope dV kV doc pm an cdv ct) ps sp:=by
 refine⟨len,λA outer s H args us vs Q E hr e0 hb r hsp=>?_⟩;have hl:=len _ _ _ _ hsp;have KX:K.In s.heap:=e0.mod.kin.keeps λb o e=>(e0.bs b o e).1;have lim:s.heap.NoLimit:=e0.mod.nolimit.keeps λb o e=>(e0.bs b o e).1
 have hkind:∀y∈ps.zip us,scope.names.lookup y.1=some .local\/(scope.names.lookup y.1=some .cell/\((cellsFrom (s.heap.objs.size+1) scope.names []).lookup y.1).isSome=true):=λ⟨n,v⟩ hy=>by
  rcases S.par n (List.of_mem_zip hy).1 with q |q
  ·exact .inl q
  ·exact .inr ⟨q,PySem.W.cellsFrom_some _ _ _ (.inl q)⟩
 refine codeAny_call_function hr.depth (KX _ _ lk) rfl S.co S.gen rfl (PySem.W.codeRec_of KX hcd) (hb _ _ _ _ ?_);refine wpAny_newFunctionEnv_cells S.kind hkind λenv he s1 x=>?_;subst he;refine⟨lim.keeps x.toInCall.keep,codeAny_func ?_⟩;obtain⟨t,ht,hq⟩:=hbody A outer s H vs Q E (hr.deeper _) hsp;have I:Inv (cxOf CX P w K mg base N qual scope f cdv A outer s H E) [] (xe9 N vs) H s1:=xop S hr.hd e0 hl r x;refine wpAny_mono (ht [] s1 (xe9 N vs) H _ I hq) (λfl s' hs=>?_) λe s' hs=>hs
 have fin:∀{σ':St} {H':Hp} {v:V} {u:Value},Inv (cxOf CX P w K mg base N qual scope f cdv A outer s H E) [] σ' H' s'->RelV v u->Q v H'->CE outer P w H s Q u s':=
  λ{σ' H' v u} J rv q=>⟨v,H',J.os,J.bare,J.base,J.hok,rv,q⟩
 cases fl with
 |ret u=>
  obtain⟨v,σ',H',J,rv,q⟩:=hs;exact fin J rv q
 |next=>
  obtain⟨σ',H',J,q⟩:=hs;exact fin (v:=V.non) (u:=Value.none) J rfl q
 |brk=>
  obtain⟨_,_,_,q⟩:=hs;exact False.elim q
 |cont=>
  obtain⟨_,_,_,q⟩:=hs;exact False.elim q
section
variable {X:Cx}{x:Str}{p pos:Pos}{e:Expr}{es:List Expr}{t:TA}{id T:String}{r:List V->Hp->VK->Prop}
def tCB(r:List V->Hp->VK->Prop)(t:TA):TE:=λσ H Q=>t σ H λvs H1=>r vs H1 Q
theorem xar (hc:xef X (.builtin id) r) (hg:Gl X x) (hm:X.mg x=none) (hv:bootBuiltins x=some (.builtin id)) (ha:PA X (e::es) t) (hn:x≠"__name__":=by decide) (hdb:(x == ("__debug__":Str))=false:=by decide)
  (he:starEach (e::es) X.env=(false,eval e X.env)::starEach es X.env:=by rfl) (hpl:(backTo pos (starEach es X.env)).any (·.1)=false:=by rfl):PE X (.Call (.Name x p) (e::es) [] pos) (tCB r t):=by
 intro pins s σ H Q I h;refine wpAny_Call_Name_kw (xjb I hg hm hv ?_ hn hdb);exact PyProof.Rows.callWith_builtin1 (thn (ha pos pins s σ H _ I h) λus s1 ⟨vs,H1,I1,r1,q1⟩=>hc pins s1 σ H1 vs us Q I1 r1 q1) he hpl
theorem xao (hc:xef X (.type T) r) (hg:Gl X x) (hm:X.mg x=none) (hv:bootBuiltins x=some (.type T)) (ha:PA X (e::es) t) (hn:x≠"__name__":=by decide) (hdb:(x == ("__debug__":Str))=false:=by decide)
  (he:starEach (e::es) X.env=(false,eval e X.env)::starEach es X.env:=by rfl) (hpl:(backTo pos (starEach es X.env)).any (·.1)=false:=by rfl):PE X (.Call (.Name x p) (e::es) [] pos) (tCB r t):=by
 intro pins s σ H Q I h;refine wpAny_Call_Name_kw (xjb I hg hm hv ?_ hn hdb);exact PyProof.Rows.callWith_type1 (thn (ha pos pins s σ H _ I h) λus s1 ⟨vs,H1,I1,r1,q1⟩=>hc pins s1 σ H1 vs us Q I1 r1 q1) he hpl
end
end L2
namespace HT
open PySem PyProof.Rows
section
variable {prog:Program}{w:World}{A:Around}{E:Value->Shared->Prop}{s:Shared}
theorem cat_tup {t b:Addr} {vs ws:List Value} {Q:Value->Shared->Prop} (ht:IsTup s.heap t vs.toArray) (hb:IsTup s.heap b ws.toArray) (hv:vs≠[])
  (h1:ws=[]->Q (.ref t) s) (h2:ws≠[]->Q (.ref s.heap.objs.size) {s with heap:=s.heap.push {cls:=.type "tuple",data:=.seq (vs++ws).toArray}})
  (hsz:vs.length+ws.length<=sizeLine):wpAny (model prog w) A (binaryOp .Add (.ref t) (.ref b)) Q E s:=by
 obtain⟨⟨cls,dd,data,sl⟩,ho,hc,n,hd⟩:=id ht;obtain⟨⟨cls2,dd2,data2,sl2⟩,ho2,hc2,n2,hd2⟩:=id hb;simp only at hc hd hc2 hd2;subst hc hd hc2 hd2;have e:vs.toArray++ws.toArray=(vs++ws).toArray:=by simp
 by_cases hw:ws=[]
 ·exact concat_meets ⟨_,ho,rfl⟩ ⟨_,ho2,rfl⟩ noFill_tuple_add seq_tuple_add PySem.F.slot_tuple_add PySem.F.entry_tuple_add (PySem.F.args_tuple_add_2 _ _)
   (tuple_addW1 t b vs.toArray ws.toArray n n2 dd dd2 sl sl2 (by simpa using hv) (by simp[hw])) ⟨ho,ho2,h1 hw⟩
 ·refine concat_meets ⟨_,ho,rfl⟩ ⟨_,ho2,rfl⟩ noFill_tuple_add seq_tuple_add PySem.F.slot_tuple_add PySem.F.entry_tuple_add (PySem.F.args_tuple_add_2 _ _)
   (tuple_addW2 t b vs.toArray ws.toArray n n2 dd dd2 sl sl2 (by simpa using hv) (by simpa using hw) (by rw[List.size_toArray,List.size_toArray];exact hsz)) ⟨ho,ho2,?_⟩
  rw[e];exact h2 hw
def sIx(n d:Nat):Option Int->Nat
 |none=>d
 |some v=>if v<0 then (v+(n:Int)).toNat else min v.toNat n
end
end HT
namespace L2
open PySem PySem.Spec PyProof.Rows
abbrev TO:=St->Hp->(Option Int->Hp->Prop)->Prop
def PO(X:Cx)(e:Option Expr)(t:TO):Prop:=
 ∀(pins:List (Addr×Obj)) (s:Shared) (σ:St) (H:Hp) (Q:Option Int->Hp->Prop),Inv X pins σ H s->t σ H Q->
  wpAny (model X.prog X.w) X.A (evalPart e X.env) (λu s'=>∃o H',Inv X pins σ H' s'/\IsPart u o/\Q o H') X.xe s
def xrq:TO:=λ_ H Q=>Q none H
def xu4(t:TE):TO:=λσ H Q=>t σ H λx H1=>∃i,x=.int i/\Q (some i) H1
theorem xgx{ns:List Int}:∀{us:List Value},Vals (ns.map V.int) us->IntsAre us ns:=by
 induction ns with
 |nil=>intro us r;rw[List.map_nil]at r;cases r;exact .nil
 | cons n ns f=>
  intro us r;rw[List.map_cons]at r
  cases r with
  |cons c a=>
   obtain⟨t,e⟩:=c;subst e;exact .cons n t (f a)
section
variable {X:Cx}{e:Expr}{te:TE}{lo hi:Option Expr}{tl th:TO}{pos p2:Pos}
theorem xkj:PO X none xrq:=by
 intro pins s σ H Q I h;rw[evalPart_none];exact wpAny_pure ⟨none,H,I,.none,h⟩
theorem xdl(h:PE X e te):PO X (some e) (xu4 te):=by
 intro pins s σ H Q I f;rw[evalPart_some];refine thn (h pins s σ H _ I f) λu j ⟨x,H1,g,a,c⟩=>?_;obtain⟨i,rfl,q⟩:=c;obtain⟨t,rfl⟩:=a;exact⟨some i,H1,g,.int i t,q⟩
def SlR(X:Cx)(r:V->Option Int->Option Int->Hp->VK->Prop):Prop:=
 ∀(pins:List (Addr×Obj)) (s:Shared) (σ:St) (H:Hp) (x:V) (v vl vu:Value) (lo hi:Option Int) (sl:Addr) (Q:VK),Inv X pins σ H s->RelV x v->s.heap.IsSliceOf sl vl vu .none->IsPart vl lo->IsPart vu hi->r x lo hi H Q->
  ∃T id,typeLookup (.type T) "__getitem__"=pure (some (.builtin id))/\s.TypeIs v T/\wpAny (model X.prog X.w) X.A (getItem v (.ref sl)) (EP X pins σ Q) X.xe s
def tSl(r:V->Option Int->Option Int->Hp->VK->Prop)(te:TE)(tl th:TO):TE:=λσ H Q=>te σ H λx H1=>tl σ H1 λl H2=>th σ H2 λu H3=>r x l u H3 Q
theorem xd7{r:V->Option Int->Option Int->Hp->VK->Prop}(hr:SlR X r)(he:PE X e te)(hl:PO X lo tl)(hu:PO X hi th):PE X (.Subscript e (.Slice lo hi none p2) pos) (tSl r te tl th):=by
 intro pins s σ H Q I h;refine Subscript_ (thn (he pins s σ H _ I h) λv s1 ⟨x,H1,I1,r1,q1⟩=>?_);refine wpAny_Slice (thn (hl pins s1 σ H1 _ I1 q1) λvl s2 ⟨l,H2,I2,pl,q2⟩=>thn (hu pins s2 σ H2 _ I2 q2) λvu s3 ⟨u,H3,I3,pu,q3⟩=>?_);rw[evalPart_none];refine wpAny_pure ?_;have I4:Inv X pins σ H3 {s3 with heap:=s3.heap.push {cls:=.type "slice",data:=.fields #[vl,vu,.none]}}:=I3.kept (t':=s3.toks) λb ob q=>zPO _ q;obtain⟨T,id,hT,ht,hg⟩:=hr pins {s3 with heap:=s3.heap.push {cls:=.type "slice",data:=.fields #[vl,vu,.none]}} σ H3 x v vl vu l u s3.heap.objs.size Q I4 r1 (Heap.IsSliceOf.new ..) pl pu q3;show wpAny (model X.prog X.w) X.A (subscriptTail e (.Slice lo hi none p2) v (.ref s3.heap.objs.size)) (EP X pins σ Q) X.xe {s3 with heap:=s3.heap.push {cls:=.type "slice",data:=.fields #[vl,vu,.none]}};exact tail_any (ops:=[.ref s3.heap.objs.size,v]) ht hT hg (by with_unfolding_all rfl)
def cutV(xs:List V)(lo hi:Option Int):List V:=(xs.drop (HT.sIx xs.length 0 lo)).take (HT.sIx xs.length xs.length hi-HT.sIx xs.length 0 lo)
theorem xgf(xs:List V)(lo hi:Option Int):(cutV xs lo hi).length<=xs.length:=by
 unfold cutV;rw[List.length_take,List.length_drop];omega
def xvi(K:Fg):R2:=λx y H Q=>∃a b xs ys,x=.ref a/\y=.ref b/\SqT K H a xs/\SqT K H b ys/\xs≠[]/\xs.length+ys.length<=sizeLine ∧
 (ys=[]->Q (.ref a) H)/\(ys≠[]->∀p,H p=none->Q (.ref p) (upd H p (.tup (xs++ys))))
theorem Vals.nil_iff{xs:List V}{us:List Value}(r:Vals xs us):us=[] ↔ xs=[]:=by
 cases r with
 |nil=>simp
 |cons _ _=>simp
theorem xse:OpR X (binaryOp .Add) (xvi X.K):=by
 intro pins s σ H x y v u Q I i g h;obtain⟨a,b,xs,ys,rfl,rfl,r,p,n,hz,l,j⟩:=h;cases i;cases g;obtain⟨its,e,m,_⟩:=I.tuple r;obtain⟨f,c,p2,_⟩:=I.tuple p;refine HT.cat_tup m p2 (λz=>n (e.nil_iff.mp z)) (λz=>⟨.ref a,H,I,rfl,l (c.nil_iff.mp z)⟩) (λz=>?_) (by rw[<- e.length,<- c.length];exact hz);refine⟨.ref s.heap.objs.size,_,I.laid (t':=s.toks) (o:=.tup (xs++ys)) (λb C q=>zPO _ q) (Nat.le_refl _) ?_,rfl,j (λw=>z (c.nil_iff.mpr w)) _ (I.hok.fresh (Nat.le_refl _))⟩;exact⟨by rw[zLA];exact hz,_,e.append c,_,Heap.get?_push_size _ rfl,rfl,_,rfl,rfl⟩
end
def ixN(n:Nat)(i:Int):Option Nat:=if 0<=i then (if i<n then some i.toNat else none) else if -(n:Int)<=i then some (i+n).toNat else none
def atI{α:Type}(xs:List α)(i:Int):Option α:=(ixN xs.length i).bind λj=>xs[j]?
theorem xon{n:Nat}{i:Int}{j:Nat}(h:ixN n i=some j):seqIndex? i n=some j/\j<n/\-(n:Int)<=i/\i<n:=by
 unfold ixN at h;by_cases h0:0<=i
 ·rw[if_pos h0]at h
  by_cases h1:i<n
  ·rw[if_pos h1]at h
   have e:i.toNat=j:=Option.some.inj h;exact⟨by rw[seqIndex_of h0 h1,e],by omega,by omega,h1⟩
  ·rw[if_neg h1]at h;cases h
 ·rw[if_neg h0]at h
  by_cases h1:-(n:Int)<=i
  ·rw[if_pos h1]at h
   have e:(i+n).toNat=j:=Option.some.inj h;exact⟨by rw[seqIndex_neg (by omega) h1,e],by omega,h1,by omega⟩
  ·rw[if_neg h1]at h;cases h
theorem xk5{α:Type}{xs:List α}{i:Int}{v:α}(h:atI xs i=some v):∃j,seqIndex? i xs.length=some j/\xs[j]?=some v/\j<xs.length/\-(xs.length:Int)<=i/\i<xs.length:=by
 unfold atI at h
 cases e:ixN xs.length i with
 |none=>rw[e]at h;cases h
 |some j=>
  rw[e]at h;obtain⟨h1,h2,c,a⟩:=xon e;exact⟨j,h1,h,h2,c,a⟩
theorem xa2{α:Type}{xs:List α}{j:Nat}{v:α}(h:xs[j]?=some v):atI xs (j:Int)=some v:=by
 have a:j<xs.length:=(zES h).1
 have e:ixN xs.length (j:Int)=some j:=by
  unfold ixN;rw[if_pos (by omega),if_pos (by omega)];simp
 unfold atI;rw[e];exact h
def xk7(b:Expr):Prop:=∀o i,subscripted b false o i=operate [o,i] (getItem o i)
def IxR(X:Cx)(r:R2):Prop:=
 ∀(value slice:Expr) (pins:List (Addr×Obj)) (s:Shared) (σ:St) (H:Hp) (x y:V) (v u:Value) (Q:VK),Inv X pins σ H s->RelV x v->RelV y u->r x y H Q->
  subscripted slice false v u=operate [v,u] (getItem v u)->wpAny (model X.prog X.w) X.A (subscriptTail value slice v u) (EP X pins σ Q) X.xe s
def MtR(X:Cx)(id:String)(r:V->List V->Hp->VK->Prop):Prop:=
 ∀(pins:List (Addr×Obj)) (s:Shared) (σ:St) (H:Hp) (x:V) (xs:List V) (v:Value) (us:List Value) (Q:VK),Inv X pins σ H s->RelV x v->Vals xs us->r x xs H Q->
  wpAny (model X.prog X.w) X.A (call (.builtin id) (v::us)) (EP X pins σ Q) X.xe s
section
variable {X:Cx}{a b:Expr}{ta tb:TE}{pos:Pos}
theorem xmi{r:R2}(hr:IxR X r)(ha:PE X a ta)(hb:PE X b tb)(hs:xk7 b):PE X (.Subscript a b pos) (tOp r ta tb):=by
 intro pins s σ H Q I h;exact Subscript_ (binT ha hb I h λv u s2 x y H2 I2 rx ry q=>hr a b pins s2 σ H2 x y v u Q I2 rx ry q (hs _ _))
def rIxL(K:Fg):R2:=λx y H Q=>∃p xs i v,x=.ref p/\y=.int i/\SqL K H p xs/\atI xs i=some v/\Q v H
def rIxT(K:Fg):R2:=λx y H Q=>∃p xs i v,x=.ref p/\y=.int i/\SqT K H p xs/\atI xs i=some v/\Q v H
def rIxS:R2:=λx y H Q=>∃z i c,x=.str z/\y=.int i/\z.length<=sizeLine/\atI z.cps.toList i=some c/\Q (.str ⟨#[c]⟩) H
theorem iL:IxR X (rIxL X.K):=by
 intro value a pins s σ H x y v u Q I l g h hs;obtain⟨p,xs,i,z,rfl,rfl,m,o,q⟩:=h;cases l;obtain⟨t,rfl⟩:=g;obtain⟨its,r,pl,hz⟩:=I.list m;obtain⟨j,h1,h2,J,G,C⟩:=xk5 o;obtain⟨w,f,c⟩:=r.get h2;have n:=r.length;have hn:=xi6;have fin:EP X pins σ Q w s:=⟨z,H,I,c,q⟩;by_cases h0:0<=i
 ·have e:i.toNat=j:=by
   rw[seqIndex_of h0 C]at h1;exact Option.some.inj h1
  exact item_listR pl.isList h0 (by omega) (by rw[e];simpa using f) fin hs
 ·have e:(i+(its.toArray.size:Int)).toNat=j:=by
   rw[seqIndex_neg (by omega) G]at h1;rw[List.size_toArray,<- n];exact Option.some.inj h1
  exact subscriptTail_builtinR (x:=w) pl.isList.typeIs slot_list_getitem.lookup
   (wpAny_getItem_list_neg (Q:=λr s'=>r=w/\EP X pins σ Q r s') pl.isList (by omega) (by rw[List.size_toArray] <;> omega) (by omega) (by rw[e];simpa using f) ⟨rfl,fin⟩) hs
theorem xuh:IxR X (rIxT X.K):=by
 intro value a pins s σ H x y v u Q I f e h hs;obtain⟨p,xs,i,z,rfl,rfl,g,m,q⟩:=h;cases f;obtain⟨t,rfl⟩:=e;obtain⟨its,r,pl,hz⟩:=I.tuple g;obtain⟨j,h1,h2,G,C,o⟩:=xk5 m;obtain⟨w,n,c⟩:=r.get h2;have l:=r.length;have hn:=xi6;have fin:EP X pins σ Q w s:=⟨z,H,I,c,q⟩
 exact subscriptTail_builtinR (x:=w) pl.typeIs slot_tuple_getitem.lookup
  (getItem_tuple (j:=j) (Q:=λr s'=>r=w/\EP X pins σ Q r s') pl (by omega) (by omega) (by rw[List.size_toArray,<- l];exact h1) (by simpa using n) ⟨rfl,fin⟩) hs
theorem xlt:IxR X rIxS:=by
 intro value a pins s σ H x y v u Q I f e h hs;obtain⟨z,i,c,rfl,rfl,hz,l,q⟩:=h;obtain⟨t,rfl⟩:=f;obtain⟨t',rfl⟩:=e;obtain⟨j,h1,h2,r,n,m⟩:=xk5 l;have g:z.cps.toList.length=z.length:=by simp[Str.length]
 rw[g]at h1 n m;have hn:=xi6
 exact tail_any (typeIs_str s z t) slot_str_getitem.lookup (getItem_str (c:=c) (by
  have p:decide (i < -(2 ^ 63:Int))=false:=zDF (by omega);have o:decide (i ≥ 2 ^ 63)=false:=zDF (by omega);rw[p,o,Bool.or_false]) (by rw[h1];simpa using h2) ⟨.str ⟨#[c]⟩,H,I.tok _,⟨_,rfl⟩,q⟩) hs
theorem xmm(its:List Value)(n j:Nat)(u:Value):Obj.mapSeq (·.setIfInBounds j u) {cls:=.type "list",data:=.seq its.toArray n}={cls:=.type "list",data:=.seq (its.set j u).toArray n}:=by
 simp[Obj.mapSeq]
theorem Inv.lst {pins:List (Addr×Obj)} {σ:St} {H:Hp} {s:Shared} {p:Addr} {xs:List V} (I:Inv X pins σ H s) (h:H p=some (.lst xs)) :
  ∃(its:List Value) (n:Nat),Vals xs its/\s.heap.get? p=some {cls:=.type "list",data:=.seq its.toArray n}/\xs.length<=sizeLine:=by
 obtain⟨z,its,n,r,e⟩:=I.hok p _ h;exact⟨its,n,r,e,z⟩
theorem Inv.lstUpd {pins:List (Addr×Obj)} {σ:St} {H:Hp} {s:Shared} {p:Addr} {xs ys:List V} {its its':List Value} {n n':Nat} {f:Obj->Obj} (I:Inv X pins σ H s) (h:H p=some (.lst xs))
  (ho:s.heap.get? p=some {cls:=.type "list",data:=.seq its.toArray n}) (hf:f {cls:=.type "list",data:=.seq its.toArray n}={cls:=.type "list",data:=.seq its'.toArray n'}) (r:Vals ys its') (hz:ys.length<=sizeLine) (t:Nat) :
  Inv X pins σ (upd H p (.lst ys)) {s with heap:=s.heap.update p f,toks:=t}:=by
 have e:(s.heap.update p f).get? p=some {cls:=.type "list",data:=.seq its'.toArray n'}:=by
  rw[Heap.get?_update_self f ho (by rw[hf] <;> rfl),hf]
 refine I.write (x:=p) (e:=p) (by rw[h];trivial) (.inl rfl) (λb u hb q=>(Heap.get?_update_other _ _ (Ne.symm hb)).trans q) ⟨_,e⟩ ?_;exact⟨hz,its',n',r,e⟩
def xvg:V->V->V->Hp->(Hp->Prop)->Prop:=λo i v H Q=>∃p xs k j,o=.ref p/\i=.int k/\H p=some (.lst xs)/\ixN xs.length k=some j/\Q (upd H p (.lst (xs.set j v)))
theorem xlg:PSet X xvg:=by
 intro pins s σ H o i v C G u Q I x y w h;obtain⟨p,xs,k,j,rfl,rfl,f,z,q⟩:=h;cases x;obtain⟨t,rfl⟩:=y;obtain⟨its,n,r,a,hz⟩:=I.lst f;obtain⟨h1,h2,l,g⟩:=xon z;have c:=r.length;have hn:=xi6
 have m:Inv X pins σ (upd H p (.lst (xs.set j v))) {s with heap:=s.heap.update p (Obj.mapSeq (·.setIfInBounds j u))}:=
  I.lstUpd f a (xmm its n j u) (r.set w j) (by rw[List.length_set];exact hz) s.toks
 by_cases h0:0<=k
 ·have e:k.toNat=j:=by
   rw[seqIndex_of h0 g]at h1;exact Option.some.inj h1
  exact PySem.W.ki_setAt a h0 (by omega) (by rw[List.size_toArray,<- c];exact g) (by rw[e];exact⟨_,m,q⟩)
 ·have e:(k+(its.toArray.size:Int)).toNat=j:=by
   rw[seqIndex_neg (by omega) l]at h1;rw[List.size_toArray,<- c];exact Option.some.inj h1
  exact PySem.W.ki_setBack a (by omega) (by rw[List.size_toArray,<- c];exact l) (by omega) (by rw[e];exact⟨_,m,q⟩)
theorem xh8(lo hi:Option Int)(n:Nat):(sliceBounds lo hi none n).1=((HT.sIx n 0 lo:Nat):Int)/\(sliceBounds lo hi none n).2.1=((HT.sIx n n hi:Nat):Int)/\(sliceBounds lo hi none n).2.2=1:=by
 refine⟨?_,?_,rfl⟩
 ·cases lo with
  |none=>simp[sliceBounds,HT.sIx]
  |some i=>
   simp only[sliceBounds,HT.sIx,Option.getD_none,show(1:Int) > 0 by decide,if_true];by_cases h:i<0
   ·simp only[h,if_true] <;> omega
   ·simp only[h,if_false] <;> omega
 ·cases hi with
  |none=>simp[sliceBounds,HT.sIx]
  |some i=>
   simp only[sliceBounds,HT.sIx,Option.getD_none,show(1:Int) > 0 by decide,if_true];by_cases h:i<0
   ·simp only[h,if_true] <;> omega
   ·simp only[h,if_false] <;> omega
theorem xhc(its:List Value)(lo hi:Option Int):slicePick its.toArray lo hi none=((its.drop (HT.sIx its.length 0 lo)).take (HT.sIx its.length its.length hi-HT.sIx its.length 0 lo)).toArray:=by
 obtain⟨h1,h2,a⟩:=xh8 lo hi its.toArray.size;unfold slicePick;rw[h1,h2,a];simp only[sliceRange_one,pick_run,List.size_toArray] <;> rfl
def rSlL(K:Fg):V->Option Int->Option Int->Hp->VK->Prop:=λx lo hi H Q=>∃a xs,x=.ref a/\SqL K H a xs/\∀p,H p=none->Q (.ref p) (upd H p (.lst (cutV xs lo hi)))
theorem xhd:SlR X (rSlL X.K):=by
 intro pins s σ H x v l j lo hi sl Q I f hs pl g h;obtain⟨a,xs,rfl,i,q⟩:=h;cases f;obtain⟨its,r,e,hz⟩:=I.list i;have c:=r.length;refine⟨"list",_,slot_list_getitem.lookup,e.isList.typeIs,?_⟩;refine wpAny_getItem_list_slice e.isList hs pl g .none (by simp) ?_ (by rw[List.size_toArray] <;> omega);rw[xhc,<- c];refine⟨.ref s.heap.objs.size,_,I.laid (t':=s.toks) (o:=.lst (cutV xs lo hi)) (λb m q=>zPO _ q) (Nat.le_refl _) ?_,rfl,q _ (I.hok.fresh (Nat.le_refl _))⟩;exact⟨Nat.le_trans (xgf xs lo hi) hz,_,0,(r.drop (HT.sIx xs.length 0 lo)).take (HT.sIx xs.length xs.length hi-HT.sIx xs.length 0 lo),Heap.get?_push_size _ rfl⟩
def xgm:V->Bool
 |.non=>true
 |.bl _=>true
 |.int _=>true
 |.str _=>true
 |_=>false
def eqV:V->V->Bool
 |.non,.non=>true
 |.bl a,.bl b=>a == b
 |.bl a,.int b=>(if a then 1 else 0) == b
 |.int a,.bl b=>a == (if b then 1 else 0)
 |.int a,.int b=>a == b
 |.str a,.str b=>a == b
 |_,_=>false
theorem xuo{A:Around}{s:Shared}{y x:V}{u v:Value}(e:RelV y u)(c:RelV x v)(g:xgm y=true)(f:xgm x=true):SeqAt.EqAt A s u v (eqV y x):=by
 cases y with
 |non=>
  cases e
  cases x with
  |non=>cases c;exact SeqAt.EqAt.same _
  |bl b=>cases c;exact SeqAt.EqAt.none_bool b
  |int b=>obtain⟨t,rfl⟩:=c;exact SeqAt.EqAt.none_int b t
  |str b=>obtain⟨t,rfl⟩:=c;exact SeqAt.EqAt.none_str b t
  |_=>exact absurd (show false=true from f) Bool.false_ne_true
 |bl a=>
  cases e
  cases x with
  |non=>cases c;exact SeqAt.EqAt.bool_none a
  |bl b=>cases c;exact SeqAt.EqAt.bool_bool a b
  |int b=>obtain⟨t,rfl⟩:=c;exact SeqAt.EqAt.bool_int a b t
  |str b=>obtain⟨t,rfl⟩:=c;exact SeqAt.EqAt.bool_str a b t
  |_=>exact absurd (show false=true from f) Bool.false_ne_true
 |int a=>
  obtain⟨t',rfl⟩:=e
  cases x with
  |non=>cases c;exact SeqAt.EqAt.int_none a t'
  |bl b=>cases c;exact SeqAt.EqAt.int_bool a t' b
  |int b=>obtain⟨t,rfl⟩:=c;exact SeqAt.EqAt.int_int a t' b t
  |str b=>obtain⟨t,rfl⟩:=c;exact SeqAt.EqAt.int_str a t' b t
  |_=>exact absurd (show false=true from f) Bool.false_ne_true
 |str a=>
  obtain⟨t',rfl⟩:=e
  cases x with
  |non=>cases c;exact SeqAt.EqAt.str_none a t'
  |bl b=>cases c;exact SeqAt.EqAt.str_bool a t' b
  |int b=>obtain⟨t,rfl⟩:=c;exact SeqAt.EqAt.str_int a t' b t
  |str b=>obtain⟨t,rfl⟩:=c;exact SeqAt.EqAt.str_str a t' b t
  |_=>exact absurd (show false=true from f) Bool.false_ne_true
 |_=>exact absurd (show false=true from g) Bool.false_ne_true
def eqU(x:V)(u:Value):Bool:=match u with
 |.none=>eqV .non x
 |.bool b=>eqV (.bl b) x
 |.int i _=>eqV (.int i) x
 |.str z _=>eqV (.str z) x
 |_=>false
theorem xoy{x y:V}{u:Value}(r:RelV y u)(f:xgm y=true):eqU x u=eqV y x:=by
 cases y with
 |non=>cases r;rfl
 |bl b=>cases r;rfl
 |int i=>obtain⟨t,rfl⟩:=r;rfl
 |str z=>obtain⟨t,rfl⟩:=r;rfl
 |_=>exact absurd (show false=true from f) Bool.false_ne_true
theorem xk6{x:V}:∀{xs:List V} {us:List Value},Vals xs us->xs.all xgm=true->us.any (eqU x)=xs.any λy=>eqV y x
 |_,_,.nil,_=>rfl
 |y::xs,u::us,.cons r t,f=>by
  rw[List.all_cons,Bool.and_eq_true]at f;rw[List.any_cons,List.any_cons,xoy r f.1,xk6 t f.2]
theorem xfm{A:Around}{s:Shared}{x:V}{v:Value}(c:RelV x v)(e:xgm x=true):∀{xs:List V} {us:List Value},Vals xs us->xs.all xgm=true->∀u∈us,SeqAt.EqAt A s u v (eqU x u)
 |_,_,.nil,_=>λu a=>by cases a
 |y::xs,u::us,.cons r t,f=>λg a=>by
  rw[List.all_cons,Bool.and_eq_true]at f;rcases zMC a with rfl |a
  ·rw[xoy r f.1];exact xuo r c f.1 e
  ·exact xfm c e t f.2 g a
def inV(x:V)(xs:List V):Bool:=xs.any λy=>eqV y x
def rIn(K:Fg)(neg:Bool):R2:=λx y H Q=>∃p xs,y=.ref p/\(SqL K H p xs\/SqT K H p xs)/\xgm x=true/\xs.all xgm=true/\Q (.bl (if neg then !inV x xs else inV x xs)) H
theorem xe2:OpR X (compareOp .NotIn) (rIn X.K true):=by
 intro pins s σ H x y v u Q I e g h;obtain⟨p,xs,rfl,a,f,fs,q⟩:=h;cases g;rcases a with a |a
 ·obtain⟨its,r,pl,hz⟩:=I.list a
  refine SeqAt.notIn_listAt (eqU x) pl.isList (λw c=>xfm e f r fs w (by simpa using c)) ⟨.bl _,H,I,rfl,?_⟩;rw[show its.toArray.any (eqU x)=its.any (eqU x) by simp,xk6 r fs];exact q
 ·obtain⟨its,r,pl,hz⟩:=I.tuple a
  refine SeqAt.notIn_tupleAt (eqU x) pl (λw c=>xfm e f r fs w (by simpa using c)) ⟨.bl _,H,I,rfl,?_⟩;rw[show its.toArray.any (eqU x)=its.any (eqU x) by simp,xk6 r fs];exact q
theorem xjv:xef X (.builtin "len") (λxs H Q=>∃p ys,xs=[.ref p]/\(SqL X.K H p ys\/SqT X.K H p ys)/\Q (.int ys.length) H):=by
 intro pins s σ H xs us Q I r h;obtain⟨p,ys,rfl,c,q⟩:=h;obtain⟨u,rfl,f⟩:=xg4 r;cases f;have hn:=xi6;rcases c with c |c
 ·obtain⟨its,e,pl,hz⟩:=I.list c
  have a:=e.length;exact Calls.call_len_list pl.isList (by simp only[List.size_toArray] <;> omega) ⟨.int ys.length,H,I.tok _,⟨s.toks+1,by rw[List.size_toArray,a]⟩,q⟩
 ·obtain⟨its,e,pl,hz⟩:=I.tuple c
  have a:=e.length;exact len_tuple pl (by simp only[List.size_toArray] <;> omega) ⟨.int ys.length,H,I.tok _,⟨s.toks+1,by rw[List.size_toArray,a]⟩,q⟩
theorem xb6:xef X (.type "list") (λxs H Q=>∃p ys,xs=[.ref p]/\(SqL X.K H p ys\/SqT X.K H p ys)/\∀l,H l=none->Q (.ref l) (upd H l (.lst ys))):=by
 intro pins s σ H xs us Q I r h;obtain⟨p,ys,rfl,g,q⟩:=h;obtain⟨u,rfl,x⟩:=xg4 r;cases x
 have fin:∀(its:List Value),Vals ys its->ys.length<=sizeLine->∀(h':Heap) (c:Nat),(∀b o',s.heap.get? b=some o'->h'.get? b=some o')->
   h'.get? s.heap.objs.size=some {cls:=.type "list",dict:=none,data:=.seq its.toArray c,slots:=#[]}->EP X pins σ Q (.ref s.heap.objs.size) {s with heap:=h'}:=λits a hz h' c f e=>
  ⟨.ref s.heap.objs.size,_,I.laid (t':=s.toks) f (Nat.le_refl _) (show ObjOk X.prog X.w _ h' _ (.lst ys) from⟨hz,its,c,a,e⟩),rfl,q _ (I.hok.fresh (Nat.le_refl _))⟩
 rcases g with g |g
 ·obtain⟨its,a,pl,hz⟩:=I.list g
  have i:=a.length;obtain⟨o,j,m,n,hd⟩:=pl.isList;exact call_list_seq p (.inl rfl) j m hd (λh' c f e=>fin its a hz h' c f e) (by simp only[List.size_toArray] <;> omega)
 ·obtain⟨its,a,pl,hz⟩:=I.tuple g
  have i:=a.length;obtain⟨o,j,m,n,hd⟩:=pl;exact call_list_seq p (.inr rfl) j m hd (λh' c f e=>fin its a hz h' c f e) (by simp only[List.size_toArray] <;> omega)
theorem xhu:xef X (.type "tuple") (λxs H Q=>∃p ys,xs=[.ref p]/\((SqL X.K H p ys/\∀l,H l=none->Q (.ref l) (upd H l (.tup ys)))\/(SqT X.K H p ys/\Q (.ref p) H))):=by
 intro pins s σ H xs us Q I r h;obtain⟨p,ys,rfl,h⟩:=h;obtain⟨u,rfl,i⟩:=xg4 r;cases i;rcases h with⟨c,q⟩ |⟨c,q⟩
 ·obtain⟨its,a,pl,hz⟩:=I.list c
  have f:=a.length;refine call_tuple_list pl.isList (λh' j=>?_) (by simp only[List.size_toArray] <;> omega);have g:Inv X pins σ H {s with heap:=h'}:=I.kept (t':=s.toks) j
  have m:Inv X pins σ (upd H h'.objs.size (.tup ys)) {s with heap:=h'.push {cls:=.type "tuple",data:=.seq its.toArray}}:=
   g.laid (t':=s.toks) (λb o e=>zPO _ e) (Nat.le_refl _) (show ObjOk X.prog X.w _ _ _ (.tup ys) from⟨hz,its,a,_,Heap.get?_push_size _ rfl,rfl,_,rfl,rfl⟩)
  exact⟨.ref h'.objs.size,_,m,rfl,q _ (g.hok.fresh (Nat.le_refl _))⟩
 ·obtain⟨its,a,pl,hz⟩:=I.tuple c
  exact call_tuple_same pl ⟨.ref p,H,I,rfl,q⟩
def tyV(K:Fg)(T:String)(x:V)(H:Hp):Prop:=match x with
 |.str _=>T="str"
 |.int _=>T="int"
 | .ref p=>(T="list"/\∃xs,SqL K H p xs)\/(T="tuple"/\∃o,K.lookup p=some o/\o.cls=.type "tuple"/\o.dict=none) ∨
   (T="dict"/\((∃kvs,H p=some (.dK kvs))\/∃kvs,H p=some (.dT kvs)))\/(T="set"/\∃S n,H p=some (.set S n))
 |_=>False
theorem xqx {pins:List (Addr×Obj)} {σ:St} {H:Hp} {s:Shared} {T:String} {x:V} {v:Value} (I:Inv X pins σ H s) (r:RelV x v) (g:tyV X.K T x H) :
  s.TypeIs v T/\∀a,v=.ref a->∃j,s.heap.get? a=some j/\j.dict=none:=by
 cases x with
 |str z=>
  obtain⟨t,rfl⟩:=r;cases (show T="str" from g);exact⟨typeIs_str s z t,λ_ e=>nomatch e⟩
 |int i=>
  obtain⟨t,rfl⟩:=r;cases (show T="int" from g);exact⟨typeIs_int s i t,λ_ e=>nomatch e⟩
 | ref p=>
  cases r;rcases g with⟨rfl,xs,l⟩ |⟨rfl,o,f,m,hd⟩ |⟨rfl,f⟩ |⟨rfl,S,n,f⟩
  ·obtain⟨its,_,pl,_⟩:=I.list l
   refine⟨pl.isList.typeIs,λa e=>?_⟩;cases e;obtain⟨o,n,e,c,hd,_⟩:=pl;exact⟨o,e,hd⟩
  ·refine⟨⟨o,I.kIn p o f,m⟩,λa e=>?_⟩
   cases e;exact⟨o,I.kIn _ o f,hd⟩
  ·have z:∃o,s.heap.get? p=some o/\o.ExactDict:=by
    rcases f with⟨kvs,f⟩ |⟨kvs,f⟩
    ·obtain⟨_,_,_,_,o,_,_,e,ex,_⟩:=I.hok p _ f
     exact⟨o,e,ex⟩
    ·obtain⟨_,_,_,_,o,_,_,e,ex,_⟩:=I.hok p _ f
     exact⟨o,e,ex⟩
   obtain⟨o,e,ex⟩:=z;refine⟨⟨o,e,ex.1⟩,λa h=>?_⟩;cases h;exact⟨o,e,ex.2.1⟩
  ·obtain⟨o,_,_,_,e,ex,_⟩:=I.hok p _ f
   refine⟨⟨o,e,ex.1⟩,λa h=>?_⟩;cases h;exact⟨o,e,ex.2.1⟩
 |_=>exact False.elim g
def tBM0(K:Fg)(T:String)(r:V->List V->Hp->VK->Prop)(to:TE):TE:=λσ H Q=>to σ H λx H1=>tyV K T x H1/\r x [] H1 Q
def tBM(K:Fg)(T:String)(r:V->List V->Hp->VK->Prop)(to:TE)(t:TA):TE:=λσ H Q=>to σ H λx H1=>tyV K T x H1/\t σ H1 λxs H2=>r x xs H2 Q
variable {o e:Expr}{es:List Expr}{to:TE}{t:TA}{name:Str}{apos cpos:Pos}{T id:String}{r:V->List V->Hp->VK->Prop}
theorem xq6 (pa:PlainAttrs T) (e:Slot T name id) (f:typeOf (.builtin id)=pure (.type "method_descriptor")) (p:MtR X id r) (n:PE X o to)
  (c:attributeBase o name X.env (eval o X.env)=eval o X.env:=by rfl) (a:(apos.endLine == cpos.line)=true:=by rfl):PE X (.Call (.Attribute o name apos) [] [] cpos) (tBM0 X.K T r to):=by
 intro pins s σ H Q I h;refine wpAny_Call_method0_late c a (thn (n pins s σ H _ I h) λv l ⟨x,H1,i,g,j,m⟩=>?_);obtain⟨h1,h2⟩:=xqx i g j;exact⟨T,id,pa,e,f,h1,h2,Calls.callWith_builtin rfl (PySem.evalArgs_none (p pins l σ H1 x [] v [] Q i g .nil m))⟩
theorem xc4 (pa:PlainAttrs T) (g:Slot T name id) (j:typeOf (.builtin id)=pure (.type "method_descriptor")) (J:MtR X id r) (G:PE X o to) (M:PA X (e::es) t)
  (f:attributeBase o name X.env (eval o X.env)=eval o X.env:=by rfl)
  (i:((backTo cpos (starEach (e::es) X.env)).all (λx=>!x.1) && (backToKw cpos (keywordEach [] X.env)).all (λx=>x.1.isSome)
   && decide ((e::es).length+([]:List Keyword).length+(if ([]:List Keyword).isEmpty then 0 else 1)<30))=true:=by rfl)
  (c:(apos.endLine == cpos.line)=true:=by rfl) (hs:starEach (e::es) X.env=(false,eval e X.env)::starEach es X.env:=by rfl) (a:(backTo cpos (starEach es X.env)).any (·.1)=false:=by rfl) :
  PE X (.Call (.Attribute o name apos) (e::es) [] cpos) (tBM X.K T r to t):=by
 intro pins s σ H Q I h;refine wpAny_Call_method_late f i c rfl (thn (G pins s σ H _ I h) λv w ⟨x,H1,n,l,p,C⟩=>?_);obtain⟨h1,h2⟩:=xqx n l p;refine⟨T,id,pa,g,j,h1,h2,?_⟩;have m:=M cpos pins w σ H1 _ n C;rw[hs]at m⊢;refine Calls.callWith_builtin (by show(false || (backTo cpos (starEach es X.env)).any (·.1))=false;rw[a] <;> rfl) (Calls.evalArgs_plain ?_);exact thn m λus u ⟨vs,H2,O,y,z⟩=>J pins u σ H2 x vs v us Q O l y z
end
def MtM(X:Cx)(id:String)(r:V->List V->Hp->VK->Prop):Prop:=
 ∀(pins:List (Addr×Obj)) (s:Shared) (σ:St) (H:Hp) (x:V) (xs:List V) (v:Value) (us:List Value) (Q:VK),Inv X pins σ H s->RelV x v->Vals xs us->r x xs H Q->
  wpAny (model X.prog X.w) X.A (call (.builtin id) (v::us)) (EP X pins σ Q) X.xe s
theorem Vals.one:∀{x:V} {us:List Value},Vals [x] us->∃u,us=[u]/\RelV x u
 |_,_,.cons r .nil=>⟨_,rfl,r⟩
theorem Vals.two:∀{x y:V} {us:List Value},Vals [x,y] us->∃u v,us=[u,v]/\RelV x u/\RelV y v
 |_,_,_,.cons r (.cons q .nil)=>⟨_,_,rfl,r,q⟩
theorem Vals.zero:∀{us:List Value},Vals [] us->us=[]
 |_,.nil=>rfl
theorem Vals.eraseIdx:∀{xs:List V} {us:List Value} (i:Nat),Vals xs us->Vals (xs.eraseIdx i) (us.eraseIdx i)
 |_,_,_,.nil=>.nil
 |_,_,0,.cons _ t=>t
 |_,_,i+1,.cons r t=>.cons r (Vals.eraseIdx i t)
theorem Vals.reverse{xs:List V}{us:List Value}(h:Vals xs us):Vals xs.reverse us.reverse:=by
 induction h with
 |nil=>exact .nil
 |cons r t a=>rw[List.reverse_cons,List.reverse_cons];exact Vals.append a (.cons r .nil)
theorem xi8{α:Type}:∀(l:List α) (i:Nat),(l.eraseIdx i).length<=l.length
 |[],_=>Nat.le_refl _
 |_::_,0=>Nat.le_succ _
 |_::r,i+1=>Nat.succ_le_succ (xi8 r i)
section
variable {X:Cx}{pins:List (Addr×Obj)}{σ:St}{H:Hp}{s:Shared}{l b:Addr}{xs ys zs:List V}
theorem Inv.lset {its its':List Value} {n:Nat} {f:Array Value->Array Value} {t':Nat} (I:Inv X pins σ H s) (i:H l=some (.lst xs))
  (e:s.heap.get? l=some {cls:=.type "list",data:=.seq its.toArray n}) (g:f its.toArray=its'.toArray) (a:Vals ys its') (hz:ys.length<=sizeLine) :
  Inv X pins σ (upd H l (.lst ys)) {s with heap:=s.heap.update l (Obj.mapSeq f),toks:=t'}:=by
 have q:=PySem.IsL.update e f;rw[g]at q;refine I.write (x:=l) (e:=l) (by rw[i];exact trivial) (.inl rfl) (λj u h c=>(Heap.get?_update_other s.heap (Obj.mapSeq f) (Ne.symm h)).trans c) ⟨_,q⟩ ?_;exact⟨hz,its',_,a,q⟩
theorem Inv.lnew {its:List Value} {t':Nat} (I:Inv X pins σ H s) (a:Vals ys its) (hz:ys.length<=sizeLine) :
  Inv X pins σ (upd H s.heap.objs.size (.lst ys)) {s with heap:=s.heap.push {cls:=.type "list",data:=.seq its.toArray},toks:=t'}:=
 I.laid (λ_ _ q=>zPO _ q) (Nat.le_refl _) ⟨hz,its,0,a,Heap.get?_push_size _ rfl⟩
theorem Inv.fresh(I:Inv X pins σ H s):H s.heap.objs.size=none:=I.hok.fresh (Nat.le_refl _)
theorem Inv.lstM(I:Inv X pins σ H s)(a:H l=some (.lst xs)):xs.length<=sizeLine/\∃(its:List Value) (n:Nat),Vals xs its/\xs.length=its.length/\s.heap.get? l=some {cls:=.type "list",data:=.seq its.toArray n}:=by
 obtain⟨z,its,n,r,e⟩:=I.hok l _ a;exact⟨z,its,n,r,r.length,e⟩
end
section
variable {X:Cx}
def xr1:V->List V->Hp->VK->Prop:=λx vs H Q=>∃l xs y,x=.ref l/\vs=[y]/\H l=some (.lst xs)/\xs.length<sizeLine/\Q .non (upd H l (.lst (xs++[y])))
theorem xbj:MtM X "list.append" xr1:=by
 intro pins s σ H x vs v us Q I c f h;obtain⟨l,xs,y,rfl,rfl,a,hz,q⟩:=h;cases c;obtain⟨u,rfl,g⟩:=f.one;obtain⟨z,its,n,r,i,e⟩:=I.lstM a;refine call_meets F.slot_list_append ⟨_,e,rfl⟩ F.entry_list_append (F.args_list_append_2 _ _) (PySem.list_append l its.toArray n u (by rw[List.size_toArray];omega)) ⟨e,?_⟩;refine⟨.non,_,I.lset (its':=its++[u]) a e (by simp) (r.append (.cons g .nil)) ?_,rfl,q⟩;rw[zLA,List.length_singleton];omega
def xtt:V->List V->Hp->VK->Prop:=λx vs H Q=>∃l xs i k y,x=.ref l/\vs=[.int i]/\H l=some (.lst xs)/\-(2 ^ 63)<=i/\i<2 ^ 63/\seqIndex? i xs.length=some k/\xs[k]?=some y/\Q y (upd H l (.lst (xs.eraseIdx k)))
theorem xfl:MtM X "list.pop" xtt:=by
 intro pins s σ H x vs v us Q I f g h;obtain⟨l,xs,i,k,y,rfl,rfl,c,h1,h2,C,m,q⟩:=h;cases f;obtain⟨u,rfl,j⟩:=g.one;obtain⟨t,rfl⟩:=j;obtain⟨z,its,n,r,p,e⟩:=I.lstM c;obtain⟨w,o,a⟩:=r.get m
 refine call_meets F.slot_list_pop ⟨_,e,rfl⟩ F.entry_list_pop (F.args_list_pop_2 _ _)
  (MeetsSeq.list_pop_at l its.toArray n i t k w (fitsIndex_both h1 h2) (by rw[List.size_toArray,<- p];exact C) (by rw[<- Array.getElem?_toList];exact o) (by rw[List.size_toArray];omega)) ⟨e,?_⟩
 refine⟨y,_,I.lset (its':=its.eraseIdx k) c e ?_ (r.eraseIdx k) ?_,a,q⟩
 ·show its.toArray.eraseIdxIfInBounds k=(its.eraseIdx k).toArray
  rw[List.eraseIdxIfInBounds_toArray]
 ·have:=xi8 xs k
  omega
def xpo:V->List V->Hp->VK->Prop:=λx vs H Q=>∃l xs,x=.ref l/\vs=[]/\H l=some (.lst xs)/\Q .non (upd H l (.lst xs.reverse))
theorem xml:MtM X "list.reverse" xpo:=by
 intro pins s σ H x vs v us Q I f g h;obtain⟨l,xs,rfl,rfl,c,q⟩:=h;cases f;have a:=g.zero;subst a;obtain⟨z,its,n,r,i,e⟩:=I.lstM c;refine call_meets F.slot_list_reverse ⟨_,e,rfl⟩ F.entry_list_reverse (F.args_list_reverse_1 _) (AutoSeq1.list_reverse_list_0 l its.toArray n (by rw[List.size_toArray];omega)) ⟨e,?_⟩;refine⟨.non,_,I.lset (its':=its.reverse) c e (by simp) r.reverse ?_,rfl,q⟩;rw[List.length_reverse];omega
def xtv:V->List V->Hp->VK->Prop:=λx vs H Q=>∃l xs,x=.ref l/\vs=[]/\H l=some (.lst xs)/\Q .non (upd H l (.lst []))
theorem xqc:MtM X "list.clear" xtv:=by
 intro pins s σ H x vs v us Q I f g h;obtain⟨l,xs,rfl,rfl,c,q⟩:=h;cases f;have a:=g.zero;subst a;obtain⟨z,its,n,r,i,e⟩:=I.lstM c;refine call_meets F.slot_list_clear ⟨_,e,rfl⟩ F.entry_list_clear (F.args_list_clear_1 _) (AutoSeq1.list_clear_list_0 l its.toArray n (by rw[List.size_toArray];omega)) ⟨e,?_⟩;exact⟨.non,_,I.lset (its':=[]) (ys:=[]) c e rfl .nil (Nat.zero_le _),rfl,q⟩
def rCat:R2:=λx y H Q=>∃l b xs zs,x=.ref l/\y=.ref b/\H l=some (.lst xs)/\H b=some (.lst zs)/\xs.length+zs.length<=sizeLine/\∀p,H p=none->Q (.ref p) (upd H p (.lst (xs++zs)))
theorem xgr:OpR X (binaryOp .Add) rCat:=by
 intro pins s σ H x y v u Q I f c h;obtain⟨l,b,xs,zs,rfl,rfl,j,m,hz,q⟩:=h;cases f;cases c;obtain⟨z,its,n,r,G,e⟩:=I.lstM j;obtain⟨w,a,C,g,i,p⟩:=I.lstM m;refine PySem.P.add_list e p ?_ (by rw[List.size_toArray,List.size_toArray];omega);have o:its.toArray++a.toArray=(its++a).toArray:=by simp
 rw[o];exact⟨.ref _,_,I.lnew (t':=s.toks) (r.append g) (by rw[zLA];omega),rfl,q _ I.fresh⟩
end
end L2
namespace Att
open PySem PySem.W PySem.Calls PyProof.Rows
theorem xga{P:Params}{h:Heap}:∀(ns:List Int) (vs:List Value),WellAll P h vs (ns.map WData.int)->IntsAre vs ns:=by
 intro ns
 induction ns with
 |nil=>
  intro vs w;rw[List.map_nil]at w;cases w;exact .nil
 | cons n ns c=>
  intro vs w;rw[List.map_cons]at w
  cases w with
  |cons a b=>
   cases a;exact .cons _ _ (c _ b)
theorem xnm {l:OpenLaw} {n:Nat} (hn:l.most=some n) {P:Params} {h:Heap} {args:List WData} {c:List Value}
  (e:l.row.toRowW.claim.pre args=true) (m:WellAll P h c args) :
  ∃a vs ns,c=[Value.ref a]/\args=[WData.list (ns.map WData.int)]/\h.get? a=some {cls:=.type "list",data:=.seq vs.toArray}/\IntsAre vs ns/\ns.length<=n:=by
 have o:WShape.hasAll [] args [.list .int]=true:=(pre_splitW e).1;have p:l.pre.holds [] {args:=args}=true:=(pre_splitW e).2;obtain⟨d,r,rfl,h1,h2⟩:=hasAllW_cons o;obtain rfl:=hasAllW_nil h2;obtain⟨xs,rfl,y⟩:=hasW_list h1;obtain⟨ns,rfl⟩:=items_int y
 have f:ns.length<=n:=by
  unfold OpenLaw.pre at p
  have j:(WTm.not (.lt (.lit (.int (n:Int))) (.len (.arg 0)))).holds [] {args:=[.list (ns.map .int)]}=true:=by
   have j:=(holds_andW p).1;rw[hn]at j;exact j
  have i:=condW_of j (w_not (w_lt w_lit (w_len_list (w_arg rfl))));rw[zLM]at i;refine Nat.le_of_not_lt λq=>?_;have w:(n:Int)<((ns.length:Nat):Int):=by omega
  first
   |(rw[zDT w]at i;exact absurd i (by decide))
   |(simp at i;omega)
 cases m with
 |cons u s=>
  cases s
  cases u with
  |list x g=>exact⟨_,_,ns,rfl,rfl,x,xga ns _ g,f⟩
theorem xnq(l:OpenLaw)(args:List WData):l.row.toRowW.claim.post args (.bool true) args=true:=
 postW_of (r:=l.row.toRowW) (X:=(true == true))
  (show WShape.has [] (.bool true) .bool=true by first |rfl |decide |simp[WShape.has,WShape.arms,WShape.armsAll])
  (show(WTm.eq .res (.lit (.bool true))).value [] {args:=args,res:=some (.bool true),after:=args}=some (.bool (true == true)) from w_eq_bool (w_res rfl) w_lit) rfl
theorem attach_call {l:OpenLaw} {n:Nat} {q:Program} {loose:List Str} {XP:(Str->Option Value)->Heap->Prop} {YP:World->Heap->Prop} {d:DefRec}
  (hn:l.most=some n) (hdf:d.params.defaults=[])
  (call:∀(w:World) (s₀ s₁:Shared) (mg mb:Str->Option Value) (fa:Addr) (o:Obj) (pm cd doc:Value) (a:Addr) (vs:List Value) (ns:List Int),
   Ground q loose [] XP w s₀ mg mb s₁.heap->YP w s₁.heap->
   s₁.heap.get? fa=some o->o.data=.func (docDef d.name d.params d.body d.scope pm cd doc)->s₁.heap.CodeRec cd d.name->mg d.name=some (.ref fa)->
   s₁.heap.get? a=some {cls:=.type "list",data:=.seq vs.toArray}->IntsAre vs ns->ns.length<=n->s₁.gens=#[]->
   codeAny (model l.prog w) callerA (.call (.ref fa) ⟨[.ref a],[]⟩) (λr s'=>r=.ok (.ret (.bool true))/\OldK s₁.heap s'.heap/\s'.os=s₁.os/\AllBare s'.gens) s₁) :
  WalkO q loose XP YP l.row.toRowW d [] (λf vs=>PySem.call f vs):=by
 intro w s₀ s₁ mg mb G Y fa o pm cd doc dV kV ho hd hcd hD hmg hg args vals as hpre hlay hrd hwl hlo;obtain rfl:dV=.none:=Dflts.none hD hdf;obtain rfl:kV=.none:=Dflts.noKw hD;obtain⟨a,vs,ns,rfl,rfl,hobj,hints,hlen⟩:=xnm hn hpre hwl;refine enter_call (codeAny_mono (call w s₀ s₁ mg mb fa o pm cd doc a vs ns G Y ho (fd_plain hd) hcd hmg hobj hints hlen hg) λr s' hq=>?_);obtain⟨rfl,h2,h3,h4⟩:=hq;exact⟨.inl ⟨.bool true,.bool true,[],rfl,λ_=>rfl,.bool true,xnq l _,λ_=>⟨List.Pairwise.nil,λ_ hm=>(nomatch hm)⟩⟩,h2,h3,h4⟩
end Att
namespace L2
open PySem PySem.Spec PyProof.Rows
theorem xhw:∀{vs:List Value} {ns:List Int},IntsAre vs ns->Vals (ns.map V.int) vs
 |_,_,.nil=>.nil
 |_,_,.cons n t h=>.cons ⟨t,rfl⟩ (xhw h)
def Only(H:Hp):Prop:=∀b,H b=none\/∃o xs,H b=some (.frz o (.lst xs))
theorem xqh {P:Program} {w:World} {K:Fg} {mg mb:Str->Option Value} {CX:CXT} {k:Nat} {fa a:Addr} {fd:FuncData} {x:Str} {sp:Sp} {s₁:Shared} {vs:List Value} {ns:List Int}
  (KX:K.In s₁.heap) (hns:s₁.heap.Ns mainGlobals mg) (hb:s₁.heap.Ns builtinsNs mb) (hbb:∀x:Str,x≠"__name__"->mb x=bootBuiltins x) (hlim:s₁.heap.NoLimit) (hg:s₁.gens=#[])
  (ha:s₁.heap.get? a=some {cls:=.type "list",data:=.seq vs.toArray}) (hi:IntsAre vs ns) (hl:ns.length<=sizeLine) (hr:Room k callerA)
  (F:∀base:Heap,K.In base->base.Ns mainGlobals mg->FnOk P w K mg base CX k fa fd [x] sp) (hbind:∀(s:Shared) (u:Value),BindsTo s fd ⟨[u],[]⟩ [(x,u)])
  (hsp:∀H:Hp,Only H->SqL K H a (ns.map V.int)->sp [.ref a] H (λv _=>v=.bl true) λ_ _ _=>False)
  (hCX:∀H e s',CX [] H s₁ (λ_ _ _=>False) e s'->False) :
  codeAny (model P w) callerA (.call (.ref fa) ⟨[.ref a],[]⟩) (λr s'=>r=.ok (.ret (.bool true))/\OldK s₁.heap s'.heap/\s'.os=s₁.os/\AllBare s'.gens) s₁:=by
 have rv:=xhw hi;have lenV:=hi.length
 have core:∀H:Hp,Only H->SqL K H a (ns.map V.int)->HOk P w H s₁.heap->(∀b,H b≠none->b=a)->(H a≠none->K.lookup a=none)->
   codeAny (model P w) callerA (.call (.ref fa) ⟨[.ref a],[]⟩) (λr s'=>r=.ok (.ret (.bool true))/\OldK s₁.heap s'.heap/\s'.os=s₁.os/\AllBare s'.gens) s₁:=by
  intro H hO hS hok hA hK;have base_of:∀{b:Addr} {o:Obj},s₁.heap.get? b=some o->H b=none->(hidT s₁.heap H).get? b=some o:=λe n=>xqk e n
  have noA:∀{b:Addr} {o:Obj} {es:Array DictEntry} {ep:Nat},s₁.heap.get? b=some o->o.data=.dict es ep->H b=none:=λ{b o es ep} e d=>by
   cases q:H b with
   |none=>rfl
   |some u=>
    have e':b=a:=hA b (by rw[q];simp);subst e';rw[ha]at e;cases e;have d':Data.seq vs.toArray _=Data.dict es ep:=d;cases d'
  have nsK:∀{b:Addr} {m:Str->Option Value},s₁.heap.Ns b m->(hidT s₁.heap H).Ns b m:=λ{b m} ⟨o,es,ep,e,d,r⟩=>⟨o,es,ep,base_of e (noA e d),d,r⟩
  have hKb:K.In (hidT s₁.heap H):=λb o e=>base_of (KX b o e) (by
   cases q:H b with
   |none=>rfl
   |some u=>
    have e':b=a:=hA b (by rw[q];simp);subst e';rw[hK (by rw[q];simp)]at e;cases e)
  have hM:Mod K mg (hidT s₁.heap H):=⟨hKb,nsK hns,⟨mb,nsK hb,hbb⟩,let ⟨mc,h1,h2⟩:=hlim;⟨mc,nsK h1,h2⟩⟩;have e0:Env0 P w K mg (hidT s₁.heap H) callerA [] s₁ H:=⟨rfl,hM,λb o e=>xsg e,Nat.le_of_eq (xoq _ _),trivial,λb hb=>absurd (show b∈([]:List Addr) from hb) (by simp),hok,.of_eq hg⟩;refine codeAny_mono ((F _ hKb (nsK hns)).run callerA [] s₁ H ⟨[.ref a],[]⟩ [.ref a] [.ref a] _ _ hr e0 (hbind s₁ (.ref a)) (.cons rfl .nil) (hsp H hO hS)) λr s' h=>?_
  cases r with
  |error e=>exact(hCX H e s' h).elim
  | ok fl=>
   cases fl with
   |next=>exact False.elim h
   |brk=>exact False.elim h
   |cont=>exact False.elim h
   | ret u=>
    obtain⟨v,H',os,bare,un,hok',r',q⟩:=h;have q':v=.bl true:=q;subst q';obtain rfl:u=Value.bool true:=r';refine⟨rfl,OldK.of_keep λb o e=>?_,os,bare⟩
    cases q:H b with
    |none=>exact un.keep b o e q (by intro z;exact absurd (show b∈([]:List Addr) from z) (by simp)) (by simp)
    | some u=>
     rcases hO b with z |⟨ob,xs,z⟩
     ·rw[q]at z;cases z
     ·have z2:=un.frzs b ob _ z
      obtain⟨e1,_⟩:=hok b _ z;obtain⟨e2,_⟩:=hok' b _ z2;rw[e]at e1;cases e1;exact e2
 cases hk:K.lookup a with
 |some o=>
  have e:=KX a o hk;rw[ha]at e;cases e;refine core (λ_=>none) (λ_=>.inl rfl) (.inr ⟨_,vs.toArray,_,hk,rfl,rfl,rfl,by rw[List.size_toArray,lenV];exact hl,by simpa using rv⟩) (λb u z=>by have z':(none:Option HO)=some u:=z;cases z') (λb z=>absurd rfl z) λz=>absurd rfl z
 | none=>
  refine core (λb=>if b=a then some (.frz {cls:=.type "list",data:=.seq vs.toArray} (.lst (ns.map V.int))) else none) (λb=>?_) (.inl (.inr ⟨{cls:=.type "list",data:=.seq vs.toArray},if_pos rfl⟩)) (λb u z=>?_) (λb z=>?_) λ_=>hk
  ·by_cases hb:b=a
   ·exact .inr ⟨_,_,if_pos hb⟩
   ·exact .inl (if_neg hb)
  ·by_cases hb:b=a
   ·have z':=(if_pos hb).symm.trans z
    cases z';subst hb;exact⟨ha,by rw[zLM];exact hl,vs,_,rv,ha⟩
   ·have z':=(if_neg hb).symm.trans z
    cases z'
  ·by_cases hb:b=a
   ·exact hb
   ·exact absurd (if_neg hb) z
abbrev KOf{K:Fg}{h:Heap}(_:K.In h):Fg:=K
theorem walk_of {l:PySem.W.OpenLaw} {n k:Nat} {q:Program} {loose:List Str} {XP:(Str->Option Value)->Heap->Prop} {YP:World->Heap->Prop} {d:DefRec} {K:Params->Fg} {CX:World->CXT} {sp:World->Sp} {x:Str}
  (hn:l.most=some n) (hn2:n<=sizeLine) (hdf:d.params.defaults=[]) (hr:Room k callerA)
  (hY:∀(w:World) (h:Heap),YP w h->(K w.params).In h)
  (F:∀(w:World) (mg:Str->Option Value) (fa:Addr) (h:Heap),(K w.params).In h->h.Ns mainGlobals mg->mg d.name=some (.ref fa)->
   ∃fd:FuncData,(∀(s:Shared) (u:Value),BindsTo s fd ⟨[u],[]⟩ [(x,u)]) ∧
    ∀base:Heap,(K w.params).In base->base.Ns mainGlobals mg->FnOk l.prog w (K w.params) mg base (CX w) k fa fd [x] (sp w))
  (hsp:∀(w:World) (H:Hp) (a:Addr) (ns:List Int),ns.length<=n->Only H->SqL (K w.params) H a (ns.map V.int)->sp w [.ref a] H (λv _=>v=.bl true) λ_ _ _=>False)
  (hCX:∀(w:World) (H:Hp) (s:Shared) (e:Value) (s':Shared),CX w [] H s (λ_ _ _=>False) e s'->False) :
  PySem.W.WalkO q loose XP YP l.row.toRowW d [] (λf vs=>PySem.call f vs):=by
 refine Att.attach_call hn hdf λw s₀ s₁ mg mb fa o pm cd doc a vs ns G Y ho hd hcd hmg hobj hints hlen hg=>?_;have KX:=hY w _ Y;obtain⟨fd,hb,hF⟩:=F w mg fa _ KX G.T.g hmg;exact xqh KX G.T.g G.T.b G.T.builtins G.T.nolimit hg hobj hints (Nat.le_trans hlen hn2) hr hF hb (λH hO hS=>hsp w H a ns hlen hO hS) λH e s'=>hCX w H s₁ e s'
def xc5(s:Stmt):Arguments:=match s with
 |.FunctionDef _ a _ _ _ _ _ _ _ _=>a
 |_=>{posonlyargs:=[],args:=[],vararg:=none,kwonlyargs:=[],kw_defaults:=[],kwarg:=none,defaults:=[]}
def xco(s:Stmt):List Stmt:=match s with
 |.FunctionDef _ _ b _ _ _ _ _ _ _=>b
 |_=>[]
def xae(s:Stmt):Scope:=match s with
 |.FunctionDef _ _ _ _ _ _ sc _ _ _=>sc
 |_=>{kind:=.function,names:=[],isGenerator:=false,isCoroutine:=false}
abbrev CX0:CXT:=λ_ _ _ _ _ _=>False
abbrev E0:XK:=λ_ _ _=>False
theorem xsb{X:Cx}:xg2 CX0 X E0:=λ_ _ _ _ _ _ _ h=>h.elim
structure Fun(K:Fg)(x qual:Str)(st:Stmt)(f:Addr)(fd:FuncData):Prop where
 ex:∃(oc:Value) (od:Option Addr) (kV doc pm:Value) (an:Option Addr) (cdv ct:Value) (osl:Array (Option Value)),
  fd=PySem.W.fnOf x qual (xc5 st) (xco st) (xae st) .none kV doc pm an cdv ct/\K.lookup f=some ⟨oc,od,.func fd,osl⟩/\PySem.W.codeIn K cdv qual=true
 kp:PySem.W.keepIn K (.ref f)=true
section
variable {P:Program}{w:World}{K:Fg}{mg:Str->Option Value}{base:Heap}
theorem Fun.ok {x qual:Str} {st:Stmt} {f:Addr} {fd:FuncData} {N ps:List Str} {k:Nat} {sp:Sp} (F:Fun K x qual st f fd) (S:FnScope N ps (xae st)) (len:∀vs H Q E,sp vs H Q E->vs.length=ps.length)
  (hbody:∀(cdv:Value) (A:Around) (outer:List Env) (s:Shared) (H:Hp) (vs:List V) (Q:VK) (E:XK),Room k (A.deeper (envOfC qual (xae st) s.heap.objs.size f cdv))->sp vs H Q E->
   ∃t,PSs (cxOf CX0 P w K mg base N qual (xae st) f cdv A outer s H E).nox (xco st) t/\t {nx:=λ_ H'=>Q .non H',rt:=Q} (xe9 N vs) H):FnOk P w K mg base CX0 (k+1) f fd ps sp:=by
 obtain⟨oc,od,kV,doc,pm,an,cdv,ct,osl,rfl,lk,hcd⟩:=F.ex;refine xum lk hcd S len λA outer s H vs Q E hr hsp=>?_;obtain⟨t,h,q⟩:=hbody cdv A outer s H vs Q E hr hsp;exact⟨t,h.nox,q⟩
theorem xul {x a:Str} {st:Stmt} {f:Addr} {m:Value} {od j:Option Addr} {h:Array (Option Value)} {kV g i e ct:Value} (l:K.lookup f=some ⟨m,od,.func (PySem.W.fnOf x a (xc5 st) (xco st) (xae st) .none kV g i j e ct),h⟩)
  (c:PySem.W.codeIn K e a=true) (k:PySem.W.keepIn K (.ref f)=true):Fun K x a st f (PySem.W.fnOf x a (xc5 st) (xco st) (xae st) .none kV g i j e ct):=⟨⟨m,od,kV,g,i,j,e,ct,h,rfl,l,c⟩,k⟩
end
theorem xfe{A:Around}{k:Nat}(a:Room k A):A.units+1<cLine:=Nat.lt_of_le_of_lt (Nat.add_le_add_left (by decide:1<=64) _) a.units
section
variable {X:Cx}
theorem pv (i:Nat) {x:Str} {pos:Pos} (e:X.N[i]?=some x:=by rfl) (c:Vis X.env.scope x:=by first |exact Or.inl rfl |exact Or.inr (Or.inl rfl) |exact Or.inr (Or.inr rfl)) (hd:(x == ("__debug__":Str))=false:=by decide)
  (a:(x == ("__classdict__":Str))=false:=by decide):PE X (.Name x pos) (tVar i):=xt0 e c hd a
end
theorem iteF{A B:Prop}(h:B):if false=true then A else B:=by
 rw[if_neg Bool.false_ne_true];exact h
theorem iteT{A B:Prop}(h:A):if true=true then A else B:=by
 rw[if_pos rfl];exact h
theorem ite2{c A B:Prop}[Decidable c](h1:c->A)(h2:¬c->B):if c then A else B:=by
 by_cases h:c
 ·rw[if_pos h]
  exact h1 h
 ·rw[if_neg h]
  exact h2 h
def Same(H H':Hp):Prop:=∀b o,H b=some o->H' b=some o
theorem Same.refl(H:Hp):Same H H:=λ_ _ h=>h
theorem Same.trans{H H1 H2:Hp}(a:Same H H1)(b:Same H1 H2):Same H H2:=λc o h=>b c o (a c o h)
theorem Same.seq{K:Fg}{H H':Hp}{a:Addr}{xs:List V}(e:Same H H')(h:SqL K H a xs):SqL K H' a xs:=by
 rcases h with(h |⟨o,h⟩) |h
 ·exact .inl (.inl (e _ _ h))
 ·exact .inl (.inr ⟨o,e _ _ h⟩)
 ·exact .inr h
def clOf(env:Env):List (Str×NameKind)->List (Str×Addr)->List (Str×Addr)
 |[],cs=>cs
 |(n,k)::r,cs=>clOf env r (if k == .free then match env.cells.lookup n with |some a=>(n,a)::cs |none=>cs else cs)
theorem xjt{env:Env}{x:Str}{c:Addr}:∀{ns:List (Str×NameKind)} {cs:List (Str×Addr)},(∀p∈cs,env.cells.lookup p.1=some p.2)->(clOf env ns cs).lookup x=some c->env.cells.lookup x=some c
 |[],cs,h,e=>by
  unfold clOf at e;exact h (x,c) (PySem.mem_of_lookup e)
 | (n,k)::r,cs,h,e=>by
  unfold clOf at e;refine xjt (ns:=r) ?_ e;intro p f;split at f
  ·split at f
   ·rename_i a g
    rcases zMC f with rfl |f
    ·exact g
    ·exact h p f
   ·exact h p f
  ·exact h p f
theorem xeg{x:Str}:∀{cs:List (Str×Addr)},(∃c,(x,c)∈cs)->∃c,cs.lookup x=some c
 |[],⟨_,h⟩=>nomatch h
 | (n,a)::r,⟨c,h⟩=>by
  rw[List.lookup_cons]
  cases e:x == n with
  |true=>exact⟨a,rfl⟩
  | false=>
   rcases zMC h with h |h
   ·cases h
    rw[beq_self_eq_true]at e;cases e
   ·exact xeg ⟨c,h⟩
theorem xl4{env:Env}{x:Str}:∀{ns:List (Str×NameKind)} {cs:List (Str×Addr)},((∃c,(x,c)∈cs)\/((x,NameKind.free)∈ns/\∃c,env.cells.lookup x=some c))->∃c,(x,c)∈clOf env ns cs
 |[],cs,h=>by
  unfold clOf;rcases h with h |⟨h,_⟩
  ·exact h
  ·cases h
 | (n,k)::r,cs,h=>by
  unfold clOf;refine xl4 (ns:=r) ?_;rcases h with⟨c,h⟩ |⟨h,c,a⟩
  ·refine .inl ⟨c,?_⟩
   split
   ·split
    ·exact List.mem_cons_of_mem _ h
    ·exact h
   ·exact h
  ·rcases zMC h with h |h
   ·cases h
    refine .inl ⟨c,?_⟩;rw[if_pos (by decide),a];exact List.mem_cons_self
   ·exact .inr ⟨h,c,a⟩
theorem xev{a:Scope}{env:Env}(h:∀p∈a.names,p.2=NameKind.free->∃c,env.cells.lookup p.1=some c):closureFor a env=pure (clOf env a.names []):=by
 have go:∀(ns:List (Str×NameKind)) (cs:List (Str×Addr)),(∀p∈ns,p.2=NameKind.free->∃c,env.cells.lookup p.1=some c)->
   (forIn ns cs λ(x:Str×NameKind) (r:List (Str×Addr))=>(if (x.2 == NameKind.free)=true then do
     let y <- cellOf env x.1
     pure (ForInStep.yield ((x.1,y)::r)) else pure (ForInStep.yield r):Sem (ForInStep (List (Str×Addr)))))=(pure (clOf env ns cs):Sem (List (Str×Addr))):=by
  intro ns
  induction ns with
  |nil=>intro cs _;rfl
  | cons p r g=>
   intro cs f;obtain⟨n,k⟩:=p;rw[List.forIn_cons];unfold clOf;by_cases i:k=NameKind.free
   ·subst i
    obtain⟨c,j⟩:=f (n,.free) List.mem_cons_self rfl;have m:cellOf env n=pure c:=by unfold cellOf;rw[j]
    simp only[beq_self_eq_true,if_true,m,j,pure_bind];exact g _ λq e=>f q (List.mem_cons_of_mem _ e)
   ·have l:(k == NameKind.free)=false:=by simpa using i
    simp only[l,Bool.false_eq_true,if_false,pure_bind];exact g _ λq e=>f q (List.mem_cons_of_mem _ e)
 unfold closureFor;have:=go a.names [] h;simp only[bind_pure_comp,id_map']at this⊢;rw[this];rfl
theorem xcx {env:Env} {x:Str} {k':NameKind}:∀{ns:List (Str×NameKind)},
  (ns.map λ(n,k)=>if (k == NameKind.free && env.scope.kind == .function && env.kindOf n == some .cell) then (n,NameKind.cell) else (n,k)).lookup x=some k'->
  ∃k,ns.lookup x=some k/\(k'=k\/(k=.free/\k'=.cell))
 |[],h=>by simp at h
 | (n,k)::r,h=>by
  have h':List.lookup x ((if (k == NameKind.free && env.scope.kind == .function && env.kindOf n == some .cell)=true then (n,NameKind.cell) else (n,k))::(r.map λ(n,k)=>if (k == NameKind.free && env.scope.kind == .function && env.kindOf n == some .cell) then (n,NameKind.cell) else (n,k)))=some k':=h;rw[List.lookup_cons];by_cases a:(k == NameKind.free && env.scope.kind == .function && env.kindOf n == some .cell)=true
  ·rw[if_pos a,List.lookup_cons]at h'
   cases e:x == n with
   |true=>
    rw[e]at h';cases h';refine⟨k,rfl,.inr ⟨?_,rfl⟩⟩;rw[Bool.and_eq_true,Bool.and_eq_true]at a;exact eq_of_beq a.1.1
   |false=>
    rw[e]at h';exact xcx h'
  ·rw[if_neg a,List.lookup_cons]at h'
   cases e:x == n with
   |true=>
    rw[e]at h';cases h';exact⟨_,rfl,.inl rfl⟩
   |false=>
    rw[e]at h';exact xcx h'
theorem xem {env:Env} {x:Str} {k:NameKind}:∀{ns:List (Str×NameKind)},ns.lookup x=some k->
  ∃k',(ns.map λ(n,k)=>if (k == NameKind.free && env.scope.kind == .function && env.kindOf n == some .cell) then (n,NameKind.cell) else (n,k)).lookup x=some k'/\(k'=k\/(k=.free/\k'=.cell))
 |[],h=>by simp at h
 | (n,c)::r,h=>by
  show ∃k',List.lookup x ((if (c == NameKind.free && env.scope.kind == .function && env.kindOf n == some .cell)=true then (n,NameKind.cell) else (n,c))::(r.map λ(n,k)=>if (k == NameKind.free && env.scope.kind == .function && env.kindOf n == some .cell) then (n,NameKind.cell) else (n,k)))=some k'/\_;rw[List.lookup_cons]at h;by_cases a:(c == NameKind.free && env.scope.kind == .function && env.kindOf n == some .cell)=true
  ·rw[if_pos a,List.lookup_cons]
   cases e:x == n with
   |true=>
    rw[e]at h;cases h;refine⟨_,rfl,.inr ⟨?_,rfl⟩⟩;rw[Bool.and_eq_true,Bool.and_eq_true]at a;exact eq_of_beq a.1.1
   |false=>
    rw[e]at h;exact xem h
  ·rw[if_neg a,List.lookup_cons]
   cases e:x == n with
   |true=>
    rw[e]at h;cases h;exact⟨_,rfl,.inl rfl⟩
   |false=>
    rw[e]at h;exact xem h
abbrev Cap:=List (Option Nat)
def capt(ix:Cap)(σ:St):St:=ix.map λo=>(o.bind λj=>σ[j]?).join
def xqs(N N':List Str)(sc sc':Scope)(ix:Cap):Bool:=
 (ix.length == N'.length) && (sc'.kind == .function) &&
 (sc'.names.all λp=>p.2 != .cell && (p.2 != .local || sc'.names.lookup p.1 == some .local) && (p.2 != .free || (sc.names.lookup p.1 == some .cell || sc.names.lookup p.1 == some .free))) &&
 (List.range ix.length).all λk=>match ix[k]? with
  |some (some j)=>match N'[k]? with
   |some x=>N[j]? == some x && sc'.names.lookup x == some .free
   |none=>false
  |_=>true
structure CapOk(N N':List Str)(sc sc':Scope)(ix:Cap):Prop where
 len:ix.length=N'.length
 kind:sc'.kind=.function
 nocell:∀p∈sc'.names,p.2≠.cell
 loc:∀p∈sc'.names,p.2=.local->sc'.names.lookup p.1=some .local
 fre:∀p∈sc'.names,p.2=.free->sc.names.lookup p.1=some .cell\/sc.names.lookup p.1=some .free
 cap:∀(k j:Nat),ix[k]?=some (some j)->∃x,N'[k]?=some x/\N[j]?=some x/\sc'.names.lookup x=some .free
theorem xl7{N i:List Str}{l a:Scope}{ix:Cap}(h:xqs N i l a ix=true):CapOk N i l a ix:=by
 unfold xqs at h;simp only[Bool.and_eq_true,List.all_eq_true,beq_iff_eq]at h;obtain⟨⟨⟨u,s⟩,g⟩,r⟩:=h;refine⟨u,s,λp c=>?_,λp c n=>?_,λp c o=>?_,λk j m=>?_⟩
 ·have:=(g p c).1.1
  simpa using this
 ·have:=(g p c).1.2
  rw[n]at this;simpa using this
 ·have:=(g p c).2
  rw[o]at this;simpa using this
 ·have f:k<ix.length:=(zES m).1
  have:=r k (List.mem_range.mpr f);rw[m]at this;simp only at this
  cases e:i[k]? with
  |none=>rw[e]at this;simp at this
  |some x=>
   rw[e]at this;simp only[Bool.and_eq_true,beq_iff_eq]at this;exact⟨x,rfl,this.1,this.2⟩
abbrev Cx.comp(X:Cx)(sc:Scope)(N':List Str)(C:Addr)(s₀:Shared)(H₀:Hp)(ex:List Addr):Cx:=
 {X with N:=N',s₀:=s₀,H₀:=H₀,env:=compEnvC sc (clOf X.env sc.names []) C X.env,outer:=X.stack,stack:=X.stack,ex:=ex,fn:=λ_=>false,pn:=[],xe:=λ_ _=>False}
def Ext(σ σ':St):Prop:=σ.length=σ'.length/\∀(i:Nat) v,σ[i]?=some (some v)->σ'[i]?=some (some v)
theorem xge{σ:St}{i:Nat}{v:Option V}(h:σ[i]?=some none):Ext σ (σ.set i v):=by
 refine⟨by simp,λj w e=>?_⟩;by_cases a:i=j
 ·subst a;rw[h]at e;cases e
 ·rw[List.getElem?_set_ne a];exact e
def PTs(X:Cx)(ifs:List Expr)(t:TT):Prop:=
 ∀(pins:List (Addr×Obj)) (s:Shared) (σ:St) (H:Hp) (Q:Bool->Hp->Prop),Inv X pins σ H s->t σ H Q->
  wpAny (model X.prog X.w) X.A (forIn ifs true λc r=>if r=true then do let ok <- isTrue c X.env (eval c X.env);pure (ForInStep.yield ok) else pure (ForInStep.yield r)) (TP X pins σ Q) X.xe s
def tYes:TT:=λ_ H Q=>Q true H
theorem xb1{X:Cx}:PTs X [] tYes:=λ_ _ _ H _ I h=>wpAny_tests_nil ⟨H,I,h⟩
theorem xdk{X:Cx}{c:Expr}{t:TT}(h:PT X c t):PTs X [c] t:=λa s σ H Q I e=>wpAny_tests_one (h a s σ H Q I e)
def xe7(J:It)(ix:Cap)(g:TG)(tt:TT)(te:TE)(σ:St)(H1:Hp)(Q:VK):Prop:=∃W:Nat->Nat->List V->Hp->Prop,(∃m,W 0 m [] H1)/\∀i m ys H,W i m ys H->
 (J.stop i H/\∀D,H D=none->Q (.ref D) (upd H D (.lst ys))) ∨
 (J.go i H/\ys.length<sizeLine/\∀x H',J.yld i H x H'->g x (capt ix σ) H' λσ2 H2=>Ext (capt ix σ) σ2/\tt σ2 H2 λb H3=>
  if b=true then te σ2 H3 λy H4=>∃m',m'<m/\W (i+1) m' (ys++[y]) H4 else ∃m',m'<m/\W (i+1) m' ys H3)
def xtg(ix:Cap)(wi:TI)(g:TG)(tt:TT)(te:TE):TE:=λσ H Q=>wi σ H λJ H1=>xe7 J ix g tt te σ H1 Q
theorem HOk.track{P:Program}{w:World}{H:Hp}{h:Heap}{a:Addr}{o:HO}(x:HOk P w H h)(hn:H a=none)(new:ObjOk P w (upd H a o) h a o):HOk P w (upd H a o) h:=λb u e=>by
 by_cases f:b=a
 ·subst f;rw[ups]at e;cases e;exact new
 ·rw[xad f]at e
  exact(x b u e).stay (λc v _ q=>q) (λc q=>by rw[xad (neN q hn)];exact q) λc xs q=>by rw[xad (neN q hn)];exact q
theorem xee {prog:Program} {w:World} {A:Around} {R:Result->Shared->Prop} {s:Shared} {l a i:Expr} {j:List Expr} {f:Scope} {pos:Pos} {it acc:Value} {env:Env} (I:Nat->Shared->Prop)
  (o:∀ n s,I n s->wpAny (model prog w) A (pyNext it) (λr y=>match r with
   |none=>R (.ok .next) y
   | some v=>wpAny (model prog w) A (letOwnedTupleGo a it v) (λ_ p=>wpAny (model prog w) A (assign a env v) (λ_ J=>
     wpAny (model prog w) A (forIn j true λc r=>if r=true then do let ok <- isTrue c env (eval c env);pure (ForInStep.yield ok) else pure (ForInStep.yield r)) (λok u=>
      if ok=true then wpAny (model prog w) A (eval l env) (λx G=>
       wpAny (model prog w) A (call (.builtin "list.append") [acc,x]) (λ_ C=>∃m,m<n/\I m C) (notedBy (model prog w) A env λe g=>R (.error e) g) G) (notedBy (model prog w) A env λe g=>R (.error e) g) u
      else ∃m,m<n/\I m u) (notedBy (model prog w) A env λe g=>R (.error e) g) J) (notedBy (model prog w) A env λe g=>R (.error e) g) p) (notedBy (model prog w) A env λe g=>R (.error e) g) y) (notedBy (model prog w) A env λe g=>R (.error e) g) s)
  (n:Nat) (h:I n s) :
  codeAny (model prog w) A (.compLoop (.ListComp l [⟨a,i,j,0⟩] f pos) 0 it acc env) R s:=by
 refine codeAny_loop rfl I (λn s Z=>?_) n h;show wpAny _ A ((compTurn (.ListComp l [⟨a,i,j,0⟩] f pos) 0 it acc env).onRaise (λx=>do noteFrame x env;theTreesLotGoes x)) _ _ s;refine wpAny_noted ?_;rw[compTurn_list];refine wpAny_bind (wpAny_standAt (wpAny_bind (wpAny_mono (o n s Z) (λr y h₁=>?_) λ_ _ h'=>h')))
 cases r with
 |none=>exact wpAny_pure h₁
 | some v=>
  refine wpAny_bind (wpAny_mono h₁ (λ_ p z=>?_) λ_ _ h'=>h');refine wpAny_bind (wpAny_mono z (λ_ J Y=>wpAny_bind (wpAny_mono Y (λok u M=>?_) λ_ _ h'=>h')) λ_ _ h'=>h')
  cases ok with
  |false=>exact wpAny_pure ⟨rfl,M⟩
  |true=>
   exact wpAny_bind (wpAny_bind (wpAny_mono M (λx G U=>wpAny_bind (wpAny_mono U (λ_ C O=>wpAny_pure (wpAny_pure ⟨rfl,O⟩)) λ_ _ h'=>h')) λ_ _ h'=>h'))
section
variable {X:Cx}
theorem xgu{M:Model}{A:Around}{α:Type}{t:Sem α}{Q:α->Shared->Prop}{E:Value->Shared->Prop}{s:Shared}(h:wpAny M A t Q (λ_ _=>False) s):wpAny M A t Q E s:=wpAny_mono h (λ_ _ q=>q) λ_ _ z=>z.elim
theorem xg0 {elt tg iter:Expr} {ifs:List Expr} {sc:Scope} {pos:Pos} {N':List Str} {ix:Cap} {g:TG} {tt:TT} {te:TE} {pins:List (Addr×Obj)} {σ:St} {s:Shared} {Q:VK} {RR:Value->Addr->Result->Shared->Prop} {E:Value->Shared->Prop}
  {itv:Value} (hc:X.calm=true) (ok:CapOk X.N N' X.env.scope sc ix)
  (hg:∀C s₀ H₀ ex,PG (X.comp sc N' C s₀ H₀ ex) tg g) (ht:∀C s₀ H₀ ex,PTs (X.comp sc N' C s₀ H₀ ex) ifs tt) (he:∀C s₀ H₀ ex,PE (X.comp sc N' C s₀ H₀ ex) elt te)
  (hi:PIE X pins σ tg (λJ H1=>xe7 J ix g tt te σ H1 Q) itv s)
  (fin:∀(D C:Addr) (s':Shared) (H':Hp) (m:Str->Option Value),Inv X pins σ H' s'->Q (.ref D) H'->s'.heap.Ns C m->H' C=none->C≠X.env.locals->X.s₀.heap.objs.size<=C->(∀x c,X.env.cells.lookup x=some c->c≠C)->(∀p∈X.pn++pins,p.1≠C)->
   RR (.ref D) C (.ok .next) s') :
  wpAny (model X.prog X.w) X.A (newList []) (λacc s₃=>wpAny (model X.prog X.w) X.A (newFunctionEnv sc X.env.globals (clOf X.env sc.names []) [] X.env.qual none .none (some X.env)) (λcenv s₄=>
   codeAny (model X.prog X.w) X.A (.compStart (.ListComp elt [⟨tg,iter,ifs,0⟩] sc pos) 0 itv acc {cenv with scope:=relabel sc X.env}) (RR acc cenv.locals) s₄) E s₃) E s:=by
 obtain⟨it,fp,tn,J,H2,rfl,I2,T,st2,f2,W,⟨m0,w0⟩,turn⟩:=hi;refine wpAny_newObj_type (wpAny_newFunctionEnv ok.nocell (by intro y hy;simp at hy) (λh₁ hns₁ hsb₁=>?_) ok.kind);dsimp only at hns₁ hsb₁⊢;generalize hHD:s.heap.push {cls:=.type "list",dict:=none,data:=.seq ([]:List Value).toArray}=hD at hns₁ hsb₁⊢;have hCs:hD.objs.size=s.heap.objs.size+1:=by rw[<- hHD,Heap.size_push]
 have upC:s.heap.objs.size<hD.objs.size:=by rw[hCs];exact Nat.lt_succ_self _
 have hDC:s.heap.objs.size≠hD.objs.size:=by rw[hCs];exact Nat.ne_of_lt (Nat.lt_succ_self _)
 have below:∀b o,s.heap.get? b=some o->b≠hD.objs.size/\b≠s.heap.objs.size:=λb o e=>by
  have:=Heap.lt_size e;exact⟨Nat.ne_of_lt (by rw[hCs];exact Nat.lt_succ_of_lt this),Nat.ne_of_lt this⟩
 have old:∀b o,s.heap.get? b=some o->h₁.get? b=some o:=λb o e=>hsb₁.extBut b o (below b o e).1 (zPO _ (hHD ▸ zPO _ e));have hacc:h₁.get? s.heap.objs.size=some {cls:=.type "list",data:=.seq ([]:List Value).toArray 0}:=hsb₁.extBut _ _ hDC (zPO _ (hHD ▸ Heap.get?_push_size _ rfl));have fpo:∀b∈fp,b<s.heap.objs.size:=λb hb=>let ⟨o,e,_⟩:=T.obj _ _ st2 b hb;Heap.lt_size e;have cellX:∀x c,(clOf X.env sc.names []).lookup x=some c->X.env.cells.lookup x=some c:=λx c e=>xjt (λp hp=>absurd hp (by simp)) e;have cellLt:∀x c,X.env.cells.lookup x=some c->c<s.heap.objs.size:=λx c e=>let ⟨v,z⟩:=I2.cell x c e;z.lt
 have hasC:∀x,(x,NameKind.free)∈sc.names->∃c,(clOf X.env sc.names []).lookup x=some c:=λx hx=>by
  have h1:=I2.ok.has x (ok.fre (x,.free) hx rfl);exact xeg (xl4 (.inr ⟨hx,h1⟩))
 have okX:(X.comp sc N' hD.objs.size s H2 fp).Ok:=by
  refine⟨I2.ok.mod,ok.kind,I2.ok.glob,I2.ok.blt,?_,?_,?_,?_,I2.ok.hd,I2.ok.frames,.inl rfl,?_,I2.bs,Nat.le_trans I2.ok.bsz I2.sz,?_,?_,I2.stack,I2.stkFree⟩
  ·exact Nat.le_of_lt upC
  ·intro x y c h1 h2
   exact I2.ok.inj x y c (cellX x c h1) (cellX y c h2)
  ·intro x hx
   have hx':(relabel sc X.env).names.lookup x=some .cell\/(relabel sc X.env).names.lookup x=some .free:=hx
   have:∃k,sc.names.lookup x=some k/\(k=.free\/k=.cell):=by
    rcases hx' with h |h
    ·obtain⟨k,e,z⟩:=xcx h
     rcases z with z |⟨z,_⟩
     ·exact⟨k,e,.inr z.symm⟩
     ·exact⟨k,e,.inl z⟩
    ·obtain⟨k,e,z⟩:=xcx h
     rcases z with z |⟨_,z⟩
     ·exact⟨k,e,.inl z.symm⟩
     ·cases z
   obtain⟨k,e,z⟩:=this;rcases z with rfl |rfl
   ·exact hasC x (PySem.mem_of_lookup e)
   ·exact absurd rfl (ok.nocell _ (PySem.mem_of_lookup e))
  ·intro x c h _
   cases h
  ·intro b hb
   refine⟨?_,λx c e=>(f2 b hb).2.2.2.2.1 x c (cellX x c e)⟩;exact Nat.ne_of_lt (by rw[hCs];exact Nat.lt_succ_of_lt (fpo b hb))
  ·intro b o e hb
   rcases(f2 b hb).2.2.2.1 with z |z
   ·exact I2.ok.noex b o e z
   ·exact absurd (Nat.lt_of_lt_of_le (Heap.lt_size (I2.ok.bs b o e).1) z) (Nat.lt_irrefl _)
  ·intro b hb z
   rcases zMC (I2.stkSub b z) with z |z
   ·exact(f2 b hb).2.1 z
   ·exact(f2 b hb).2.2.1 z
 have hnD:H2 s.heap.objs.size=none:=I2.hok.fresh (Nat.le_refl _);have hnC:H2 hD.objs.size=none:=I2.hok.fresh (Nat.le_of_lt upC)
 have nofsD:∀a,s.heap.objs.size<=a->a ∉frs X.stack:=λa ha z=>by
  rcases zMC (I2.stkSub a z) with z |z
  ·exact absurd (Nat.lt_of_lt_of_le I2.lt ha) (by rw[z];exact Nat.lt_irrefl _)
  ·exact I2.nofs ha z
 have xe9:Inv (X.comp sc N' hD.objs.size s H2 fp) [(s.heap.objs.size,{cls:=.type "list",data:=.seq ([]:List Value).toArray 0})] (capt ix σ) H2 {s with heap:=h₁,toks:=s.toks+([]:List (Str×Value)).length}:=by
  refine⟨okX,rfl,I2.bare,Un.kept old,⟨_,hns₁,?_⟩,λx c e=>?_,hnC,λx c e=>I2.freeC x c (cellX x c e),λp hp=>?_,I2.hok.kept old,?_⟩
  ·intro i x v hN hv hvis
   have hl:i<ix.length:=by rw[ok.len];exact(zES hN).1
   have hv':(ix.map λo=>(o.bind λj=>σ[j]?).join)[i]?=some (some v):=hv;rw[zGM,zGA hl]at hv';have hv'':((ix[i].bind λj=>σ[j]?).join)=some v:=Option.some.inj hv'
   cases ej:ix[i] with
   |none=>rw[ej]at hv'';cases hv''
   | some j=>
    rw[ej]at hv''
    have hσ:σ[j]?=some (some v):=by
     have z:(σ[j]?).join=some v:=hv''
     cases q:σ[j]? with
     |none=>rw[q]at z;cases z
     |some o=>rw[q]at z;exact congrArg some z
    obtain⟨x',e1,e2,e3⟩:=ok.cap i j (by rw[zGA hl,ej]);rw[show N'[i]?=some x from hN]at e1;cases e1;have hk:=ok.fre (x,.free) (PySem.mem_of_lookup e3) rfl;obtain⟨m,hm,hl'⟩:=I2.loc;obtain⟨u,ru,lk⟩:=hl' j x v e2 hσ (hk.elim (λz=>.inr (.inl z)) λz=>.inr (.inr z));refine⟨u,ru,.inr ⟨?_,?_⟩⟩
    ·show(relabel sc X.env).names.lookup x=some .cell\/(relabel sc X.env).names.lookup x=some .free
     obtain⟨k',q1,q2⟩:=xem (env:=X.env) e3;rcases q2 with q2 |⟨_,q2⟩
     ·exact .inr (q1.trans (congrArg some q2))
     ·exact .inl (q1.trans (congrArg some q2))
    ·obtain⟨c,hc'⟩:=hasC x (PySem.mem_of_lookup e3)
     refine⟨c,hc',?_⟩;rcases lk with⟨z,_⟩ |⟨_,c',ec,⟨o,ho,hd⟩⟩
     ·have z':X.env.scope.names.lookup x=some .local:=z
      rcases hk with hk |hk
      ·rw[z']at hk;cases hk
      ·rw[z']at hk;cases hk
     ·rw[cellX x c hc']at ec
      cases ec;exact⟨o,old _ _ ho,hd⟩
  ·obtain⟨v,o,ho,hd⟩:=I2.cell x c (cellX x c e)
   exact⟨v,o,old _ _ ho,hd⟩
  ·have e:p=(s.heap.objs.size,{cls:=.type "list",data:=.seq ([]:List Value).toArray 0}):=by simpa using hp
   subst e;exact⟨hacc,hnD,hDC,nofsD _ (Nat.le_refl _),λv z=>by cases z⟩
  ·show(ix.map _).length=N'.length
   rw[zLM];exact ok.len
 have st1:tn 0 h₁:=T.keep _ _ _ st2 λb hb o e=>old b o e
 have loop:∀s₃:Shared,s₃={s with heap:=h₁,toks:=s.toks+([]:List (Str×Value)).length}->
   codeAny (model X.prog X.w) X.A (.compLoop (.ListComp elt [⟨tg,iter,ifs,0⟩] sc pos) 0 (.ref it) (.ref s.heap.objs.size) (compEnvC sc (clOf X.env sc.names []) hD.objs.size X.env))
    (RR (.ref s.heap.objs.size) hD.objs.size) s₃:=by
  rintro s₃ rfl
  have fpI:∀{H':Hp} {o:Obj},(∀b∈fp,H' b=none)->∀b∈fp,FpOk (X.comp sc N' hD.objs.size s H2 fp) [(s.heap.objs.size,o)] H' b:=λ{H' o} hn b hb=>by
   have hlt:=fpo b hb;refine⟨hn b hb,(okX.exf b hb).1,okX.exfs b hb,.inl hb,(okX.exf b hb).2,λp hp=>?_⟩;have e:p=(s.heap.objs.size,o):=by simpa using hp
   subst e;exact Nat.ne_of_gt hlt
  refine xee (λn s'=>∃i ys its k H',Inv (X.comp sc N' hD.objs.size s H2 fp) [(s.heap.objs.size,{cls:=.type "list",data:=.seq its.toArray k})] (capt ix σ) H' s'/\Vals ys its/\ys.length<=sizeLine/\tn i s'.heap/\(∀b∈fp,H' b=none)/\W i n ys H')
   ?_ m0 ⟨0,[],[],0,H2,xe9,.nil,Nat.zero_le _,st1,λb hb=>(f2 b hb).1,w0⟩
  rintro n s4 ⟨i,ys,its,k,H4,I4,r4,z4,st4,fr4,w4⟩;rcases turn i n ys H4 w4 with⟨stop,q⟩ |⟨go,hz,step⟩
  ·refine xgu (thn (T.done (X.comp sc N' hD.objs.size s H2 fp) rfl rfl rfl hc i _ s4 _ H4 (λ_ _=>False) I4 (fpI fr4) st4 stop) λr s5 ⟨hr,I5⟩=>?_)
   subst hr;show RR (.ref s.heap.objs.size) hD.objs.size (.ok .next) s5;obtain⟨pD,nD,_,_,_⟩:=I5.pin (s.heap.objs.size,{cls:=.type "list",data:=.seq its.toArray k}) (by simp);obtain⟨m5,hm5,_⟩:=I5.loc;have okD:HOk X.prog X.w (upd H4 s.heap.objs.size (.lst ys)) s5.heap:=I5.hok.track nD ⟨z4,its,k,r4,pD⟩
   have un:Un (frs X.stack) fp H2 (upd H4 s.heap.objs.size (.lst ys)) s.heap s5.heap:=by
    have B:Un (frs X.stack) fp H2 H4 s.heap s5.heap:=I5.base;have ne:∀b u,H2 b=some u->b≠s.heap.objs.size:=λb u e=>neN e hnD;refine⟨B.keep,B.slot,λb o e n hb=>?_,B.there,λb xs e=>?_,λb o u e=>?_,λb ps e=>?_⟩
    ·rw[xad (below b o e).2];exact B.free b o e n hb
    ·rw[xad (ne b _ e)];exact B.tups b xs e
    ·rw[xad (ne b _ e)];exact B.frzs b o u e
    ·rw[xad (ne b _ e)];exact B.tbls b ps e
   have IX:Inv X pins σ (upd H4 s.heap.objs.size (.lst ys)) s5:=I2.call' (ch:=fp) I5.os un okD I5.bare λb hb=>⟨(f2 b hb).2.2.2.1,(f2 b hb).2.1,(f2 b hb).2.2.2.2.1,(f2 b hb).2.2.2.2.2⟩;refine fin _ _ s5 _ m5 IX (q _ nD) hm5 ?_ (Nat.ne_of_gt (Nat.lt_trans I2.lt upC)) (Nat.le_of_lt (Nat.lt_of_le_of_lt I2.sz upC)) (λx c e=>Nat.ne_of_lt (Nat.lt_trans (cellLt x c e) upC)) (λp hp=>Nat.ne_of_lt (Nat.lt_trans (Heap.lt_size (I2.pin p hp).1) upC));rw[xad (Ne.symm hDC)];exact I5.free
  ·refine xgu (thn (T.item (X.comp sc N' hD.objs.size s H2 fp) rfl rfl rfl hc i _ s4 _ H4 (λ_ _=>False) I4 (fpI fr4) st4 go) λr s5 ⟨u,hr,h5⟩=>?_)
   subst hr;refine xgu (thn h5 λ_ s6 ⟨x,H6,I6,r6,y6,st6,fr6⟩=>?_);have I6':=I6.pinned (fpI fr6) (T.obj _ _ st6);refine xgu (thn (hg _ _ _ _ _ s6 _ H6 x u _ I6' r6 (step x H6 y6)) λ_ s7 ⟨σ7,H7,I7,x7,q7⟩=>?_);refine xgu (thn (ht _ _ _ _ _ s7 σ7 H7 _ I7 q7) λb s8 ⟨H8,I8,q8⟩=>?_)
   have back:∀{s9:Shared} {H9:Hp},Inv (X.comp sc N' hD.objs.size s H2 fp) ([(s.heap.objs.size,{cls:=.type "list",data:=.seq its.toArray k})]++xij fp s6.heap) σ7 H9 s9->
     Inv (X.comp sc N' hD.objs.size s H2 fp) [(s.heap.objs.size,{cls:=.type "list",data:=.seq its.toArray k})] (capt ix σ) H9 s9/\tn (i+1) s9.heap/\(∀b∈fp,H9 b=none):=λ{s9 H9} J9=>by
    refine⟨(J9.unpinned).weak x7.1 x7.2,T.keep _ _ _ st6 λb hb o e=>(J9.pin (b,o) (List.mem_append_right _ (List.mem_append_right _ (xd9 hb e)))).1,λb hb=>?_⟩;obtain⟨o,e,d⟩:=T.obj _ _ st6 b hb;exact(J9.pin (b,o) (List.mem_append_right _ (List.mem_append_right _ (xd9 hb e)))).2.1
   cases b with
   |false=>
    rw[if_neg Bool.false_ne_true]at q8⊢;obtain⟨m',hm,w8⟩:=q8;obtain⟨J8,st8,fr8⟩:=back I8;exact⟨m',hm,i+1,ys,its,k,H8,J8,r4,z4,st8,fr8,w8⟩
   | true=>
    rw[if_pos rfl]at q8⊢;refine xgu (thn (he _ _ _ _ _ s8 σ7 H8 _ I8 q8) λy s9 ⟨v9,H9,I9,r9,q9⟩=>?_);obtain⟨m',hm,w9⟩:=q9;obtain⟨J9,st9,fr9⟩:=back I9;obtain⟨pD,nD,neC,nf,_⟩:=J9.pin (s.heap.objs.size,{cls:=.type "list",data:=.seq its.toArray k}) (by simp);have hlen:=r4.length;refine call_meets F.slot_list_append ⟨_,pD,rfl⟩ F.entry_list_append (F.args_list_append_2 _ _) (PySem.list_append s.heap.objs.size its.toArray k y (by rw[List.size_toArray];omega)) ⟨pD,?_⟩;have q:=PySem.IsL.update pD (·.push y);have ep:its.toArray.push y=(its++[y]).toArray:=by simp
    dsimp only at q;rw[ep]at q;obtain⟨k',q⟩:∃k',(s9.heap.update s.heap.objs.size (Obj.mapSeq (·.push y))).get? s.heap.objs.size=some {cls:=.type "list",data:=.seq (its++[y]).toArray k'}:=⟨_,q⟩;have J0:Inv (X.comp sc N' hD.objs.size s H2 fp) [] (capt ix σ) H9 s9:=J9.pins_of λp hp=>absurd hp (by simp)
    have J1:Inv (X.comp sc N' hD.objs.size s H2 fp) [] (capt ix σ) H9 {s9 with heap:=s9.heap.update s.heap.objs.size (Obj.mapSeq (·.push y))}:=
     J0.turned (it:=s.heap.objs.size) (t':=s9.toks) (λb o hb e=>(Heap.get?_update_other _ _ (Ne.symm hb)).trans e) nD neC (.inr (Nat.le_refl _)) (λx c e=>Nat.ne_of_lt (cellLt x c (cellX x c e))) λp hp=>absurd hp (by simp)
    refine⟨m',hm,i+1,ys++[v9],its++[y],k',H9,J1.pins_of λp hp=>?_,r4.append (.cons r9 .nil),?_,T.keep _ _ _ st9 λb hb o e=>(Heap.get?_update_other _ _ ?_).trans e,fr9,w9⟩
    ·have e:p=_:=zMO hp
     subst e;exact⟨q,nD,neC,nf,λv z=>by cases z⟩
    ·rw[zLA,List.length_singleton];omega
    ·exact Nat.ne_of_gt (fpo b hb)
 exact codeAny_compStart_list (loop _ rfl) (T.self _ 0 _ _ _ st1 (loop _ rfl))
theorem Inv.letGo {pins:List (Addr×Obj)} {σ:St} {H:Hp} {s:Shared} {C:Addr} {h':Heap} (I:Inv X pins σ H s) (hs:Heap.SameBut C s.heap h') (h0:H C=none) (h1:C≠X.env.locals) (h2:X.s₀.heap.objs.size<=C) (h3:∀x c,X.env.cells.lookup x=some c->c≠C)
  (h4:∀p∈X.pn++pins,p.1≠C):Inv X pins σ H {s with heap:=h'}:=I.turned (t':=s.toks) (λb o hb e=>(hs.2 b hb).trans e) h0 h1 (.inr h2) h3 h4
theorem xbt {elt tg iter:Expr} {ifs:List Expr} {sc:Scope} {pos:Pos} (N':List Str) (ix:Cap) {wi:TI} {g:TG} {tt:TT} {te:TE} (hc:X.calm=true) (hok:xqs X.N N' X.env.scope sc ix=true)
  (hi:PI X tg iter wi) (hg:∀C s₀ H₀ ex,PG (X.comp sc N' C s₀ H₀ ex) tg g) (ht:∀C s₀ H₀ ex,PTs (X.comp sc N' C s₀ H₀ ex) ifs tt) (he:∀C s₀ H₀ ex,PE (X.comp sc N' C s₀ H₀ ex) elt te)
  (hs:∀x,foldedSetIterable iter X.env x=pure x:=by intro _;rfl):PE X (.ListComp elt [⟨tg,iter,ifs,0⟩] sc pos) (xtg ix wi g tt te):=by
 intro pins s σ H Q I h;have ok:=xl7 hok;rw[eval_ListComp];refine wpAny_comprehension_free (use:=none) rfl hs (xev λp hp hk=>I.ok.has p.1 (ok.fre p hp hk)) ok.kind ok.loc (thn (hi pins s σ H _ I h) λv s1 h1=>thn h1 λitv s2 h2=>?_);refine xg0 (RR:=λacc C=>compPost (model X.prog X.w) X.A X.xe none (EP X pins σ Q) acc C) hc ok hg ht he h2 ?_;intro D C s' H' m I' q hm h0 h1 h2 h3 h4;exact⟨m,hm,λh' hsb=>⟨.ref D,H',I'.letGo hsb h0 h1 h2 h3 h4,rfl,q⟩⟩
theorem xc6 {elt tg iter:Expr} {ifs:List Expr} {sc:Scope} {pos spos py:Pos} {i:Nat} {y:Str} (N':List Str) (ix:Cap) {wi:TI} {g:TG} {tt:TT} {te:TE} (hc:X.calm=true) (hok:xqs X.N N' X.env.scope sc ix=true)
  (hN:X.N.Nodup) (hy:X.N[i]?=some y) (hx:Loc X.env.scope y)
  (hi:PI X tg iter wi) (hg:∀C s₀ H₀ ex,PG (X.comp sc N' C s₀ H₀ ex) tg g) (ht:∀C s₀ H₀ ex,PTs (X.comp sc N' C s₀ H₀ ex) ifs tt) (he:∀C s₀ H₀ ex,PE (X.comp sc N' C s₀ H₀ ex) elt te)
  (hs:∀x,foldedSetIterable iter X.env x=pure x:=by intro _;rfl) (hsw:swapsWith (.ListComp elt [⟨tg,iter,ifs,0⟩] sc pos) (some (.Name y py)) spos.line X.env=pure true:=by rfl)
  (hf:X.fn y=true\/X.env.scope.names.lookup y=some .local:=by first |exact .inl rfl |exact .inr rfl |assumption) :
  PS X (.Assign [.Name y py] (.ListComp elt [⟨tg,iter,ifs,0⟩] sc pos) spos) (tAsg (xtg ix wi g tt te) (xgc i)):=by
 intro pins s σ H D I h;have ok:=xl7 hok;rw[exec_Assign_Name_used _ _ _ _ hsw];refine wpAny_bind (wpAny_standAt (wpAny_bind ?_));show wpAny _ X.A (do let _ <- comprehension (.ListComp elt [⟨tg,iter,ifs,0⟩] sc pos) sc X.env _ (newList []) false (eval iter X.env) (some (assign (.Name y py) X.env))) _ _ s
 refine wpAny_bind (wpAny_mono (wpAny_comprehension_free (use:=some (assign (.Name y py) X.env)) (Q:=λ_ s'=>SP X pins D .next s') rfl hs (xev λp hp hk=>I.ok.has p.1 (ok.fre p hp hk)) ok.kind ok.loc
  (thn (hi pins s σ H _ I h) λv s1 h1=>thn h1 λitv s2 h2=>?_)) (λ_ s' hq=>wpAny_pure (wpAny_pure hq)) λ_ _ e=>e)
 refine xg0 (Q:=λx H1=>xgc i x σ H1 D.nx) (RR:=λacc C=>compPost (model X.prog X.w) X.A X.xe (some (assign (.Name y py) X.env)) (λ_ s'=>SP X pins D .next s') acc C) hc ok hg ht he h2 ?_;intro Dl C s' H' m I' q hm h0 h1 h2 h3 h4;refine wpAny_assign_Name (xh0 I' hN hy hx (v:=.ref Dl) rfl (λs3 I3 sb=>?_) hf);obtain⟨a,hsb,ha⟩:=sb
 have hne:C≠a:=by
  rcases ha with e |e
  ·rw[e];exact h1
  ·exact Ne.symm (h3 y a e)
 exact⟨m,hm.sameBut hsb hne,λh' hs'=>⟨_,H',I3.letGo hs' h0 h1 h2 h3 h4,q⟩⟩
end
section
variable {ix:Cap}{tt:TT}{te:TE}{g:TG}{σ:St}{H:Hp}{Q:VK}
def Nxt(Pv:Nat->List V->Hp->Prop)(n i:Nat)(ys:List V):VK:=λy H2=>∃m',m'<n-i/\m'=n-(i+1)/\i+1<=n/\(ys++[y]).length=i+1/\Pv (i+1) (ys++[y]) H2
theorem nxt{a:Nat->List V->Hp->Prop}{n i:Nat}{ys:List V}{y:V}{c:Hp}(hi:i<n)(e:ys.length=i)(h:a (i+1) (ys++[y]) c):Nxt a n i ys y c:=
 ⟨n-(i+1),by omega,rfl,hi,by rw[zLA,List.length_singleton,e],h⟩
theorem xec {lo:Int} {n j:Nat} (Pv:Nat->List V->Hp->Prop) (hj:(capt ix σ)[j]?=some none) (h0:Pv 0 [] H) (hn:n<sizeLine)
  (hs:∀i ys H,i<n->ys.length=i->Pv i ys H->te ((capt ix σ).set j (some (.int (lo+i)))) H (Nxt Pv n i ys))
  (hd:∀ys H,ys.length=n->Pv n ys H->∀D,H D=none->Q (.ref D) (upd H D (.lst ys))):xe7 (Itr lo n) ix (xgc j) tYes te σ H Q:=by
 refine⟨λi m ys H=>m=n-i/\i<=n/\ys.length=i/\Pv i ys H,⟨n,by simp,Nat.zero_le _,rfl,h0⟩,?_⟩;rintro i m ys H ⟨rfl,hi,hl,p⟩;by_cases hlt:i<n
 ·refine .inr ⟨hlt,by omega,λx H' y=>?_⟩
  obtain⟨e,y⟩:=y;subst e y;refine⟨xge hj,?_⟩;unfold tYes;dsimp only;rw[if_pos rfl];exact hs i ys _ hlt hl p
 ·have e:i=n:=by omega
  subst e;exact .inl ⟨Nat.le_refl _,hd ys H hl p⟩
theorem xjr {K:Fg} {a:Addr} {xs:List V} {j:Nat} (Pv:Nat->List V->Hp->Prop) (hj:(capt ix σ)[j]?=some none) (h0:Pv 0 [] H) (hn:xs.length<sizeLine) (hl':∀i ys H,i<=xs.length->Pv i ys H->SqL K H a xs)
  (hs:∀i x ys H,xs[i]?=some x->ys.length=i->Pv i ys H->te ((capt ix σ).set j (some x)) H (Nxt Pv xs.length i ys))
  (hd:∀ys H,ys.length=xs.length->Pv xs.length ys H->∀D,H D=none->Q (.ref D) (upd H D (.lst ys))):xe7 (Itl K a) ix (xgc j) tYes te σ H Q:=by
 refine⟨λi m ys H=>m=xs.length-i/\i<=xs.length/\ys.length=i/\Pv i ys H,⟨xs.length,by simp,Nat.zero_le _,rfl,h0⟩,?_⟩;rintro i m ys H ⟨rfl,hi,hl,p⟩;have q:=hl' i ys H hi p;by_cases hlt:i<xs.length
 ·refine .inr ⟨⟨xs,xs[i],q,by simp[hlt]⟩,by omega,λv H' y=>?_⟩
  obtain⟨e,y⟩:=y;subst e;refine⟨xge hj,?_⟩;unfold tYes;dsimp only;rw[if_pos rfl];exact hs i v ys _ (y xs q) hl p
 ·have e:i=xs.length:=by omega
  subst e;exact .inl ⟨⟨xs,q,Nat.le_refl _⟩,hd ys H hl p⟩
theorem xfp {K:Fg} {a:Addr} {xs:List V} {j:Nat} (c:Nat->List V->Hp->Prop) (l:(capt ix σ)[j]?=some none) (h0:c 0 [] H) (hn:xs.length<sizeLine) (g:∀i ys H,i<=xs.length->c i ys H->SqT K H a xs)
  (hs:∀i x ys H,xs[i]?=some x->ys.length=i->c i ys H->te ((capt ix σ).set j (some x)) H (Nxt c xs.length i ys))
  (hd:∀ys H,ys.length=xs.length->c xs.length ys H->∀D,H D=none->Q (.ref D) (upd H D (.lst ys))):xe7 (Itt K a) ix (xgc j) tYes te σ H Q:=by
 refine⟨λi m ys H=>m=xs.length-i/\i<=xs.length/\ys.length=i/\c i ys H,⟨xs.length,by simp,Nat.zero_le _,rfl,h0⟩,?_⟩;rintro i m ys H ⟨rfl,hi,h,p⟩;have q:=g i ys H hi p;by_cases f:i<xs.length
 ·refine .inr ⟨⟨xs,xs[i],q,by simp[f]⟩,by omega,λv n y=>?_⟩
  obtain⟨e,y⟩:=y;subst e;refine⟨xge l,?_⟩;unfold tYes;dsimp only;rw[if_pos rfl];exact hs i v ys _ (y xs q) h p
 ·have e:i=xs.length:=by omega
  subst e;exact .inl ⟨⟨xs,q,Nat.le_refl _⟩,hd ys H h p⟩
end
section
variable {X:Cx}
def xvx(i j:Int):Prop:=0<j/\j<2 ^ 64
theorem xch:OpR X (binaryOp .FloorDiv) (rI xvx λi j=>.int (i / j)):=opI λi j _ _ _ _ _ a q=>by
 have g:(0:Int)<j:=a.1;have f:j<2 ^ 64:=a.2;refine floordiv_int (by omega) (by rw[Int.fdiv_eq_ediv_of_nonneg i (by omega)];exact q) (.inl (PyProof.noPylong_of_log2 ?_));have c:j.natAbs<2 ^ 64:=by omega
 have h0:j.natAbs≠0:=by omega
 have e:j.natAbs.log2<64:=(Nat.log2_lt h0).mpr c;omega
theorem xmd{ys:List Str}:∀{us:List Value},Vals (ys.map V.str) us->StrsAre us ys:=by
 induction ys with
 |nil=>intro us r;rw[List.map_nil]at r;cases r;exact .nil
 | cons n ns f=>
  intro us r;rw[List.map_cons]at r
  cases r with
  |cons c a=>
   obtain⟨t,e⟩:=c;subst e;exact .cons n t (f a)
def xvh(K:Fg):V->List V->Hp->VK->Prop:=λx vs H Q=>∃(sep:Str) (p:Addr) (ys:List Str),x=.str sep/\vs=[.ref p]/\SqL K H p (ys.map V.str)/\(ys.map (·.length)).sum+ys.length*sep.length<=16777216/\Q (.str (Txt.join sep ys)) H
theorem xsm:MtR X "str.join" (xvh X.K):=by
 intro a s σ H x vs v us Q I e f h;obtain⟨c,p,ys,rfl,rfl,i,hz,q⟩:=h;obtain⟨t,rfl⟩:=e;obtain⟨u,rfl,g⟩:=f.one;cases g;obtain⟨its,r,pl,_⟩:=I.list i;exact join_list pl.isList (by simpa using xmd r) hz λt' k=>⟨.str _,H,I.tok k,⟨t',rfl⟩,q⟩
def rSlS:V->Option Int->Option Int->Hp->VK->Prop:=λx lo hi H Q=>∃z:Str,x=.str z/\z.length<=sizeLine/\Q (.str (Txt.slice z lo hi)) H
theorem xq2:SlR X rSlS:=by
 intro g s σ H x v J G C hi sl Q I y hs pl w h;obtain⟨z,rfl,hz,q⟩:=h;obtain⟨t,rfl⟩:=y;refine⟨"str",_,F.slot_str_getitem.lookup,typeIs_str _ _ _,?_⟩
 have n:∀(o:Str),o=Txt.slice z C hi->o.length<=sizeLine/\∀t' k,EP X g σ Q (.str o t') {s with toks:=k}:=λo e=>by
  subst e;exact⟨Nat.le_trans (Txt.slice_le z _ _) hz,λt' k=>⟨.str _,H,I.tok k,⟨t',rfl⟩,q⟩⟩
 obtain⟨m,a,f,c⟩:=hs
 cases pl with
 |none=>
  cases w with
  |none=>exact wpAny_getItem_str_slice (l:=none) (u:=none) (st:=none) ⟨m,a,f,c⟩ rfl (post_val_or_str (n _ rfl))
  |int j p=>exact wpAny_getItem_str_slice (l:=none) (u:=some (j,p)) (st:=none) ⟨m,a,f,c⟩ rfl (post_val_or_str (n _ rfl))
 |int i r=>
  cases w with
  |none=>exact wpAny_getItem_str_slice (l:=some (i,r)) (u:=none) (st:=none) ⟨m,a,f,c⟩ rfl (post_val_or_str (n _ rfl))
  |int j p=>exact wpAny_getItem_str_slice (l:=some (i,r)) (u:=some (j,p)) (st:=none) ⟨m,a,f,c⟩ rfl (post_val_or_str (n _ rfl))
theorem xds:xef X (.builtin "isinstance") (λxs H Q=>∃x y c t b,xs=[x,y]/\(∀u,RelV y u->u=c)/\TyOf X.K H x t/\PySem.W.kitOne X.K t c=some b/\Q (.bl b) H):=by
 intro a s σ H xs us Q I r h;obtain⟨x,y,c,t,b,rfl,l,f,e,q⟩:=h;obtain⟨u,v,rfl,j,i⟩:=r.two;obtain rfl:=l v i;exact xoo I j f e λg=>⟨.bl b,H,I.tok g,rfl,q⟩
end
def SameBut(a:Addr)(H H':Hp):Prop:=∀b o,H b=some o->b≠a->H' b=some o
theorem SameBut.refl(a:Addr)(H:Hp):SameBut a H H:=λ_ _ h _=>h
theorem SameBut.trans{a:Addr}{H f c:Hp}(h:SameBut a H f)(k:SameBut a f c):SameBut a H c:=λb o e n=>k b o (h b o e n) n
theorem SameBut.upd(a:Addr)(H:Hp)(o:HO):SameBut a H (upd H a o):=λb u e n=>by rw[xad n];exact e
theorem Same.but{a:Addr}{H c:Hp}(h:Same H c):SameBut a H c:=λb o e _=>h b o e
theorem Same.new{H:Hp}{p:Addr}(h:H p=none)(o:HO):Same H (upd H p o):=λb u q=>by rw[xad (neN q h)];exact q
theorem xaf{H a:Hp}{p:Addr}(h:Same H a)(n:a p=none):H p=none:=by
 cases e:H p with
 |none=>rfl
 |some o=>rw[h p o e]at n;cases n
structure DefTx(K:Fg)(mg:Str->Option Value)(x:Str)(st:Stmt)(ps:List Str):Prop where
 ex:∃(f:Addr) (fd:FuncData),Fun K x x st f fd/\mg x=some (.ref f)/\∀us:List Value,us.length=ps.length->bindArgs fd ⟨us,[]⟩=pure (ps.zip us)
structure DefIs(P:Program)(w:World)(K:Fg)(mg:Str->Option Value)(base:Heap)(n:Nat)(x:Str)(ps:List Str)(sp:Sp):Prop where
 ex:∃(f:Addr) (fd:FuncData),FnOk P w K mg base CX0 n f fd ps sp/\Binds K fd ps []/\PySem.W.keepIn K (.ref f)=true/\mg x=some (.ref f)/\∃oc od osl,K.lookup f=some ⟨oc,od,.func fd,osl⟩
theorem xos{K:Fg}{x:Str}{st:Stmt}{f:Addr}{e:FuncData}(F:Fun K x x st f e):∃c od a,K.lookup f=some ⟨c,od,.func e,a⟩:=by
 obtain⟨c,od,kV,g,i,j,h,ct,a,_,l,_⟩:=F.ex;exact⟨c,od,a,l⟩
section
variable {P:Program}{w:World}{K:Fg}{mg:Str->Option Value}{base:Heap}{n m:Nat}{x:Str}{ps N:List Str}{sp:Sp}{st:Stmt}
theorem DefIs.mono(D:DefIs P w K a base n x ps sp)(h:n<=m):DefIs P w K a base m x ps sp:=by
 obtain⟨f,c,F,r⟩:=D.ex;exact⟨f,c,F.mono h,r⟩
theorem DefIs.imp{a:Sp}(D:DefIs P w K c base n x ps sp)(h:∀vs H Q E,a vs H Q E->sp vs H Q E):DefIs P w K c base n x ps a:=by
 obtain⟨f,e,F,r⟩:=D.ex;exact⟨f,e,F.imp h,r⟩
theorem DefIs.of (T:DefTx K e x st ps) (S:FnScope N ps (xae st)) (len:∀vs H Q E,sp vs H Q E->vs.length=ps.length)
  (c:∀(f:Addr) (a:Value) (A:Around) (outer:List Env) (s:Shared) (H:Hp) (vs:List V) (Q:VK) (E:XK),Room n (A.deeper (envOfC x (xae st) s.heap.objs.size f a))->sp vs H Q E->
   ∃t,PSs (cxOf CX0 P w K e base N x (xae st) f a A outer s H E).nox (xco st) t/\t {nx:=λ_ j=>Q .non j,rt:=Q} (xe9 N vs) H):DefIs P w K e base (n+1) x ps sp:=by
 obtain⟨f,i,F,m,b⟩:=T.ex;exact⟨f,i,F.ok S len (λa A outer s H vs Q E g h=>c f a A outer s H vs Q E g h),Binds.all b,F.kp,m,xos F⟩
theorem DefIs.none(T:DefTx K a x st ps)(no:∀vs H Q E,¬sp vs H Q E):DefIs P w K a base n x ps sp:=by
 obtain⟨f,c,F,m,b⟩:=T.ex;exact⟨f,c,⟨λvs H Q E h=>absurd h (no vs H Q E),λA outer s H args us vs Q E _ _ _ _ h=>absurd h (no vs H Q E)⟩,Binds.all b,F.kp,m,xos F⟩
end
section
variable {X:Cx}{n:Nat}{x:Str}{ps:List Str}{sp:Sp}{e:Expr}{es:List Expr}{p pos:Pos}{t:TA}
theorem pd (D:DefIs X.prog X.w X.K X.mg X.base n x ps sp) (g:Room n X.A) (j:PA X (e::es) t) (h:Gl X x:=by rfl) (c:(x == ("__debug__":Str))=false:=by decide)
  (i:starEach (e::es) X.env=(false,eval e X.env)::starEach es X.env:=by rfl) (a:(backTo pos (starEach es X.env)).any (·.1)=false:=by rfl):PE X (.Call (.Name x p) (e::es) [] pos) (xth sp [] E0 t):=by
 obtain⟨f,l,F,b,k,m,_⟩:=D.ex;exact xr9 F g h m k b .nil xsb j c i a
theorem xkk{i:Int}(hm:∃t,X.mg x=some (.int i t))(hg:Gl X x:=by rfl)(hd:(x == ("__debug__":Str))=false:=by decide):PE X (.Name x pos) (tC (.int i)):=by
 obtain⟨t,h⟩:=hm;exact xr7 hg h ⟨t,rfl⟩ hd
theorem xli{T:String}(c:X.mg x=none)(a:bootBuiltins x=some (.type T))(e:Gl X x:=by rfl)(hn:x≠"__name__":=by decide)(hd:(x == ("__debug__":Str))=false:=by decide):PE X (.Name x pos) (tC (.ty T)):=xsa e c a rfl hn hd
end
def Fed(a:Addr)(H H':Hp):Prop:=SameBut a H H'/\∃p q:Int,H' a=some (.lst [.int p,.int q])
theorem Fed.trans{a:Addr}{H e c:Hp}(h:Fed a H e)(k:Fed a e c):Fed a H c:=⟨h.1.trans k.1,k.2⟩
theorem Fed.of{a:Addr}{H:Hp}{p q:Int}:Fed a H (upd H a (.lst [.int p,.int q])):=⟨SameBut.upd a H _,p,q,ups⟩
theorem Fed.refl{a:Addr}{H:Hp}{p q:Int}(h:H a=some (.lst [.int p,.int q])):Fed a H H:=⟨SameBut.refl a H,p,q,h⟩
theorem Fed.same{a:Addr}{H f c:Hp}(h:Fed a H f)(s:Same f c):Fed a H c:=by
 obtain⟨k,p,q,e⟩:=h;exact⟨k.trans s.but,p,q,s _ _ e⟩
theorem Fed.back{a:Addr}{H H0 H':Hp}(n:H a=none)(s:Same H H0)(h:Fed a H0 H'):Same H H':=λb o e=>h.1 b o (s b o e) (neN e n)
theorem deftx_mk {K:Fg} {h:Heap} {n:Str->Option Value} (X:K.In h) (G:h.Ns mainGlobals n) {x:Str} {st:Stmt} {ps:List Str} {f:Addr} {o:Value} {od j:Option Addr} {m:Array (Option Value)} {kV g i e ct:Value}
  (a:PySem.W.nsIn K mainGlobals x=some (some (.ref f))) (l:K.lookup f=some ⟨o,od,.func (PySem.W.fnOf x x (xc5 st) (xco st) (xae st) .none kV g i j e ct),m⟩)
  (c:PySem.W.codeIn K e x=true) (k:PySem.W.keepIn K (.ref f)=true)
  (b:∀(kV g i:Value) (j:Option Addr) (e ct:Value) (us:List Value),us.length=ps.length->bindArgs (PySem.W.fnOf x x (xc5 st) (xco st) (xae st) .none kV g i j e ct) ⟨us,[]⟩=pure (ps.zip us)):DefTx K n x st ps:=by
 have F:=xul (st:=st) l c k;exact⟨f,_,F,PySem.W.mg_of X G a,b kV g i j e ct⟩
theorem law_top {P:Program} {w:World} {K:Fg} {mg:Str->Option Value} {n:Nat} {x y:Str} {st:Stmt} {sp:Sp} {fa:Addr} (T:DefTx K mg x st [y]) (hmg:mg x=some (.ref fa)) (D:∀base,DefIs P w K mg base n x [y] sp) :
  ∃fd:FuncData,(∀(s:Shared) (u:Value),BindsTo s fd ⟨[u],[]⟩ [(y,u)])/\∀base:Heap,K.In base->base.Ns mainGlobals mg->FnOk P w K mg base CX0 n fa fd [y] sp:=by
 obtain⟨f,fd,F,m,b⟩:=T.ex;rw[hmg]at m;cases m;refine⟨fd,λs u=>.of_eq (b [u] rfl),λbase _ _=>?_⟩;obtain⟨f',fd',G,_,_,m',oc,od,osl,l⟩:=(D base).ex;rw[hmg]at m';cases m';obtain⟨oc2,od2,osl2,l2⟩:=xos F;rw[l]at l2;cases l2;exact G
theorem gint_mk{K:Fg}{h:Heap}{c:Str->Option Value}(X:K.In h)(G:h.Ns mainGlobals c){x:Str}{i:Int}{t:Tok}(a:PySem.W.nsIn K mainGlobals x=some (some (.int i t))):∃t,c x=some (.int i t):=⟨t,PySem.W.mg_of X G a⟩
abbrev TJ:=St->Hp->Str->VK->Prop
def PJ(X:Cx)(es:List Expr)(t:TJ):Prop:=
 ∀(pins:List (Addr×Obj)) (s:Shared) (σ:St) (H:Hp) (out:Str) (Q:VK),Inv X pins σ H s->t σ H out Q->wpAny (model X.prog X.w) X.A (joinParts out (evalEach es X.env)) (EP X pins σ Q) X.xe s
section
variable {es:List Expr}{env:Env}
theorem so{c k p}:starEach (.Constant c k p::es) env=(false,eval (.Constant c k p) env)::starEach es env:=rfl
theorem zsn{x p}:starEach (.Name x p::es) env=(false,eval (.Name x p) env)::starEach es env:=rfl
theorem zsc{a b c d}:starEach (.Call a b c d::es) env=(false,eval (.Call a b c d) env)::starEach es env:=rfl
theorem xa3{a b c d}:starEach (.BinOp a b c d::es) env=(false,eval (.BinOp a b c d) env)::starEach es env:=rfl
theorem ss{a b c}:starEach (.Subscript a b c::es) env=(false,eval (.Subscript a b c) env)::starEach es env:=rfl
theorem sT{a b c}:starEach (.Tuple a b c::es) env=(false,eval (.Tuple a b c) env)::starEach es env:=rfl
theorem xpf{a b}:starEach (.List a b::es) env=(false,eval (.List a b) env)::starEach es env:=rfl
theorem xfh{a b c d}:starEach (.Compare a b c d::es) env=(false,eval (.Compare a b c d) env)::starEach es env:=rfl
theorem xm4{a b c}:starEach (.BoolOp a b c::es) env=(false,eval (.BoolOp a b c) env)::starEach es env:=rfl
theorem xbz{a b c d}:starEach (.ListComp a b c d::es) env=(false,eval (.ListComp a b c d) env)::starEach es env:=rfl
theorem xpg{a b c d}:starEach (.IfExp a b c d::es) env=(false,eval (.IfExp a b c d) env)::starEach es env:=rfl
theorem xcl{a b c}:starEach (.Attribute a b c::es) env=(false,eval (.Attribute a b c) env)::starEach es env:=rfl
end
end L2
end
section
namespace M
open PySem
inductive D where
 |int (i:Int)
 |str (x:Str)
 |tup (ds:List D)
inductive All2{α β:Type}(R:α->β->Prop):List α->List β->Prop where
 |nil:All2 R [] []
 |cons {a b as bs} (h:R a b) (t:All2 R as bs):All2 R (a::as) (b::bs)
theorem All2.length{α β:Type}{R:α->β->Prop}{as:List α}{bs:List β}(h:All2 R as bs):as.length=bs.length:=by
 induction h with
 |nil=>rfl
 |cons _ _ a=>simp[a]
theorem All2.imp{α β:Type}{R S:α->β->Prop}{as:List α}{bs:List β}(h:All2 R as bs)(f:∀a b,R a b->S a b):All2 S as bs:=by
 induction h with
 |nil=>exact .nil
 |cons h _ c=>exact .cons (f _ _ h) c
theorem All2.get{α β:Type}{R:α->β->Prop}{as:List α}{bs:List β}(h:All2 R as bs):∀{i:Nat} {a:α},as[i]?=some a->∃b,bs[i]?=some b/\R a b:=by
 induction h with
 |nil=>intro i a e;simp at e
 |cons h _ c=>
  intro i a e
  cases i with
  |zero=>simp at e;subst e;exact⟨_,by simp,h⟩
  |succ i=>simpa using c (i:=i) (a:=a) (by simpa using e)
def S(s:String):Str:=Str.ofString s
def xet(c:Nat):Bool:=97<=c && c<=122
def xqa(x:List Nat):Bool:=1<=x.length && x.length<=6 && x.all xet && x != [110,117,109] && x != [105,116]
def Name(x:Str):Prop:=xqa x.cps.toList=true
def L(x:Str):List Nat:=x.cps.toList
def ofL(l:List Nat):Str:=⟨l.toArray⟩
theorem xd1(l:List Nat):L (ofL l)=l:=rfl
theorem xt9(x:Str):ofL (L x)=x:=by
 cases x;rfl
theorem xpb{x y:Str}(h:L x=L y):x=y:=by
 rw[<- xt9 x,<- xt9 y,h]
theorem xed(x y:Str):L (x++y)=L x++L y:=by
 show(x.cps++y.cps).toList=_;simp[L]
theorem xex(x:Str):(L x).length=x.length:=by
 simp[L,Str.length]
end M
end
section
namespace M
open PySem L2
mutual
def RelD(H:Hp):V->D->Prop
 |v,.int i=>v=.int i
 |v,.str x=>v=.str x
 |v,.tup ds=>∃a vs,v=.ref a/\H a=some (.tup vs)/\RelDs H vs ds
def RelDs(H:Hp):List V->List D->Prop
 |vs,[]=>vs=[]
 |vs,d::ds=>∃v r,vs=v::r/\RelD H v d/\RelDs H r ds
end
mutual
theorem RelD.same{H H':Hp}(s:Same H H'):∀{v:V} (d:D),RelD H v d->RelD H' v d
 |v,.int i,h=>h
 |v,.str x,h=>h
 |v,.tup ds,⟨a,vs,e,ha,h⟩=>⟨a,vs,e,s _ _ ha,RelDs.same s ds h⟩
theorem RelDs.same{H H':Hp}(s:Same H H'):∀{vs:List V} (ds:List D),RelDs H vs ds->RelDs H' vs ds
 |vs,[],h=>h
 |vs,d::ds,⟨v,r,e,h1,h2⟩=>⟨v,r,e,RelD.same s d h1,RelDs.same s ds h2⟩
end
theorem RelDs.length{H:Hp}:∀{vs:List V} {ds:List D},RelDs H vs ds->vs.length=ds.length
 |vs,[],h=>by rw[show vs=[] from h];rfl
 |vs,d::ds,⟨v,r,e,_,a⟩=>by rw[e,List.length_cons,List.length_cons,RelDs.length a]
theorem RelDs.append{H:Hp}:∀{vs us:List V} {ds es:List D},RelDs H vs ds->RelDs H us es->RelDs H (vs++us) (ds++es)
 |vs,us,[],es,h,k=>by rw[show vs=[] from h];exact k
 |vs,us,d::ds,es,⟨v,r,e,c,a⟩,k=>by subst e;exact⟨v,r++us,rfl,c,RelDs.append a k⟩
theorem RelDs.get{H:Hp}:∀{vs:List V} {ds:List D} {i:Nat} {v:V},RelDs H vs ds->vs[i]?=some v->∃d,ds[i]?=some d/\RelD H v d
 |vs,[],i,v,h,e=>by rw[show vs=[] from h]at e;simp at e
 |vs,d::ds,0,v,⟨u,r,a,j,_⟩,e=>by
  subst a;simp at e;subst e;exact⟨d,rfl,j⟩
 |vs,d::ds,i+1,v,⟨u,r,a,_,g⟩,e=>by
  subst a;obtain⟨x,c,f⟩:=RelDs.get (i:=i) (v:=v) g (by simpa using e);exact⟨x,by simpa using c,f⟩
theorem iteKF{c A B:Prop}[Decidable c](h:decide c=false)(b:B):if decide c=true then A else B:=by
 rw[h];exact b
theorem iteKT{c A B:Prop}[Decidable c](h:decide c=true)(a:A):if decide c=true then A else B:=by
 rw[h];exact a
mutual
theorem RelD.tups{H H':Hp}(s:∀b vs,H b=some (.tup vs)->H' b=some (.tup vs)):∀{v:V} (d:D),RelD H v d->RelD H' v d
 |v,.int i,h=>h
 |v,.str x,h=>h
 |v,.tup ds,⟨a,vs,e,ha,h⟩=>⟨a,vs,e,s _ _ ha,RelDs.tups s ds h⟩
theorem RelDs.tups{H H':Hp}(s:∀b vs,H b=some (.tup vs)->H' b=some (.tup vs)):∀{vs:List V} (ds:List D),RelDs H vs ds->RelDs H' vs ds
 |vs,[],h=>h
 |vs,d::ds,⟨v,r,e,h1,h2⟩=>⟨v,r,e,RelD.tups s d h1,RelDs.tups s ds h2⟩
end
theorem xah{a:Addr}{H c:Hp}(g:∃p q:Int,H a=some (.lst [.int p,.int q]))(f:Fed a H c):∀b vs,H b=some (.tup vs)->c b=some (.tup vs):=λb vs e=>f.1 b _ e λz=>by
 obtain⟨p,q,h⟩:=g;rw[z,h]at e;cases e
def xc9(c:Nat):Str:=⟨#[c]⟩
theorem xjc:∀cs:List Nat,Txt.join (S "") (cs.map xc9)=ofL cs:=by
 have h:∀cs:List Nat,L (Str.join (S "") (cs.map xc9))=cs:=by
  intro cs
  induction cs with
  |nil=>rfl
  | cons c r a=>
   cases r with
   |nil=>rfl
   |cons d r=>
    show L (xc9 c++S ""++Str.join (S "") ((d::r).map xc9))=_;rw[xed,xed,a];have e:L (S "")=[]:=by walk_at"k"
    rw[e];rfl
 intro cs;apply xpb;show L (Builtin.Str.glued (S "") (cs.map xc9))=cs;rw[StrLaws.glued_eq_join,h]
theorem xj8(cs:List Nat):((cs.map xc9).map (·.length)).sum=cs.length:=by
 induction cs with
 |nil=>rfl
 |cons c r a=>
  show(xc9 c).length+((r.map xc9).map (·.length)).sum=r.length+1;rw[a,show(xc9 c).length=1 from rfl];omega
theorem xl8{α:Type}{cs:List α}{r:Int}(h0:0<=r)(h:r<(cs.length:Int)):∃c∈cs,atI cs r=some c:=by
 have a:r.toNat<cs.length:=by omega
 have e:r=((r.toNat:Nat):Int):=by omega
 refine⟨cs[r.toNat],List.getElem_mem a,?_⟩;have q:atI cs ((r.toNat:Nat):Int)=some cs[r.toNat]:=xa2 (zGA a);rw[<- e]at q;exact q
end M
end
section
namespace L2
open PySem PySem.Spec PyProof.Rows
section
variable {κ:Type}[DecidableEq κ]
def valV(kvs:List (κ×V))(k:κ):Option V:=(kvs.find? λkv=>decide (kv.1=k)).map (·.2)
def putK(kvs:List (κ×V))(k:κ)(v:V):List (κ×V):=
 if (kvs.any λkv=>decide (kv.1=k))=true then kvs.map (λkv=>if kv.1=k then (kv.1,v) else kv) else kvs++[(k,v)]
theorem xbp{p:κ×V}{r:List (κ×V)}{k:κ}(e:p.1=k):valV (p::r) k=some p.2:=by simp[valV,List.find?_cons,e]
theorem xa0{p:κ×V}{r:List (κ×V)}{k:κ}(e:¬p.1=k):valV (p::r) k=valV r k:=by simp[valV,List.find?_cons,e]
theorem xdi(k:κ):∀kvs:List (κ×V),(kvs.any λa=>decide (a.1=k))=(valV kvs k).isSome
 |[]=>rfl
 |p::r=>by
  rw[List.any_cons];by_cases e:p.1=k
  ·simp only[xbp e,zDT e,Bool.true_or,Option.isSome_some]
  ·rw[xa0 e,zDF e,Bool.false_or];exact xdi k r
theorem xk9(k j:κ)(y:V):∀kvs:List (κ×V),valV (kvs.map λa=>if a.1=k then (a.1,y) else a) j=(valV kvs j).map λx=>if j=k then y else x
 |[]=>rfl
 | p::r=>by
  have c:=xk9 k j y r;rw[List.map_cons];by_cases h:p.1=k
  ·rw[if_pos h]
   by_cases e:p.1=j
   ·rw[xbp (p:=(p.1,y)) e,xbp e,Option.map_some,if_pos (e.symm.trans h)]
   ·rw[xa0 (p:=(p.1,y)) e,xa0 e,c]
  ·rw[if_neg h]
   by_cases e:p.1=j
   ·rw[xbp (p:=p) e,xbp e,Option.map_some,if_neg (λz=>h (e.trans z))]
   ·rw[xa0 (p:=p) e,xa0 e,c]
theorem xhx(k j:κ)(y:V):∀kvs:List (κ×V),valV kvs k=none->valV (kvs++[(k,y)]) j=if j=k then some y else valV kvs j
 |[],_=>by
  by_cases e:k=j
  ·rw[if_pos e.symm];exact xbp (p:=(k,y)) e
  ·rw[if_neg (λz=>e z.symm)];exact xa0 (p:=(k,y)) e
 |p::r,hn=>by
  rw[List.cons_append];have a:¬p.1=k:=λz=>by rw[xbp z]at hn;cases hn
  rw[xa0 a]at hn;have c:=xhx k j y r hn;by_cases e:p.1=j
  ·rw[xbp e,xbp e,if_neg (λz=>a (e.trans z))]
  ·rw[xa0 e,xa0 e,c]
theorem xg5(kvs:List (κ×V))(k j:κ)(y:V):valV (putK kvs k y) j=if j=k then some y else valV kvs j:=by
 unfold putK;by_cases a:(kvs.any λc=>decide (c.1=k))=true
 ·rw[if_pos a,xk9]
  rw[xdi]at a;by_cases e:j=k
  ·obtain⟨x,f⟩:=Option.isSome_iff_exists.mp a
   rw[if_pos e,e,f,Option.map_some,if_pos rfl]
  ·rw[if_neg e]
   cases valV kvs j with
   |none=>rfl
   |some x=>rw[Option.map_some,if_neg e]
 ·rw[if_neg a]
  refine xhx k j y kvs ?_;rw[xdi]at a
  cases q:valV kvs k with
  |none=>rfl
  |some x=>rw[q]at a;exact(a rfl).elim
theorem xdo(kvs:List (κ×V))(k:κ)(v:V):(putK kvs k v).length<=kvs.length+1:=by
 unfold putK;split
 ·rw[zLM];omega
 ·rw[zLA,List.length_cons,List.length_nil];omega
theorem xhg{kvs:List (κ×V)}{k:κ}(v:V)(h:valV kvs k=none):putK kvs k v=kvs++[(k,v)]:=by
 unfold putK;rw[xdi,h];exact if_neg (by decide)
theorem RelO.isSome_eq{o:Option V}{u:Option Value}(r:RelO o u):o.isSome=u.isSome:=by
 cases o with
 |none=>cases u with
  |none=>rfl
  |some _=>exact(show False from r).elim
 |some _=>cases u with
  |none=>exact(show False from r).elim
  |some _=>rfl
theorem RelO.getD{o:Option V}{u:Option Value}{d:V}{d':Value}(r:RelO o u)(rd:RelV d d'):RelV (o.getD d) (u.getD d'):=by
 cases o with
 |none=>cases u with
  |none=>exact rd
  |some _=>exact(show False from r).elim
 |some _=>cases u with
  |none=>exact(show False from r).elim
  |some _=>exact r
theorem KV.val{kvs:List (κ×V)}{vs:List (κ×Value)}(r:KV kvs vs)(k:κ):RelO (valV kvs k) (valueAt vs k):=by
 unfold KV at r
 induction r with
 |nil=>exact True.intro
 | @cons p q ps qs h t ih=>
  obtain⟨h1,h2⟩:=h;by_cases e:p.1=k
  ·have e':q.1=k:=h1.symm.trans e
   have b:valueAt (q::qs) k=some q.2:=by simp[valueAt,List.find?_cons,e']
   rw[xbp e,b];exact h2
  ·have e':¬q.1=k:=λz=>e (h1.trans z)
   have b:valueAt (q::qs) k=valueAt qs k:=by simp[valueAt,List.find?_cons,e']
   rw[xa0 e,b];exact ih
theorem KV.any{kvs:List (κ×V)}{vs:List (κ×Value)}(r:KV kvs vs)(k:κ):(kvs.any λa=>decide (a.1=k))=vs.any λa=>decide (a.1=k):=by
 unfold KV at r
 induction r with
 |nil=>rfl
 |cons h t c=>rw[List.any_cons,List.any_cons,c,h.1]
theorem KV.repl {kvs:List (κ×V)} {vs:List (κ×Value)} (r:KV kvs vs) (k:κ) {y:V} {u:Value} (f:RelV y u) :
  KV (kvs.map λa=>if a.1=k then (a.1,y) else a) (vs.map λa=>if a.1=k then (a.1,u) else a):=by
 unfold KV at r⊢
 induction r with
 |nil=>exact .nil
 |@cons p q ps j h t g=>
  rw[List.map_cons,List.map_cons];refine .cons ?_ g;obtain⟨c,i⟩:=h;by_cases e:p.1=k
  ·rw[if_pos e,if_pos (c.symm.trans e)];exact⟨c,f⟩
  ·rw[if_neg e,if_neg (λz=>e (c.trans z))];exact⟨c,i⟩
theorem KV.put{kvs:List (κ×V)}{vs:List (κ×Value)}(r:KV kvs vs)(k:κ){y:V}{u:Value}(a:RelV y u):KV (putK kvs k y) (stored vs k u):=by
 unfold putK stored;rw[r.any k];by_cases e:(vs.any λc=>decide (c.1=k))=true
 ·rw[if_pos e,if_pos e];exact r.repl k a
 ·rw[if_neg e,if_neg e];exact Paired.snoc r ⟨rfl,a⟩
theorem KV.length{kvs:List (κ×V)}{vs:List (κ×Value)}(r:KV kvs vs):kvs.length=vs.length:=Paired.length r
end
theorem xmq{P:Program}{w:World}{k:Key}{u:Value}(r:RelV (kV k) u):(xbq P w).is k u=true:=by
 cases k with
 |inl i=>obtain⟨t,e⟩:=(show ∃t,u=Value.int i t from r);subst e;exact xkv P w i t
 |inr x=>obtain⟨t,e⟩:=(show ∃t,u=Value.str x t from r);subst e;exact xku P w x t
theorem xjd{P:Program}{w:World}:∀{ks:List Key} {us:List Value},Vals (ks.map kV) us->ItemsAre (xbq P w) ks us
 |[],_,r=>by rw[List.map_nil]at r;cases r;exact .nil
 |k::ks,_,r=>by
  rw[List.map_cons]at r
  cases r with
  |cons h t=>exact .cons (xmq h) (xjd t)
abbrev KT(H:Hp):List (List Key×V)->List (List Key×Addr×Value)->Prop:=Paired λp q=>p.1=q.1/\H q.2.1=some (.tup (p.1.map kV))/\RelV p.2 q.2.2
theorem KT.val{H:Hp}{kvs:List (List Key×V)}{xs:List (List Key×Addr×Value)}(r:KT H kvs xs)(k:List Key):RelO (valV kvs k) ((atKey xs k).map (·.2)):=by
 induction r with
 |nil=>exact True.intro
 | @cons p q ps a h t g=>
  obtain⟨f,_,i⟩:=h;by_cases e:p.1=k
  ·have c:q.1=k:=f.symm.trans e
   have b:atKey (q::a) k=some q.2:=by simp[atKey,List.find?_cons,c]
   rw[xbp e,b];exact i
  ·have c:¬q.1=k:=λz=>e (f.trans z)
   have b:atKey (q::a) k=atKey a k:=by simp[atKey,List.find?_cons,c]
   rw[xa0 e,b];exact g
theorem KT.repl {H:Hp} {kvs:List (List Key×V)} {xs:List (List Key×Addr×Value)} (r:KT H kvs xs) (k:List Key) {y:V} {u:Value} (g:RelV y u) :
  KT H (kvs.map λc=>if c.1=k then (c.1,y) else c) (xs.map (putAt k u)):=by
 induction r with
 |nil=>exact .nil
 |@cons p q ps l h t i=>
  rw[List.map_cons,List.map_cons];refine .cons ?_ i;obtain⟨a,f,j⟩:=h;unfold putAt;by_cases e:p.1=k
  ·rw[if_pos e,if_pos (a.symm.trans e)];exact⟨a,f,g⟩
  ·rw[if_neg e,if_neg (λz=>e (a.trans z))];exact⟨a,f,j⟩
theorem KT.put {H:Hp} {kvs:List (List Key×V)} {xs:List (List Key×Addr×Value)} (r:KT H kvs xs) (k:List Key) {b:Addr} {y:V} {u:Value} (f:H b=some (.tup (k.map kV))) (a:RelV y u) :
  KT H (putK kvs k y) (storedH xs k b u):=by
 have e:(kvs.any λc=>decide (c.1=k))=(atKey xs k).isSome:=by
  rw[xdi,(r.val k).isSome_eq,Option.isSome_map]
 unfold putK storedH;rw[e];by_cases q:(atKey xs k).isSome=true
 ·rw[if_pos q,if_pos q];exact r.repl k a
 ·rw[if_neg q,if_neg q];exact Paired.snoc r ⟨rfl,f,a⟩
theorem KT.keeps{H a:Hp}{kvs:List (List Key×V)}{xs:List (List Key×Addr×Value)}(r:KT H kvs xs)(c:∀b ys,H b=some (.tup ys)->a b=some (.tup ys)):KT a kvs xs:=
 Paired.mapP r λ_ _ z=>⟨z.1,c _ _ z.2.1,z.2.2⟩
section
variable {P:Program}{w:World}{H:Hp}{h:Heap}{a:Addr}
theorem xts{u:HO}(ok:HOk P w H h)(e:Rd H a u):ObjOk P w H h a u:=e.ok ok
theorem xmt{kvs:List (Key×V)}(ok:HOk P w H h)(e:Rd H a (.dK kvs)):kvs.length<=sizeLine/\(a == sysModules)=false/\∃vs,KV kvs vs/\h.DictOf (xbq P w) a vs:=
 show ObjOk P w H h a (.dK kvs) from xts ok e
theorem xjo{kvs:List (Key×V)}(ok:HOk P w H h)(e:H a=some (.dK kvs)):kvs.length<=sizeLine/\(a == sysModules)=false/\∃vs,KV kvs vs/\h.DictOf (xbq P w) a vs:=xmt ok (.inl e)
theorem xls{ks:List Key}(ok:HOk P w H h)(e:H a=some (.tup (ks.map kV))):(tupleKind (xbq P w)).is h ks a:=by
 obtain⟨_,its,r,o,h1,h2,n,h3,_⟩:=(show ObjOk P w H h a (.tup (ks.map kV)) from ok a _ e);exact⟨o,its.toArray,n,h1,h2,h3,by simpa using xjd r⟩
theorem xoz {kvs:List (List Key×V)} (ok:HOk P w H h) (e:Rd H a (.dT kvs)):kvs.length<=sizeLine/\(a == sysModules)=false ∧
  ∃xs,KT H kvs xs/\h.DictOfH (tupleKind (xbq P w)) a xs:=by
 obtain⟨z,y,xs,r,o,es,ep,u,s,n,j,i⟩:=(show ObjOk P w H h a (.dT kvs) from xts ok e);refine⟨z,y,xs,r,o,es,ep,u,s,n,j,λx c=>?_,i⟩
 have all:∀{l:List (List Key×V)} {m:List (List Key×Addr×Value)},KT H l m->∀x∈m,(tupleKind (xbq P w)).is h x.1 x.2.1:=by
  intro l m q
  induction q with
  |nil=>intro x c;exact nomatch c
  | @cons p q ps C f t g=>
   intro x c;rcases zMC c with e |c
   ·subst e
    exact xls ok (by rw[<- f.1];exact f.2.1)
   ·exact g x c
 exact all r x c
theorem xvs {kvs:List (List Key×V)} (ok:HOk P w H h) (e:H a=some (.dT kvs)):kvs.length<=sizeLine/\(a == sysModules)=false ∧
  ∃xs,KT H kvs xs/\h.DictOfH (tupleKind (xbq P w)) a xs:=xoz ok (.inl e)
end
def DGet(H:Hp)(a:Addr)(y:V)(r:Option V):Prop:=
 (∃kvs k,Rd H a (.dK kvs)/\y=kV k/\r=valV kvs k)\/∃kvs k b,Rd H a (.dT kvs)/\y=.ref b/\H b=some (.tup (k.map kV))/\r=valV kvs k
def DPut(H:Hp)(a:Addr)(y v:V)(H':Hp):Prop:=
 (∃kvs k,H a=some (.dK kvs)/\y=kV k/\kvs.length<sizeLine/\H'=upd H a (.dK (putK kvs k v))) ∨
 ∃kvs k b,H a=some (.dT kvs)/\y=.ref b/\H b=some (.tup (k.map kV))/\kvs.length<sizeLine/\H'=upd H a (.dT (putK kvs k v))
theorem DGet.k{H:Hp}{a:Addr}{kvs:List (Key×V)}{k:Key}(e:H a=some (.dK kvs)):DGet H a (kV k) (valV kvs k):=.inl ⟨kvs,k,.inl e,rfl,rfl⟩
theorem DPut.k{H:Hp}{a:Addr}{kvs:List (Key×V)}{k:Key}{v:V}(e:H a=some (.dK kvs))(c:kvs.length<sizeLine):DPut H a (kV k) v (upd H a (.dK (putK kvs k v))):=.inl ⟨kvs,k,e,rfl,c,rfl⟩
section
variable {X:Cx}{pins:List (Addr×Obj)}{σ:St}{H:Hp}{s:Shared}{a:Addr}{y v:V}{u r:Value}{o:Option V}{A:Around}{E:Value->Shared->Prop}
theorem Inv.big(I:Inv X pins σ H s):sysModules<s.heap.objs.size:=by
 have h:mainGlobals<s.heap.objs.size:=(I.mod.glob.keeps I.bk).lt;exact Nat.lt_trans (by decide) h
theorem xo4 {Q:Value->Shared->Prop} (hu:A.units+1<cLine) (I:Inv X pins σ H s) (g:DGet H a y (some v)) (ry:RelV y u) (h:∀w' s',Inv X pins σ H s'->RelV v w'->Q w' s') :
  wpAny (model X.prog X.w) A (getItem (.ref a) u) Q E s:=by
 rcases g with⟨kvs,k,e,ey,l⟩ |⟨kvs,k,b,e,ey,eb,l⟩
 ·subst ey
  obtain⟨z,hd,vs,rel,dd⟩:=xmt I.hok e;obtain⟨w',hw,rw'⟩:=RelO.some_of (v:=v) (o:=valueAt vs k) (by rw[l];exact rel.val k);exact wpAny_getItem_of (xmq ry) dd.mapOf hw (h w' _ (I.tok _) rw')
 ·subst ey
  cases (show u=Value.ref b from ry);obtain⟨z,hd,xs,rel,dd⟩:=xoz I.hok e;obtain⟨w',hw,rw'⟩:=RelO.some_of (v:=v) (o:=(atKey xs k).map (·.2)) (by rw[l];exact rel.val k);obtain⟨p,hp,hp2⟩:=zMS hw;refine wpAny_getItem_heap (tupleKind_room_in1 hu) (xls I.hok eb) dd hp ?_;rw[hp2];exact h w' _ (I.tok _) rw'
theorem xht {h':Heap} {t':Nat} {ob:HO} (I:Inv X pins σ H s) (mu:Mut (H a)) (hs:Heap.SameBut a s.heap h') (he:∃q,h'.get? a=some q) (new:ObjOk X.prog X.w (upd H a ob) h' a ob) :
  Inv X pins σ (upd H a ob) {s with heap:=h',toks:=t'}:=
 I.write (x:=a) (e:=a) mu (.inl rfl) (λb q hb z=>(hs.2 b hb).trans z) he new
theorem xjp {P:Program} {w:World} {f:Hp} {h':Heap} {kvs:List (Key×V)} {vs:List (Key×Value)} (z:kvs.length<=sizeLine) (hd:(a == sysModules)=false) (c:KV kvs vs) (e:h'.DictOf (xbq P w) a vs) :
  ObjOk P w f h' a (.dK kvs):=⟨z,hd,vs,c,e⟩
theorem xo3 {H':Hp} {Q:Unit->Shared->Prop} (hu:A.units+1<cLine) (I:Inv X pins σ H s) (g:DPut H a y v H') (ry:RelV y u) (rv:RelV v r) (h:∀s',Inv X pins σ H' s'->Q () s') :
  wpAny (model X.prog X.w) A (setItem (.ref a) u r) Q E s:=by
 rcases g with⟨kvs,k,e,ey,l,eH⟩ |⟨kvs,k,b,e,ey,eb,l,eH⟩
 ·subst ey eH
  obtain⟨z,hd,vs,rel,dd⟩:=xjo I.hok e;have hz:vs.length<=sizeLine:=by rw[<- rel.length];exact z
  have hl:(putK kvs k v).length<=sizeLine:=by have:=xdo kvs k v;omega
  refine wpAny_setItem_pairs (hsz:=hz) (xmq ry) dd λh' dd' hs=>h _ ?_;have he:∃q,h'.get? a=some q:=let ⟨q,_,_,hq,_⟩:=dd';⟨q,hq⟩;exact xht I (by rw[e];exact True.intro) hs he (xjp hl hd (rel.put k rv) dd')
 ·subst ey eH
  cases (show u=Value.ref b from ry);obtain⟨z,hd,xs,rel,dd⟩:=xvs I.hok e;have hz:xs.length<=sizeLine:=by rw[<- Paired.length rel];exact z
  have hl:(putK kvs k v).length<=sizeLine:=by have:=xdo kvs k v;omega
  refine wpAny_setItem_heap (hsz:=hz) (tupleKind_room_in1 hu) (xls I.hok eb) dd λh' dd' hs=>h _ ?_;obtain⟨q,es,ep,hq,h2,h3,h4,_,h5⟩:=dd';refine xht I (by rw[e];exact True.intro) hs ⟨q,hq⟩ ⟨hl,hd,_,(rel.put k eb rv).keeps λc ys ec=>?_,q,es,ep,hq,h2,h3,h4,h5⟩;rw[xad (xvl ec e (λz=>nomatch z))];exact ec
end
def NoSl(i:Expr):Prop:=∀ov iv,subscripted i false ov iv=operate [ov,iv] (getItem ov iv)
theorem xrt {prog:Program} {w:World} {A:Around} {E:Value->Shared->Prop} {s:Shared} {env:Env} {value a:Expr} {pos:Pos} {T id:String} {Q:Value->Shared->Prop}
  (m:typeLookup (.type T) "__getitem__"=pure (some (.builtin id))) (hs:NoSl a)
  (h:wpAny (model prog w) A (eval value env) (λo g=>wpAny (model prog w) A (eval a env) (λi c=>c.TypeIs o T/\wpAny (model prog w) A (getItem o i) Q E c) E g) E s) :
  wpAny (model prog w) A (eval (.Subscript value a pos) env) Q E s:=by
 refine Subscript_ (wpAny_mono h (λo g h₁=>wpAny_mono h₁ (λi c e=>?_) λ_ _ x=>x) λ_ _ x=>x);obtain⟨j,e⟩:=e;unfold subscriptTail;refine wpAny_bind ?_;rw[getitemInPython_of_ne j.not_modules];refine wpAny_bind (wpAny_specialOf j m ?_)
 have fin:wpAny (model prog w) A (subscripted a false o i) (λr f=>wpAny (model prog w) A (letTemporaryGo value o r >>= λ_=>pure r) Q E f) E c:=by
  rw[hs o i];exact wpAny_operating (wpAny_mono e (λr f l=>wpAny_bind (wpAny_letTemporaryGo (wpAny_pure l))) λ_ _ x=>x)
 first
  |exact wpAny_pure (wpAny_bind fin)
  |exact wpAny_bind (wpAny_pure (wpAny_bind fin))
  |exact wpAny_bind fin
theorem xk2{X:Cx}{pins:List (Addr×Obj)}{σ:St}{H:Hp}{s:Shared}{a:Addr}{y:V}{o:Option V}(I:Inv X pins σ H s)(g:DGet H a y o):s.TypeIs (.ref a) "dict":=by
 rcases g with⟨kvs,k,e,_,_⟩ |⟨kvs,k,b,e,_,_,_⟩
 ·obtain⟨_,_,vs,_,c⟩:=xmt I.hok e
  exact c.typeIs
 ·obtain⟨_,_,xs,_,c⟩:=xoz I.hok e
  exact c.typeIs
def xu9(td ty:TE):TE:=λσ H Q=>td σ H λx H1=>ty σ H1 λy H2=>∃a v,x=.ref a/\DGet H2 a y (some v)/\Q v H2
def xvf(td ty tv:TE):TS:=λD σ H=>tv σ H λv H1=>td σ H1 λx H2=>ty σ H2 λy H3=>∃a H4,x=.ref a/\DPut H3 a y v H4/\D.nx σ H4
section
variable {X:Cx}{o i e value:Expr}{pos pos' tpos:Pos}{td ty tv:TE}
theorem xbf(p:X.A.units+1<cLine)(r:PE X o td)(hi:PE X i ty)(hs:NoSl i):PE X (.Subscript o i pos) (xu9 td ty):=by
 intro pins s σ H Q I h;refine xrt PySem.F.slot_dict_getitem.lookup hs (thn (r pins s σ H _ I h) λu f ⟨x,G,z,l,n⟩=>thn (hi pins f σ G _ z n) λU O ⟨y,C,e,j,a,v,ex,g,m⟩=>?_);subst ex;obtain rfl:u=Value.ref a:=l;exact⟨xk2 e g,xo4 p e g j λJ M w c=>⟨v,C,w,c,m⟩⟩
theorem xdb (z:X.A.units+1<cLine) (C:PE X o td) (hi:PE X i ty) (w:PE X value tv) (hs:swapsWith value (some (.Subscript o i pos')) pos.line X.env=pure false) :
  PS X (.Assign [.Subscript o i pos'] value pos) (xvf td ty tv):=by
 intro pins s σ H D I h;refine wpAny_Assign_Subscript (thn (w pins s σ H _ I h) λr e ⟨v,Z,O,l,p⟩=>thn (C pins e σ Z _ O p) λu c ⟨x,Y,M,j,n⟩=>thn (hi pins c σ Y _ M n) λiv s3 ⟨y,H3,J,f,a,U,ex,g,m⟩=>?_) hs;subst ex;obtain rfl:u=Value.ref a:=j;exact xo3 z J g f l λs4 G=>⟨σ,U,G,m⟩
end
theorem xl1{P:Program}{w:World}{H:Hp}(h:Heap)(a:sysModules<h.objs.size):ObjOk P w H (h.push {cls:=.type "dict",data:=.dict #[]}) h.objs.size (.dK []):=
 ⟨Nat.zero_le _,beq_eq_false_iff_ne.mpr (Ne.symm (Nat.ne_of_lt a)),[],.nil,Heap.DictOf.new h⟩
def xte:TE:=λ_ H Q=>∀p,H p=none->Q (.ref p) (upd H p (.dK []))
section
variable {X:Cx}{pos:Pos}
theorem xhi:PE X (.Dict [] [] pos) xte:=λpins s σ H Q I h=>
 wpAny_Dict_empty ⟨.ref s.heap.objs.size,_,I.laid (a:=s.heap.objs.size) (o:=.dK []) (t':=s.toks) (λ_ _ q=>zPO _ q) (Nat.le_refl _) (xl1 s.heap I.big),rfl,h _ (I.hok.fresh (Nat.le_refl _))⟩
end
def xm2:List (TE×TE)->St->Hp->(List (V×V)->Hp->Prop)->Prop
 |[],_,H,Q=>Q [] H
 |(tk,tv)::r,σ,H,Q=>tk σ H λx H1=>tv σ H1 λy H2=>xm2 r σ H2 λps H3=>Q ((x,y)::ps) H3
abbrev VV:List (V×V)->List (Value×Value)->Prop:=Paired λp q=>RelV p.1 q.1/\RelV p.2 q.2
def PPs(X:Cx)(pos:Pos)(keys:List (Option Expr))(values:List Expr)(trs:List (TE×TE)):Prop:=
 ∀(pins:List (Addr×Obj)) (s:Shared) (σ:St) (H:Hp) (Q:List (V×V)->Hp->Prop),Inv X pins σ H s->xm2 trs σ H Q->
  wpAny (model X.prog X.w) X.A (evalPairs (pairTrees keys values X.env pos)) (λvs s'=>∃ps H',Inv X pins σ H' s'/\VV ps vs/\Q ps H') X.xe s
theorem xr3{X:Cx}{pos:Pos}:PPs X pos [] [] []:=λpins s σ H Q I h=>pairTrees_nil_walk ⟨[],H,I,.nil,h⟩
theorem xd6 {X:Cx} {pos:Pos} {k v:Expr} {ks:List (Option Expr)} {vs:List Expr} {e tv:TE} {a:List (TE×TE)} (r:PE X k e) (o:PE X v tv) (p:PPs X pos ks vs a) :
  PPs X pos (some k::ks) (v::vs) ((e,tv)::a):=λpins s σ H Q I h=>
 pairTrees_cons_walk (thn (r pins s σ H _ I h) λu g ⟨x,M,C,j,n⟩=>thn (o pins g σ M _ C n) λO f ⟨y,J,z,i,m⟩=>
  thn (p pins f σ J _ z m) λws U ⟨ps,G,w,c,l⟩=>⟨(x,y)::ps,G,w,.cons ⟨j,i⟩ c,l⟩)
def xcu(kvs more:List (Key×V)):List (Key×V):=more.foldl (λacc kv=>putK acc kv.1 kv.2) kvs
theorem KV.merge:∀{more:List (Key×V)} {rs:List (Key×Value)} {kvs:List (Key×V)} {vs:List (Key×Value)},KV more rs->KV kvs vs->KV (xcu kvs more) (merged vs rs):=by
 intro more rs kvs vs r;unfold KV at r
 induction r generalizing kvs vs with
 |nil=>intro q;exact q
 | @cons p q ps f h t c=>
  intro a
  have e:KV (putK kvs p.1 p.2) (stored vs q.1 q.2):=by
   have:=a.put p.1 h.2;rw[<- h.1];exact this
  exact c e
theorem xdp:∀(more kvs:List (Key×V)),(xcu kvs more).length<=kvs.length+more.length
 |[],kvs=>by show kvs.length<=kvs.length+0;omega
 |p::r,kvs=>by
  have c:=xdp r (putK kvs p.1 p.2);have a:=xdo kvs p.1 p.2;show(xcu (putK kvs p.1 p.2) r).length<=_;rw[List.length_cons];omega
theorem xg1{P:Program}{w:World}:∀{kvs:List (Key×V)} {ws:List (Value×Value)},VV (kvs.map λe=>(kV e.1,e.2)) ws->∃rs,Carries (xbq P w) ws rs/\KV kvs rs
 |[],_,r=>by rw[List.map_nil]at r;cases r;exact⟨[],True.intro,.nil⟩
 | p::kvs,_,r=>by
  rw[List.map_cons]at r
  cases r with
  |@cons a b as bs h t=>
   obtain⟨rs,c,q⟩:=xg1 (P:=P) (w:=w) t;obtain⟨g,f⟩:=b;exact⟨(p.1,f)::rs,⟨xmq h.1,rfl,c⟩,.cons ⟨rfl,h.2⟩ q⟩
def xu8(trs:List (TE×TE)):TE:=λσ H Q=>∀p,H p=none->xm2 trs σ (upd H p (.dK [])) λps H2=>H2 p=some (.dK [])/\∃kvs:List (Key×V),ps=kvs.map (λkv=>(kV kv.1,kv.2))/\kvs.length<=15/\Q (.ref p) (upd H2 p (.dK (xcu [] kvs)))
theorem xr8 {X:Cx} {pos:Pos} {keys:List (Option Expr)} {f:List Expr} {g:List (TE×TE)} (h:PPs X pos keys f g) (i:keys.all (·.isSome)=true) (C:keys.length=f.length) (h0:keys≠[])
  (m:keys.length<=15):PE X (.Dict keys f pos) (xu8 g):=by
 intro pins s σ H Q I q;have hn:=I.hok.fresh (Nat.le_refl s.heap.objs.size);have O:=I.laid (a:=s.heap.objs.size) (o:=.dK []) (h':=s.heap.push {cls:=.type "dict",data:=.dict #[]}) (t':=s.toks) (λ_ _ q=>zPO _ q) (Nat.le_refl _) (xl1 s.heap I.big);refine wpAny_Dict_walk (knd:=xbq X.prog X.w) i C h0 m (thn (h pins _ σ _ _ O (q _ hn)) λws U ⟨ps,Z,n,l,e,kvs,ep,Y,x⟩=>?_);subst ep;obtain⟨rs,c,r⟩:=xg1 (P:=X.prog) (w:=X.w) l;obtain⟨z,hd,p,u,M⟩:=xjo n.hok e;cases u;refine⟨rs,c,M,λh' j hs=>⟨.ref s.heap.objs.size,_,?_,rfl,x⟩⟩
 have hz:(xcu [] kvs).length<=sizeLine:=by
  have J:=xdp kvs [];rw[List.length_nil]at J;rw[sizeLine_eq];omega
 have G:∃q,h'.get? s.heap.objs.size=some q:=let ⟨q,_,_,y,_⟩:=j;⟨q,y⟩;exact xht n (by rw[e];exact True.intro) hs G (xjp hz hd (r.merge .nil) j)
structure M2(X:Cx)(o:Expr)(m:Str)(apos:Pos)(e f:Expr)(cpos:Pos):Prop where
 base:attributeBase o m X.env (eval o X.env)=eval o X.env
 few:((backTo cpos (starEach [e,f] X.env)).all (λx=>!x.1) && (backToKw cpos (keywordEach [] X.env)).all (λx=>x.1.isSome)
  && decide (([e,f]:List Expr).length+([]:List Keyword).length+(if ([]:List Keyword).isEmpty then 0 else 1)<30))=true
 line:(apos.endLine == cpos.line)=true
 trees:backTo cpos (starEach [e,f] X.env)=[(false,eval e X.env),(false,eval f X.env)]
def IsD(H:Hp)(a:Addr):Prop:=(∃kvs,Rd H a (.dK kvs))\/∃kvs,Rd H a (.dT kvs)
theorem xje {X:Cx} {pins:List (Addr×Obj)} {σ:St} {H:Hp} {s:Shared} {a:Addr} (I:Inv X pins σ H s) (d:IsD H a) :
  s.TypeIs (.ref a) "dict"/\(∀b,Value.ref a=.ref b->∃c,s.heap.get? b=some c/\c.dict=none)/\(a == sysModules)=false:=by
 rcases d with⟨kvs,e⟩ |⟨kvs,e⟩
 ·obtain⟨_,hd,vs,_,f⟩:=xmt I.hok e
  refine⟨f.typeIs,λb q=>?_,hd⟩;cases q;obtain⟨c,_,_,h,g,_⟩:=f;exact⟨c,h,g.2.1⟩
 ·obtain⟨_,hd,xs,_,f⟩:=xoz I.hok e
  refine⟨f.typeIs,λb q=>?_,hd⟩;cases q;obtain⟨c,_,_,h,g,_⟩:=f;exact⟨c,h,g.2.1⟩
section
variable {X:Cx}{pins:List (Addr×Obj)}{σ:St}{H:Hp}{s:Shared}{a:Addr}{y d:V}{u r:Value}{o:Option V}{A:Around}{E:Value->Shared->Prop}
theorem xur {Q:Value->Shared->Prop} (hu:A.units+1<cLine) (I:Inv X pins σ H s) (g:DGet H a y o) (ry:RelV y u) (rd:RelV d r) (h:∀w' s',Inv X pins σ H s'->RelV (o.getD d) w'->Q w' s') :
  wpAny (model X.prog X.w) A (call (.builtin "dict.get") [.ref a,u,r]) Q E s:=by
 rcases g with⟨kvs,k,e,ey,l⟩ |⟨kvs,k,b,e,ey,eb,l⟩
 ·subst ey
  obtain⟨z,hd,vs,rel,dd⟩:=xmt I.hok e;refine call_meetsIn PySem.F.slot_dict_get dd.typeIs PySem.F.entry_dict_get (PySem.F.args_dict_get_3 _ _ _) (meets_dict_get_default (xbq X.prog X.w) a (xmq ry) hd r) ⟨_,dd.mapOf,h _ _ (I.tok _) ?_⟩;rw[l];exact(rel.val k).getD rd
 ·subst ey
  cases (show u=Value.ref b from ry);obtain⟨z,hd,xs,rel,dd⟩:=xoz I.hok e;refine call_meetsIn PySem.F.slot_dict_get dd.typeIs PySem.F.entry_dict_get (PySem.F.args_dict_get_3 _ _ _) (meetsH_dict_get_default (tupleKind (xbq X.prog X.w)) a b hd r) ⟨tupleKind_room_in1 hu,k,xs,xls I.hok eb,dd,h _ _ (I.tok _) ?_⟩;rw[l];exact(rel.val k).getD rd
end
def xtf(td ty tx:TE):TE:=λσ H Q=>td σ H λx H1=>∃a,x=.ref a/\IsD H1 a/\ty σ H1 λy H2=>tx σ H2 λz H3=>∃o,DGet H3 a y o/\Q (o.getD z) H3
section
variable {X:Cx}{o e f:Expr}{apos cpos:Pos}{td ty tx:TE}
theorem xlj(M:X.A.units+1<cLine)(O:PE X o td)(Y:PE X e ty)(U:PE X f tx)(m:M2 X o "get" apos e f cpos):PE X (.Call (.Attribute o "get" apos) [e,f] [] cpos) (xtf td ty tx):=by
 intro pins s σ H Q I h;refine wpAny_Call_method m.base m.few m.line PySem.F.plainAttrs_dict PySem.F.slot_dict_get PySem.F.type_dict_get (thn (O pins s σ H _ I h) λu n ⟨x,H1,i,w,a,ex,d,J⟩=>?_);subst ex;obtain rfl:u=Value.ref a:=w;obtain⟨j,t2,_⟩:=xje i d;refine⟨j,t2,?_⟩;rw[m.trees]
 refine Calls.callWith_builtin rfl (Calls.evalArgs_plain (Calls.spliced_cons (thn (Y pins n σ H1 _ i J) λiv l ⟨y,H2,I2,r,G⟩=>
  Calls.spliced_cons (thn (U pins l σ H2 _ I2 G) λfv s3 ⟨z,H3,I3,p,ov,g,C⟩=>Calls.spliced_nil ?_))))
 exact xur M I3 g r p λw' s4 Z c=>⟨_,H3,Z,c,C⟩
end
section
variable {X:Cx}{pins:List (Addr×Obj)}{σ:St}{H:Hp}{s:Shared}{a:Addr}{kvs:List (Key×V)}{A:Around}{E:Value->Shared->Prop}
theorem xqr{Q:Value->Shared->Prop}(I:Inv X pins σ H s)(e:Rd H a (.dK kvs))(h:∀p g,H p=none->Inv X pins σ (upd H p (.dK kvs)) g->Q (.ref p) g):wpAny (model X.prog X.w) A (call (.type "dict") [.ref a]) Q E s:=by
 obtain⟨z,hd,vs,c,j⟩:=xmt I.hok e;refine kt_call_dict hd j (by rw[<- c.length];exact z) λh' f hs=>?_;refine h _ _ (I.hok.fresh (Nat.le_refl _)) (I.laid (a:=s.heap.objs.size) (o:=.dK kvs) (t':=s.toks) (λb q i=>?_) (Nat.le_refl _) (xjp z (beq_eq_false_iff_ne.mpr (Ne.symm (Nat.ne_of_lt I.big))) c f));exact(hs.2 b (Nat.ne_of_lt (Heap.lt_size i))).trans (zPO _ i)
end
section
variable {κ:Type}[DecidableEq κ]
theorem xks:∀{l:List κ} {k:κ},l.Nodup->¬k∈l->(l++[k]).Nodup
 |[],k,_,_=>by simp
 |a::r,k,h,c=>by
  obtain⟨f,e⟩:=List.nodup_cons.mp h;show(a::(r++[k])).Nodup;refine List.nodup_cons.mpr ⟨λm=>?_,xks e λm=>c (List.mem_cons.mpr (Or.inr m))⟩;rcases zMA m with q |q
  ·exact f q
  ·exact c (List.mem_cons.mpr (Or.inl (zMO q).symm))
end
section
variable {X:Cx}
theorem xcr:xef X (.type "dict") (λxs H Q=>∃a kvs,xs=[V.ref a]/\H a=some (.dK kvs)/\∀p,H p=none->Q (.ref p) (upd H p (.dK kvs))):=by
 intro pins s σ H xs us Q I r h;obtain⟨a,kvs,rfl,ha,q⟩:=h;obtain⟨u,rfl,ru⟩:=xg4 r;cases ru;exact xqr I (.inl ha) λp s' hp I'=>⟨.ref p,_,I',rfl,q p hp⟩
end
section
variable {ix:Cap}{tt:TT}{te:TE}{g:TG}{σ:St}{H:Hp}{Q:VK}
def NxtG(Pv:Nat->List V->Hp->Prop)(n i:Nat)(ys:List V):VK:=λy H2=>∃m',m'<n-i/\m'=n-(i+1)/\i+1<=n/\(ys++[y]).length<=i+1/\Pv (i+1) (ys++[y]) H2
def NxtN(Pv:Nat->List V->Hp->Prop)(n i:Nat)(ys:List V):Hp->Prop:=λH2=>∃m',m'<n-i/\m'=n-(i+1)/\i+1<=n/\ys.length<=i+1/\Pv (i+1) ys H2
theorem nxtG{a:Nat->List V->Hp->Prop}{n i:Nat}{ys:List V}{y:V}{c:Hp}(hi:i<n)(e:ys.length<=i)(h:a (i+1) (ys++[y]) c):NxtG a n i ys y c:=
 ⟨n-(i+1),by omega,rfl,hi,by rw[zLA,List.length_singleton];omega,h⟩
theorem nxtN{a:Nat->List V->Hp->Prop}{n i:Nat}{ys:List V}{c:Hp}(hi:i<n)(e:ys.length<=i)(h:a (i+1) ys c):NxtN a n i ys c:=
 ⟨n-(i+1),by omega,rfl,hi,by omega,h⟩
theorem xbx {K:Fg} {a:Addr} {xs:List V} (c:Nat->List V->Hp->Prop) (h0:c 0 [] H) (hn:xs.length<sizeLine) (j:∀i ys H,i<=xs.length->c i ys H->SqT K H a xs)
  (hs:∀i x ys H,xs[i]?=some x->i<xs.length->ys.length<=i->c i ys H->g x (capt l σ) H λh u=>Ext (capt l σ) h/\r h u λb o=>if b=true then s h o (NxtG c xs.length i ys) else NxtN c xs.length i ys o)
  (hd:∀ys H,ys.length<=xs.length->c xs.length ys H->∀D,H D=none->Q (.ref D) (upd H D (.lst ys))):xe7 (Itt K a) l g r s σ H Q:=by
 refine⟨λi m ys H=>m=xs.length-i/\i<=xs.length/\ys.length<=i/\c i ys H,⟨xs.length,by simp,Nat.zero_le _,Nat.le_refl _,h0⟩,?_⟩;rintro i m ys H ⟨rfl,hi,n,p⟩;have q:=j i ys H hi p;by_cases f:i<xs.length
 ·refine .inr ⟨⟨xs,xs[i],q,by simp[f]⟩,by omega,λv w y=>?_⟩
  obtain⟨e,y⟩:=y;subst e;exact hs i v ys _ (y xs q) f n p
 ·have e:i=xs.length:=by omega
  subst e;exact .inl ⟨⟨xs,q,Nat.le_refl _⟩,hd ys H n p⟩
theorem xdg {K:Fg} {a:Addr} {xs:List V} (c:Nat->List V->Hp->Prop) (h0:c 0 [] H) (hn:xs.length<sizeLine) (j:∀i ys H,i<=xs.length->c i ys H->SqL K H a xs)
  (hs:∀i x ys H,xs[i]?=some x->i<xs.length->ys.length<=i->c i ys H->g x (capt l σ) H λh u=>Ext (capt l σ) h/\r h u λb o=>if b=true then s h o (NxtG c xs.length i ys) else NxtN c xs.length i ys o)
  (hd:∀ys H,ys.length<=xs.length->c xs.length ys H->∀D,H D=none->Q (.ref D) (upd H D (.lst ys))):xe7 (Itl K a) l g r s σ H Q:=by
 refine⟨λi m ys H=>m=xs.length-i/\i<=xs.length/\ys.length<=i/\c i ys H,⟨xs.length,by simp,Nat.zero_le _,Nat.le_refl _,h0⟩,?_⟩;rintro i m ys H ⟨rfl,hi,n,p⟩;have q:=j i ys H hi p;by_cases f:i<xs.length
 ·refine .inr ⟨⟨xs,xs[i],q,by simp[f]⟩,by omega,λv w y=>?_⟩
  obtain⟨e,y⟩:=y;subst e;exact hs i v ys _ (y xs q) f n p
 ·have e:i=xs.length:=by omega
  subst e;exact .inl ⟨⟨xs,q,Nat.le_refl _⟩,hd ys H n p⟩
theorem ext2{σ:St}{i j:Nat}{v w:Option V}(h:σ[i]?=some none)(k:σ[j]?=some none):Ext σ ((σ.set i v).set j w):=by
 refine⟨by simp,λn f e=>?_⟩;have c:i≠n:=λz=>by subst z;rw[h]at e;cases e
 have a:j≠n:=λz=>by subst z;rw[k]at e;cases e
 rw[List.getElem?_set_ne a,List.getElem?_set_ne c];exact e
end
section
variable {X:Cx}
def xtu:V->List V->Hp->VK->Prop:=λx vs H Q=>∃l,∃ys:List Str,∃z j,x=.ref l/\vs=[.str z]/\H l=some (.lst (ys.map V.str))/\ys.findIdx? (λy=>decide (y=z))=some j/\Q (.int (j:Nat)) H
theorem xqb:MtM X "list.index" xtu:=by
 intro w s σ H x vs v us Q I G J h;obtain⟨l,ys,z,j,rfl,rfl,hH,Z,q⟩:=h;cases G;obtain⟨u,rfl,M⟩:=J.one;obtain⟨p,its,n,r,Y,e⟩:=I.lstM hH
 have fs:(ys.map V.str).all xgm=true:=by
  rw[List.all_eq_true];intro y c;obtain⟨y',_,rfl⟩:=zMP c;rfl
 obtain⟨h1,h2,h3⟩:=List.findIdx?_eq_some_iff_getElem.mp Z;rw[zLM]at Y p
 have a:∀i (hi:i<ys.length) (o:i<its.toArray.size),eqU (.str z) its.toArray[i]=decide (ys[i]=z):=λi hi o=>by
  obtain⟨C,e',O⟩:=r.get (i:=i) (x:=.str ys[i]) (by rw[zGM,zGA hi];rfl)
  have g:its.toArray[i]=C:=by
   have:its[i]?=some its[i]:=zGA (by omega);rw[e']at this;simpa using (Option.some.inj this).symm
  rw[g,xoy O rfl];show(ys[i] == z)=_;rw[Bool.eq_iff_iff];simp
 refine call_meets F.slot_list_index ⟨_,e,rfl⟩ F.entry_list_index (F.args_list_index_2 _ _) (SeqAt.list_indexAt l its.toArray n none #[] u (eqU (.str z)) j (by simp;omega) ?_ ?_ ?_) ⟨e,λy c=>xfm M rfl r fs y (by simpa using c),⟨.int j,H,I.tok _,⟨_,rfl⟩,q⟩⟩
 ·rw[sizeLine_eq]at p
  omega
 ·rw[a j h1 (by simp;omega)]
  exact h2
 ·intro m U f
  rw[a m (by omega) U];have:=h3 m f;simpa using this
end
theorem xhz:∀{ns:List Int},(∀n∈ns,0<=n/\n<=1000000)->0<=ns.sum/\ns.sum<=1000000*(ns.length:Int)
 |[],_=>by simp
 |n::ns,h=>by
  have e:=h n (by simp);have c:=xhz (ns:=ns) λm a=>h m (List.mem_cons_of_mem _ a);rw[List.sum_cons,List.length_cons];push_cast;omega
section
variable {X:Cx}
theorem xju(y:X.calm=true):xef X (.builtin "sum") (λxs H Q=>∃p,∃ns:List Int,xs=[.ref p]/\SqL X.K H p (ns.map V.int)/\(∀n∈ns,0<=n/\n<=1000000)/\ns.length<=1000/\Q (.int ns.sum) H):=by
 intro c s σ H xs us Q I r h;obtain⟨p,ns,rfl,o,i,f,q⟩:=h;obtain⟨u,rfl,m⟩:=xg4 r;cases m;obtain⟨its,l,pl,hz⟩:=I.list o;have hi:=xgx l;obtain⟨xs,e⟩:=hi.allInts.items;have a:ns=xs.toList.map (·.1):=by rw[<- hi.numsOf,<- nums_intItems,<- e]
 have g:=pl.isList;rw[e]at g;have hsz:xs.size=ns.length:=by rw[a,zLM,Array.length_toList]
 refine sum_intList (I.ok.hd y) g (λj x=>?_) λh' z t' k=>⟨.int ns.sum,H,I.kept k,?_,q⟩
 ·have w:numAt xs j∈ns:=by
   rw[a,numAt_eq];exact getD_mem (by rw[zLM,Array.length_toList];exact x)
  have J:=i _ w;have G:=xhz (ns:=ns.take (j+1)) λn hn=>i n (List.mem_of_mem_take hn);have C:(ns.take (j+1)).length<=1000:=Nat.le_trans (List.length_take_le _ _) (by omega);rw[preSum_eq,<- a];unfold InLong;omega
 ·refine⟨t',?_⟩
  rw[preSum_eq,<- a,zTL (by omega)]
theorem xo7(C:X.calm=true):xef X (.builtin "max") (λxs H Q=>∃p,∃ns:List Int,xs=[.ref p]/\SqL X.K H p (ns.map V.int)/\ns≠[]/\∀m,m∈ns->(∀n∈ns,n<=m)->Q (.int m) H):=by
 intro g s σ H xs us Q I r h;obtain⟨p,ns,rfl,y,f,q⟩:=h;obtain⟨u,rfl,w⟩:=xg4 r;cases w;obtain⟨its,o,pl,hz⟩:=I.list y;have hi:=xgx o;obtain⟨xs,e⟩:=hi.allInts.items;have c:ns=xs.toList.map (·.1):=by rw[<- hi.numsOf,<- nums_intItems,<- e]
 have i:=pl.isList;rw[e]at i;have hsz:xs.size=ns.length:=by rw[c,zLM,Array.length_toList]
 have M:0<ns.length:=List.length_pos_iff.mpr f;refine max_intList (I.ok.hd C) i (by omega) λv h' J x k=>?_;obtain⟨t,rfl⟩:=intItems_at x;obtain⟨O,G⟩:=argBest_gt (numAt xs) (xs.size-1);refine⟨.int _,H,I.kept k,⟨t,rfl⟩,q _ ?_ λa l=>?_⟩
 ·rw[c,numAt_eq]
  exact getD_mem (by rw[zLM,Array.length_toList];omega)
 ·rw[c]at l
  obtain⟨j,z,rfl⟩:=mem_getD l;rw[zLM,Array.length_toList]at z;rw[<- numAt_eq];exact G j (by omega)
end
section
variable {X:Cx}{K:Fg}
theorem xsr(h:X.K=K):IxR X (rIxT K):=by subst h;exact xuh
theorem xqi(h:X.K=K):IxR X (rIxL K):=by subst h;exact iL
theorem xag(h:X.K=K):xef X (.builtin "len") (λxs H Q=>∃p ys,xs=[.ref p]/\(SqL K H p ys\/SqT K H p ys)/\Q (.int ys.length) H):=by subst h;exact xjv
theorem xa9 {es:List Expr} {k:Nat} {t:TGs} {n:Nat} {pos:Pos} (e:X.K=K) (c:X.calm=true) (h:PGs X es t)
  (hn:(assignEach es X.env).length=n:=by rfl) (a:(assignEach es X.env).findIdx? (·.1)=none:=by rfl):PG X (.Tuple es k pos) (gTup K n t):=by subst e;exact xtz c h hn a
end
end L2
end
section
namespace M
open PySem L2
structure Kn where
 name:Str
 rc:Bool
 parts:List (Str×Str)
def Kn.sort(k:Kn):Str:=if k.rc=true then S "rec" else S "alt"
def xk3(p:Str×Str):D:=.tup [.str p.1,.str p.2]
def xdv(ps:List (Str×Str)):D:=.tup (ps.map xk3)
def Kn.d(k:Kn):D:=.tup [.str k.name,.str k.sort,xdv k.parts]
def xdf(ks:List Kn):D:=.tup (ks.map Kn.d)
def kAt(ks:List Kn)(x:Str):Option Kn:=ks.find? λk=>decide (k.name=x)
def xvd:Option Kn->V
 |some k=>.str k.sort
 |none=>.non
def xlk:Option Kn->D
 |some k=>xdv k.parts
 |none=>.tup []
def KsAt(H:Hp)(v:V)(ks:List Kn):Prop:=RelD H v (xdf ks)/\ks.length<=100/\∀k∈ks,k.parts.length<=100
theorem KsAt.same{H a:Hp}{v:V}{ks:List Kn}(h:KsAt H v ks)(s:Same H a):KsAt a v ks:=⟨h.1.same s _,h.2⟩
abbrev En:=Str->Option D
def En.put(e:En)(x:Str)(d:D):En:=λy=>if y=x then some d else e y
def EnAt(H:Hp)(p:Addr)(m:Nat)(e:En):Prop:=
 ∃kvs,H p=some (.dK kvs)/\kvs.length<=m/\∀x,(e x=none->valV kvs (Sum.inr x)=none)/\∀d,e x=some d->∃v,valV kvs (Sum.inr x)=some v/\RelD H v d
theorem EnAt.same{H c:Hp}{p:Addr}{m:Nat}{e:En}(h:EnAt H p m e)(s:Same H c):EnAt c p m e:=by
 obtain⟨kvs,i,g,a⟩:=h;refine⟨kvs,s _ _ i,g,λx=>⟨(a x).1,λd hd=>?_⟩⟩;obtain⟨v,f,r⟩:=(a x).2 d hd;exact⟨v,f,r.same s _⟩
theorem EnAt.mono{H:Hp}{p:Addr}{m a:Nat}{e:En}(h:EnAt H p m e)(l:m<=a):EnAt H p a e:=by
 obtain⟨kvs,f,g,c⟩:=h;exact⟨kvs,f,by omega,c⟩
theorem EnAt.put {H a:Hp} {p q:Addr} {m:Nat} {e:En} {kvs:List (Key×V)} (n:H p=some (.dK kvs)) (o:kvs.length<=m) (h:∀x,(e x=none->valV kvs (Sum.inr x)=none)/\∀d,e x=some d->∃v,valV kvs (Sum.inr x)=some v/\RelD H v d)
  (s:Same H a) {x:Str} {v:V} {d:D} (i:RelD a v d) (l:a q=some (.dK (putK kvs (Sum.inr x) v))):EnAt a q (m+1) (e.put x d):=by
 refine⟨_,l,by have:=xdo kvs (Sum.inr x) v;omega,λy=>?_⟩;rw[xg5];unfold En.put;by_cases f:y=x
 ·subst f
  rw[if_pos rfl,if_pos rfl];refine⟨λz=>(by cases z),λd' g=>?_⟩;cases g;exact⟨v,rfl,i⟩
 ·have c:¬(Sum.inr y:Key)=Sum.inr x:=λz=>f (Sum.inr.inj z)
  rw[if_neg f,if_neg c];refine⟨(h y).1,λd' g=>?_⟩;obtain⟨u,j,r⟩:=(h y).2 d' g;exact⟨u,j,r.same s _⟩
def opV(s:Str)(x y:Int):Int:=
 if s=S "+" then (x+y)%4294967296 else if s=S "-" then (x-y)%4294967296 else if s=S "*" then x*y%4294967296 else if s=S "<" then (if x<y then 1 else 0) else (if x=y then 1 else 0)
def Nm(x:Int):Prop:=0<=x/\x<4294967296
theorem xt7(s:Str)(x y:Int):Nm (opV s x y):=by
 have h:∀z:Int,Nm (z%4294967296):=λz=>⟨Int.emod_nonneg _ (by decide),Int.emod_lt_of_pos _ (by decide)⟩;unfold opV;split
 ·exact h _
 split
 ·exact h _
 split
 ·exact h _
 split
 ·split <;> exact⟨by decide,by decide⟩
 ·split <;> exact⟨by decide,by decide⟩
abbrev tNum(n:Int):D:=.tup [.str (S "num"),.int n]
abbrev tBox(x:Str):D:=.tup [.str (S "box"),.str x]
abbrev tOpD(s:Str)(a b:D):D:=.tup [.str (S "op"),.str s,a,b]
abbrev tRec(k:Str)(es:List D):D:=.tup [.str (S "rec"),.str k,.tup es]
abbrev tGet(a:D)(f:Str):D:=.tup [.str (S "get"),a,.str f]
abbrev tTag(k t:Str)(a:D):D:=.tup [.str (S "tag"),.str k,.str t,a]
abbrev dArm(r:Str×Str×D):D:=.tup [.str r.1,.str r.2.1,r.2.2]
abbrev xmc(a:D)(rs:List (Str×Str×D)):D:=.tup [.str (S "case"),a,.tup (rs.map dArm)]
abbrev tIfD(a b c:D):D:=.tup [.str (S "if"),a,b,c]
def xej(env:En)(d v:D):Prop:=(∃n,d=tNum n/\v=.int n)\/∃x,env x=some v/\d=tBox x
def NodeEv(ks:List Kn)(R:En->D->D->Prop)(env:En)(d v:D):Prop:=
 (∃s a b x y,R env a (.int x)/\R env b (.int y)/\Nm x/\Nm y/\d=tOpD s a b/\v=.int (opV s x y)) ∨
 (∃k es vs,es.length<=1000/\All2 (R env) es vs/\d=tRec k es/\v=.tup [.str k,.tup vs]) ∨
 (∃a k vs f kn i,R env a (.tup [.str k,.tup vs])/\kAt ks k=some kn/\(kn.parts.map (·.1)).findIdx? (λz=>decide (z=f))=some i/\vs[i]?=some v/\d=tGet a f) ∨
 (∃k t a x,R env a x/\d=tTag k t a/\v=.tup [.str k,.str t,x]) ∨
 (∃a rs k t x y e,rs.length<=1000/\R env a (.tup [.str k,.str t,x])/\rs.find? (λr=>decide (r.1=t))=some (t,y,e)/\R (env.put y x) e v/\d=xmc a rs) ∨
 (∃a b c x,R env a (.int x)/\R env (if x=0 then c else b) v/\d=tIfD a b c)
def Ev(ks:List Kn):Nat->En->D->D->Prop
 |0=>xej
 |n+1=>λenv d v=>xej env d v\/NodeEv ks (Ev ks n) env d v
def xpa(env:En)(d:D)(k:Str):Prop:=(∃n,Nm n/\d=tNum n/\k=S "num")\/∃x,env x=some (.str k)/\d=tBox x
def xim(kn:Kn)(f:Str):Option Str:=(kn.parts.find? λp=>decide (p.1=f)).map (·.2)
abbrev RKn:=En->D->Str->Prop
def OpKd(R:RKn):RKn:=λenv d k=>∃s a b,R env a (S "num")/\R env b (S "num")/\d=tOpD s a b/\k=S "num"
def xvu(ks:List Kn)(R:RKn):RKn:=λenv d k=>∃es kn,kAt ks k=some kn/\kn.rc=true/\All2 (λe (p:Str×Str)=>R env e p.2) es kn.parts/\d=tRec k es
def xvv(ks:List Kn)(R:RKn):RKn:=λenv d k=>∃a k1 f kn,R env a k1/\kAt ks k1=some kn/\kn.rc=true/\xim kn f=some k/\d=tGet a f
def xvt(ks:List Kn)(R:RKn):RKn:=λenv d k=>∃t a kn k1,kAt ks k=some kn/\kn.rc=false/\xim kn t=some k1/\R env a k1/\d=tTag k t a
def xux (cs:Prop) (ks:List Kn) (R:RKn):RKn:=λenv d k=>cs/\∃a,∃rs:List (Str×Str×D),∃k1 kn,R env a k1/\kAt ks k1=some kn/\kn.rc=false/\rs≠[]/\rs.length=kn.parts.length/\(rs.map (·.1)).Nodup ∧
  (∀r∈rs,env r.2.1=none/\∃k2,xim kn r.1=some k2/\R (env.put r.2.1 (.str k2)) r.2.2 k)/\d=xmc a rs
def IfKd(R:RKn):RKn:=λenv d k=>∃a b c,R env a (S "num")/\R env b k/\R env c k/\d=tIfD a b c
def NodeKd(cs:Prop)(ks:List Kn)(R:RKn):RKn:=λenv d k=>OpKd R env d k\/xvu ks R env d k\/xvv ks R env d k\/xvt ks R env d k\/xux cs ks R env d k\/IfKd R env d k
def Kd(cs:Prop)(ks:List Kn):Nat->En->D->Str->Prop
 |0=>xpa
 |n+1=>λenv d k=>xpa env d k\/NodeKd cs ks (Kd cs ks n) env d k
theorem xc2{α:Type}{p:α->Bool}{xs:List α}{i:Nat}{a:α}(h:(xs.take i).find? p=none)(f:xs[i]?=some a):(p a=true->xs.find? p=some a)/\(p a=false->(xs.take (i+1)).find? p=none):=by
 have hi:i<xs.length:=(zES f).1;have e:xs[i]=a:=(zES f).2;refine⟨λc=>?_,λc=>?_⟩
 ·have g:xs=xs.take i++a::xs.drop (i+1):=by
   rw[<- e,<- List.drop_eq_getElem_cons hi,List.take_append_drop]
  rw[g,List.find?_append,h];simp[c]
 ·rw[zTA,f,List.find?_append,h]
  simp[c]
theorem Same.new2{H:Hp}{p:Addr}(h:H p=none)(o c:HO):Same H (upd (upd H p o) p c):=λb u q=>by
 have a:=neN q h;rw[xad a,xad a];exact q
mutual
def D.deep:D->Nat
 |.int _=>0
 |.str _=>0
 |.tup ds=>deeps ds+1
def deeps:List D->Nat
 |[]=>0
 |d::ds=>max d.deep (deeps ds)
end
theorem xd0:∀{ds:List D} {d:D},d∈ds->d.deep<=deeps ds
 | e::ds,d,h=>by
  show d.deep<=max e.deep (deeps ds);rcases zMC h with rfl |h
  ·omega
  ·have:=xd0 h
   omega
theorem xfo{n:Nat}:∀{ds:List D},(∀d∈ds,d.deep<=n)->deeps ds<=n
 |[],_=>Nat.zero_le _
 |e::ds,h=>by
  show max e.deep (deeps ds)<=n;have c:=h e (by simp);have a:=xfo (ds:=ds) λd hd=>h d (List.mem_cons_of_mem _ hd);omega
section
variable {X:Cx}{pins:List (Addr×Obj)}{σ:St}{H:Hp}{s:Shared}
theorem xe5{vs:List V}{its:List Value}(r:Vals vs its){j:Nat}(a:j<its.toArray.size):∃x,vs[j]?=some x/\RelV x its.toArray[j]:=by
 have c:=r.length;have h:j<its.length:=by simpa using a
 obtain⟨u,e,q⟩:=r.get (i:=j) (x:=vs[j]'(by omega)) (zGA _)
 have g:its.toArray[j]=u:=by
  have:its[j]?=some its[j]:=zGA h;rw[e]at this;simpa using (Option.some.inj this).symm
 exact⟨vs[j]'(by omega),zGA _,by rw[g];exact q⟩
theorem xow(I:Inv X pins σ H s):∀(n:Nat) (d:D) {x y:V} {u v:Value} {A:Around},d.deep<=n->RelD H x d->RelD H y d->RelV x u->RelV y v->A.units+n<cLine->SeqAt.EqAt A s u v true
 |n,.int i,x,y,u,v,A,_,hx,hy,ru,rv,_=>by
  cases hx;cases hy;obtain⟨t,rfl⟩:=ru;obtain⟨t',rfl⟩:=rv;have:=SeqAt.EqAt.int_int (A:=A) (s:=s) i t i t';rw[beq_self_eq_true]at this;exact this
 |n,.str z,x,y,u,v,A,_,hx,hy,ru,rv,_=>by
  cases hx;cases hy;obtain⟨t,rfl⟩:=ru;obtain⟨t',rfl⟩:=rv;have:=SeqAt.EqAt.str_str (A:=A) (s:=s) z t z t';rw[beq_self_eq_true]at this;exact this
 |0,.tup ds,x,y,u,v,A,h,_,_,_,_,_=>absurd h (Nat.not_succ_le_zero _)
 | n + 1,.tup ds,x,y,u,v,A,h,hx,hy,ru,rv,hA=>by
  obtain⟨a,vs,rfl,ha,rvs⟩:=hx;obtain⟨b,ws,rfl,hb,rws⟩:=hy;obtain rfl:u=.ref a:=ru;obtain rfl:v=.ref b:=rv;by_cases hab:a=b
  ·subst hab
   exact SeqAt.EqAt.same _
  ·obtain⟨its,r1,p1,_⟩:=I.tuple (SqT.of (K:=X.K) ha)
   obtain⟨its2,r2,p2,_⟩:=I.tuple (SqT.of (K:=X.K) hb);have l1:=r1.length;have l2:=r2.length;have l3:=rvs.length;have l4:=rws.length;have:=SeqAt.EqAt.of_refs hab (SeqAt.RcAt.tuples (A:=A) (e:=λ_=>true) p1 p2 (by omega) λj h1 h2=>?_)
   ·have e:((List.range (min its.toArray.size its2.toArray.size)).all (λ_=>true) && its.toArray.size == its2.toArray.size)=true:=by
     rw[show its.toArray.size=its2.toArray.size by simp only[List.size_toArray];omega];simp
    rw[e]at this;exact this
   ·obtain⟨x1,e1,q1⟩:=xe5 r1 h1
    obtain⟨x2,e2,q2⟩:=xe5 r2 h2;obtain⟨d1,f1,g1⟩:=rvs.get e1;obtain⟨d2,f2,g2⟩:=rws.get e2;rw[f1]at f2;cases f2;refine xow I n d1 ?_ g1 g2 q1 q2 (by show A.units+1+n<cLine;omega);have:=xd0 (zMG f1);have h':deeps ds+1<=n+1:=h;omega
end
def five:List Nat:=[113,120,122,118,119]
def nmA(cs:List Nat)(a:Nat)(b:Int)(k:Nat):List Nat:=cs.take a++(97+((b+5*(k:Int))%26).toNat)::cs.drop a
def nmB(cs:List Nat)(a:Nat)(b:Int)(k:Nat):List Nat:=nmA cs a b (k-k%2)++List.replicate (k%2) 113
def xj3(nms:List Str):Prop:=nms.length=26/\nms.Nodup/\∀z∈nms,Name z
theorem xf4(cs:List Nat)(a:Nat)(b:Int)(k:Nat):(nmA cs a b k).length=cs.length+1:=by
 unfold nmA;rw[zLA,List.length_cons,List.length_take,List.length_drop];omega
theorem xf3(cs:List Nat)(a:Nat)(b:Int)(k:Nat):(nmB cs a b k).length=cs.length+1+k%2:=by
 unfold nmB;rw[zLA,xf4,List.length_replicate]
theorem xob{cs:List Nat}{a:Nat}{b:Int}{k j:Nat}(e:k<26)(f:j<26)(h:nmA cs a b k=nmA cs a b j):k=j:=by
 unfold nmA at h;have c:=List.append_cancel_left h;have g:=(List.cons.inj c).1;omega
theorem xsl{cs:List Nat}{a:Nat}{b:Int}{k j:Nat}(g:k<26)(i:j<26)(h:nmB cs a b k=nmB cs a b j):k=j:=by
 have e:=congrArg List.length h;rw[xf3,xf3]at e;have c:k%2=j%2:=by omega
 unfold nmB at h;rw[c]at h;have f:=List.append_cancel_right h;have l:=xob (by omega) (by omega) f;omega
theorem xi1{f:Nat->Str}(h:∀k j,k<26->j<26->f k=f j->k=j):((List.range 26).map f).Nodup:=by
 refine List.pairwise_map.mpr (List.Pairwise.imp_of_mem (λhi c a e=>?_) (List.pairwise_lt_range (n:=26)));have:=h _ _ (List.mem_range.mp hi) (List.mem_range.mp c) e;omega
theorem xgd:∀c∈five,xet c=true:=by decide
theorem xi7(i:Int):xet (97+(i%26).toNat)=true:=by
 unfold xet;have c:0<=i%26:=Int.emod_nonneg _ (by decide);have a:i%26<26:=Int.emod_lt_of_pos _ (by decide);rw[Bool.and_eq_true,decide_eq_true_eq,decide_eq_true_eq];omega
theorem xod{l:List Nat}(j:1<=l.length)(i:l.length<=6)(g:∀c∈l,xet c=true)(a:l.length=1\/∃c∈l,c∈five):Name (ofL l):=by
 show xqa l=true;unfold xqa
 have ne:∀z:List Nat,z.length≠1->(∀c∈z,c ∉five)->(l != z)=true:=λz hz h=>by
  rw[bne_iff_ne];intro e;subst e;rcases a with a |⟨c,f,a⟩
  ·exact hz a
  ·exact h c f a
 rw[ne [110,117,109] (by decide) (by decide),ne [105,116] (by decide) (by decide),zDT j,zDT i,List.all_eq_true.mpr g];rfl
theorem mem_nmA{cs:List Nat}{a:Nat}{b:Int}{k c:Nat}:c∈nmA cs a b k ↔ c∈cs\/c=97+((b+5*(k:Int))%26).toNat:=by
 unfold nmA;rw[List.mem_append,List.mem_cons]
 have e:c∈cs ↔ c∈cs.take a\/c∈cs.drop a:=by
  rw[<- List.mem_append,List.take_append_drop]
 rw[e];constructor
 ·rintro(h |h |h)
  ·exact .inl (.inl h)
  ·exact .inr h
  ·exact .inl (.inr h)
 ·rintro((h |h) |h)
  ·exact .inl h
  ·exact .inr (.inr h)
  ·exact .inr (.inl h)
theorem xp8{cs:List Nat}{a:Nat}{b:Int}{k:Nat}(g:cs.length<=4)(e:∀c∈cs,c∈five):Name (ofL (nmA cs a b k)):=by
 refine xod (by rw[xf4];omega) (by rw[xf4];omega) (λc f=>?_) ?_
 ·rcases mem_nmA.mp f with h |h
  ·exact xgd c (e c h)
  ·rw[h];exact xi7 _
 ·cases cs with
  |nil=>exact .inl (by rw[xf4];rfl)
  |cons c r=>exact .inr ⟨c,mem_nmA.mpr (.inl (by simp)),e c (by simp)⟩
theorem xp7{cs:List Nat}{a:Nat}{b:Int}{k:Nat}(i:cs.length<=4)(f:∀c∈cs,c∈five):Name (ofL (nmB cs a b k)):=by
 refine xod (by rw[xf3];omega) (by rw[xf3];omega) (λc e=>?_) ?_
 ·unfold nmB at e
  rcases zMA e with e |e
  ·rcases mem_nmA.mp e with h |h
   ·exact xgd c (f c h)
   ·rw[h];exact xi7 _
  ·rw[(List.mem_replicate.mp e).2];decide
 ·by_cases g:k%2=0
  ·cases cs with
   |nil=>exact .inl (by rw[xf3,g];rfl)
   |cons c r=>exact .inr ⟨c,by unfold nmB;exact List.mem_append_left _ (mem_nmA.mpr (.inl (by simp))),f c (by simp)⟩
  ·refine .inr ⟨113,?_,by decide⟩
   unfold nmB;exact List.mem_append_right _ (List.mem_replicate.mpr ⟨by omega,rfl⟩)
theorem nmsA{cs:List Nat}{a:Nat}{b:Int}(h:cs.length<=4)(i:∀c∈cs,c∈five):xj3 ((List.range 26).map λk=>ofL (nmA cs a b k)):=by
 refine⟨by simp,xi1 λk j f g e=>xob f g (congrArg L e),λz hz=>?_⟩;obtain⟨k,_,rfl⟩:=zMP hz;exact xp8 h i
theorem nmsB{cs:List Nat}{a:Nat}{b:Int}(h:cs.length<=4)(i:∀c∈cs,c∈five):xj3 ((List.range 26).map λk=>ofL (nmB cs a b k)):=by
 refine⟨by simp,xi1 λk j f g e=>xsl f g (congrArg L e),λz hz=>?_⟩;obtain⟨k,_,rfl⟩:=zMP hz;exact xp7 h i
theorem xpj(x:Str){j:Int}(h0:0<=j)(a:j<=x.length):Txt.slice x none (some j)=ofL ((L x).take j.toNat):=by
 have e:Txt.slice x none (some j)=StrLaws.sliceText x none (some j):=rfl;rw[e,StrLaws.sliceText_to ⟨h0,by rw[show x.cps.toList.length=x.length by simp[Str.length]];exact a⟩];show ofL ((((L x).drop 0).take (j-0).toNat))=_;rw[List.drop_zero,Int.sub_zero]
theorem xme(x:Str){j:Int}(h0:0<=j)(a:j<=x.length):Txt.slice x (some j) none=ofL ((L x).drop j.toNat):=by
 have e:Txt.slice x (some j) none=StrLaws.sliceText x (some j) none:=rfl;rw[e,StrLaws.sliceText_from ⟨h0,by rw[show x.cps.toList.length=x.length by simp[Str.length]];exact a⟩];apply xpb;show((L x).drop j.toNat).take _=(L x).drop j.toNat;refine zTL ?_;rw[List.length_drop];show(L x).length-j.toNat<=(((L x).length:Int)-j).toNat;omega
theorem xoi{i:Int}(h0:0<=i)(h:i<26):atI (S "abcdefghijklmnopqrstuvwxyz").cps.toList i=some (97+i.toNat):=by
 have all:∀k,k<26->(S "abcdefghijklmnopqrstuvwxyz").cps.toList[k]?=some (97+k):=by walk_at"k"
 have a:i=((i.toNat:Nat):Int):=by omega
 have q:=xa2 (all i.toNat (by omega));rw[<- a]at q;exact q
theorem xsv{i:Int}(h0:0<=i)(h:i<5):∃c∈five,atI (S "qxzvw").cps.toList i=some c:=by
 have e:(S "qxzvw").cps.toList=five:=by walk_at"k"
 rw[e];exact xl8 h0 h
theorem xoc(cs:List Nat)(a ch:Nat):ofL (cs.take a)++(⟨#[ch]⟩:Str)++ofL (cs.drop a)=ofL (cs.take a++ch::cs.drop a):=by
 apply xpb;rw[xed,xed,xd1,xd1,xd1];show cs.take a++[ch]++cs.drop a=_;simp
end M
namespace L2
open PySem PySem.Spec PyProof.Rows
theorem xsd{X:Cx}:OpR X (binaryOp .Mult) (λx y H Q=>∃i n,x=.str i/\y=.int n/\(n=0\/n=1)/\Q (.str (if n=1 then i else Str.empty)) H):=by
 intro pins s σ H x y v u Q I rx ry h;obtain⟨i,n,rfl,rfl,hn,q⟩:=h;obtain⟨t,rfl⟩:=rx;obtain⟨t',rfl⟩:=ry;refine SB.mul ?_ λt' k=>⟨.str _,H,I.tok k,⟨t',rfl⟩,?_⟩
 ·rcases hn with rfl |rfl
  ·exact⟨by decide,λh=>absurd (by decide) h,λh=>absurd (by decide) h⟩
  ·exact⟨by decide,λ_ h=>by simp at h,λ_ h=>by simp at h⟩
 ·have e:Txt.mul i n=if n=1 then i else Str.empty:=by
   rcases hn with rfl |rfl
   ·rfl
   ·unfold Txt.mul
    rw[if_neg (by decide),if_pos (by simp),if_pos rfl]
  rw[e];exact q
end L2
end
section
namespace M
open PySem L2
structure KWf(ks:List Kn):Prop where
 nd:(ks.map Kn.name).Nodup
 nm:∀k∈ks,Name k.name
 ref:∀(i:Nat) (k:Kn),ks[i]?=some k->∀p∈k.parts,p.2=S "num"\/∃j,∃k':Kn,j<i/\ks[j]?=some k'/\k'.name=p.2
 alt:∀k∈ks,k.rc=false->k.parts≠[]
 few:ks.length<=6
 pts:∀k∈ks,k.parts.length<=5
 pnd:∀k:Kn,k∈ks->(k.parts.map (λp:Str×Str=>p.1)).Nodup
 pnm:∀k:Kn,k∈ks->∀p∈k.parts,Name p.1
theorem xeo{x:Str}(h:Name x):x≠S "num":=λe=>by
 rw[e]at h;exact absurd (show xqa (S "num").cps.toList=true from h) (by walk_at"k")
theorem KWf.nil:KWf []:=⟨List.nodup_nil,(λ_ h=>nomatch h),(λi k h=>by simp at h),(λ_ h=>nomatch h),Nat.zero_le _,(λ_ h=>nomatch h),(λ_ h=>nomatch h),(λ_ h=>nomatch h)⟩
theorem xeb{α:Type}{f:α->Str}:∀{xs:List α} {i:Nat} {a:α},(xs.map f).Nodup->xs[i]?=some a->xs.find? (λz=>decide (f z=f a))=some a
 |x::xs,0,a,nd,h=>by
  simp at h;subst h;rw[List.find?_cons,zDT rfl]
 |x::xs,i+1,a,nd,h=>by
  have h':xs[i]?=some a:=by simpa using h
  rw[List.map_cons,List.nodup_cons]at nd;have c:f x≠f a:=λe=>nd.1 (by rw[e];exact List.mem_map_of_mem (zMG h'));rw[List.find?_cons,zDF c];exact xeb nd.2 h'
theorem KWf.at{ks:List Kn}(w:KWf ks){i:Nat}{k:Kn}(h:ks[i]?=some k):kAt ks k.name=some k:=xeb (f:=Kn.name) w.nd h
theorem KWf.no{ks:List Kn}{x:Str}(h:∀k∈ks,k.name≠x):kAt ks x=none:=by
 unfold kAt;rw[List.find?_eq_none];intro k a;simpa using h k a
theorem KWf.num{ks:List Kn}(w:KWf ks):kAt ks (S "num")=none:=KWf.no λk a=>xeo (w.nm k a)
def KIn(ks:List Kn)(n:Nat)(x:Str):Prop:=x=S "num"\/∃j k,j<n/\ks[j]?=some k/\k.name=x
theorem KIn.mono{ks:List Kn}{n m:Nat}{x:Str}(h:KIn ks n x)(l:n<=m):KIn ks m x:=by
 rcases h with h |⟨j,k,a,h⟩
 ·exact .inl h
 ·exact .inr ⟨j,k,by omega,h⟩
theorem KIn.ap{ks more:List Kn}{n:Nat}{x:Str}(h:KIn ks n x):KIn (ks++more) n x:=by
 rcases h with h |⟨j,k,c,a,e⟩
 ·exact .inl h
 ·exact .inr ⟨j,k,c,by rw[List.getElem?_append_left (zES a).1];exact a,e⟩
theorem KIn.of{ks:List Kn}{x:Str}(h:x=S "num"\/∃k∈ks,k.name=x):KIn ks ks.length x:=by
 rcases h with h |⟨k,c,h⟩
 ·exact .inl h
 ·obtain⟨j,a,e⟩:=zMI c
  exact .inr ⟨j,k,a,by rw[<- e];exact zGA a,h⟩
theorem KWf.snoc {ks:List Kn} (w:KWf ks) {k:Kn} (o:k.name ∉ks.map Kn.name) (n:Name k.name) (m:∀p∈k.parts,KIn ks ks.length p.2) (l:k.rc=false->k.parts≠[]) (r:ks.length<6) (j:k.parts.length<=5)
  (h:(k.parts.map (·.1)).Nodup) (g:∀p∈k.parts,Name p.1):KWf (ks++[k]):=by
 have c:∀{q:Kn->Prop},(∀z∈ks,q z)->q k->∀z∈ks++[k],q z:=λa b z hz=>by
  rcases zMA hz with hz |hz
  ·exact a z hz
  ·rw[zMO hz];exact b
 refine⟨?_,c w.nm n,?_,c w.alt l,by rw[zLA,List.length_singleton];omega,c w.pts j,c w.pnd h,c w.pnm g⟩
 ·rw[zAP]
  exact xks w.nd o
 ·intro i z hz p f
  by_cases hi:i<ks.length
  ·rw[List.getElem?_append_left hi]at hz
   exact KIn.ap (w.ref i z hz p f)
  ·rw[List.getElem?_append_right (by omega)]at hz
   have e:i-ks.length=0:=by
    have:=(zES hz).1;simp at this;omega
   rw[e]at hz;simp at hz;subst hz;exact(m p f).ap.mono (by omega)
def maxD:List Int->Int
 |[]=>0
 |n::ns=>max n (maxD ns)
theorem xof:∀{ns:List Int} {n:Int},n∈ns->n<=maxD ns
 | m::ns,n,h=>by
  show n<=max m (maxD ns);rcases zMC h with rfl |h
  ·omega
  ·have:=xof h
   omega
theorem xhp:∀{ns:List Int},ns≠[]->(∀n∈ns,0<=n)->maxD ns∈ns
 |[n],_,h=>by
  have h0:=h n (by simp);show max n 0∈[n];rw[Int.max_eq_left h0];simp
 |n::m::ns,_,h=>by
  have a:=xhp (ns:=m::ns) (by simp) λx c=>h x (List.mem_cons_of_mem _ c);show max n (maxD (m::ns))∈n::m::ns;rcases Int.le_total n (maxD (m::ns)) with e |e
  ·rw[Int.max_eq_right e];exact List.mem_cons_of_mem _ a
  ·rw[Int.max_eq_left e];simp
theorem xsn{ns:List Int}{m:Int}(hn:ns≠[])(h0:∀n∈ns,0<=n)(a:m∈ns)(h:∀n∈ns,n<=m):m=maxD ns:=by
 have e:=xof a;have c:=h _ (xhp hn h0);omega
def szF:Nat->List Kn->Str->Int
 |0,_,_=>1
 |n+1,ks,x=>match kAt ks x with
  |none=>1
  |some k=>1+(if k.rc=true then (k.parts.map λp=>szF n ks p.2).sum else maxD (k.parts.map λp=>szF n ks p.2))
theorem xft{ks:List Kn}(f:∀k∈ks,k.parts.length<=5):∀(n:Nat) (x:Str),1<=szF n ks x/\szF n ks x<=6 ^ n
 |0,x=>by simp[szF]
 | n + 1,x=>by
  unfold szF;have w:(1:Int)<=6 ^ n:=Int.pow_pos (by decide);have y:(6:Int) ^ (n+1)=6*6 ^ n:=by rw[Int.pow_succ,Int.mul_comm]
  cases o:kAt ks x with
  |none=>simp only;omega
  | some k=>
   simp only;have e:=f k (zMF o)
   have all:∀m∈k.parts.map (λp=>szF n ks p.2),1<=m/\m<=6 ^ n:=λm c=>by
    obtain⟨p,_,rfl⟩:=zMP c;exact xft f n p.2
   have j:(k.parts.map (λp=>szF n ks p.2)).length<=5:=by rw[zLM];exact e
   generalize k.parts.map (λp=>szF n ks p.2)=ns at all j⊢
   have hs:∀(l:List Int),(∀m∈l,1<=m/\m<=(6:Int) ^ n)->0<=l.sum/\l.sum<=l.length*6 ^ n:=by
    intro l
    induction l with
    |nil=>intro _;simp
    |cons a r i=>
     intro h;have u:=h a (by simp);have s:=i λm c=>h m (List.mem_cons_of_mem _ c);rw[List.sum_cons,List.length_cons];push_cast;rw[Int.add_mul];omega
   have c:0<=maxD ns/\maxD ns<=6 ^ n:=by
    by_cases g:ns=[]
    ·subst g;simp[maxD];omega
    ·have:=all _ (xhp g λm c=>by have:=all m c;omega)
     omega
   have u:=hs ns all;have s:(ns.length:Int)*6 ^ n<=5*6 ^ n:=Int.mul_le_mul_of_nonneg_right (by omega) (by omega);split <;> omega
def KsSeq(H:Hp)(v:V)(ks:List Kn):Prop:=∃a vs,v=.ref a/\(H a=some (.lst vs)\/H a=some (.tup vs))/\RelDs H vs (ks.map Kn.d)
theorem KsSeq.same{H c:Hp}{v:V}{ks:List Kn}(h:KsSeq H v ks)(s:Same H c):KsSeq c v ks:=by
 obtain⟨a,vs,e,g,f⟩:=h;exact⟨a,vs,e,g.imp (s _ _) (s _ _),f.same s _⟩
theorem KWf.ksAt{ks:List Kn}(w:KWf ks){H:Hp}{v:V}(h:RelD H v (xdf ks)):KsAt H v ks:=⟨h,by have:=w.few;omega,λk a=>by have:=w.pts k a;omega⟩
theorem KsAt.seq{H:Hp}{v:V}{ks:List Kn}(h:KsAt H v ks):KsSeq H v ks:=by
 obtain⟨a,vs,e,f,c⟩:=h.1;exact⟨a,vs,e,.inr f,c⟩
def xfa:Option Kn->Str
 |some k=>k.sort
 |none=>S "num"
end M
namespace L2
open PySem PySem.Spec PyProof.Rows
theorem xty{X:Cx}{c it:Expr}{f e:TI}(i:PI X c it f)(g:PI X c it e):PI X c it (λσ H R=>f σ H R\/e σ H R):=λa s σ H R I h=>by
 rcases h with h |h
 ·exact i a s σ H R I h
 ·exact g a s σ H R I h
end L2
namespace L2
theorem xdw{σ:St}{H:Hp}{A B:Hp->Prop}(h:A H):tYes σ H (λb a=>if b=true then A a else B a):=by
 unfold tYes;show if true=true then A H else B H;rw[if_pos rfl];exact h
end L2
namespace M
open PySem L2
theorem Fed.put{f p:Addr}{H c:Hp}(h:Fed f H c)(i:H p=none)(j:p≠f)(o:HO):Fed f H (upd c p o):=by
 obtain⟨s,x,y,e⟩:=h;refine⟨λb u a g=>?_,x,y,?_⟩
 ·rw[xad (neN a i)]
  exact s b u a g
 ·rw[xad (Ne.symm j)]
  exact e
theorem xcs{H:Hp}{p:Addr}{us:List V}(h:H p=some (.lst us))(o:HO):∀b vs,H b=some (.tup vs)->upd H p o b=some (.tup vs):=λb vs a=>by
 rw[xad λe=>by rw[e,h]at a;cases a];exact a
theorem xho{ks:List Kn}{r:Int}(h0:0<=r)(h:r<1+(ks.length:Int)):∃x,atI ([V.str (S "num")]++(ks.map Kn.name).map V.str) r=some (.str x)/\KIn ks ks.length x:=by
 have e:[V.str (S "num")]++(ks.map Kn.name).map V.str=(S "num"::ks.map Kn.name).map V.str:=rfl;obtain⟨z,hz,c⟩:=xl8 (cs:=(S "num"::ks.map Kn.name).map V.str) h0 (by rw[zLM,List.length_cons,zLM];push_cast;omega);obtain⟨y,a,rfl⟩:=zMP hz;refine⟨y,by rw[e];exact c,?_⟩;rcases zMC a with rfl |a
 ·exact .inl rfl
 ·obtain⟨k,f,rfl⟩:=zMP a
  exact KIn.of (.inr ⟨k,f,rfl⟩)
theorem xla{ys:List Str}{i:Nat}(h:i<ys.length):atI (ys.map V.str) (0+(i:Int))=some (.str ys[i]):=by
 rw[Int.zero_add];exact xa2 (by rw[zGM,zGA h];rfl)
theorem xus{a:List Str}(h:a.length=26):cutV (a.map V.str) (some 8) (some 12)=((a.drop 8).take 4).map V.str:=by
 unfold cutV HT.sIx;rw[zLM,h,List.map_take,List.map_drop];rfl
theorem xvj{a:List Str}(h:xj3 a)(i:Nat):(((a.drop 8).take 4).take i).Nodup/\∀z∈((a.drop 8).take 4).take i,Name z:=by
 have hs:(((a.drop 8).take 4).take i).Sublist a:=((List.take_sublist _ _).trans (List.take_sublist _ _)).trans (List.drop_sublist _ _);exact⟨h.2.1.sublist hs,λz hz=>h.2.2 z (hs.subset hz)⟩
theorem xn9{a:List Str}(h:a.Nodup){i:Nat}(hi:i<a.length):a[i] ∉a.take i:=λc=>by
 obtain⟨j,f,e⟩:=zMI c;rw[List.length_take]at f;rw[List.getElem_take]at e;have:=(List.getElem_inj h).mp e;omega
def xuv(nms:List Str)(ks:List Kn):Prop:=KWf ks/\ks.length<=4/\ks.map Kn.name=nms.take ks.length/\∀k∈ks,k.parts.length<=4/\k.parts.map (·.1)=((nms.drop 8).take 4).take k.parts.length
theorem xre{A:Around}{k:Nat}(a:Room k A):A.units+200<cLine:=by
 have:=a.un;omega
def nuT:Nat->List Kn->Str->D
 |0,_,_=>tNum 0
 | n+1,ks,x=>match kAt ks x with
  |none=>tNum 0
  |some k=>if k.rc=true then tRec x (k.parts.map λp=>nuT n ks p.2) else match k.parts with
   |[]=>tNum 0
   |p::_=>tTag x p.1 (nuT n ks p.2)
def nuV:Nat->List Kn->Str->D
 |0,_,_=>.int 0
 | n+1,ks,x=>match kAt ks x with
  |none=>.int 0
  |some k=>if k.rc=true then .tup [.str x,.tup (k.parts.map λp=>nuV n ks p.2)] else match k.parts with
   |[]=>.int 0
   |p::_=>.tup [.str x,.str p.1,nuV n ks p.2]
theorem KIn.look{ks:List Kn}(a:KWf ks){m:Nat}{x:Str}(h:KIn ks m x):(x=S "num"/\kAt ks x=none)\/∃j k,m=j+1/\kAt ks x=some k/\k.name=x/\k∈ks/\∀p∈k.parts,KIn ks j p.2:=by
 rcases h with rfl |⟨j,k,g,c,rfl⟩
 ·exact .inl ⟨rfl,a.num⟩
 ·refine .inr ⟨m-1,k,by omega,a.at c,rfl,zMG c,λp f=>?_⟩
  rcases a.ref j k c p f with z |⟨i,e,hi,z⟩
  ·exact .inl z
  ·exact .inr ⟨i,e,by omega,z⟩
def NuAt (ks:List Kn) (m:Nat) (x:Str):Prop:=
  (x=S "num"/\kAt ks x=none/\nuT (m+1) ks x=tNum 0/\nuV (m+1) ks x=.int 0) ∨
  ∃ j k,m=j+1/\kAt ks x=some k/\k.name=x/\k∈ks/\(∀p∈k.parts,KIn ks j p.2)/\x≠S "num" ∧
    ((k.rc=true/\nuT (m+1) ks x=tRec x (k.parts.map λp=>nuT m ks p.2)/\nuV (m+1) ks x=.tup [.str x,.tup (k.parts.map λp=>nuV m ks p.2)]) ∨
     (k.rc=false/\∃p r,k.parts=p::r/\nuT (m+1) ks x=tTag x p.1 (nuT m ks p.2)/\nuV (m+1) ks x=.tup [.str x,.str p.1,nuV m ks p.2]))
theorem KIn.nu{ks:List Kn}(c:KWf ks){m:Nat}{x:Str}(h:KIn ks m x):NuAt ks m x:=by
 rcases h.look c with⟨rfl,e⟩ |⟨j,k,rfl,e,hn,f,l⟩
 ·refine .inl ⟨rfl,e,?_,?_⟩
  ·unfold nuT;rw[e]
  ·unfold nuV;rw[e]
 ·refine .inr ⟨j,k,rfl,e,hn,f,l,by rw[<- hn];exact xeo (c.nm k f),?_⟩
  cases a:k.rc with
  | true=>
   refine .inl ⟨rfl,?_,?_⟩
   ·conv=>lhs;unfold nuT
    rw[e];show(if k.rc=true then _ else _)=_;rw[if_pos a]
   ·conv=>lhs;unfold nuV
    rw[e];show(if k.rc=true then _ else _)=_;rw[if_pos a]
  | false=>
   obtain⟨p,r,g⟩:∃p r,k.parts=p::r:=by
    cases i:k.parts with
    |nil=>exact absurd i (c.alt k f a)
    |cons p r=>exact⟨p,r,rfl⟩
   refine .inr ⟨rfl,p,r,g,?_,?_⟩
   ·conv=>lhs;unfold nuT
    rw[e];show(if k.rc=true then _ else _)=_;rw[if_neg (by rw[a];decide),g]
   ·conv=>lhs;unfold nuV
    rw[e];show(if k.rc=true then _ else _)=_;rw[if_neg (by rw[a];decide),g]
end M
end
section
namespace L2
open PySem PySem.Spec PyProof.Rows
theorem xvo{P:Program}{w:World}{k:Key}{v:Value}(h:(xbq P w).is k v=true):RelV (kV k) v:=by
 cases k with
 |inl i=>
  have h':Value.isInt i v=true:=h;unfold Value.isInt at h';split at h' <;> simp_all [RelV,kV]
 |inr x=>
  have h':Value.isStrOf x v=true:=h;unfold Value.isStrOf at h';split at h' <;> simp_all [RelV,kV]
theorem xmw:∀{xs:List V} {us:List Value},xs.length=us.length->(∀(i:Nat) x u,xs[i]?=some x->us[i]?=some u->RelV x u)->Vals xs us
 |[],[],_,_=>.nil
 |[],_::_,h,_=>by simp at h
 |_::_,[],h,_=>by simp at h
 |x::xs,u::us,h,k=>.cons (k 0 x u rfl rfl) (xmw (by simpa using h) λi y w a c=>k (i+1) y w (by simpa using a) (by simpa using c))
theorem KV.get{κ:Type}{kvs:List (κ×V)}{vs:List (κ×Value)}(r:KV kvs vs){i:Nat}{p:κ×V}{q:κ×Value}(a:kvs[i]?=some p)(c:vs[i]?=some q):p.1=q.1:=by
 unfold KV at r
 induction r generalizing i with
 |nil=>simp at a
 | cons h t e=>
  cases i with
  |zero=>
   simp at a c;subst a c;exact h.1
  |succ i=>exact e (by simpa using a) (by simpa using c)
end L2
end
section
namespace M
open PySem L2
theorem xhy{ks:List Kn}{k:Kn}{x:Str}(h:kAt ks x=some k)(n:Nat):szF (n+1) ks x=1+(if k.rc=true then (k.parts.map λp=>szF n ks p.2).sum else maxD (k.parts.map λp=>szF n ks p.2)):=by
 conv=>lhs;unfold szF
 rw[h]
theorem xek {ks:List Kn} {x:Str} (h:kAt ks x=none):∀n,szF n ks x=1
  |0=>rfl
  | n + 1 => by conv => lhs;unfold szF
                rw[h]
theorem xpe{ks:List Kn}(w:KWf ks)(j:Nat):∀(x:Str),KIn ks j x->∀n,j+1<=n->szF n ks x=szF (j+1) ks x:=by
 induction j with
 |zero=>
  intro x h n hn;rcases h.look w with⟨rfl,e⟩ |⟨i,k,c,_⟩
  ·rw[xek e,xek e]
  ·cases c
 | succ j f=>
  intro x h n hn;rcases h.look w with⟨rfl,e⟩ |⟨i,k,c,e,_,_,g⟩
  ·rw[xek e,xek e]
  ·cases c
   obtain⟨m,rfl⟩:∃m,n=m+1:=⟨n-1,by omega⟩;have this:(k.parts.map λp=>szF m ks p.2)=k.parts.map λp=>szF (j+1) ks p.2:=List.map_congr_left λp a=>f p.2 (g p a) m (by omega);rw[xhy e,xhy e,this]
def sz(ks:List Kn)(x:Str):Int:=szF 7 ks x
theorem xti{ks:List Kn}(w:KWf ks):sz ks (S "num")=1:=xek w.num _
theorem xvb{ks:List Kn}(w:KWf ks)(x:Str):1<=sz ks x:=(xft w.pts 7 x).1
def inSz(k:Kn)(f:Str->Int):Int:=if k.rc=true then (k.parts.map λp=>f p.2).sum else maxD (k.parts.map λp=>f p.2)
theorem xgz{k:Kn}{f g:Str->Int}(h:∀p∈k.parts,f p.2=g p.2):inSz k f=inSz k g:=by
 unfold inSz;rw[List.map_congr_left (g:=λp=>g p.2) h]
theorem xvc{ks:List Kn}(w:KWf ks){i:Nat}{k:Kn}(h:ks[i]?=some k):sz ks k.name=1+inSz k (sz ks):=by
 have e:=w.few;have hi:i<ks.length:=(zES h).1;show szF 7 ks k.name=_;rw[xhy (w.at h)];show 1+inSz k (szF 6 ks)=_;rw[xgz (g:=sz ks)];intro p c;have a:KIn ks 5 p.2:=KIn.mono (n:=i) (w.ref i k h p c) (by omega);exact(xpe w 5 p.2 a 7 (by omega)).symm
theorem xug{ks more:List Kn}{x:Str}{k:Kn}(h:kAt ks x=some k):kAt (ks++more) x=some k:=by
 unfold kAt at h⊢;rw[List.find?_append,h];rfl
theorem xqy{ks more:List Kn}(w:KWf ks)(c:KWf (ks++more)):∀(n:Nat) (x:Str),KIn ks ks.length x->szF n (ks++more) x=szF n ks x
 |0,_,_=>rfl
 |n+1,x,h=>by
  rcases h.look w with⟨rfl,e⟩ |⟨i,k,j,e,_,_,f⟩
  ·rw[xek e,xek c.num]
  ·rw[xhy e,xhy (xug e),List.map_congr_left (g:=λp=>szF n ks p.2) λp a=>xqy w c n p.2 ((f p a).mono (by omega))]
theorem xtj{ks more:List Kn}(w:KWf ks)(a:KWf (ks++more)){x:Str}(h:KIn ks ks.length x):sz (ks++more) x=sz ks x:=xqy w a 7 x h
def Fit(ks:List Kn):Prop:=∀k∈ks,sz ks k.name<=30
theorem Fit.nil:Fit []:=λ_ h=>nomatch h
theorem Fit.snoc{ks:List Kn}{k:Kn}(w:KWf ks)(a:KWf (ks++[k]))(f:Fit ks)(e:∀p∈k.parts,KIn ks ks.length p.2)(h:inSz k (sz ks)<=29):Fit (ks++[k]):=by
 intro z hz;rcases zMA hz with hz |hz
 ·rw[xtj w a (KIn.of (.inr ⟨z,hz,rfl⟩))]
  exact f z hz
 ·rw[zMO hz,xvc a (i:=ks.length) (by simp),xgz (g:=sz ks) λp c=>xtj w a (e p c)]
  omega
end M
end
section
end
section
end
section
namespace L2
open PySem PySem.Spec PyProof.Rows
section
variable {X:Cx}{pins:List (Addr×Obj)}{σ:St}{H:Hp}{s:Shared}{C:Addr}{Q:VK}{us:List Value}{vs:List V}{CX:CXT}{k:Nat}{f:Addr}{fd:FuncData}{ps:List Str}{sp:Sp}{E:XK}
theorem xky{h:Heap}{o u:Obj}{b:Addr}(e:(h.push o).get? b=some u)(q:b≠h.objs.size):h.get? b=some u:=by
 rwa[Heap.get?_push_ne h b o q]at e
variable {x:Str}{p pos:Pos}{e:Expr}{es:List Expr}{t:TA}
variable {o value:Expr}{fl:Str}{pos':Pos}{ta tv:TE}
end
section
variable {X:Cx}{pins:List (Addr×Obj)}{σ:St}{H:Hp}{s:Shared}{h':Heap}
theorem Inv.turnedL{t':Nat}{fp:List Addr}(I:Inv X pins σ H s)(k:∀b o,b ∉fp->s.heap.get? b=some o->h'.get? b=some o)(hf:∀b∈fp,FpOk X pins H b):Inv X pins σ H {s with heap:=h',toks:=t'}:=by
 have nit:∀b u,H b=some u->b ∉fp:=λb u e z=>by rw[(hf b z).1]at e;cases e
 refine I.step (g':=s.gens) (d':=s.drawn) (ch:=fp) (λb hb=>?_) (λb o _ _ hc e _=>k b o hc e) (λb o _ _ hc e _=>⟨o.slots,k b o hc e⟩) (λ_ _ _ _ n=>n)
  (λb o hc e=>⟨o,k b o hc e⟩) (λ_ _ e=>e) (λ_ _ _ e=>e) (λb ps e=>⟨#[],by rw[e];simp⟩) (λm hm=>?_) (λb u e=>?_) I.bare
 ·obtain⟨f0,f1,f2,f3,f4,f5⟩:=hf b hb
  exact⟨f3,f1,f4,f5⟩
 ·obtain⟨o,es,ep,ho,r⟩:=hm
  exact⟨o,es,ep,k _ o (λz=>(hf _ z).2.1 rfl) ho,r⟩
 ·refine(I.hok b u e).stay (λc v hc q=>k c v ?_ q) (λ_ q=>q) λ_ _ q=>q
  rcases hc with z |z
  ·rw[z];exact nit b u e
  ·exact nit c _ z
end
open PySem.W in
def ad(K:Frag)(x:Str):Addr:=match nsIn K mainGlobals x with |some (some (.ref C))=>C |_=>0
theorem xuu{K:Fg}{x:Str}{C:Addr}(e:PySem.W.nsIn K mainGlobals x=some (some (.ref C))):ad K x=C:=by unfold ad;rw[e]
def xgg(s:Stmt)(j:Nat):Stmt:=match s with
 |.ClassDef _ _ _ b _ _ _ _ _ _ _=>b.getD j (.Pass ⟨0,0,0,0⟩)
 |_=>.Pass ⟨0,0,0,0⟩
end L2
end
section
namespace L2
open PySem PySem.Spec PyProof.Rows M
section
variable {X:Cx}
def xq4(K:Fg):R2:=λx y H Q=>∃a b xs ys,x=.ref a/\y=.ref b/\SqT K H a xs/\SqT K H b ys/\xs.length+ys.length<=sizeLine ∧
 (xs=[]->Q (.ref b) H)/\(xs≠[]->ys=[]->Q (.ref a) H)/\(xs≠[]->ys≠[]->∀p,H p=none->Q (.ref p) (upd H p (.tup (xs++ys))))
theorem xpr:OpR X (binaryOp .Add) (xq4 X.K):=by
 intro c s σ H x y v u Q I r p h;obtain⟨a,b,xs,ys,rfl,rfl,G,C,hz,Y,U,O⟩:=h;by_cases f:xs=[]
 ·cases r
  cases p;obtain⟨its,M,p1,_⟩:=I.tuple G;obtain⟨e,r2,Z,_⟩:=I.tuple C;obtain⟨⟨cls,dd,data,sl⟩,w,z,n,hd⟩:=id p1;obtain⟨⟨J,m,o,l⟩,g,j,n2,i⟩:=id Z;simp only at z hd j i;subst z hd j i
  exact concat_meets ⟨_,w,rfl⟩ ⟨_,g,rfl⟩ noFill_tuple_add seq_tuple_add PySem.F.slot_tuple_add PySem.F.entry_tuple_add (PySem.F.args_tuple_add_2 _ _)
   (tuple_addW0 a b its.toArray e.toArray n n2 dd m sl l (by rw[M.nil_iff.mpr f];rfl)) ⟨w,g,⟨.ref b,H,I,rfl,Y f⟩⟩
 ·exact xse c s σ H _ _ v u Q I r p ⟨a,b,xs,ys,rfl,rfl,G,C,f,hz,U f,O f⟩
end
end L2
end
section
namespace PySem
open Sem (wp)
section
variable {prog:Program}{w:World}{A:Around}{E:Value->Shared->Prop}{s:Shared}
theorem xeu {a:Addr} {xs:Array Value} {k:Nat} {sl:Array (Option Value)} {name:Str} {Q:Option Value->Shared->Prop}
  (hx:s.heap.get? a=some {cls:=.type "list",dict:=none,data:=.seq xs k,slots:=sl}) (hmiss:typeLookup (.type "list") name=pure none) (hname:(["__module__","__name__","__qualname__","__doc__","__annotations__"]:List Str).contains name=false) (hA:A.handled=none)
  (h:∀h' tk,(∀b o,s.heap.get? b=some o->h'.get? b=some o)->Q none {s with heap:=h',toks:=tk}) (hsz:name.length+100<=sizeLine) :
  wpAny (model prog w) A (getAttr? (.ref a) name) Q E s:=by
 obtain⟨hp,g,d,tk,os⟩:=s;have hT:∀tk',(⟨hp,g,d,tk',os⟩:Shared).TypeIs (.ref a) "list":=λ_=>⟨_,hx,rfl⟩;have f1:=sub_AttributeError;have f3:=F.slot_list_getattribute.lookup;have f4:=F.slot_list_getattribute.bind (.ref a);have f5:=am_list_getattr_none;unfold getAttr? getAttrBy? getAttrBy
 repeat (any_goals (first |assumption |exact hT _ |((with_reducible show wpAny _ _ (call (Value.builtin "list.__getattribute__") _ _) _ _ _);refine call_meets F.slot_list_getattribute (hT _) am_entry_list_getattribute (F.args_list_getattribute_2 _ _) (meets_getattribute_miss_list a xs k sl name _ hmiss hname hsz) ⟨hx,hA,λh' tk' e hx'=>?_⟩) |wp_step))
 obtain⟨t',u',he⟩:=hx'.there;show wpAny _ _ (getattributeRaised _ _ _ _ _ _ _) _ _ _;unfold getattributeRaised
 repeat (any_goals (first |assumption |wp_step))
 all_goals first |exact h _ _ hx'.keeps |skip
end
end PySem
namespace L2
open PySem PySem.Spec PyProof.Rows
theorem xcy:plainId "dict.update.loop"=true:=by walk_at"k"
theorem xei:entryFor table "dict.update.loop"=some Builtin.«dict.update.loop»:=entryFor_of_fast (by kernel_rfl)
section
variable {prog:Program}{w:World}{A:Around}{K:Type}[DecidableEq K]{knd:KeyKind prog w K}
def PairsAt(knd:KeyKind prog w K)(h:Heap):List Value->List (K×Value)->Prop
 |[],[]=>True
 |it::its,p::ps=>(∃a key,it=.ref a/\h.IsTuple a #[key,p.2]/\knd.is p.1 key=true)/\PairsAt knd h its ps
 |_,_=>False
theorem PairsAt.keep{h h':Heap}:∀{its:List Value} {ps:List (K×Value)},PairsAt knd h its ps->(∀a xs,h.IsTuple a xs->h'.IsTuple a xs)->PairsAt knd h' its ps
 |[],[],_,_=>trivial
 |it::its,p::ps,⟨⟨a,c,e,g,f⟩,r⟩,k=>⟨⟨a,c,e,k _ _ g,f⟩,PairsAt.keep r k⟩
 |[],_::_,h,_=>h.elim
 |_::_,[],h,_=>h.elim
theorem xj7{h:Heap}{a d:Addr}{xs:Array Value}{kvs:List (K×Value)}(i:h.IsTuple a xs)(hd:h.DictOf knd d kvs):a≠d:=λe=>by
 subst e;obtain⟨o,j,l,_⟩:=i;obtain⟨t,_,_,g,f,_⟩:=hd;have c:=f.1;have:o=t:=Option.some.inj (j.symm.trans g);subst this;rw[l]at c;exact absurd (Value.type.inj c) (by decide)
theorem xfs{h:Heap}{a I l:Addr}{i:Nat}{xs:Array Value}(g:h.IsTuple a xs)(hd:h.IsListIter I l i):a≠I:=λe=>by
 subst e;obtain⟨o,j,m,_⟩:=g;obtain⟨t,f,c,_⟩:=hd;have:o=t:=Option.some.inj (j.symm.trans f);subst this;rw[m]at c;exact absurd (Value.type.inj c) (by decide)
theorem xpd {R:Result->Shared->Prop} {I l d:Addr} {its:List Value} {ps:List (K×Value)} (hh:A.in1.handled=none) (a0:l≠I) (a7:l≠d) (G:I≠d) :
    ∀(k i:Nat) (s:Shared) (f:List (K×Value)),its.length-i=k->i<=its.length->s.heap.IsListIter I l i->s.heap.IsList l its.toArray->s.heap.DictOf knd d f->PairsAt knd s.heap (its.drop i) (ps.drop i)->f.length+(its.length-i)<=sizeLine->
    (∀h' tk,h'.DictOf knd d (merged f (ps.drop i))->(∀b o,b≠d->b≠I->s.heap.get? b=some o->h'.get? b=some o)->R (.ok (.ret .none)) {s with heap:=h',toks:=tk})->
    codeAny (model prog w) A (.builtin "dict.update.loop" ⟨[.ref d,.ref I,rawInt i,.none],[]⟩) R s:=by
  intro k
  induction k with
  | zero=>
    intro i s f hk hi g hl hd j hsz hR;have C:i=its.length:=by omega
    have W:=Walks.list (prog:=prog) (w:=w) (A:=A.in1) hh I l a0 its.toArray;refine codeAny_builtin xei ?_;rw[Around.under_plainId xcy _];show wpAny _ A.in1 (pyNext (.ref I) >>= _) _ _ s
    refine wpAny_bind (W.done s _ _ (by have e:its.toArray.size = i := by simp[C]
                                        rw[e];exact⟨g,hl⟩) λh' tk c=>?_)
    show wpAny _ _ (Builtin.Dict.addKeywords d [] >>= _) _ _ _;refine wpAny_bind (wpAny_pure (wpAny_pure ?_))
    have a5:ps.drop i=[]:=by
      rw[C,List.drop_length]at j;rw[C]
      cases hq:ps.drop its.length with
      |nil=>rfl
      |cons p r=>rw[hq]at j;exact j.elim
    refine hR h' tk ?_ λb o J n e=>c b o (by simpa using n) e;rw[a5];exact hd.at λo e=>c d o (by simpa using (Ne.symm G)) e
  | succ k ih=>
    intro i s f hk hi g hl hd j hsz hR;have m:i<its.length:=by omega
    have W:=Walks.list (prog:=prog) (w:=w) (A:=A.in1) hh I l a0 its.toArray;have a8:its.drop i=its[i]::its.drop (i+1):=List.drop_eq_getElem_cons m;rw[a8]at j
    obtain⟨p,r,z⟩:∃p r,ps.drop i=p::r:=by
      cases hq:ps.drop i with
      |nil=>rw[hq]at j;exact j.elim
      |cons p r=>exact⟨p,r,rfl⟩
    have Y:ps.drop (i+1)=r:=by rw[<- List.tail_drop,z];rfl
    rw[z]at j;obtain⟨⟨a,x,ea,U,a1⟩,y⟩:=j;refine codeAny_builtin xei ?_;rw[Around.under_plainId xcy _];show wpAny _ A.in1 (pyNext (.ref I) >>= _) _ _ s;refine wpAny_bind (W.item i s _ _ (by simpa using m) ⟨g,hl⟩ λv h' tk hP u c=>?_)
    have hv:v=.ref a:=by
      have:its[i]?=some v:=by simpa using hP
      rw[zGA m,ea]at this;exact(Option.some.inj this).symm
    subst hv;have O:h'.IsTuple a #[x,p.2]:=U.at λo e=>c a o (by simpa using xfs U g) e;have a3:h'.DictOf knd d f:=hd.at λo e=>c d o (by simpa using (Ne.symm G)) e;obtain⟨oa,Z,ab,na,a9⟩:=id O;refine wpAny_bind (wpAny_holding (wpAny_bind (wpAny_tryCatch ?_)));unfold Builtin.Dict.pairItems;refine wpAny_bind (wpAny_typeOf ⟨oa,Z,ab⟩ ?_);rw[if_pos (by decide)];refine wpAny_bind (wpAny_seqItems Z a9 (wpAny_pure ?_));show wpAny _ _ (holding [x,p.2] (dictSet d x p.2)) _ _ _;refine wpAny_holding (wpAny_dictSet_pairs a1 a3 (λh2 aa h=>?_) (by omega));have M:h2.IsListIter I l (i+1)/\h2.IsList l its.toArray:=⟨u.1.at λo e=>(h.2 I G).trans e,u.2.at λo e=>(h.2 l a7).trans e⟩;refine wpAny_pure ⟨plainId_quiet xcy _,ih (i+1) _ _ (by omega) m M.1 M.2 aa ?_ ?_ λh3 a4 a2 a6=>?_⟩
    · rw[Y]
      exact y.keep λb xs J=>by
        have h1:h'.IsTuple b xs:=J.at λo e=>c b o (by simpa using xfs J g) e;exact h1.at λo e=>(h.2 b (xj7 h1 a3)).trans e
    · have:=stored_length_le f p.1 p.2
      omega
    · refine hR h3 a4 ?_ λb o J n e=>a6 b o J n ((h.2 b J).trans (c b o (by simpa using n) e))
      rw[z];rw[Y]at a2;exact a2
end
theorem xi5:typeLookup (.type "list") "keys"=pure none:=am_miss_of_fast (by kernel_rfl)
section
variable {prog:Program}{w:World}{A:Around}{E:Value->Shared->Prop}{s:Shared}{K:Type}[DecidableEq K]{knd:KeyKind prog w K}
theorem xjq {l:Addr} {its:List Value} {n:Nat} {ps:List (K×Value)} {Q:Value->Shared->Prop} (hh:A.handled=none) (hl:s.heap.get? l=some {cls:=.type "list",data:=.seq its.toArray n}) (hp:PairsAt knd s.heap its ps) (hsz:its.length<=sizeLine)
  (h:∀h' tk,h'.DictOf knd s.heap.objs.size (merged [] ps)->(∀b o,s.heap.get? b=some o->h'.get? b=some o)->Q (.ref s.heap.objs.size) {s with heap:=h',toks:=tk}) :
  wpAny (model prog w) A (call (.type "dict") [.ref l]) Q E s:=by
 refine callType_codes (Q₁:=λobj s₁=>obj=.ref s.heap.objs.size/\s₁={s with heap:=s.heap.push {cls:=.type "dict",data:=.dict #[]}}) F.kt_called_dict (F.kt_typeCall_dict_1 _) F.entry_dict_init (kt_code_dict_new _ ⟨rfl,rfl⟩) ?_;rintro obj s₁ ⟨rfl,rfl⟩;have hnew:(s.heap.push {cls:=.type "dict",data:=.dict #[]}).DictOf knd s.heap.objs.size []:=Heap.DictOf.new s.heap;have ext0:∀b o,s.heap.get? b=some o->(s.heap.push {cls:=.type "dict",data:=.dict #[]}).get? b=some o:=λb o e=>zPO _ e;have hl0:=ext0 _ _ hl;have hT:(⟨s.heap.push {cls:=.type "dict",data:=.dict #[]},s.gens,s.drawn,s.toks,s.os⟩:Shared).TypeIs (.ref l) "list":=⟨_,hl0,rfl⟩;have hdl:l≠s.heap.objs.size:=λe=>absurd (Heap.lt_size hl) (by rw[e];exact Nat.lt_irrefl _);refine⟨hnew.typeIs,F.args_dict_init_2 _ _,?_⟩;unfold Builtin.«dict.__init__»;refine wpAny_bind ?_;unfold Builtin.Dict.selfAndRest;refine wpAny_bind (wpAny_notOrdered_dict hnew.typeIs ?_);show wpAny _ _ (pure (s.heap.objs.size,[Value.ref l])) _ _ _;refine wpAny_pure ?_;show wpAny _ _ (Builtin.Dict.updateFrom "dict.__init__" s.heap.objs.size (.ref l) [] .none) _ _ _;unfold Builtin.Dict.updateFrom;refine wpAny_bind (wpAny_typeOf hT ?_);rw[if_pos (by decide)];refine wpAny_bind (xeu (sl:=#[]) hl0 xi5 (by walk_at"k") hh (λh1 tk1 k1=>?_) (by walk_at"k"));rw[if_pos (show(none:Option Value).isNone=true from rfl)];refine wpAny_bind (wpAny_rule ?_);have hl1:=k1 _ _ hl0;have hL1:h1.IsList l its.toArray:=⟨_,hl1,rfl,_,rfl⟩
 refine wpAny_bind (wpAny_pyIter_list hL1 (wpAny_pure ⟨plainId_quiet xcy _,?_⟩));have hsz1:s.heap.objs.size<h1.objs.size:=Heap.lt_size (k1 _ _ (Heap.get?_push_size _ rfl));have hlI:l<h1.objs.size:=Heap.lt_size hl1;have ext2:∀b o,h1.get? b=some o->(h1.push {cls:=.type "list_iterator",data:=.fields #[.ref l,.int 0 0]}).get? b=some o:=λb o e=>zPO _ e;refine xpd (knd:=knd) (A:=A.in1) (ps:=ps) (l:=l) (d:=s.heap.objs.size) (its:=its) hh (Nat.ne_of_lt hlI) hdl (Nat.ne_of_gt hsz1) its.length 0 _ [] (Nat.sub_zero _) (Nat.zero_le _) ⟨_,Heap.get?_push_size _ rfl,rfl,rfl⟩ (hL1.push _) (hnew.at λo e=>ext2 _ _ (k1 _ _ e)) (hp.keep λa xs ha=>ha.at λo e=>ext2 _ _ (k1 _ _ (ext0 _ _ e))) (by simpa using hsz) λh3 tk3 hd3 hk3=>?_;refine⟨rfl,h h3 tk3 hd3 λb o e=>hk3 b o ?_ ?_ (ext2 _ _ (k1 _ _ (ext0 _ _ e)))⟩
 ·exact λz=>absurd (Heap.lt_size e) (by rw[z];exact Nat.lt_irrefl _)
 ·exact λz=>absurd (Heap.lt_size e) (by rw[z];exact Nat.not_lt_of_gt hsz1)
end
def PairsV(H:Hp):List V->List (Key×V)->Prop
 |[],[]=>True
 |y::ys,kv::kvs=>(∃b,y=.ref b/\H b=some (.tup [kV kv.1,kv.2]))/\PairsV H ys kvs
 |_,_=>False
theorem PairsV.same{H a:Hp}(s:∀b us,H b=some (.tup us)->a b=some (.tup us)):∀{ys:List V} {kvs:List (Key×V)},PairsV H ys kvs->PairsV a ys kvs
 |[],[],_=>trivial
 |y::ys,f::kvs,⟨⟨b,e,c⟩,r⟩=>⟨⟨b,e,s _ _ c⟩,PairsV.same s r⟩
 |[],_::_,h=>h.elim
 |_::_,[],h=>h.elim
theorem PairsV.append{H:Hp}:∀{ys zs:List V} {kvs more:List (Key×V)},PairsV H ys kvs->PairsV H zs more->PairsV H (ys++zs) (kvs++more)
 |[],zs,[],more,_,k=>k
 |y::ys,zs,a::kvs,more,⟨h,r⟩,k=>⟨h,PairsV.append r k⟩
 |[],_,_::_,_,h,_=>h.elim
 |_::_,_,[],_,h,_=>h.elim
theorem PairsV.length{H:Hp}:∀{ys:List V} {kvs:List (Key×V)},PairsV H ys kvs->ys.length=kvs.length
 |[],[],_=>rfl
 |y::ys,a::kvs,⟨_,r⟩=>by rw[List.length_cons,List.length_cons,PairsV.length r]
 |[],_::_,h=>h.elim
 |_::_,[],h=>h.elim
section
variable {X:Cx}
theorem xlm{a:List (Addr×Obj)}{σ:St}{H:Hp}{s:Shared}(I:Inv X a σ H s):∀{ys:List V} {its:List Value} {kvs:List (Key×V)},Vals ys its->PairsV H ys kvs->∃ps,KV kvs ps/\PairsAt (xbq X.prog X.w) s.heap its ps
 |[],_,[],r,_=>by cases r;exact⟨[],.nil,trivial⟩
 | y::ys,_,j::kvs,r,⟨⟨b,o,n⟩,rest⟩=>by
  subst o
  cases r with
  |cons h t=>
   obtain⟨ps,m,l⟩:=xlm I t rest;obtain⟨c,g,i,_⟩:=I.tuple (SqT.of (K:=X.K) n);obtain⟨f,e,rfl,u,p⟩:=g.two;exact⟨(j.1,e)::ps,.cons ⟨rfl,p⟩ m,⟨b,f,h,i,xmq u⟩,l⟩
 |[],_,_::_,_,h=>h.elim
 |_::_,_,[],_,h=>h.elim
theorem xcw(hc:X.calm=true):xef X (.type "dict") (λxs H Q=>∃a ys,∃kvs:List (Key×V),xs=[.ref a]/\H a=some (.lst ys)/\PairsV H ys kvs/\∀p,H p=none->Q (.ref p) (upd H p (.dK (xcu [] kvs)))):=by
 intro pins s σ H xs us Q I r h;obtain⟨a,ys,kvs,rfl,ha,hp,q⟩:=h;obtain⟨u,rfl,ru⟩:=xg4 r;obtain rfl:u=.ref a:=ru;obtain⟨hz,its,n,rv,hl⟩:=(show ObjOk X.prog X.w H s.heap a (.lst ys) from I.hok a _ ha);obtain⟨ps,hk,hpa⟩:=xlm I rv hp;have hyl:=hp.length;refine xjq (knd:=xbq X.prog X.w) (I.ok.hd hc) hl hpa (by rw[<- rv.length];exact hz) λh' tk dd' k'=>?_
 have hz':(xcu [] kvs).length<=sizeLine:=by
  have:=xdp kvs [];rw[List.length_nil]at this;omega
 exact⟨.ref s.heap.objs.size,_,I.laid (a:=s.heap.objs.size) (o:=.dK (xcu [] kvs)) (t':=tk) k' (Nat.le_refl _) (xjp hz' (beq_eq_false_iff_ne.mpr (Ne.symm (Nat.ne_of_lt I.big))) (hk.merge .nil) dd'),rfl,q _ (I.hok.fresh (Nat.le_refl _))⟩
end
end L2
end
section
namespace L2
open PySem PySem.Spec PySem.W PyProof.Rows M
theorem KV.get2{κ:Type}{kvs:List (κ×V)}{vs:List (κ×Value)}(r:KV kvs vs){i:Nat}{q:κ×Value}(a:vs[i]?=some q):∃v,kvs[i]?=some (q.1,v)/\RelV v q.2:=by
 unfold KV at r
 induction r generalizing i with
 |nil=>simp at a
 | @cons p e as bs h t c=>
  cases i with
  |zero=>
   simp at a;subst a;exact⟨p.2,by simp[<- h.1],h.2⟩
  |succ i=>exact c (by simpa using a)
end L2
end
section
namespace M
open PySem L2
inductive Vk(ks:List Kn):Str->D->Prop
 |num (i:Int) (h:Nm i):Vk ks (S "num") (.int i)
 |rc {x:Str} {k:Kn} {ws:List D} (hk:kAt ks x=some k) (hr:k.rc=true) (hl:ws.length=k.parts.length) (h:∀(i:Nat) (w:D) (p:Str×Str),ws[i]?=some w->k.parts[i]?=some p->Vk ks p.2 w):Vk ks x (.tup [.str x,.tup ws])
 |al {x:Str} {k:Kn} {p:Str×Str} {w:D} (hk:kAt ks x=some k) (hr:k.rc=false) (hp:p∈k.parts) (h:Vk ks p.2 w):Vk ks x (.tup [.str x,.str p.1,w])
theorem xfr{ks:List Kn}(c:KWf ks){x:Str}{v:D}(e:x=S "num")(h:Vk ks x v):∃i,Nm i/\v=.int i:=by
 cases h with
 |num i hi=>exact⟨i,hi,rfl⟩
 |rc a=>rw[e,c.num]at a;cases a
 |al a=>rw[e,c.num]at a;cases a
theorem xqu{ks:List Kn}(f:KWf ks){x:Str}{k:Kn}{v:D}(e:kAt ks x=some k)(g:k.rc=true)(h:Vk ks x v):∃ws,ws.length=k.parts.length/\(∀(i:Nat) w p,ws[i]?=some w->k.parts[i]?=some p->Vk ks p.2 w)/\v=.tup [.str x,.tup ws]:=by
 cases h with
 |num i hi=>rw[f.num]at e;cases e
 |rc c a j h=>
  rw[e]at c;cases c;exact⟨_,j,h,rfl⟩
 |al c a=>
  rw[e]at c;cases c;rw[g]at a;cases a
theorem xqv{ks:List Kn}(f:KWf ks){x:Str}{k:Kn}{v:D}(e:kAt ks x=some k)(g:k.rc=false)(h:Vk ks x v):∃p∈k.parts,∃w,Vk ks p.2 w/\v=.tup [.str x,.str p.1,w]:=by
 cases h with
 |num i hi=>rw[f.num]at e;cases e
 |rc c a=>
  rw[e]at c;cases c;rw[g]at a;cases a
 |@al _ _ p w c a j h=>
  rw[e]at c;cases c;exact⟨p,j,w,h,rfl⟩
theorem xj4{ks:List Kn}(a:KWf ks):∀(m:Nat) (x:Str) (v:D),KIn ks m x->Vk ks x v->v.deep<=2*m
 | 0,x,v,c,h=>by
  rcases c.look a with⟨e,_⟩ |⟨j,k,e,_⟩
  ·obtain⟨i,_,rfl⟩:=xfr a e h
   exact Nat.zero_le _
  ·cases e
 | m + 1,x,v,c,h=>by
  rcases c.look a with⟨e,_⟩ |⟨j,k,e,f,hn,s,o⟩
  ·obtain⟨i,_,rfl⟩:=xfr a e h
   exact Nat.zero_le _
  ·cases e
   cases r:k.rc with
   | true=>
    obtain⟨ws,u,l,rfl⟩:=xqu a f r h
    have:deeps ws<=2*m:=xfo λd hd=>by
     obtain⟨i,hi,e⟩:=zMI hd;have g:i<k.parts.length:=by omega
     exact xj4 a m _ d (o _ (List.getElem_mem g)) (l i d k.parts[i] (by rw[<- e];exact zGA hi) (zGA g))
    show max 0 (max (deeps ws+1) 0)+1<=2*(m+1);omega
   |false=>
    obtain⟨p,n,w,l,rfl⟩:=xqv a f r h;have:=xj4 a m _ w (o p n) l;show max 0 (max 0 (max w.deep 0))+1<=2*(m+1);omega
def FitB(ks:List Kn)(bs:List (Str×Str))(env:En):Prop:=∀p∈bs,∃v,env p.1=some v/\Vk ks p.2 v
theorem FitB.put{ks:List Kn}{bs:List (Str×Str)}{env:En}{y k:Str}{v:D}(h:FitB ks bs env)(e:∀p∈bs,p.1≠y)(f:Vk ks k v):FitB ks (bs++[(y,k)]) (env.put y v):=λp a=>by
 unfold En.put;rcases zMA a with a |a
 ·obtain⟨c,i,g⟩:=h p a
  exact⟨c,by rw[if_neg (e p a)];exact i,g⟩
 ·rw[zMO a]
  exact⟨v,by rw[if_pos rfl],f⟩
def Sg(s:Str):Prop:=s=S "+"\/s=S "-"\/s=S "*"\/s=S "<"\/s=S "="
def SgD(d:D):Prop:=∀s a b,d=tOpD s a b->Sg s
def Evs(ks:List Kn):Nat->En->D->D->Prop
 |0=>xej
 |n+1=>λenv d v=>xej env d v\/(NodeEv ks (Evs ks n) env d v/\SgD d)
theorem All2.imp3{α β:Type}{R c:α->β->Prop}(k:∀a b,R a b->c a b):∀{as:List α} {bs:List β},All2 R as bs->All2 c as bs
 |_,_,.nil=>.nil
 |_,_,.cons h t=>.cons (k _ _ h) (All2.imp3 k t)
theorem NodeEv.mono{ks:List Kn}{R n:En->D->D->Prop}(k:∀env d v,R env d v->n env d v){env:En}{d v:D}(h:NodeEv ks R env d v):NodeEv ks n env d v:=by
 rcases h with⟨s,a,b,x,y,g,l,r⟩ |⟨j,es,vs,m,g,r⟩ |⟨a,j,vs,f,o,i,g,r⟩ |⟨j,t,a,x,g,r⟩ |⟨a,rs,j,t,x,y,e,m,g,p,l,r⟩ |⟨a,b,c,x,g,l,r⟩
 ·exact .inl ⟨s,a,b,x,y,k _ _ _ g,k _ _ _ l,r⟩
 ·exact .inr (.inl ⟨j,es,vs,m,g.imp3 (k env),r⟩)
 ·exact .inr (.inr (.inl ⟨a,j,vs,f,o,i,k _ _ _ g,r⟩))
 ·exact .inr (.inr (.inr (.inl ⟨j,t,a,x,k _ _ _ g,r⟩)))
 ·exact .inr (.inr (.inr (.inr (.inl ⟨a,rs,j,t,x,y,e,m,k _ _ _ g,p,k _ _ _ l,r⟩))))
 ·exact .inr (.inr (.inr (.inr (.inr ⟨a,b,c,x,k _ _ _ g,k _ _ _ l,r⟩))))
theorem xly{ks:List Kn}:∀(n:Nat) (env:En) (d v:D),Evs ks n env d v->Ev ks n env d v
 |0,_,_,_,h=>h
 |n+1,env,d,v,h=>by
  rcases h with h |⟨h,_⟩
  ·exact .inl h
  ·exact .inr (h.mono (xly n))
theorem xmk{h:Str}{r:List D}(c:h≠S "op"):SgD (.tup (.str h::r)):=λs a b e=>by
 have g:=D.tup.inj e;have f:=(List.cons.inj g).1;exact absurd (D.str.inj f) c
theorem xve{s:Str}{a b:D}(h:Sg s):SgD (tOpD s a b):=λg j i e=>by
 have f:=D.tup.inj e;have c:=(List.cons.inj (List.cons.inj f).2).1;rw[<- D.str.inj c];exact h
def TmOk(ks:List Kn)(n:Nat)(bs:List (Str×Str))(d:D)(x:Str):Prop:=∀env,FitB ks bs env->∃v,Evs ks n env d v/\Vk ks x v
theorem xov{ks:List Kn}{n:Nat}{env:En}{d v:D}(h:xej env d v):Evs ks n env d v:=by
 cases n with
 |zero=>exact h
 |succ n=>exact .inl h
theorem xs5{ks:List Kn}{n:Nat}{bs:List (Str×Str)}{i:Int}(h:Nm i):TmOk ks n bs (tNum i) (S "num"):=λenv _=>⟨.int i,xov (.inl ⟨i,rfl,rfl⟩),.num i h⟩
theorem xs7{ks:List Kn}{n:Nat}{bs:List (Str×Str)}{y x:Str}(h:(y,x)∈bs):TmOk ks n bs (tBox y) x:=λenv a=>by
 obtain⟨v,e,c⟩:=a _ h;exact⟨v,xov (.inr ⟨y,e,rfl⟩),c⟩
theorem xuy{ks:List Kn}(c:KWf ks){n:Nat}{bs:List (Str×Str)}{s:Str}{a b:D}(hs:Sg s)(m:TmOk ks n bs a (S "num"))(l:TmOk ks n bs b (S "num")):TmOk ks (n+1) bs (tOpD s a b) (S "num"):=λenv e=>by
 obtain⟨u,p,g⟩:=m env e;obtain⟨v,o,f⟩:=l env e;obtain⟨i,hi,rfl⟩:=xfr c rfl g;obtain⟨j,h,rfl⟩:=xfr c rfl f;exact⟨_,.inr ⟨.inl ⟨s,a,b,i,j,p,o,hi,h,rfl,rfl⟩,xve hs⟩,.num _ (xt7 s i j)⟩
theorem xm0{ks:List Kn}{n:Nat}{bs:List (Str×Str)}{env:En}(f:FitB ks bs env):∀{es:List D} {ps:List (Str×Str)},All2 (λe (p:Str×Str)=>TmOk ks n bs e p.2) es ps->∃vs,All2 (Evs ks n env) es vs/\vs.length=ps.length/\∀(i:Nat) w p,vs[i]?=some w->ps[i]?=some p->Vk ks p.2 w
 |_,_,.nil=>⟨[],.nil,rfl,λi w p h=>by simp at h⟩
 | _,_,.cons h t=>by
  obtain⟨v,o,m⟩:=h env f;obtain⟨vs,l,j,g⟩:=xm0 f t;refine⟨v::vs,.cons o l,by rw[List.length_cons,List.length_cons,j],λi w p a c=>?_⟩
  cases i with
  |zero=>
   simp at a c;subst a c;exact m
  |succ i=>exact g i w p (by simpa using a) (by simpa using c)
theorem xs4{ks:List Kn}{n:Nat}{bs:List (Str×Str)}{x:Str}{k:Kn}{es:List D}(f:kAt ks x=some k)(a:k.rc=true)(c:k.parts.length<=1000)(h:All2 (λe (p:Str×Str)=>TmOk ks n bs e p.2) es k.parts):TmOk ks (n+1) bs (tRec x es) x:=λenv g=>by
 obtain⟨vs,l,j,i⟩:=xm0 g h;exact⟨_,.inr ⟨.inr (.inl ⟨x,es,vs,by rw[h.length];exact c,l,rfl,rfl⟩),xmk (by walk_at"k")⟩,.rc f a j i⟩
theorem xjf{f:Str}:∀{l:List Str} {i:Nat},l.Nodup->l[i]?=some f->l.findIdx? (λz=>decide (z=f))=some i
 |[],i,_,h=>by simp at h
 |y::l,0,_,h=>by
  simp at h;subst h;simp[List.findIdx?_cons]
 |y::l,i+1,nd,h=>by
  have c:f∈l:=zMG (by simpa using h);have a:¬y=f:=λe=>by subst e;exact(List.nodup_cons.mp nd).1 c
  rw[List.findIdx?_cons,zDF a];have:=xjf (l:=l) (i:=i) (List.nodup_cons.mp nd).2 (by simpa using h);simp[this]
theorem xs6{ks:List Kn}(g:KWf ks){n:Nat}{bs:List (Str×Str)}{y:Str}{k:Kn}{a:D}{p:Str×Str}(f:kAt ks y=some k)(m:k.rc=true)(o:p∈k.parts)(h:TmOk ks n bs a y):TmOk ks (n+1) bs (tGet a p.1) p.2:=λenv s=>by
 obtain⟨v,w,u⟩:=h env s;obtain⟨ws,x,l,rfl⟩:=xqu g f m u;obtain⟨i,hi,e⟩:=zMI o;have c:i<ws.length:=by omega
 have r:=zMF f;have j:k.parts[i]?=some p:=by rw[<- e];exact zGA hi
 exact⟨ws[i],.inr ⟨.inr (.inr (.inl ⟨a,y,ws,p.1,k,i,w,f,xjf (g.pnd k r) (by rw[zGM,j];rfl),zGA c,rfl⟩)),xmk (by walk_at"k")⟩,l i _ p (zGA c) j⟩
theorem xs3{ks:List Kn}{n:Nat}{bs:List (Str×Str)}{x:Str}{k:Kn}{a:D}{p:Str×Str}(f:kAt ks x=some k)(c:k.rc=false)(e:p∈k.parts)(h:TmOk ks n bs a p.2):TmOk ks (n+1) bs (tTag x p.1 a) x:=λenv g=>by
 obtain⟨v,j,i⟩:=h env g;exact⟨_,.inr ⟨.inr (.inr (.inr (.inl ⟨x,p.1,a,v,j,rfl,rfl⟩))),xmk (by walk_at"k")⟩,.al f c e i⟩
theorem xrn {ks:List Kn} (g:KWf ks) {n:Nat} {bs:List (Str×Str)} {x y:Str} {k:Kn} {a:D} {rs:List (Str×Str×D)} (C:kAt ks y=some k) (m:k.rc=false) (I:TmOk ks n bs a y) (u:rs.length<=1000) (nd:(rs.map (·.1)).Nodup)
  (h:∀p∈k.parts,∃z e,(p.1,z,e)∈rs/\(∀q∈bs,q.1≠z)/\TmOk ks n (bs++[(z,p.2)]) e x):TmOk ks (n+1) bs (xmc a rs) x:=λenv c=>by
 obtain⟨v,U,O⟩:=I env c;obtain⟨p,o,w,l,rfl⟩:=xqv g C m O;obtain⟨z,e,s,hz,G⟩:=h p o;obtain⟨j,M,J⟩:=G _ (c.put hz l);obtain⟨i,hi,Y⟩:=zMI s;have:=xeb (f:=λr:Str×Str×D=>r.1) (xs:=rs) (i:=i) (a:=(p.1,z,e)) nd (by rw[<- Y];exact zGA hi);exact⟨j,.inr ⟨.inr (.inr (.inr (.inr (.inl ⟨a,rs,y,p.1,w,z,e,u,U,this,M,rfl⟩)))),xmk (by walk_at"k")⟩,J⟩
theorem xuz{ks:List Kn}(j:KWf ks){n:Nat}{bs:List (Str×Str)}{x:Str}{a b c:D}(p:TmOk ks n bs a (S "num"))(o:TmOk ks n bs b x)(m:TmOk ks n bs c x):TmOk ks (n+1) bs (tIfD a b c) x:=λenv f=>by
 obtain⟨u,h,l⟩:=p env f;obtain⟨i,hi,rfl⟩:=xfr j rfl l;by_cases h0:i=0
 ·obtain⟨v,g,e⟩:=m env f
  exact⟨v,.inr ⟨.inr (.inr (.inr (.inr (.inr ⟨a,b,c,i,h,by rw[if_pos h0];exact g,rfl⟩)))),xmk (by walk_at"k")⟩,e⟩
 ·obtain⟨v,g,e⟩:=o env f
  exact⟨v,.inr ⟨.inr (.inr (.inr (.inr (.inr ⟨a,b,c,i,h,by rw[if_neg h0];exact g,rfl⟩)))),xmk (by walk_at"k")⟩,e⟩
def smS(f:Str->Int)(k:Kn):Int:=if k.rc=true then (k.parts.map λp=>f p.2).sum else match k.parts with |[]=>0 |p::_=>f p.2
def hiS(f:Str->Int)(k:Kn):Int:=if k.rc=true then maxD (k.parts.map λp=>f p.2) else match k.parts with |[]=>0 |p::_=>f p.2
theorem xh6{f g:Str->Int}{k:Kn}(h:∀p∈k.parts,f p.2=g p.2):smS f k=smS g k:=by
 unfold smS;rw[List.map_congr_left h]
 cases a:k.parts with
 |nil=>rfl
 |cons p r=>
  show(if k.rc=true then _ else f p.2)=(if k.rc=true then _ else g p.2);rw[h p (by rw[a];simp)]
theorem xjg{f g:Str->Int}{k:Kn}(h:∀p∈k.parts,f p.2=g p.2):hiS f k=hiS g k:=by
 unfold hiS;rw[List.map_congr_left h]
 cases a:k.parts with
 |nil=>rfl
 |cons p r=>
  show(if k.rc=true then _ else f p.2)=(if k.rc=true then _ else g p.2);rw[h p (by rw[a];simp)]
def smF:Nat->List Kn->Str->Int
 |0,_,_=>1
 |n+1,ks,x=>match kAt ks x with
  |none=>1
  |some k=>1+smS (smF n ks) k
def hiF:Nat->List Kn->Str->Int
 |0,_,_=>1
 |n+1,ks,x=>match kAt ks x with
  |none=>1
  |some k=>1+hiS (hiF n ks) k
theorem xd4{n:Nat}{ks:List Kn}{x:Str}(h:kAt ks x=none):smF (n+1) ks x=1:=by unfold smF;rw[h]
theorem xfj{n:Nat}{ks:List Kn}{x:Str}{k:Kn}(h:kAt ks x=some k):smF (n+1) ks x=1+smS (smF n ks) k:=by
 show(match kAt ks x with |none=>1 |some k=>1+smS (smF n ks) k)=_;rw[h]
theorem xea{n:Nat}{ks:List Kn}{x:Str}(h:kAt ks x=none):hiF (n+1) ks x=1:=by unfold hiF;rw[h]
theorem xfn{n:Nat}{ks:List Kn}{x:Str}{k:Kn}(h:kAt ks x=some k):hiF (n+1) ks x=1+hiS (hiF n ks) k:=by
 show(match kAt ks x with |none=>1 |some k=>1+hiS (hiF n ks) k)=_;rw[h]
theorem xtp{ks:List Kn}(g:KWf ks):∀(m:Nat) (x:Str),KIn ks m x->smF (m+2) ks x=smF (m+1) ks x/\hiF (m+2) ks x=hiF (m+1) ks x:=by
 intro m
 induction m with
 |zero=>
  intro x h;rcases h.look g with⟨_,e⟩ |⟨j,k,f,_⟩
  ·exact⟨(xd4 e).trans (xd4 e).symm,(xea e).trans (xea e).symm⟩
  ·cases f
 | succ m i=>
  intro x h;rcases h.look g with⟨_,e⟩ |⟨j,k,f,c,hn,n,l⟩
  ·exact⟨(xd4 e).trans (xd4 e).symm,(xea e).trans (xea e).symm⟩
  ·cases f
   rw[xfj c,xfj c,xfn c,xfn c,xh6 λp a=>(i p.2 (l p a)).1,xjg λp a=>(i p.2 (l p a)).2];exact⟨rfl,rfl⟩
def smK(ks:List Kn)(x:Str):Int:=smF 7 ks x
def hiK(ks:List Kn)(x:Str):Int:=hiF 7 ks x
theorem xtn{ks:List Kn}(c:KWf ks){m:Nat}{x:Str}(h:KIn ks m x)(e:m<=6):smF (m+1) ks x=smK ks x/\hiF (m+1) ks x=hiK ks x:=by
 have:∀k,smF (m+k+1) ks x=smF (m+1) ks x/\hiF (m+k+1) ks x=hiF (m+1) ks x:=λk=>by
  induction k with
  |zero=>exact⟨rfl,rfl⟩
  |succ k a=>
   have u:=xtp c (m+k) x (h.mono (by omega));exact⟨u.1.trans a.1,u.2.trans a.2⟩
 have u:=this (6-m);rw[show m+(6-m)+1=7 by omega]at u;exact⟨u.1.symm,u.2.symm⟩
theorem xnk{ks:List Kn}(a:KWf ks):smK ks (S "num")=1/\hiK ks (S "num")=1:=⟨xd4 a.num,xea a.num⟩
theorem xto{ks:List Kn}(wf:KWf ks){x:Str}{k:Kn}(hk:kAt ks x=some k):smK ks x=1+smS (smK ks) k/\hiK ks x=1+hiS (hiK ks) k:=by
 have hm:=zMF hk
 have hx:k.name=x:=by
  have:=List.find?_some hk;exact of_decide_eq_true this
 have hin:KIn ks 6 x:=(KIn.of (.inr ⟨k,hm,hx⟩)).mono wf.few;rcases hin.look wf with⟨_,e⟩ |⟨j,k',e0,hk',hn,hm',hp⟩
 ·rw[e]at hk;cases hk
 ·cases e0
  rw[hk]at hk';cases hk';exact⟨(xfj (n:=6) hk).trans (congrArg (λz=>1+z) (xh6 λp hp'=>(xtn wf (hp p hp') (by omega)).1)),(xfn (n:=6) hk).trans (congrArg (λz=>1+z) (xjg λp hp'=>(xtn wf (hp p hp') (by omega)).2))⟩
theorem xh7{ks:List Kn}(h:∀k∈ks,k.parts.length<=5):∀(n:Nat) (x:Str),(1<=smF n ks x/\smF n ks x<=6 ^ n)/\(1<=hiF n ks x/\hiF n ks x<=n+1)
 |0,x=>⟨⟨Int.le_refl _,Int.le_refl _⟩,⟨Int.le_refl _,Int.le_refl _⟩⟩
 | n + 1,x=>by
  have s:(1:Int)<=6 ^ n:=Int.pow_pos (by decide);have o:(6:Int) ^ (n+1)=6*6 ^ n:=by rw[Int.pow_succ,Int.mul_comm]
  cases c:kAt ks x with
  |none=>
   rw[xd4 c,xea c];exact⟨⟨Int.le_refl _,by rw[o];omega⟩,Int.le_refl _,by push_cast;omega⟩
  | some k=>
   rw[xfj c,xfn c];have m:=h k (zMF c);have g:=λy=>xh7 h n y
   have hs:∀(l:List (Str×Str)),0<=(l.map λp=>smF n ks p.2).sum/\(l.map λp=>smF n ks p.2).sum<=l.length*6 ^ n:=by
    intro l
    induction l with
    |nil=>simp
    |cons a r f=>
     have i:=(g a.2).1;rw[List.map_cons,List.sum_cons,List.length_cons];push_cast;rw[Int.add_mul];omega
   have j:∀(l:List (Str×Str)),0<=maxD (l.map λp=>hiF n ks p.2)/\maxD (l.map λp=>hiF n ks p.2)<=n+1:=by
    intro l
    induction l with
    |nil=>show 0<=(0:Int)/\(0:Int)<=n+1;omega
    |cons a r f=>
     have i:=(g a.2).2;have e:maxD ((a::r).map λp=>hiF n ks p.2)=max (hiF n ks a.2) (maxD (r.map λp=>hiF n ks p.2)):=rfl;rw[e];omega
   have i:=hs k.parts;have z:(k.parts.length:Int)*6 ^ n<=5*6 ^ n:=Int.mul_le_mul_of_nonneg_right (by omega) (by omega);have w:=j k.parts;unfold smS hiS;push_cast
   cases k.rc with
   |true=>
    rw[if_pos rfl,if_pos rfl];refine⟨⟨?_,?_⟩,?_,?_⟩ <;> omega
   | false=>
    rw[if_neg (by decide),if_neg (by decide)]
    cases k.parts with
    |nil=>
     refine⟨⟨?_,?_⟩,?_,?_⟩ <;> dsimp only <;> omega
    |cons p r=>
     have u:=g p.2;refine⟨⟨?_,?_⟩,?_,?_⟩ <;> dsimp only <;> omega
theorem xlf{ks:List Kn}(a:KWf ks)(x:Str):1<=smK ks x/\smK ks x<=279936/\1<=hiK ks x/\hiK ks x<=8:=by
 have:=xh7 a.pts 7 x;have e:(6:Int) ^ 7=279936:=by decide
 unfold smK hiK;omega
end M
end
section
namespace L2
open PySem PySem.Spec PyProof.Rows M
section
variable {X:Cx}
def rEqE(K:Fg):R2:=λx y H Q=>∃a b xs,x=.ref a/\y=.ref b/\SqL K H a xs/\SqL K H b []/\Q (.bl xs.isEmpty) H
theorem xt6(m:X.A.units<cLine):OpR X (compareOp .Eq) (rEqE X.K):=by
 intro f s σ H x y v u Q I o n h;obtain⟨a,b,xs,rfl,rfl,C,z,q⟩:=h;cases o;cases n;obtain⟨its,r,i,_⟩:=I.list C;obtain⟨l,p,g,_⟩:=I.list z;have c:=r.length;have w:=p.length
 cases xs with
 | nil=>
  refine SeqAt.eq_listAt (e:=λ_=>true) i.isList g.isList (by simp only[List.size_toArray];omega) m (λj G J=>?_) ⟨.bl _,H,I,rfl,?_⟩
  ·simp only[List.size_toArray]at G
   simp at c;omega
  ·have:its=[]:=List.eq_nil_of_length_eq_zero (by simpa using c.symm)
   subst this;exact q
 |cons x xs=>
  refine PySem.EqBoolInt.of_rc (SeqAt.RcAt.lists_lengths i.isList g.isList (by simp only[List.size_toArray];simp at c w⊢;omega) m) ⟨.bl _,H,I,rfl,?_⟩;simpa using q
end
end L2
end
section
end
section
end
section
end
section
end
section
end
section
end
section
end
section
end
section
namespace M
open PySem L2
def byN(j:Nat):Str:=ofL [98,121,97+j]
theorem xs0{i j:Nat}(h:byN i=byN j):i=j:=by
 have:=congrArg L h;unfold byN at this;rw[xd1,xd1]at this;simp at this;exact this
def NoBy(x:Str):Prop:=∀j:Nat,x≠byN j
theorem xvm{l:List Nat}(h:l[0]?≠some 98\/l[1]?≠some 121):NoBy (ofL l):=λj e=>by
 have:=congrArg L e;unfold byN at this;rw[xd1,xd1]at this;subst this;simp at h
theorem xk0{c:Nat}(h:c∈five):c≠98/\c≠121:=by
 revert h;unfold five;simp;omega
theorem xrc{cs:List Nat}(h:∀c∈cs,c∈five)(a:Nat)(b:Int)(k:Nat)(t:List Nat)(i:∀c∈t,c∈five):NoBy (ofL (nmA cs a b k++t)):=by
 apply xvm;unfold nmA
 cases g:cs.take a with
 |nil=>
  right;rw[List.nil_append,List.cons_append,List.getElem?_cons_succ];intro e;have f:=zMG e;rcases zMA f with f |f
  ·exact(xk0 (h _ (List.mem_of_mem_drop f))).2 rfl
  ·exact(xk0 (i _ f)).2 rfl
 |cons c r=>
  left;intro e;simp at e;have:c∈cs.take a:=by rw[g];simp
  exact(xk0 (h c (List.mem_of_mem_take this))).1 e
theorem xsk{cs:List Nat}{a:Nat}{b:Int}(e:∀c∈cs,c∈five):∀z∈((List.range 26).map λk=>ofL (nmA cs a b k)),NoBy z:=λz hz=>by
 obtain⟨k,_,rfl⟩:=zMP hz;have:=xrc e a b k [] (λ_ h=>nomatch h);rw[List.append_nil]at this;exact this
theorem xsi{cs:List Nat}{a:Nat}{b:Int}(f:∀c∈cs,c∈five):∀z∈((List.range 26).map λk=>ofL (nmB cs a b k)),NoBy z:=λz hz=>by
 obtain⟨k,_,rfl⟩:=zMP hz;unfold nmB;exact xrc f a b _ _ λc e=>by rw[List.eq_of_mem_replicate e];decide
theorem xqq{i:Nat}(h:i<8):atI (S "abcdefgh").cps.toList (i:Int)=some (97+i):=by
 have all:∀k,k<8->(S "abcdefgh").cps.toList[k]?=some (97+k):=by walk_at"k"
 exact xa2 (all i h)
theorem xqt(i:Nat):S "by"++(⟨#[97+i]⟩:Str)=byN i:=by
 apply xpb;rw[xed,show L (S "by")=[98,121] by walk_at"k"];rfl
def BxAt(H:Hp)(f:Addr)(bv:V)(bs:List (Str×Str)):Prop:=∃bl us,bv=.ref bl/\H bl=some (.lst us)/\RelDs H us (bs.map xk3)/\bl≠f
def xvy(bs:List (Str×Str))(m:Nat):Prop:=∀b∈bs,∀j,j<m->b.1≠byN j
def PNB(ks:List Kn):Prop:=∀k∈ks,∀p∈k.parts,NoBy p.1
structure TIn(H:Hp)(f:Addr)(kv bv:V)(ks:List Kn)(bs:List (Str×Str))(m:Nat):Prop where
 fd:∃p q:Int,H f=some (.lst [.int p,.int q])
 kd:RelD H kv (xdf ks)
 wf:KWf ks
 nb:PNB ks
 bx:BxAt H f bv bs
 nd:(bs.map (·.1)).Nodup
 bl:bs.length+m<=30
 fr:xvy bs m
 kn:∀b∈bs,KIn ks 6 b.2
theorem TIn.same{H g:Hp}{f:Addr}{a c:V}{ks:List Kn}{bs:List (Str×Str)}{m:Nat}(h:TIn H f a c ks bs m)(s:Same H g):TIn g f a c ks bs m:=by
 obtain⟨p,q,j⟩:=h.fd;obtain⟨o,us,e,l,i,n⟩:=h.bx;exact⟨⟨p,q,s _ _ j⟩,h.kd.same s _,h.wf,h.nb,⟨o,us,e,s _ _ l,i.same s _,n⟩,h.nd,h.bl,h.fr,h.kn⟩
theorem TIn.fed{H g:Hp}{f:Addr}{a c:V}{ks:List Kn}{bs:List (Str×Str)}{m:Nat}(h:TIn H f a c ks bs m)(s:Fed f H g):TIn g f a c ks bs m:=by
 obtain⟨l,us,e,j,i,n⟩:=h.bx;exact⟨s.2,h.kd.tups (xah h.fd s) _,h.wf,h.nb,⟨l,us,e,s.1 _ _ j n,i.tups (xah h.fd s) _,n⟩,h.nd,h.bl,h.fr,h.kn⟩
theorem TIn.down{H:Hp}{f:Addr}{c e:V}{ks:List Kn}{bs:List (Str×Str)}{m a:Nat}(h:TIn H f c e ks bs m)(l:a<=m):TIn H f c e ks bs a:=
 ⟨h.fd,h.kd,h.wf,h.nb,h.bx,h.nd,by have:=h.bl;omega,λb g j i=>h.fr b g j (by omega),h.kn⟩
end M
end
section
set_option maxHeartbeats 400000
end
section
namespace L2
open PySem PySem.Spec PyProof.Rows M
section
variable {X:Cx}{K:Fg}
theorem xa1{c:Expr}(f:X.K=K){l:Expr}{a:TE}(e:PE X l a):PI X c l (iTup K a):=by subst f;exact xtx e
theorem xcf{c:Expr}(f:X.K=K){l:Expr}{a:TE}(e:PE X l a):PI X c l (xuj K a):=by subst f;exact xr4 e
theorem xbo(a:X.K=K):xef X (.type "tuple") (λxs H Q=>∃p ys,xs=[.ref p]/\((SqL K H p ys/\∀l,H l=none->Q (.ref l) (upd H l (.tup ys)))\/(SqT K H p ys/\Q (.ref p) H))):=by subst a;exact xhu
theorem xlu(a:X.K=K):OpR X (binaryOp .Add) (xq4 K):=by subst a;exact xpr
end
section
variable {X:Cx}
theorem va(i:Nat){x:Str}{p:Pos}{es:List Expr}{t:TA}(e:PA X es t)(f:X.N[i]?=some x:=by rfl)(c:Vis X.env.scope x:=by first |exact Or.inl rfl |exact Or.inr (Or.inl rfl) |exact Or.inr (Or.inr rfl))(hd:(x == ("__debug__":Str))=false:=by decide)(a:(x == ("__classdict__":Str))=false:=by decide):PA X (.Name x p::es) (xrs (tVar i) t):=zpc (pv i f c hd a) e zsn
theorem v1(i:Nat){x:Str}{p:Pos}(e:X.N[i]?=some x:=by rfl)(c:Vis X.env.scope x:=by first |exact Or.inl rfl |exact Or.inr (Or.inl rfl) |exact Or.inr (Or.inr rfl))(hd:(x == ("__debug__":Str))=false:=by decide)(a:(x == ("__classdict__":Str))=false:=by decide):PA X [.Name x p] (xrs (tVar i) tNil):=va i pN e c hd a
theorem psn(i:Nat){x:Str}{e:Expr}{c:TE}{pos a:Pos}(j:X.N.Nodup)(h:PE X e c)(hi:X.N[i]?=some x:=by rfl)(f:Loc X.env.scope x:=by first |exact Or.inl rfl |exact Or.inr rfl)(hs:swapsWith e (some (.Name x a)) pos.line X.env=pure false:=by rfl)(g:X.fn x=true\/X.env.scope.names.lookup x=some .local:=by first |exact .inl rfl |exact .inr rfl |assumption):PS X (.Assign [.Name x a] e pos) (tAsg c (xgc i)):=xtw j hi f h hs g
theorem pgn(i:Nat){x:Str}{pos:Pos}(e:X.N.Nodup)(hi:X.N[i]?=some x:=by rfl)(a:Loc X.env.scope x:=by first |exact Or.inl rfl |exact Or.inr rfl)(c:X.fn x=true\/X.env.scope.names.lookup x=some .local:=by first |exact .inl rfl |exact .inr rfl |assumption):PG X (.Name x pos) (xgc i):=xns e hi a c
theorem px(K:Fg){a b:Expr}{e c:TE}{pos:Pos}(g:PE X a e)(f:PE X b c)(h:X.K=K:=by rfl)(hs:xk7 b:=by exact λ_ _=>rfl):PE X (.Subscript a b pos) (tOp (rIxT K) e c):=xmi (xsr h) g f hs
theorem pxl(K:Fg){a b:Expr}{e c:TE}{pos:Pos}(g:PE X a e)(f:PE X b c)(h:X.K=K:=by rfl)(hs:xk7 b:=by exact λ_ _=>rfl):PE X (.Subscript a b pos) (tOp (rIxL K) e c):=xmi (xqi h) g f hs
theorem pgc(i:Nat){x:Str}{pos:Pos}(hi:X.N[i]?=some x:=by rfl)(hN:X.N.Nodup:=by exact of_decide_eq_true (by kernel_rfl))(hx:Loc X.env.scope x:=by exact Or.inl rfl)(hf:X.fn x=true\/X.env.scope.names.lookup x=some .local:=by first |exact .inl rfl |exact .inr rfl |assumption):PG X (.Name x pos) (xgc i):=xns hN hi hx hf
end
end L2
end
section
namespace L2
open PySem PySem.Spec PyProof.Rows
open PySem.W in
def xrj(K:Frag)(x:Str)(fs:List Str):Bool:=
 plainGet K (ad K x) Str.empty && (hasDictIn K (ad K x) && (plainOver K (ad K x) && (findIn K (.ref (ad K x)) "__setattr__" == some (some (.builtin "object.__setattr__")) && (makesIn K (ad K x) && (keepIn K (.ref (ad K x)) &&
 fs.all λf=>findIn K (.ref (ad K x)) f == some none)))))
structure DTab(K:Fg)(x:Str)(fs:List Str):Prop where
 cl:Cls K (ad K x)
 ms:PySem.W.makesIn K (ad K x)=true
 kp:PySem.W.keepIn K (.ref (ad K x))=true
 no:∀f∈fs,NoAttr K (ad K x) f
theorem dtab_of{K:Fg}{x:Str}{fs:List Str}(e:xrj K x fs=true):DTab K x fs:=by
 unfold xrj at e;simp only[Bool.and_eq_true,List.all_eq_true,beq_iff_eq]at e;obtain⟨j,i,h,g,f,c,a⟩:=e;exact⟨⟨j,i,h,g⟩,f,c,a⟩
structure MethTx(K:Fg)(q:Str)(C:Addr)(m:Str)(st:Stmt)(ps:List Str)(dss:List (List Value)):Prop where
 ex:∃(f:Addr) (dV kV doc pm:Value) (an:Option Addr) (cdv ct oc:Value) (od:Option Addr) (osl:Array (Option Value)),PySem.W.findIn K (.ref C) m=some (some (.ref f))/\PySem.W.isFn K (.ref f)=true/\PySem.W.keepIn K (.ref f)=true ∧
  K.lookup f=some ⟨oc,od,.func (PySem.W.fnOf m q (xc5 st) (xco st) (xae st) dV kV doc pm an cdv ct),osl⟩/\PySem.W.codeIn K cdv q=true/\∀ds∈dss,Binds K (PySem.W.fnOf m q (xc5 st) (xco st) (xae st) dV kV doc pm an cdv ct) ps ds
theorem meth_mk {K:Fg} {x q m:Str} {C f:Addr} {st:Stmt} {ps:List Str} {r:Value} {od p:Option Addr} {o:Array (Option Value)} {kV g j e ct:Value} (a:PySem.W.nsIn K mainGlobals x=some (some (.ref C)))
  (i:PySem.W.findIn K (.ref C) m=some (some (.ref f))) (n:PySem.W.isFn K (.ref f)=true)
  (l:K.lookup f=some ⟨r,od,.func (PySem.W.fnOf m q (xc5 st) (xco st) (xae st) .none kV g j p e ct),o⟩) (c:PySem.W.codeIn K e q=true) (k:PySem.W.keepIn K (.ref f)=true)
  (b:∀(kV g j:Value) (p:Option Addr) (e ct:Value) (us:List Value),us.length=ps.length->bindArgs (PySem.W.fnOf m q (xc5 st) (xco st) (xae st) .none kV g j p e ct) ⟨us,[]⟩=pure (ps.zip us)):MethTx K q (ad K x) m st ps [[]]:=by
 rw[xuu a];exact⟨f,_,kV,g,j,p,e,ct,r,od,o,i,n,k,l,c,λds h=>by rw[zMO h];exact Binds.all (b kV g j p e ct)⟩
theorem meth_mkD {K:Fg} {x q m:Str} {C f T:Addr} {st:Stmt} {ps:List Str} {oc:Value} {od an:Option Addr} {osl:Array (Option Value)} {kV doc pm cdv ct:Value} {o:Obj} {N:Nat} (a:PySem.W.nsIn K mainGlobals x=some (some (.ref C)))
  (i:PySem.W.findIn K (.ref C) m=some (some (.ref f))) (n:PySem.W.isFn K (.ref f)=true)
  (l:K.lookup f=some ⟨oc,od,.func (PySem.W.fnOf m q (xc5 st) (xco st) (xae st) (.ref T) kV doc pm an cdv ct),osl⟩) (c:PySem.W.codeIn K cdv q=true) (k:PySem.W.keepIn K (.ref f)=true) (d:K.lookup T=some o) (e:o.data=.seq #[.none] N)
  (b:∀(s:Shared) (T:Addr) (kV doc pm:Value) (an:Option Addr) (cdv ct:Value) (us ds:List Value),K.In s.heap->K.lookup T=some o->o.data=.seq #[.none] N->ds=[.none]\/ds=[]->(us++ds).length=ps.length->BindsTo s (PySem.W.fnOf m q (xc5 st) (xco st) (xae st) (.ref T) kV doc pm an cdv ct) ⟨us,[]⟩ (ps.zip (us++ds))):MethTx K q (ad K x) m st ps [[.none],[]]:=by
 rw[xuu a];exact⟨f,_,kV,doc,pm,an,cdv,ct,oc,od,osl,i,n,k,l,c,λds h s us hk hl=>b s T kV doc pm an cdv ct us ds hk d e (by simpa using h) hl⟩
structure MethIs(P:Program)(w:World)(K:Fg)(mg:Str->Option Value)(base:Heap)(n:Nat)(C:Addr)(m:Str)(ps:List Str)(dss:List (List Value))(sp:Sp):Prop where
 ex:∃(f:Addr) (fd:FuncData),Meth K C m f/\FnOk P w K mg base CX0 n f fd ps sp/\∀ds∈dss,Binds K fd ps ds
section
variable {P:Program}{w:World}{K:Fg}{mg:Str->Option Value}{base:Heap}{n n':Nat}{q m:Str}{C:Addr}{st:Stmt}{ps N:List Str}{sp:Sp}{dss:List (List Value)}
theorem MethIs.of (T:MethTx K q C m st ps j) (S:FnScope N ps (xae st)) (len:∀vs H Q E,sp vs H Q E->vs.length=ps.length)
  (e:∀(f:Addr) (a:Value) (A:Around) (outer:List Env) (s:Shared) (H:Hp) (vs:List V) (Q:VK) (E:XK),Room n (A.deeper (envOfC q (xae st) s.heap.objs.size f a))->sp vs H Q E->
   ∃t,PSs (cxOf CX0 P w K r base N q (xae st) f a A outer s H E).nox (xco st) t/\t {nx:=λ_ y=>Q .non y,rt:=Q} (xe9 N vs) H):MethIs P w K r base (n+1) C m ps j sp:=by
 obtain⟨f,I,kV,x,z,J,a,ct,G,od,o,i,p,k,l,c,b⟩:=T.ex;refine⟨f,_,⟨i,p,k⟩,xum l c S len λA outer s H vs Q E u g=>?_,b⟩;obtain⟨t,h,q⟩:=e f a A outer s H vs Q E u g;exact⟨t,h.nox,q⟩
end
section
variable {X:Cx}{n:Nat}{x m:Str}{ps:List Str}{sp:Sp}{p pos apos:Pos}{fs:List Str}{C:Addr}{dss:List (List Value)}{ds:List Value}{dvs:List V}{e o:Expr}{es:List Expr}{t:TA}{ta:TE}
theorem xcc {pl:Sem Bool} (D:MethIs X.prog X.w X.K X.mg X.base n C m ps [[]] sp) (c:Cls X.K C) (i:Room n X.A) (j:PE X o g)
  (h:eval (.Call (.Attribute o m a) [] [] pos) X.env=(do
   let e <- eval o X.env
   standAt a.atName
   let (f,first) <- holding [e] (getMethod e m pl)
   callWith pos f first (backTo pos (starEach [] X.env)) (backToKw pos (keywordEach [] X.env))):=by rfl):PE X (.Call (.Attribute o m a) [] [] pos) (xtc C m sp [] E0 g tNil):=by
 obtain⟨f,l,M,F,b⟩:=D.ex;exact xpq j c M F i (b [] (by simp)) .nil xsb h
theorem xik (D:MethIs X.prog X.w X.K X.mg X.base n (ad X.K x) "__init__" ps dss sp) (M:DTab X.K x fs) (hr:Room (n+1) X.A) (hm:X.mg x=some (.ref (ad X.K x))) (hds:ds∈dss) (hd:Vals dvs ds) (ha:PA X (e::es) t) (hg:Gl X x:=by rfl) (hdb:(x == ("__debug__":Str))=false:=by decide)
  (he:starEach (e::es) X.env=(false,eval e X.env)::starEach es X.env:=by rfl) (hpl:(backTo pos (starEach es X.env)).any (·.1)=false:=by rfl):PE X (.Call (.Name x p) (e::es) [] pos) (xtd (ad X.K x) sp dvs E0 t):=by
 obtain⟨f,fd,N,F,b⟩:=D.ex;exact xr6 ⟨M.ms,N.at_,N.fn,M.kp⟩ F hr hg hm (b ds hds) hd xsb ha hdb he hpl
end
section
variable {X:Cx}
theorem Inv.reH {pins:List (Addr×Obj)} {σ:St} {H:Hp} {s:Shared} {a:Addr} {o u:HO} (I:Inv X pins σ H s) (ha:H a=some o) (n1:∀xs,o≠.tup xs) (n2:∀ps,o≠.tbl ps) (n3:∀x,o≠.own x) (nz:∀ob v,X.H₀ a≠some (.frz ob v))
  (new:ObjOk X.prog X.w (upd H a u) s.heap a u):Inv X pins σ (upd H a u) s:=by
 have hn:∀{b:Addr},H b=none->upd H a u b=none:=λ{b} e=>by
  rw[xad λz=>by rw[z,ha]at e;cases e];exact e
 have hs:∀{b:Addr} {v:HO},H b=some v->v≠o->upd H a u b=some v:=λ{b v} e ne=>by
  rw[xad λz=>by rw[z,ha]at e;exact ne (Option.some.inj e).symm];exact e
 refine⟨I.ok,I.os,I.bare,⟨I.base.keep,I.base.slot,λb ob e n hx=>hn (I.base.free b ob e n hx),I.base.there,λb xs e=>hs (I.base.tups b xs e) λz=>n1 xs z.symm,λb ob v e=>?_,λb ps e=>?_⟩,I.loc,I.cell,hn I.free,λx c e=>hn (I.freeC x c e),λp hp=>?_,λb v e=>?_,I.len⟩
 ·rw[xad λz=>by subst z;exact nz ob v e]
  exact I.base.frzs b ob v e
 ·obtain⟨more,e'⟩:=I.base.tbls b ps e
  exact⟨more,hs e' λz=>n2 _ z.symm⟩
 ·obtain⟨q1,q2,q3⟩:=I.pin p hp
  exact⟨q1,hn q2,q3⟩
 ·by_cases hb:b=a
  ·subst hb
   rw[ups]at e;cases e;exact new
  ·rw[xad hb]at e
   exact(I.hok b v e).stay (λ_ _ _ q=>q) (λc q=>hs q λz=>n3 _ z.symm) λc xs q=>hs q λz=>n1 _ z.symm
def NoFz(H0:Hp)(a:Addr):Prop:=∀ob u,H0 a≠some (.frz ob u)
theorem Inv.noFz{c:List (Addr×Obj)}{σ:St}{H:Hp}{s:Shared}{a:Addr}{kvs:List (Key×V)}(I:Inv X c σ H s)(g:H a=some (.dK kvs)):NoFz X.H₀ a:=λf u e=>by
 have:=I.base.frzs a f u e;rw[g]at this;cases this
theorem Inv.freeze{pins:List (Addr×Obj)}{σ:St}{H:Hp}{s:Shared}{a:Addr}{ob:Obj}{kvs:List (Key×V)}(I:Inv X pins σ H s)(ha:H a=some (.dK kvs))(e:s.heap.get? a=some ob):Inv X pins σ (upd H a (.frz ob (.dK kvs))) s:=by
 refine I.reH ha (λ_ z=>by cases z) (λ_ z=>by cases z) (λ_ z=>by cases z) (I.noFz ha) ⟨e,?_⟩;obtain⟨z,y,r⟩:=(show ObjOk X.prog X.w H s.heap a (.dK kvs) from I.hok a _ ha);exact⟨z,y,r⟩
theorem Inv.thaw{c:List (Addr×Obj)}{σ:St}{H:Hp}{s:Shared}{a:Addr}{e:Obj}{kvs:List (Key×V)}(I:Inv X c σ H s)(f:H a=some (.frz e (.dK kvs)))(g:NoFz X.H₀ a):Inv X c σ (upd H a (.dK kvs)) s:=by
 obtain⟨_,z,y,r⟩:=(show ObjOk X.prog X.w H s.heap a (.frz e (.dK kvs)) from I.hok a _ f);exact I.reH f (λ_ z=>by cases z) (λ_ z=>by cases z) (λ_ z=>by cases z) g ⟨z,y,r⟩
theorem xlx{P:Program}{w:World}{H:Hp}{h:Heap}{a:Addr}{o:Obj}{kvs:List (Key×V)}{es:Array DictEntry}{ep:Nat}(ok:HOk P w H h)(e:H a=some (.frz o (.dK kvs)))(hd:o.data=.dict es ep):∃vs,KV kvs vs/\h.DictAt (xbq P w) a vs ep:=by
 obtain⟨g,_,_,vs,r,j,es',i,f,c,d,q⟩:=(show ObjOk P w H h a (.frz o (.dK kvs)) from ok a _ e);rw[g]at f;cases f;rw[hd]at d;cases d;exact⟨vs,r,o,es,g,c,hd,q⟩
def xu0(H0:Hp)(N:St->Hp->Prop):St->Hp->Prop:=λσ H=>∃a o,∃kvs:List (Key×V),H a=some (.frz o (.dK kvs))/\NoFz H0 a/\N σ (upd H a (.dK kvs))
theorem xr2{st:Stmt}{t:TS}(h:PS X st t):PS X st (λD σ H=>t {D with nx:=xu0 X.H₀ D.nx} σ H):=by
 intro c s σ H D I l;refine thn (h c s σ H _ I l) λf n q=>?_
 cases f with
 |next=>
  obtain⟨g,p,m,a,o,kvs,e,j,i⟩:=q;exact⟨g,_,m.thaw e j,i⟩
 |cont=>exact q
 |brk=>exact q
 |ret v=>exact q
end
section
variable {X:Cx}
def Itm(a:Addr)(o:Obj)(kvs:List (Key×V)):It:=
 ⟨λi H=>H a=some (.frz o (.dK kvs))/\i<kvs.length,λi H x H'=>∃p kv,x=.ref p/\H p=none/\kvs[i]?=some kv/\H'=upd H p (.tup [kV kv.1,kv.2]),λi H=>H a=some (.frz o (.dK kvs))/\kvs.length<=i⟩
theorem xmb{P:Program}{w:World}{K:Fg}{r:List Expr}{x1}{pos:Pos}{a it:Addr}{o:Obj}{kvs:List (Key×V)}{es:Array DictEntry}{ep:Nat}(a0:a≠it)(hd:o.data=.dict es ep):Turn P w K (.Tuple r x1 pos) (Itm a o kvs) [it] it (λi h=>∃ok m,IsItemIter h it a i kvs.length ep ok m) where
 mem:=by simp
 obj:=λi h st b j=>by
  have e:b=it:=by simpa using j
  subst e;obtain⟨_,_,e⟩:=st;exact⟨_,e,λv z=>by cases z⟩
 keep:=λi h h' st k=>by
  obtain⟨ok,m,e⟩:=st;exact⟨ok,m,k it (by simp) _ e⟩
 item:=by
  intro X O C U hc i c s σ H E I x st J;subst O C U;obtain⟨M,hi⟩:=J;obtain⟨vs,f,dat⟩:=xlx I.hok M hd;have u:=f.length;have l:i<vs.length:=by omega
  obtain⟨ok,m,st⟩:=st;rw[u]at st;refine wpAny_pyNext_items_item (kvs:=vs) (k:=vs[i].1) (v:=vs[i].2) st dat (by rw[zGA l]) λg h1 n a1 a3 a4 a5=>⟨_,rfl,?_⟩;refine wpAny_letOwnedTupleGo_items a1 λh2 b1 b2=>?_;have ek:=KV.get f (zGA hi) (zGA l);obtain⟨v,hv,rv⟩:=KV.get2 f (zGA l);have G:H s.heap.objs.size=none:=I.hok.fresh (Nat.le_refl _);have y:it<s.heap.objs.size:=Heap.lt_size st;have g1:(s.heap.push {cls:=.type "tuple",data:=.seq #[g,vs[i].2]}).get? s.heap.objs.size=some {cls:=.type "tuple",data:=.seq #[g,vs[i].2]}:=Heap.get?_push_size _ rfl
  have I1:Inv X c σ (upd H s.heap.objs.size (.tup [kV vs[i].1,v])) {s with heap:=s.heap.push {cls:=.type "tuple",data:=.seq #[g,vs[i].2]}}:=
   I.laid (t':=s.toks) (λb o q=>zPO _ q) (Nat.le_refl _) ⟨by show 2<=sizeLine;decide,[g,vs[i].2],.cons (xvo n) (.cons rv .nil),⟨_,g1,rfl,_,rfl,rfl⟩⟩
  have p:∀b∈[it],FpOk X c (upd H s.heap.objs.size (.tup [kV vs[i].1,v])) b:=λb j=>by
   refine⟨?_,(x b j).2⟩;have e:b=it:=by simpa using j
   subst e;rw[xad (Nat.ne_of_lt y)];exact(x b j).1
  have I2:Inv X c σ (upd H s.heap.objs.size (.tup [kV vs[i].1,v])) {s with heap:=h2}:=
   I1.turnedL (t':=s.toks) (λb o j q=>by
    have Z:b≠it:=by simpa using j
    have q1:h1.get? b=some o:=by
     by_cases z:b=s.heap.objs.size
     ·subst z
      have Y:(s.heap.push {cls:=.type "tuple",data:=.seq #[g,vs[i].2]}).get? s.heap.objs.size=some o:=q;rw[g1]at Y;cases Y;exact a3
     ·exact a5 b o Z (xky q z)
    exact(b2.2 b Z).trans q1) p
  rw[<- u]at b1;exact⟨.ref s.heap.objs.size,_,I2,rfl,⟨_,_,rfl,G,hv,rfl⟩,⟨_,_,b1⟩,λb j=>(p b j).1⟩
 done:=by
  intro X O C U hc i c s σ H E I x st J;subst O C U;obtain⟨M,hi⟩:=J;obtain⟨vs,f,dat⟩:=xlx I.hok M hd;have u:=f.length;obtain⟨ok,m,st⟩:=st;rw[u]at st;obtain⟨f0,f1,f2,f3,f4,f5⟩:=x it (by simp);exact wpAny_pyNext_items_end (I.ok.hd hc) (kvs:=vs) st dat (List.getElem?_eq_none (by omega)) λh' eb=>⟨rfl,I.turned (t':=s.toks) (λb o j e=>eb b o j e) f0 f1 f3 f4 f5⟩
 self:=λ_ _ _ _ _ st h=>by
  obtain⟨ok,m,st⟩:=st;exact PySem.W.kcp_self st h
def xuk(H0:Hp)(td:TE):TI:=λσ H R=>td σ H λx H1=>∃a,∃kvs:List (Key×V),x=.ref a/\H1 a=some (.dK kvs)/\∀o,NoFz H0 a->R (Itm a o kvs) (upd H1 a (.frz o (.dK kvs)))
theorem xpp {elts:List Expr} {x1} {tp:Pos} {o:Expr} {td:TE} {apos q2:Pos} (ho:PE X o td) (hbase:attributeBase o "items" X.env (eval o X.env)=eval o X.env:=by rfl) (hline:(apos.endLine == q2.line)=true:=by rfl) :
  PI X (.Tuple elts x1 tp) (.Call (.Attribute o "items" apos) [] [] q2) (xuk X.H₀ td):=by
 intro pins s σ H R I h;refine wpAny_Call_method0_late hbase hline (thn (ho pins s σ H _ I h) λv s1 ⟨x,H1,I1,r1,q1⟩=>?_);obtain⟨a,kvs,e,ha,q⟩:=q1;subst e;obtain rfl:v=.ref a:=r1;obtain⟨t1,t2,_⟩:=xje I1 (.inl ⟨kvs,.inl ha⟩);obtain⟨z,hd,vs,rel,dd⟩:=xjo I1.hok ha;have hlen:=rel.length;refine⟨"dict","dict.items",PySem.F.plainAttrs_dict,PySem.F.slot_dict_items,PySem.F.type_dict_items,t1,t2,Calls.callWith_builtin rfl (PySem.evalArgs_none ?_)⟩;refine call_meetsIn PySem.F.slot_dict_items dd.typeIs PySem.F.entry_dict_items (PySem.F.args_dict_items_1 _) (meets_dict_items (xbq X.prog X.w) a hd) ⟨⟨vs,dd⟩,?_⟩;obtain⟨ep,hat⟩:=(dd.push {cls:=.type "dict_items",data:=.fields #[.ref a]}).dictAt;obtain⟨ob,es,hob,hx,hdat,_⟩:=id hat;refine wpAny_pyIter_items (kvs:=vs) (ep:=ep) ⟨_,Heap.get?_push_size _ rfl,rfl,rfl⟩ hat ?_;have I2:Inv X pins σ H1 {s1 with heap:=s1.heap.push {cls:=.type "dict_items",data:=.fields #[.ref a]}}:=I1.kept (t':=s1.toks) λb o e=>zPO _ e;have I3:=I2.freeze ha hob;have hn:upd H1 a (.frz ob (.dK kvs)) (s1.heap.push {cls:=.type "dict_items",data:=.fields #[.ref a]}).objs.size=none:=I3.hok.fresh (Nat.le_refl _);refine⟨(s1.heap.push {cls:=.type "dict_items",data:=.fields #[.ref a]}).objs.size,[(s1.heap.push {cls:=.type "dict_items",data:=.fields #[.ref a]}).objs.size],_,_,_,rfl,I3.kept (t':=s1.toks) λb o e=>zPO _ e,xmb (λz=>?_) hdat,⟨.none,.none,?_⟩,λb hb=>?_,q ob (I1.noFz ha)⟩
 ·rw[<- z,ups]at hn
  cases hn
 ·rw[hlen]
  exact Heap.get?_push_size _ rfl
 ·have e:b=(s1.heap.push {cls:=.type "dict_items",data:=.fields #[.ref a]}).objs.size:=by simpa using hb
  subst e;exact I3.fpOk (Nat.le_refl _) hn
theorem xr5{e:Expr}{t:TE}(h:PE X e t):PE X e (λσ H Q=>t σ H λv H'=>∃a o,∃kvs:List (Key×V),H' a=some (.frz o (.dK kvs))/\NoFz X.H₀ a/\Q v (upd H' a (.dK kvs))):=by
 intro pins s σ H Q I hh;refine thn (h pins s σ H _ I hh) λu s' ⟨v,H',I',r,a,o,kvs,ea,nz,q⟩=>?_;exact⟨v,_,I'.thaw ea nz,r,q⟩
theorem xmu {a:Addr} {o:Obj} {kvs:List (Key×V)} {ix:Cap} {g:TG} {tt:TT} {te:TE} {σ:St} {H1:Hp} {Q:VK} (Pv:Nat->List V->Hp->Prop) (h0:Pv 0 [] H1) (hn:kvs.length<sizeLine) (hl':∀i ys H,i<=kvs.length->Pv i ys H->H a=some (.frz o (.dK kvs)))
  (hs:∀i kv p ys H,kvs[i]?=some kv->i<kvs.length->ys.length<=i->H p=none->Pv i ys H->g (.ref p) (capt ix σ) (upd H p (.tup [kV kv.1,kv.2])) λσ2 H2=>Ext (capt ix σ) σ2/\tt σ2 H2 λb H3=>if b=true then te σ2 H3 (NxtG Pv kvs.length i ys) else NxtN Pv kvs.length i ys H3)
  (hd:∀ys H,ys.length<=kvs.length->Pv kvs.length ys H->∀D,H D=none->Q (.ref D) (upd H D (.lst ys))):xe7 (Itm a o kvs) ix g tt te σ H1 Q:=by
 refine⟨λi m ys H=>m=kvs.length-i/\i<=kvs.length/\ys.length<=i/\Pv i ys H,⟨kvs.length,by simp,Nat.zero_le _,Nat.le_refl _,h0⟩,?_⟩;rintro i m ys H ⟨rfl,hi,hl,p⟩;have q:=hl' i ys H hi p;by_cases hlt:i<kvs.length
 ·refine .inr ⟨⟨q,hlt⟩,by omega,λv H' y=>?_⟩
  obtain⟨pp,kv,rfl,hp,hk,rfl⟩:=y;exact hs i kv pp ys _ hk hlt hl hp p
 ·have e:i=kvs.length:=by omega
  subst e;exact .inl ⟨⟨q,Nat.le_refl _⟩,hd ys H hl p⟩
end
section
variable {X:Cx}
theorem xew{K:Fg}(h:X.K=K):xef X (.type "list") (λxs H Q=>∃p ys,xs=[.ref p]/\(SqL K H p ys\/SqT K H p ys)/\∀l,H l=none->Q (.ref l) (upd H l (.lst ys))):=by subst h;exact xb6
end
theorem ext1{σ:St}{i:Nat}{v:Option V}(h:σ[i]?=some none):Ext σ (σ.set i v):=by
 refine⟨by simp,λn c e=>?_⟩;have a:i≠n:=λz=>by subst z;rw[h]at e;cases e
 rw[List.getElem?_set_ne a];exact e
theorem ext4{σ:St}{i j k l:Nat}{u v w x:Option V}(h:σ[i]?=some none)(p:σ[j]?=some none)(o:σ[k]?=some none)(m:σ[l]?=some none):Ext σ ((((σ.set i u).set j v).set k w).set l x):=by
 refine⟨by simp,λn r e=>?_⟩;have g:i≠n:=λz=>by subst z;rw[h]at e;cases e
 have f:j≠n:=λz=>by subst z;rw[p]at e;cases e
 have c:k≠n:=λz=>by subst z;rw[o]at e;cases e
 have a:l≠n:=λz=>by subst z;rw[m]at e;cases e
 rw[List.getElem?_set_ne a,List.getElem?_set_ne c,List.getElem?_set_ne f,List.getElem?_set_ne g];exact e
theorem xi3:∀(kvs acc:List (Key×V)),((acc++kvs).map (·.1)).Nodup->xcu acc kvs=acc++kvs
 |[],acc,_=>by show acc=_;rw[List.append_nil]
 | a::kvs,acc,h=>by
  have hn:(acc.any λp=>decide (p.1=a.1))=false:=by
   rw[List.any_eq_false];intro p c e;rw[zAP,List.nodup_append]at h;exact h.2.2 p.1 (List.mem_map_of_mem c) a.1 (by simp) (of_decide_eq_true e)
  have e:putK acc a.1 a.2=acc++[a]:=by
   unfold putK;rw[if_neg (by rw[hn];decide)]
  show xcu (putK acc a.1 a.2) kvs=_;rw[e,xi3 kvs (acc++[a]) (by rw[List.append_assoc];exact h),List.append_assoc];rfl
theorem xdn{kvs:List (Key×V)}(h:(kvs.map (·.1)).Nodup):xcu [] kvs=kvs:=xi3 kvs [] h
section
variable {X:Cx}
def ItV(a:Addr)(o:Obj)(kvs:List (Key×V)):It:=
 ⟨λi H=>H a=some (.frz o (.dK kvs))/\i<kvs.length,λi H x H'=>H'=H/\∃kv,kvs[i]?=some kv/\x=kv.2,λi H=>H a=some (.frz o (.dK kvs))/\kvs.length<=i⟩
theorem xj6{P:Program}{w:World}{K:Fg}{Y:Expr}{a it:Addr}{o:Obj}{kvs:List (Key×V)}{es:Array DictEntry}{ep:Nat}(a0:a≠it)(hd:o.data=.dict es ep):Turn P w K Y (ItV a o kvs) [it] it (λi h=>h.IsValIter it a i kvs.length ep) where
 mem:=by simp
 obj:=λi h st b j=>by
  have e:b=it:=by simpa using j
  subst e;obtain⟨o,e,c,d⟩:=st;exact⟨o,e,λv z=>by rw[d]at z;cases z⟩
 keep:=λi h h' st k=>st.at λo e=>k it (by simp) o e
 item:=by
  intro X x p y U i g s σ H E I n st r;subst x p y;obtain⟨u,hi⟩:=r;obtain⟨vs,f,dat⟩:=xlx I.hok u hd;have m:=f.length;obtain⟨O,M,f2,J,G,C⟩:=n it (by simp);have l:i<vs.length:=by omega
  refine wpAny_pyNext_values_item (kvs:=vs) (k:=vs[i].1) (v:=vs[i].2) (by rw[<- m];exact st) dat (by rw[zGA l]) λh' st' Z=>?_;have I1:Inv X g σ H {s with heap:=h'}:=I.turned (t':=s.toks) (λb o j e=>(Z.2 b j).trans e) O M J G C;rw[<- m]at st';obtain⟨o',e,c,d⟩:=id st';obtain⟨v,hv,rv⟩:=KV.get2 f (zGA l);exact⟨vs[i].2,rfl,xqm (s:={s with heap:=h'}) e c d (by decide) ⟨v,H,I1,rv,⟨rfl,_,hv,rfl⟩,st',λb j=>(n b j).1⟩⟩
 done:=by
  intro X x p y U i g s σ H E I n st r;subst x p y;obtain⟨u,hi⟩:=r;obtain⟨vs,f,dat⟩:=xlx I.hok u hd;have m:=f.length;obtain⟨O,M,f2,J,G,C⟩:=n it (by simp);exact wpAny_pyNext_values_end (I.ok.hd U) (kvs:=vs) (by rw[<- m];exact st) dat (List.getElem?_eq_none (by omega)) λh' eb=>⟨rfl,I.turned (t':=s.toks) (λb o j e=>eb b o j e) O M J G C⟩
 self:=λ_ _ _ _ _ st h=>wpAny_pyIter_valiter st h
def xvp(H0:Hp)(td:TE):TI:=λσ H R=>td σ H λx H1=>∃a,∃kvs:List (Key×V),x=.ref a/\H1 a=some (.dK kvs)/\∀o,NoFz H0 a->R (ItV a o kvs) (upd H1 a (.frz o (.dK kvs)))
theorem xnr {tg:Expr} {o:Expr} {td:TE} {apos q2:Pos} (ho:PE X o td) (hbase:attributeBase o "values" X.env (eval o X.env)=eval o X.env:=by rfl) (hline:(apos.endLine == q2.line)=true:=by rfl) :
  PI X tg (.Call (.Attribute o "values" apos) [] [] q2) (xvp X.H₀ td):=by
 intro pins s σ H R I h;refine wpAny_Call_method0_late hbase hline (thn (ho pins s σ H _ I h) λv s1 ⟨x,H1,I1,r1,q1⟩=>?_);obtain⟨a,kvs,e,ha,q⟩:=q1;subst e;obtain rfl:v=.ref a:=r1;obtain⟨t1,t2,_⟩:=xje I1 (.inl ⟨kvs,.inl ha⟩);obtain⟨z,hd,vs,rel,dd⟩:=xjo I1.hok ha;have hlen:=rel.length;refine⟨"dict","dict.values",PySem.F.plainAttrs_dict,PySem.F.slot_dict_values,PySem.F.type_dict_values,t1,t2,Calls.callWith_builtin rfl (PySem.evalArgs_none ?_)⟩;refine call_meetsIn PySem.F.slot_dict_values dd.typeIs PySem.F.entry_dict_values (PySem.F.args_dict_values_1 _) (meets_dict_values (xbq X.prog X.w) a hd) ⟨⟨vs,dd⟩,?_⟩;obtain⟨ep,hat⟩:=(dd.push {cls:=.type "dict_values",data:=.fields #[.ref a]}).dictAt;obtain⟨ob,es,hob,hx,hdat,_⟩:=id hat;refine wpAny_pyIter_values (kvs:=vs) (ep:=ep) ⟨_,Heap.get?_push_size _ rfl,rfl,rfl⟩ hat ?_;have I2:Inv X pins σ H1 {s1 with heap:=s1.heap.push {cls:=.type "dict_values",data:=.fields #[.ref a]}}:=I1.kept (t':=s1.toks) λb o e=>zPO _ e;have I3:=I2.freeze ha hob;have hn:upd H1 a (.frz ob (.dK kvs)) (s1.heap.push {cls:=.type "dict_values",data:=.fields #[.ref a]}).objs.size=none:=I3.hok.fresh (Nat.le_refl _);refine⟨(s1.heap.push {cls:=.type "dict_values",data:=.fields #[.ref a]}).objs.size,[(s1.heap.push {cls:=.type "dict_values",data:=.fields #[.ref a]}).objs.size],_,_,_,rfl,I3.kept (t':=s1.toks) λb o e=>zPO _ e,xj6 (λz=>?_) hdat,⟨_,Heap.get?_push_size _ rfl,rfl,by rw[hlen];rfl⟩,λb hb=>?_,q ob (I1.noFz ha)⟩
 ·rw[<- z,ups]at hn
  cases hn
 ·have e:b=(s1.heap.push {cls:=.type "dict_values",data:=.fields #[.ref a]}).objs.size:=by simpa using hb
  subst e;exact I3.fpOk (Nat.le_refl _) hn
theorem xqo {a:Addr} {o:Obj} {kvs:List (Key×V)} {g:TG} {s:TS} {D:Ends} {σ:St} {H:Hp} (c:Nat->St->Hp->Prop) (h0:c 0 σ H) (z:∀i σ H,i<=kvs.length->c i σ H->H a=some (.frz o (.dK kvs)))
  (hs:∀i j σ H,kvs[i]?=some j->c i σ H->g j.2 σ H λl r=>s {D with nx:=c (i+1),ct:=c (i+1),bk:=D.nx} l r) (hd:∀σ H,c kvs.length σ H->D.nx σ H) :
  ∃W:Nat->Nat->St->Hp->Prop,(∃m,W 0 m σ H)/\∀i m σ H,W i m σ H->
   ((ItV a o kvs).stop i H/\D.nx σ H)\/((ItV a o kvs).go i H/\∃N:St->Hp->Prop,(∀n f,N n f->∃u,u<m/\W (i+1) u n f)/\∀x f,(ItV a o kvs).yld i H x f->g x σ f λl r=>s {D with nx:=N,ct:=N,bk:=D.nx} l r):=by
 refine⟨λi m σ H=>m=kvs.length-i/\i<=kvs.length/\c i σ H,⟨kvs.length,by simp,Nat.zero_le _,h0⟩,?_⟩;rintro i m σ H ⟨rfl,hi,p⟩;have q:=z i σ H hi p;by_cases h:i<kvs.length
 ·refine .inr ⟨⟨q,h⟩,c (i+1),λn f w=>⟨kvs.length-(i+1),by omega,rfl,h,w⟩,λx f y=>?_⟩
  obtain⟨rfl,j,C,rfl⟩:=y;exact hs i j σ _ C p
 ·have e:i=kvs.length:=by omega
  subst e;exact .inl ⟨⟨q,Nat.le_refl _⟩,hd σ H p⟩
def xm3(td:TE):TE:=λσ H Q=>td σ H λx H1=>∃a,∃kvs:List (Key×V),x=.ref a/\H1 a=some (.dK kvs)/\∀l,H1 l=none->Q (.ref l) (upd H1 l (.lst (kvs.map (·.2))))
variable {o:Expr}{td:TE}{p1 q1 q2 apos:Pos}
theorem xfy (hc:X.calm=true) (hg1:Gl X "list") (hm1:X.mg "list"=none) (ho:PE X o td)
  (hbase:attributeBase o "values" X.env (eval o X.env)=eval o X.env:=by rfl) (hline:(apos.endLine == q2.line)=true:=by rfl)
  (hs1:starEach [Expr.Call (.Attribute o "values" apos) [] [] q2] X.env=[(false,eval (.Call (.Attribute o "values" apos) [] [] q2) X.env)]:=by rfl) :
  PE X (.Call (.Name "list" p1) [.Call (.Attribute o "values" apos) [] [] q2] [] q1) (xm3 td):=by
 intro pins s σ H Q I h;refine wpAny_Call_Name_kw (xjb I hg1 hm1 PyProof.Rows.boot_list ?_ (by decide) (by decide));refine PyProof.Rows.callWith_type1 ?_ hs1 rfl;rw[hs1];refine Calls.spliced_cons ?_;refine wpAny_Call_method0_late hbase hline (thn (ho pins s σ H _ I h) λv s1 ⟨x,H1,I1,r1,a,kvs,ex,ha,q⟩=>?_);subst ex;obtain rfl:v=.ref a:=r1;obtain⟨t1,t2,_⟩:=xje I1 (.inl ⟨kvs,.inl ha⟩);obtain⟨z,hd,vs,rel,dd⟩:=xjo I1.hok ha;have hlen:=rel.length;refine⟨"dict","dict.values",PySem.F.plainAttrs_dict,PySem.F.slot_dict_values,PySem.F.type_dict_values,t1,t2,Calls.callWith_builtin rfl (PySem.evalArgs_none ?_)⟩;refine call_meetsIn PySem.F.slot_dict_values dd.typeIs PySem.F.entry_dict_values (PySem.F.args_dict_values_1 _) (meets_dict_values (xbq X.prog X.w) a hd) ⟨⟨vs,dd⟩,Calls.spliced_nil ?_⟩;obtain⟨ep,hat⟩:=(dd.push {cls:=.type "dict_values",data:=.fields #[.ref a]}).dictAt;have I2:Inv X pins σ H1 {s1 with heap:=s1.heap.push {cls:=.type "dict_values",data:=.fields #[.ref a]}}:=I1.kept (t':=s1.toks) λb o e=>zPO _ e;refine PySem.W.kdl_call (s:={s1 with heap:=s1.heap.push {cls:=.type "dict_values",data:=.fields #[.ref a]}}) (PySem.W.kdl_values (knd:=xbq X.prog X.w) (kvs:=vs) (ep:=ep)) (I1.ok.hd hc) ⟨⟨_,Heap.get?_push_size _ rfl,rfl,rfl⟩,hat⟩ (by rw[<- hlen];exact z) λh' tk acc' c' hk hD hacc=>?_
 refine⟨.ref (s1.heap.push {cls:=.type "dict_values",data:=.fields #[.ref a]}).objs.size,_,I2.laid hk (Nat.le_refl _) (o:=.lst (kvs.map (·.2))) ⟨by rw[zLM];exact z,acc'.toList,c',?_,by simpa using hD⟩,rfl,q _ (I2.hok.fresh (Nat.le_refl _))⟩;refine xmw (by have:=hacc.1;rw[zLM];simp only[Array.length_toList];omega) λi x u hx hu=>?_;rw[zGM]at hx;obtain⟨p,hp,rfl⟩:=zMS hx;obtain⟨k,hky⟩:=hacc.2 i u (by rw[<- Array.getElem?_toList];exact hu);obtain⟨v,hv,rv⟩:=KV.get2 rel hky;rw[hp]at hv;cases hv;exact rv
end
section
variable {prog:Program}{w:World}{A:Around}{E:Value->Shared->Prop}{s:Shared}
theorem xgw{h h':Heap}{l b:Addr}{items:Array Value}(x:h.IsList l items)(e:Heap.ExtBut b h h')(n:l≠b):h'.IsList l items:=let ⟨o,a,r⟩:=x;⟨o,e l o n a,r⟩
theorem xf9{h:Heap}{l:Addr}{items:Array Value}{o:Obj}(x:h.IsList l items):(h.push o).IsList l items:=let ⟨q,a,r⟩:=x;⟨q,zPO _ a,r⟩
theorem xjn {it t:Addr} {items:Array Value} (e:t≠it):∀(n i:Nat) (s:Shared) (Q:List Value->Shared->Prop),s.heap.IsListIter it t i->s.heap.IsList t items->i+n<=items.size->
  (∀h',h'.IsListIter it t (i+n)->Heap.SameBut it s.heap h'->Q ((items.toList.drop i).take n) {s with heap:=h'})->wpAny (model prog w) A (draw (.ref it) n) Q E s
 |0,i,s,Q,a,_,_,l=>by
  show wpAny _ _ (pure []) Q E s;exact wpAny_pure (by simpa using l s.heap a (Heap.SameBut.refl ..))
 |n+1,i,s,Q,a,m,p,l=>by
  have f:i<items.size:=by omega
  show wpAny _ _ (pyNext (.ref it) >>= _) Q E s;refine wpAny_bind (wpAny_pyNext_list_item a m (x:=items[i]) (by simp[f]) λh₁ h c=>?_);refine wpAny_bind (wpAny_holding (xjn e n (i+1) _ _ h (xgw m c.extBut e) (by omega) λo g j=>wpAny_pure ?_));have hd:items.toList.drop i=items[i]::items.toList.drop (i+1):=by simp[List.drop_eq_getElem_cons,f]
  have:=l o (by rw[show i+(n+1)=i+1+n by omega];exact g) (c.trans j);rw[hd,List.take_succ_cons]at this;exact this
theorem xe8 {t:Addr} {items:Array Value} {Q:List Value->Shared->Prop} (p:A.handled=none) (a:s.heap.IsList t items)
  (r:∀h',Heap.ExtBut s.heap.objs.size s.heap h'->Q items.toList {s with heap:=h'}):wpAny (model prog w) A (unpackItems (.ref t) items.size none) Q E s:=by
 have f:t≠s.heap.objs.size:=by obtain⟨o,n,_⟩:=a;exact Nat.ne_of_lt (Heap.lt_size n)
 unfold unpackItems;refine wpAny_bind ?_
 ·unfold notIterableAtAll
  refine wpAny_bind (wpAny_specialOf a.typeIs slot_list_iter.lookup ?_);refine wpAny_pure ?_;simp only[Bool.false_eq_true,if_false];refine wpAny_bind (wpAny_holding (wpAny_pyIter_list a ?_));refine wpAny_bind (wpAny_holding (xjn f items.size 0 _ _ ⟨_,Heap.get?_push_size _ rfl,rfl,rfl⟩ (xf9 a) (by omega) λh₁ g c=>?_))
  have h:List.take items.size (List.drop 0 items.toList)=items.toList:=by
   rw[List.drop_zero];exact zTL (by simp)
  rw[h];rw[if_neg (by simp)];have i:h₁.IsList t items:=xgw (xf9 a) c.extBut f;refine wpAny_bind (wpAny_holding (wpAny_pyNext_list_end p g i (by simp) λm j=>?_));simp only[Option.isSome_none,Bool.false_eq_true,if_false];refine wpAny_pure (r m λb o l e=>j b o l (c.extBut b o l (zPO _ e)))
theorem xj5 {t:Addr} {items:Array Value} {a:List (Bool×(Value->Sem Unit))} {Q:Unit->Shared->Prop} (f:A.handled=none) (e:s.heap.IsList t items)
  (hn:a.length=items.size) (c:a.findIdx? (·.1)=none)
  (h:∀h',Heap.ExtBut s.heap.objs.size s.heap h'->wpAny (model prog w) A (assignInOrder (a.map (·.2)) items.toList) Q E {s with heap:=h'}) :
  wpAny (model prog w) A (unpack (.ref t) a) Q E s:=by
 unfold unpack;rw[hn,c];exact wpAny_bind (wpAny_holding (xe8 f e h))
end
section
variable {X:Cx}{K:Fg}
def gLst(K:Fg)(n:Nat)(t:TGs):TG:=λv σ H Q=>∃a xs,v=.ref a/\SqL K H a xs/\xs.length=n/\t xs σ H Q
theorem xnt {es:List Expr} {k:Nat} {t:TGs} {n:Nat} {pos:Pos} (x:X.K=K) (w:X.calm=true) (h:PGs X es t)
  (hn:(assignEach es X.env).length=n:=by rfl) (g:(assignEach es X.env).findIdx? (·.1)=none:=by rfl):PG X (.Tuple es k pos) (gLst K n t):=by
 subst x;intro c s σ H v u Q I r f;obtain⟨a,xs,y,m,p,f⟩:=f;subst y;cases r;obtain⟨its,i,l,hz⟩:=I.list m;rw[assign_Tuple];refine wpAny_bind (wpAny_standAt (xj5 (I.ok.hd w) l.isList (by simp[hn,<- p,i.length]) g λh' j=>?_));have z:Inv X c σ H {s with heap:=h'}:=I.kept (t':=s.toks) λb o e=>j b o (Nat.ne_of_lt (Heap.lt_size e)) e;exact h c _ σ H xs _ Q z (by simpa using i) f
end
end L2
end
section
namespace L2
open PySem PySem.Spec PySem.W PyProof.Rows M
def xrr(td:TE):TE:=λσ H Q=>td σ H λx H1=>∃a,∃kvs:List (Key×V),x=.ref a/\H1 a=some (.dK kvs)/\Q .non (upd H1 a (.dK []))
section
variable {X:Cx}{o:Expr}{td:TE}{apos cpos:Pos}
theorem xdy(y:PE X o n)(G:attributeBase o "clear" X.env (eval o X.env)=eval o X.env:=by rfl)(C:(g.endLine == f.line)=true:=by rfl):PE X (.Call (.Attribute o "clear" g) [] [] f) (xrr n):=by
 intro c s σ H Q I h;refine wpAny_Call_method0_late G C (thn (y c s σ H _ I h) λv J ⟨x,M,l,r,a,kvs,ex,j,q⟩=>?_);subst ex;obtain rfl:v=.ref a:=r;obtain⟨p,t2,_⟩:=xje l (.inl ⟨kvs,.inl j⟩);obtain⟨z,hd,vs,i,m⟩:=xjo l.hok j;refine⟨"dict","dict.clear",PySem.F.plainAttrs_dict,PySem.F.slot_dict_clear,PySem.F.type_dict_clear,p,t2,Calls.callWith_builtin rfl (PySem.evalArgs_none ?_)⟩;refine call_meetsIn PySem.F.slot_dict_clear m.typeIs PySem.F.entry_dict_clear (PySem.F.args_dict_clear_1 _) (meets_dict_clear (knd:=xbq X.prog X.w) a) ⟨vs,m,by rw[<- i.length];exact z,λh' e hs=>?_⟩;exact⟨.non,_,xht l (by rw[j];exact True.intro) hs (let ⟨q,_,_,u,_⟩:=e;⟨q,u⟩) (xjp (kvs:=[]) (Nat.zero_le _) hd .nil e),rfl,q⟩
end
def EqW(P:Program)(w:World)(A:Around)(s:Shared)(y x:Value):Prop:=∀(E:Value->Shared->Prop) (Q:Bool->Shared->Prop),Q true s->wpAny (model P w) A (eqBool y x) Q E s
theorem xrk {P:Program} {w:World} {l b:Addr} {us zs:Array Value} {n m:Nat} {J I:Option Addr} {o j:Array (Option Value)} (hz:us.size=zs.size) :
  MeetsIn P w (Builtin.«tuple.__ne__» ⟨[.ref l,.ref b],[]⟩) (λA R s=>s.heap.get? l=some {cls:=.type "tuple",dict:=J,data:=.seq us n,slots:=o}/\s.heap.get? b=some {cls:=.type "tuple",dict:=I,data:=.seq zs m,slots:=j} ∧
   (∀p∈us.toList.zip zs.toList,EqW P w A.in1 s p.1 p.2)/\R (.ok (.ret (.bool false))) s):=
 .of_wp λA R s h=>by
  obtain⟨h0,G,M,i,r⟩:=s;obtain⟨u,C,z,h⟩:=h;have O:=AutoSeq1.sub_tuple_tuple
  wp_walk using AutoSeq1.wpAny_loadPart' u,AutoSeq1.wpAny_loadPart' C,wpAny_forIn_list _ (λrest c a=>c.1=none/\a=⟨h0,G,M,i,r⟩/\∀p∈rest,p∈us.toList.zip zs.toList) _
  case turn=>
   rintro⟨y,x⟩ rest c a ⟨f,rfl,g⟩;refine wpAny_bind (z (y,x) (g _ (by simp)) _ _ ?_)
   wp_walk
   exact⟨rfl,rfl,λp e=>g p (by simp[e])⟩
  case fin=>
   rintro⟨Y,U⟩ a ⟨f,rfl,_⟩;simp only at f;subst f
   wp_walk
   exact⟨_,rfl,by simpa[Builtin.Tuple.tupleCompareSizes,bne,hz] using h⟩
  case h=>exact⟨rfl,rfl,λp e=>e⟩
section
variable {X:Cx}
theorem xl0{P:Program}{w:World}{A:Around}{s:Shared}{y x:Value}(h:SeqAt.EqAt A s y x true):EqW P w A s y x:=λE Q q=>h P w E Q q
end
end L2
end
section
namespace M
open PySem L2
def ArmN(ks:List Kn)(z:Str):Prop:=(∃j,z=byN j)\/∃k∈ks,∃p∈k.parts,p.1=z
def FitK(ks:List Kn)(bs:List (Str×Str))(env:En):Prop:=(∀p∈bs,env p.1=some (.str p.2))/\∀z,ArmN ks z->(∀q∈bs,q.1≠z)->env z=none
theorem FitK.put{ks:List Kn}{bs:List (Str×Str)}{env:En}{y k:Str}(h:FitK ks bs env)(g:∀p∈bs,p.1≠y):FitK ks (bs++[(y,k)]) (env.put y (.str k)):=by
 refine⟨λp a=>?_,λz hz f=>?_⟩
 ·unfold En.put
  rcases zMA a with a |a
  ·rw[if_neg (g p a)];exact h.1 p a
  ·rw[zMO a,if_pos rfl]
 ·unfold En.put
  have c:y≠z:=f (y,k) (by simp);rw[if_neg (Ne.symm c)];exact h.2 z hz λq e=>f q (by simp[e])
def TmK(ks:List Kn)(n:Nat)(bs:List (Str×Str))(d:D)(x:Str):Prop:=∀env,FitK ks bs env->Kd True ks n env d x
def TmB(ks:List Kn)(n:Nat)(bs:List (Str×Str))(d:D)(x:Str):Prop:=TmOk ks n bs d x/\TmK ks n bs d x
theorem xom{ks:List Kn}{n:Nat}{env:En}{d:D}{x:Str}(h:xpa env d x):Kd True ks n env d x:=by
 cases n with
 |zero=>exact h
 |succ n=>exact .inl h
theorem xta{ks:List Kn}{n:Nat}{bs:List (Str×Str)}{i:Int}(h:Nm i):TmB ks n bs (tNum i) (S "num"):=⟨xs5 h,λenv _=>xom (.inl ⟨i,h,rfl,rfl⟩)⟩
theorem xm1{ks:List Kn}{n:Nat}{bs:List (Str×Str)}{y x:Str}(h:(y,x)∈bs):TmB ks n bs (tBox y) x:=⟨xs7 h,λenv a=>xom (.inr ⟨y,a.1 _ h,rfl⟩)⟩
theorem xu1{ks:List Kn}(g:KWf ks){n:Nat}{bs:List (Str×Str)}{s:Str}{a b:D}(hs:Sg s)(f:TmB ks n bs a (S "num"))(e:TmB ks n bs b (S "num")):TmB ks (n+1) bs (tOpD s a b) (S "num"):=
 ⟨xuy g hs f.1 e.1,λenv c=>.inr (.inl ⟨s,a,b,f.2 env c,e.2 env c,rfl,rfl⟩)⟩
theorem xs9{ks:List Kn}{n:Nat}{bs:List (Str×Str)}{x:Str}{k:Kn}{es:List D}(c:kAt ks x=some k)(a:k.rc=true)(f:k.parts.length<=1000)(h:All2 (λe (p:Str×Str)=>TmB ks n bs e p.2) es k.parts):TmB ks (n+1) bs (tRec x es) x:=
 ⟨xs4 c a f (h.imp λ_ _ h=>h.1),λenv g=>.inr (.inr (.inl ⟨es,k,c,a,h.imp λ_ _ h=>h.2 env g,rfl⟩))⟩
theorem xkl{k:Kn}{p:Str×Str}(nd:(k.parts.map (·.1)).Nodup)(c:p∈k.parts):xim k p.1=some p.2:=by
 unfold xim;obtain⟨i,hi,e⟩:=zMI c;have:=xeb (f:=λr:Str×Str=>r.1) (xs:=k.parts) (i:=i) (a:=p) nd (by rw[<- e];exact zGA hi);rw[this];rfl
theorem xtb{ks:List Kn}(e:KWf ks){n:Nat}{bs:List (Str×Str)}{y:Str}{k:Kn}{a:D}{p:Str×Str}(c:kAt ks y=some k)(f:k.rc=true)(g:p∈k.parts)(h:TmB ks n bs a y):TmB ks (n+1) bs (tGet a p.1) p.2:=
 ⟨xs6 e c f g h.1,λenv i=>.inr (.inr (.inr (.inl ⟨a,y,p.1,k,h.2 env i,c,f,xkl (e.pnd k (zMF c)) g,rfl⟩)))⟩
theorem xs8{ks:List Kn}(g:KWf ks){n:Nat}{bs:List (Str×Str)}{x:Str}{k:Kn}{a:D}{p:Str×Str}(c:kAt ks x=some k)(e:k.rc=false)(f:p∈k.parts)(h:TmB ks n bs a p.2):TmB ks (n+1) bs (tTag x p.1 a) x:=
 ⟨xs3 c e f h.1,λenv i=>.inr (.inr (.inr (.inr (.inl ⟨p.1,a,k,p.2,c,e,xkl (g.pnd k (zMF c)) f,h.2 env i,rfl⟩))))⟩
theorem xc7{α β:Type}{f:α->β}:∀{l:List α},(l.map f).Nodup->∀{a b:α},a∈l->b∈l->f a=f b->a=b
 |[],_,a,_,i,_,_=>nomatch i
 | c::l,nd,a,b,i,j,e=>by
  rw[List.map_cons,List.nodup_cons]at nd;rcases zMC i with h |h <;> rcases zMC j with g |g
  ·rw[h,g]
  ·rw[h]at e
   exact absurd (by rw[e];exact List.mem_map_of_mem g) nd.1
  ·rw[g]at e
   exact absurd (by rw[<- e];exact List.mem_map_of_mem h) nd.1
  ·exact xc7 nd.2 h g e
theorem xrp {ks:List Kn} (l:KWf ks) {n:Nat} {bs:List (Str×Str)} {x y:Str} {k:Kn} {a:D} {rs:List (Str×Str×D)} (o:kAt ks y=some k) (m:k.rc=false) (G:TmB ks n bs a y) (J:rs.length<=1000) (nd:(rs.map (·.1)).Nodup)
  (c:rs.length=k.parts.length) (f:∀r∈rs,∃p∈k.parts,p.1=r.1)
  (h:∀p∈k.parts,∃z e,(p.1,z,e)∈rs/\(∀q∈bs,q.1≠z)/\ArmN ks z/\TmB ks n (bs++[(z,p.2)]) e x):TmB ks (n+1) bs (xmc a rs) x:=by
 have C:=zMF o;refine⟨xrn l o m G.1 J nd λp i=>?_,λenv s=>.inr (.inr (.inr (.inr (.inr (.inl ⟨True.intro,a,rs,y,k,G.2 env s,o,m,?_,c,nd,λr g=>?_,rfl⟩)))))⟩
 ·obtain⟨z,e,w,j,I,u⟩:=h p i
  exact⟨z,e,w,j,u.1⟩
 ·intro e
  have h0:k.parts=[]:=List.eq_nil_of_length_eq_zero (by rw[<- c,e];rfl);exact l.alt k C m h0
 ·obtain⟨p,i,e⟩:=f r g
  obtain⟨z,O,w,j,I,u⟩:=h p i;have M:r=(p.1,z,O):=xc7 nd g w e.symm;subst M;exact⟨s.2 z I j,p.2,xkl (l.pnd k C) i,u.2 _ (s.put j)⟩
theorem xu2{ks:List Kn}(i:KWf ks){n:Nat}{bs:List (Str×Str)}{x:Str}{a b c:D}(h:TmB ks n bs a (S "num"))(g:TmB ks n bs b x)(f:TmB ks n bs c x):TmB ks (n+1) bs (tIfD a b c) x:=
 ⟨xuz i h.1 g.1 f.1,λenv e=>.inr (.inr (.inr (.inr (.inr (.inr ⟨a,b,c,h.2 env e,g.2 env e,f.2 env e,rfl⟩)))))⟩
theorem NodeKd.mono{cs:Prop}{ks:List Kn}{R n:RKn}(k:∀env d x,R env d x->n env d x){env:En}{d:D}{x:Str}(h:NodeKd cs ks R env d x):NodeKd cs ks n env d x:=by
 rcases h with⟨s,a,b,e,g,r⟩ |⟨es,i,e,g,j,r⟩ |⟨a,l,f,i,e,r⟩ |⟨t,a,i,l,e,g,j,m,r⟩ |⟨u,a,rs,l,i,e,g,j,m,z,y,w,r⟩ |⟨a,b,c,e,g,j,r⟩
 ·exact .inl ⟨s,a,b,k _ _ _ e,k _ _ _ g,r⟩
 ·exact .inr (.inl ⟨es,i,e,g,j.imp λ_ _ h=>k _ _ _ h,r⟩)
 ·exact .inr (.inr (.inl ⟨a,l,f,i,k _ _ _ e,r⟩))
 ·exact .inr (.inr (.inr (.inl ⟨t,a,i,l,e,g,j,k _ _ _ m,r⟩)))
 ·refine .inr (.inr (.inr (.inr (.inl ⟨u,a,rs,l,i,k _ _ _ e,g,j,m,z,y,λr p=>?_,r⟩))))
  obtain⟨I,o,G,C⟩:=w r p;exact⟨I,o,G,k _ _ _ C⟩
 ·exact .inr (.inr (.inr (.inr (.inr ⟨a,b,c,k _ _ _ e,k _ _ _ g,k _ _ _ j,r⟩))))
theorem xuf{cs:Prop}{ks:List Kn}:∀(n:Nat) (env:En) (d:D) (x:Str),Kd cs ks n env d x->Kd cs ks (n+1) env d x
 |0,_,_,_,h=>.inl h
 |n+1,env,d,x,h=>by
  rcases h with h |h
  ·exact .inl h
  ·exact .inr (h.mono (xuf n))
theorem xvn{cs:Prop}{ks:List Kn}{n m:Nat}(l:n<=m){env:En}{d:D}{x:Str}(h:Kd cs ks n env d x):Kd cs ks m env d x:=by
 obtain⟨k,rfl⟩:∃k,m=n+k:=⟨m-n,by omega⟩;clear l
 induction k with
 |zero=>exact h
 |succ k a=>exact xuf _ _ _ _ a
def NoMo(x:Str):Prop:=x≠S "more"
theorem xvk{l:List Nat}(h:l[0]?≠some 109\/l[1]?≠some 111):NoMo (ofL l):=λe=>by
 have:=congrArg L e;rw[xd1,show L (S "more")=[109,111,114,101] by walk_at"k"]at this;subst this;simp at h
theorem xkz{c:Nat}(h:c∈five):c≠109/\c≠111:=by
 revert h;unfold five;simp;omega
theorem xrb{cs:List Nat}(h:∀c∈cs,c∈five)(a:Nat)(b:Int)(k:Nat)(t:List Nat)(i:∀c∈t,c∈five):NoMo (ofL (nmA cs a b k++t)):=by
 apply xvk;unfold nmA
 cases g:cs.take a with
 |nil=>
  right;rw[List.nil_append,List.cons_append,List.getElem?_cons_succ];intro e;have f:=zMG e;rcases zMA f with f |f
  ·exact(xkz (h _ (List.mem_of_mem_drop f))).2 rfl
  ·exact(xkz (i _ f)).2 rfl
 |cons c r=>
  left;intro e;simp at e;have:c∈cs.take a:=by rw[g];simp
  exact(xkz (h c (List.mem_of_mem_take this))).1 e
theorem xsj{cs:List Nat}{a:Nat}{b:Int}(e:∀c∈cs,c∈five):∀z∈((List.range 26).map λk=>ofL (nmA cs a b k)),NoMo z:=λz hz=>by
 obtain⟨k,_,rfl⟩:=zMP hz;have:=xrb e a b k [] (λ_ h=>nomatch h);rw[List.append_nil]at this;exact this
theorem xsh{cs:List Nat}{a:Nat}{b:Int}(f:∀c∈cs,c∈five):∀z∈((List.range 26).map λk=>ofL (nmB cs a b k)),NoMo z:=λz hz=>by
 obtain⟨k,_,rfl⟩:=zMP hz;unfold nmB;exact xrb f a b _ _ λc e=>by rw[List.eq_of_mem_replicate e];decide
theorem DGet.rd{H:Hp}{a:Addr}{kvs:List (Key×V)}{k:Key}(e:Rd H a (.dK kvs)):DGet H a (kV k) (valV kvs k):=.inl ⟨kvs,k,e,rfl,rfl⟩
end M
end
section
namespace L2
open PySem PySem.Spec PySem.W PyProof.Rows M
open PySem.AutoSeq1 (wpAny_loadPart')
open PySem.MeetsSeq PySem.MeetsSeq2 PySem.MeetsSeq3 PySem.SeqRoads2 PySem.SeqAt
theorem xi4 {P:Program} {w:World} (l b:Addr) (us zs:Array Value) (n m:Nat) (Y U:Option Addr) (G C:Array (Option Value)) (hz:us.size=zs.size) (c:Bool) (k:Nat) :
  ∀ i:Nat,us.size-i=k->MeetsIn P w (Builtin.«list.__eq__.loop» ⟨[.ref l,.ref b,rawInt i,rawInt (if c=true then 2 else 3)],[]⟩)
   (λA R s=>s.heap.get? l=some {cls:=.type "list",dict:=Y,data:=.seq us n,slots:=G}/\s.heap.get? b=some {cls:=.type "list",dict:=U,data:=.seq zs m,slots:=C} ∧
    (∀j (h1:j<us.size) (Z:j<zs.size),EqW P w A.in1 s us[j] zs[j])/\R (.ok (.ret (.bool c))) s):=by
 induction k with
 | zero=>
  intro i O A R s h;obtain⟨M,g,d,z,I⟩:=s;obtain⟨p,r,x,h⟩:=h;have f:us[((i:Nat):Int).toNat]?=none:=by simp;omega
  have e:zs[((i:Nat):Int).toNat]?=none:=by simp;omega
  cases c with
  |true=>
   simp only[if_true]
   wp_walk using wpAny_loadPart' p,wpAny_loadPart' r
   rw[f,e]
   wp_walk using wpAny_loadPart' p,wpAny_loadPart' r
   show R (.ok (.ret (.bool (us.size == zs.size)))) _;rw[hz];simpa using h
  |false=>
   simp only[Bool.false_eq_true,if_false]
   wp_walk using wpAny_loadPart' p,wpAny_loadPart' r
   rw[f,e]
   wp_walk using wpAny_loadPart' p,wpAny_loadPart' r
   show R (.ok (.ret (.bool (us.size != zs.size)))) _;rw[hz];simpa using h
 | succ k J=>
  intro i O A R s h;obtain⟨M,g,d,z,I⟩:=s;obtain⟨p,r,x,h⟩:=h;have u:i<us.size:=by omega
  have a:i<zs.size:=by omega
  have f:us[((i:Nat):Int).toNat]?=some us[i]:=by simp[u]
  have e:zs[((i:Nat):Int).toNat]?=some zs[i]:=by simp[a]
  have y:((i:Int)+1)=((i+1:Nat):Int):=by push_cast;rfl
  have o:=J (i+1) (by omega)
  cases c with
  | true=>
   simp only[if_true]at o⊢
   wp_walk using wpAny_loadPart' p,wpAny_loadPart' r
   rw[f,e];refine wpAny_bind (x i u a _ _ ?_)
   wp_walk
   rw[y]
   exact⟨plainId_quiet plain_eq_loop _,codeAny_builtin entry_eq_loop (by
    rw[Around.under_plainId plain_eq_loop _];exact o A R _ ⟨p,r,x,h⟩)⟩
  | false=>
   simp only[Bool.false_eq_true,if_false]at o⊢
   wp_walk using wpAny_loadPart' p,wpAny_loadPart' r
   rw[f,e];refine wpAny_bind (x i u a _ _ ?_)
   wp_walk
   rw[y]
   exact⟨plainId_quiet plain_eq_loop _,codeAny_builtin entry_eq_loop (by
    rw[Around.under_plainId plain_eq_loop _];exact o A R _ ⟨p,r,x,h⟩)⟩
theorem xsp {P:Program} {w:World} {l b:Addr} {us zs:Array Value} {n m:Nat} {o i:Option Addr} {c a:Array (Option Value)} (hz:us.size=zs.size) :
  MeetsIn P w (Builtin.«list.__eq__» ⟨[.ref l,.ref b],[]⟩)
   (λA R s=>s.heap.get? l=some {cls:=.type "list",dict:=o,data:=.seq us n,slots:=c}/\s.heap.get? b=some {cls:=.type "list",dict:=i,data:=.seq zs m,slots:=a} ∧
    (∀j (C:j<us.size) (z:j<zs.size),EqW P w A.in1 s us[j] zs[j])/\R (.ok (.ret (.bool true))) s):=by
 intro A R s h;obtain⟨y,g,d,u,x⟩:=s;obtain⟨e,f,r,h⟩:=h;have G:=AutoSeq1.sub_list_list;have p:¬(us.size != zs.size)=true:=by simp[hz]
 wp_walk using wpAny_loadPart' e,wpAny_loadPart' f
 exact⟨plainId_quiet plain_eq_loop _,codeAny_builtin entry_eq_loop (by
  rw[Around.under_plainId plain_eq_loop _];exact xi4 l b us zs n m o i c a hz true _ 0 rfl A R _ ⟨e,f,r,h⟩)⟩
theorem xso {P:Program} {w:World} {l b:Addr} {us zs:Array Value} {n m:Nat} {o i:Option Addr} {c a:Array (Option Value)} (hz:us.size=zs.size) :
  MeetsIn P w (Builtin.«list.__ne__» ⟨[.ref l,.ref b],[]⟩)
   (λA R s=>s.heap.get? l=some {cls:=.type "list",dict:=o,data:=.seq us n,slots:=c}/\s.heap.get? b=some {cls:=.type "list",dict:=i,data:=.seq zs m,slots:=a} ∧
    (∀j (C:j<us.size) (z:j<zs.size),EqW P w A.in1 s us[j] zs[j])/\R (.ok (.ret (.bool false))) s):=by
 intro A R s h;obtain⟨y,g,d,u,x⟩:=s;obtain⟨e,f,r,h⟩:=h;have G:=AutoSeq1.sub_list_list;have p:¬(us.size != zs.size)=true:=by simp[hz]
 wp_walk using wpAny_loadPart' e,wpAny_loadPart' f
 exact⟨plainId_quiet plain_eq_loop _,codeAny_builtin entry_eq_loop (by
  rw[Around.under_plainId plain_eq_loop _];exact xi4 l b us zs n m o i c a hz false _ 0 rfl A R _ ⟨e,f,r,h⟩)⟩
theorem xrl {P:Program} {w:World} {l b:Addr} {us zs:Array Value} {n m:Nat} {J I:Option Addr} {o j:Array (Option Value)} (hz:us.size=zs.size) :
  MeetsIn P w (Builtin.«tuple.__eq__» ⟨[.ref l,.ref b],[]⟩) (λA R s=>s.heap.get? l=some {cls:=.type "tuple",dict:=J,data:=.seq us n,slots:=o}/\s.heap.get? b=some {cls:=.type "tuple",dict:=I,data:=.seq zs m,slots:=j} ∧
   (∀p∈us.toList.zip zs.toList,EqW P w A.in1 s p.1 p.2)/\R (.ok (.ret (.bool true))) s):=
 .of_wp λA R s h=>by
  obtain⟨h0,G,M,i,r⟩:=s;obtain⟨u,C,z,h⟩:=h;have O:=AutoSeq1.sub_tuple_tuple
  wp_walk using AutoSeq1.wpAny_loadPart' u,AutoSeq1.wpAny_loadPart' C,wpAny_forIn_list _ (λrest c a=>c.1=none/\a=⟨h0,G,M,i,r⟩/\∀p∈rest,p∈us.toList.zip zs.toList) _
  case turn=>
   rintro⟨y,x⟩ rest c a ⟨f,rfl,g⟩;refine wpAny_bind (z (y,x) (g _ (by simp)) _ _ ?_)
   wp_walk
   exact⟨rfl,rfl,λp e=>g p (by simp[e])⟩
  case fin=>
   rintro⟨Y,U⟩ a ⟨f,rfl,_⟩;simp only at f;subst f
   wp_walk
   exact⟨_,rfl,by simpa[Builtin.Tuple.tupleCompareSizes,hz] using h⟩
  case h=>exact⟨rfl,rfl,λp e=>e⟩
end L2
end
section
namespace L2
open PySem PySem.Spec PySem.W PyProof.Rows M
open PySem.SeqAt
abbrev opC(c:Bool):CmpOp:=if c=true then .Eq else .NotEq
def RcW(P:Program)(w:World)(A:Around)(s:Shared)(c:Bool)(y x:Value):Prop:=∀(E:Value->Shared->Prop) (Q:Value->Shared->Prop),Q (.bool c) s->wpAny (model P w) A (compareOp (opC c) y x) Q E s
theorem xox{P:Program}{w:World}{A:Around}{s:Shared}{a b:Addr}(h:RcW P w A s true (.ref a) (.ref b)):EqW P w A s (.ref a) (.ref b):=by
 by_cases e:a=b
 ·subst e
  exact xl0 (EqAt.same _)
 intro E Q q;unfold eqBool;refine wpAny_holding ?_;refine wpAny_ite_split (λc=>absurd (by have:=eq_of_beq c;injection this) e) (λ_=>?_);exact wpAny_bind (h E _ (wpAny_truthy_bool q))
def EqA(H:Hp)(x y:V):Prop:=(∃d:D,RelD H x d/\RelD H y d/\d.deep<=100)\/∃a b us zs ds,x=.ref a/\y=.ref b/\H a=some (.lst us)/\H b=some (.lst zs)/\RelDs H us ds/\RelDs H zs ds/\deeps ds<=100
def EqS(H:Hp):Nat->V->V->Prop
 |0,x,y=>EqA H x y
 |n+1,x,y=>EqS H n x y\/(∃a b us zs,x=.ref a/\y=.ref b/\((H a=some (.tup us)/\H b=some (.tup zs))\/(H a=some (.lst us)/\H b=some (.lst zs)))/\us.length=zs.length/\∀(i:Nat) u z,us[i]?=some u->zs[i]?=some z->EqS H n u z) ∨
  ∃a b,∃k1 k2:List (Key×V),x=.ref a/\y=.ref b/\H a=some (.dK k1)/\H b=some (.dK k2)/\k1.length=k2.length/\∀p∈k1,∃v,valV k2 p.1=some v/\EqA H p.2 v
theorem EqS.mono{H:Hp}{n:Nat}{x y:V}(h:EqS H n x y):∀m,EqS H (n+m) x y
 |0=>h
 |m+1=>.inl (EqS.mono h m)
theorem EqS.dat{H:Hp}{n:Nat}{x y:V}(h:EqA H x y):EqS H n x y:=by
 have:=EqS.mono (n:=0) h n
 rwa[Nat.zero_add]at this
section
variable {X:Cx}{pins:List (Addr×Obj)}{σ:St}{H:Hp}{s:Shared}{A:Around}
theorem xsq (I:Inv X O σ H s) {a b:Addr} {us zs:List V} (ha:H a=some (.lst us)) (hb:H b=some (.lst zs)) (hl:us.length=zs.length) (U:A.units<cLine)
  (he:∀(i:Nat) u z (G C:Value),us[i]?=some u->zs[i]?=some z->RelV u G->RelV z C->EqW X.prog X.w A.in1 s G C) (c:Bool):RcW X.prog X.w A s c (.ref a) (.ref b):=by
 intro E Q q;obtain⟨p,M,o1,_⟩:=I.list (SqL.of (K:=X.K) ha);obtain⟨o,J,o2,_⟩:=I.list (SqL.of (K:=X.K) hb);have e1:=M.length;have e2:=J.length;have hi:=o1.isList;have r:=o2.isList;obtain⟨⟨cls,dd,data,sl⟩,f,Y,n,hd⟩:=id hi;obtain⟨⟨a0,a2,y,a1⟩,e,m,n2,l⟩:=id r;simp only at Y hd m l;subst Y hd m l;have g:Value.bool c≠Value.notImplemented:=λx=>nomatch x;have hz:p.toArray.size=o.toArray.size:=by simp only[List.size_toArray];omega
 have h:∀j (h1:j<p.toArray.size) (Z:j<o.toArray.size),EqW X.prog X.w A.in1 s p.toArray[j] o.toArray[j]:=λj h1 Z=>by
  obtain⟨x1,f1,g1⟩:=xe5 M h1;obtain⟨x2,f2,g2⟩:=xe5 J Z;exact he j x1 x2 _ _ f1 f2 g1 g2
 cases c with
 |true=>exact wpAny_richCompare_same_room (op:=.Eq) ⟨_,f,rfl⟩ ⟨_,e,rfl⟩ PySem.F.slot_list_eq (call_meetsIn PySem.F.slot_list_eq ⟨_,f,rfl⟩ PySem.F.entry_list_eq (PySem.F.args_list_eq_2 _ _) (xsp hz) ⟨f,e,h,g,q⟩) U
 |false=>exact wpAny_richCompare_same_room (op:=.NotEq) ⟨_,f,rfl⟩ ⟨_,e,rfl⟩ PySem.F.slot_list_ne (call_meetsIn PySem.F.slot_list_ne ⟨_,f,rfl⟩ PySem.F.entry_list_ne (PySem.F.args_list_ne_2 _ _) (xso hz) ⟨f,e,h,g,q⟩) U
theorem xrm (I:Inv X Y σ H s) {a b:Addr} {us zs:List V} (ha:H a=some (.tup us)) (hb:H b=some (.tup zs)) (hl:us.length=zs.length) (Z:A.units<cLine)
  (he:∀(i:Nat) u z (M J:Value),us[i]?=some u->zs[i]?=some z->RelV u M->RelV z J->EqW X.prog X.w A.in1 s M J) (c:Bool):RcW X.prog X.w A s c (.ref a) (.ref b):=by
 intro E Q q;obtain⟨y,U,p1,_⟩:=I.tuple (SqT.of (K:=X.K) ha);obtain⟨r,O,p2,_⟩:=I.tuple (SqT.of (K:=X.K) hb);have e1:=U.length;have e2:=O.length;obtain⟨⟨cls,dd,data,sl⟩,g,hc,n,hd⟩:=id p1;obtain⟨⟨a0,a2,G,a1⟩,f,o,n2,m⟩:=id p2;simp only at hc hd o m;subst hc hd o m;have h:Value.bool c≠Value.notImplemented:=λx=>nomatch x;have hz:y.toArray.size=r.toArray.size:=by simp only[List.size_toArray];omega
 have l:∀p∈y.toArray.toList.zip r.toArray.toList,EqW X.prog X.w A.in1 s p.1 p.2:=λp hp=>by
  obtain⟨j,C,e⟩:=zMI hp;rw[List.length_zip]at C;have h1:j<y.toArray.size:=by simp at C⊢;omega
  have h2:j<r.toArray.size:=by simp at C⊢;omega
  obtain⟨x1,f1,g1⟩:=xe5 U h1;obtain⟨x2,f2,g2⟩:=xe5 O h2;rw[<- e,List.getElem_zip];exact he j x1 x2 _ _ f1 f2 (by simpa using g1) (by simpa using g2)
 cases c with
 |true=>exact wpAny_richCompare_same_room (op:=.Eq) ⟨_,g,rfl⟩ ⟨_,f,rfl⟩ PySem.F.slot_tuple_eq (call_meetsIn PySem.F.slot_tuple_eq ⟨_,g,rfl⟩ PySem.F.entry_tuple_eq (PySem.F.args_tuple_eq_2 _ _) (xrl hz) ⟨g,f,l,h,q⟩) Z
 |false=>exact wpAny_richCompare_same_room (op:=.NotEq) ⟨_,g,rfl⟩ ⟨_,f,rfl⟩ PySem.F.slot_tuple_ne (call_meetsIn PySem.F.slot_tuple_ne ⟨_,g,rfl⟩ PySem.F.entry_tuple_ne (PySem.F.args_tuple_ne_2 _ _) (xrk hz) ⟨g,f,l,h,q⟩) Z
theorem xrh(I:Inv X r σ H s){x y:V}{u v:Value}(h:EqA H x y)(l:RelV x u)(i:RelV y v)(hu:A.units+110<cLine):EqAt A s u v true:=by
 rcases h with⟨d,g,f,hd⟩ |⟨a,b,us,zs,ds,rfl,rfl,Y,U,n,m,hd⟩
 ·exact xow I 100 d hd g f l i (by omega)
 ·obtain rfl:u=.ref a:=l
  obtain rfl:v=.ref b:=i;by_cases c:a=b
  ·subst c
   exact EqAt.same _
  obtain⟨O,p,G,_⟩:=I.list (SqL.of (K:=X.K) Y);obtain⟨i2,o,C,_⟩:=I.list (SqL.of (K:=X.K) U);have e1:=p.length;have e2:=o.length;have e3:=n.length;have e4:=m.length;have:=EqAt.of_refs c (RcAt.lists (A:=A) (e:=λ_=>true) G.isList C.isList (by simp only[List.size_toArray];omega) (by omega) λj g f=>?_)
  ·have e:(List.range O.toArray.size).all (λ_=>true)=true:=by simp
   rw[e]at this;exact this
  ·obtain⟨x1,f1,g1⟩:=xe5 p g
   obtain⟨x2,f2,Z⟩:=xe5 o f;obtain⟨d1,z,M⟩:=n.get f1;obtain⟨d2,w,J⟩:=m.get f2;rw[z]at w;cases w;exact xow I 100 d1 (Nat.le_trans (xd0 (zMG z)) hd) M J g1 Z (by show A.units+1+100<cLine;omega)
theorem xl3(I:Inv X i σ H s)(l:A.units+110<cLine){j:List (Key×V)}{a:List (Key×Value)}(h:KV j a):∀(ks:List (Key×V)) (us:List (Key×Value)),KV ks us->(∀p∈ks,∃v,valV j p.1=some v/\EqA H p.2 v)->KeqHits A s a us true
 |[],us,r,_=>by cases r;exact .nil
 | k::ks,us,r,hd=>by
  cases r with
  | @cons _ m _ f w n=>
   obtain⟨v,z,x⟩:=hd k (by simp);have c:=h.val k.1;rw[z]at c
   cases g:valueAt a k.1 with
   |none=>rw[g]at c;exact c.elim
   |some y=>
    rw[g]at c;obtain⟨G,C⟩:=m;obtain⟨rfl,u⟩:=w;have:=KeqHits.hit (e:=true) (b:=true) g (xrh I x u c l) (xl3 I l h ks f n λp o=>hd p (List.mem_cons_of_mem _ o));exact this
theorem xuq (I:Inv X o σ H s) {a b:Addr} {m n:List (Key×V)} (C:H a=some (.dK m)) (y:H b=some (.dK n)) (M:m.length=n.length) (J:A.units+111<cLine)
  (x:∀p∈m,∃v,valV n p.1=some v/\EqA H p.2 v) (c:Bool):RcW X.prog X.w A s c (.ref a) (.ref b):=by
 intro E Q q;obtain⟨z,j,vs,h,u⟩:=xjo I.hok C;obtain⟨G,i,g,e,l⟩:=xjo I.hok y;have U:=h.length;have O:=e.length;have f:=xl3 (A:=A.in1) I (by show A.units+1+110<cLine;omega) e m vs h x;have r:(vs.length == g.length && true)=true:=by rw[show vs.length=g.length by omega];simp
 cases c with
 |true=>exact keq_eq j i u l (by omega) (λ_=>f) (by rw[r];exact q)
 |false=>exact keq_ne j i u l (by omega) (λ_=>f) (by rw[r];exact q)
theorem xsw(I:Inv X r σ H s):∀(n:Nat) {x y:V} {u v:Value} {A:Around},EqS H n x y->RelV x u->RelV y v->A.units+120+n<cLine->EqW X.prog X.w A s u v
 |0,x,y,u,v,A,h,e,c,C=>xl0 (xrh I h e c (by omega))
 | n+1,x,y,u,v,A,h,e,c,C=>by
  rcases h with h |⟨a,b,us,zs,rfl,rfl,h,l,p⟩ |⟨a,b,Y,U,rfl,rfl,j,g,l,p⟩
  ·exact xsw I n h e c (by omega)
  ·obtain rfl:u=.ref a:=e
   obtain rfl:v=.ref b:=c;have f:∀(i:Nat) u z (o m:Value),us[i]?=some u->zs[i]?=some z->RelV u o->RelV z m->EqW X.prog X.w A.in1 s o m:=λi u z o m O M J G=>xsw I n (p i u z O M) J G (by show A.units+1+120+n<cLine;omega);rcases h with⟨j,g⟩ |⟨j,g⟩
   ·exact xox (xrm I j g l (by omega) f true)
   ·exact xox (xsq I j g l (by omega) f true)
  ·obtain rfl:u=.ref a:=e
   obtain rfl:v=.ref b:=c;exact xox (xuq I j g l (by omega) p true)
def rEqZ(c:Bool):R2:=λx y H Q=>EqS H 12 x y/\(∃a b,x=.ref a/\y=.ref b)/\Q (.bl c) H
theorem rcS(I:Inv X a0 σ H s)(c:Bool):∀(n:Nat) {a b:Addr} {A:Around},EqS H n (.ref a) (.ref b)->A.units+120+n<cLine->RcW X.prog X.w A s c (.ref a) (.ref b)
 | 0,a,b,A,h,hA=>by
  rcases h with⟨d,x,Z,hd⟩ |⟨a',b',us,zs,ds,j,g,f,e,p,o,hd⟩
  ·cases d with
   |int i=>exact nomatch x
   |str z=>exact nomatch x
   |tup ds=>
    obtain⟨a',us,j,f,p⟩:=x;obtain⟨b',zs,g,e,o⟩:=Z;cases j;cases g;refine xrm I f e (by rw[p.length,o.length]) (by omega) (λi u z m l J G U O=>?_) c;obtain⟨d1,C,g1⟩:=p.get J;obtain⟨d2,y,g2⟩:=o.get G;rw[C]at y;cases y;have h':deeps ds+1<=100:=hd;exact xl0 (xow I 100 d1 (Nat.le_trans (xd0 (zMG C)) (by omega)) g1 g2 U O (by show A.units+1+100<cLine;omega))
  ·cases j
   cases g;refine xsq I f e (by rw[p.length,o.length]) (by omega) (λi u z m l J G U O=>?_) c;obtain⟨d1,C,g1⟩:=p.get J;obtain⟨d2,y,g2⟩:=o.get G;rw[C]at y;cases y;exact xl0 (xow I 100 d1 (Nat.le_trans (xd0 (zMG C)) hd) g1 g2 U O (by show A.units+1+100<cLine;omega))
 | n+1,a,b,A,h,hA=>by
  rcases h with h |⟨a',b',us,zs,j,g,h,M,Y⟩ |⟨a',b',J,G,j,g,f,e,M,Y⟩
  ·exact rcS I c n h (by omega)
  ·cases j
   cases g;have r:∀(i:Nat) u z (m l:Value),us[i]?=some u->zs[i]?=some z->RelV u m->RelV z l->EqW X.prog X.w A.in1 s m l:=λi u z m l x Z h3 h4=>xsw I n (Y i u z x Z) h3 h4 (by show A.units+1+120+n<cLine;omega);rcases h with⟨f,e⟩ |⟨f,e⟩
   ·exact xrm I f e M (by omega) r c
   ·exact xsq I f e M (by omega) r c
  ·cases j
   cases g;exact xuq I f e M (by omega) Y c
theorem xt5(j:X.A.units+200<cLine)(c:Bool):OpR X (compareOp (opC c)) (rEqZ c):=by
 intro e s σ H x y v u Q I g f h;obtain⟨i,⟨a,b,rfl,rfl⟩,q⟩:=h;obtain rfl:v=.ref a:=g;obtain rfl:u=.ref b:=f;exact rcS I c 12 i (by omega) _ _ ⟨.bl c,H,I,rfl,q⟩
theorem xhj(a:X.A.units+200<cLine):OpR X (compareOp .NotEq) (rEqZ false):=xt5 a false
end
end L2
end
section
namespace M
open PySem L2
inductive Row where
 |set (x:Str) (t:D)
 |send (c:Str) (t:D)
 |take (l c x:Str)
 |tell (t:D)
 |go (g:Nat)
 |cond (t:D) (g:Nat)
 |fin
def Row.hd:Row->Str
 |.set _ _=>S "set"
 |.send _ _=>S "send"
 |.take _ _ _=>S "take"
 |.tell _=>S "tell"
 |.go _=>S "go"
 |.cond _ _=>S "if"
 |.fin=>S "end"
def Row.as:Row->List D
 |.set x t=>[.str x,t]
 |.send c t=>[.str c,t]
 |.take l c x=>[.str l,.str c,.str x]
 |.tell t=>[t]
 |.go g=>[.int g]
 |.cond t g=>[t,.int g]
 |.fin=>[]
def Row.d(r:Row):D:=.tup (.str r.hd::r.as)
abbrev Chn:=Str×Str×Str×Str
def dChn(c:Chn):D:=.tup [.str c.1,.str c.2.1,.str c.2.2.1,.str c.2.2.2]
structure Hand where
 name:Str
 boxes:List (Str×Str)
 rows:List Row
def Hand.d(h:Hand):D:=.tup [.str h.name,xdv h.boxes,.tup (h.rows.map Row.d)]
structure Mak where
 kinds:List Kn
 chans:List Chn
 hands:List Hand
def Mak.d(m:Mak):D:=.tup [xdf m.kinds,.tup (m.chans.map dChn),.tup (m.hands.map Hand.d)]
def xeh(m:Mak)(x:Str):Option Hand:=m.hands.find? λh=>decide (h.name=x)
def xff(ks:List Kn)(cs:List Chn)(h:Str)(bs:List (Str×Str))(n:Nat):Row->Prop
 |.set x t=>∃k,(x,k)∈bs/\TmOk ks 21 bs t k
 |.send c t=>∃ch∈cs,ch.1=c/\ch.2.1=h/\TmOk ks 21 bs t ch.2.2.2
 |.take _ c x=>∃ch∈cs,ch.1=c/\ch.2.2.1=h/\(x,ch.2.2.2)∈bs
 |.tell t=>TmOk ks 21 bs t (S "num")
 |.go g=>g<n
 |.cond t g=>TmOk ks 21 bs t (S "num")/\g<n
 |.fin=>True
def Row.ends:Row->Prop
 |.go _=>True
 |.fin=>True
 |_=>False
structure HandOk(ks:List Kn)(cs:List Chn)(h:Hand):Prop where
 nd:(h.boxes.map (·.1)).Nodup
 few:h.boxes.length<=5
 kin:∀b∈h.boxes,KIn ks 6 b.2
 len:h.rows.length<=30
 ok:∀r∈h.rows,xff ks cs h.name h.boxes h.rows.length r
 last:∃r,h.rows.getLast?=some r/\r.ends
structure MakOk(m:Mak):Prop where
 wf:KWf m.kinds
 cnd:(m.chans.map (·.1)).Nodup
 cfew:m.chans.length<=6
 ckin:∀c∈m.chans,KIn m.kinds 6 c.2.2.2
 hnd:(m.hands.map Hand.name).Nodup
 hfew:m.hands.length<=4
 hok:∀h∈m.hands,HandOk m.kinds m.chans h
def putA(bx:List (Str×D))(x:Str)(d:D):List (Str×D):=
 if (bx.any λb=>decide (b.1=x))=true then bx.map (λb=>if b.1=x then (b.1,d) else b) else bx++[(x,d)]
def enOf(bx:List (Str×D)):En:=λx=>(bx.find? λb=>decide (b.1=x)).map (·.2)
def KvD(H:Hp):List (Key×V)->List (Str×D)->Prop
 |[],[]=>True
 |kv::kvs,b::bs=>kv.1=Sum.inr b.1/\RelD H kv.2 b.2/\KvD H kvs bs
 |_,_=>False
theorem KvD.tups{H a:Hp}(s:∀b vs,H b=some (.tup vs)->a b=some (.tup vs)):∀{kvs:List (Key×V)} {bx:List (Str×D)},KvD H kvs bx->KvD a kvs bx
 |[],[],_=>trivial
 |g::kvs,b::bs,⟨f,e,c⟩=>⟨f,e.tups s _,KvD.tups s c⟩
 |[],_::_,h=>h.elim
 |_::_,[],h=>h.elim
theorem KvD.length{H:Hp}:∀{kvs:List (Key×V)} {bx:List (Str×D)},KvD H kvs bx->kvs.length=bx.length
 |[],[],_=>rfl
 |c::kvs,b::bs,⟨_,_,a⟩=>by rw[List.length_cons,List.length_cons,KvD.length a]
 |[],_::_,h=>h.elim
 |_::_,[],h=>h.elim
theorem KvD.keys{H:Hp}:∀{kvs:List (Key×V)} {bx:List (Str×D)},KvD H kvs bx->kvs.map (·.1)=bx.map λb=>(Sum.inr b.1:Key)
 |[],[],_=>rfl
 |e::kvs,b::bs,⟨c,_,a⟩=>by rw[List.map_cons,List.map_cons,KvD.keys a,c]
 |[],_::_,h=>h.elim
 |_::_,[],h=>h.elim
theorem KvD.snoc{H:Hp}{v:V}{x:Str}{d:D}(r:RelD H v d):∀{kvs:List (Key×V)} {bx:List (Str×D)},KvD H kvs bx->KvD H (kvs++[(Sum.inr x,v)]) (bx++[(x,d)])
 |[],[],_=>⟨rfl,r,trivial⟩
 |f::kvs,b::bs,⟨e,c,a⟩=>⟨e,c,KvD.snoc r a⟩
 |[],_::_,h=>h.elim
 |_::_,[],h=>h.elim
theorem xss{a b:Str}:((Sum.inr a:Key)=Sum.inr b)=(a=b):=propext ⟨λh=>Sum.inr.inj h,λh=>congrArg _ h⟩
theorem KvD.any{H:Hp}{x:Str}:∀{kvs:List (Key×V)} {bx:List (Str×D)},KvD H kvs bx->(kvs.any λa=>decide (a.1=Sum.inr x))=bx.any λb=>decide (b.1=x)
 |[],[],_=>rfl
 |a::kvs,b::bs,⟨e,_,c⟩=>by
  rw[List.any_cons,List.any_cons,KvD.any c,e];simp only[xss]
 |[],_::_,h=>h.elim
 |_::_,[],h=>h.elim
theorem KvD.map{H:Hp}{v:V}{x:Str}{d:D}(r:RelD H v d):∀{kvs:List (Key×V)} {bx:List (Str×D)},KvD H kvs bx->KvD H (kvs.map λc=>if c.1=Sum.inr x then (c.1,v) else c) (bx.map λb=>if b.1=x then (b.1,d) else b)
 |[],[],_=>trivial
 | c::kvs,b::bs,⟨a,g,f⟩=>by
  refine⟨?_,?_,KvD.map r f⟩ <;> dsimp only
  ·by_cases e:b.1=x
   ·rw[if_pos (by rw[a,e]),if_pos e];exact a
   ·rw[if_neg (by rw[a];exact λz=>e (Sum.inr.inj z)),if_neg e];exact a
  ·by_cases e:b.1=x
   ·rw[if_pos (by rw[a,e]),if_pos e];exact r
   ·rw[if_neg (by rw[a];exact λz=>e (Sum.inr.inj z)),if_neg e];exact g
 |[],_::_,h=>h.elim
 |_::_,[],h=>h.elim
theorem KvD.put{H:Hp}{v:V}{x:Str}{d:D}{kvs:List (Key×V)}{bx:List (Str×D)}(h:KvD H kvs bx)(r:RelD H v d):KvD H (putK kvs (Sum.inr x) v) (putA bx x d):=by
 unfold putK putA;rw[h.any];split
 ·exact h.map r
 ·exact h.snoc r
theorem KvD.val{H:Hp}{x:Str}:∀{kvs:List (Key×V)} {bx:List (Str×D)},KvD H kvs bx->(enOf bx x=none->valV kvs (Sum.inr x)=none)/\∀d,enOf bx x=some d->∃v,valV kvs (Sum.inr x)=some v/\RelD H v d
 |[],[],_=>⟨λ_=>rfl,λd e=>by cases e⟩
 | j::kvs,b::bs,⟨c,i,g⟩=>by
  have f:=KvD.val (x:=x) g;by_cases e:b.1=x
  ·have a:enOf (b::bs) x=some b.2:=by unfold enOf;rw[List.find?_cons,zDT e];rfl
   rw[a,xbp (by rw[c,e])];exact⟨λz=>(by cases z),λd z=>⟨_,rfl,by cases z;exact i⟩⟩
  ·have a:enOf (b::bs) x=enOf bs x:=by unfold enOf;rw[List.find?_cons,zDF e]
   rw[a,xa0 (by rw[c];exact λz=>e (Sum.inr.inj z))];exact f
 |[],_::_,h=>h.elim
 |_::_,[],h=>h.elim
theorem KvD.en{H:Hp}{p:Addr}{kvs:List (Key×V)}{bx:List (Str×D)}{m:Nat}(a:H p=some (.dK kvs))(h:KvD H kvs bx)(c:bx.length<=m):EnAt H p m (enOf bx):=
 ⟨kvs,a,by rw[h.length];exact c,λx=>h.val⟩
theorem xup(bx:List (Str×D))(x:Str)(d:D):enOf (putA bx x d)=(enOf bx).put x d:=by
 funext y
 unfold En.put enOf putA;split
 ·rename_i h
  induction bx with
  |nil=>simp at h
  | cons b bs j=>
   rw[List.map_cons,List.find?_cons,List.find?_cons];by_cases e:b.1=x
   ·rw[if_pos e]
    by_cases a:y=x
    ·subst a
     rw[if_pos rfl,zDT e];rfl
    ·have l:¬b.1=y:=λz=>a (z.symm.trans e)
     rw[if_neg a,zDF l];show(List.find? _ (bs.map _)).map _=(List.find? _ bs).map _;by_cases f:(bs.any λb=>decide (b.1=x))=true
     ·have:=j f
      rw[if_neg a]at this;exact this
     ·have c:∀z∈bs,¬z.1=x:=λz hz i=>f (List.any_eq_true.mpr ⟨z,hz,zDT i⟩)
      rw[List.map_congr_left (g:=id) λz hz=>by rw[if_neg (c z hz)];rfl,List.map_id]
   ·rw[if_neg e]
    have f:(bs.any λb=>decide (b.1=x))=true:=by
     rw[List.any_cons,zDF e,Bool.false_or]at h;exact h
    by_cases a:b.1=y
    ·rw[zDT a,if_neg (λz=>e (a.trans z))]
    ·rw[zDF a]
     exact j f
 ·rename_i h
  have c:∀z∈bx,¬z.1=x:=λz hz i=>h (List.any_eq_true.mpr ⟨z,hz,zDT i⟩);rw[List.find?_append];by_cases a:y=x
  ·subst a
   rw[if_pos rfl,List.find?_eq_none.mpr λz hz=>by simpa using c z hz];simp
  ·rw[if_neg a,List.find?_singleton,zDF (λz=>a z.symm)]
   simp
theorem xih{bx:List (Str×D)}{x:Str}{d:D}(h:x∈bx.map (·.1)):(putA bx x d).map (·.1)=bx.map (·.1):=by
 unfold putA;obtain⟨b,a,e⟩:=zMP h;rw[if_pos (List.any_eq_true.mpr ⟨b,a,zDT e⟩),List.map_map]
 exact List.map_congr_left λz _=>by
  show(if z.1=x then (z.1,d) else z).1=z.1;split <;> rfl
theorem xql{a b:Str}{r c:List D}(h:a≠b):D.tup (.str a::r)≠D.tup (.str b::c):=λe=>h (D.str.inj (List.cons.inj (D.tup.inj e)).1)
theorem xi9{env:En}{d v a:D}(h:xej env d v)(h':xej env d a):v=a:=by
 rcases h with⟨n,rfl,rfl⟩ |⟨x,f,rfl⟩ <;> rcases h' with⟨m,e,rfl⟩ |⟨y,c,e⟩
 ·cases e
  rfl
 ·exact absurd e (xql (by walk_at"k"))
 ·exact absurd e (xql (by walk_at"k"))
 ·cases e
  rw[f]at c;exact Option.some.inj c
theorem xja{ks:List Kn}{R:En->D->D->Prop}{env:En}{d v a:D}(h:xej env d v)(h':NodeEv ks R env d a):False:=by
 rcases h with⟨n,rfl,rfl⟩ |⟨x,c,rfl⟩ <;> rcases h' with⟨_,_,_,_,_,_,_,_,_,e,_⟩ |⟨_,_,_,_,_,e,_⟩ |⟨_,_,_,_,_,_,_,_,_,_,e⟩ |⟨_,_,_,_,_,e,_⟩ |⟨_,_,_,_,_,_,_,_,_,_,_,e⟩ |⟨_,_,_,_,_,_,e⟩ <;> exact absurd e (xql (by walk_at"k"))
theorem xj1{R:D->D->Prop}(u:∀a v e,R a v->R a e->v=e):∀{es vs c:List D},All2 R es vs->All2 R es c->vs=c
 |_,_,_,.nil,.nil=>rfl
 |_,_,_,.cons h t,.cons h' t'=>by rw[u _ _ _ h h',xj1 u t t']
theorem xou{ks:List Kn}:∀(n:Nat) (env:En) (d v w:D),Ev ks n env d v->Ev ks n env d w->v=w
 |0,_,_,_,_,h,h'=>xi9 h h'
 | n + 1,env,d,v,w,h,h'=>by
  have m:=xou (ks:=ks) n;rcases h with h |h <;> rcases h' with h' | h'
  ·exact xi9 h h'
  ·exact(xja h h').elim
  ·exact(xja h' h).elim
  rcases h with⟨s,a,b,x,y,g,u,_,_,rfl,rfl⟩ |⟨k,es,vs,_,g,rfl,rfl⟩ |⟨a,k,vs,f,kn,i,g,u,O,h4,rfl⟩ |⟨k,t,a,x,g,rfl,rfl⟩ |⟨a,rs,k,t,x,y,e0,_,g,u,O,rfl⟩ |⟨a,b,c,x,g,u,rfl⟩ <;>
  rcases h' with⟨s',C,b',G,Y,j,o,_,_,e,rfl⟩ |⟨k',es',I,_,j,e,rfl⟩ |⟨C,k',I,f',a2,i',j,o,z,U,e⟩ |⟨k',t',C,G,j,e,rfl⟩ |⟨C,J,k',t',G,Y,a3,_,j,o,z,e⟩ |⟨C,b',c',G,j,o,e⟩ <;>
  first |exact absurd e (xql (by walk_at"k")) |skip
  ·cases e
   have:=m _ _ _ _ g j;have h:=m _ _ _ _ u o;cases this;cases h;rfl
  ·cases e
   rw[xj1 (λa v w=>m env a v w) g j]
  ·cases e
   have:=m _ _ _ _ g j;cases this;rw[u]at o;cases o;rw[O]at z;cases z;rw[h4]at U;exact Option.some.inj U
  ·cases e
   rw[m _ _ _ _ g j]
  ·have e1:=(List.cons.inj (List.cons.inj (D.tup.inj e)).2).1
   have e2:=D.tup.inj (List.cons.inj (List.cons.inj (List.cons.inj (D.tup.inj e)).2).2).1
   have e3:rs=J:=by
    have:∀{l p:List (Str×Str×D)},l.map dArm=p.map dArm->l=p:=by
     intro l
     induction l with
     |nil=>intro p h;cases p with |nil=>rfl |cons _ _=>cases h
     | cons r l M=>
      intro p h
      cases p with
      |nil=>cases h
      |cons r' p=>
       rw[List.map_cons,List.map_cons]at h;have q:=List.cons.inj h;obtain⟨r1,r2,r3⟩:=r;obtain⟨a1,a0,Z⟩:=r';have q1:=q.1;cases q1;rw[M q.2]
    exact this e2
   subst e1 e3;have:=m _ _ _ _ g j;cases this;rw[u]at o;cases o;exact m _ _ _ _ O z
  ·cases e
   have:=m _ _ _ _ g j;cases this;exact m _ _ _ _ u o
noncomputable def wv(ks:List Kn)(bx:List (Str×D))(t:D):D:=open Classical in if h:∃v,Ev ks 21 (enOf bx) t v then h.choose else .int 0
theorem xhv{ks:List Kn}{bs:List (Str×Str)}{bx:List (Str×D)}{t:D}{k:Str}(h:TmOk ks 21 bs t k)(f:FitB ks bs (enOf bx)):Ev ks 21 (enOf bx) t (wv ks bx t)/\Vk ks k (wv ks bx t):=by
 obtain⟨v,c,g⟩:=h _ f;have a:∃v,Ev ks 21 (enOf bx) t v:=⟨v,xly _ _ _ _ c⟩;have e:wv ks bx t=a.choose:=by unfold wv;rw[dif_pos a]
 rw[e,xou _ _ _ _ _ a.choose_spec (xly _ _ _ _ c)];exact⟨xly _ _ _ _ c,g⟩
abbrev Lts:=List (Str×List D)
def getL(cs:Lts)(c:Str):Option (List D):=(cs.find? λp=>decide (p.1=c)).map (·.2)
def modL(f:List D->List D)(c:Str):Lts->Lts
 |[]=>[]
 |p::ps=>if p.1=c then (p.1,f p.2)::ps else p::modL f c ps
theorem xct{p:Str×List D}{ps:Lts}{c:Str}:getL (p::ps) c=if p.1=c then some p.2 else getL ps c:=by
 unfold getL;rw[List.find?_cons];by_cases e:p.1=c
 ·rw[zDT e,if_pos e];rfl
 ·rw[zDF e,if_neg e]
theorem xe0(f:List D->List D)(c:Str):∀cs:Lts,(modL f c cs).map (·.1)=cs.map (·.1)
 |[]=>rfl
 |p::ps=>by
  unfold modL;split
  ·rfl
  ·rw[List.map_cons,List.map_cons,xe0 f c ps]
theorem xlv{f:List D->List D}{c g:Str}:∀{cs:Lts},getL (modL f c cs) g=if g=c then (getL cs c).map f else getL cs g
 |[]=>by show none=_;split <;> rfl
 | p::ps=>by
  unfold modL;by_cases e:p.1=c
  ·rw[if_pos e,xct,xct,xct,if_pos e]
   by_cases a:g=c
   ·rw[if_pos a,if_pos (show p.1=g by rw[e,a])];rfl
   ·have:¬p.1=g:=λz=>a (z.symm.trans e)
    rw[if_neg a,if_neg this,if_neg this]
  ·rw[if_neg e,xct,xct,xct,if_neg e,xlv]
   by_cases a:g=c
   ·rw[if_neg (λz=>e (z.trans a))]
    rw[if_pos a,if_pos a]
   ·rw[if_neg a,if_neg a]
theorem xe1{cs:Lts}{c:Str}(h:c∈cs.map (·.1)):∃ds,getL cs c=some ds/\(c,ds)∈cs:=by
 induction cs with
 |nil=>exact nomatch h
 | cons p ps a=>
  rw[xct];by_cases e:p.1=c
  ·rw[if_pos e]
   exact⟨p.2,rfl,by rw[<- e];simp⟩
  ·rw[if_neg e]
   rcases zMC h with h |h
   ·exact absurd h.symm e
   ·obtain⟨ds,g,f⟩:=a h
    exact⟨ds,g,List.mem_cons_of_mem _ f⟩
def Chg(la:Addr)(xs:List V)(H H':Hp):Prop:=∀b o,H b=some o->H' b=some (if b=la then .lst xs else o)
theorem Chg.upd{a:Addr}{xs:List V}{H:Hp}:Chg a xs H (upd H a (.lst xs)):=λb o e=>by
 by_cases h:b=a
 ·subst h;rw[ups,if_pos rfl]
 ·rw[xad h,if_neg h];exact e
theorem Chg.pre{a:Addr}{xs:List V}{H g f:Hp}(s:Same H g)(c:Chg a xs g f):Chg a xs H f:=λb o e=>c b o (s b o e)
theorem Chg.ne{a:Addr}{xs:List V}{H f:Hp}(c:Chg a xs H f){b:Addr}{o:HO}(e:H b=some o)(h:b≠a):f b=some o:=by
 have:=c b o e
 rwa[if_neg h]at this
theorem Chg.at{a:Addr}{xs:List V}{H f:Hp}(c:Chg a xs H f){o:HO}(e:H a=some o):f a=some (.lst xs):=by
 have:=c a o e
 rwa[if_pos rfl]at this
theorem Chg.tups{a:Addr}{us xs:List V}{H f:Hp}(c:Chg a xs H f)(h:H a=some (.lst us)):∀b vs,H b=some (.tup vs)->f b=some (.tup vs):=λb vs e=>c.ne e λz=>by subst z;rw[h]at e;cases e
theorem Same.tups{H a:Hp}(s:Same H a):∀b vs,H b=some (.tup vs)->a b=some (.tup vs):=λb vs e=>s b _ e
def LsAt(H:Hp):List (Key×V)->Lts->List Addr->Prop
 |[],[],[]=>True
 |kv::kvs,c::cs,a::L=>kv=(Sum.inr c.1,.ref a)/\(∃us,H a=some (.lst us)/\RelDs H us c.2)/\LsAt H kvs cs L
 |_,_,_=>False
theorem LsAt.keep{H f:Hp}(s:∀b vs,H b=some (.tup vs)->f b=some (.tup vs)):∀{kvs:List (Key×V)} {cs:Lts} {L:List Addr},(∀a∈L,∀us,H a=some (.lst us)->f a=some (.lst us))->LsAt H kvs cs L->LsAt f kvs cs L
 |[],[],[],_,_=>trivial
 |m::kvs,c::cs,a::L,k,⟨e,⟨us,l,j⟩,i⟩=>⟨e,⟨us,k a (by simp) us l,j.tups s _⟩,LsAt.keep s (λb g=>k b (List.mem_cons_of_mem _ g)) i⟩
 |[],[],_::_,_,h=>h.elim
 |[],_::_,_,_,h=>h.elim
 |_::_,[],_,_,h=>h.elim
 |_::_,_::_,[],_,h=>h.elim
theorem LsAt.same{H c:Hp}(s:Same H c){kvs:List (Key×V)}{cs:Lts}{L:List Addr}(h:LsAt H kvs cs L):LsAt c kvs cs L:=LsAt.keep (Same.tups s) (λa _ us e=>s _ _ e) h
theorem LsAt.lens{H:Hp}:∀{kvs:List (Key×V)} {cs:Lts} {L:List Addr},LsAt H kvs cs L->kvs.length=cs.length/\L.length=cs.length
 |[],[],[],_=>⟨rfl,rfl⟩
 |e::kvs,c::cs,a::L,⟨_,_,h⟩=>by
  have:=LsAt.lens h;exact⟨by rw[List.length_cons,List.length_cons,this.1],by rw[List.length_cons,List.length_cons,this.2]⟩
 |[],[],_::_,h=>h.elim
 |[],_::_,_,h=>h.elim
 |_::_,[],_,h=>h.elim
 |_::_,_::_,[],h=>h.elim
theorem LsAt.snoc{H:Hp}{c:Str}{a:Addr}{us:List V}{ds:List D}(f:H a=some (.lst us))(r:RelDs H us ds):∀{kvs:List (Key×V)} {cs:Lts} {L:List Addr},LsAt H kvs cs L->LsAt H (kvs++[(Sum.inr c,.ref a)]) (cs++[(c,ds)]) (L++[a])
 |[],[],[],_=>⟨rfl,⟨us,f,r⟩,trivial⟩
 |j::kvs,c::cs,a::L,⟨e,i,g⟩=>⟨e,i,LsAt.snoc f r g⟩
 |[],[],_::_,h=>h.elim
 |[],_::_,_,h=>h.elim
 |_::_,[],_,h=>h.elim
 |_::_,_::_,[],h=>h.elim
theorem LsAt.idx{H:Hp}:∀{kvs:List (Key×V)} {cs:Lts} {L:List Addr} {i:Nat} {f:Key×V},LsAt H kvs cs L->kvs[i]?=some f->∃c a us,cs[i]?=some c/\f=(Sum.inr c.1,.ref a)/\H a=some (.lst us)/\RelDs H us c.2
 |[],[],[],i,f,_,e=>by simp at e
 |g::kvs,c::cs,a::L,0,f,⟨o,⟨us,l,j⟩,_⟩,e=>by
  simp at e;subst e;exact⟨c,a,us,rfl,o,l,j⟩
 |g::kvs,c::cs,a::L,i+1,f,⟨_,_,h⟩,e=>by
  obtain⟨p,r,us,n,m⟩:=LsAt.idx (i:=i) h (by simpa using e);exact⟨p,r,us,by simpa using n,m⟩
 |[],[],_::_,_,_,h,_=>h.elim
 |[],_::_,_,_,_,h,_=>h.elim
 |_::_,[],_,_,_,h,_=>h.elim
 |_::_,_::_,[],_,_,h,_=>h.elim
theorem LsAt.keys{H:Hp}:∀{kvs:List (Key×V)} {cs:Lts} {L:List Addr},LsAt H kvs cs L->kvs.map (·.1)=cs.map λc=>(Sum.inr c.1:Key)
 |[],[],[],_=>rfl
 |f::kvs,c::cs,a::L,⟨e,_,h⟩=>by rw[List.map_cons,List.map_cons,LsAt.keys h,e]
 |[],[],_::_,h=>h.elim
 |[],_::_,_,h=>h.elim
 |_::_,[],_,h=>h.elim
 |_::_,_::_,[],h=>h.elim
theorem xgy{α:Type}{f:α->Str}{l:List α}(h:(l.map f).Nodup):(l.map λa=>(Sum.inr (f a):Key)).Nodup:=List.pairwise_map.mpr ((List.pairwise_map.mp h).imp λh z=>h (Sum.inr.inj z))
theorem LsAt.there{H:Hp}:∀{kvs:List (Key×V)} {cs:Lts} {L:List Addr},LsAt H kvs cs L->∀a∈L,∃us,H a=some (.lst us)
 |[],[],[],_,a,h=>nomatch h
 |i::kvs,c::cs,a::L,⟨_,⟨us,g,_⟩,f⟩,b,e=>by
  rcases zMC e with rfl |e
  ·exact⟨us,g⟩
  ·exact LsAt.there f b e
 |[],[],_::_,h,_,_=>h.elim
 |[],_::_,_,h,_,_=>h.elim
 |_::_,[],_,h,_,_=>h.elim
 |_::_,_::_,[],h,_,_=>h.elim
theorem LsAt.get {H:Hp} {c:Str}:∀{kvs:List (Key×V)} {cs:Lts} {L:List Addr} {ds:List D},LsAt H kvs cs L->L.Nodup->getL cs c=some ds->
  ∃la us,valV kvs (Sum.inr c)=some (.ref la)/\la∈L/\H la=some (.lst us)/\RelDs H us ds/\∀(H':Hp) (us':List V) (f:List D->List D),Chg la us' H H'->RelDs H' us' (f ds)->LsAt H' kvs (modL f c cs) L
 |[],[],[],ds,_,_,e=>nomatch e
 | kv::kvs,p::cs,a::L,ds,⟨e,⟨us,h1,h2⟩,h3⟩,nd,hg=>by
  subst e;rw[List.nodup_cons]at nd;rw[xct]at hg;by_cases ec:p.1=c
  ·rw[if_pos ec]at hg
   cases hg;refine⟨a,us,by rw[xbp (by rw[ec])],by simp,h1,h2,λH' us' f ch r=>?_⟩;unfold modL;rw[if_pos ec];refine⟨rfl,⟨us',ch.at h1,r⟩,LsAt.keep (ch.tups h1) (λb hb vs q=>ch.ne q λz=>nd.1 (by rw[<- z];exact hb)) h3⟩
  ·rw[if_neg ec]at hg
   obtain⟨la,us2,g1,g2,g3,g4,g5⟩:=LsAt.get h3 nd.2 hg;refine⟨la,us2,by rw[xa0 (λz=>ec (Sum.inr.inj z))];exact g1,List.mem_cons_of_mem _ g2,g3,g4,λH' us' f ch r=>?_⟩;unfold modL;rw[if_neg ec];refine⟨rfl,⟨us,ch.ne h1 λz=>nd.1 (by rw[z];exact g2),h2.tups (ch.tups g3) _⟩,g5 H' us' f ch r⟩
 |[],[],_::_,_,h,_,_=>h.elim
 |[],_::_,_,_,h,_,_=>h.elim
 |_::_,[],_,_,h,_,_=>h.elim
 |_::_,_::_,[],_,h,_,_=>h.elim
def StAt(H:Hp)(sa p:Addr)(k:Nat)(bx:List (Str×D)):Prop:=H sa=some (.tup [.int k,.ref p])/\∃kvs,H p=some (.dK kvs)/\KvD H kvs bx
theorem StAt.keep{H a:Hp}{c p:Addr}{k:Nat}{bx:List (Str×D)}(h:StAt H c p k bx)(s:∀b vs,H b=some (.tup vs)->a b=some (.tup vs))(e:∀o,H p=some o->a p=some o):StAt a c p k bx:=by
 obtain⟨i,kvs,g,f⟩:=h;exact⟨s _ _ i,kvs,e _ g,f.tups s⟩
theorem StAt.same{H c:Hp}{a p:Addr}{k:Nat}{bx:List (Str×D)}(h:StAt H a p k bx)(s:Same H c):StAt c a p k bx:=h.keep (Same.tups s) λo e=>s _ _ e
theorem StAt.chg{H j:Hp}{a p f:Addr}{us xs:List V}{k:Nat}{bx:List (Str×D)}(h:StAt H a p k bx)(g:H f=some (.lst us))(c:Chg f xs H j):StAt j a p k bx:=h.keep (c.tups g) λo e=>c.ne e λz=>by
 obtain⟨_,kvs,i,_⟩:=h;rw[z,g]at i;cases i
theorem hdT{x y:Str}(h:x=y):decide (V.str x=V.str y)=true:=zDT (congrArg V.str h)
theorem hdF{x y:Str}(h:x≠y):decide (V.str x=V.str y)=false:=zDF λz=>h (V.str.inj z)
theorem xji{r:Row}(h:∀g,r≠.go g):r.hd≠S "go":=by cases r <;> first |exact absurd rfl (h _) |(show S _≠S _;decide +kernel)
theorem xjh{r:Row}(h:∀t g,r≠.cond t g):r.hd≠S "if":=by cases r <;> first |exact absurd rfl (h _ _) |(show S _≠S _;decide +kernel)
theorem xjj{r:Row}(h:r≠.fin):r.hd≠S "end":=by cases r <;> first |exact absurd rfl h |(show S _≠S _;decide +kernel)
theorem xcv{r:Row}(h:∀l c x,r≠.take l c x):r.hd≠S "take":=by cases r <;> first |exact absurd rfl (h _ _ _) |(show S _≠S _;decide +kernel)
theorem xdz{r:Row}(h:∀c t,r≠.send c t):r.hd≠S "send":=by cases r <;> first |exact absurd rfl (h _ _) |(show S _≠S _;decide +kernel)
theorem xe6{r:Row}(h:∀x t,r≠.set x t):r.hd≠S "set":=by cases r <;> first |exact absurd rfl (h _ _) |(show S _≠S _;decide +kernel)
theorem xep{r:Row}(h:∀t,r≠.tell t):r.hd≠S "tell":=by cases r <;> first |exact absurd rfl (h _) |(show S _≠S _;decide +kernel)
open Classical in
noncomputable def xcn(ks:List Kn)(bx:List (Str×D))(k:Nat):Row->Nat
 |.go g=>g
 |.cond t g=>if wv ks bx t=.int 0 then k+1 else g
 |_=>k+1
noncomputable def xf5(ks:List Kn)(bx:List (Str×D))(l:D):Row->List (Str×D)
 |.set x t=>putA bx x (wv ks bx t)
 |.take _ _ x=>putA bx x l
 |_=>bx
structure LSt where
 row:Nat
 bx:List (Str×D)
 com:Lts
 goi:Lts
 told:List D
 many:Nat
def Row.shut(com:Lts):Row->Bool
 |.fin=>true
 |.take _ c _=>((getL com c).getD []).isEmpty
 |_=>false
def Row.letter(com:Lts):Row->D
 |.take _ c _=>((getL com c).getD []).headD (.int 0)
 |_=>.int 0
def Row.com(com:Lts):Row->Lts
 |.take _ c _=>modL List.tail c com
 |_=>com
noncomputable def Row.goi(ks:List Kn)(bx:List (Str×D))(goi:Lts):Row->Lts
 |.send c t=>modL (λl=>l++[wv ks bx t]) c goi
 |_=>goi
noncomputable def Row.told(ks:List Kn)(bx:List (Str×D))(told:List D):Row->List D
 |.tell t=>told++[wv ks bx t]
 |_=>told
noncomputable def LSt.next(ks:List Kn)(s:LSt)(r:Row):LSt:=⟨xcn ks s.bx s.row r,xf5 ks s.bx (r.letter s.com) r,r.com s.com,r.goi ks s.bx s.goi,r.told ks s.bx s.told,s.many+1⟩
structure LOk(m:Mak)(h:Hand)(s:LSt):Prop where
 row:s.row<h.rows.length
 keys:s.bx.map (·.1)=h.boxes.map (·.1)
 fit:FitB m.kinds h.boxes (enOf s.bx)
 com:s.com.map (·.1)=(m.chans.filter λc=>decide (c.2.2.1=h.name)).map (·.1)
 goi:s.goi.map (·.1)=(m.chans.filter λc=>decide (c.2.1=h.name)).map (·.1)
 cok:∀c∈m.chans,∀ds,getL s.com c.1=some ds->∀d∈ds,Vk m.kinds c.2.2.2 d
 gok:∀p∈s.goi,p.2.length<=s.many/\∀d∈p.2,d.deep<=12
 tok:s.told.length<=s.many/\∀d∈s.told,d.deep<=12
theorem xhh{f:Str}{v u:V}:∀{fs:List (Str×V)},fs.lookup f=some u->(putF f v fs).length=fs.length
 |[],h=>nomatch h
 | (g,x)::r,h=>by
  unfold putF;by_cases e:g=f
  ·rw[if_pos e];rfl
  ·rw[if_neg e,List.length_cons,List.length_cons]
   rw[List.lookup_cons,show(f == g)=false from beq_eq_false_iff_ne.mpr (Ne.symm e)]at h;rw[xhh h]
def Lms:List Str:=[Str.ofString "step",Str.ofString "stand",Str.ofString "told",Str.ofString "sent",Str.ofString "left",Str.ofString "count"]
structure Lf(fs:List (Str×V))(mv:V)(h:Str)(sa ca ga ta:Addr)(n:Int):Prop where
 mkv:fs.lookup (Str.ofString "make")=some mv
 nm:fs.lookup (Str.ofString "name")=some (.str h)
 nw:fs.lookup (Str.ofString "now")=some (.ref sa)
 cm:fs.lookup (Str.ofString "coming")=some (.ref ca)
 gn:fs.lookup (Str.ofString "going")=some (.ref ga)
 tl:fs.lookup (Str.ofString "tellings")=some (.ref ta)
 mn:fs.lookup (Str.ofString "many")=some (.int n)
 len:fs.length<=7
 no:∀f∈Lms,fs.lookup f=none
theorem Lf.init{l:V}{h:Str}{j p o i:Addr}:Lf (putF (Str.ofString "many") (.int 0) (putF (Str.ofString "tellings") (.ref i) (putF (Str.ofString "going") (.ref o) (putF (Str.ofString "coming") (.ref p) (putF (Str.ofString "now") (.ref j) (putF (Str.ofString "name") (.str h) (putF (Str.ofString "make") l []))))))) l h j p o i 0:=by
 have ne:∀{f g:Str} {v u:V} {fs:List (Str×V)},fs.lookup g=some u->g≠f->(putF f v fs).lookup g=some u:=λe n=>by rw[xb7,if_neg n];exact e
 have c:∀{f:Str} {v:V} {fs:List (Str×V)},(putF f v fs).lookup f=some v:=by intro f v fs;rw[xb7,if_pos rfl]
 have a:∀{g:Str} {v:V} {fs:List (Str×V)},(∀f∈Lms,fs.lookup f=none)->(∀f∈Lms,f≠g)->∀f∈Lms,(putF g v fs).lookup f=none:=λh n f m=>by rw[xb7,if_neg (n f m)];exact h f m
 refine⟨?_,?_,?_,?_,?_,?_,c,?_,?_⟩
 ·exact ne (ne (ne (ne (ne (ne c (by walk_at"k")) (by walk_at"k")) (by walk_at"k")) (by walk_at"k")) (by walk_at"k")) (by walk_at"k")
 ·exact ne (ne (ne (ne (ne c (by walk_at"k")) (by walk_at"k")) (by walk_at"k")) (by walk_at"k")) (by walk_at"k")
 ·exact ne (ne (ne (ne c (by walk_at"k")) (by walk_at"k")) (by walk_at"k")) (by walk_at"k")
 ·exact ne (ne (ne c (by walk_at"k")) (by walk_at"k")) (by walk_at"k")
 ·exact ne (ne c (by walk_at"k")) (by walk_at"k")
 ·exact ne c (by walk_at"k")
 ·refine Nat.le_trans (xbb _ _ _) (Nat.succ_le_succ (Nat.le_trans (xbb _ _ _) (Nat.succ_le_succ (Nat.le_trans (xbb _ _ _) (Nat.succ_le_succ (Nat.le_trans (xbb _ _ _) (Nat.succ_le_succ (Nat.le_trans (xbb _ _ _) (Nat.succ_le_succ (Nat.le_trans (xbb _ _ _) (Nat.succ_le_succ (Nat.le_trans (xbb _ _ _) ?_))))))))))))
  exact Nat.le_refl _
 ·exact a (a (a (a (a (a (a (λ_ _=>rfl) (by walk_at"k")) (by walk_at"k")) (by walk_at"k")) (by walk_at"k")) (by walk_at"k")) (by walk_at"k")) (by walk_at"k")
theorem Lf.now{fs:List (Str×V)}{e:V}{h:Str}{m j i c:Addr}{n:Int}(l:Lf fs e h m j i c n)(a:Addr):Lf (putF (Str.ofString "now") (.ref a) fs) e h a j i c n:=by
 refine⟨?_,?_,?_,?_,?_,?_,?_,by rw[xhh l.nw];exact l.len,λf g=>by rw[xb7,if_neg ((by walk_at"k":∀f∈Lms,f≠Str.ofString "now") f g)];exact l.no f g⟩ <;> rw[xb7]
 ·rw[if_neg (by walk_at"k")];exact l.mkv
 ·rw[if_neg (by walk_at"k")];exact l.nm
 ·rw[if_pos rfl]
 ·rw[if_neg (by walk_at"k")];exact l.cm
 ·rw[if_neg (by walk_at"k")];exact l.gn
 ·rw[if_neg (by walk_at"k")];exact l.tl
 ·rw[if_neg (by walk_at"k")];exact l.mn
theorem Lf.many{fs:List (Str×V)}{g:V}{h:Str}{c m j a:Addr}{n:Int}(l:Lf fs g h c m j a n)(e:Int):Lf (putF (Str.ofString "many") (.int e) fs) g h c m j a e:=by
 refine⟨?_,?_,?_,?_,?_,?_,?_,by rw[xhh l.mn];exact l.len,λf i=>by rw[xb7,if_neg ((by walk_at"k":∀f∈Lms,f≠Str.ofString "many") f i)];exact l.no f i⟩ <;> rw[xb7]
 ·rw[if_neg (by walk_at"k")];exact l.mkv
 ·rw[if_neg (by walk_at"k")];exact l.nm
 ·rw[if_neg (by walk_at"k")];exact l.nw
 ·rw[if_neg (by walk_at"k")];exact l.cm
 ·rw[if_neg (by walk_at"k")];exact l.gn
 ·rw[if_neg (by walk_at"k")];exact l.tl
 ·rw[if_pos rfl]
structure LnA where
 dx:Addr
 sa:Addr
 p:Addr
 ca:Addr
 ga:Addr
 ta:Addr
 Lc:List Addr
 Lg:List Addr
structure LnAt(H:Hp)(C x:Addr)(mv:V)(h:Str)(a:LnA)(st:LSt):Prop where
 ob:∃fs,H x=some (.ins C a.dx fs)/\Lf fs mv h a.sa a.ca a.ga a.ta st.many
 sta:StAt H a.sa a.p st.row st.bx
 com:∃kc,H a.ca=some (.dK kc)/\LsAt H kc st.com a.Lc
 goi:∃kg,H a.ga=some (.dK kg)/\LsAt H kg st.goi a.Lg
 tel:∃ut,H a.ta=some (.lst ut)/\RelDs H ut st.told
 nd:(a.ta::(a.Lc++a.Lg)).Nodup
def LnA.F(a:LnA)(x:Addr):List Addr:=x::a.p::a.ca::a.ga::a.ta::(a.Lc++a.Lg)
theorem LnAt.keep{H f:Hp}{C x:Addr}{g:V}{h:Str}{a:LnA}{st:LSt}(l:LnAt H C x g h a st)(s:∀b vs,H b=some (.tup vs)->f b=some (.tup vs))(k:∀b∈a.F x,∀o,H b=some o->f b=some o):LnAt f C x g h a st:=by
 obtain⟨⟨fs,I,G⟩,z,⟨m,y,w⟩,⟨j,u,r⟩,⟨i,p,n⟩,nd⟩:=l;exact⟨⟨fs,k x (by simp[LnA.F]) _ I,G⟩,z.keep s λo e=>k _ (by simp[LnA.F]) o e,⟨m,k _ (by simp[LnA.F]) _ y,w.keep s λb c us e=>k b (by simp[LnA.F,c]) _ e⟩,⟨j,k _ (by simp[LnA.F]) _ u,r.keep s λb c us e=>k b (by simp[LnA.F,c]) _ e⟩,⟨i,k _ (by simp[LnA.F]) _ p,n.tups s _⟩,nd⟩
theorem LnAt.same{H f:Hp}{C x:Addr}{c:V}{h:Str}{a:LnA}{st:LSt}(l:LnAt H C x c h a st)(s:Same H f):LnAt f C x c h a st:=l.keep (Same.tups s) λb _ o e=>s b o e
theorem LnAt.stepped {H c:Hp} {C x:Addr} {G:V} {h:Str} {a:LnA} {st st':LSt} {g r:Addr} {fs fs2:List (Str×V)} (l:LnAt H C x G h a st) (U:c x=some (.ins C a.dx fs)) (O:Lf fs2 G h g a.ca a.ga a.ta st'.many) (y:StAt c g r st'.row st'.bx)
  (com:∃m,c a.ca=some (.dK m)/\LsAt c m st'.com a.Lc) (goi:∃I,c a.ga=some (.dK I)/\LsAt c I st'.goi a.Lg) (w:∃u,c a.ta=some (.lst u)/\RelDs c u st'.told)
  (fr:∀b o,H b=some o->b ∉a.F x->c b=some o) (M:∀b vs,H b=some (.tup vs)->c b=some (.tup vs)) (s:r=a.p\/H r=none) :
  LnAt (upd c x (.ins C a.dx fs2)) C x G h {a with sa:=g,p:=r} st'/\(∀b o,H b=some o->b ∉a.F x->upd c x (.ins C a.dx fs2) b=some o)/\(∀b vs,H b=some (.tup vs)->upd c x (.ins C a.dx fs2) b=some (.tup vs))/\∀b∈({a with sa:=g,p:=r}:LnA).F x,b∈a.F x\/H b=none:=by
 have ne:∀b o,c b=some o->(∀fs,o≠.ins C a.dx fs)->upd c x (.ins C a.dx fs2) b=some o:=λb o e n=>by
  rw[xad λz=>by rw[z,U]at e;exact n fs (Option.some.inj e).symm];exact e
 have f:∀b vs,c b=some (.tup vs)->upd c x (.ins C a.dx fs2) b=some (.tup vs):=λb vs e=>ne b _ e λfs z=>by cases z
 have ls:∀{kvs cs L},LsAt c kvs cs L->LsAt (upd c x (.ins C a.dx fs2)) kvs cs L:=λh=>h.keep f λb _ us e=>ne b _ e λfs z=>by cases z
 refine⟨⟨⟨fs2,ups,O⟩,?_,?_,?_,?_,l.nd⟩,λb o e n=>?_,λb vs e=>f b vs (M b vs e),λb J=>?_⟩
 ·obtain⟨j,kvs,i,Y⟩:=y
  exact⟨f _ _ j,kvs,ne _ _ i (λfs z=>by cases z),Y.tups f⟩
 ·obtain⟨m,j,i⟩:=com
  exact⟨m,ne _ _ j (λfs z=>by cases z),ls i⟩
 ·obtain⟨m,j,i⟩:=goi
  exact⟨m,ne _ _ j (λfs z=>by cases z),ls i⟩
 ·obtain⟨u,j,i⟩:=w
  exact⟨u,ne _ _ j (λfs z=>by cases z),i.tups f _⟩
 ·rw[xad λz=>n (by rw[z];simp[LnA.F])]
  exact fr b o e n
 ·simp only[LnA.F,List.mem_cons]at J⊢
  rcases J with h |h |h |h |h |h
  ·exact .inl (.inl h)
  ·rcases s with s |s
   ·exact .inl (.inr (.inl (h.trans s)))
   ·exact .inr (by rw[h];exact s)
  ·exact .inl (.inr (.inr (.inl h)))
  ·exact .inl (.inr (.inr (.inr (.inl h))))
  ·exact .inl (.inr (.inr (.inr (.inr (.inl h)))))
  ·exact .inl (.inr (.inr (.inr (.inr (.inr h)))))
theorem LsAt.val{H:Hp}{c:Str}:∀{kvs:List (Key×V)} {cs:Lts} {L:List Addr},LsAt H kvs cs L->(getL cs c=none->valV kvs (Sum.inr c)=none)/\∀ds,getL cs c=some ds->∃g us,valV kvs (Sum.inr c)=some (.ref g)/\H g=some (.lst us)/\RelDs H us ds
 |[],[],[],_=>⟨λ_=>rfl,λds e=>by cases e⟩
 | n::kvs,p::cs,a::L,⟨e,⟨us,m,l⟩,j⟩=>by
  subst e;have i:=LsAt.val (c:=c) j;rw[xct];by_cases f:p.1=c
  ·rw[if_pos f,xbp (by rw[f])]
   exact⟨λz=>(by cases z),λds z=>by cases z;exact⟨a,us,rfl,m,l⟩⟩
  ·rw[if_neg f,xa0 (λz=>f (Sum.inr.inj z))]
   exact i
 |[],[],_::_,h=>h.elim
 |[],_::_,_,h=>h.elim
 |_::_,[],_,h=>h.elim
 |_::_,_::_,[],h=>h.elim
theorem xp4{ks:List Kn}(f:KWf ks):∀(m:Nat) (x:Str),KIn ks m x->Vk ks x (nuV (m+1) ks x)
 | 0,x,h=>by
  rcases h.nu f with⟨rfl,_,_,e⟩ |⟨j,k,g,_⟩
  ·rw[e]
   exact .num 0 ⟨by decide,by decide⟩
  ·cases g
 | m+1,x,h=>by
  rcases h.nu f with⟨rfl,_,_,e⟩ |⟨j,k,g,o,hn,y,n,_,u⟩
  ·rw[e]
   exact .num 0 ⟨by decide,by decide⟩
  ·cases g
   rcases u with⟨c,_,e⟩ |⟨c,p,r,s,_,e⟩
   ·rw[e]
    refine .rc o c (by rw[zLM]) λi w p l a=>?_;rw[zGM,a]at l;cases l;exact xp4 f m p.2 (n p (zMG a))
   ·rw[e]
    exact .al o c (by rw[s];simp) (xp4 f m p.2 (n p (by rw[s];simp)))
theorem LOk.bxlen{m:Mak}{h:Hand}{s:LSt}(o:LOk m h s)(a:HandOk m.kinds m.chans h):s.bx.length<=5:=by
 have:=congrArg List.length o.keys;rw[zLM,zLM]at this;have:=a.few;omega
theorem xfg{ks:List Kn}(c:KWf ks){x:Str}{v:D}(a:KIn ks 6 x)(h:Vk ks x v):v.deep<=12:=xj4 c 6 x v a h
theorem xot{ks:List Kn}{bs:List (Str×Str)}{bx:List (Str×D)}{x k:Str}{d:D}(nd:(bs.map (·.1)).Nodup)(f:FitB ks bs (enOf bx))(c:(x,k)∈bs)(g:Vk ks k d):FitB ks bs (enOf (putA bx x d)):=λp a=>by
 rw[xup];unfold En.put;by_cases e:p.1=x
 ·have:p=(x,k):=xc7 nd a c e
  subst this;exact⟨d,if_pos rfl,g⟩
 ·obtain⟨v,i,h⟩:=f p a
  exact⟨v,by rw[if_neg e];exact i,h⟩
theorem HandOk.pos{ks:List Kn}{cs:List Chn}{h:Hand}(o:HandOk ks cs h):0<h.rows.length:=by
 obtain⟨r,e,_⟩:=o.last
 cases c:h.rows with
 |nil=>rw[c]at e;cases e
 |cons a l=>simp
theorem xpm{ks:List Kn}{cs:List Chn}{h:Hand}(o:HandOk ks cs h){bx:List (Str×D)}{k:Nat}{r:Row}(i:h.rows[k]?=some r)(j:r≠.fin):xcn ks bx k r<h.rows.length:=by
 have p:=(zES i).1;have a:=o.ok r (zMG i)
 have step:¬r.ends->k+1<h.rows.length:=λm=>by
  rcases Nat.lt_or_ge (k+1) h.rows.length with z |z
  ·exact z
  ·obtain⟨n,e,f⟩:=o.last
   have:h.rows.getLast?=some r:=by
    rw[List.getLast?_eq_getElem?,show h.rows.length-1=k by omega];exact i
   rw[this]at e;cases e;exact absurd f m
 cases r with
 |fin=>exact absurd rfl j
 |go g=>exact a
 | cond t g=>
  by_cases e:wv ks bx t=.int 0
  ·rw[show xcn ks bx k (.cond t g)=k+1 from if_pos e]
   exact step λh=>h
  ·rw[show xcn ks bx k (.cond t g)=g from if_neg e]
   exact a.2
 |set x t=>exact step λh=>h
 |send c t=>exact step λh=>h
 |take l c x=>exact step λh=>h
 |tell t=>exact step λh=>h
theorem xkt{f:List D->List D}{c:Str}{p:Str×List D}:∀{cs:Lts},p∈modL f c cs->p∈cs\/∃q∈cs,p=(q.1,f q.2)
 |[],h=>nomatch h
 | q::cs,h=>by
  unfold modL at h;split at h
  ·rcases zMC h with h |h
   ·exact .inr ⟨q,by simp,h⟩
   ·exact .inl (List.mem_cons_of_mem _ h)
  ·rcases zMC h with h |h
   ·exact .inl (by rw[h];simp)
   ·rcases xkt h with h |⟨a,g,e⟩
    ·exact .inl (List.mem_cons_of_mem _ h)
    ·exact .inr ⟨a,List.mem_cons_of_mem _ g,e⟩
theorem LOk.next{m:Mak}{h:Hand}{s:LSt}{r:Row}(i:MakOk m)(M:h∈m.hands)(o:LOk m h s)(hr:h.rows[s.row]?=some r)(Z:r.shut s.com=false):LOk m h (s.next m.kinds r):=by
 have y:=i.hok h M;have a:=y.ok r (zMG hr);have J:r≠.fin:=λe=>by subst e;cases Z
 have Y:=i.wf;refine⟨xpm y hr J,?_,?_,?_,?_,?_,?_,?_⟩
 ·show(xf5 m.kinds s.bx (r.letter s.com) r).map (·.1)=_
  rw[<- o.keys]
  cases r with
  |set x t=>
   obtain⟨k,j,_⟩:=a;exact xih (by rw[o.keys];exact List.mem_map_of_mem j)
  |take l c x=>
   obtain⟨ch,_,_,_,j⟩:=a;exact xih (by rw[o.keys];exact List.mem_map_of_mem j)
  |_=>rfl
 ·show FitB m.kinds h.boxes (enOf (xf5 m.kinds s.bx (r.letter s.com) r))
  cases r with
  |set x t=>
   obtain⟨k,j,G⟩:=a;exact xot y.nd o.fit j (xhv G o.fit).2
  | take l c x=>
   obtain⟨ch,g,rfl,C,j⟩:=a;refine xot y.nd o.fit j ?_
   have O:ch.1∈s.com.map (·.1):=by
    rw[o.com];exact List.mem_map_of_mem (List.mem_filter.mpr ⟨g,zDT C⟩)
   obtain⟨ds,w,_⟩:=xe1 O;have u:((getL s.com ch.1).getD []).isEmpty=false:=Z;show Vk m.kinds ch.2.2.2 (((getL s.com ch.1).getD []).headD (.int 0));rw[w]at u⊢
   cases ds with
   |nil=>cases u
   |cons d ds=>exact o.cok ch g _ w d (by simp)
  |_=>exact o.fit
 ·show(r.com s.com).map (·.1)=_
  rw[<- o.com]
  cases r with
  |take l c x=>exact xe0 _ _ _
  |_=>rfl
 ·show(r.goi m.kinds s.bx s.goi).map (·.1)=_
  rw[<- o.goi]
  cases r with
  |send c t=>exact xe0 _ _ _
  |_=>rfl
 ·show ∀c∈m.chans,∀ds,getL (r.com s.com) c.1=some ds->∀d∈ds,Vk m.kinds c.2.2.2 d
  intro c g ds w d hd
  cases r with
  | take l c' x=>
   have f:getL (modL List.tail c' s.com) c.1=some ds:=w;rw[xlv]at f;by_cases e:c.1=c'
   ·rw[if_pos e]at f
    obtain⟨U,h0,rfl⟩:=zMS f;exact o.cok c g U (by rw[e];exact h0) d (List.mem_of_mem_tail hd)
   ·rw[if_neg e]at f
    exact o.cok c g ds f d hd
  |_=>exact o.cok c g ds w d hd
 ·show ∀p∈r.goi m.kinds s.bx s.goi,p.2.length<=s.many+1/\∀d∈p.2,d.deep<=12
  have old:∀p∈s.goi,p.2.length<=s.many+1/\∀d∈p.2,d.deep<=12:=λp n=>⟨by have:=(o.gok p n).1;omega,(o.gok p n).2⟩
  cases r with
  | send c t=>
   obtain⟨ch,g,_,_,G⟩:=a;intro p n;rcases xkt (show p∈modL _ c s.goi from n) with n |⟨q,hq,rfl⟩
   ·exact old p n
   ·have I:=o.gok q hq
    refine⟨by rw[zLA,List.length_singleton];omega,λd hd=>?_⟩;rcases zMA hd with hd |hd
    ·exact I.2 d hd
    ·rw[zMO hd]
     exact xfg Y (i.ckin ch g) (xhv G o.fit).2
  |_=>exact old
 ·show(r.told m.kinds s.bx s.told).length<=s.many+1/\∀d∈r.told m.kinds s.bx s.told,d.deep<=12
  have z:=o.tok
  cases r with
  | tell t=>
   refine⟨by show(s.told++[_]).length<=_;rw[zLA,List.length_singleton];omega,λd hd=>?_⟩;rcases zMA (show d∈s.told++[_] from hd) with hd |hd
   ·exact z.2 d hd
   ·rw[zMO hd]
    exact xfg Y (.inl rfl) (xhv a o.fit).2
  |_=>exact⟨by have:=z.1;show s.told.length<=_;omega,z.2⟩
end M
end
section
namespace L2
open PySem PySem.Spec PyProof.Rows
section
variable {X:Cx}
def xr0:V->List V->Hp->VK->Prop:=λx vs H Q=>∃(l:Addr) (xs:List V) (i:Nat) (y:V),x=.ref l/\vs=[.int i,y]/\H l=some (.lst xs)/\i<=xs.length/\xs.length<1000/\Q .non (upd H l (.lst (xs.take i++y::xs.drop i)))
theorem xoe:MtM X "list.insert" xr0:=by
 intro f s σ H x vs v us Q I p w h;obtain⟨l,xs,i,y,rfl,rfl,m,hi,hz,q⟩:=h;cases p;obtain⟨u,a,rfl,C,o⟩:=w.two;obtain⟨t,rfl⟩:=C;obtain⟨z,its,n,r,j,e⟩:=I.lstM m;have hs:its.toArray.size<=sizeLine:=by rw[List.size_toArray,<- j];exact z
 obtain⟨x,g⟩:∃x:Int,x=(i:Int):=⟨_,rfl⟩;rw[<- g]
 have G:(!Builtin.List.listFitsIndex x)=false:=by
  unfold Builtin.List.listFitsIndex;rw[zDT (show -(2 ^ 63:Int)<=x by omega),zDT (show x<(2 ^ 63:Int) by omega)];rfl
 have c:¬(!Builtin.List.listFitsIndex x)=true:=by rw[G];exact Bool.false_ne_true
 refine call_meets F.slot_list_insert ⟨_,e,rfl⟩ F.entry_list_insert (F.args_list_insert_3 _ _ _) (AutoListH.list_insert_list_int_val_1 l its.toArray n x t a c hs) ⟨e,?_⟩;subst g;refine⟨.non,_,I.lset (its':=its.take i++a::its.drop i) m e ?_ ((r.take i).append (.cons o (r.drop i))) ?_,rfl,q⟩
 ·show((its.toArray.extract 0 _).push a++its.toArray.extract _)=_
  rw[if_neg (by omega),Int.toNat_natCast,List.size_toArray,<- j,Nat.min_eq_left hi];apply Array.toList_inj.mp;simp;exact zTL (by rw[List.length_drop];omega)
 ·rw[zLA,List.length_cons,List.length_take,List.length_drop]
  have:(1000:Nat)<=sizeLine:=by decide
  omega
end
end L2
end
section
local macro_rules | `(tactic| obtain $p:rcasesPatMed:=$e:term)=>`(tactic| ((refine gcut λG hG=>?_;rcases $e:term with $p:rcasesPatMed) <;> refine hG ?_))
section
namespace L2
open PySem
abbrev qaa:List Str:=["self"]
abbrev qab:List Str:=["_law_kinds_here","_law_kind"]
abbrev qac:List Str:=["make","h"]
abbrev qad:List Str:=["_law_feed_here","_law_many"]
abbrev qae:List Str:=["kinds","term","boxes"]
abbrev qaf:List Str:=["_law_feed_here","_law_kinds_here","_law_boxes_here","_law_kind","_law_room","_law_deep"]
abbrev qag:List Str:=["kinds","K"]
abbrev qah:List Str:=["_law_feed_here","_law_kinds_here","_law_boxes_here","_law_kind"]
abbrev qai:List Str:=["make","h","stand"]
abbrev qaj:List Str:=["_law_script","_law_k"]
abbrev qak:List Str:=["_law_feed_here","_law_kinds_here"]
abbrev qal:List Str:=["_law_feed_here","_law_kinds_here","_law_kind"]
abbrev qam:List Str:=["self","make","h","letters","stand"]
abbrev qan:List Str:=["boxes","x","thing"]
abbrev qao:List Str:=["kinds","kind"]
abbrev qap:List Str:=["_law_channels_here","_law_h","_law_boxes_here"]
abbrev qaq:List Str:=["sign","a","b"]
abbrev qar:List Str:=["row","letters"]
abbrev qas:List Str:=["make","h","stand","letter"]
abbrev qat:List Str:=["make","row","boxes","letter"]
abbrev qau:List Str:=["make","h","stand","coming","going","tellings"]
abbrev qav:List Str:=["_law_feed_here"]
abbrev qaw:List Str:=["_law_feed_here","_law_kinds_here","_law_sort","_law_names_here"]
abbrev qax:List Str:=["_law_feed_here","_law_some"]
abbrev qay:List Str:=["_law_feed_here","_law_kinds_here","_law_channels_here","_law_h","_law_boxes_here","_law_marks"]
abbrev qaz:List Str:=["_law_feed_here","_law_kinds_here","_law_channels_here","_law_h","_law_boxes_here","_law_names_here"]
abbrev qa0:List Str:=["_law_script","_law_at","_law_names_here"]
abbrev qa1:List Str:=["_law_script","_law_at","_law_kinds_here","_law_channels_here","_law_many","_law_names_here"]
abbrev qa2:List Str:=["_law_kinds_here","_law_row","_law_now"]
abbrev qa3:List Str:=["things","name"]
abbrev qa4:List Str:=["kinds","value","f"]
abbrev qa5:List Str:=["make","row","stand"]
abbrev qa6:List Str:=["_law_cell","_law_many"]
abbrev qa7:List Str:=["_law_feed_here","_law_names_here"]
abbrev qa8:List Str:=["_law_feed_here","_law_kinds_here","_law_boxes_here","_law_parts_here","_law_kind","_law_room","_law_deep"]
abbrev qa9:List Str:=["_law_feed_here","_law_kinds_here","_law_names_here","_law_hands_here"]
abbrev qba:List Str:=["_law_feed_here","_law_kinds_here","_law_channels_here","_law_h","_law_names_here"]
abbrev qbb:List Str:=["_law_script","_law_make_here","_law_h"]
abbrev qbc:List Str:=["_law_make_here","_law_hand","_law_letters_here","_law_stand"]
abbrev qbd:List Str:=["_law_lone","_law_now","_law_about"]
abbrev qbe:List Str:=["_law_name","_law_part","_law_kinds_here"]
abbrev qbf:List Str:=["_law_kinds_here","_law_kind","_law_sort","_law_parts_here"]
abbrev qbg:List Str:=["make","name","now","coming","going","tellings","many"]
end L2
namespace K34
open PySem L2 M
seal L2.PE L2.PA L2.PS L2.PSs L2.PT L2.PW L2.PI L2.PG L2.PJ L2.PTs
def top(i:Nat):Stmt:=PySem.Challenge.pw_swapstride_k34_rows_of_a_lone_hand.main.body.getD i (.Pass ⟨0,0,0,0⟩)
abbrev s_row_ways:Stmt:=top 1
theorem xkg:FnScope ["row","k"] ["row","k"] (xae s_row_ways):=by walk_at"q"
abbrev s_hand_of:Stmt:=top 2
theorem xmg:FnScope qac qac (xae s_hand_of):=by walk_at"q"
abbrev s_named:Stmt:=top 3
theorem sc_named:FnScope ["things","name","thing"] qa3 (xae s_named):=by walk_at"q"
abbrev s_channels_from:Stmt:=top 4
theorem xfb:FnScope qac qac (xae s_channels_from):=by walk_at"q"
abbrev s_channels_to:Stmt:=top 5
theorem xgi:FnScope qac qac (xae s_channels_to):=by walk_at"q"
abbrev s_sort_of:Stmt:=top 7
theorem sc_sort_of:FnScope ["kinds","K","name","sort","parts"] qag (xae s_sort_of):=by walk_at"q"
abbrev s_parts_of:Stmt:=top 8
theorem sc_parts_of:FnScope ["kinds","K","name","sort","parts"] qag (xae s_parts_of):=by walk_at"q"
abbrev s_with_box:Stmt:=top 11
theorem sc_with_box:FnScope ["boxes","x","thing","more"] qan (xae s_with_box):=by walk_at"q"
abbrev s_nought:Stmt:=top 13
theorem sc_nought:FnScope ["kinds","kind","parts"] qao (xae s_nought):=by walk_at"q"
abbrev s_field:Stmt:=top 14
theorem sc_field:FnScope ["kinds","value","f","names"] qa4 (xae s_field):=by walk_at"q"
abbrev s_worth:Stmt:=top 16
theorem sc_worth:FnScope ["kinds","term","boxes","head","taken"] qae (xae s_worth):=by walk_at"q"
abbrev s_op_worth:Stmt:=top 17
theorem xkh:FnScope qaq qaq (xae s_op_worth):=by walk_at"q"
abbrev s_case_worth:Stmt:=top 18
theorem sc_case_worth:FnScope ["kinds","term","boxes","value","arm"] qae (xae s_case_worth):=by walk_at"q"
abbrev s_begin_of:Stmt:=top 20
theorem xki:FnScope qac qac (xae s_begin_of):=by walk_at"q"
abbrev s_own_stand:Stmt:=top 21
theorem xia:FnScope ["stand"] ["stand"] (xae s_own_stand):=by walk_at"q"
abbrev s_own_lists:Stmt:=top 22
theorem xib:FnScope ["lists"] ["lists"] (xae s_own_lists):=by walk_at"q"
abbrev s_row_at:Stmt:=top 23
theorem xno:FnScope qai qai (xae s_row_at):=by walk_at"q"
abbrev s_first_letter:Stmt:=top 24
theorem xfw:FnScope qar qar (xae s_first_letter):=by walk_at"q"
abbrev s_stride:Stmt:=top 25
theorem sc_stride:FnScope ["make","h","stand","letter","row"] qas (xae s_stride):=by walk_at"q"
abbrev s_row_behind:Stmt:=top 26
theorem sc_row_behind:FnScope ["make","row","stand","ways"] qa5 (xae s_row_behind):=by walk_at"q"
abbrev s_boxes_behind:Stmt:=top 27
theorem xfx:FnScope qat qat (xae s_boxes_behind):=by walk_at"q"
abbrev s_done:Stmt:=top 28
theorem sc_done:FnScope ["make","h","stand","coming","going","tellings","row","behind"] qau (xae s_done):=by walk_at"q"
abbrev sl_feed:Stmt:=top 32
theorem scl_feed:FnScope ["_law_script","_law_k","_law_cell"] qaj (xae sl_feed):=by walk_at"q"
abbrev sl_take:Stmt:=top 33
theorem scl_take:FnScope ["_law_feed_here","_law_many","_law_digit","_law_one"] qad (xae sl_take):=by walk_at"q"
abbrev sl_names:Stmt:=top 34
theorem scl_names:FnScope ["_law_cell","_law_many","_law_letters_here","_law_size_here","_law_at","_law_common","_law_found","_law_k","_law_sign"] qa6 (xae sl_names):=by walk_at"q"
abbrev sl_number:Stmt:=top 35
theorem scl_number:FnScope ["_law_feed_here","_law_form"] qav (xae sl_number):=by walk_at"q"
abbrev sl_sort_of:Stmt:=top 36
theorem scl_sort_of:FnScope ["_law_kinds_here","_law_kind","_law_name","_law_sort","_law_parts_here"] qab (xae sl_sort_of):=by walk_at"q"
abbrev sl_size:Stmt:=top 37
theorem scl_size:FnScope ["_law_kinds_here","_law_kind","_law_sort","_law_parts_here","_law_sizes"] qab (xae sl_size):=by walk_at"q"
abbrev sl_small:Stmt:=top 38
theorem scl_small:FnScope qbf qab (xae sl_small):=by walk_at"q"
abbrev sl_parts:Stmt:=top 39
theorem scl_parts:FnScope ["_law_feed_here","_law_kinds_here","_law_sort","_law_names_here","_law_parts_here","_law_left","_law_j","_law_kind"] qaw (xae sl_parts):=by walk_at"q"
abbrev sl_kinds:Stmt:=top 40
theorem scl_kinds:FnScope ["_law_feed_here","_law_names_here","_law_kinds_here","_law_k","_law_sort"] qa7 (xae sl_kinds):=by walk_at"q"
abbrev sl_boxed:Stmt:=top 41
theorem xnn:FnScope qax qax (xae sl_boxed):=by walk_at"q"
abbrev sl_arms:Stmt:=top 42
theorem scl_arms:FnScope ["_law_feed_here","_law_kinds_here","_law_boxes_here","_law_parts_here","_law_kind","_law_room","_law_deep","_law_arms_here","_law_each","_law_t","_law_part","_law_x"] qa8 (xae sl_arms):=by walk_at"q"
abbrev sl_whole_term:Stmt:=top 43
theorem scl_whole_term:FnScope ["_law_feed_here","_law_kinds_here","_law_boxes_here","_law_kind","_law_room","_law_deep","_law_sort","_law_parts_here","_law_one","_law_other","_law_some","_law_t","_law_part","_law_more","_law_terms","_law_f"] qaf (xae sl_whole_term):=by walk_at"q"
abbrev sl_term:Stmt:=top 44
theorem scl_term:FnScope ["_law_feed_here","_law_kinds_here","_law_boxes_here","_law_kind","_law_room","_law_deep","_law_some","_law_form","_law_small_here","_law_more","_law_one","_law_first","_law_held","_law_x","_law_told","_law_sort","_law_parts_here","_law_f","_law_tags"] qaf (xae sl_term):=by walk_at"q"
abbrev sl_new_term:Stmt:=top 45
theorem xh9:FnScope qah qah (xae sl_new_term):=by walk_at"q"
abbrev sl_any_kind:Stmt:=top 46
theorem scl_any_kind:FnScope qak qak (xae sl_any_kind):=by walk_at"q"
abbrev sl_channels:Stmt:=top 47
theorem scl_channels:FnScope ["_law_feed_here","_law_kinds_here","_law_names_here","_law_hands_here","_law_found","_law_turn","_law_k","_law_ends"] qa9 (xae sl_channels):=by walk_at"q"
abbrev sl_boxes:Stmt:=top 48
theorem scl_boxes:FnScope ["_law_feed_here","_law_kinds_here","_law_channels_here","_law_h","_law_names_here","_law_wants","_law_c","_law_come","_law_to","_law_kind","_law_k","_law_turn"] qba (xae sl_boxes):=by walk_at"q"
abbrev sl_into:Stmt:=top 49
theorem scl_into:FnScope ["_law_channels_here","_law_h","_law_boxes_here","_law_found","_law_c","_law_come","_law_to","_law_kind"] qap (xae sl_into):=by walk_at"q"
abbrev sl_deal:Stmt:=top 50
theorem scl_deal:FnScope ["_law_feed_here","_law_kinds_here","_law_channels_here","_law_h","_law_boxes_here","_law_marks","_law_form","_law_into_here","_law_out","_law_c","_law_x","_law_kind"] qay (xae sl_deal):=by walk_at"q"
abbrev sl_rows:Stmt:=top 51
theorem scl_rows:FnScope ["_law_feed_here","_law_kinds_here","_law_channels_here","_law_h","_law_boxes_here","_law_names_here","_law_marks","_law_rows_here","_law_many","_law_at","_law_form","_law_test","_law_into_here","_law_c","_law_x"] qaz (xae sl_rows):=by walk_at"q"
abbrev sl_make:Stmt:=top 52
theorem scl_make:FnScope ["_law_script","_law_at","_law_names_here","_law_kinds_here","_law_feed_here","_law_hands_here"] qa0 (xae sl_make):=by walk_at"q"
abbrev sl_hands:Stmt:=top 53
theorem scl_hands:FnScope ["_law_script","_law_at","_law_kinds_here","_law_channels_here","_law_many","_law_names_here","_law_found","_law_k","_law_feed_here","_law_boxes_here"] qa1 (xae sl_hands):=by walk_at"q"
abbrev sl_value:Stmt:=top 54
theorem scl_value:FnScope ["_law_feed_here","_law_kinds_here","_law_kind","_law_sort","_law_parts_here","_law_t","_law_part"] qal (xae sl_value):=by walk_at"q"
abbrev sl_nought:Stmt:=top 55
theorem scl_nought:FnScope qbf qab (xae sl_nought):=by walk_at"q"
abbrev sl_letters:Stmt:=top 56
theorem scl_letters:FnScope ["_law_script","_law_make_here","_law_h","_law_found","_law_feed_here","_law_c","_law_come","_law_to","_law_kind","_law_many"] qbb (xae sl_letters):=by walk_at"q"
abbrev sl_model:Stmt:=top 57
theorem scl_model:FnScope ["_law_make_here","_law_hand","_law_letters_here","_law_stand","_law_now","_law_c","_law_come","_law_to","_law_kind"] qbc (xae sl_model):=by walk_at"q"
abbrev sl_done:Stmt:=top 58
theorem xpk:FnScope qa2 qa2 (xae sl_done):=by walk_at"q"
abbrev sl_alike:Stmt:=top 59
theorem scl_alike:FnScope ["_law_lone","_law_now","_law_about","_law_count","_law_left","_law_sent","_law_told","_law_stand","_law_some"] qbd (xae sl_alike):=by walk_at"q"
abbrev s_law:Stmt:=top 60
theorem sc_law:FnScope ["_law_script","_law_names_here","_law_make_here","_law_feed_here","_law_hand","_law_letters_here","_law_stand","_law_begun","_law_now","_law_lone","_law_some","_law_turn","_law_k","_law_due","_law_found"] ["_law_script"] (xae s_law):=by walk_at"q"
abbrev s_Lone_init:Stmt:=xgg (top 30) 0
theorem xif:FnScope qam qam (xae s_Lone_init):=by walk_at"q"
abbrev s_Lone_step:Stmt:=xgg (top 30) 1
theorem sc_Lone_step:FnScope ["self","behind"] qaa (xae s_Lone_step):=by walk_at"q"
abbrev s_Lone_stand:Stmt:=xgg (top 30) 2
theorem xhe:FnScope qaa qaa (xae s_Lone_stand):=by walk_at"q"
abbrev s_Lone_told:Stmt:=xgg (top 30) 3
theorem xic:FnScope qaa qaa (xae s_Lone_told):=by walk_at"q"
abbrev s_Lone_sent:Stmt:=xgg (top 30) 4
theorem xid:FnScope qaa qaa (xae s_Lone_sent):=by walk_at"q"
abbrev s_Lone_left:Stmt:=xgg (top 30) 5
theorem xie:FnScope qaa qaa (xae s_Lone_left):=by walk_at"q"
abbrev s_Lone_count:Stmt:=xgg (top 30) 6
theorem xhf:FnScope qaa qaa (xae s_Lone_count):=by walk_at"q"
structure Tx(K:Fg)(mg:Str->Option Value):Prop where
 jA:DefTx K mg "row_ways" s_row_ways ["row","k"]
 jB:DefTx K mg "hand_of" s_hand_of qac
 jC:DefTx K mg "named" s_named qa3
 jD:DefTx K mg "channels_from" s_channels_from qac
 jE:DefTx K mg "channels_to" s_channels_to qac
 jF:DefTx K mg "sort_of" s_sort_of qag
 jG:DefTx K mg "parts_of" s_parts_of qag
 jH:DefTx K mg "with_box" s_with_box qan
 jI:DefTx K mg "nought" s_nought qao
 jJ:DefTx K mg "field" s_field qa4
 jK:DefTx K mg "worth" s_worth qae
 jL:DefTx K mg "op_worth" s_op_worth qaq
 jM:DefTx K mg "case_worth" s_case_worth qae
 jN:DefTx K mg "begin_of" s_begin_of qac
 jO:DefTx K mg "own_stand" s_own_stand ["stand"]
 jP:DefTx K mg "own_lists" s_own_lists ["lists"]
 jQ:DefTx K mg "row_at" s_row_at qai
 jR:DefTx K mg "first_letter" s_first_letter qar
 jS:DefTx K mg "stride" s_stride qas
 jT:DefTx K mg "row_behind" s_row_behind qa5
 jU:DefTx K mg "boxes_behind" s_boxes_behind qat
 jV:DefTx K mg "done" s_done qau
 jW:DefTx K mg "_law_feed" sl_feed qaj
 jX:DefTx K mg "_law_take" sl_take qad
 jY:DefTx K mg "_law_names" sl_names qa6
 jZ:DefTx K mg "_law_number" sl_number qav
 j8:DefTx K mg "_law_sort_of" sl_sort_of qab
 j9:DefTx K mg "_law_size" sl_size qab
 kA:DefTx K mg "_law_small" sl_small qab
 kB:DefTx K mg "_law_parts" sl_parts qaw
 kC:DefTx K mg "_law_kinds" sl_kinds qa7
 kD:DefTx K mg "_law_boxed" sl_boxed qax
 kE:DefTx K mg "_law_arms" sl_arms qa8
 kF:DefTx K mg "_law_whole_term" sl_whole_term qaf
 kG:DefTx K mg "_law_term" sl_term qaf
 kH:DefTx K mg "_law_new_term" sl_new_term qah
 kI:DefTx K mg "_law_any_kind" sl_any_kind qak
 kJ:DefTx K mg "_law_channels" sl_channels qa9
 kK:DefTx K mg "_law_boxes" sl_boxes qba
 kL:DefTx K mg "_law_into" sl_into qap
 kM:DefTx K mg "_law_deal" sl_deal qay
 kN:DefTx K mg "_law_rows" sl_rows qaz
 kO:DefTx K mg "_law_make" sl_make qa0
 kP:DefTx K mg "_law_hands" sl_hands qa1
 kQ:DefTx K mg "_law_value" sl_value qal
 kR:DefTx K mg "_law_nought" sl_nought qab
 kS:DefTx K mg "_law_letters" sl_letters qbb
 kT:DefTx K mg "_law_model" sl_model qbc
 kU:DefTx K mg "_law_done" sl_done qa2
 kW:DefTx K mg "_law_alike" sl_alike qbd
 kX:DefTx K mg "law" s_law ["_law_script"]
 kY:∃t,mg "WIDE"=some (.int 4294967296 t)
 kZ:mg "bool"=none
 k0:mg "dict"=none
 k3:mg "int"=none
 k4:mg "isinstance"=none
 k5:mg "len"=none
 k6:mg "list"=none
 k7:mg "max"=none
 k8:mg "min"=none
 k9:mg "range"=none
 uA:mg "sum"=none
 uB:mg "tuple"=none
 uC:mg "Lone"=some (.ref (ad K "Lone"))
 uD:DTab K "Lone" qbg
 uE:MethTx K "Lone.__init__" (ad K "Lone") "__init__" s_Lone_init qam [[.none],[]]
 uF:MethTx K "Lone.step" (ad K "Lone") "step" s_Lone_step qaa [[]]
 uG:MethTx K "Lone.stand" (ad K "Lone") "stand" s_Lone_stand qaa [[]]
 uH:MethTx K "Lone.told" (ad K "Lone") "told" s_Lone_told qaa [[]]
 uI:MethTx K "Lone.sent" (ad K "Lone") "sent" s_Lone_sent qaa [[]]
 uJ:MethTx K "Lone.left" (ad K "Lone") "left" s_Lone_left qaa [[]]
 uK:MethTx K "Lone.count" (ad K "Lone") "count" s_Lone_count qaa [[]]
theorem fits{n:Nat}(h:n<=4000000):n<=sizeLine:=Nat.le_trans h (by decide)
theorem xba{n:Nat}(h:n<=4000000):n<sizeLine:=Nat.lt_of_le_of_lt h (by decide)
theorem bind_Lone_init {K:Fg} {o:Obj} {N:Nat} (s:Shared) (T:Addr) (kV a i:Value) (n:Option Addr) (c ct:Value) (us ds:List Value) (g:K.In s.heap) (l:K.lookup T=some o) (e:o.data=.seq #[.none] N) (hd:ds=[.none]\/ds=[]) (f:(us++ds).length=5) :
  BindsTo s (PySem.W.fnOf "__init__" "Lone.__init__" (xc5 s_Lone_init) (xco s_Lone_init) (xae s_Lone_init) (.ref T) kV a i n c ct) ⟨us,[]⟩ ((qam:List Str).zip (us++ds)):=by
 rcases hd with rfl |rfl
 ·have m:us.length=4:=by simpa using f
  match us,m with
  |[_,_,_,_],_=>exact PySem.W.binds_K g rfl l e rfl rfl
 ·have j:us.length=5:=by simpa using f
  match us,j with
  |[_,_,_,_,_],_=>exact PySem.W.binds_K g rfl l e rfl rfl
def xlc:Sp:=λvs H Q _=>∃v ks x,vs=[v,.str x]/\KsAt H v ks/\Q (xvd (kAt ks x)) H
def xfu:Sp:=λvs H Q _=>∃v ks x,vs=[v,.str x]/\KsAt H v ks/\∀u H',Same H H'->RelD H' u (xlk (kAt ks x))->Q u H'
section
variable {P:Program}{w:World}{K:Fg}{mg:Str->Option Value}{base:Heap}{n:Nat}
theorem xgt(T:Tx K y):DefIs P w K y base (n+1) "sort_of" qag xlc:=by
 refine DefIs.of T.jF sc_sort_of (by walk_at"l") (λf O A outer s H vs Q E Z h=>?_);obtain⟨v,ks,x,rfl,I,q⟩:=h;have nd:=sc_sort_of.nd
 refine⟨_,(zpn (xcm PassesOwn.never rfl (xa1 (K:=K) rfl (pv 0)) (xa9 (K:=K) rfl rfl (xac (pgn 2 nd) (xac (pgn 3 nd) (xac (pgn 4 nd) xa7))))
   (zpo (xa4 (pR xa6 (pv 2) (pv 1) (nM _)) (zpo (xai (pv 3))) pQ)))
   (zpo (xai xdx))),?_⟩
 obtain⟨a,us,rfl,r,u⟩:=I.1;refine(xbg _ rfl a rfl ⟨_,SqT.of r⟩ ?_);have G:=u.length;rw[zLM]at G;refine xde (xs:=us) (λi σ j=>∃o m l,σ=[some (.ref a),some (.str x),o,m,l]/\j=H/\(ks.take i).find? (λk=>decide (k.name=x))=none) (xcd none none none rfl rfl rfl) (λi σ j _ p=>?_) ?_ ?_
 ·obtain⟨_,_,_,_,rfl,_⟩:=p
  exact SqT.of r
 ·rintro i v σ j C ⟨o,m,l,rfl,rfl,hn⟩
  obtain⟨d,hd,rd⟩:=u.get C;rw[zGM]at hd;obtain⟨k,g,rfl⟩:=zMS hd;obtain⟨b,ws,rfl,J,_,_,rfl,rfl,_,_,rfl,rfl,U,_,rfl,Y,rfl⟩:=rd;refine(xas b _ rfl (SqT.of J) rfl _ _ rfl _ (xax _ rfl _ _ rfl rfl ?_));refine(xca _ rfl _ rfl rfl _ rfl (ite2 (λc=>?_) (λc=>?_)))
  ·have e:k.name=x:=V.str.inj (of_decide_eq_true c)
   have M:kAt ks x=some k:=(xc2 hn g).1 (zDT e);refine(jEA _ rfl ?_);rw[M]at q;exact q
  ·have e:¬k.name=x:=λz=>c (zDT (congrArg V.str z))
   exact(xcd _ _ _ rfl rfl ((xc2 hn g).2 (zDF e)))
 ·rintro σ j ⟨o,m,l,rfl,rfl,hn⟩
  rw[zTL (by omega)]at hn;rw[show kAt ks x=none from hn]at q;exact q
theorem xen(T:Tx K C):DefIs P w K C base (n+1) "parts_of" qag xfu:=by
 refine DefIs.of T.jG sc_parts_of (by walk_at"l") (λf Y A outer s H vs Q E hr h=>?_);obtain⟨v,ks,x,rfl,M,q⟩:=h;have nd:=sc_parts_of.nd
 refine⟨_,(zpn (xcm PassesOwn.never rfl (xa1 (K:=K) rfl (pv 0)) (xa9 (K:=K) rfl rfl (xac (pgn 2 nd) (xac (pgn 3 nd) (xac (pgn 4 nd) xa7))))
   (zpo (xa4 (pR xa6 (pv 2) (pv 1) (nM _)) (zpo (xai (pv 4))) pQ)))
   (zpo (xai (xay pN)))),?_⟩
 obtain⟨a,us,rfl,r,u⟩:=M.1;refine(xbg _ rfl a rfl ⟨_,SqT.of r⟩ ?_);have J:=u.length;rw[zLM]at J;refine xde (xs:=us) (λi σ j=>∃o m l,σ=[some (.ref a),some (.str x),o,m,l]/\j=H/\(ks.take i).find? (λk=>decide (k.name=x))=none) (xcd none none none rfl rfl rfl) (λi σ j _ p=>?_) ?_ ?_
 ·obtain⟨_,_,_,_,rfl,_⟩:=p
  exact SqT.of r
 ·rintro i v σ j G ⟨o,m,l,rfl,rfl,hn⟩
  obtain⟨d,hd,rd⟩:=u.get G;rw[zGM]at hd;obtain⟨k,g,rfl⟩:=zMS hd;obtain⟨b,ws,rfl,O,_,_,rfl,rfl,_,_,rfl,rfl,Z,_,rfl,y,rfl⟩:=rd;refine(xas b _ rfl (SqT.of O) rfl _ _ rfl _ (xax _ rfl _ _ rfl rfl ?_));refine(xca _ rfl _ rfl rfl _ rfl (ite2 (λc=>?_) (λc=>?_)))
  ·have e:k.name=x:=V.str.inj (of_decide_eq_true c)
   have U:kAt ks x=some k:=(xc2 hn g).1 (zDT e);refine(jEA _ rfl ?_);rw[U]at q;exact q _ _ (Same.refl _) y
  ·have e:¬k.name=x:=λz=>c (zDT (congrArg V.str z))
   exact(xcd _ _ _ rfl rfl ((xc2 hn g).2 (zDF e)))
 ·rintro σ j ⟨o,m,l,rfl,rfl,hn⟩
  rw[zTL (by omega)]at hn;rw[show kAt ks x=none from hn]at q;exact⟨(by walk_at"s"),λp I=>q _ _ (Same.new I _) (xan p ([]) rfl ups rfl)⟩
end
abbrev RW:=List Kn->En->D->D->Prop
def xc3(R:RW)(m:Nat):Sp:=λvs H Q _=>∃kv tv p ks d env val,vs=[kv,tv,.ref p]/\KsAt H kv ks/\RelD H tv d/\EnAt H p m env/\R ks env d val/\∀u H',Same H H'->RelD H' u val->Q u H'
def xh3:Sp:=λvs H Q _=>∃s x y,vs=[.str s,.int x,.int y]/\Nm x/\Nm y/\Q (.int (opV s x y)) H
section
variable {P:Program}{w:World}{K:Fg}{mg:Str->Option Value}{base:Heap}{n m:Nat}
theorem xkp(T:Tx K g):DefIs P w K g base (n+1) "op_worth" qaq xh3:=by
 refine DefIs.of T.jL xkh (by walk_at"l") (λf j A outer s H vs Q E p h=>?_);obtain⟨s,x,y,rfl,i,o,q⟩:=h
 refine⟨_,(zpn (xa4 (pR xa6 (pv 0) pS (nM _)) (zpo (xai (xam xcg (xam xbd (pv 1) (pv 2)) (xkk T.kY)))) pQ)
   (zpn (xa4 (pR xa6 (pv 0) pS (nM _)) (zpo (xai (xam xcg (xam xcq (pv 1) (pv 2)) (xkk T.kY)))) pQ)
   (zpn (xa4 (pR xa6 (pv 0) pS (nM _)) (zpo (xai (xam xcg (xam xda (pv 1) (pv 2)) (xkk T.kY)))) pQ)
   (zpn (xa4 (pR xa6 (pv 0) pS (nM _)) (zpo (xai (xes (pR xfc (pv 1) (pv 2) (nM _)) pI pI))) pQ)
   (zpo (xai (xes (pR xa6 (pv 1) (pv 2) (nM _)) pI pI))))))),?_⟩
 have pos:(0:Int)<4294967296:=by decide
 unfold opV at q;refine(xaz _ rfl rfl _ rfl (ite2 (λc=>?_) (λc=>?_)))
 ·rw[if_pos (show s=S "+" from V.str.inj (of_decide_eq_true c))]at q
  exact(xbi _ rfl _ rfl _ _ rfl rfl _ (xbn _ rfl rfl pos q))
 rw[if_neg (show ¬s=S "+" from λz=>c (zDT (congrArg V.str z)))]at q;refine(xaz _ rfl rfl _ rfl (ite2 (λc=>?_) (λc=>?_)))
 ·rw[if_pos (show s=S "-" from V.str.inj (of_decide_eq_true c))]at q
  exact(xbi _ rfl _ rfl _ _ rfl rfl _ (xbn _ rfl rfl pos q))
 rw[if_neg (show ¬s=S "-" from λz=>c (zDT (congrArg V.str z)))]at q;refine(xaz _ rfl rfl _ rfl (ite2 (λc=>?_) (λc=>?_)))
 ·rw[if_pos (show s=S "*" from V.str.inj (of_decide_eq_true c))]at q
  obtain⟨m,l⟩:=i;exact(jEA _ rfl (xax _ rfl _ _ rfl rfl (jAE (.inl ⟨by omega,by omega⟩) _ (xbn _ rfl rfl pos q))))
 rw[if_neg (show ¬s=S "*" from λz=>c (zDT (congrArg V.str z)))]at q;refine(xaz _ rfl rfl _ rfl (ite2 (λc=>?_) (λc=>?_)))
 ·rw[if_pos (show s=S "<" from V.str.inj (of_decide_eq_true c))]at q
  refine(xbi _ rfl _ rfl _ _ rfl rfl _ ⟨rfl,ite2 (λe=>?_) (λe=>?_)⟩)
  ·rw[if_pos (of_decide_eq_true e)]at q
   exact q
  ·rw[if_neg (λz=>e (zDT z))]at q
   exact q
 rw[if_neg (show ¬s=S "<" from λz=>c (zDT (congrArg V.str z)))]at q;refine(xca _ rfl _ rfl rfl _ rfl (ite2 (λe=>?_) (λe=>?_)))
 ·rw[if_pos (V.int.inj (of_decide_eq_true e))]at q
  exact q
 ·rw[if_neg (λz=>e (zDT (congrArg V.int z)))]at q
  exact q
def xh1(m:Nat):Sp:=λvs H Q _=>∃p x v d env,vs=[.ref p,.str x,v]/\EnAt H p m env/\RelD H v d/\m<=1000/\∀p' H',Same H H'->EnAt H' p' (m+1) (env.put x d)->Q (.ref p') H'
def xtk:Sp:=λvs H Q _=>∃p x v,∃kvs:List (Key×V),vs=[.ref p,.str x,v]/\H p=some (.dK kvs)/\kvs.length<=2000/\∀p' H',Same H H'->H p'=none->H' p'=some (.dK (putK kvs (Sum.inr x) v))->Q (.ref p') H'
theorem xq8(T:Tx K e):DefIs P w K e base (n+1) "with_box" qan xtk:=by
 refine DefIs.of T.jH sc_with_box (by walk_at"l") (λf l A outer s H vs Q E i h=>?_);obtain⟨p,x,v,kvs,rfl,j,m,q⟩:=h;have nd:=sc_with_box.nd;have g:=xfe i
 refine⟨_,(zpn (psn 3 nd (xao xcr rfl T.k0 PyProof.Rows.boot_dict (v1 0)))
   (zpn (xdb g (pv 3) (pv 1) (pv 2) rfl)
   (zpo (xai (pv 3))))),?_⟩
 refine(xax _ rfl p kvs rfl j (λc a=>?_));refine(xat _ rfl _ rfl _ rfl c _ rfl (DPut.k (k:=Sum.inr x) ups (xba (by omega))) (jEA _ rfl ?_));exact q c _ (Same.new2 a (.dK kvs) (.dK (putK kvs (Sum.inr x) v))) a ups
theorem xkn(T:Tx K e):DefIs P w K e base (n+1) "with_box" qan (xh1 m):=(xq8 T).imp λvs H Q E h=>by
 obtain⟨p,x,v,d,env,rfl,⟨kvs,a,i,j⟩,f,o,q⟩:=h;exact(jEEE p x v (xbn kvs rfl a (by omega) (λc l s g h'=>q c l s (EnAt.put a i j s (f.same s _) h'))))
def xne:Sp:=λvs H Q _=>∃kv vv ks k kn ws f i d,vs=[kv,vv,.str f]/\KsAt H kv ks/\RelD H vv (.tup [.str k,.tup ws])/\kAt ks k=some kn/\(kn.parts.map (·.1)).findIdx? (λz=>decide (z=f))=some i/\ws[i]?=some d/\∀u H',Same H H'->RelD H' u d->Q u H'
theorem xp1(T:Tx K Z)(a:DefIs P w K Z base n "parts_of" qag xfu):DefIs P w K Z base (n+1) "field" qa4 xne:=by
 refine DefIs.of T.jJ sc_field (by walk_at"l") (λf a4 A outer s H vs Q E hr h=>?_);obtain⟨kv,vv,ks,k,G,ws,f',i,d,rfl,hk,O,C,hi,hw,q⟩:=h;have nd:=sc_field.nd
 refine⟨_,(zpn (xc6 (i:=3) ["part"] [none] rfl (by kernel_rfl) nd rfl (by walk_at"o") (xa1 (K:=K) rfl (pd a hr (va 0 (zpc (px K (pv 1) pI) pN ss)))) (λ_ _ _ _=>(pgc 0)) (λ_ _ _ _=>xb1) (λ_ _ _ _=>(px K (pv 0) pI)))
   (zpo (xai (px K (px K (pv 1) pI) (xc4 PySem.F.plainAttrs_list PySem.F.slot_list_index PySem.F.type_list_index xqb (pv 3) (v1 2)))))),?_⟩
 obtain⟨l,us,rfl,ha,_,_,rfl,rfl,vw,_,rfl,J,rfl⟩:=O;obtain⟨c,zs,rfl,hc,y⟩:=J;refine(xap _ rfl _ rfl l _ _ (xb5 _ rfl rfl (SqT.of ha) rfl (xcd _ ks k rfl hk (λu H1 s1 Y=>?_))));rw[C]at Y;obtain⟨e,ps,rfl,he,z⟩:=Y;have hl:=z.length;rw[zLM]at hl;have a2:G.parts.length<=100:=hk.2.2 G (zMF C);refine(jEAA e rfl ⟨_,SqT.of he⟩ ?_);refine xfp (j:=0) (xs:=ps) (λi ys I=>I=H1/\ys=((G.parts.take i).map (·.1)).map V.str) (by rfl) ⟨rfl,rfl⟩ (xba (by omega)) (λi ys I _ p=>by obtain⟨rfl,_⟩:=p;exact SqT.of he) ?_ ?_
 ·rintro i x ys I hx r ⟨rfl,rfl⟩
  obtain⟨d',g,o⟩:=z.get hx;rw[zGM]at g;obtain⟨pt,U,rfl⟩:=zMS g;obtain⟨b,a0,rfl,hb,_,_,rfl,rfl,_,_,rfl,rfl,rfl⟩:=o;have hi:i<ps.length:=(zES hx).1;refine(xaa _ rfl b _ _ _ rfl rfl (SqT.of hb) rfl (nxt hi r ⟨rfl,?_⟩));rw[zTA,U];simp
 ·rintro ys I r ⟨rfl,rfl⟩ D hD
  rw[zTL (by omega)];rw[zTL (by omega)]at r;have sD:=Same.new hD (.lst ((G.parts.map (·.1)).map V.str));have m:=s1.trans sD
  have M:∃v,zs[i]?=some v/\RelD H v d:=by
   have a3:i<ws.length:=(zES hw).1;have a1:=y.length;obtain⟨d',g,o⟩:=y.get (i:=i) (v:=zs[i]) (zGA (by omega));rw[hw]at g;cases g;exact(jEA (zs[i]) (zGA (by omega)) o)
  obtain⟨v,O,rv⟩:=M;refine(xaa _ rfl l _ _ _ rfl rfl (SqT.of (m _ _ ha)) rfl ?_);refine(xaz _ rfl (.inl (jAE rfl _ (SqL.of ups))) _ rfl (xak D _ f' i rfl rfl ups hi ?_));exact(xak c _ _ v rfl rfl (SqT.of (m _ _ hc)) (xa2 O) (q _ _ m (rv.same m _)))
def xfv(R:RW)(m:Nat):Sp:=λvs H Q _=>∃kv tv p ks env a rs k t x y e val,vs=[kv,tv,.ref p]/\KsAt H kv ks/\RelD H tv (xmc a rs)/\EnAt H p m env/\rs.length<=1000/\R ks env a (.tup [.str k,.str t,x])/\rs.find? (λr=>decide (r.1=t))=some (t,y,e)/\R ks (env.put y x) e val ∧
 ∀u H',Same H H'->RelD H' u val->Q u H'
theorem xhl(T:Tx K mg)(R:RW)(hm:m<=1000)(o:DefIs P w K mg base n "worth" qae (xc3 R (m+1)))(C:DefIs P w K mg base n "with_box" qan (xh1 m)):DefIs P w K mg base (n+1) "case_worth" qae (xfv R m):=by
 refine DefIs.of T.jM sc_case_worth (by walk_at"l") (λf a6 A outer s H vs Q E hr h=>?_);obtain⟨kv,tv,p,ks,env,a,rs,k,t,x,y,e,val,rfl,hk,hv,he,hl,h1,hf,h2,q⟩:=h;have nd:=sc_case_worth.nd
 refine⟨_,(zpn (psn 3 nd (pd o hr (va 0 (zpc (px K (pv 1) pI) (v1 2) ss))))
   (zpn (psn 4 nd (pxl K (xbt ["each","value"] [none,some 3] rfl (by kernel_rfl) (xa1 (K:=K) rfl (px K (pv 1) pI)) (λ_ _ _ _=>(pgc 0)) (λ_ _ _ _=>(xdk (pR xa6 (px K (pv 0) pI) (px K (pv 1) pI) (nM _)))) (λ_ _ _ _=>(pv 0))) pI))
   (zpo (xai (pd o hr (va 0 (zpc (px K (pv 4) pI) (zpc (pd C hr (va 2 (zpc (px K (pv 4) pI) (zpc (px K (pv 3) pI) pN ss) ss))) pN zsc) ss))))))),?_⟩
 obtain⟨b,us,rfl,hb,_,_,rfl,rfl,va,_,rfl,ra,vr,_,rfl,rr,rfl⟩:=hv;obtain⟨c,ws,rfl,hc,a0⟩:=rr;refine(xap _ rfl _ rfl b _ _ (xbr _ rfl rfl (SqT.of hb) rfl _ rfl ?_));refine(xau _ _ _ ks _ (xa8 env _ rfl hk ra (he.mono (by omega)) h1 (λu H1 s1 r1=>?_)));obtain⟨g,zs,rfl,hg,_,_,rfl,rfl,_,_,rfl,rfl,vx,_,rfl,rx,rfl⟩:=r1;refine(xaa _ rfl b _ _ _ rfl rfl (SqT.of (s1 _ _ hb)) rfl (jEAA c rfl ⟨_,SqT.of (s1 _ _ hc)⟩ ?_));have a4:=a0.length;rw[zLM]at a4;refine xbx (xs:=ws) (λi ys H'=>H'=H1/\∃ds:List (Str×Str×D),ds=(rs.take i).filter (λr=>decide (r.1=t))/\RelDs H1 ys (ds.map dArm)) (jAEA rfl ([]) rfl rfl) (xba (by omega)) (λi ys H' _ p=>by obtain⟨rfl,_⟩:=p;exact SqT.of (s1 _ _ hc)) ?_ ?_
 ·rintro i z ys H' hz hi O ⟨rfl,ds,rfl,G⟩
  obtain⟨d,hd,rd⟩:=(a0.same s1 _).get hz;rw[zGM]at hd;obtain⟨r,a1,rfl⟩:=zMS hd;have a3:=rd;obtain⟨l,zs,rfl,U,_,_,rfl,rfl,_,_,rfl,rfl,_,_,rfl,re,rfl⟩:=rd;refine⟨xge rfl,?_⟩;refine(xaa _ rfl l _ _ _ rfl rfl (SqT.of U) rfl (xaa _ rfl g _ _ _ rfl rfl (SqT.of hg) rfl (jAEA rfl _ rfl (ite2 (λcc=>?_) (λcc=>?_)))))
  ·have ee:r.1=t:=V.str.inj (of_decide_eq_true cc)
   refine(jEA _ rfl (nxtG hi O (jAEA rfl _ rfl ?_)));rw[zTA,a1,List.filter_append,zAP];refine G.append ?_;simp only[Option.toList,List.filter_cons,zDT ee,if_true,List.filter_nil,List.map_cons,List.map_nil];exact(xan _ ([]) rfl a3 rfl)
  ·have ee:¬r.1=t:=λz=>cc (zDT (congrArg V.str z))
   refine nxtN hi O (jAEA rfl _ rfl ?_);rw[zTA,a1,List.filter_append,zAP];simp only[Option.toList,List.filter_cons,zDF ee,Bool.false_eq_true,if_false,List.filter_nil,List.map_nil,List.append_nil];exact G
 ·rintro ys H' O ⟨rfl,ds,rfl,G⟩ D hD
  rw[zTL (by omega)]at G;have hh:(rs.filter (λr=>decide (r.1=t))).head?=some (t,y,e):=by rw[List.head?_filter,hf]
  obtain⟨rest,M⟩:∃rest,rs.filter (λr=>decide (r.1=t))=(t,y,e)::rest:=by
   cases hq:rs.filter (λr=>decide (r.1=t)) with
   |nil=>rw[hq]at hh;cases hh
   |cons z zs=>rw[hq]at hh;exact⟨zs,by rw[Option.some.inj hh]⟩
  rw[M]at G;obtain⟨Y,I,rfl,r0,_⟩:=G;have Z:=Same.new hD (.lst (Y::I));refine(xak D _ 0 Y rfl rfl (SqL.of ups) (xa2 (j:=0) rfl) ?_);obtain⟨l,zs,rfl,U,_,_,rfl,rfl,_,_,rfl,rfl,ve,_,rfl,re,rfl⟩:=r0;have J:=s1.trans Z;have a2:SqT K (upd H' D (.lst (.ref l::I))) l [.str t,.str y,ve]:=SqT.of (Z _ _ U);refine(xap _ rfl _ rfl l _ _ (xbr _ rfl rfl a2 rfl _ rfl (xaa _ rfl l _ _ _ rfl rfl a2 rfl (xaa _ rfl g _ _ _ rfl rfl (SqT.of (Z _ _ hg)) rfl ?_))));refine(xce p y vx x env rfl (he.same J) (rx.same Z _) hm (λp' H2 s2 a5=>?_));exact(xau _ _ _ ks _ (xa8 _ _ rfl (hk.same (J.trans s2)) (re.same (Z.trans s2) _) a5 h2 (λu H3 s3 r3=>q u H3 (J.trans (s2.trans s3)) r3)))
theorem xpz (T:Tx K mg) (R:RW) (g:DefIs P w K mg base n "worth" qae (xc3 R m)) (G:DefIs P w K mg base n "op_worth" qaq xh3)
  (Y:DefIs P w K mg base n "field" qa4 xne) (r:DefIs P w K mg base n "case_worth" qae (xfv R m)) :
  DefIs P w K mg base (n+1) "worth" qae (xc3 (λks env d v=>xej env d v\/NodeEv ks (R ks) env d v) m):=by
 refine DefIs.of T.jK sc_worth (by walk_at"l") (λf aa A outer s H vs Q E U h=>?_);obtain⟨kv,tv,p,ks,d,env,val,rfl,hk,O,he,hR,q⟩:=h;have nd:=sc_worth.nd;have hu:=xfe U
 refine⟨_,(zpn (psn 3 nd (px K (pv 1) pI))
   (zpn (xa4 (pR xa6 (pv 3) pS (nM _)) (zpo (xai (px K (pv 1) pI))) pQ)
   (zpn (xa4 (pR xa6 (pv 3) pS (nM _)) (zpo (xai (xbf hu (pv 2) (px K (pv 1) pI) (λ_ _=>rfl)))) pQ)
   (zpn (xa4 (pR xa6 (pv 3) pS (nM _)) (zpo (xai (pd G U (zpc (px K (pv 1) pI) (zpc (pd g U (va 0 (zpc (px K (pv 1) pI) (v1 2) ss))) (zpc (pd g U (va 0 (zpc (px K (pv 1) pI) (v1 2) ss))) pN zsc) zsc) ss)))) pQ)
   (zpn (xa4 (pR xa6 (pv 3) pS (nM _)) (zpo (xai (xay (zpc (px K (pv 1) pI) (zpc (xao (xbo (K:=K) rfl) rfl T.uB PyProof.Rows.boot_tuple (zpc (xbt ["inner","kinds","boxes"] [none,some 0,some 2] rfl (by kernel_rfl) (xa1 (K:=K) rfl (px K (pv 1) pI)) (λ_ _ _ _=>(pgc 0)) (λ_ _ _ _=>xb1) (λ_ _ _ _=>(pd g U (va 1 (va 0 (v1 2)))))) pN xbz)) pN zsc) ss)))) pQ)
   (zpn (xa4 (pR xa6 (pv 3) pS (nM _)) (zpo (xai (pd Y U (va 0 (zpc (pd g U (va 0 (zpc (px K (pv 1) pI) (v1 2) ss))) (zpc (px K (pv 1) pI) pN ss) zsc))))) pQ)
   (zpn (xa4 (pR xa6 (pv 3) pS (nM _)) (zpo (xai (xay (zpc (px K (pv 1) pI) (zpc (px K (pv 1) pI) (zpc (pd g U (va 0 (zpc (px K (pv 1) pI) (v1 2) ss))) pN zsc) ss) ss)))) pQ)
   (zpn (xa4 (pR xa6 (pv 3) pS (nM _)) (zpo (xai (pd r U (va 0 (va 1 (v1 2)))))) pQ)
   (zpn (psn 4 nd (xes (pR xa6 (pd g U (va 0 (zpc (px K (pv 1) pI) (v1 2) ss))) pI (nM _)) (px K (pv 1) pI) (px K (pv 1) pI)))
   (zpo (xai (pd g U (va 0 (va 4 (v1 2))))))))))))))),?_⟩
 rcases hR with(⟨i,rfl,rfl⟩ |⟨x,hx,rfl⟩) |⟨sg,a,b,x,y,M,h2,nx,ny,rfl,rfl⟩ |⟨k,es,ws,hl,M,rfl,rfl⟩ |⟨a,k,ws,f',kn,i,M,a8,hi,hw,rfl⟩ |⟨k,t,a,x,M,rfl,rfl⟩ |⟨a,rs,k,t,x,y,e,hl,M,hf,h2,rfl⟩ |⟨a,b,c,x,M,h2,rfl⟩
 ·obtain⟨a,us,rfl,C,_,_,rfl,rfl,_,_,rfl,rfl,rfl⟩:=O
  have hS:SqT K H a [.str (S "num"),.int i]:=SqT.of C;walk_at"rd";exact q _ _ (Same.refl _) rfl
 ·obtain⟨a,us,rfl,C,_,_,rfl,rfl,_,_,rfl,rfl,rfl⟩:=O
  have hS:SqT K H a [.str (S "box"),.str x]:=SqT.of C;obtain⟨kvs,hp,hl,hh⟩:=he;obtain⟨v,O,rv⟩:=(hh x).2 _ hx;walk_at"rd";exact(xan p v rfl (O ▸ DGet.k (k:=Sum.inr x) hp) (q _ _ (Same.refl _) rv))
 ·obtain⟨l,us,rfl,C,_,_,rfl,rfl,_,_,rfl,rfl,va,_,rfl,Z,vb,_,rfl,rb,rfl⟩:=O
  have hS:SqT K H l [.str (S "op"),.str sg,va,vb]:=SqT.of C;walk_at"rd";refine(xau _ _ _ ks _ (xa8 env _ rfl hk Z he M (λu H1 o r1=>?_)));obtain rfl:u=.int x:=r1;have J:SqT K H1 l [.str (S "op"),.str sg,va,vb]:=SqT.of (o _ _ C);refine(xap _ rfl _ rfl l _ _ (xbr _ rfl rfl J rfl _ rfl ?_));refine(xau _ _ _ ks _ (xa8 env _ rfl (hk.same o) (rb.same o _) (he.same o) h2 (λu H2 I r2=>?_)));obtain rfl:u=.int y:=r2;exact(xdd sg x y rfl nx ny (q _ _ (o.trans I) rfl))
 ·obtain⟨l,us,rfl,C,_,_,rfl,rfl,_,_,rfl,rfl,va,_,rfl,Z,rfl⟩:=O
  obtain⟨c,a2,rfl,hc,a3⟩:=Z;have hS:SqT K H l [.str (S "rec"),.str k,.ref c]:=SqT.of C;walk_at"rd";refine⟨⟨_,SqT.of hc⟩,?_⟩;have l1:=a3.length;have l2:=M.length;refine xfp (j:=0) (xs:=a2) (λi ys H'=>Same H H'/\RelDs H' ys (ws.take i)) (by rfl) ⟨Same.refl _,rfl⟩ (xba (by omega)) (λi ys H' _ p=>SqT.of (p.1 _ _ hc)) ?_ ?_
  ·rintro i x ys H' hx a4 ⟨sm,a0⟩
   obtain⟨d',a9,a6⟩:=a3.get hx;obtain⟨v',a1,a5⟩:=M.get a9;have hi:i<a2.length:=(zES hx).1;refine(xbk _ rfl _ rfl _ rfl _ _ (xaj _ ks _ env _ rfl (hk.same sm) (a6.same sm _) (he.same sm) a5 (λu H2 I r2=>nxt hi a4 ⟨sm.trans I,?_⟩)));rw[zTA,a1];exact(a0.same I _).append (xan u ([]) rfl r2 rfl)
  ·rintro ys H' a4 ⟨sm,a0⟩ D hD
   rw[zTL (by omega)]at a0;refine(jEEA D ys rfl (.inl ⟨SqL.of ups,λl' a7=>?_⟩));have o:=Same.new hD (.lst ys);have I:=Same.new a7 (.tup ys);refine⟨(by walk_at"s"),λt ht=>?_⟩;have s3:=Same.new ht (.tup [.str k,.ref l']);exact q _ _ (sm.trans (o.trans (I.trans s3))) (xal t _ rfl ups _ _ rfl rfl _ (jEAA _ rfl (xan l' ys rfl (s3 _ _ ups) (a0.same (o.trans (I.trans s3)) _)) rfl))
 ·obtain⟨l,us,rfl,C,_,_,rfl,rfl,va,_,rfl,Z,_,_,rfl,rfl,rfl⟩:=O
  have hS:SqT K H l [.str (S "get"),va,.str f']:=SqT.of C;walk_at"rd";refine(xau _ _ _ ks _ (xa8 env _ rfl hk Z he M (λu H1 o r1=>?_)));have J:SqT K H1 l [.str (S "get"),va,.str f']:=SqT.of (o _ _ C);refine(xaa _ rfl l _ _ _ rfl rfl J rfl ?_);exact(xau _ _ ks k kn (xav ws f' i val rfl (hk.same o) r1 a8 hi ⟨hw,λu H2 I r2=>q _ _ (o.trans I) r2⟩))
 ·obtain⟨l,us,rfl,C,_,_,rfl,rfl,_,_,rfl,rfl,_,_,rfl,rfl,va,_,rfl,Z,rfl⟩:=O
  have hS:SqT K H l [.str (S "tag"),.str k,.str t,va]:=SqT.of C;walk_at"rd";refine(xau _ _ _ ks _ (xa8 env _ rfl hk Z he M (λu H1 o r1=>?_)));refine⟨(by walk_at"s"),λc hc=>?_⟩;have I:=Same.new hc (.tup [.str k,.str t,u]);exact q _ _ (o.trans I) (xal c _ rfl ups _ _ rfl rfl _ (xbe _ rfl rfl _ _ rfl (r1.same I _) rfl))
 ·have a1:=O
  obtain⟨l,us,rfl,C,_,_,rfl,rfl,va,_,rfl,Z,vr,_,rfl,rr,rfl⟩:=O;have hS:SqT K H l [.str (S "case"),va,vr]:=SqT.of C;walk_at"rd";exact(xau _ _ p ks env (xau a rs k t x (xb3 y e val rfl hk a1 he hl (jAAA M hf h2 q))))
 ·obtain⟨l,us,rfl,C,_,_,rfl,rfl,va,_,rfl,Z,vb,_,rfl,rb,vc,_,rfl,rc,rfl⟩:=O
  have hS:SqT K H l [.str (S "if"),va,vb,vc]:=SqT.of C;walk_at"rd";refine(xau _ _ _ ks _ (xa8 env _ rfl hk Z he M (λu H1 o r1=>?_)));obtain rfl:u=.int x:=r1;have J:SqT K H1 l [.str (S "if"),va,vb,vc]:=SqT.of (o _ _ C);refine(jAEA rfl _ rfl (ite2 (λc'=>?_) (λc'=>?_)))
  ·have e:x=0:=V.int.inj (of_decide_eq_true c')
   rw[if_pos e]at h2;refine(xaa _ rfl l _ _ _ rfl rfl J rfl (jEA _ rfl (jEA _ rfl (jEA _ rfl ?_))));exact(xau _ _ _ ks _ (xa8 env _ rfl (hk.same o) (rc.same o _) (he.same o) h2 (λu H2 I r2=>q _ _ (o.trans I) r2)))
  ·have e:¬x=0:=λz=>c' (zDT (congrArg V.int z))
   rw[if_neg e]at h2;refine(xaa _ rfl l _ _ _ rfl rfl J rfl (jEA _ rfl (jEA _ rfl (jEA _ rfl ?_))));exact(xau _ _ _ ks _ (xa8 env _ rfl (hk.same o) (rb.same o _) (he.same o) h2 (λu H2 I r2=>q _ _ (o.trans I) r2)))
theorem xgn(T:Tx K a)(R:RW)(f:m<=1000)(D:DefIs P w K a base (n+1) "worth" qae (xc3 R (m+1))):DefIs P w K a base (n+3) "worth" qae (xc3 (λks env d v=>xej env d v\/NodeEv ks (R ks) env d v) m):=by
 have r:DefIs P w K a base (n+1) "worth" qae (xc3 R m):=D.imp (by
  rintro vs H Q E ⟨e,c,p,ks,d,env,val,o,l,j,i,h,g⟩;exact(xau e c p ks d (xa8 env val o l j (i.mono (by omega)) h g)))
 exact xpz T R (r.mono (by omega)) (xkp T) (xp1 T (xen T)) (xhl T R f D (xkn T))
theorem xk8(T:Tx K c):∀n m,n+m<=1000->DefIs P w K c base (2*n+3) "worth" qae (xc3 (λks=>Ev ks n) m)
 | 0,m,h=>by
  refine(xgn (P:=P) (w:=w) (base:=base) (n:=0) (m:=m) T (λ_ _ _ _=>False) (by omega) (DefIs.none T.jK ?_)).imp ?_
  ·rintro vs H Q E ⟨_,_,_,_,_,_,_,_,_,_,_,h,_⟩
   exact h
  ·rintro vs H Q E ⟨e,a,p,ks,d,env,k,o,l,j,i,g,f⟩
   exact(xau e a p ks d (xa8 env k o l j i (.inl g) f))
 |n+1,m,h=>xgn (n:=2*n+2) (m:=m) T (λks=>Ev ks n) (by omega) (xk8 T n (m+1) (by omega))
def xh5(K:Fg):Sp:=λvs H Q _=>∃(a:Addr) (ns:List Int) (k:Int),vs=[.ref a,.int k]/\SqL K H a (ns.map V.int)/\ns.length<=63/\0<=k/\∀(r:Addr) (p q:Int),H r=none->Q (.ref r) (upd H r (.lst [.int p,.int q]))
def xcp:Sp:=λvs H Q _=>∃(a:Addr) (p q m:Int),vs=[.ref a,.int m]/\H a=some (.lst [.int p,.int q])/\0<m/\m<2 ^ 64/\∀(r:Int) (H':Hp),0<=r->r<m->Fed a H H'->Q (.int r) H'
theorem xk4{ns:List Int}{k:Int}(h0:0<=k)(h:k<(ns.length:Int)):∃v:Int,atI (ns.map V.int) k=some (.int v):=by
 have a:k.toNat<ns.length:=by omega
 have c:k=((k.toNat:Nat):Int):=by omega
 refine⟨ns[k.toNat],?_⟩;have q:atI (ns.map V.int) ((k.toNat:Nat):Int)=some (.int ns[k.toNat]):=xa2 (by rw[zGM,zGA a] <;> rfl);rw[<- c]at q;exact q
theorem xc8:2<=sizeLine:=by decide
theorem xfk(T:Tx K C):DefIs P w K C base (n+1) "_law_feed" qaj (xh5 K):=by
 refine DefIs.of T.jW scl_feed (λvs H Q E h=>?_) (λf J A outer s H vs Q E M h=>?_)
 ·obtain⟨a,ns,k,rfl,_⟩:=h
  rfl
 obtain⟨a,ns,k,rfl,U,I,G,q⟩:=h;have nd:=scl_feed.nd;have i:(ns.map V.int).length=ns.length:=zLM _
 refine⟨_,(zpn (psn 2 nd pI)
   (zpn (xa4 (pR xfc (pv 1) (xar (xag (K:=K) rfl) rfl T.k5 PySem.boot_len (v1 0)) (nM _)) (zpo (psn 2 nd (pxl K (pv 0) (pv 1)))) pQ)
   (zpn (xa4 (PW.pt (xcj (pR xdc (xar (xag (K:=K) rfl) rfl T.k5 PySem.boot_len (v1 0)) pI (nM _)) (xb0 (pR xa6 (xam xcg (pxl K (pv 0) pI) pI) pI (nM _))))) (zpo (xai (xb2 (va 2 (zpc (xam xbd (xam xcg (xam xbd (xam xda (xam xcg (pv 2) pI) pI) (xam xda pI (pv 1))) pI) pI) pN xa3))))) pQ)
   (zpn (xa4 (PW.pt (xcj (pR xt4 (pv 1) (xar (xag (K:=K) rfl) rfl T.k5 PySem.boot_len (v1 0)) (nM _)) (xb0 (pR xdc (xar (xag (K:=K) rfl) rfl T.k5 PySem.boot_len (v1 0)) pI (nM _))))) (zpo (psn 2 nd (xam xbd (pxl K (pv 0) (xam xcg (pv 1) (xar (xag (K:=K) rfl) rfl T.k5 PySem.boot_len (v1 0)))) (xam xda pI (pv 1))))) pQ)
   (zpo (xai (xb2 (zpc pI (zpc (xam xbd (xam xcg (xam xbd (xam xda (xam xcg (pv 2) pI) pI) (xam xda pI (pv 1))) pI) pI) pN xa3) so)))))))),?_⟩
 have h0:0<ns.length->∃v:Int,atI (ns.map V.int) 0=some (.int v):=λh=>xk4 (Int.le_refl 0) (by omega);walk_at"rd";refine ite2 (λc=>?_) (λc=>?_)
 ·have p:=of_decide_eq_true c
  rw[i]at p;obtain⟨v,y⟩:=xk4 (ns:=ns) G p;obtain⟨z,r⟩:=h0 (by omega);walk_at"rd";refine ite2 (λm=>?_) (λm=>?_)
  ·walk_at"rd"
   refine ite2 (λx=>?_) (λx=>?_)
   ·walk_at"rd"
    exact⟨xc8,λl e=>q l _ _ e⟩
   ·walk_at"rd"
    refine ite2 (λj=>?_) (λj=>?_)
    ·have u:=of_decide_eq_true j
     rw[i]at u;omega
    ·refine iteF ?_
     walk_at"rd";exact⟨xc8,λl e=>q l _ _ e⟩
  ·have g:=of_decide_eq_false (Bool.eq_false_iff.mpr m)
   rw[i]at g;omega
 ·have p:=of_decide_eq_false (Bool.eq_false_iff.mpr c)
  rw[i]at p;walk_at"rd";refine ite2 (λm=>?_) (λm=>?_)
  ·have g:=of_decide_eq_true m
   rw[i]at g;obtain⟨z,r⟩:=h0 (by omega);walk_at"rd";refine ite2 (λx=>?_) (λx=>?_)
   ·walk_at"rd"
    exact⟨xc8,λl e=>q l _ _ e⟩
   ·walk_at"rd"
    refine ite2 (λj=>?_) (λj=>?_)
    ·walk_at"rd"
     refine ite2 (λo=>?_) (λo=>?_)
     ·obtain⟨v,y⟩:=xk4 (ns:=ns) (k:=k%(ns.length:Int)) (Int.emod_nonneg _ (by omega)) (Int.emod_lt_of_pos _ (by omega))
      rw[<- i]at y;have O:(0:Int)<((ns.map V.int).length:Nat):=by rw[i];omega
      walk_at"rd";exact⟨xc8,λl e=>q l _ _ e⟩
     ·walk_at"rd"
      exact⟨xc8,λl e=>q l _ _ e⟩
    ·refine iteF ?_
     walk_at"rd";exact⟨xc8,λl e=>q l _ _ e⟩
  ·refine iteF ?_
   walk_at"rd";refine ite2 (λj=>?_) (λj=>?_)
   ·walk_at"rd"
    refine ite2 (λo=>?_) (λo=>?_)
    ·have g:=of_decide_eq_false (Bool.eq_false_iff.mpr m)
     exact absurd (of_decide_eq_true o) g
    ·walk_at"rd"
     exact⟨xc8,λl e=>q l _ _ e⟩
   ·refine iteF ?_
    walk_at"rd";exact⟨xc8,λl e=>q l _ _ e⟩
theorem xdm(T:Tx K g):DefIs P w K g base (n+1) "_law_take" qad xcp:=by
 refine DefIs.of T.jX scl_take (λvs H Q E h=>?_) (λf j A outer s H vs Q E o h=>?_)
 ·obtain⟨a,p,q,m,rfl,_⟩:=h
  rfl
 obtain⟨a,p,q,m,rfl,i,e,l,k⟩:=h;have nd:=scl_take.nd;have r:SqL K H a [.int p,.int q]:=SqL.of i
 refine⟨_,(zpn (xa4 (pR xdc (pxl K (pv 0) pI) pI (nM _)) (zpn (psn 2 nd (xam xcg (pxl K (pv 0) pI) (pv 1)))
   (zpn (xc0 (xam xch (pxl K (pv 0) pI) (pv 1)) (xq5 (pv 0) pI xlg))
   (zpo (xai (pv 2))))) pQ)
   (zpn (psn 3 nd (xam xcg (xam xda (pxl K (pv 0) pI) pI) pI))
   (zpn (xc0 (xam xbd (xam xcg (xam xbd (xam xda (pv 3) pI) pI) pI) pI) (xq5 (pv 0) pI xlg))
   (zpo (xai (xam xcg (xam xch (xam xbd (xam xda (pv 3) pI) (pxl K (pv 0) pI)) pI) (pv 1))))))),?_⟩
 walk_at"rd";refine ite2 (λc=>?_) (λc=>?_)
 ·walk_at"rd"
  refine k _ _ (Int.emod_nonneg _ (by omega)) (Int.emod_lt_of_pos _ e) Fed.of
 ·walk_at"rd"
  refine(xak _ _ _ _ rfl rfl (SqL.of ups) rfl ?_);walk_at"rd";refine k _ _ (Int.emod_nonneg _ (by omega)) (Int.emod_lt_of_pos _ e) Fed.of
def xm5:Sp:=λvs H Q _=>∃c:Int,vs=[.int c,.int 26]/\∀(b:Addr) (H':Hp) (nms:List Str),Same H H'->H b=none->H' b=some (.lst (nms.map V.str))->xj3 nms->(∀z∈nms,NoBy z/\NoMo z)->Q (.ref b) H'
theorem xnw(T:Tx K mg):DefIs P w K mg base (n+1) "_law_names" qa6 xm5:=by
 refine DefIs.of T.jY scl_names (by walk_at"l") (λf a5 A outer s H vs Q E hr h=>?_);obtain⟨c,rfl,k⟩:=h;have nd:=scl_names.nd
 refine⟨_,(zpn (psn 2 nd pS)
   (zpn (psn 3 nd (xam xcg (pv 0) pI))
   (zpn (psn 4 nd (xam xcg (xam xch (pv 0) pI) (xam xbd (pv 3) pI)))
   (zpn (psn 5 nd (xc4 PySem.F.plainAttrs_str PySem.F.slot_str_join PySem.F.type_str_join xsm pS (zpc (xbt ["_law_j","_law_cell"] [none,some 0] rfl (by kernel_rfl) (xcb rfl T.k9 (v1 3)) (λ_ _ _ _=>(pgc 0)) (λ_ _ _ _=>xb1) (λ_ _ _ _=>(xmi xlt pS (xam xcg (xam xbd (xam xch (pv 1) pI) (pv 0)) pI) (λ_ _=>rfl)))) pN xbz)))
   (zpn (psn 6 nd (xb2 pN))
   (zpn (xcm PassesOwn.never rfl (xcb rfl T.k9 (v1 1)) (pgn 7 nd)
   (zpn (psn 8 nd (xmi xlt (pv 2) (xam xcg (xam xbd (xam xch (pv 0) pI) (xam xda pI (pv 7))) pI) (λ_ _=>rfl)))
   (zpo (xbl (xc4 PySem.F.plainAttrs_list PySem.F.slot_list_append PySem.F.type_list_append xbj (pv 6) (zpc (xam xd8 (xam xd8 (xd7 xq2 (pv 5) xkj (xdl (pv 4))) (pv 8)) (xd7 xq2 (pv 5) (xdl (pv 4)) xkj)) pN xa3))))))
   (zpn (xa4 (pR xa6 (xam xcg (xam xch (pv 0) pI) pI) pI (nM _)) (zpo (xai (pv 6))) pQ)
   (zpo (xai (xbt ["_law_k","_law_found"] [none,some 6] rfl (by kernel_rfl) (xcb rfl T.k9 (v1 1)) (λ_ _ _ _=>(pgc 0)) (λ_ _ _ _=>xb1) (λ_ _ _ _=>(xam xd8 (pxl K (pv 1) (xam xcq (pv 0) (xam xcg (pv 0) pI))) (xam xsd pS (xam xcg (pv 0) pI)))))))))))))),?_⟩
 have m0:0<=c%5:=Int.emod_nonneg _ (by decide);have m5:c%5<5:=Int.emod_lt_of_pos _ (by decide);refine(xax _ rfl _ _ rfl rfl ⟨(by show(0:Int)<5;decide),?_⟩);have hp:0<(c%5)+1:=by omega
 refine(xax _ rfl _ _ rfl rfl (jAEA ⟨by decide,by decide⟩ _ rfl (xan _ _ rfl rfl (xbh _ _ rfl rfl hp ?_))));have a0:0<=c / 5%((c%5)+1):=Int.emod_nonneg _ (by omega);have a1:c / 5%((c%5)+1)<(c%5)+1:=Int.emod_lt_of_pos _ hp;refine(jAEA rfl _ rfl (xbn _ rfl (by omega) (by omega) ?_));refine xec (j:=0) (λi ys I=>I=H/\∃cs:List Nat,ys=(cs.map xc9).map V.str/\∀c∈cs,c∈five) (by rfl) (jAEA rfl ([]) rfl (λ_ h=>nomatch h)) (xba (by omega)) ?_ ?_
 ·rintro i ys I hi Z ⟨rfl,cs,rfl,a⟩
  refine(xax _ rfl _ _ rfl rfl (jAEA ⟨by decide,by decide⟩ _ rfl (xan _ _ rfl rfl (xbh _ _ rfl rfl (by show(0:Int)<5;decide) ?_))));obtain⟨ch,a2,a3⟩:=xsv (Int.emod_nonneg (c / 25+(0+(i:Int))) (by decide:(5:Int)≠0)) (Int.emod_lt_of_pos _ (by decide));refine(xaq _ _ ch rfl rfl (by walk_at"k") a3 ?_)
  exact nxt hi Z ⟨rfl,cs++[ch],by simp[xc9],λx r=>by
   rcases zMA r with r |r
   ·exact a x r
   ·rw[zMO r];exact a2⟩
 ·rintro ys I Z ⟨rfl,cs,rfl,a⟩ D hD
  rw[zLM,zLM]at Z;refine(xaq (S "") D (cs.map xc9) rfl rfl (SqL.of ups) ?_ ?_)
  ·rw[xj8,show(S "").length=0 by walk_at"k"]
   omega
  rw[xjc];have p:=Same.new hD (.lst ((cs.map xc9).map V.str));generalize upd I D (.lst ((cs.map xc9).map V.str))=H1 at p⊢;have g:(ofL cs).length=cs.length:=by rw[<- xex,xd1]
  have c4:cs.length<=4:=by omega
  refine⟨(by walk_at"s"),λo C=>?_⟩;refine(xbg _ rfl _ rfl (by decide) ⟨by decide,?_⟩);refine xc1 (n:=26) (λi σ H2=>∃O M,σ=[some (.int c),some (.int 26),some (.str (S "abcdefghijklmnopqrstuvwxyz")),some (.int (c%5)),some (.int (c / 5%(c%5+1))),some (.str (ofL cs)),some (.ref o),O,M]/\H2=upd H1 o (.lst (((List.range i).map λk=>ofL (nmA cs (c / 5%(c%5+1)).toNat (c / 125) k)).map V.str))) (jEEA none none rfl rfl) ?_ ?_
  ·rintro i σ H2 hi ⟨O,M,rfl,rfl⟩
   have e0:(0+(i:Int))=(i:Int):=by omega
   have Y:0<=(c / 125+5*(0+(i:Int)))%26:=Int.emod_nonneg _ (by decide);have U:(c / 125+5*(0+(i:Int)))%26<26:=Int.emod_lt_of_pos _ (by decide);refine(jEA _ rfl (xax _ rfl _ _ rfl rfl (jAEA ⟨by decide,by decide⟩ _ rfl (xbh _ _ rfl rfl (.inl ⟨by decide,by decide⟩) (xan _ _ rfl rfl (xbh _ _ rfl rfl (by show(0:Int)<26;decide) ?_))))));refine(xaq _ _ _ rfl rfl (by walk_at"k") (xoi Y U) ?_);refine(jEAA _ rfl (.inl (jAE rfl _ (SqL.of ups))) ?_);refine(jEA _ rfl (jEA _ rfl (xbg _ rfl _ rfl (fits (by rw[g];omega)) ?_)));refine(jEA _ rfl ?_);rw[xpj (ofL cs) a0 (by rw[g];omega)];refine(xbh _ _ rfl rfl ?_ ?_)
   ·refine fits ?_
    rw[show(ofL ((L (ofL cs)).take (c / 5%(c%5+1)).toNat)).length=(cs.take (c / 5%(c%5+1)).toNat).length by rw[<- xex,xd1,xd1],List.length_take];show _+1<=_;omega
   refine(jEA _ rfl (jEA _ rfl (xbg _ rfl _ rfl (fits (by rw[g];omega)) ?_)));rw[xme (ofL cs) a0 (by rw[g];omega),xd1];refine(xbh _ _ rfl rfl ?_ ?_)
   ·refine fits ?_
    rw[Str.length_append,show(ofL (cs.take (c / 5%(c%5+1)).toNat)).length=(cs.take (c / 5%(c%5+1)).toNat).length by rw[<- xex,xd1],show(ofL (cs.drop (c / 5%(c%5+1)).toNat)).length=(cs.drop (c / 5%(c%5+1)).toNat).length by rw[<- xex,xd1],List.length_take,List.length_drop];show _+1+_<=_;omega
   rw[xoc];refine(xaq o _ _ rfl rfl ups (xba (by rw[zLM,zLM,List.length_range];omega)) (jEEA _ _ rfl ?_));rw[xg6,List.range_succ,zAP,zAP,e0];rfl
  rintro σ H2 ⟨O,M,rfl,rfl⟩;have l:=Same.new C (.lst (((List.range 26).map λk=>ofL (nmA cs (c / 5%(c%5+1)).toNat (c / 125) k)).map V.str));refine(xax _ rfl _ _ rfl rfl (jAE ⟨by decide,by decide⟩ _ (xbr _ rfl rfl (by show(0:Int)<3;decide) rfl _ rfl (ite2 (λcc=>?_) (λcc=>?_)))))
  ·exact(jEA _ rfl (k o _ _ (p.trans l) (xaf p C) ups (nmsA c4 a) (λz hz=>⟨xsk a z hz,xsj a z hz⟩)))
  ·refine(xbg _ rfl _ rfl (by decide) ⟨by decide,?_⟩)
   obtain⟨G,m⟩:∃G,G=upd H1 o (.lst (((List.range 26).map λk=>ofL (nmA cs (c / 5%(c%5+1)).toNat (c / 125) k)).map V.str)):=⟨_,rfl⟩;have hb:G o=some (.lst (((List.range 26).map λk=>ofL (nmA cs (c / 5%(c%5+1)).toNat (c / 125) k)).map V.str)):=by rw[m];exact ups
   rw[<- m]at l;refine xec (j:=0) (λi ys H4=>H4=G/\ys=((List.range i).map λk=>ofL (nmB cs (c / 5%(c%5+1)).toNat (c / 125) k)).map V.str) (by rfl) ⟨m.symm,rfl⟩ (xba (by decide)) ?_ ?_
   ·rintro i ys H4 hi u ⟨rfl,rfl⟩
    have a4:i<26:=hi;have er:(0+(i:Int))%2=((i%2:Nat):Int):=by omega
    have es:(0+(i:Int))-(0+(i:Int))%2=((i-i%2:Nat):Int):=by omega
    refine(xat _ rfl _ rfl _ rfl _ _ rfl rfl (jAE (by show(0:Int)<2;decide) _ (jEAA _ rfl rfl (xak o _ _ (.str (ofL (nmA cs (c / 5%(c%5+1)).toNat (c / 125) (i-i%2)))) rfl rfl (SqL.of hb) ?_ ?_))))
    ·rw[es]
     refine xa2 ?_;rw[zGM,zGM,List.getElem?_range (by omega)];rfl
    refine(xax _ rfl _ _ rfl rfl (jAE (by show(0:Int)<2;decide) _ (xbn _ rfl rfl (by omega) ?_)));refine(xbh _ _ rfl rfl ?_ ?_)
    ·refine fits ?_
     rw[show(ofL (nmA cs (c / 5%(c%5+1)).toNat (c / 125) (i-i%2))).length=cs.length+1 by rw[<- xex,xd1,xf4]];have:(if (0+(i:Int))%2=1 then S "q" else Str.empty).length<=1:=by split <;> decide +kernel
     show _+(if (0+(i:Int))%2=1 then S "q" else Str.empty).length<=_;omega
    refine nxt hi u ⟨rfl,?_⟩;rw[List.range_succ,zAP,zAP];congr 1;show[V.str _]=[V.str _];congr 2;apply xpb;rw[xed,xd1,xd1];unfold nmB;congr 1;rw[er];rcases Nat.mod_two_eq_zero_or_one i with e |e
    ·rw[e];decide +kernel
    ·rw[e];decide +kernel
   ·rintro ys H4 u ⟨rfl,rfl⟩ D4 y
    have J:=Same.new y (.lst (((List.range 26).map λk=>ofL (nmB cs (c / 5%(c%5+1)).toNat (c / 125) k)).map V.str));exact k D4 _ _ (p.trans (l.trans J)) (xaf (p.trans l) y) ups (nmsB c4 a) (λz hz=>⟨xsi a z hz,xsh a z hz⟩)
def xel:Sp:=λvs H Q _=>∃v ks x,vs=[v,.str x]/\KsSeq H v ks/\∀t pv H',Same H H'->H' t=some (.tup [.str (xfa (kAt ks x)),pv])->RelD H' pv (xlk (kAt ks x))->Q (.ref t) H'
def xgp(m:Nat):Sp:=λvs H Q _=>∃v ks x,vs=[v,.str x]/\KsSeq H v ks/\KWf ks/\KIn ks m x/\∀H',Same H H'->Q (.int (szF (m+1) ks x)) H'
theorem xby (T:Tx K Y):DefIs P w K Y base (n+1) "_law_sort_of" qab xel:=by
  refine DefIs.of T.j8 scl_sort_of (by walk_at"l") (λf a0 A outer s H vs Q E hr h=>?_);obtain⟨v,ks,x,rfl,⟨a,us,rfl,J,M⟩,q⟩:=h;have nd:=scl_sort_of.nd
  refine⟨_,(zpn (xcm PassesOwn.never rfl (xty (xcf (K:=K) rfl (pv 0)) (xa1 (K:=K) rfl (pv 0))) (xa9 (K:=K) rfl rfl (xac (pgn 2 nd) (xac (pgn 3 nd) (xac (pgn 4 nd) xa7))))
      (zpo (xa4 (pR xa6 (pv 2) (pv 1) (nM _)) (zpo (xai (xay (va 3 (v1 4))))) pQ)))
      (zpo (xai (xay (zpc pS (zpc (xay pN) pN sT) so))))),?_⟩
  have Z:=M.length;rw[zLM]at Z
  have l:∀(i:Nat) (v:V),us[i]?=some v->(ks.take i).find? (λk=>decide (k.name=x))=none->∃k b pv,ks[i]?=some k/\v=.ref b/\H b=some (.tup [.str k.name,.str k.sort,pv])/\RelD H pv (xdv k.parts):=λi v C hn=>by
    obtain⟨d,hd,rd⟩:=M.get C;rw[zGM]at hd;obtain⟨k,g,rfl⟩:=zMS hd;obtain⟨b,ws,rfl,I,_,_,rfl,rfl,_,_,rfl,rfl,O,_,rfl,y,rfl⟩:=rd;exact(xdd k b O g rfl I y)
  rcases J with u |u
  case' inl=>
    refine .inl (xbg _ rfl a rfl ⟨_,SqL.of u⟩ ?_);refine xhs (xs:=us) (λi σ j=>∃r o m,σ=[some (.ref a),some (.str x),r,o,m]/\j=H/\(ks.take i).find? (λk=>decide (k.name=x))=none) (xcd none none none rfl rfl rfl) (λi σ j _ p=>by obtain⟨_,_,_,_,rfl,_⟩:=p;exact SqL.of u) ?_ ?_
  case' inr=>
    refine .inr (xbg _ rfl a rfl ⟨_,SqT.of u⟩ ?_);refine xde (xs:=us) (λi σ j=>∃r o m,σ=[some (.ref a),some (.str x),r,o,m]/\j=H/\(ks.take i).find? (λk=>decide (k.name=x))=none) (xcd none none none rfl rfl rfl) (λi σ j _ p=>by obtain⟨_,_,_,_,rfl,_⟩:=p;exact SqT.of u) ?_ ?_
  all_goals first
    | (rintro i v σ j C ⟨r,o,m,rfl,rfl,hn⟩
       obtain⟨k,b,pv,g,rfl,I,y⟩:=l i v C hn;refine(xas b _ rfl (SqT.of I) rfl _ _ rfl _ (xax _ rfl _ _ rfl rfl ?_));refine(xca _ rfl _ rfl rfl _ rfl (ite2 (λc=>?_) (λc=>?_)))
       · have e:k.name=x:=V.str.inj (of_decide_eq_true c)
         have e2:kAt ks x=some k:=(xc2 hn g).1 (zDT e);refine(xbg _ rfl _ rfl (by walk_at"s") (λt G=>?_));have st:=Same.new G (.tup [.str k.sort,pv]);rw[e2]at q;exact q t pv _ st ups (y.same st _)
       · have e:¬k.name=x:=λz=>c (zDT (congrArg V.str z))
         exact(xcd _ _ _ rfl rfl ((xc2 hn g).2 (zDF e))))
    | (rintro σ j ⟨r,o,m,rfl,rfl,hn⟩
       rw[zTL (by omega)]at hn;rw[show kAt ks x=none from hn]at q;refine⟨(by walk_at"s"),λe he=>⟨(by walk_at"s"),λt G=>?_⟩⟩;have U:=Same.new he (.tup []);have st:=Same.new G (.tup [.str (S "num"),.ref e]);exact q t (.ref e) _ (U.trans st) ups (xan e ([]) rfl (st _ _ ups) rfl))
theorem xln (T:Tx K mg) (G:Sp) (a:DefIs P w K mg base n "_law_sort_of" qab xel) (g:DefIs P w K mg base n "_law_size" qab G) (M:∀j,m=j+1->G=xgp j) (hm:m<=6) :
  DefIs P w K mg base (n+1) "_law_size" qab (xgp m):=by
 refine DefIs.of T.j9 scl_size (by walk_at"l") (λf a5 A outer s H vs Q E hr h=>?_);obtain⟨v,ks,x,rfl,hk,u,a3,q⟩:=h;have nd:=scl_size.nd
 refine⟨_,(zpn (xc0 (pd a hr (va 0 (v1 1))) (xa9 (K:=K) rfl rfl (xac (pgn 2 nd) (xac (pgn 3 nd) xa7))))
   (zpn (xc6 (i:=4) qbe [none,none,some 0] rfl (by kernel_rfl) nd rfl (by walk_at"o") (xa1 (K:=K) rfl (pv 3)) (λ_ _ _ _=>(xa9 (K:=K) (n:=2) rfl rfl (xac (pgc 0) (xac (pgc 1) xa7)))) (λ_ _ _ _=>xb1) (λ_ _ _ _=>(pd g hr (va 2 (v1 1)))))
   (zpn (xa4 (pR xa6 (pv 2) pS (nM _)) (zpo (xai (xam xbd pI (xar (xo7 rfl) rfl T.k7 PyProof.Rows.boot_max (v1 4))))) pQ)
   (zpo (xai (xam xbd pI (xar (xju rfl) rfl T.uA PyProof.Rows.boot_sum (v1 4)))))))),?_⟩
 refine(xci _ rfl _ rfl v ks x rfl hk (λt pv H1 s1 ht rp=>?_));refine(xas t _ rfl (SqT.of ht) rfl _ _ rfl _ (jEAA _ rfl rfl ?_))
 have a2:∃ps:List (Str×Str),xlk (kAt ks x)=xdv ps/\ps.length<=5/\(∀p∈ps,∃j,m=j+1/\KIn ks j p.2)/\(xfa (kAt ks x)=S "alt"->ps≠[]/\szF (m+1) ks x=1+maxD (ps.map λp=>szF m ks p.2)) ∧
   (xfa (kAt ks x)≠S "alt"->szF (m+1) ks x=1+(ps.map λp=>szF m ks p.2).sum):=by
  cases C:kAt ks x with
  |none=>
   refine(xb5 ([]) rfl (by decide) (λ_ h=>nomatch h) (λh=>absurd h (by walk_at"k")) (λ_=>?_));unfold szF;rw[C];rfl
  | some k=>
   have l:k∈ks:=zMF C
   have y:k.name=x:=by
    have:=List.find?_some C;simpa using this
   refine(xb5 k.parts rfl (u.pts k l) (λp hp=>?_) (λh=>?_) (λh=>?_))
   ·rcases a3 with rfl |⟨j,k',hj,a0,e⟩
    ·exact absurd y (xeo (u.nm k l))
    ·have e2:kAt ks k'.name=some k':=u.at a0
     rw[e,C]at e2;cases e2;refine(jEA (m-1) (by omega) ?_);rcases u.ref j k a0 p hp with z |⟨i,k2,hi,z⟩
     ·exact .inl z
     ·exact .inr (jEEA i k2 (by omega) z)
   ·have o:k.rc=false:=by
     cases hc:k.rc with
     |false=>rfl
     |true=>
      have:k.sort=S "alt":=h;unfold Kn.sort at this;rw[hc,if_pos rfl]at this;exact absurd this (by walk_at"k")
    refine⟨u.alt k l o,?_⟩
    conv=>lhs;unfold szF
    rw[C];show 1+(if k.rc=true then _ else _)=_;rw[if_neg (by rw[o];decide)]
   ·have o:k.rc=true:=by
     cases hc:k.rc with
     |true=>rfl
     |false=>
      refine absurd ?_ h;show k.sort=S "alt";unfold Kn.sort;rw[hc,if_neg (by decide)]
    conv=>lhs;unfold szF
    rw[C];show 1+(if k.rc=true then _ else _)=_;rw[if_pos o]
 obtain⟨ps,a4,h5,U,a1,O⟩:=a2;rw[a4]at rp;obtain⟨e,us,rfl,he,J⟩:=rp;have hl:=J.length;rw[zLM]at hl;refine(xbg _ rfl e rfl ⟨_,SqT.of he⟩ ?_);refine xbx (xs:=us) (λi ys H'=>Same H1 H'/\ys=((ps.take i).map λp=>szF m ks p.2).map V.int) ⟨Same.refl _,rfl⟩ (xba (by omega)) (λi ys H' _ p=>SqT.of (p.1 _ _ he)) ?_ ?_
 ·rintro i z ys H' hz hi Z ⟨I,rfl⟩
  obtain⟨d,hd,rd⟩:=J.get hz;rw[zGM]at hd;obtain⟨p,hp,rfl⟩:=zMS hd;obtain⟨b,ws,rfl,hb,_,_,rfl,rfl,_,_,rfl,rfl,rfl⟩:=rd;obtain⟨j,rfl,hj⟩:=U p (zMG hp);have D':=M j rfl;subst D';refine(xas b _ rfl (SqT.of (I _ _ hb)) rfl _ _ rfl _ (xbn _ rfl rfl (ext2 rfl rfl) (xdw ?_)));refine(xb9 _ rfl _ rfl _ ks p.2 rfl (hk.same (s1.trans I)) u ⟨hj,λH2 s2=>nxtG hi Z ⟨I.trans s2,?_⟩⟩);rw[zTA,hp];simp
 ·rintro ys H' Z ⟨I,rfl⟩ D hD
  rw[zTL (by omega)];have sD:=Same.new hD (.lst ((ps.map λp=>szF m ks p.2).map V.int));have r:=s1.trans (I.trans sD)
  have hb:∀n∈ps.map (λp=>szF m ks p.2),0<=n/\n<=1000000:=λn hn=>by
   obtain⟨p,_,rfl⟩:=zMP hn;have h1:=xft u.pts m p.2
   have h2:(6:Int) ^ m<=6 ^ 6:=by
    rcases(show m=0\/m=1\/m=2\/m=3\/m=4\/m=5\/m=6 by omega) with h |h |h |h |h |h |h <;> subst h <;> decide
   have h3:(6:Int) ^ 6=46656:=by decide
   omega
  refine(xaz _ rfl rfl _ rfl (ite2 (λc=>?_) (λc=>?_)))
  ·obtain⟨Y,ez⟩:=a1 (V.str.inj (of_decide_eq_true c))
   refine(xax _ rfl D _ rfl (SqL.of ups) ⟨(λz=>Y (List.map_eq_nil_iff.mp z)),λmx h1 h2=>(xan _ _ rfl rfl ?_)⟩);have:=q _ r;rw[ez,<- xsn (λz=>Y (List.map_eq_nil_iff.mp z)) (λn hn=>(hb n hn).1) h1 h2]at this;exact this
  ·have ez:=O (λz=>c (zDT (congrArg V.str z)))
   refine(xax _ rfl D _ rfl (SqL.of ups) (jAA hb (by rw[zLM];omega) (xan _ _ rfl rfl ?_)));have:=q _ r;rw[ez]at this;exact this
theorem xnl(T:Tx K a):∀m,m<=6->DefIs P w K a base (m+2) "_law_size" qab (xgp m)
 |0,h=>xln (n:=1) T (λ_ _ _ _=>False) (xby T) (DefIs.none T.j9 λ_ _ _ _ h=>h) (λj e=>by cases e) h
 |m+1,h=>xln (n:=m+2) T (xgp m) (xby T) (xnl T m (by omega)) (λj e=>by cases e;rfl) h
def xj9:Sp:=λvs H Q _=>∃(f l nb:Addr) (srt:Str) (p q:Int) (ws:List V) (ks:List Kn) (n4:List Str),vs=[.ref f,.ref l,.str srt,.ref nb]/\H f=some (.lst [.int p,.int q])/\H l=some (.lst ws)/\RelDs H ws (ks.map Kn.d)/\KWf ks ∧
 H nb=some (.lst (n4.map V.str))/\n4.length=4/\(srt=S "rec"\/srt=S "alt")/\l≠f/\nb≠f ∧
 ∀v ps (H':Hp),Fed f H H'->RelD H' v (xdv ps)->ps.length<=4->ps.map (·.1)=n4.take ps.length->(srt=S "alt"->ps≠[])->(∀p∈ps,KIn ks ks.length p.2)->(ps.map λp=>sz ks p.2).sum<=29->Q v H'
theorem xui{D:Ends}{σ:St}{H:Hp}{c:Bool}{B:Prop}{i:Nat}{v x:V}(a:V->St)(g:σ.set i (some v)=a v)(f:σ=a x)(e:D.nx σ H->B)(h:∀y,(y=v\/(y=x/\c=false))->D.nx (a y) H):if c=true then tAsg (tC v) (xgc i) D σ H else B:=by
 cases c with
 |false=>exact e (by rw[f];exact h x (.inr ⟨rfl,rfl⟩))
 |true=>
  show D.nx (σ.set i (some v)) H;rw[g];exact h v (.inl rfl)
theorem and2{a:TE}{σ:St}{H:Hp}{Q:VK}{c cA:Bool}(f:Q (.bl cA) H->a σ H Q)(h:∀b:Bool,(b=true->cA=true)->Q (.bl b) H):if c=true then a σ H Q else Q (.bl false) H:=by
 cases c with
 |false=>exact h false (λe=>by cases e)
 |true=>exact f (h cA id)
theorem xlq:∀{ns:List Int},(∀n∈ns,0<=n)->maxD ns<=ns.sum/\0<=ns.sum
 |[],_=>⟨Int.le_refl _,Int.le_refl _⟩
 |n::ns,h=>by
  have e:=h n (by simp);have c:=xlq (ns:=ns) λm a=>h m (by simp[a]);rw[List.sum_cons];show max n (maxD ns)<=_/\_;omega
theorem xqj{ks:List Kn}(a:KWf ks){x:Str}{b:Bool}{ps:List (Str×Str)}(h:(ps.map λp=>sz ks p.2).sum<=29):inSz (Kn.mk x b ps) (sz ks)<=29:=by
 have:=xlq (ns:=ps.map λp=>sz ks p.2) λn hn=>by
  obtain⟨p,_,rfl⟩:=zMP hn;have:=xvb a p.2;omega
 unfold inSz;show(if b=true then (ps.map λp=>sz ks p.2).sum else maxD (ps.map λp=>sz ks p.2))<=29;split <;> omega
theorem xnv (T:Tx K mg) (a:DefIs P w K mg base n "_law_take" qad xcp) (c:DefIs P w K mg base n "_law_size" qab (xgp 6)):DefIs P w K mg base (n+1) "_law_parts" qaw xj9:=by
  refine DefIs.of T.kB scl_parts (by walk_at"l") (λf bh A outer s H vs Q E hr h=>?_);obtain⟨J,l,nb,C,p,q,ws,ks,n4,rfl,hf,hl,a4,wf,al,h4,hs,lf,nf,k⟩:=h;have nd:=scl_parts.nd
  refine⟨_,(zpn (psn 4 nd (xb2 pN))
      (zpn (psn 5 nd pI)
      (zpn (xcm PassesOwn.never rfl (xcb rfl T.k9 (zpc (xam xbd (xam xbd (pd a hr (va 0 (zpc pI pN so))) (xao xgh rfl T.k3 PyProof.Rows.boot_int (zpc (xey xa6 (pv 2) pS (nM _)) pN xfh))) (xao xgh rfl T.k3 PyProof.Rows.boot_int (zpc (xt3 (xey xa6 (pd a hr (va 0 (zpc pI pN so))) pI (nM _)) (xt1 (xey xa6 (pv 2) pS (nM _)))) pN xm4))) pN xa3)) (pgn 6 nd)
      (zpn (psn 7 nd (pxl K (xam xgr (xb2 (zpc pS pN so)) (xbt ["_law_row"] [none] rfl (by kernel_rfl) (xcf (K:=K) rfl (pv 1)) (λ_ _ _ _=>(pgc 0)) (λ_ _ _ _=>xb1) (λ_ _ _ _=>(px K (pv 0) pI)))) (pd a hr (va 0 (zpc (xam xbd pI (xar (xag (K:=K) rfl) rfl T.k5 PySem.boot_len (v1 1))) pN xa3)))))
      (zpn (xa4 (pR xdc (pd c hr (va 1 (v1 7))) (pv 5) (nM _)) (zpo (psn 7 nd pS)) pQ)
      (zpn (psn 5 nd (xam xcq (pv 5) (pd c hr (va 1 (v1 7)))))
      (zpo (xbl (xc4 PySem.F.plainAttrs_list PySem.F.slot_list_append PySem.F.type_list_append xbj (pv 4) (zpc (xay (zpc (pxl K (pv 3) (pv 6)) (v1 7) ss)) pN sT))))))))
      (zpo (xai (xao (xbo (K:=K) rfl) rfl T.uB PyProof.Rows.boot_tuple (zpc (xd7 xhd (pv 4) xkj (xdl pI)) pN ss))))))),?_⟩
  refine⟨(by walk_at"s"),λpl a8=>?_⟩;have s0:=Same.new a8 (.lst []);have M:pl≠J:=Ne.symm (neN hf a8);have a2:=wf.few;have ah:=a4.length;rw[zLM]at ah;refine(xaa _ rfl J p q 4 rfl (s0 _ _ hf) (by decide) (by decide) (λr1 H1 bb ba f1=>?_));obtain⟨p1,q1,h1⟩:=f1.2;have F1:Fed J H H1:=⟨s0.but.trans f1.1,f1.2⟩;have au:H1 pl=some (.lst []):=f1.1 _ _ ups M
  have b6:∃cA cB:Bool,decide (V.str C=V.str (S "rec"))=cA/\decide (V.str C=V.str (S "alt"))=cB/\0<=(if cA=true then (1:Int) else 0)/\0<=(if cB=true then (1:Int) else 0)/\(if cA=true then (1:Int) else 0)+(if cB=true then (1:Int) else 0)<=1/\(C=S "alt"->(if cB=true then (1:Int) else 0)=1):=by
    rcases hs with rfl |rfl
    · exact(xa8 true false (by walk_at"k") (by walk_at"k") (by decide) (by decide) (by decide) (λe=>absurd e (by walk_at"k")))
    · exact(xa8 false true (by walk_at"k") (by walk_at"k") (by decide) (by decide) (by decide) (λ_=>rfl))
  obtain⟨cA,cB,eA,eB,b4,bg,bf,b3⟩:=b6;refine(jEAA _ rfl rfl (.inr (xax cB (congrArg (λb=>[V.bl b]) eB) r1 (if cB=true then 1 else 0) rfl rfl ?_)));refine(xaa _ rfl J p1 q1 9 rfl h1 (by decide) (by decide) (λr2 H2 b9 b8 f2=>(jAEA rfl _ rfl (and2 (cA:=decide (V.str C=V.str (S "rec"))) (λz=>(jEAA _ rfl rfl z)) (λb hb=>?_)))));rw[eA]at hb
  have be:0<=(if b=true then (1:Int) else 0)/\(if b=true then (1:Int) else 0)<=(if cA=true then (1:Int) else 0):=by
    cases b with
    |false=>exact⟨Int.le_refl _,b4⟩
    |true=>rw[hb rfl];exact⟨by decide,by decide⟩
  refine .inr (xbv b rfl _ (if b=true then 1 else 0) rfl rfl _ rfl (jAA (by omega) (by omega) ?_))
  all_goals
      have F2:Fed J H H2:=F1.trans f2;have ar:H2 pl=some (.lst []):=f2.1 _ _ au M
      refine xc1 (λi σ H'=>∃us,∃ps:List (Str×Str),∃left o6 o7,σ=[some (.ref J),some (.ref l),some (.str _),some (.ref nb),some (.ref pl),some (.int left),o6,o7]/\Fed J H H'/\H' pl=some (.lst us)/\RelDs H' us (ps.map xk3)/\ps.length=i/\ps.map (·.1)=n4.take i/\(∀p∈ps,KIn ks ks.length p.2)/\(ps.map λp=>sz ks p.2).sum+left=25/\-(i:Int)<=left)
        (xaj ([]) ([]) 25 none none rfl F2 ar rfl rfl (jAAA rfl (λ_ h=>nomatch h) rfl (by decide))) ?_ ?_
      · rintro i σ H3 hi ⟨us,ps,left,o6,o7,rfl,F,a6,I,g,a7,ab,aj,a9⟩
        have bd:i<4:=by omega
        obtain⟨p3,q3,h3⟩:=F.2;have aa:=F.1 l _ hl lf;have bc:=F.1 nb _ al nf;have ag:=a4.tups (xah (jEE p q hf) F) _;refine⟨(by walk_at"s"),λl1 ax=>?_⟩;have U:=Same.new ax (.lst [.str (S "num")]);refine(xbg _ rfl l rfl ⟨_,SqL.of (U _ _ aa)⟩ ?_);refine xjr (j:=0) (xs:=ws) (λi ys H'=>H'=upd H3 l1 (.lst [.str (S "num")])/\ys=((ks.take i).map Kn.name).map V.str) (by rfl) ⟨rfl,rfl⟩ (xba (by omega)) (λi ys H' _ p=>by obtain⟨rfl,_⟩:=p;exact SqL.of (U _ _ aa)) ?_ ?_
        · rintro i' x ys H' hx am ⟨rfl,rfl⟩
          obtain⟨d,hd,rd⟩:=(ag.same U _).get hx;rw[zGM]at hd;obtain⟨k',az,rfl⟩:=zMS hd;obtain⟨b,b7,rfl,hb,_,_,rfl,rfl,_,_,rfl,rfl,v3,_,rfl,r3,rfl⟩:=rd;have b0:i'<ws.length:=(zES hx).1;refine(xaa _ rfl b _ _ _ rfl rfl (SqT.of hb) rfl (nxt b0 am ⟨rfl,?_⟩));rw[zTA,az];simp
        rintro ys H' am ⟨rfl,rfl⟩ D2 b5;rw[zTL (by omega)];have s2:=Same.new b5 (.lst ((ks.map Kn.name).map V.str));refine(xav l1 D2 _ _ rfl rfl (s2 _ _ ups) ups (fits (by rw[zLM,zLM];show 1+_<=_;omega)) (λl3 a0=>?_));have s3:=Same.new a0 (.lst ([.str (S "num")]++(ks.map Kn.name).map V.str));have u:=U.trans (s2.trans s3);have aq:l3≠J:=Ne.symm (neN (s2 _ _ (U _ _ h3)) a0);refine(xbi _ rfl _ rfl l _ rfl (.inl (SqL.of (u _ _ aa))) _ (jEAA _ rfl rfl ?_));refine(xak J p3 q3 _ rfl (u _ _ h3) (by omega) (by omega) (λr H4 r0 ac f4=>?_));rw[ah]at ac;obtain⟨x,hx,Z⟩:=xho r0 ac;have an:H4 l3=some (.lst ([.str (S "num")]++(ks.map Kn.name).map V.str)):=f4.1 _ _ ups aq;refine(xak l3 _ _ _ rfl rfl (SqL.of an) hx ?_);have F4:Fed J H H4:=(F.same u).trans f4;have m:=f4.1 _ _ (u _ _ a6) M;have ai:=(I.same u _).tups (xah (jEE p3 q3 (u _ _ h3)) f4) _;have aw:=F4.1 l _ hl lf;have av:=F4.1 nb _ al nf;have af:=a4.tups (xah (jEE p q hf) F4) _;have O:KsSeq H4 (.ref l) ks:=(xan l ws rfl (.inl aw) af);refine(xb9 _ rfl _ rfl _ ks x rfl O wf ⟨Z.mono a2,λH5 s5=>(xbv _ rfl _ _ rfl rfl _ rfl (xui (x:=.str x) (λy=>[some (.ref J),some (.ref l),some (.str C),some (.ref nb),some (.ref pl),some (.int left),some (.int (0+(i:Int))),some y]) rfl rfl id (λy hy=>?_)))⟩)
        obtain⟨Y,rfl,ae,ay⟩:∃Y,y=.str Y/\KIn ks ks.length Y/\-((i:Int)+1)<=left-sz ks Y:=by
          rcases hy with rfl |⟨rfl,b1⟩
          · exact ⟨S "num", rfl, .inl rfl, by have h1:sz ks (S "num") = 1 := xti wf
                                              omega⟩
          · refine(jEAA _ rfl Z ?_)
            have h0:¬left<sz ks x:=of_decide_eq_false b1;omega
        · refine(xbk _ rfl _ rfl _ rfl _ ks (xb5 Y rfl (O.same s5) wf (ae.mono a2) (λH6 s6=>(xan _ _ rfl rfl ?_))))
          have a3:=s5.trans s6;have ak:=a3 _ _ m;have a1:i<n4.length:=by omega
          refine(xaz _ rfl (.inl (jAE rfl _ (SqL.of ak))) _ rfl (xaa _ rfl nb _ _ _ rfl rfl (SqL.of (a3 _ _ av)) (xla a1) (jEAA _ rfl (by walk_at"s") (λt ht=>?_))));have G:∀o,Same H4 (upd H6 t o):=λo=>a3.trans (Same.new ht o);have a5:=I.length;rw[zLM]at a5;refine(xaq pl us _ rfl rfl (G _ _ _ m) (xba (by omega)) ?_);refine(xaj _ (ps++[(n4[i],Y)]) _ _ _ rfl (Fed.put (F4.same (G _)) a8 M _) ups ?_ (by rw[zLA,List.length_singleton,g]) (jAAA ?_ (λz hz=>?_) ?_ (by push_cast;exact ay)))
          · rw[zAP]
            refine RelDs.append ((ai.same (G _) _).tups (xcs (G _ _ _ m) _) _) ?_;exact(xan _ ([]) rfl (xal t _ rfl (xcs (G _ _ _ m) _ _ _ ups) _ _ rfl rfl _ (jEAA _ rfl rfl rfl)) rfl)
          · rw[zAP,a7,zTA,zGA a1]
            rfl
          · rcases zMA hz with hz |hz
            · exact ab z hz
            · rw[zMO hz];exact ae
          · show((ps++[(n4[i],Y)]).map λp=>sz ks p.2).sum+(left-sz ks Y)=25
            rw[zAP,List.sum_append];simp only[List.map_cons,List.map_nil,List.sum_cons,List.sum_nil];omega
      · rintro σ H3 ⟨us,ps,left,o6,o7,rfl,F,a6,I,g,a7,ab,aj,a9⟩
        have a5:=I.length;rw[zLM]at a5;refine(jEA _ rfl (xax _ rfl pl us rfl (SqL.of a6) (λc2 b2=>?_)))
        have ao:cutV us none (some 4)=us:=by
          unfold cutV;rw[show HT.sIx us.length 0 none=0 from rfl,List.drop_zero,Nat.sub_zero];refine zTL ?_;unfold HT.sIx;simp;omega
        have U:=Same.new b2 (.lst (cutV us none (some 4)));refine(jEEA c2 _ rfl (.inl ⟨SqL.of ups,λt ht=>?_⟩));have s2:=Same.new ht (.tup (cutV us none (some 4)));refine k _ ps _ (F.same (U.trans s2)) (xan t us rfl (by rw[ao];exact ups) (I.same (U.trans s2) _)) (by omega) (by rw[g];exact a7) ?_ ab (by omega);intro ha e;have h9:=b3 ha;rw[e]at g;simp only[List.length_nil]at g;omega
def xnc:Sp:=λvs H Q _=>∃(f nb:Addr) (p q:Int) (nms:List Str),vs=[.ref f,.ref nb]/\H f=some (.lst [.int p,.int q])/\H nb=some (.lst (nms.map V.str))/\xj3 nms/\nb≠f/\∀v ks (H':Hp),Fed f H H'->RelD H' v (xdf ks)->xuv nms ks->Fit ks->Q v H'
theorem xny(T:Tx K mg)(a:DefIs P w K mg base n "_law_take" qad xcp)(j:DefIs P w K mg base n "_law_parts" qaw xj9):DefIs P w K mg base (n+1) "_law_kinds" qa7 xnc:=by
 refine DefIs.of T.kC scl_kinds (by walk_at"l") (λf ar A outer s H vs Q E hr h=>?_);obtain⟨I,nb,p,q,m,rfl,hf,ah,M,nf,k⟩:=h;have nd:=scl_kinds.nd
 refine⟨_,(zpn (psn 2 nd (xb2 pN))
   (zpn (xcm PassesOwn.never rfl (xcb rfl T.k9 (zpc (pd a hr (va 0 (zpc pI pN so))) pN zsc)) (pgn 3 nd)
   (zpn (psn 4 nd (pxl K (xb2 (zpc pS (zpc pS pN so) so)) (pd a hr (va 0 (zpc pI pN so)))))
   (zpo (xbl (xc4 PySem.F.plainAttrs_list PySem.F.slot_list_append PySem.F.type_list_append xbj (pv 2) (zpc (xay (zpc (pxl K (pv 1) (pv 3)) (va 4 (zpc (pd j hr (va 0 (va 2 (va 4 (zpc (xd7 xhd (pv 1) (xdl pI) (xdl pI)) pN ss))))) pN zsc)) ss)) pN sT))))))
   (zpo (xai (xao (xbo (K:=K) rfl) rfl T.uB PyProof.Rows.boot_tuple (v1 2)))))),?_⟩
 refine⟨(by walk_at"s"),λl hl=>?_⟩;have s0:=Same.new hl (.lst []);have lf:l≠I:=Ne.symm (neN hf hl);have a1:=M.1;refine(xaa _ rfl I p q 5 rfl (s0 _ _ hf) (by decide) (by decide) (λr1 H1 am al f1=>(xbn _ rfl (by omega) (by omega) ?_)));have F1:Fed I H H1:=⟨s0.but.trans f1.1,f1.2⟩;have ag:H1 l=some (.lst []):=f1.1 _ _ ups lf
 refine xc1 (λi σ H'=>∃us,∃ks:List Kn,∃o3 o4,σ=[some (.ref I),some (.ref nb),some (.ref l),o3,o4]/\Fed I H H'/\H' l=some (.lst us)/\RelDs H' us (ks.map Kn.d)/\ks.length=i/\Fit ks/\xuv m ks)
  (xav ([]) ([]) none none rfl F1 ag rfl rfl (jAAA Fit.nil KWf.nil (Nat.zero_le _) ⟨rfl,λ_ h=>nomatch h⟩)) ?_ ?_
 ·rintro i σ H2 hi ⟨us,ks,o3,o4,rfl,F,a4,J,O,G,wf,ao,aj,ai⟩
  have aq:i<4:=by omega
  have ae:=J.length;rw[zLM]at ae;obtain⟨p2,q2,h2⟩:=F.2;refine⟨(by walk_at"s"),λl1 a8=>?_⟩;have Y:=Same.new a8 (.lst [.str (S "rec"),.str (S "alt")]);have ab:l1≠I:=Ne.symm (neN h2 a8);refine(xaa _ rfl I p2 q2 2 rfl (Y _ _ h2) (by decide) (by decide) (λr H3 r0 an f3=>?_))
  have ac:∃g:Str,atI [V.str (S "rec"),V.str (S "alt")] r=some (.str g)/\(g=S "rec"\/g=S "alt"):=by
   rcases(show r=0\/r=1 by omega) with rfl |rfl
   ·exact(jEA (S "rec") rfl (.inl rfl))
   ·exact(jEA (S "alt") rfl (.inr rfl))
  obtain⟨g,ak,x⟩:=ac;refine(xak l1 _ _ _ rfl rfl (SqL.of (f3.1 _ _ ups ab)) ak ?_);have F3:Fed I H H3:=(F.same Y).trans f3;obtain⟨p3,q3,h3⟩:=f3.2;have C:=f3.1 _ _ (Y _ _ a4) lf;have Z:=(J.same Y _).tups (xah (jEE p2 q2 (Y _ _ h2)) f3) _;have a7:=F3.1 nb _ ah nf;have U:i<m.length:=by omega
  refine(xaz _ rfl (.inl (jAE rfl _ (SqL.of C))) _ rfl (xaa _ rfl nb _ _ _ rfl rfl (SqL.of a7) (xla U) (jEA _ rfl ?_)));refine(xaw _ rfl _ rfl _ rfl _ rfl _ rfl (xax _ rfl nb _ rfl (SqL.of a7) (λc hc=>?_)));rw[xus a1];have sc:=Same.new hc (.lst (((m.drop 8).take 4).map V.str));have cf:c≠I:=Ne.symm (neN h3 hc);refine(xau I l c g p3 (xav q3 us ks ((m.drop 8).take 4) rfl (sc _ _ h3) (sc _ _ C) (Z.same sc _) wf (jAAA ups (by rw[List.length_take,List.length_drop,a1];rfl) x (jAA lf cf (λv ps H4 f4 rv h4 a3 a9 a0 a6=>?_)))));have F4:Fed I H H4:=(F3.same sc).trans f4;have u:=f4.1 _ _ (sc _ _ C) lf;have a5:=(Z.same sc _).tups (xah (jEE p3 q3 (sc _ _ h3)) f4) _;refine⟨(by walk_at"s"),λt ht=>?_⟩;have s5:∀o,Same H4 (upd H4 t o):=λo=>Same.new ht o;refine(xaq l us _ rfl rfl (s5 _ _ _ u) (xba (by omega)) ?_);have aa:=xvj M ps.length
  have a2:(Kn.mk m[i] (decide (g=S "rec")) ps).sort=g:=by
   unfold Kn.sort;rcases x with rfl |rfl
   ·rfl
   ·show(if decide (S "alt"=S "rec")=true then _ else _)=_
    rw[if_neg (by walk_at"k")]
  have y:ks.map Kn.name=m.take i:=by rw[aj,O]
  have w2:KWf (ks++[Kn.mk m[i] (decide (g=S "rec")) ps]):=by
   refine wf.snoc ?_ (M.2.2 _ (List.getElem_mem U)) a0 ?_ (by omega) (by show ps.length<=5;omega) (by show(ps.map (·.1)).Nodup;rw[a3];exact aa.1) (λz hz=>aa.2 z.1 (by rw[<- a3];exact List.mem_map_of_mem hz))
   ·show m[i] ∉ks.map Kn.name
    rw[y];exact xn9 M.2.1 U
   ·intro af
    refine a9 ?_;rcases x with e |e
    ·exact absurd af (by show ¬decide (g=S "rec")=false;rw[e];decide +kernel)
    ·exact e
  refine(xav _ (ks++[Kn.mk m[i] (decide (g=S "rec")) ps]) _ _ rfl (Fed.put (F4.same (s5 _)) hl lf _) ups ?_ (by rw[zLA,List.length_singleton,O]) ⟨G.snoc wf w2 a0 (xqj wf a6),?_⟩)
  ·rw[zAP]
   refine RelDs.append ((a5.same (s5 _) _).tups (xcs (s5 _ _ _ u) _) _) ?_;refine(xan _ ([]) rfl (xal t _ rfl (xcs (s5 _ _ _ u) _ _ _ ups) _ _ rfl rfl _ (xbe _ rfl ?_ _ _ rfl ((rv.same (s5 _) _).tups (xcs (s5 _ _ _ u) _) _) rfl)) rfl);show V.str g=V.str _;rw[a2]
  ·refine(jAAA w2 (by rw[zLA,List.length_singleton];omega) ?_ ?_)
   ·rw[zAP,y,zLA,List.length_singleton,O,zTA,zGA U]
    rfl
   ·intro z hz
    rcases zMA hz with hz |hz
    ·exact ai z hz
    ·rw[zMO hz]
     exact⟨h4,a3⟩
 ·rintro σ H2 ⟨us,ks,o3,o4,rfl,F,a4,J,O,G,hK⟩
  refine(jEA _ rfl (jEEA l us rfl (.inl ⟨SqL.of a4,λt ht=>?_⟩)));have Y:=Same.new ht (.tup us);exact k _ ks _ (F.same Y) (xan t us rfl ups (J.same Y _)) hK G
def xna:Sp:=λvs H Q _=>∃(a:Addr) (p q:Int),vs=[.ref a]/\H a=some (.lst [.int p,.int q])/\∀(i:Int) (H':Hp),Nm i->Fed a H H'->Q (.int i) H'
theorem xez(T:Tx K y)(e:DefIs P w K y base n "_law_take" qad xcp):DefIs P w K y base (n+1) "_law_number" qav xna:=by
 refine DefIs.of T.jZ scl_number (λvs H Q E h=>?_) (λf J A outer s H vs Q E l h=>?_)
 ·obtain⟨a,p,q,rfl,_⟩:=h
  rfl
 obtain⟨a,p,q,rfl,I,k⟩:=h;have nd:=scl_number.nd;have O:(2:Int) ^ (32:Int).toNat=4294967296:=by decide
 refine⟨_,(zpn (psn 1 nd (pd e l (va 0 (zpc pI pN so))))
   (zpn (xa4 (pR xfc (pv 1) pI (nM _)) (zpo (xai (pd e l (va 0 (zpc pI pN so))))) pQ)
   (zpn (xa4 (pR xa6 (pv 1) pI (nM _)) (zpo (xai (xam xcq (xam xcq (xam xq7 pI pI) pI) (pd e l (va 0 (zpc pI pN so)))))) pQ)
   (zpo (xai (pd e l (va 0 (zpc (xam xq7 pI pI) pN xa3)))))))),?_⟩
 refine(xaa _ rfl a p q 4 rfl I (by decide) (by decide) (λM U G C m=>?_));obtain⟨r,o,u⟩:=m.2;refine(xbv _ rfl _ _ rfl rfl _ rfl ?_);refine ite2 (λc=>?_) (λc=>?_)
 ·exact(xaa _ rfl a r o 6 rfl u (by decide) (by decide) (λx z g i j=>k _ _ ⟨g,by omega⟩ (m.trans j)))
 refine(xaz _ rfl rfl _ rfl ?_);refine ite2 (λc=>?_) (λc=>?_)
 ·refine(xbh _ _ rfl rfl (jAA (by decide) (by decide) (by decide)) (xan _ _ rfl rfl (xaa _ rfl a r o 6 rfl u (by decide) (by decide) (λx z g i j=>(xan _ _ rfl rfl (k _ _ ⟨by omega,by omega⟩ (m.trans j)))))))
 ·refine(xax _ rfl _ _ rfl rfl (jAE (jAA (by decide) (by decide) (by decide)) a (xaq r o _ rfl u (by omega) (by omega) (λx z g i j=>k _ _ ⟨g,by omega⟩ (m.trans j)))))
theorem xab{t u:TS}{D:Ends}{σ:St}{H:Hp}(h:∀R:St->Hp->Prop,(∀σ H,u D σ H->R σ H)->t {D with nx:=R} σ H):tSeq t u D σ H:=h (u D) λ_ _ h=>h
theorem xdj{k:Kn}(h:k.rc=true):k.sort=S "rec":=by unfold Kn.sort;rw[if_pos h]
theorem xdt{k:Kn}(h:k.rc=false):k.sort=S "alt":=by unfold Kn.sort;rw[if_neg (by rw[h];decide)]
def spSm(F:List Kn->Str->Int)(m:Nat):Sp:=λvs H Q _=>∃v ks x,vs=[v,.str x]/\RelD H v (xdf ks)/\KWf ks/\KIn ks m x/\∀H',Same H H'->Q (.int (F ks x)) H'
theorem xip (T:Tx K mg) (U:Sp) (g:DefIs P w K mg base n "_law_sort_of" qab xel) (c:DefIs P w K mg base n "_law_small" qab U) (a0:∀j,m=j+1->U=spSm smK j) :
  DefIs P w K mg base (n+1) "_law_small" qab (spSm smK m):=by
 refine DefIs.of T.kA scl_small (by walk_at"l") (λf a5 A outer s H vs Q E hr h=>?_);obtain⟨v,ks,x,rfl,hk,C,a2,q⟩:=h;have nd:=scl_small.nd
 refine⟨_,(zpn (xc0 (pd g hr (va 0 (v1 1))) (xa9 (K:=K) rfl rfl (xac (pgn 2 nd) (xac (pgn 3 nd) xa7))))
   (zpn (xa4 (pR xa6 (pv 2) pS (nM _)) (zpo (xai (xam xbd pI (pd c hr (va 0 (zpc (px K (px K (pv 3) pI) pI) pN ss)))))) pQ)
   (zpo (xai (xam xbd pI (xar (xju rfl) rfl T.uA PyProof.Rows.boot_sum (zpc (xbt qbe [none,none,some 0] rfl (by kernel_rfl) (xa1 (K:=K) rfl (pv 3)) (λ_ _ _ _=>(xa9 (K:=K) (n:=2) rfl rfl (xac (pgc 0) (xac (pgc 1) xa7)))) (λ_ _ _ _=>xb1) (λ_ _ _ _=>(pd c hr (va 2 (v1 1))))) pN xbz))))))),?_⟩
 refine(xci _ rfl _ rfl v ks x rfl ((C.ksAt hk).seq) (λt a4 H1 Y ht M=>?_));refine(xas t _ rfl (SqT.of ht) rfl _ _ rfl _ (jEAA _ rfl rfl ?_));rcases a2.look C with⟨rfl,o⟩ |⟨j,k,rfl,o,hn,hm,hp⟩
 ·refine(xaz _ rfl rfl _ rfl (iteKF (zDF (by rw[o];decide +kernel)) ?_))
  rw[o]at M;obtain⟨a,us,rfl,O,l⟩:=M;obtain rfl:us=[]:=l;refine(xbg _ rfl a rfl ⟨_,SqT.of O⟩ ?_);refine xbx (xs:=[]) (λi ys G=>G=H1/\ys=[]) ⟨rfl,rfl⟩ (xba (by decide)) (λi ys G _ p=>by obtain⟨rfl,_⟩:=p;exact SqT.of O) (λi y ys G hy=>by simp at hy) ?_;rintro ys G J ⟨rfl,rfl⟩ D hD;refine(xck D ([]) rfl (SqL.of ups) (λ_ h=>nomatch h) (by decide) (xan _ _ rfl rfl ?_));have e:=(xnk C).1;rw[e]at q;exact q _ (Y.trans (Same.new hD _))
 ·have D':=a0 j rfl
  subst D';rw[o]at M;obtain⟨a,us,rfl,O,l⟩:=M;have hl:=l.length;rw[zLM]at hl;have h5:=C.pts k hm;have Z:xfa (kAt ks x)=k.sort:=by rw[o];rfl
  have e:=(xto C o).1;unfold smS at e
  cases hc:k.rc with
  | false=>
   rw[if_neg (by rw[hc];decide)]at e;refine(xaz _ rfl rfl _ rfl (iteKT (zDT (by rw[Z,xdt hc];rfl)) ?_))
   cases I:k.parts with
   |nil=>exact absurd I (C.alt k hm hc)
   |cons p r=>
    rw[I]at l e;obtain⟨vp,rest,rfl,M,_⟩:=l;obtain⟨b,ws,rfl,hb,_,_,rfl,rfl,_,_,rfl,rfl,rfl⟩:=M;refine(xap _ rfl _ rfl a _ _ (xb5 _ rfl rfl (SqT.of O) (xa2 (j:=0) rfl) (xak b _ _ _ rfl rfl (SqT.of hb) rfl ?_)));refine(xaq v ks p.2 rfl (hk.same Y _) C (hp p (by rw[I];simp)) (λH2 s2=>(xan _ _ rfl rfl ?_)));rw[e]at q;exact q _ (Y.trans s2)
  | true=>
   rw[if_pos hc]at e;refine(xaz _ rfl rfl _ rfl (iteKF (zDF (by rw[Z,xdj hc];decide +kernel)) ?_));refine(xbg _ rfl a rfl ⟨_,SqT.of O⟩ ?_);refine xbx (xs:=us) (λi ys G=>Same H1 G/\ys=((k.parts.take i).map λp=>smK ks p.2).map V.int) ⟨Same.refl _,rfl⟩ (xba (by omega)) (λi ys G _ p=>SqT.of (p.1 _ _ O)) ?_ ?_
   ·rintro i y ys G hy a3 J ⟨u,rfl⟩
    obtain⟨d,hd,rd⟩:=l.get hy;rw[zGM]at hd;obtain⟨pr,a1,rfl⟩:=zMS hd;obtain⟨b,ws,rfl,hb,_,_,rfl,rfl,_,_,rfl,rfl,rfl⟩:=rd;refine(xas b _ rfl (SqT.of (u _ _ hb)) rfl _ _ rfl _ (xbn _ rfl rfl (ext2 rfl rfl) (xdw ?_)));refine(xb9 _ rfl _ rfl v ks pr.2 rfl (hk.same (Y.trans u) _) C ⟨hp pr (zMG a1),λH2 s2=>nxtG a3 J ⟨u.trans s2,?_⟩⟩);rw[zTA,a1,zAP,zAP];rfl
   ·rintro ys G J ⟨u,rfl⟩ D hD
    rw[zTL (by omega)];refine(xck D (k.parts.map λp=>smK ks p.2) rfl (SqL.of ups) (λz hz=>?_) (by rw[zLM];omega) (xan _ _ rfl rfl ?_))
    ·obtain⟨p,_,rfl⟩:=zMP hz
     have:=xlf C p.2;omega
    ·rw[e]at q
     exact q _ (Y.trans (u.trans (Same.new hD _)))
theorem xhb(T:Tx K a):∀m,DefIs P w K a base (m+2) "_law_small" qab (spSm smK m)
 |0=>xip (n:=1) T (λ_ _ _ _=>False) (xby T) (DefIs.none T.kA λ_ _ _ _ h=>h) (λj e=>by cases e)
 |m+1=>xip (n:=m+2) T (spSm smK m) (xby T) (xhb T m) (λj e=>by cases e;rfl)
def xpi:Sp:=λvs H Q _=>∃(f ka:Addr) (p q:Int) (us:List V) (ks:List Kn),vs=[.ref f,.ref ka]/\H f=some (.lst [.int p,.int q])/\(H ka=some (.lst us)\/H ka=some (.tup us))/\RelDs H us (ks.map Kn.d)/\ks.length<=6/\∀x H',KIn ks ks.length x->Fed f H H'->Q (.str x) H'
theorem xis(T:Tx K mg)(c:DefIs P w K mg base n "_law_take" qad xcp):DefIs P w K mg base (n+1) "_law_any_kind" qak xpi:=by
 refine DefIs.of T.kI scl_any_kind (by walk_at"l") (λf a3 A outer s H vs Q E hr h=>?_);obtain⟨f',ka,p1,q1,us,ks,rfl,Y,a,I,a2,q⟩:=h;have nd:=scl_any_kind.nd;refine(jEA _ (zpo (xai (pxl K (xam xgr (xb2 (zpc pS pN so)) (xbt ["_law_row"] [none] rfl (by kernel_rfl) (xty (xcf (K:=K) rfl (pv 1)) (xa1 (K:=K) rfl (pv 1))) (λ_ _ _ _=>(pgc 0)) (λ_ _ _ _=>xb1) (λ_ _ _ _=>(px K (pv 0) pI)))) (pd c hr (va 0 (zpc (xam xbd pI (xar (xag (K:=K) rfl) rfl T.k5 PySem.boot_len (v1 1))) pN xa3)))))) ?_);refine⟨(by walk_at"s"),λl2 a1=>?_⟩;have o:=Same.new a1 (.lst [.str (S "num")]);have J:=I.length;rw[zLM]at J;rcases a with a |a
 ·refine .inl (xbg _ rfl ka rfl ⟨_,SqL.of (o _ _ a)⟩ ?_)
  refine xjr (j:=0) (xs:=us) (λi ys u=>u=upd H l2 (.lst [.str (S "num")])/\ys=((ks.take i).map Kn.name).map V.str) (by rfl) ⟨rfl,rfl⟩ (xba (by omega)) (λi ys u _ p=>by obtain⟨rfl,_⟩:=p;exact SqL.of (o _ _ a)) ?_ ?_
  ·rintro i' x ys u r l ⟨rfl,rfl⟩
   obtain⟨d,hd,rd⟩:=(I.same o _).get r;rw[zGM]at hd;obtain⟨k',M,rfl⟩:=zMS hd;obtain⟨b,a0,rfl,hb,_,_,rfl,rfl,_,_,rfl,rfl,v3,_,rfl,r3,rfl⟩:=rd;have O:i'<us.length:=(zES r).1;refine(xaa _ rfl b _ _ _ rfl rfl (SqT.of hb) rfl (nxt O l ⟨rfl,?_⟩));rw[zTA,M];simp
  rintro ys u l ⟨rfl,rfl⟩ D2 U;rw[zTL (by omega)];have y:=Same.new U (.lst ((ks.map Kn.name).map V.str));refine(xav l2 D2 _ _ rfl rfl (y _ _ ups) ups (fits (by rw[zLM,zLM];show 1+_<=_;omega)) (λZ m=>?_));have s4:=Same.new m (.lst ([.str (S "num")]++(ks.map Kn.name).map V.str));have e:=o.trans (y.trans s4);have G:Z≠f':=Ne.symm (neN ((o.trans y) _ _ Y) m);refine(xbi _ rfl _ rfl ka _ rfl (.inl (SqL.of (e _ _ a))) _ (jEAA _ rfl rfl (xak f' p1 q1 _ rfl (e _ _ Y) (by omega) (by omega) (λr5 H5 C z f5=>?_))));obtain⟨x,r,g⟩:=xho (ks:=ks) C (by rw[<- J];exact z);exact(xak Z _ _ _ rfl rfl (SqL.of (f5.1 _ _ ups G)) r (q x _ g (((Fed.refl Y).same e).trans f5)))
 ·refine .inr (xbg _ rfl ka rfl ⟨_,SqT.of (o _ _ a)⟩ ?_)
  refine xfp (j:=0) (xs:=us) (λi ys u=>u=upd H l2 (.lst [.str (S "num")])/\ys=((ks.take i).map Kn.name).map V.str) (by rfl) ⟨rfl,rfl⟩ (xba (by omega)) (λi ys u _ p=>by obtain⟨rfl,_⟩:=p;exact SqT.of (o _ _ a)) ?_ ?_
  ·rintro i' x ys u r l ⟨rfl,rfl⟩
   obtain⟨d,hd,rd⟩:=(I.same o _).get r;rw[zGM]at hd;obtain⟨k',M,rfl⟩:=zMS hd;obtain⟨b,a0,rfl,hb,_,_,rfl,rfl,_,_,rfl,rfl,v3,_,rfl,r3,rfl⟩:=rd;have O:i'<us.length:=(zES r).1;refine(xaa _ rfl b _ _ _ rfl rfl (SqT.of hb) rfl (nxt O l ⟨rfl,?_⟩));rw[zTA,M];simp
  rintro ys u l ⟨rfl,rfl⟩ D2 U;rw[zTL (by omega)];have y:=Same.new U (.lst ((ks.map Kn.name).map V.str));refine(xav l2 D2 _ _ rfl rfl (y _ _ ups) ups (fits (by rw[zLM,zLM];show 1+_<=_;omega)) (λZ m=>?_));have s4:=Same.new m (.lst ([.str (S "num")]++(ks.map Kn.name).map V.str));have e:=o.trans (y.trans s4);have G:Z≠f':=Ne.symm (neN ((o.trans y) _ _ Y) m);refine(xbi _ rfl _ rfl ka _ rfl (.inr (SqT.of (e _ _ a))) _ (jEAA _ rfl rfl (xak f' p1 q1 _ rfl (e _ _ Y) (by omega) (by omega) (λr5 H5 C z f5=>?_))));obtain⟨x,r,g⟩:=xho (ks:=ks) C (by rw[<- J];exact z);exact(xak Z _ _ _ rfl rfl (SqL.of (f5.1 _ _ ups G)) r (q x _ g (((Fed.refl Y).same e).trans f5)))
theorem RelDs.rev{H:Hp}:∀{vs:List V} {ds:List D},RelDs H vs ds->RelDs H vs.reverse ds.reverse
 |vs,[],h=>by rw[show vs=[] from h];rfl
 |vs,d::ds,⟨v,r,e,c,a⟩=>by
  subst e;rw[List.reverse_cons,List.reverse_cons];exact(RelDs.rev a).append (xan v ([]) rfl c rfl)
theorem xoa{α:Type}{l:List α}(h:l.Nodup):l.reverse.Nodup:=List.pairwise_reverse.mpr (h.imp λh=>Ne.symm h)
def bKV(bs:List (Str×Str)):List (Key×V):=bs.map λb=>(Sum.inr b.1,.str b.2)
theorem xll{H:Hp}:∀{us:List V} {bs:List (Str×Str)},RelDs H us (bs.map xk3)->PairsV H us (bKV bs)
 |us,[],h=>by rw[show us=[] from h];trivial
 |us,b::bs,⟨v,r,e,g,f⟩=>by
  subst e;obtain⟨a,ws,rfl,c,_,_,rfl,rfl,_,_,rfl,rfl,rfl⟩:=g;exact⟨(jEA a rfl c),xll f⟩
theorem xmv{a b c d r:V}{i j:Int}(h:i=j):[a,b,c,d,r,V.int i]=[a,b,c,d,r,V.int j]:=by rw[h]
theorem xf6{ks:List Kn}(a:KWf ks){k:Kn}(h:k∈ks){p:Str×Str}(c:p∈k.parts):KIn ks 6 p.2:=by
 obtain⟨i,hi,e⟩:=zMI h;have:=a.few;exact KIn.mono (n:=i) (a.ref i k (by rw[<- e];exact zGA hi) p c) (by omega)
def spTw(c:Nat):Sp:=λvs H Q _=>∃(f:Addr) (kv bv:V) (ks:List Kn) (bs:List (Str×Str)) (x:Str) (room:Int) (m j:Nat),vs=[.ref f,kv,bv,.str x,.int room,.int (m:Int)]/\c=7*m+j/\j<=6/\TIn H f kv bv ks bs (m+1)/\m<=7/\KIn ks j x/\smK ks x<=room/\∀a d H',Fed f H H'->RelD H' (.ref a) d->TmB ks (c+1) bs d x->Q (.ref a) H'
def xph(c:Nat):Sp:=λvs H Q E=>∃c',c'<c/\spTw c' vs H Q E
def xnh:Sp:=λvs H Q _=>∃(f l:Addr) (p q:Int) (zs:List Str),vs=[.ref f,.ref l]/\H f=some (.lst [.int p,.int q])/\H l=some (.lst (zs.map V.str))/\zs≠[]/\zs.length<=100/\l≠f/\∀z t H',z∈zs->Fed f H H'->RelD H' (.ref t) (tBox z)->Q (.ref t) H'
def xkf(m:Nat):Sp:=λvs H Q _=>∃(f:Addr) (kv bv pvv:V) (ks:List Kn) (bs ps:List (Str×Str)) (x:Str) (room:Int),vs=[.ref f,kv,bv,pvv,.str x,.int room,.int ((m+1:Nat):Int)]/\TIn H f kv bv ks bs (m+2)/\m<7/\RelD H pvv (xdv ps)/\ps≠[]/\ps.length<=5/\(ps.map (·.1)).Nodup/\(∀p∈ps,KIn ks 6 p.2)/\KIn ks 6 x/\smK ks x*(ps.length:Int)<=room ∧
 ∀(u:V) (rs:List (Str×Str×D)) (H':Hp),Fed f H H'->RelD H' u (.tup (rs.map dArm))->rs.length=ps.length->(∀r∈rs,∃p∈ps,p.1=r.1)->(rs.map (·.1)).Nodup->(∀p∈ps,∃z e,(p.1,z,e)∈rs/\(∀q∈bs,q.1≠z)/\ArmN ks z/\TmB ks (7*m+7) (bs++[(z,p.2)]) e x)->Q u H'
theorem xn1(T:Tx K j)(a:DefIs P w K j base n "_law_take" qad xcp):DefIs P w K j base (n+1) "_law_boxed" qax xnh:=by
 refine DefIs.of T.kD xnn (by walk_at"l") (λf O A outer s H vs Q E I h=>?_);obtain⟨M,l,p,y,zs,rfl,J,m,g,o,z,q⟩:=h;refine(jEA _ (zpo (xai (xay (zpc pS (zpc (pxl K (pv 1) (pd a I (va 0 (zpc (xar (xag (K:=K) rfl) rfl T.k5 PySem.boot_len (v1 1)) pN zsc)))) pN ss) so)))) ?_);have C:0<zs.length:=List.length_pos_iff.mpr g;have e:(zs.map V.str).length=zs.length:=zLM _;refine(xat _ rfl _ rfl _ rfl l _ rfl (.inl (SqL.of m)) (xak M p y _ rfl J (by rw[e];omega) (by rw[e];omega) (λr Y U x u=>?_)));rw[e]at x;obtain⟨i,rfl⟩:∃i:Nat,r=(i:Int):=⟨r.toNat,by omega⟩;have c:i<zs.length:=by omega
 refine(xav l _ _ (.str zs[i]) rfl rfl (SqL.of (u.1 _ _ m z)) (xa2 (by rw[zGM,zGA c];rfl)) (by walk_at"s") (λt G=>?_));have st:=Same.new G (.tup [.str (S "box"),.str zs[i]]);exact q zs[i] t _ (List.getElem_mem c) (u.same st) (xal t _ rfl ups _ _ rfl rfl _ (jEAA _ rfl rfl rfl))
theorem xpy(T:Tx K mg){c:Nat}(hc:7*m+6<c)(l:DefIs P w K mg base n "_law_take" qad xcp)(g:DefIs P w K mg base n "_law_term" qaf (xph c)):DefIs P w K mg base (n+1) "_law_arms" qa8 (xkf m):=by
 refine DefIs.of T.kE scl_arms (by walk_at"l") (λf bc A outer s H vs Q E hr h=>?_);obtain⟨f',kv,bv,ba,ks,bs,ps,x,y,rfl,U,m8,ax,b0,h5,ag,ay,ab,a5,q⟩:=h;have nd:=scl_arms.nd;have hu:=xfe hr
 refine⟨_,(zpn (psn 7 nd (xb2 pN))
   (zpn (psn 8 nd (xam xch (pv 5) (xar (xag (K:=K) rfl) rfl T.k5 PySem.boot_len (v1 3))))
   (zpn (xcm PassesOwn.never rfl (xa1 (K:=K) rfl (pv 3)) (xa9 (K:=K) rfl rfl (xac (pgn 9 nd) (xac (pgn 10 nd) xa7)))
   (zpn (psn 11 nd (xam xd8 pS (xmi xlt pS (pv 6) (λ_ _=>rfl))))
   (zpo (xbl (xc4 PySem.F.plainAttrs_list PySem.F.slot_list_append PySem.F.type_list_append xbj (pv 7) (zpc (xay (va 9 (va 11 (zpc (pd g hr (va 0 (va 1 (zpc (xam xgr (pv 2) (xb2 (zpc (xay (va 11 (v1 10))) pN sT))) (va 4 (va 8 (zpc (xam xcq (pv 6) pI) pN xa3))) xa3)))) pN zsc)))) pN sT))))))
   (zpn (xa4 (pR xa6 (pd l hr (va 0 (zpc pI pN so))) pI (nM _)) (zpo (xbl (xq6 PySem.F.plainAttrs_list PySem.F.slot_list_reverse PySem.F.type_list_reverse xml (pv 7)))) pQ)
   (zpo (xai (xao (xbo (K:=K) rfl) rfl T.uB PyProof.Rows.boot_tuple (v1 7)))))))),xab λR1 b7=>?_⟩
 refine⟨(by walk_at"s"),λal Z=>?_⟩;have s0:=Same.new Z (.lst []);obtain⟨p0,q0,hf⟩:=U.fd;have O:al≠f':=Ne.symm (neN hf Z);obtain⟨pa,us,rfl,a9,ae⟩:=ax;have hl:=ae.length;rw[zLM]at hl;have b8:0<ps.length:=List.length_pos_iff.mpr b0;have a8:(0:Int)<(us.length:Int):=by omega
 have b2:(((m+1:Nat):Int))-1=(m:Int):=by omega
 have aa:smK ks x<=y / (us.length:Int):=by
  refine(Int.le_ediv_iff_mul_le a8).mpr ?_;rw[hl];exact a5
 refine b7 _ _ (xab λR2 b6=>?_);refine(xbi _ rfl _ rfl pa _ rfl (.inr (SqT.of (s0 _ _ a9))) _ (xbn _ rfl rfl ⟨by omega,by omega⟩ ?_));refine b6 _ _ (xab λR3 b5=>?_);refine(xbg _ rfl pa rfl ⟨_,SqT.of (s0 _ _ a9)⟩ ?_)
 refine xde (xs:=us) (λi σ H'=>∃(ws:List V) (rs:List (Str×Str×D)) (o8 o9 a3:Option V),σ=[some (.ref f'),some kv,some bv,some (.ref pa),some (.str x),some (.int y),some (.int ((m+1:Nat):Int)),some (.ref al),some (.int (y / (us.length:Int))),o8,o9,a3]/\Fed f' H H'/\H' al=some (.lst ws)/\RelDs H' ws (rs.map dArm)/\rs.map (·.1)=(ps.take i).map (·.1)/\∀p∈ps.take i,∃z e,(p.1,z,e)∈rs/\(∀q∈bs,q.1≠z)/\ArmN ks z/\TmB ks (7*m+7) (bs++[(z,p.2)]) e x)
  (xaj ([]) ([]) none none none rfl ((Fed.refl hf).same s0) ups rfl rfl (λp C=>by rw[List.take_zero]at C;exact nomatch C)) (λi σ H' _ p=>?_) ?_ ?_
 ·obtain⟨_,_,_,_,_,_,G,_⟩:=p
  exact SqT.of (xah U.fd G _ _ a9)
 ·rintro i vv σ H1 ac ⟨ws,rs,o8,o9,a3,rfl,G,J,I,o,M⟩
  have tp:=xah U.fd G;obtain⟨d,hd,rd⟩:=ae.get ac;rw[zGM]at hd;obtain⟨pr,a7,rfl⟩:=zMS hd;obtain⟨b,wz,rfl,hb,_,_,rfl,rfl,_,_,rfl,rfl,rfl⟩:=rd;have az:=zMG a7;have bb:i<us.length:=(zES ac).1;have ar:=I.length
  have a6:rs.length<=5:=by
   have:=congrArg List.length o;rw[zLM,zLM,List.length_take]at this;omega
  rw[zLM]at ar;refine(xas b _ rfl (SqT.of (tp _ _ hb)) rfl _ _ rfl _ (jEAA _ rfl rfl (xab λR4 b4=>?_)));have e2:(Str.ofString "by").length=2:=by walk_at"k"
  refine(jEA _ rfl (xaq _ _ _ rfl rfl (by walk_at"k") (xqq (i:=m+1) (by omega)) (xbh _ _ rfl rfl (fits (by rw[e2];show 2+1<=_;decide)) ?_)));rw[show Str.ofString "by"++(⟨#[97+(m+1)]⟩:Str)=byN (m+1) from xqt (m+1)];have hy:∀b∈bs,b.1≠byN (m+1):=λb hb=>U.fr b hb (m+1) (by omega);have aq:∀j,j<m+1->byN (m+1)≠byN j:=λj hj e=>by have:=xs0 e;omega
  have t3:=U.fed G;obtain⟨bd,ak,e3,ai,a0,b9⟩:=t3.bx;cases e3;obtain⟨p3,q3,h3⟩:=G.2;refine b4 _ _ ?_;refine(xaz _ rfl (.inl (jAE rfl _ (SqL.of J))) _ rfl (xaw _ rfl _ rfl _ rfl _ rfl _ rfl (jEAA _ rfl (by walk_at"s") (λt1 aw=>⟨(by walk_at"s"),λl1 b1=>?_⟩))));have y1:=Same.new aw (.tup [.str (byN (m+1)),.str pr.2]);have y2:=Same.new b1 (.lst [.ref t1]);have af:=a0.length;rw[zLM]at af;have b3:=U.bl;refine(xav _ l1 _ _ rfl rfl ((y1.trans y2) _ _ ai) ups (fits (by show _+1<=_;omega)) (λl2 ah=>?_));have y3:=Same.new ah (.lst (ak++[.ref t1]));have a2:=y1.trans (y2.trans y3);have t4:=t3.same a2;have ao:l2≠f':=Ne.symm (neN ((y1.trans y2) _ _ h3) ah);refine(xat _ rfl _ rfl _ rfl _ _ rfl rfl (xa5 (7*m+6) hc f' kv (.ref l2) ks (xaj (bs++[((byN (m+1)),pr.2)]) x (y / (us.length:Int)) m 6 (xmv b2) rfl (by decide) ⟨t4.fd,t4.kd,t4.wf,t4.nb,(xbh l2 _ rfl ups ?_ ao),?_,?_,?_,?_⟩ (by omega) (jAA ab aa (λu dd H6 f6 ru au=>?_)))))
  ·rw[zAP]
   exact(a0.same a2 _).append (xan _ ([]) rfl (xal t1 _ rfl ((y2.trans y3) _ _ ups) _ _ rfl rfl _ (jEAA _ rfl rfl rfl)) rfl)
  ·rw[zAP]
   exact xks U.nd λhm=>by
    obtain⟨b',a,e'⟩:=zMP hm;exact hy b' a e'
  ·rw[zLA,List.length_singleton]
   omega
  ·intro b' a j hj
   rcases zMA a with a |a
   ·exact U.fr b' a j (by omega)
   ·rw[zMO a]
    exact aq j hj
  ·intro b' a
   rcases zMA a with a |a
   ·exact U.kn b' a
   ·rw[zMO a]
    exact ay pr az
  refine⟨(by walk_at"s"),λt6 av=>?_⟩;have F6:Fed f' H1 H6:=((Fed.refl h3).same a2).trans f6;have st:=Same.new av (.tup [.str pr.1,.str (byN (m+1)),.ref u]);have Y:=st _ _ (F6.1 _ _ J O);have am:=(I.tups (xah G.2 F6) _).same st _;refine(xaq al ws _ rfl rfl Y (xba (by omega)) (xaj _ (rs++[(pr.1,(byN (m+1)),dd)]) _ _ _ rfl (Fed.put ((G.trans F6).same st) Z O _) ups ?_ ?_ (λp C=>?_)))
  ·rw[zAP]
   exact(am.tups (xcs Y _) _).append (xan _ ([]) rfl (xal t6 _ rfl (xcs Y _ _ _ ups) _ _ rfl rfl _ (xbe _ rfl rfl _ _ rfl ((ru.same st _).tups (xcs Y _) _) rfl)) rfl)
  ·rw[zAP,o,zTA,a7,zAP]
   rfl
  ·rw[zTA,a7]at C
   rcases zMA C with C |C
   ·obtain⟨z,e,g1,g2,g3⟩:=M p C
    exact(xan z e (List.mem_append_left _ g1) g2 g3)
   ·have ep:p=pr:=by simpa using C
    rw[ep];exact(xbh (byN (m+1)) dd (List.mem_append_right _ (by simp)) hy (.inl ⟨m+1,rfl⟩) au)
 ·rintro σ H1 ⟨ws,rs,o8,o9,a3,rfl,G,J,I,o,M⟩
  rw[zTL (by omega)]at o M
  have a6:rs.length=ps.length:=by
   have:=congrArg List.length o
   rwa[zLM,zLM]at this
  have a1:∀r∈rs,∃p∈ps,p.1=r.1:=λr hr=>by
   have:r.1∈rs.map (·.1):=List.mem_map_of_mem hr;rw[o]at this;obtain⟨p,C,e⟩:=zMP this;exact(jEA p C e)
  obtain⟨p1,q1,h1⟩:=G.2;refine b5 _ _ (xab λR5 aj=>?_);refine(xaa _ rfl f' p1 q1 _ rfl h1 (by decide) (by decide) (λr H2 r0 r1 f2=>(jAEA rfl _ rfl (ite2 (λc=>?_) (λc=>?_)))))
  ·have a4:=f2.1 _ _ J O
   have an:=I.tups (xah G.2 f2) _;refine(xbe _ rfl (.inl (jAE rfl _ (SqL.of a4))) al ws rfl rfl ⟨a4,?_⟩);refine aj _ _ ?_;refine(jEA _ rfl (jEEA al _ rfl (.inl ⟨SqL.of ups,λt ht=>?_⟩)));have st:=Same.new ht (.tup ws.reverse);refine q _ rs.reverse _ ((Fed.put (G.trans f2) Z O _).same st) (xan t _ rfl ups ?_) (by rw[List.length_reverse];exact a6) (λr hr=>a1 r (List.mem_reverse.mp hr)) ?_ λp C=>?_
   ·rw[List.map_reverse]
    exact(RelDs.rev (an.tups (xcs a4 _) _)).same st _
   ·rw[List.map_reverse]
    exact xoa (by rw[o];exact ag)
   ·obtain⟨z,e,h1,h2,h3⟩:=M p C
    exact(xan z e (List.mem_reverse.mpr h1) h2 h3)
  ·refine aj _ _ ?_
   refine(jEA _ rfl (jEEA al _ rfl (.inl ⟨SqL.of (f2.1 _ _ J O),λt ht=>?_⟩)));have st:=Same.new ht (.tup ws);exact q _ rs _ ((G.trans f2).same st) (xan t _ rfl ups ((I.tups (xah G.2 f2) _).same st _)) a6 a1 (by rw[o];exact ag) M
def PtAt(H:Hp)(ks:List Kn)(k:Kn)(room:Int)(w:V):Prop:=∃(b:Addr) (p:Str×Str),w=.ref b/\H b=some (.tup [.str p.1,.str p.2])/\p∈k.parts/\smK ks p.2<room
theorem PtAt.tups{H c:Hp}{ks:List Kn}{k:Kn}{a:Int}{w:V}(h:PtAt H ks k a w)(s:∀b us,H b=some (.tup us)->c b=some (.tup us)):PtAt c ks k a w:=by
 obtain⟨b,p,e,f,r⟩:=h;exact(xan b p e (s _ _ f) r)
theorem xrw{r:Int}(h0:0<=r)(h:r<5):∃c,atI (S "+-*<=").cps.toList r=some c/\Sg ⟨#[c]⟩:=by
 obtain⟨i,rfl⟩:∃i:Nat,r=(i:Int):=⟨r.toNat,by omega⟩;have hi:i=0\/i=1\/i=2\/i=3\/i=4:=by omega
 rcases hi with rfl |rfl |rfl |rfl |rfl
 ·exact(jEA 43 (xa2 (by walk_at"k")) (.inl (by walk_at"k")))
 ·exact(jEA 45 (xa2 (by walk_at"k")) (.inr (.inl (by walk_at"k"))))
 ·exact(jEA 42 (xa2 (by walk_at"k")) (.inr (.inr (.inl (by walk_at"k")))))
 ·exact(jEA 60 (xa2 (by walk_at"k")) (.inr (.inr (.inr (.inl (by walk_at"k"))))))
 ·exact(jEA 61 (xa2 (by walk_at"k")) (.inr (.inr (.inr (.inr (by walk_at"k"))))))
theorem xj2{α β:Type}{R:α->β->Prop}:∀{as:List α} {bs:List β} {a:α} {b:β},All2 R as bs->R a b->All2 R (as++[a]) (bs++[b])
 |_,_,_,_,.nil,h=>.cons h .nil
 |_,_,_,_,.cons h t,k=>.cons h (xj2 t k)
theorem xrf{ks:List Kn}:∀(n:Nat) (env:En) (d v:D),Evs ks n env d v->Evs ks (n+1) env d v
 |0,_,_,_,h=>.inl h
 |n+1,env,d,v,h=>by
  rcases h with h |⟨h,g⟩
  ·exact .inl h
  ·exact .inr ⟨h.mono (xrf n),g⟩
theorem xun{ks:List Kn}{n m:Nat}(l:n<=m){env:En}{d v:D}(h:Evs ks n env d v):Evs ks m env d v:=by
 obtain⟨k,rfl⟩:∃k,m=n+k:=⟨m-n,by omega⟩;clear l
 induction k with
 |zero=>exact h
 |succ k a=>exact xrf _ _ _ _ a
theorem TmB.le{ks:List Kn}{n m:Nat}{bs:List (Str×Str)}{d:D}{x:Str}(h:TmB ks n bs d x)(l:n<=m):TmB ks m bs d x:=⟨λenv a=>by
 obtain⟨v,e,c⟩:=h.1 env a;exact(jEA v (xun l e) c),λenv a=>xvn l (h.2 env a)⟩
theorem xgk (T:Tx K mg) {c:Nat} (G:DefIs P w K mg base n "_law_sort_of" qab xel) (o:DefIs P w K mg base n "_law_take" qad xcp) (I:DefIs P w K mg base n "_law_number" qav xna) (l:DefIs P w K mg base n "_law_small" qab (spSm smK 6)) (g:DefIs P w K mg base n "_law_term" qaf (xph c)) :
  DefIs P w K mg base (n+1) "_law_whole_term" qaf (spTw c):=by
 refine DefIs.of T.kF scl_whole_term (by walk_at"l") (λf bu A outer s H vs Q E hr h=>?_);obtain⟨Y,kv,bv,ks,bs,x,C,m,j,rfl,bt,bd,ti,m8,am,bb,q⟩:=h;have nd:=scl_whole_term.nd;have wf:=ti.wf;have an:KIn ks 6 x:=am.mono bd
 refine⟨_,(zpn (xc0 (pd G hr (va 1 (v1 3))) (xa9 (K:=K) rfl rfl (xac (pgn 6 nd) (xac (pgn 7 nd) xa7))))
   (zpn (xa4 (pR xa6 (pv 6) pS (nM _)) (zpn (xa4 (PW.pt (xgj (pR xfc (pv 4) pI (nM _)) (xgj (pR xa6 (pv 5) pI (nM _)) (xgq (pR xa6 (pd o hr (va 0 (zpc pI pN so))) pI (nM _)))))) (zpo (xai (xay (zpc pS (zpc (pd I hr (v1 0)) pN zsc) so)))) pQ)
   (zpn (psn 8 nd (pd g hr (va 0 (va 1 (va 2 (zpc pS (zpc (xam xch (xam xcq (pv 4) pI) pI) (zpc (xam xcq (pv 5) pI) pN xa3) xa3) so))))))
   (zpn (psn 9 nd (pd g hr (va 0 (va 1 (va 2 (zpc pS (zpc (xam xch (xam xcq (pv 4) pI) pI) (zpc (xam xcq (pv 5) pI) pN xa3) xa3) so))))))
   (zpo (xai (xay (zpc pS (zpc (xmi xlt pS (pd o hr (va 0 (zpc pI pN so))) (λ_ _=>rfl)) (va 8 (v1 9)) ss) so))))))) pQ)
   (zpn (xa4 (pR xa6 (pv 6) pS (nM _)) (zpn (xc6 (i:=10) ["_law_part","_law_room","_law_kinds_here"] [none,some 4,some 1] rfl (by kernel_rfl) nd rfl (by walk_at"o") (xa1 (K:=K) rfl (pv 7)) (λ_ _ _ _=>(pgc 0)) (λ_ _ _ _=>(xdk (pR xfc (pd l hr (va 2 (zpc (px K (pv 0) pI) pN ss))) (pv 1) (nM _)))) (λ_ _ _ _=>(pv 0)))
   (zpn (xc0 (pxl K (pv 10) (pd o hr (va 0 (zpc (xar (xag (K:=K) rfl) rfl T.k5 PySem.boot_len (v1 10)) pN zsc)))) (xa9 (K:=K) rfl rfl (xac (pgn 11 nd) (xac (pgn 12 nd) xa7))))
   (zpo (xai (xay (zpc pS (va 3 (va 11 (zpc (pd g hr (va 0 (va 1 (va 2 (va 12 (zpc (xam xcq (pv 4) pI) (v1 5) xa3)))))) pN zsc))) so)))))) pQ)
   (zpn (psn 13 nd (xam xcq (pv 4) (pd l hr (va 1 (v1 3)))))
   (zpn (psn 14 nd (xb2 pN))
   (zpn (xcm PassesOwn.never rfl (xa1 (K:=K) rfl (pv 7)) (xa9 (K:=K) rfl rfl (xac (pgn 15 nd) (xac (pgn 12 nd) xa7)))
   (zpo (xbl (xc4 PySem.F.plainAttrs_list PySem.F.slot_list_append PySem.F.type_list_append xbj (pv 14) (zpc (pd g hr (va 0 (va 1 (va 2 (va 12 (zpc (xam xbd (pd l hr (va 1 (v1 12))) (xam xch (pv 13) (xar (xag (K:=K) rfl) rfl T.k5 PySem.boot_len (v1 7)))) (v1 5) xa3)))))) pN zsc)))))
   (zpo (xai (xay (zpc pS (va 3 (zpc (xao (xbo (K:=K) rfl) rfl T.uB PyProof.Rows.boot_tuple (v1 14)) pN zsc)) so)))))))))),xab λR1 bl=>?_⟩
 refine(xci _ rfl _ rfl kv ks x rfl ((wf.ksAt ti.kd).seq) (λt bm H1 s1 ht rp=>?_));refine(xas t _ rfl (SqT.of ht) rfl _ _ rfl _ (jEAA _ rfl rfl ?_));refine bl _ _ (xab λR2 az=>?_);have t1:=ti.same s1;obtain⟨p1,q1,h1⟩:=t1.fd;obtain⟨p0,q0,hf⟩:=ti.fd;have F1:Fed Y H H1:=(Fed.refl hf).same s1;rcases am.look wf with⟨rfl,Z⟩ |⟨j',k,bc,Z,hn,a6,av⟩
 ·refine(xaz _ rfl rfl _ rfl (iteKT (zDT (by rw[Z];rfl)) ?_))
  have RN:∀(H2:Hp) (f2:Fed Y H1 H2),∀(i:Int) (H3:Hp),Nm i->Fed Y H2 H3->∀t,H3 t=none->Q (.ref t) (upd H3 t (.tup [.str (S "num"),.int i])):=λH2 f2 i H3 hi f3 t ht=>by
   have st:=Same.new ht (.tup [.str (S "num"),.int i]);exact q _ (tNum i) _ (((F1.trans f2).trans f3).same st) (xal t _ rfl ups _ _ rfl rfl _ (jEAA _ rfl rfl rfl)) (xta hi)
  refine(xbv _ rfl _ _ rfl rfl _ rfl (ite2 (λc1=>?_) (λc1=>?_)))
  ·exact iteT (jEA _ rfl (xcd Y p1 q1 rfl h1 (λi H3 hi f3=>⟨(by walk_at"s"),λt ht=>RN H1 (Fed.refl h1) i H3 hi f3 t ht⟩)))
  refine(xaz _ rfl rfl _ rfl (ite2 (λc2=>?_) (λc2=>?_)))
  ·exact iteT (jEA _ rfl (xcd Y p1 q1 rfl h1 (λi H3 hi f3=>⟨(by walk_at"s"),λt ht=>RN H1 (Fed.refl h1) i H3 hi f3 t ht⟩)))
  have bx:¬C<3:=λz=>c1 (zDT z);have bw:¬(m:Int)=0:=λz=>c2 (zDT (congrArg V.int z));obtain⟨m',rfl⟩:∃m',m=m'+1:=⟨m-1,by omega⟩;have aw:(((m'+1:Nat):Int))-1=(m':Int):=by omega
  refine(xaa _ rfl Y p1 q1 _ rfl h1 (by decide) (by decide) (λr H2 r0 r1 f2=>(jAEA rfl _ rfl (ite2 (λc3=>?_) (λc3=>?_)))))
  ·obtain⟨p2,q2,h2⟩:=f2.2
   exact(jEA _ rfl (xcd Y p2 q2 rfl h2 (λi H3 hi f3=>⟨(by walk_at"s"),λt ht=>RN H2 f2 i H3 hi f3 t ht⟩)))
  have t2:=t1.fed f2;have ba:=(xnk wf).1;have ar:smK ks (S "num")<=(C-1) / 2:=by rw[ba];omega
  refine(jEA _ rfl (xat _ rfl _ rfl _ rfl _ _ rfl rfl (xbh _ _ rfl rfl ⟨by decide,by decide⟩ (xax _ rfl _ _ rfl rfl ?_))));refine(xa5 (7*m') (by omega) Y kv bv ks (xaj bs (S "num") ((C-1) / 2) m' 0 (xmv aw) rfl (by decide) (t2.down (by omega)) (by omega) (jAA (.inl rfl) ar (λu1 d1 H3 f3 b4 b8=>?_))));have t3:=t2.fed f3;refine(jEA _ rfl (xat _ rfl _ rfl _ rfl _ _ rfl rfl (xbh _ _ rfl rfl ⟨by decide,by decide⟩ (xax _ rfl _ _ rfl rfl ?_))));refine(xa5 (7*m') (by omega) Y kv bv ks (xaj bs (S "num") ((C-1) / 2) m' 0 (xmv aw) rfl (by decide) (t3.down (by omega)) (by omega) (jAA (.inl rfl) ar (λu2 d2 H4 f4 b3 af=>?_))));have t4:=t3.fed f4;obtain⟨p4,q4,h4⟩:=t4.fd;refine(xaa _ rfl Y p4 q4 _ rfl h4 (by decide) (by decide) (λr' H5 b6 b5 f5=>?_));obtain⟨ch,be,b9⟩:=xrw b6 b5;refine(xaq _ _ ch rfl rfl (by walk_at"k") be (xbg _ rfl _ rfl (by walk_at"s") (λt' ag=>?_)));have st:=Same.new ag (.tup [.str (S "op"),.str ⟨#[ch]⟩,.ref u1,.ref u2]);exact q _ (tOpD ⟨#[ch]⟩ d1 d2) _ (((((F1.trans f2).trans f3).trans f4).trans f5).same st) (xal t' _ rfl ups _ _ rfl rfl _ (xbe _ rfl rfl _ _ rfl (((b4.tups (xah t3.fd f4) _).tups (xah t4.fd f5) _).same st _) (xan _ _ rfl ((b3.tups (xah t4.fd f5) _).same st _) rfl))) (TmB.le (xu1 wf b9 b8 af) (by omega))
 ·subst bc
  rw[Z]at rp;obtain⟨a,us,rfl,ha,ac⟩:=rp;have hl:=ac.length;rw[zLM]at hl;have h5:=wf.pts k a6;have a5:xfa (kAt ks x)=k.sort:=by rw[Z];rfl
  have es:=(xto wf Z).1;unfold smS at es
  cases hc:k.rc with
  | false=>
   rw[if_neg (by rw[hc];decide)]at es;refine(xaz _ rfl rfl _ rfl (iteKF (zDF (by rw[a5,xdt hc];decide +kernel)) ?_));refine az _ _ (xab λR3 ay=>?_);refine(xaz _ rfl rfl _ rfl (iteKT (zDT (by rw[a5,xdt hc];rfl)) ?_));refine(xbg _ rfl a rfl ⟨_,SqT.of ha⟩ ?_);refine xbx (xs:=us) (λi ys H'=>Same H1 H'/\(∀z∈ys,PtAt H' ks k C z)/\(1<=i->ys≠[])) (jAA (Same.refl _) (λ_ h=>nomatch h) (λh=>absurd h (by decide))) (xba (by omega)) (λi ys H' _ p=>SqT.of (p.1 _ _ ha)) ?_ ?_
   ·rintro i y ys H' hy ax ai ⟨M,a3,ah⟩
    obtain⟨d',a1,a8⟩:=ac.get hy;rw[zGM]at a1;obtain⟨pr,J,rfl⟩:=zMS a1;obtain⟨b,b0,rfl,hb,_,_,rfl,rfl,_,_,rfl,rfl,rfl⟩:=a8;have O:=zMG J
    have first:i=0->smK ks pr.2<C:=λe0=>by
     subst e0
     cases au:k.parts with
     |nil=>rw[au]at J;simp at J
     |cons p r=>
      rw[au]at J es;simp at J;subst J;have es':smK ks x=1+smK ks p.2:=es;omega
    refine⟨xge rfl,?_⟩;refine(xap _ rfl _ rfl b _ _ (xb5 _ rfl rfl (SqT.of (M _ _ hb)) rfl (xaq kv ks pr.2 rfl (t1.kd.same M _) wf (xf6 wf a6 O) (λH3 s3=>(xbv _ rfl _ _ rfl rfl _ rfl (ite2 (λc1=>?_) (λc1=>?_)))))))
    ·refine(jEA _ rfl (nxtG ax ai (jAA (M.trans s3) (λz hz=>?_) (λ_=>by simp))))
     rcases zMA hz with hz |hz
     ·exact(a3 z hz).tups λb us q=>s3 _ _ q
     ·rw[zMO hz]
      exact(xbh b pr rfl (s3 _ _ (M _ _ hb)) O (of_decide_eq_true c1))
    ·refine nxtN ax ai (jAA (M.trans s3) (λz hz=>(a3 z hz).tups λb us q=>s3 _ _ q) (λ_=>?_))
     by_cases e0:i=0
     ·exact absurd (zDT (first e0)) c1
     ·exact ah (by omega)
   ·rintro ys H2 ai ⟨M,a3,ah⟩ D hD
    have bq:k.parts.length≠0:=λe=>wf.alt k a6 hc (List.length_eq_zero_iff.mp e);have al:=ah (by omega);have bn:0<ys.length:=Nat.pos_of_ne_zero λe=>al (List.length_eq_zero_iff.mp e);have sD:=Same.new hD (.lst ys);have a0:=M.trans sD;have Df:D≠Y:=Ne.symm (neN (M _ _ h1) hD);refine(xat _ rfl _ rfl _ rfl D _ rfl (.inl (SqL.of ups)) (xak Y p1 q1 _ rfl (a0 _ _ h1) (by omega) (by omega) (λr H5 r0 r1 f5=>?_)));obtain⟨i,rfl⟩:∃i:Nat,r=(i:Int):=⟨r.toNat,by omega⟩;have aj:i<ys.length:=by omega
    have t2:=t1.same a0;have b1:=xah t2.fd f5;obtain⟨b,p,eb,hb,O,bp⟩:=((a3 ys[i] (List.getElem_mem aj)).tups λb us q=>sD _ _ q).tups b1;have bf:atI ys (i:Int)=some (.ref b):=xa2 (by rw[zGA aj,eb]);refine(xbm D _ _ _ rfl rfl (SqL.of (f5.1 _ _ ups Df)) bf b (xbn _ rfl (SqT.of hb) rfl (jEEA _ _ rfl (xan _ _ rfl rfl ?_))));have t5:=t2.fed f5;refine(xaw _ rfl _ rfl _ rfl _ rfl _ rfl (xbi _ rfl _ rfl _ _ rfl rfl _ ⟨rfl,?_⟩));refine(xa5 (7*m+j') (by omega) Y kv bv ks (xaj bs p.2 (C-1) m j' rfl rfl (by omega) t5 m8 (jAA (av p O) (by omega) (λu du H7 f7 ru ae=>⟨(by walk_at"s"),λt' ag=>?_⟩))));have st:=Same.new ag (.tup [.str (S "tag"),.str x,.str p.1,.ref u]);exact q _ (tTag x p.1 du) _ ((((F1.same a0).trans f5).trans f7).same st) (xal t' _ rfl ups _ _ rfl rfl _ (xbe _ rfl rfl _ _ rfl rfl (xan _ _ rfl (ru.same st _) rfl))) (TmB.le (xs8 wf Z hc O ae) (by omega))
  | true=>
   rw[if_pos hc]at es;refine(xaz _ rfl rfl _ rfl (iteKF (zDF (by rw[a5,xdj hc];decide +kernel)) ?_));refine az _ _ (xab λR3 ay=>?_);refine(xaz _ rfl rfl _ rfl (iteKF (zDF (by rw[a5,xdj hc];decide +kernel)) ?_));refine ay _ _ (xab λR4 bj=>?_);refine(xbk _ rfl _ rfl _ rfl kv ks (xb5 x rfl t1.kd wf an (λH2 s2=>(xan _ _ rfl rfl ?_))));refine bj _ _ (xab λR5 bi=>?_);refine⟨(by walk_at"s"),λtl aq=>?_⟩;refine bi _ _ (xab λR6 bh=>?_);have a0:=s2.trans (Same.new aq (.lst []));have a7:=xaf s2 aq;have ak:tl≠Y:=Ne.symm (neN h1 a7);refine(xbg _ rfl a rfl ⟨_,SqT.of (a0 _ _ ha)⟩ ?_);refine xde (xs:=us) (λi σ H'=>∃(ws:List V) (ds:List D) (aa a9:Option V),σ=[some (.ref Y),some kv,some bv,some (.str x),some (.int C),some (.int (m:Int)),some (.str (xfa (kAt ks x))),some (.ref a),none,none,none,none,aa,some (.int (C-smK ks x)),some (.ref tl),a9]/\Fed Y H1 H'/\H' tl=some (.lst ws)/\RelDs H' ws ds/\All2 (λe (p:Str×Str)=>TmB ks (7*m+j'+1) bs e p.2) ds (k.parts.take i)) (xak ([]) ([]) none none rfl ((Fed.refl h1).same a0) ups rfl (by rw[List.take_zero];exact .nil)) (λi σ H' _ p=>?_) ?_ ?_
   ·obtain⟨_,_,_,_,_,fm,_⟩:=p
    exact SqT.of (xah t1.fd fm _ _ ha)
   ·rintro i vv σ H3 ao ⟨ws,ds,aa,a9,rfl,fm,a4,a2,U⟩
    have tp:=xah t1.fd fm;obtain⟨d',a1,a8⟩:=ac.get ao;rw[zGM]at a1;obtain⟨pr,J,rfl⟩:=zMS a1;obtain⟨b,b0,rfl,hb,_,_,rfl,rfl,_,_,rfl,rfl,rfl⟩:=a8;have O:=zMG J;have t3:=t1.fed fm;have bo:=a2.length;have bg:=U.length;rw[List.length_take]at bg;have aj:i<us.length:=(zES ao).1;refine(xas b _ rfl (SqT.of (tp _ _ hb)) rfl _ _ rfl _ (jEAA _ rfl rfl ?_));refine(xaz _ rfl (.inl (jAE rfl _ (SqL.of a4))) _ rfl (xaw _ rfl _ rfl _ rfl _ rfl _ rfl (xaq kv ks pr.2 rfl t3.kd wf (xf6 wf a6 O) (λH4 s4=>?_))));have br:0<=(C-smK ks x) / (us.length:Int):=Int.ediv_nonneg (by omega) (by omega);refine(xbi _ rfl _ rfl a _ rfl (.inr (SqT.of (s4 _ _ (tp _ _ ha)))) _ (xbn _ rfl rfl ⟨by omega,by omega⟩ (xan _ _ rfl rfl (jEA _ rfl ?_))));have t4:=t3.same s4;refine(xa5 (7*m+j') (by omega) Y kv bv ks (xaj bs pr.2 (smK ks pr.2+(C-smK ks x) / (us.length:Int)) m j' rfl rfl (by omega) t4 m8 (jAA (av pr O) (by omega) (λu du H5 f5 ru ae=>?_))));have ab:=f5.1 _ _ (s4 _ _ a4) ak;have b2:=(a2.same s4 _).tups (xah t4.fd f5) _;refine(xaq tl ws _ rfl rfl ab (xba (by omega)) (xak _ (ds++[du]) _ _ rfl (Fed.put ((fm.same s4).trans f5) a7 ak _) ups ((b2.tups (xcs ab _) _).append (xan (.ref u) ([]) rfl (ru.tups (xcs ab _) _) rfl)) ?_));rw[zTA,J];exact xj2 U ae
   ·rintro σ H3 ⟨ws,ds,aa,a9,rfl,fm,a4,a2,U⟩
    rw[zTL (by omega)]at U;refine bh _ _ ?_;refine(jEA _ rfl (jEA _ rfl (jEEA tl ws rfl (.inl ⟨SqL.of a4,λt2 af=>⟨(by walk_at"s"),λt3 b7=>?_⟩⟩))));have y2:=Same.new af (.tup ws);have y3:=Same.new b7 (.tup [.str (S "rec"),.str x,.ref t2]);exact q _ (tRec x ds) _ ((F1.trans fm).same (y2.trans y3)) (xal t3 _ rfl ups _ _ rfl rfl _ (xbe _ rfl rfl _ _ rfl (xan t2 ws rfl (y3 _ _ ups) (a2.same (y2.trans y3) _)) rfl)) (TmB.le (xs9 Z hc (by omega) U) (by omega))
structure Hold(R:Prop):Prop where
 go:R
theorem xrd{R A:Prop}(h:Hold R->A)(r:R):A:=h ⟨r⟩
theorem DefIs.anyP{P:Program}{w:World}{K:Fg}{e:Str->Option Value}{base:Heap}{n:Nat}{x:Str}{st:Stmt}{ps:List Str}{Pr:Nat->Prop}{sps:Nat->Sp}(T:DefTx K e x st ps)(D:∀m,Pr m->DefIs P w K e base n x ps (sps m)):DefIs P w K e base n x ps (λvs H Q E=>∃m,Pr m/\sps m vs H Q E):=by
 by_cases p:∃m,Pr m
 ·obtain⟨u,h0⟩:=p
  obtain⟨f,I,F,b,k,o,l⟩:=(D u h0).ex;refine⟨f,(xb5 I ⟨?_,?_⟩ b k o l)⟩
  ·rintro vs H Q E ⟨m,g,h⟩
   obtain⟨J,i,j,_⟩:=(D m g).ex;exact j.1 vs H Q E h
  ·rintro A outer s H args us vs Q E G C z y ⟨m,g,h⟩
   obtain⟨J,i,j,U,O,a,c⟩:=(D m g).ex;rw[o]at a;cases a;obtain⟨M,od,r,l⟩:=l;obtain⟨_,_,_,c⟩:=c;rw[l]at c;cases c;exact j.2 A outer s H args us vs Q E G C z y h
 ·exact DefIs.none T λvs H Q E h=>p ⟨h.choose,h.choose_spec.1⟩
def xrv(c:Nat):Sp:=λvs H Q E=>∃m,7*m+6<c/\xkf m vs H Q E
theorem xmx{z:Str}:∀{bs:List (Str×Str)},(∀b∈bs,b.1≠z)->∀acc,valV (xcu acc (bKV bs)) (Sum.inr z)=valV acc (Sum.inr z)
 |[],_,acc=>rfl
 |b::bs,h,acc=>by
  have:=xmx (bs:=bs) (λc a=>h c (by simp[a])) (putK acc (Sum.inr b.1) (.str b.2));show valV (xcu (putK acc (Sum.inr b.1) (.str b.2)) (bKV bs)) (Sum.inr z)=_;rw[this,xg5,if_neg];intro e;exact h b (by simp) (Sum.inr.inj e).symm
theorem xqw{z k:Str}:∀{bs:List (Str×Str)},(bs.map (·.1)).Nodup->(z,k)∈bs->∀acc,valV (xcu acc (bKV bs)) (Sum.inr z)=some (.str k)
 | b::bs,nd,h,acc=>by
  rw[List.map_cons,List.nodup_cons]at nd;show valV (xcu (putK acc (Sum.inr b.1) (.str b.2)) (bKV bs)) (Sum.inr z)=_;rcases zMC h with h |h
  ·subst h
   rw[xmx (bs:=bs) (λc a e=>nd.1 (List.mem_map.mpr (jEA c a e))),xg5,if_pos rfl]
  ·exact xqw nd.2 h _
theorem xog{ks:List Kn}(g:KWf ks){y:Str}(h:KIn ks 6 y){H:Hp}{v:V}(c:RelD H v (xlk (kAt ks y))):∃ps,RelD H v (xdv ps)/\ps.length<=5/\(xfa (kAt ks y)=S "rec"->∃k,kAt ks y=some k/\k.rc=true/\k.parts=ps)/\(xfa (kAt ks y)=S "alt"->∃k,kAt ks y=some k/\k.rc=false/\k.parts=ps):=by
 rcases h.look g with⟨rfl,e⟩ |⟨j,k,m,e,hn,i,l⟩
 ·rw[e]at c⊢
  exact(xbn ([]) c (by decide) (λz=>absurd z (by walk_at"k")) (λz=>absurd z (by walk_at"k")))
 ·rw[e]at c⊢
  refine(xbn k.parts c (by have:=g.pts k i;omega) (λz=>(jEAA k rfl ?_ rfl)) (λz=>(jEAA k rfl ?_ rfl)))
  ·cases f:k.rc with
   |true=>rfl
   |false=>
    have a:k.sort=S "rec":=z;rw[xdt f]at a;exact absurd a (by walk_at"k")
  ·cases f:k.rc with
   |false=>rfl
   |true=>
    have a:k.sort=S "alt":=z;rw[xdj f]at a;exact absurd a (by walk_at"k")
def HdAt(H:Hp)(ks:List Kn)(bs:List (Str×Str))(x:Str)(w:V):Prop:=∃(b:Addr) (z g y:Str) (k:Kn),w=.ref b/\H b=some (.tup [.str z,.str g])/\(z,y)∈bs/\kAt ks y=some k/\k.rc=true/\(g,x)∈k.parts
theorem HdAt.tups{H a:Hp}{ks:List Kn}{bs:List (Str×Str)}{x:Str}{w:V}(h:HdAt H ks bs x w)(s:∀b us,H b=some (.tup us)->a b=some (.tup us)):HdAt a ks bs x w:=by
 obtain⟨b,z,g,y,k,e,c,r⟩:=h;exact(xau b z g y k (jAA e (s _ _ c) r))
def TgOk(ks:List Kn)(bs:List (Str×Str))(z:Str):Prop:=∃(y:Str) (k:Kn),(z,y)∈bs/\kAt ks y=some k/\k.rc=false
theorem xps (T:Tx K mg) {c:Nat} (C:DefIs P w K mg base n "_law_take" qad xcp) (a3:DefIs P w K mg base n "_law_boxed" qax xnh) (a2:DefIs P w K mg base n "_law_small" qab (spSm smK 6)) (e:DefIs P w K mg base n "_law_sort_of" qab xel) (o:DefIs P w K mg base n "_law_term" qaf (xph c)) (a6:DefIs P w K mg base n "_law_arms" qa8 (xrv c)) (M:DefIs P w K mg base n "_law_whole_term" qaf (spTw c)) :
  DefIs P w K mg base (n+1) "_law_term" qaf (spTw c):=by
 refine DefIs.of T.kG scl_term (by walk_at"l") (λf d9 A outer s H vs Q E hr h=>?_);obtain⟨f',kv,bv,ks,bs,x,l,m,j,rfl,ac,a0,ti,m8,Z,J,q⟩:=h;have nd:=scl_term.nd;have hu:=xfe hr;have wf:=ti.wf;have ax:KIn ks 6 x:=Z.mono a0;have d7:=xlf wf x
 refine⟨_,(zpn (xc6 (i:=6) ["_law_x","_law_told","_law_kind"] [none,none,some 3] rfl (by kernel_rfl) nd rfl (by walk_at"o") (xcf (K:=K) rfl (pv 2)) (λ_ _ _ _=>(xa9 (K:=K) (n:=2) rfl rfl (xac (pgc 0) (xac (pgc 1) xa7)))) (λ_ _ _ _=>(xdk (pR xa6 (pv 1) (pv 2) (nM _)))) (λ_ _ _ _=>(pv 0)))
   (zpn (psn 7 nd (pd C hr (va 0 (zpc pI pN so))))
   (zpn (xa4 (PW.pt (xcj (pR xdc (xar (xag (K:=K) rfl) rfl T.k5 PySem.boot_len (v1 6)) pI (nM _)) (xb0 (pR xfc (pv 7) pI (nM _))))) (zpo (xai (pd a3 hr (va 0 (v1 6))))) pQ)
   (zpn (psn 8 nd (pd a2 hr (va 1 (v1 3))))
   (zpn (xa4 (PW.pt (xcj (pR xa6 (pv 7) pI (nM _)) (xcj (pR xdc (pv 5) pI (nM _)) (xb0 (pR xdc (pv 4) (xam xbd (xam xda pI (pv 8)) pI) (nM _)))))) (zpn (psn 9 nd (xam xch (xam xcq (xam xcq (pv 4) pI) (xam xda pI (pv 8))) pI))
   (zpn (psn 10 nd (pd o hr (va 0 (va 1 (va 2 (zpc pS (zpc (xam xbd pI (pv 9)) (zpc (xam xcq (pv 5) pI) pN xa3) xa3) so))))))
   (zpn (psn 11 nd (pd o hr (va 0 (va 1 (va 2 (va 3 (zpc (xam xbd (pv 8) (pv 9)) (zpc (xam xcq (pv 5) pI) pN xa3) xa3)))))))
   (zpo (xai (xay (zpc pS (va 10 (va 11 (zpc (pd o hr (va 0 (va 1 (va 2 (va 3 (zpc (xam xbd (pv 8) (pv 9)) (zpc (xam xcq (pv 5) pI) pN xa3) xa3)))))) pN zsc))) so))))))) pQ)
   (zpn (xa4 (PW.pt (xcj (pR xa6 (pv 7) pI (nM _)) (xb0 (pR xdc (pv 4) pI (nM _))))) (zpn (psn 12 nd (xb2 pN))
   (zpn (xcm PassesOwn.never rfl (xcf (K:=K) rfl (pv 2)) (xa9 (K:=K) rfl rfl (xac (pgn 13 nd) (xac (pgn 14 nd) xa7)))
   (zpn (xc0 (pd e hr (va 1 (v1 14))) (xa9 (K:=K) rfl rfl (xac (pgn 15 nd) (xac (pgn 16 nd) xa7))))
   (zpo (psn 12 nd (xam xgr (pv 12) (xbt ["_law_f","_law_part","_law_x","_law_sort","_law_kind"] [none,none,some 13,some 15,some 3] rfl (by kernel_rfl) (xa1 (K:=K) rfl (pv 16)) (λ_ _ _ _=>(xa9 (K:=K) (n:=2) rfl rfl (xac (pgc 0) (xac (pgc 1) xa7)))) (λ_ _ _ _=>(xdk (PW.pt (xcj (pR xa6 (pv 3) pS (nM _)) (xb0 (pR xa6 (pv 1) (pv 4) (nM _))))))) (λ_ _ _ _=>(xay (va 2 (v1 0))))))))))
   (zpo (xa4 (pR xdc (xar (xag (K:=K) rfl) rfl T.k5 PySem.boot_len (v1 12)) pI (nM _)) (zpn (xc0 (pxl K (pv 12) (pd C hr (va 0 (zpc (xar (xag (K:=K) rfl) rfl T.k5 PySem.boot_len (v1 12)) pN zsc)))) (xa9 (K:=K) rfl rfl (xac (pgn 13 nd) (xac (pgn 17 nd) xa7))))
   (zpo (xai (xay (zpc pS (zpc (xay (zpc pS (v1 13) so)) (v1 17) sT) so))))) pQ)))) pQ)
   (zpn (xa4 (PW.pt (xcj (pR xa6 (pv 7) pI (nM _)) (xb0 (pR xdc (pv 5) pI (nM _))))) (zpn (xc6 (i:=18) ["_law_x","_law_told","_law_kinds_here"] [none,none,some 1] rfl (by kernel_rfl) nd rfl (by walk_at"o") (xcf (K:=K) rfl (pv 2)) (λ_ _ _ _=>(xa9 (K:=K) (n:=2) rfl rfl (xac (pgc 0) (xac (pgc 1) xa7)))) (λ_ _ _ _=>(xdk (pR xa6 (px K (pd e hr (va 2 (v1 1))) pI) pS (nM _)))) (λ_ _ _ _=>(pv 0)))
   (zpo (xa4 (pR xdc (xar (xag (K:=K) rfl) rfl T.k5 PySem.boot_len (v1 18)) pI (nM _)) (zpn (psn 13 nd (pxl K (pv 18) (pd C hr (va 0 (zpc (xar (xag (K:=K) rfl) rfl T.k5 PySem.boot_len (v1 18)) pN zsc)))))
   (zpn (psn 16 nd (px K (pd e hr (va 1 (zpc (xbf hu (xao (xcw rfl) rfl T.k0 PyProof.Rows.boot_dict (v1 2)) (pv 13) (λ_ _=>rfl)) pN ss))) pI))
   (zpo (xa4 (pR xt4 (xam xcq (pv 4) pI) (xam xda (pv 8) (xar (xag (K:=K) rfl) rfl T.k5 PySem.boot_len (v1 16))) (nM _)) (zpo (xai (xay (zpc pS (zpc (xay (zpc pS (v1 13) so)) (zpc (pd a6 hr (va 0 (va 1 (va 2 (va 16 (va 3 (zpc (xam xcq (pv 4) pI) (v1 5) xa3))))))) pN zsc) sT) so)))) pQ)))) pQ))) pQ)
   (zpo (xai (pd M hr (va 0 (va 1 (va 2 (va 3 (va 4 (v1 5)))))))))))))))),?_⟩
 refine xab λR1 cv=>?_;obtain⟨p0,q0,hf⟩:=ti.fd;have cl:=ti.bx;obtain⟨bl,ub,rfl,br,bg,db⟩:=cl;have cd:=bg.length;rw[zLM]at cd;have cm:=ti.bl;refine(xbg _ rfl bl rfl ⟨_,SqL.of br⟩ ?_);refine xdg (xs:=ub) (λi ys I=>I=H/\∃zs:List Str,ys=zs.map V.str/\(∀z∈zs,(z,x)∈bs)/\zs.length<=i) (xf8 rfl ([]) rfl (λ_ h=>nomatch h) (Nat.le_refl _)) (xba (by omega)) (λi ys I _ p=>by obtain⟨rfl,_⟩:=p;exact SqL.of br) ?_ ?_
 ·rintro i y ys I hy a5 O ⟨rfl,zs,rfl,aa,bc⟩
  obtain⟨d',U,a9⟩:=bg.get hy;rw[zGM]at U;obtain⟨pr,am,rfl⟩:=zMS U;obtain⟨b,b7,rfl,hb,_,_,rfl,rfl,_,_,rfl,rfl,rfl⟩:=a9;refine(xas b _ rfl (SqT.of hb) rfl _ _ rfl _ (xbn _ rfl rfl (ext2 rfl rfl) ?_));refine(xca _ rfl _ rfl rfl _ rfl ?_);by_cases ab:pr.2=x
  ·refine iteKT (zDT (by rw[ab])) (jEA _ rfl (nxtG a5 O (xf8 rfl (zs++[pr.1]) (by rw[zAP];rfl) (λz hz=>?_) (by rw[zLA,List.length_singleton];omega))))
   rcases zMA hz with hz |hz
   ·exact aa z hz
   ·rw[zMO hz,<- ab]
    exact zMG am
  ·exact iteKF (zDF λz=>ab (V.str.inj z)) (nxtN a5 O (xf8 rfl zs rfl aa (by omega)))
 rintro ys H2 O ⟨rfl,zs,rfl,aa,bc⟩ D hD;have sD:=Same.new hD (.lst (zs.map V.str));have t1:=ti.same sD;have F1:=(Fed.refl hf).same sD;have Df:D≠f':=Ne.symm (neN hf hD);refine cv _ _ (xab λR2 cu=>?_);refine(xaa _ rfl f' p0 q0 _ rfl (sD _ _ hf) (by decide) (by decide) (λfm H1 m0 m1 f1=>?_));have t2:=t1.fed f1;have F2:=F1.trans f1;obtain⟨p2,q2,h2⟩:=t2.fd;have bz:=f1.1 _ _ ups Df;have zl:(zs.map V.str).length=zs.length:=zLM _;refine cu _ _ (xab λR3 ct=>?_);apply xrd
 ·intro ah
  refine(xbu _ rfl D _ rfl (.inl (SqL.of bz)) _ _ rfl rfl (jEA _ rfl (ite2 (λc1=>?_) (λc1=>?_))))
  ·refine(xbv _ rfl _ _ rfl rfl _ rfl (ite2 (λc2=>?_) (λc2=>?_)))
   ·have ca:=of_decide_eq_true c1
    rw[zl]at ca;exact(xap _ rfl _ rfl f' D p2 (xa8 q2 zs rfl h2 bz (List.length_pos_iff.mp (by omega)) (by omega) ⟨Df,λz t I hz fz rz=>q t (tBox z) I (F2.trans fz) rz (xm1 (aa z hz))⟩))
   ·exact ah.go
  ·exact iteF ah.go
 refine ct _ _ (xab λR4 cr=>?_);refine(xb9 _ rfl _ rfl kv ks x rfl t2.kd wf ⟨ax,λH3 s3=>?_⟩);have t3:=t2.same s3;have F3:=F2.same s3;obtain⟨p3,q3,h3⟩:=t3.fd;have bp:=t3.bx;obtain⟨dd,b0,cx,ae,ak,d0⟩:=bp;cases cx;have be:=ak.length;rw[zLM]at be;refine cr _ _ (xab λR5 bu=>?_);by_cases e3:fm=3
 ·refine(xaz _ rfl rfl _ rfl (iteKT (zDT (by rw[e3])) ?_))
  apply xrd
  ·intro ah
   refine(xbv _ rfl _ _ rfl rfl _ rfl (ite2 (λc2=>?_) (λc2=>iteF ah.go)));refine(jEA _ rfl (xax _ rfl _ _ rfl rfl (jAE (.inr ⟨by omega,by omega⟩) _ (xbe _ rfl rfl _ _ rfl rfl (jEA _ rfl (ite2 (λc3=>?_) (λc3=>ah.go)))))));have cy:(0:Int)<(m:Int):=of_decide_eq_true c2;have da:2*smK ks x+1<l:=of_decide_eq_true c3;obtain⟨m',rfl⟩:∃m',m=m'+1:=⟨m-1,by omega⟩;have b6:(((m'+1:Nat):Int))-1=(m':Int):=by omega
   refine(xb4 _ rfl _ _ rfl rfl _ rfl _ (xbn _ rfl rfl (.inr ⟨by omega,by omega⟩) (xan _ _ rfl rfl (xbh _ _ rfl rfl ⟨by decide,by decide⟩ ?_))));have d8:0<=(l-2-2*smK ks x) / 3:=Int.ediv_nonneg (by omega) (by decide);refine(jEA _ rfl (xat _ rfl _ rfl _ rfl _ _ rfl rfl (xax _ rfl _ _ rfl rfl ?_)));refine(xa5 (7*m') (by omega) f' kv (.ref bl) ks (xaj bs (S "num") (1+(l-2-2*smK ks x) / 3) m' 0 (xmv b6) rfl (by decide) (t3.down (by omega)) (by omega) (jAA (.inl rfl) (by rw[(xnk wf).1];omega) (λu1 d1 H5 f5 c8 al=>?_))));have t5:=t3.fed f5;refine(xaw _ rfl _ rfl _ rfl _ rfl _ rfl (xb4 _ rfl _ _ rfl rfl _ rfl _ (jEAA _ rfl rfl ?_)));refine(xa5 (7*m'+j) (by omega) f' kv (.ref bl) ks (xaj bs x (smK ks x+(l-2-2*smK ks x) / 3) m' j (xmv b6) rfl a0 (t5.down (by omega)) (by omega) (jAA Z (by omega) (λu2 d2 H6 f6 c7 a7=>?_))));have t6:=t5.fed f6;refine(xaw _ rfl _ rfl _ rfl _ rfl _ rfl (xat _ rfl _ rfl _ rfl _ _ rfl rfl (xax _ rfl _ _ rfl rfl ?_)));refine(xa5 (7*m'+j) (by omega) f' kv (.ref bl) ks (xaj bs x (smK ks x+(l-2-2*smK ks x) / 3) m' j (xmv b6) rfl a0 (t6.down (by omega)) (by omega) (jAA Z (by omega) (λu3 d3 H7 f7 c6 cf=>⟨(by walk_at"s"),λt ht=>?_⟩))));have st:=Same.new ht (.tup [.str (S "if"),.ref u1,.ref u2,.ref u3])
   exact q _ (tIfD d1 d2 d3) _ ((((F3.trans f5).trans f6).trans f7).same st) (xal t _ rfl ups _ _ rfl rfl _ (xbe _ rfl (((c8.tups (xah t5.fd f6) _).tups (xah t6.fd f7) _).same st _) _ _ rfl ((c7.tups (xah t6.fd f7) _).same st _) (xan _ _ rfl (c6.same st _) rfl))) (TmB.le (xu2 wf (TmB.le al (by omega)) a7 cf) (by omega))
  refine bu _ _ (xab λR6 aq=>?_);refine(xaz _ rfl rfl _ rfl (iteKF (zDF λz=>absurd (V.int.inj z) (by omega)) (iteF ?_)));refine aq _ _ (xab λR7 a1=>?_);refine(xaz _ rfl rfl _ rfl (iteKF (zDF λz=>absurd (V.int.inj z) (by omega)) (iteF ?_)));refine a1 _ _ ?_;exact(xaw _ rfl _ rfl _ rfl _ rfl _ rfl (xa5 _ rfl f' kv (.ref bl) ks (xaj bs x l m j rfl ac a0 t3 m8 (jAA Z J (λa d I fd ra Y=>q a d I (F3.trans fd) ra Y)))))
 refine(xaz _ rfl rfl _ rfl (iteKF (zDF λz=>e3 (V.int.inj z)) (iteF ?_)));refine bu _ _ (xab λR6 aq=>?_);by_cases e4:fm=4
 ·refine(xaz _ rfl rfl _ rfl (iteKT (zDT (by rw[e4])) ?_))
  refine(xbv _ rfl _ _ rfl rfl _ rfl (ite2 (λc2=>?_) (λc2=>?_)))
  ·refine⟨(by walk_at"s"),λhd bm=>?_⟩
   have s4:=Same.new bm (.lst []);refine(xbg _ rfl bl rfl ⟨_,SqL.of (s4 _ _ ae)⟩ ?_)
   refine xhs (xs:=b0) (λi σ I=>∃(Y:Addr) (ws:List V) (b5 b4 b3 b1:Option V),σ=[some (.ref f'),some kv,some (.ref bl),some (.str x),some (.int l),some (.int (m:Int)),some (.ref D),some (.int fm),some (.int (smK ks x)),none,none,none,some (.ref Y),b5,b4,b3,b1,none,none]/\Same H3 I/\I Y=some (.lst ws)/\Y≠f'/\(∀w∈ws,HdAt I ks bs x w)/\ws.length<=5*i)
    (xau hd ([]) none none none (xbc none rfl s4 ups (Ne.symm (neN h3 bm)) (λ_ h=>nomatch h) (Nat.zero_le _))) (λi σ I _ p=>?_) ?_ ?_
   ·obtain⟨_,_,_,_,_,_,_,sm,_⟩:=p
    exact SqL.of (sm _ _ ae)
   ·rintro i vv σ H4 bd ⟨Y,ws,b5,b4,b3,b1,rfl,sm,aj,bt,ao,cc⟩
    obtain⟨d',U,a9⟩:=ak.get bd;rw[zGM]at U;obtain⟨pr,am,rfl⟩:=zMS U;obtain⟨b,b7,rfl,hb,_,_,rfl,rfl,_,_,rfl,rfl,rfl⟩:=a9;have an:=zMG am;have ag:i<b0.length:=(zES bd).1;refine(xas b _ rfl (SqT.of (sm _ _ hb)) rfl _ _ rfl _ (jEAA _ rfl rfl ?_));refine(xci _ rfl _ rfl kv ks pr.2 rfl ((wf.ksAt (t3.kd.same sm _)).seq) (λt ba H5 s5 ht rp=>?_));refine(xas t _ rfl (SqT.of ht) rfl _ _ rfl _ (jEAA _ rfl rfl ?_));obtain⟨ps,b9,h5,ay,az⟩:=xog wf (t3.kn pr an) rp;obtain⟨a,us,rfl,av,au⟩:=b9;have hl:=au.length;rw[zLM]at hl;refine(jEA _ rfl (xbg _ rfl a rfl ⟨_,SqT.of av⟩ ?_));refine xbx (xs:=us) (λi ys I=>Same H5 I/\(∀w∈ys,HdAt I ks bs x w)/\ys.length<=i) (jAA (Same.refl _) (λ_ h=>nomatch h) (Nat.le_refl _)) (xba (by omega)) (λi ys I _ p=>SqT.of (p.1 _ _ av)) ?_ ?_
    ·rintro i2 y ys I hy a5 O ⟨af,ai,cb⟩
     obtain⟨d',U,a9⟩:=au.get hy;rw[zGM]at U;obtain⟨pt,ch,rfl⟩:=zMS U;obtain⟨b2,d4,rfl,cp,_,_,rfl,rfl,_,_,rfl,rfl,rfl⟩:=a9;refine(xas b2 _ rfl (SqT.of (af _ _ cp)) rfl _ _ rfl _ (xbn _ rfl rfl (ext2 rfl rfl) ?_));refine(xaz _ rfl rfl _ rfl ?_);by_cases hs:xfa (kAt ks pr.2)=S "rec"
     ·refine iteKT (zDT (congrArg V.str hs)) ?_
      refine(xca _ rfl _ rfl rfl _ rfl ?_);by_cases ab:pt.2=x
      ·refine iteKT (zDT (by rw[ab])) (xbg _ rfl _ rfl (by walk_at"s") (λt2 a7=>nxtG a5 O (jAA (af.trans (Same.new a7 _)) (λz hz=>?_) (by rw[zLA,List.length_singleton];omega))))
       rcases zMA hz with hz |hz
       ·exact(ai z hz).tups λb us q=>Same.new a7 _ _ _ q
       ·obtain⟨k,hk,a8,cj⟩:=ay hs
        rw[zMO hz];exact(xaj t2 pr.1 pt.1 pr.2 k rfl ups an hk a8 (by rw[cj,<- ab];exact zMG ch))
      ·exact iteKF (zDF λz=>ab (V.str.inj z)) (nxtN a5 O (jAA af ai (by omega)))
     ·exact iteKF (zDF λz=>hs (V.str.inj z)) (iteF (nxtN a5 O (jAA af ai (by omega))))
    ·rintro ys H6 O ⟨af,ai,cb⟩ D2 bw
     have b8:=Same.new bw (.lst ys);have ar:=s5.trans (af.trans b8);refine(xav Y D2 _ _ rfl rfl (ar _ _ aj) ups (fits (by omega)) (λl3 bj=>?_));have sl:=Same.new bj (.lst (ws++ys));refine(xau l3 (ws++ys) _ _ _ (xbc _ rfl (sm.trans (ar.trans sl)) ups (Ne.symm (neN ((sm.trans ar) _ _ h3) bj)) (λz hz=>?_) (by rw[zLA];omega)));rcases zMA hz with hz |hz
     ·exact(ao z hz).tups λb us q=>(ar.trans sl) _ _ q
     ·exact(ai z hz).tups λb us q=>(b8.trans sl) _ _ q
   ·rintro σ H4 ⟨Y,ws,b5,b4,b3,b1,rfl,sm,aj,bt,ao,cc⟩
    have t4:=t3.same sm;have F4:=F3.same sm;refine(xbu _ rfl Y _ rfl (.inl (SqL.of aj)) _ _ rfl rfl (jEA _ rfl (ite2 (λc3=>?_) (λc3=>?_))))
    ·have d5:=of_decide_eq_true c3
     refine(xat _ rfl _ rfl _ rfl Y _ rfl (.inl (SqL.of aj)) (xak f' p3 q3 _ rfl (sm _ _ h3) (by omega) (by omega) (λr H6 r0 r1 f6=>?_)));obtain⟨i,rfl⟩:∃i:Nat,r=(i:Int):=⟨r.toNat,by omega⟩;have ag:i<ws.length:=by omega
     obtain⟨b,z,g,y,k,eb,hb,hz,hk,a8,hg⟩:=(ao ws[i] (List.getElem_mem ag)).tups (xah t4.fd f6);have cq:atI ws (i:Int)=some (.ref b):=xa2 (by rw[zGA ag,eb]);refine(xbm Y _ _ _ rfl rfl (SqL.of (f6.1 _ _ aj bt)) cq b (xbn _ rfl (SqT.of hb) rfl (jEEA _ _ rfl (xan _ _ rfl rfl ?_))));refine(jEAA _ rfl (by walk_at"s") (λt1 al=>(jEAA _ rfl (by walk_at"s") (λt2 a7=>?_))));have y1:=Same.new al (.tup [.str (S "box"),.str z]);have y2:=Same.new a7 (.tup [.str (S "get"),.ref t1,.str g]);exact q _ (tGet (tBox z) g) _ ((F4.trans f6).same (y1.trans y2)) (xal t2 _ rfl ups _ _ rfl rfl _ (xbe _ rfl (xal t1 _ rfl (y2 _ _ ups) _ _ rfl rfl _ (jEAA _ rfl rfl rfl)) _ _ rfl rfl rfl)) (xtb (p:=(g,x)) wf hk a8 hg (xm1 hz))
    ·refine aq _ _ (xab λR7 a1=>?_)
     refine(xaz _ rfl rfl _ rfl (iteKF (zDF λz=>absurd (V.int.inj z) (by omega)) (iteF ?_)));refine a1 _ _ ?_;exact(xaw _ rfl _ rfl _ rfl _ rfl _ rfl (xa5 _ rfl f' kv (.ref bl) ks (xaj bs x l m j rfl ac a0 t4 m8 (jAA Z J (λa d I fd ra Y=>q a d I (F4.trans fd) ra Y)))))
  ·refine aq _ _ (xab λR7 a1=>?_)
   refine(xaz _ rfl rfl _ rfl (iteKF (zDF λz=>absurd (V.int.inj z) (by omega)) (iteF ?_)));refine a1 _ _ ?_;exact(xaw _ rfl _ rfl _ rfl _ rfl _ rfl (xa5 _ rfl f' kv (.ref bl) ks (xaj bs x l m j rfl ac a0 t3 m8 (jAA Z J (λa d I fd ra Y=>q a d I (F3.trans fd) ra Y)))))
 refine(xaz _ rfl rfl _ rfl (iteKF (zDF λz=>e4 (V.int.inj z)) (iteF ?_)));refine aq _ _ (xab λR7 a1=>?_);by_cases e5:fm=5
 ·refine(xaz _ rfl rfl _ rfl (iteKT (zDT (by rw[e5])) ?_))
  refine(xbv _ rfl _ _ rfl rfl _ rfl (ite2 (λc2=>?_) (λc2=>?_)))
  ·have cy:(0:Int)<(m:Int):=of_decide_eq_true c2
   refine(xbg _ rfl bl rfl ⟨_,SqL.of ae⟩ ?_);refine xdg (xs:=b0) (λi ys I=>Same H3 I/\∃zs:List Str,ys=zs.map V.str/\(∀z∈zs,TgOk ks bs z)/\zs.length<=i) (xf8 (Same.refl _) ([]) rfl (λ_ h=>nomatch h) (Nat.le_refl _)) (xba (by omega)) (λi ys I _ p=>SqL.of (p.1 _ _ ae)) ?_ ?_
   ·rintro i y ys I hy a5 O ⟨sm,zs,rfl,aa,bc⟩
    obtain⟨d',U,a9⟩:=ak.get hy;rw[zGM]at U;obtain⟨pr,am,rfl⟩:=zMS U;obtain⟨b,b7,rfl,hb,_,_,rfl,rfl,_,_,rfl,rfl,rfl⟩:=a9;have an:=zMG am;refine(xas b _ rfl (SqT.of (sm _ _ hb)) rfl _ _ rfl _ (xbn _ rfl rfl (ext2 rfl rfl) ?_));refine(xci _ rfl _ rfl kv ks pr.2 rfl ((wf.ksAt (t3.kd.same sm _)).seq) (λt ba H5 s5 ht rp=>(xav t _ _ _ rfl rfl (SqT.of ht) rfl rfl (jEA _ rfl ?_))));obtain⟨ps,b9,h5,ay,az⟩:=xog wf (t3.kn pr an) rp;by_cases hs:xfa (kAt ks pr.2)=S "alt"
    ·refine iteKT (zDT (congrArg V.str hs)) (jEA _ rfl (nxtG a5 O (xf8 (sm.trans s5) (zs++[pr.1]) (by rw[zAP];rfl) (λz hz=>?_) (by rw[zLA,List.length_singleton];omega))))
     rcases zMA hz with hz |hz
     ·exact aa z hz
     ·obtain⟨k,hk,a8,_⟩:=az hs
      rw[zMO hz];exact(xan pr.2 k an hk a8)
    ·exact iteKF (zDF λz=>hs (V.str.inj z)) (nxtN a5 O (xf8 (sm.trans s5) zs rfl aa (by omega)))
   rintro ys H4 O ⟨sm,a4,rfl,ce,d6⟩ G hG;have sG:=Same.new hG (.lst (a4.map V.str));have s4:=sm.trans sG;have t4:=t3.same s4;have F4:=F3.same s4;have Gf:G≠f':=Ne.symm (neN (sm _ _ h3) hG);have gl:(a4.map V.str).length=a4.length:=zLM _;refine(xbu _ rfl G _ rfl (.inl (SqL.of ups)) _ _ rfl rfl (jEA _ rfl (ite2 (λc3=>?_) (λc3=>?_))))
   ·have ck:=of_decide_eq_true c3
    rw[gl]at ck;refine(xat _ rfl _ rfl _ rfl G _ rfl (.inl (SqL.of ups)) (xak f' p3 q3 _ rfl (s4 _ _ h3) (by rw[gl];omega) (by rw[gl];omega) (λr H6 r0 r1 f6=>?_)));rw[gl]at r1;obtain⟨i,rfl⟩:∃i:Nat,r=(i:Int):=⟨r.toNat,by omega⟩;have ag:i<a4.length:=by omega
    obtain⟨y,k,bb,hk,a8⟩:=ce a4[i] (List.getElem_mem ag);have aw:=zMF hk;have t6:=t4.fed f6;have F6:=F4.trans f6;have bo:=t6.bx;obtain⟨dc,c5,cw,bq,bf,cz⟩:=bo;cases cw;refine(xak G _ _ (.str a4[i]) rfl rfl (SqL.of (f6.1 _ _ ups Gf)) (xa2 (by rw[zGM,zGA ag];rfl)) ?_);refine(xb9 _ rfl _ rfl bl c5 (bKV bs) rfl bq (xll bf) (λp hp=>?_));have sp:=Same.new hp (.dK (xcu [] (bKV bs)));have bn:=DGet.rd (H:=upd H6 p (.dK (xcu [] (bKV bs)))) (a:=p) (kvs:=xcu [] (bKV bs)) (k:=(Sum.inr a4[i]:Key)) (Or.inl ups);rw[xqw ti.nd bb]at bn;refine(xax _ rfl p (.str y) rfl bn ?_);have t7:=t6.same sp;refine(xcd kv ks y rfl ((wf.ksAt t7.kd).seq) (λt ba H8 s8 ht rp=>(xak t _ _ _ rfl rfl (SqT.of ht) rfl ?_)));have t8:=t7.same s8;have F8:=F6.same (sp.trans s8);rw[hk]at rp;have c9:=rp;obtain⟨a,us,rfl,av,au⟩:=rp;have hl:=au.length;rw[zLM]at hl;have h5:=wf.pts k aw;refine(xb4 _ rfl _ _ rfl rfl _ rfl _ (jAE rfl a (xbe _ rfl (.inr (SqT.of av)) _ _ rfl rfl (jAE (.inl ⟨by omega,by omega⟩) _ (xaz _ rfl rfl _ rfl (ite2 (λc4=>?_) (λc4=>?_)))))))
    ·have c0:smK ks x*(us.length:Int)<=l-2:=of_decide_eq_true c4
     rw[hl]at c0;obtain⟨m',rfl⟩:∃m',m=m'+1:=⟨m-1,by omega⟩;refine(jEAA _ rfl (by walk_at"s") (λt1 al=>?_));have y1:=Same.new al (.tup [.str (S "box"),.str a4[i]]);refine(xaw _ rfl _ rfl _ rfl _ rfl _ rfl (xb4 _ rfl _ _ rfl rfl _ rfl m' (jAE (by omega) f' (xau kv (.ref bl) (.ref a) ks bs (xb3 k.parts x (l-2) rfl (t8.same y1) (by omega) (c9.same y1 _) (wf.alt k aw a8) (jAAA h5 (wf.pnd k aw) (λp hp=>xf6 wf aw hp) (jAA ax c0 (λu rs H9 f9 ru bi bh ci cg=>⟨(by walk_at"s"),λt2 a7=>?_⟩))))))));have y2:=Same.new a7 (.tup [.str (S "case"),.ref t1,u]);have co:=xah (t8.same y1).fd f9 _ _ ups;exact q _ (xmc (tBox a4[i]) rs) _ (((F8.same y1).trans f9).same y2) (xal t2 _ rfl ups _ _ rfl rfl _ (xbe _ rfl (xal t1 _ rfl (y2 _ _ co) _ _ rfl rfl _ (jEAA _ rfl rfl rfl)) _ _ rfl (ru.same y2 _) rfl)) (TmB.le (xrp wf hk a8 (xm1 bb) (by omega) ci bi bh cg) (by omega))
    ·refine a1 _ _ ?_
     exact(xaw _ rfl _ rfl _ rfl _ rfl _ rfl (xa5 _ rfl f' kv (.ref bl) ks (xaj bs x l m j rfl ac a0 t8 m8 (jAA Z J (λa d I fd ra Y=>q a d I (F8.trans fd) ra Y)))))
   ·refine a1 _ _ ?_
    exact(xaw _ rfl _ rfl _ rfl _ rfl _ rfl (xa5 _ rfl f' kv (.ref bl) ks (xaj bs x l m j rfl ac a0 t4 m8 (jAA Z J (λa d I fd ra Y=>q a d I (F4.trans fd) ra Y)))))
  ·refine a1 _ _ ?_
   exact(xaw _ rfl _ rfl _ rfl _ rfl _ rfl (xa5 _ rfl f' kv (.ref bl) ks (xaj bs x l m j rfl ac a0 t3 m8 (jAA Z J (λa d I fd ra Y=>q a d I (F3.trans fd) ra Y)))))
 refine(xaz _ rfl rfl _ rfl (iteKF (zDF λz=>e5 (V.int.inj z)) (iteF ?_)));refine a1 _ _ ?_;exact(xaw _ rfl _ rfl _ rfl _ rfl _ rfl (xa5 _ rfl f' kv (.ref bl) ks (xaj bs x l m j rfl ac a0 t3 m8 (jAA Z J (λa d I fd ra Y=>q a d I (F3.trans fd) ra Y)))))
theorem xro(T:Tx K f):∀c,DefIs P w K f base (3*c+10) "_law_term" qaf (spTw c):=by
 intro c
 induction c using Nat.strongRecOn with
 |_ c i=>
  have take:∀k,DefIs P w K f base (k+1) "_law_take" qad xcp:=λk=>xdm T;have e:∀k,8<=k->DefIs P w K f base k "_law_small" qab (spSm smK 6):=λk l=>(xhb T 6).mono l;have a:DefIs P w K f base (3*c+7) "_law_term" qaf (xph c):=DefIs.anyP (Pr:=λg=>g<c) (sps:=spTw) T.kG λg h=>(i g h).mono (by omega);exact xps (n:=3*c+9) T (take _) (xn1 (n:=3*c+8) T (take _)) (e _ (by omega)) (xby T) (a.mono (by omega)) (DefIs.anyP (Pr:=λm=>7*m+6<c) (sps:=xkf) T.kE λm j=>xpy (n:=3*c+8) T j (take _) (a.mono (by omega))) (xgk (n:=3*c+8) T (xby T) (take _) (xez T (take _)) (e _ (by omega)) (a.mono (by omega)))
def xh4:Sp:=λvs H Q _=>∃(f:Addr) (kv bv:V) (ks:List Kn) (bs:List (Str×Str)) (x:Str),vs=[.ref f,kv,bv,.str x]/\TIn H f kv bv ks bs 3/\KIn ks 6 x/\∀a d H',Fed f H H'->RelD H' (.ref a) d->TmB ks 21 bs d x->Q (.ref a) H'
def spTC:Sp:=λvs H Q E=>∃c,c<=20/\spTw c vs H Q E
theorem xiq (T:Tx K l) (g:DefIs P w K l base n "_law_take" qad xcp) (c:DefIs P w K l base n "_law_small" qab (spSm smK 6)) (e:DefIs P w K l base n "_law_term" qaf spTC) :
  DefIs P w K l base (n+1) "_law_new_term" qah xh4:=by
 refine DefIs.of T.kH xh9 (by walk_at"l") (λf Y A outer s H vs Q E m h=>?_);obtain⟨z,u,Z,ks,bs,x,rfl,j,i,q⟩:=h;refine(jEA _ (zpo (xai (pd e m (va 0 (va 1 (va 2 (va 3 (zpc (xam xbd (pd c m (va 1 (v1 3))) (pd g m (va 0 (zpc pI pN so)))) (zpc pI pN so) xa3)))))))) ?_);refine(xaw _ rfl _ rfl _ rfl _ rfl _ rfl (jEA _ rfl (xaq u ks x rfl j.kd j.wf i (λH1 p=>?_))));have o:=j.same p;obtain⟨p0,q0,J⟩:=j.fd;obtain⟨I,G,O⟩:=o.fd;refine(xaa _ rfl z I G _ rfl O (by decide) (by decide) (λr H2 r0 r1 y=>?_));refine(xan _ _ rfl rfl (xa5 20 (Nat.le_refl _) z u Z ks (xaj bs x _ 2 6 rfl rfl (by decide) (o.fed y) (by decide) (jAA i (by omega) (λa d H' U C M=>q a d H' ((((Fed.refl J).same p).trans y).trans U) C M)))))
theorem xkr(T:Tx K a):DefIs P w K a base 80 "_law_new_term" qah xh4:=
 xiq (n:=79) T (xdm T) ((xhb T 6).mono (by omega)) (DefIs.anyP (Pr:=λc=>c<=20) (sps:=spTw) T.kG λc e=>(xro T c).mono (by omega))
def spNu(F:Nat->List Kn->Str->D)(m:Nat):Sp:=λvs H Q _=>∃v ks x,vs=[v,.str x]/\RelD H v (xdf ks)/\KWf ks/\KIn ks m x/\∀u H',Same H H'->RelD H' u (F (m+1) ks x)->Q u H'
theorem xit (T:Tx K mg) (M:Sp) (g:DefIs P w K mg base n "parts_of" qag xfu) (l:DefIs P w K mg base n "sort_of" qag xlc) (c:DefIs P w K mg base n "nought" qao M) (Z:∀j,m=j+1->M=spNu nuV j) :
  DefIs P w K mg base (n+1) "nought" qao (spNu nuV m):=by
 refine DefIs.of T.jI sc_nought (by walk_at"l") (λf a8 A outer s H vs Q E hr h=>?_);obtain⟨v,ks,x,rfl,hk,J,a7,q⟩:=h;have nd:=sc_nought.nd
 refine⟨_,(zpn (xa4 (pR xa6 (pv 1) pS (nM _)) (zpo (xai pI)) pQ)
   (zpn (psn 2 nd (pd g hr (va 0 (v1 1))))
   (zpn (xa4 (pR xa6 (pd l hr (va 0 (v1 1))) pS (nM _)) (zpo (xai (xay (va 1 (zpc (xao (xbo (K:=K) rfl) rfl T.uB PyProof.Rows.boot_tuple (zpc (xbt ["part","kinds"] [none,some 0] rfl (by kernel_rfl) (xa1 (K:=K) rfl (pv 2)) (λ_ _ _ _=>(pgc 0)) (λ_ _ _ _=>xb1) (λ_ _ _ _=>(pd c hr (va 1 (zpc (px K (pv 0) pI) pN ss))))) pN xbz)) pN zsc))))) pQ)
   (zpo (xai (xay (va 1 (zpc (px K (px K (pv 2) pI) pI) (zpc (pd c hr (va 0 (zpc (px K (px K (pv 2) pI) pI) pN ss))) pN zsc) ss)))))))),?_⟩
 rcases a7.nu J with⟨rfl,_,_,e⟩ |⟨j,k,rfl,a2,hn,hm,hp,a5,I⟩
 ·refine(xaz _ rfl rfl _ rfl (iteKT (by walk_at"k") ?_))
  rw[e]at q;exact q _ _ (Same.refl _) rfl
 ·have D':=Z j rfl
  subst D';refine(xaz _ rfl rfl _ rfl (iteKF (zDF λz=>a5 (V.str.inj z)) ?_));refine(xci _ rfl _ rfl v ks x rfl (J.ksAt hk) (λu H1 Y r1=>?_));rw[a2]at r1;obtain⟨a,us,rfl,ha,C⟩:=r1;have hl:=C.length;rw[zLM]at hl;have h5:=J.pts k hm;refine(xci _ rfl _ rfl v ks x rfl (J.ksAt (hk.same Y _)) ?_);rw[a2];rcases I with⟨hc,_,e⟩ |⟨hc,p,r,er,_,e⟩
  ·refine(jAEA rfl _ rfl (iteKT (zDT (by show V.str k.sort=_;rw[xdj hc];rfl)) ?_))
   refine(jEA _ rfl (xbg _ rfl a rfl ⟨_,SqT.of ha⟩ ?_));refine xfp (j:=0) (xs:=us) (λi ys H'=>Same H1 H'/\RelDs H' ys ((k.parts.take i).map λp=>nuV (j+1) ks p.2)) (by rfl) ⟨Same.refl _,rfl⟩ (xba (by omega)) (λi ys H' _ p=>SqT.of (p.1 _ _ ha)) ?_ ?_
   ·rintro i y ys H' hy a1 ⟨O,o⟩
    obtain⟨d,hd,rd⟩:=C.get hy;rw[zGM]at hd;obtain⟨p,a0,rfl⟩:=zMS hd;obtain⟨b,ws,rfl,hb,_,_,rfl,rfl,_,_,rfl,rfl,rfl⟩:=rd;have hi:i<us.length:=(zES hy).1;refine(xap _ rfl _ rfl b _ _ (xb5 _ rfl rfl (SqT.of (O _ _ hb)) rfl (xaq _ ks p.2 rfl (hk.same (Y.trans O) _) J (hp p (zMG a0)) (λu H2 G r2=>nxt hi a1 ⟨O.trans G,?_⟩))));rw[zTA,a0,zAP];exact(o.same G _).append (xan u ([]) rfl r2 rfl)
   ·rintro ys H' a1 ⟨O,o⟩ D hD
    rw[zTL (by omega)]at o;refine(jEEA D ys rfl (.inl ⟨SqL.of ups,λl' a6=>⟨(by walk_at"s"),λt ht=>?_⟩⟩));have G:=Same.new hD (.lst ys);have U:=Same.new a6 (.tup ys);have s4:=Same.new ht (.tup [.str x,.ref l']);rw[e]at q;exact q _ _ (Y.trans (O.trans (G.trans (U.trans s4)))) (xal t _ rfl ups _ _ rfl rfl _ (jEAA _ rfl (xan l' ys rfl (s4 _ _ ups) (o.same (G.trans (U.trans s4)) _)) rfl))
  ·refine(jAEA rfl _ rfl (iteKF (zDF (by show ¬V.str k.sort=_;rw[xdt hc];decide +kernel)) ?_))
   rw[er]at C;obtain⟨vp,rest,rfl,rp,_⟩:=C;obtain⟨b,ws,rfl,hb,_,_,rfl,rfl,_,_,rfl,rfl,rfl⟩:=rp;have a3:SqT K H1 a (.ref b::rest):=SqT.of ha;have a4:atI (V.ref b::rest) 0=some (.ref b):=xa2 (j:=0) rfl;refine(xap _ rfl _ rfl a _ _ (xb5 _ rfl rfl a3 a4 (xak b _ _ _ rfl rfl (SqT.of hb) rfl ?_)));refine(xap _ rfl _ rfl a _ _ (xb5 _ rfl rfl a3 a4 (xak b _ _ _ rfl rfl (SqT.of hb) rfl ?_)));refine(xaq _ ks p.2 rfl (hk.same Y _) J (hp p (by rw[er];simp)) (λu H2 G r2=>⟨(by walk_at"s"),λt ht=>?_⟩));have U:=Same.new ht (.tup [.str x,.str p.1,u]);rw[e]at q;exact q _ _ (Y.trans (G.trans U)) (xal t _ rfl ups _ _ rfl rfl _ (xbe _ rfl rfl _ _ rfl (r2.same U _) rfl))
theorem xi0(T:Tx K a):∀m,DefIs P w K a base (m+2) "nought" qao (spNu nuV m)
 |0=>xit (n:=1) T (λ_ _ _ _=>False) (xen T) (xgt T) (DefIs.none T.jI λ_ _ _ _ h=>h) (λj e=>by cases e)
 |m+1=>xit (n:=m+2) T (spNu nuV m) (xen T) (xgt T) (xi0 T m) (λj e=>by cases e;rfl)
def xm6:Sp:=λvs H Q _=>∃(tv:V) (x:Str) (hs:List Hand) (hd:Hand),vs=[tv,.str x]/\RelD H tv (.tup (hs.map Hand.d))/\hs.find? (λh=>decide (h.name=x))=some hd/\∀u,RelD H u hd.d->Q u H
def xfi:Sp:=λvs H Q _=>∃(mv:V) (x:Str) (mk:Mak) (hd:Hand),vs=[mv,.str x]/\RelD H mv mk.d/\xeh mk x=some hd/\∀u,RelD H u hd.d->Q u H
def chTo(mk:Mak)(x:Str):List Str:=(mk.chans.filter λc=>decide (c.2.2.1=x)).map (·.1)
def xdh(mk:Mak)(x:Str):List Str:=(mk.chans.filter λc=>decide (c.2.1=x)).map (·.1)
def xha(F:Mak->Str->List Str):Sp:=λvs H Q _=>∃(mv:V) (x:Str) (mk:Mak),vs=[mv,.str x]/\RelD H mv mk.d/\mk.chans.length<=6/\∀b,H b=none->Q (.ref b) (upd H b (.lst ((F mk x).map V.str)))
def begL(mk:Mak)(hd:Hand):List (Str×D):=hd.boxes.map λb=>(b.1,nuV 7 mk.kinds b.2)
def xni:Sp:=λvs H Q _=>∃(mv:V) (x:Str) (mk:Mak) (hd:Hand),vs=[mv,.str x]/\RelD H mv mk.d/\MakOk mk/\xeh mk x=some hd/\∀a p H',Same H H'->H p=none->StAt H' a p 0 (begL mk hd)->Q (.ref a) H'
def xka:Sp:=λvs H Q _=>∃(sa p:Addr) (k:Nat) (bx:List (Str×D)),vs=[.ref sa]/\StAt H sa p k bx/\bx.length<=100/\∀a' p' H',Same H H'->H p'=none->StAt H' a' p' k bx->Q (.ref a') H'
def xkb:Sp:=λvs H Q _=>∃(d:Addr) (kvs:List (Key×V)) (cs:Lts) (L:List Addr),vs=[.ref d]/\H d=some (.dK kvs)/\LsAt H kvs cs L/\(cs.map (·.1)).Nodup/\cs.length<=100/\∀d' kvs' L' H',Same H H'->H d'=none->(∀a∈L',H a=none)->(d'::L').Nodup->H' d'=some (.dK kvs')->LsAt H' kvs' cs L'->Q (.ref d') H'
def xg8:Sp:=λvs H Q _=>∃(mv:V) (x:Str) (sa p:Addr) (k:Nat) (mk:Mak) (hd:Hand) (r:Row),vs=[mv,.str x,.ref sa]/\RelD H mv mk.d/\xeh mk x=some hd/\H sa=some (.tup [.int k,.ref p])/\hd.rows[k]?=some r/\∀u,RelD H u r.d->Q u H
def xnd:Sp:=λvs H Q _=>∃(rv:V) (ca:Addr) (r:Row),vs=[rv,.ref ca]/\RelD H rv r.d/\(match r with
 |.take _ c _=>∃kvs la us,H ca=some (.dK kvs)/\valV kvs (Sum.inr c)=some (.ref la)/\H la=some (.lst us)/\Q (us.headD .non) H
 |_=>Q .non H)
def xqz:Sp:=λvs H Q _=>∃(mv rv:V) (sa p:Addr) (k:Nat) (bx:List (Str×D)) (mk:Mak) (bs:List (Str×Str)) (r:Row),vs=[mv,rv,.ref sa]/\RelD H mv mk.d/\KWf mk.kinds/\RelD H rv r.d/\r≠.fin/\StAt H sa p k bx/\bx.length<=6/\FitB mk.kinds bs (enOf bx)/\(∀t g,r=.cond t g->TmOk mk.kinds 21 bs t (S "num"))/\∀H',Same H H'->Q (.int (xcn mk.kinds bx k r:Nat)) H'
def xtm:Sp:=λvs H Q _=>∃(mv rv lv:V) (p:Addr) (kvs:List (Key×V)) (bx:List (Str×D)) (l:D) (mk:Mak) (bs:List (Str×Str)) (r:Row),vs=[mv,rv,.ref p,lv]/\RelD H mv mk.d/\KWf mk.kinds/\RelD H rv r.d/\H p=some (.dK kvs)/\KvD H kvs bx/\bx.length<=6/\FitB mk.kinds bs (enOf bx)/\(∀x t,r=.set x t->∃k,TmOk mk.kinds 21 bs t k)/\(∀n c x,r=.take n c x->RelD H lv l) ∧
 ∀p' kvs' H',Same H H'->p'=p\/H p'=none->H' p'=some (.dK kvs')->KvD H' kvs' (xf5 mk.kinds bx l r)->Q (.ref p') H'
theorem hd_d{H:Hp}{u:V}{hd:Hand}(h:RelD H u hd.d):∃a f c,u=.ref a/\H a=some (.tup [.str hd.name,f,c])/\RelD H f (xdv hd.boxes)/\RelD H c (.tup (hd.rows.map Row.d)):=by
 obtain⟨a,us,e,g,_,_,rfl,rfl,f,_,rfl,j,c,_,rfl,i,rfl⟩:=h;exact(xdd a f c e g j i)
theorem mk_d{H:Hp}{u:V}{c:Mak}(h:RelD H u c.d):∃a f i g,u=.ref a/\H a=some (.tup [f,i,g])/\RelD H f (xdf c.kinds)/\RelD H i (.tup (c.chans.map dChn))/\RelD H g (.tup (c.hands.map Hand.d)):=by
 obtain⟨a,us,e,j,f,_,rfl,h0,i,_,rfl,m,g,_,rfl,l,rfl⟩:=h;exact(xak a f i g e j h0 m l)
theorem xig{H:Hp}{u:V}{r:Row}(h:RelD H u r.d):∃a us,u=.ref a/\H a=some (.tup (.str r.hd::us))/\RelDs H us r.as:=by
 obtain⟨a,us,e,f,_,c,rfl,rfl,g⟩:=h;exact(xan a c e f g)
theorem xp0(T:Tx K G):DefIs P w K G base (n+1) "named" qa3 xm6:=by
 refine DefIs.of T.jC sc_named (by walk_at"l") (λf U A outer s H vs Q E hr h=>?_);obtain⟨Y,x,hs,hd,rfl,J,r,q⟩:=h;have nd:=sc_named.nd
 refine⟨_,(zpn (xcm PassesOwn.never rfl (xa1 (K:=K) rfl (pv 0)) (pgn 2 nd)
   (zpo (xa4 (pR xa6 (px K (pv 2) pI) (pv 1) (nM _)) (zpo (xai (pv 2))) pQ)))
   (zpo (xai xdx))),?_⟩
 obtain⟨a,us,rfl,u,y⟩:=J;refine(xbg _ rfl a rfl ⟨_,SqT.of u⟩ ?_);have M:=y.length;rw[zLM]at M;refine xde (xs:=us) (λi σ l=>∃o,σ=[some (.ref a),some (.str x),o]/\l=H/\(hs.take i).find? (λh=>decide (h.name=x))=none) (jEAA none rfl rfl rfl) (λi σ l _ p=>?_) ?_ ?_
 ·obtain⟨_,_,rfl,_⟩:=p
  exact SqT.of u
 ·rintro i v σ l I ⟨o,rfl,rfl,hn⟩
  obtain⟨d,j,rd⟩:=y.get I;rw[zGM]at j;obtain⟨h',g,rfl⟩:=zMS j;have m:=rd;obtain⟨b,bv,Z,rfl,O,_,_⟩:=hd_d rd;refine(xaa _ rfl b _ _ _ rfl rfl (SqT.of O) rfl (xaz _ rfl rfl _ rfl (ite2 (λc=>?_) (λc=>?_))))
  ·have e:h'.name=x:=V.str.inj (of_decide_eq_true c)
   have C:=(xc2 hn g).1 (zDT e);rw[r]at C;cases C;exact(jEA _ rfl (q _ m))
  ·have e:¬h'.name=x:=λz=>c (zDT (congrArg V.str z))
   exact(jEAA _ rfl rfl ((xc2 hn g).2 (zDF e)))
 ·rintro σ l ⟨o,rfl,rfl,hn⟩
  rw[zTL (by omega),r]at hn;cases hn
theorem xmj(T:Tx K e)(c:DefIs P w K e base n "named" qa3 xm6):DefIs P w K e base (n+1) "hand_of" qac xfi:=by
 refine DefIs.of T.jB xmg (by walk_at"l") (λf p A outer s H vs Q E i h=>?_);obtain⟨r,x,g,hd,rfl,j,l,q⟩:=h;obtain⟨a,u,z,y,rfl,m,_,_,o⟩:=mk_d j;refine(jEA _ (zpo (xai (pd c i (zpc (px K (pv 0) pI) (v1 1) ss)))) ?_);exact(xaa _ rfl a _ _ _ rfl rfl (SqT.of m) rfl (xa5 _ rfl _ x g.hands hd (jAAA rfl o l q)))
theorem xdr{H:Hp}{us:List V}{cs:List Chn}(g:RelDs H us (cs.map dChn)){i:Nat}{v:V}(a:us[i]?=some v):∃(b:Addr) (c:Chn),cs[i]?=some c/\v=.ref b/\H b=some (.tup [.str c.1,.str c.2.1,.str c.2.2.1,.str c.2.2.2]):=by
 obtain⟨d,hd,rd⟩:=g.get a;rw[zGM]at hd;obtain⟨c,e,rfl⟩:=zMS hd;obtain⟨b,ws,rfl,f,_,_,rfl,rfl,_,_,rfl,rfl,_,_,rfl,rfl,_,_,rfl,rfl,rfl⟩:=rd;exact(xan b c e rfl f)
theorem xdq{α:Type}{p:α->Bool}{xs:List α}{i:Nat}{a:α}(h:xs[i]?=some a):(xs.take (i+1)).filter p=(xs.take i).filter p++if p a=true then [a] else []:=by
 rw[zTA,h,List.filter_append];congr 1;show List.filter p [a]=_;rw[List.filter_cons];split <;> rfl
theorem xgl(T:Tx K C):DefIs P w K C base (n+1) "channels_to" qac (xha chTo):=by
 refine DefIs.of T.jE xgi (by walk_at"l") (λf Y A outer s H vs Q E hr h=>?_);obtain⟨mv,x,u,rfl,I,h6,q⟩:=h;obtain⟨a,kv,cv,hv,rfl,M,_,U,_⟩:=mk_d I;obtain⟨Z,us,rfl,j,r⟩:=U;have J:=r.length;rw[zLM]at J;refine(jEA _ (zpo (xai (xbt ["channel","h"] [none,some 1] rfl (by kernel_rfl) (xa1 (K:=K) rfl (px K (pv 0) pI)) (λ_ _ _ _=>(pgc 0)) (λ_ _ _ _=>(xdk (pR xa6 (px K (pv 0) pI) (pv 1) (nM _)))) (λ_ _ _ _=>(px K (pv 0) pI))))) ?_);refine(xaa _ rfl a _ _ _ rfl rfl (SqT.of M) rfl (jEAA Z rfl ⟨_,SqT.of j⟩ ?_));refine xbx (xs:=us) (λi ys l=>l=H/\ys=(((u.chans.take i).filter λc=>decide (c.2.2.1=x)).map (·.1)).map V.str) ⟨rfl,rfl⟩ (xba (by omega)) (λi ys l _ p=>by obtain⟨rfl,_⟩:=p;exact SqT.of j) ?_ ?_
 ·rintro i y ys l G hi g ⟨rfl,rfl⟩
  obtain⟨b,c,m,rfl,o⟩:=xdr r G;refine⟨ext1 rfl,?_⟩;refine(xaa _ rfl b _ _ _ rfl rfl (SqT.of o) rfl (xaz _ rfl rfl _ rfl (ite2 (λe=>?_) (λe=>?_))))
  ·refine(xaa _ rfl b _ _ _ rfl rfl (SqT.of o) rfl (nxtG hi g ⟨rfl,?_⟩))
   rw[xdq m,if_pos (zDT (V.str.inj (of_decide_eq_true e))),zAP,zAP];rfl
  ·refine nxtN hi g ⟨rfl,?_⟩
   rw[xdq m,if_neg (λz=>e (zDT (congrArg V.str (of_decide_eq_true z)))),List.append_nil]
 ·rintro ys l g ⟨rfl,rfl⟩ D O
  rw[zTL (by omega)];exact q D O
theorem xfd(T:Tx K C):DefIs P w K C base (n+1) "channels_from" qac (xha xdh):=by
 refine DefIs.of T.jD xfb (by walk_at"l") (λf Y A outer s H vs Q E hr h=>?_);obtain⟨mv,x,u,rfl,I,h6,q⟩:=h;obtain⟨a,kv,cv,hv,rfl,M,_,U,_⟩:=mk_d I;obtain⟨Z,us,rfl,j,r⟩:=U;have J:=r.length;rw[zLM]at J;refine(jEA _ (zpo (xai (xbt ["channel","h"] [none,some 1] rfl (by kernel_rfl) (xa1 (K:=K) rfl (px K (pv 0) pI)) (λ_ _ _ _=>(pgc 0)) (λ_ _ _ _=>(xdk (pR xa6 (px K (pv 0) pI) (pv 1) (nM _)))) (λ_ _ _ _=>(px K (pv 0) pI))))) ?_);refine(xaa _ rfl a _ _ _ rfl rfl (SqT.of M) rfl (jEAA Z rfl ⟨_,SqT.of j⟩ ?_));refine xbx (xs:=us) (λi ys l=>l=H/\ys=(((u.chans.take i).filter λc=>decide (c.2.1=x)).map (·.1)).map V.str) ⟨rfl,rfl⟩ (xba (by omega)) (λi ys l _ p=>by obtain⟨rfl,_⟩:=p;exact SqT.of j) ?_ ?_
 ·rintro i y ys l G hi g ⟨rfl,rfl⟩
  obtain⟨b,c,m,rfl,o⟩:=xdr r G;refine⟨ext1 rfl,?_⟩;refine(xaa _ rfl b _ _ _ rfl rfl (SqT.of o) rfl (xaz _ rfl rfl _ rfl (ite2 (λe=>?_) (λe=>?_))))
  ·refine(xaa _ rfl b _ _ _ rfl rfl (SqT.of o) rfl (nxtG hi g ⟨rfl,?_⟩))
   rw[xdq m,if_pos (zDT (V.str.inj (of_decide_eq_true e))),zAP,zAP];rfl
  ·refine nxtN hi g ⟨rfl,?_⟩
   rw[xdq m,if_neg (λz=>e (zDT (congrArg V.str (of_decide_eq_true z)))),List.append_nil]
 ·rintro ys l g ⟨rfl,rfl⟩ D O
  rw[zTL (by omega)];exact q D O
def Row.wy(k:Nat):Row->List Nat
 |.go g=>[g]
 |.cond _ g=>[g,k+1]
 |.fin=>[]
 |_=>[k+1]
def xh2:Sp:=λvs H Q _=>∃(rv:V) (k:Nat) (r:Row),vs=[rv,.int k]/\RelD H rv r.d/\∀a H',Same H H'->H' a=some (.tup ((Row.wy k r).map λi:Nat=>V.int i))->Q (.ref a) H'
theorem xko(T:Tx K o):DefIs P w K o base (n+1) "row_ways" ["row","k"] xh2:=by
 refine DefIs.of T.jA xkg (by walk_at"l") (λf x A outer s H vs Q E z h=>?_);obtain⟨y,k,r,rfl,m,q⟩:=h;obtain⟨a,us,rfl,u,l⟩:=xig m
 refine⟨_,(zpn (xa4 (pR xa6 (px K (pv 0) pI) pS (nM _)) (zpo (xai (xay (zpc (px K (pv 0) pI) pN ss)))) pQ)
   (zpn (xa4 (pR xa6 (px K (pv 0) pI) pS (nM _)) (zpo (xai (xay (zpc (px K (pv 0) pI) (zpc (xam xbd (pv 1) pI) pN xa3) ss)))) pQ)
   (zpn (xa4 (pR xa6 (px K (pv 0) pI) pS (nM _)) (zpo (xai (xay pN))) pQ)
   (zpo (xai (xay (zpc (xam xbd (pv 1) pI) pN xa3))))))),?_⟩
 have c:SqT K H a (.str r.hd::us):=SqT.of u;have h0:atI (V.str r.hd::us) 0=some (.str r.hd):=xa2 (j:=0) rfl
 cases r with
 |go g=>
  obtain⟨_,_,rfl,rfl,rfl⟩:=l;refine(xaa _ rfl a _ _ _ rfl rfl c h0 (jAEA rfl _ rfl (iteKT (hdT rfl) ?_)));exact(xaa _ rfl a _ _ _ rfl rfl c rfl ⟨(by walk_at"s"),λp i=>q p _ (Same.new i _) ups⟩)
 |cond t g=>
  obtain⟨_,_,rfl,_,_,_,rfl,rfl,rfl⟩:=l;refine(xaa _ rfl a _ _ _ rfl rfl c h0 (jAEA rfl _ rfl (iteKF (hdF (xji (by intro _ e;cases e))) ?_)));refine(xaa _ rfl a _ _ _ rfl rfl c h0 (jAEA rfl _ rfl (iteKT (hdT rfl) ?_)));exact(xaa _ rfl a _ _ _ rfl rfl c rfl (xax _ rfl _ _ rfl rfl ⟨(by walk_at"s"),λp i=>q p _ (Same.new i _) (by rw[ups];rfl)⟩))
 |fin=>
  refine(xaa _ rfl a _ _ _ rfl rfl c h0 (jAEA rfl _ rfl (iteKF (hdF (xji (by intro _ e;cases e))) ?_)));refine(xaa _ rfl a _ _ _ rfl rfl c h0 (jAEA rfl _ rfl (iteKF (hdF (xjh (by intro _ _ e;cases e))) ?_)));refine(xaa _ rfl a _ _ _ rfl rfl c h0 (jAEA rfl _ rfl (iteKT (hdT rfl) ?_)));exact⟨(by walk_at"s"),λp i=>q p _ (Same.new i _) ups⟩
 |_=>
  refine(xaa _ rfl a _ _ _ rfl rfl c h0 (jAEA rfl _ rfl (iteKF (hdF (xji (by intro _ e;cases e))) ?_)));refine(xaa _ rfl a _ _ _ rfl rfl c h0 (jAEA rfl _ rfl (iteKF (hdF (xjh (by intro _ _ e;cases e))) ?_)));refine(xaa _ rfl a _ _ _ rfl rfl c h0 (jAEA rfl _ rfl (iteKF (hdF (xjj (by intro e;cases e))) ?_)));exact(xax _ rfl _ _ rfl rfl ⟨(by walk_at"s"),λp i=>q p _ (Same.new i _) (by rw[ups];rfl)⟩)
theorem xn4(T:Tx K j)(c:DefIs P w K j base n "hand_of" qac xfi):DefIs P w K j base (n+1) "row_at" qai xg8:=by
 refine DefIs.of T.jQ xno (by walk_at"l") (λf a0 A outer s H vs Q E J h=>?_);obtain⟨C,x,y,p,k,G,hd,r,rfl,M,Y,g,m,q⟩:=h;refine(jEA _ (zpo (xai (px K (px K (pd c J (va 0 (v1 1))) pI) (px K (pv 2) pI)))) ?_);refine(xap _ rfl _ rfl C x G (xbn hd rfl M Y (λu I=>?_)));obtain⟨a,bv,rv,rfl,Z,_,h2⟩:=hd_d I;obtain⟨z,us,rfl,i,o⟩:=h2;refine(xbm a _ _ _ rfl rfl (SqT.of Z) rfl _ (jAE rfl y (xaq _ _ _ rfl rfl (SqT.of g) rfl ?_)));have O:=o.length;rw[zLM]at O;have U:=(zES m).1;have l:us[k]?=some (us[k]'(by omega)):=zGA _;obtain⟨d,e,rd⟩:=o.get l;rw[zGM,m]at e;cases e;exact(xak z _ _ _ rfl rfl (SqT.of i) (xa2 l) (q _ rd))
theorem xfz(T:Tx K I):DefIs P w K I base (n+1) "first_letter" qar xnd:=by
 refine DefIs.of T.jR xfw (by walk_at"l") (λf U A outer s H vs Q E M h=>?_);obtain⟨Y,y,r,rfl,p,q⟩:=h;have C:=xfe M;obtain⟨a,us,rfl,O,o⟩:=xig p
 refine⟨_,(zpn (xa4 (PW.pt (xcj (pR xa6 (px K (pv 0) pI) pS (nM _)) (xb0 (pR xdc (xar (xag (K:=K) rfl) rfl T.k5 PySem.boot_len (zpc (xbf C (pv 1) (px K (pv 0) pI) (λ_ _=>rfl)) pN ss)) pI (nM _))))) (zpo (xai (pxl K (xbf C (pv 1) (px K (pv 0) pI) (λ_ _=>rfl)) pI))) pQ)
   (zpo (xai xdx))),?_⟩
 have i:SqT K H a (.str r.hd::us):=SqT.of O;have h0:atI (V.str r.hd::us) 0=some (.str r.hd):=xa2 (j:=0) rfl
 cases r with
 | take l c x=>
  obtain⟨_,_,rfl,rfl,_,_,rfl,rfl,_,_,rfl,rfl,rfl⟩:=o;obtain⟨kvs,m,zs,u,J,g,q⟩:=q
  have G:DGet H y (.str c) (some (.ref m)):=by
   have:=DGet.rd (k:=Sum.inr c) (.inl u);rw[J]at this;exact this
  refine(xaa _ rfl a _ _ _ rfl rfl i h0 (jAEA rfl _ rfl (iteKT (hdT rfl) ?_)));refine(xap _ rfl _ rfl a _ _ (xb5 _ rfl rfl i rfl (xal y _ rfl G m _ rfl (.inl (SqL.of g)) _ (xaz _ rfl rfl _ rfl ?_))))
  cases zs with
  |nil=>exact iteKF (by decide) q
  |cons z zs=>
   refine iteKT (zDT (by show(0:Int)<((zs.length+1:Nat):Int);omega)) ?_;exact(xap _ rfl _ rfl a _ _ (xb5 _ rfl rfl i rfl (xan y _ rfl G (xak m _ _ _ rfl rfl (SqL.of g) (xa2 (j:=0) rfl) q))))
 |_=>
  exact(xaa _ rfl a _ _ _ rfl rfl i h0 (jAEA rfl _ rfl (iteKF (hdF (xcv (by intro _ _ _ e;cases e))) (iteF q))))
theorem xhk(T:Tx K Y)(c:DefIs P w K Y base n "row_ways" ["row","k"] xh2)(l:DefIs P w K Y base n "worth" qae (xc3 (λks=>Ev ks 21) 6)):DefIs P w K Y base (n+1) "row_behind" qa5 xqz:=by
 refine DefIs.of T.jT sc_row_behind (by walk_at"l") (λf a5 A outer s H vs Q E hr h=>?_);obtain⟨mv,rv,sa,p,k,bx,U,bs,r,rfl,hm,wf,I,a1,a0,h6,J,x,q⟩:=h;have nd:=sc_row_behind.nd;have G:=I;obtain⟨a,us,rfl,ha,Z⟩:=xig I;obtain⟨C,kvs,hp,a3⟩:=a0;obtain⟨ma,kv,cv,hv,rfl,a2,a4,_,_⟩:=mk_d hm
 refine⟨_,(zpn (psn 3 nd (pd c hr (va 1 (zpc (px K (pv 2) pI) pN ss))))
   (zpn (xa4 (PW.pt (xcj (pR xa6 (px K (pv 1) pI) pS (nM _)) (xb0 (pR xa6 (pd l hr (zpc (px K (pv 0) pI) (zpc (px K (pv 1) pI) (zpc (px K (pv 2) pI) pN ss) ss) ss)) pI (nM _))))) (zpo (xai (px K (pv 3) pI))) pQ)
   (zpo (xai (px K (pv 3) pI))))),?_⟩
 refine(xap _ rfl _ rfl sa _ _ (xb5 _ rfl rfl (SqT.of C) rfl (xcd _ k r rfl G (λM H1 m o=>?_))));have hh:SqT K H1 a (.str r.hd::us):=SqT.of (m _ _ ha);have h0:atI (V.str r.hd::us) 0=some (.str r.hd):=xa2 (j:=0) rfl
 cases r with
 |fin=>exact absurd rfl a1
 | cond t g=>
  obtain⟨tv,_,rfl,ht,_,_,rfl,rfl,rfl⟩:=Z;obtain⟨ev,vk⟩:=xhv (x t g rfl) J;obtain⟨i,hi,e⟩:=xfr wf rfl vk;refine(xaa _ rfl a _ _ _ rfl rfl hh h0 (jAEA rfl _ rfl (iteKT (hdT rfl) ?_)));refine(xaa _ rfl ma _ _ _ rfl rfl (SqT.of (m _ _ a2)) rfl (xaa _ rfl a _ _ _ rfl rfl hh rfl (xaa _ rfl sa _ _ _ rfl rfl (SqT.of (m _ _ C)) rfl ?_)));refine(xau _ _ p U.kinds t (xa8 (enOf bx) _ rfl (wf.ksAt (a4.same m _)) (ht.same m _) (KvD.en (m _ _ hp) (a3.tups (Same.tups m)) h6) ev (λu H2 O hu=>?_)));rw[e]at hu;obtain rfl:u=.int i:=hu;refine(jAEA rfl _ rfl ?_);have y:=m.trans O;by_cases h0:i=0
  ·subst h0
   refine iteKT (by decide) ?_;refine(xaa _ rfl M _ _ _ rfl rfl (SqT.of (O _ _ o)) rfl ?_);have:=q H2 y;rw[show xcn U.kinds bx k (.cond t g)=k+1 from if_pos e]at this;exact this
  ·refine iteKF (zDF λz=>h0 (V.int.inj z)) ?_
   refine(xaa _ rfl M _ _ _ rfl rfl (SqT.of (O _ _ o)) rfl ?_);have:=q H2 y;rw[show xcn U.kinds bx k (.cond t g)=g from if_neg λz=>h0 (by rw[e]at z;exact D.int.inj z)]at this;exact this
 |_=>
  refine(xaa _ rfl a _ _ _ rfl rfl hh h0 (jAEA rfl _ rfl (iteKF (hdF (xjh (by intro _ _ e;cases e))) (iteF ?_))));exact(xaa _ rfl M _ _ _ rfl rfl (SqT.of o) rfl (q H1 m))
theorem xf0(T:Tx K Y)(g:DefIs P w K Y base n "with_box" qan xtk)(m:DefIs P w K Y base n "worth" qae (xc3 (λks=>Ev ks 21) 6)):DefIs P w K Y base (n+1) "boxes_behind" qat xtm:=by
 refine DefIs.of T.jU xfx (by walk_at"l") (λf a3 A outer s H vs Q E hr h=>?_);obtain⟨mv,rv,lv,p,kvs,bx,l,mk,bs,r,rfl,hm,wf,Z,O,i,h6,J,I,z,q⟩:=h;obtain⟨a,us,rfl,ha,G⟩:=xig Z;obtain⟨ma,kv,cv,hv,rfl,a0,a1,_,_⟩:=mk_d hm;have a2:=i.length
 refine⟨_,(zpn (xa4 (pR xa6 (px K (pv 1) pI) pS (nM _)) (zpo (xai (pd g hr (va 2 (zpc (px K (pv 1) pI) (zpc (pd m hr (zpc (px K (pv 0) pI) (zpc (px K (pv 1) pI) (v1 2) ss) ss)) pN zsc) ss))))) pQ)
   (zpn (xa4 (pR xa6 (px K (pv 1) pI) pS (nM _)) (zpo (xai (pd g hr (va 2 (zpc (px K (pv 1) pI) (v1 3) ss))))) pQ)
   (zpo (xai (pv 2))))),?_⟩
 have o:SqT K H a (.str r.hd::us):=SqT.of ha;have h0:atI (V.str r.hd::us) 0=some (.str r.hd):=xa2 (j:=0) rfl
 cases r with
 |set x t=>
  obtain⟨_,_,rfl,rfl,tv,_,rfl,ht,rfl⟩:=G;obtain⟨kk,tok⟩:=I x t rfl;obtain⟨ev,vk⟩:=xhv tok J;refine(xaa _ rfl a _ _ _ rfl rfl o h0 (jAEA rfl _ rfl (iteKT (hdT rfl) ?_)));refine(xap _ rfl _ rfl a _ _ (xbr _ rfl rfl o rfl _ rfl (xbm ma _ _ _ rfl rfl (SqT.of a0) rfl _ (jAE rfl a (xaq _ _ _ rfl rfl o rfl (jEA _ rfl ?_))))));refine(xau _ _ p mk.kinds t (xa8 (enOf bx) _ rfl (wf.ksAt a1) ht (KvD.en O i h6) ev (λu H2 M hu=>?_)));refine(jEEE p x u (xbn kvs rfl (M _ _ O) (by omega) (λU H3 y C h3=>?_)));refine q U _ H3 (M.trans y) (.inr (xaf M C)) h3 ?_;exact(i.tups (Same.tups (M.trans y))).put (hu.same y _)
 |take nm c x=>
  obtain⟨_,_,rfl,rfl,_,_,rfl,rfl,_,_,rfl,rfl,rfl⟩:=G;refine(xaa _ rfl a _ _ _ rfl rfl o h0 (jAEA rfl _ rfl (iteKF (hdF (xe6 (by intro _ _ e;cases e))) ?_)));refine(xaa _ rfl a _ _ _ rfl rfl o h0 (jAEA rfl _ rfl (iteKT (hdT rfl) ?_)));refine(xap _ rfl _ rfl a _ _ (xbr _ rfl rfl o rfl _ rfl (jEEE p x lv (xbn kvs rfl O (by omega) (λU H3 y C h3=>?_)))));refine q U _ H3 y (.inr C) h3 ?_;exact(i.tups (Same.tups y)).put ((z nm c x rfl).same y _)
 |_=>
  refine(xaa _ rfl a _ _ _ rfl rfl o h0 (jAEA rfl _ rfl (iteKF (hdF (xe6 (by intro _ _ e;cases e))) ?_)));refine(xaa _ rfl a _ _ _ rfl rfl o h0 (jAEA rfl _ rfl (iteKF (hdF (xcv (by intro _ _ _ e;cases e))) ?_)));exact(jEA _ rfl (q p kvs H (Same.refl _) (.inl rfl) O i))
theorem xgb{a:Mak}{x:Str}{hd:Hand}(h:xeh a x=some hd):hd∈a.hands/\hd.name=x:=⟨zMF h,by
 have:=List.find?_some h;exact of_decide_eq_true this⟩
theorem xj0{a:Mak}{hd:Hand}(h:(hd.boxes.map (·.1)).Nodup):((begL a hd).map (·.1)).Nodup:=by
 unfold begL;rw[List.map_map];exact h
theorem xe3(T:Tx K o):DefIs P w K o base (n+1) "own_stand" ["stand"] xka:=by
 refine DefIs.of T.jO xia (by walk_at"l") (λf x A outer s H vs Q E y h=>?_);obtain⟨i,p,k,bx,rfl,⟨a,kvs,u,g⟩,m,q⟩:=h;refine(jEA _ (zpo (xai (xay (zpc (px K (pv 0) pI) (zpc (xao xcr rfl T.k0 PyProof.Rows.boot_dict (zpc (px K (pv 0) pI) pN ss)) pN zsc) ss)))) ?_);refine(xaa _ rfl i _ _ _ rfl rfl (SqT.of a) rfl (xaa _ rfl i _ _ _ rfl rfl (SqT.of a) rfl (xan p kvs rfl u (λc l=>⟨(by walk_at"s"),λt r=>?_⟩))));have j:=Same.new l (.dK kvs);have e:=Same.new r (.tup [.int k,.ref c]);exact q t c _ (j.trans e) l (jAEA ups kvs (e _ _ ups) (g.tups (Same.tups (j.trans e))))
theorem xkq(T:Tx K mg)(g:DefIs P w K mg base n "hand_of" qac xfi)(j:DefIs P w K mg base n "nought" qao (spNu nuV 6)):DefIs P w K mg base (n+1) "begin_of" qac xni:=by
 refine DefIs.of T.jN xki (by walk_at"l") (λf a8 A outer s H vs Q E hr h=>?_);obtain⟨mv,x,o,hd,rfl,hm,I,hf,q⟩:=h;obtain⟨a4,a6⟩:=xgb hf;have z:=I.hok hd a4;refine(jEA _ (zpo (xai (xay (zpc pI (zpc (xao (xcw rfl) rfl T.k0 PyProof.Rows.boot_dict (zpc (xbt ["x","kind","make"] [none,none,some 0] rfl (by kernel_rfl) (xa1 (K:=K) rfl (px K (pd g hr (va 0 (v1 1))) pI)) (λ_ _ _ _=>(xa9 (K:=K) (n:=2) rfl rfl (xac (pgc 0) (xac (pgc 1) xa7)))) (λ_ _ _ _=>xb1) (λ_ _ _ _=>(xay (va 0 (zpc (pd j hr (zpc (px K (pv 2) pI) (v1 1) ss)) pN zsc))))) pN xbz)) pN zsc) so)))) ?_);obtain⟨ma,kv,cv,hv,rfl,a1,a3,_,_⟩:=mk_d hm;refine(xap _ rfl _ rfl _ x o (xbn hd rfl hm hf (λu hu=>?_)));obtain⟨a,bv,rv,rfl,ha,hb,_⟩:=hd_d hu;obtain⟨ba,us,rfl,O,hR⟩:=hb;have hl:=hR.length;rw[zLM]at hl;have h5:=z.few;refine(xbm a _ _ _ rfl rfl (SqT.of ha) rfl ba (jAA rfl ⟨_,SqT.of O⟩ ?_));refine xbx (xs:=us) (λi ys G=>Same H G/\∃kvs,PairsV G ys kvs/\KvD G kvs ((begL o hd).take i)) (jAEA (Same.refl _) ([]) trivial (by rw[List.take_zero];trivial)) (xba (by omega)) (λi ys G _ p=>SqT.of (p.1 _ _ O)) ?_ ?_
 ·rintro i y ys G hy hi J ⟨m,kvs,r,l⟩
  obtain⟨d,M,rd⟩:=hR.get hy;rw[zGM]at M;obtain⟨b,U,rfl⟩:=zMS M;obtain⟨pb,ws,rfl,a0,_,_,rfl,rfl,_,_,rfl,rfl,rfl⟩:=rd;have a5:=zMG U;refine(xas pb _ rfl (SqT.of (m _ _ a0)) rfl _ _ rfl _ (xbn _ rfl rfl (ext2 rfl rfl) (xdw ?_)));refine(xap _ rfl _ rfl ma _ _ (xbr _ rfl rfl (SqT.of (m _ _ a1)) rfl _ rfl (xaq kv o.kinds b.2 rfl (a3.same m _) I.wf (z.kin b a5) (λu H2 s2 r2=>⟨(by walk_at"s"),λt Y=>nxtG hi J ?_⟩))));have C:=Same.new Y (.tup [.str b.1,u]);refine(jAEA (m.trans (s2.trans C)) (kvs++[(Sum.inr b.1,u)]) ?_ ?_)
  ·exact(r.same (Same.tups (s2.trans C))).append ⟨(jEA t rfl ups),trivial⟩
  ·have e:(begL o hd).take (i+1)=(begL o hd).take i++[(b.1,nuV 7 o.kinds b.2)]:=by
    rw[zTA];unfold begL;rw[zGM,U];rfl
   rw[e];exact(l.tups (Same.tups (s2.trans C))).snoc (r2.same C _)
 ·rintro ys G J ⟨m,kvs,r,l⟩ D hD
  have Z:=Same.new hD (.lst ys);have a7:(begL o hd).length=us.length:=by unfold begL;rw[zLM,hl]
  rw[zTL (by omega)]at l;refine(xdd D ys kvs rfl ups (r.same (Same.tups Z)) (λc hc=>⟨(by walk_at"s"),λt Y=>?_⟩))
  have a2:(kvs.map (·.1)).Nodup:=by
   rw[l.keys];exact xgy (xj0 z.nd)
  rw[xdn a2]at Y⊢;have C:=Same.new hc (.dK kvs);have s4:=Same.new Y (.tup [.int 0,.ref c]);have sA:=Z.trans (C.trans s4);exact q t c _ (m.trans sA) (xaf (m.trans Z) hc) (jAEA ups kvs (s4 _ _ ups) (l.tups (Same.tups sA)))
theorem xe4(T:Tx K mg):DefIs P w K mg base (n+1) "own_lists" ["lists"] xkb:=by
 refine DefIs.of T.jP xib (by walk_at"l") (λf ah A outer s H vs Q E hr h=>?_);obtain⟨d,kvs,cs,L,rfl,hd,a0,aa,ag,q⟩:=h;have a1:=a0.lens;refine(jEA _ (zpo (xai (xao (xcw rfl) rfl T.k0 PyProof.Rows.boot_dict (zpc (xr5 (xbt ["name","each"] [none,none] rfl (by kernel_rfl) (xpp (pv 0)) (λ_ _ _ _=>(xa9 (K:=K) (n:=2) rfl rfl (xac (pgc 0) (xac (pgc 1) xa7)))) (λ_ _ _ _=>xb1) (λ_ _ _ _=>(xay (va 0 (zpc (xao (xew (K:=K) rfl) rfl T.k6 PyProof.Rows.boot_list (v1 1)) pN zsc)))))) pN xbz)))) ?_);refine(xax _ rfl d kvs rfl hd (λo nz=>?_));have C:∀{g:Hp},Same (upd H d (.frz o (.dK kvs))) g->∀b u,H b=some u->b≠d->g b=some u:=λs b u e n=>s b u (by rw[xad n];exact e);have a6:∀{g:Hp},Same (upd H d (.frz o (.dK kvs))) g->∀b vs,H b=some (.tup vs)->g b=some (.tup vs):=λs b vs e=>C s b _ e λz=>by subst z;rw[hd]at e;cases e
 have a8:∀{g:Hp},Same (upd H d (.frz o (.dK kvs))) g->LsAt g kvs cs L:=λs=>a0.keep (a6 s) λa ha us e=>C s a _ e λz=>by subst z;rw[hd]at e;cases e
 have a5:∀{g:Hp},Same (upd H d (.frz o (.dK kvs))) g->∀{b:Addr},g b=none->H b=none:=λ{g} s {b} e=>by
  cases h:H b with
  |none=>rfl
  |some u=>
   by_cases Y:b=d
   ·rw[Y,s _ _ ups]at e;cases e
   ·rw[C s b u h Y]at e;cases e
 refine xmu (λi ys g=>Same (upd H d (.frz o (.dK kvs))) g/\∃j U,PairsV g ys j/\LsAt g j (cs.take i) U/\U.Nodup/\∀a∈U,H a=none) (jAE (Same.refl _) ([]) (xbn ([]) trivial (by rw[List.take_zero];trivial) List.nodup_nil (λ_ h=>nomatch h))) (xba (by omega)) (λi ys g _ p=>p.1 _ _ ups) ?_ ?_
 ·rintro i kv p ys g ab hi Z hp ⟨r,j,U,M,m,I,O⟩
  obtain⟨c,a,us,G,rfl,ha,a9⟩:=(a8 r).idx ab;have sp:=Same.new hp (.tup [kV (Sum.inr c.1),.ref a]);refine(xas p _ rfl (SqT.of ups) rfl _ _ rfl _ (xbn _ rfl rfl (ext2 rfl rfl) (xdw ?_)));refine(jEA _ rfl (xax _ rfl a us rfl (.inl (SqL.of (sp _ _ ha))) (λl hl=>⟨(by walk_at"s"),λt ht=>nxtG hi Z ?_⟩)));have sl:=Same.new hl (.lst us);have st:=Same.new ht (.tup [.str c.1,.ref l]);have sA:=sp.trans (sl.trans st);have a2:=xaf sp hl;refine(jAE (r.trans sA) (j++[(Sum.inr c.1,.ref l)]) (xbn (U++[l]) ((M.same (Same.tups sA)).append ⟨(jEA t rfl ups),trivial⟩) ?_ ?_ ?_))
  ·rw[zTA,G]
   exact(m.same sA).snoc (c:=c.1) (a:=l) (us:=us) (st _ _ ups) (a9.same sA _)
  ·refine List.nodup_append.mpr (jAA I (by simp) (λx J y hy e=>?_))
   rw[zMO hy]at e;obtain⟨zs,hz⟩:=m.there x J;rw[e,a2]at hz;cases hz
  ·intro x J
   rcases zMA J with J |J
   ·exact O x J
   ·rw[zMO J]
    exact a5 r a2
 ·rintro ys g Z ⟨r,j,U,M,m,I,O⟩ D hD
  rw[a1.1,zTL (Nat.le_refl _)]at m;have sD:=Same.new hD (.lst ys);refine(xcd d o kvs (sD _ _ (r _ _ ups)) nz ?_);have a4:D≠d:=λz=>by rw[z,r _ _ ups]at hD;cases hD
  have a7:∀b vs,g b=some (.tup vs)->upd (upd g D (.lst ys)) d (.dK kvs) b=some (.tup vs):=λb vs e=>by
   rw[xad (λz=>by rw[z,r _ _ ups]at e;cases e)];exact sD _ _ e
  refine(xdd D ys j rfl (by rw[xad a4,ups]) (M.same a7) (λc G=>?_))
  have ac:(j.map (·.1)).Nodup:=by
   rw[m.keys];exact xgy aa
  rw[xdn ac];have sc:=Same.new G (.dK j);have ae:c≠d:=λz=>by rw[z,ups]at G;cases G
  have af:c≠D:=λz=>by rw[z,xad a4,ups]at G;cases G
  have a3:g c=none:=by
   rw[xad ae,xad af]at G;exact G
  have all:∀b u,g b=some u->b≠d->upd (upd (upd g D (.lst ys)) d (.dK kvs)) c (.dK j) b=some u:=λb u e n=>sc _ _ (by rw[xad n];exact sD _ _ e);refine q c j U _ (λb u e=>?_) (a5 r a3) O (List.nodup_cons.mpr ⟨λh=>?_,I⟩) ups ?_
  ·by_cases Y:b=d
   ·subst Y
    rw[hd]at e;cases e;exact sc _ _ ups
   ·exact all b u (C r b u e Y) Y
  ·obtain⟨zs,hz⟩:=m.there c h
   rw[a3]at hz;cases hz
  ·refine m.keep (λb vs e=>all b _ e λz=>by rw[z,r _ _ ups]at e;cases e) λa ha us e=>all a _ e λz=>by rw[z,r _ _ ups]at e;cases e
structure Here(H:Hp)(mv:V)(x:Str)(sa p:Addr)(k:Nat)(bx:List (Str×D))(mk:Mak)(hd:Hand)(r:Row):Prop where
 md:RelD H mv mk.d
 mok:MakOk mk
 hf:xeh mk x=some hd
 st:StAt H sa p k bx
 few:bx.length<=6
 fit:FitB mk.kinds hd.boxes (enOf bx)
 row:hd.rows[k]?=some r
theorem Here.ok{H:Hp}{e:V}{x:Str}{c p:Addr}{k:Nat}{bx:List (Str×D)}{a:Mak}{hd:Hand}{r:Row}(h:Here H e x c p k bx a hd r):xff a.kinds a.chans x hd.boxes hd.rows.length r:=by
 have hi:=xgb h.hf;have:=(h.mok.hok hd hi.1).ok r (zMG h.row)
 rwa[hi.2]at this
def xg7:Sp:=λvs H Q _=>∃(mv lv:V) (x:Str) (sa p:Addr) (k:Nat) (bx:List (Str×D)) (l:D) (mk:Mak) (hd:Hand) (r:Row),vs=[mv,.str x,.ref sa,lv]/\Here H mv x sa p k bx mk hd r ∧
 ((r=.fin/\Q .non H)\/(∃n c y,r=.take n c y/\lv=.non/\Q .non H)\/(r≠.fin/\(∀n c y,r=.take n c y->lv≠.non/\RelD H lv l)/\∀a' p' H',Same H H'->p'=p\/H p'=none->StAt H' a' p' (xcn mk.kinds bx k r) (xf5 mk.kinds bx l r)->Q (.ref a') H'))
def xvw(H:Hp)(Q:VK)(mk:Mak)(k:Nat)(bx:List (Str×D))(p ca ga ta:Addr):Row->Prop
 |.fin=>Q .non H
 |.take _ c x=>∃kvs la us ds,H ca=some (.dK kvs)/\valV kvs (Sum.inr c)=some (.ref la)/\H la=some (.lst us)/\RelDs H us ds/\(ds=[]->Q .non H)/\∀d ds',ds=d::ds'->∀a' p' H',Chg la us.tail H H'->p'=p\/H p'=none->StAt H' a' p' (k+1) (putA bx x d)->Q (.ref a') H'
 |.send c t=>∃kvs la us,H ga=some (.dK kvs)/\valV kvs (Sum.inr c)=some (.ref la)/\H la=some (.lst us)/\us.length<=1000/\∀a' p' u H',Chg la (us++[u]) H H'->RelD H' u (wv mk.kinds bx t)->p'=p\/H p'=none->StAt H' a' p' (k+1) bx->Q (.ref a') H'
 |.tell t=>∃us,H ta=some (.lst us)/\us.length<=1000/\∀a' p' u H',Chg ta (us++[u]) H H'->RelD H' u (wv mk.kinds bx t)->p'=p\/H p'=none->StAt H' a' p' (k+1) bx->Q (.ref a') H'
 |r=>∀a' p' H',Same H H'->p'=p\/H p'=none->StAt H' a' p' (xcn mk.kinds bx k r) (xf5 mk.kinds bx (.int 0) r)->Q (.ref a') H'
def xnf:Sp:=λvs H Q _=>∃(mv:V) (x:Str) (sa ca ga ta p:Addr) (k:Nat) (bx:List (Str×D)) (mk:Mak) (hd:Hand) (r:Row),vs=[mv,.str x,.ref sa,.ref ca,.ref ga,.ref ta]/\Here H mv x sa p k bx mk hd r/\xvw H Q mk k bx p ca ga ta r
theorem xry{H:Hp}{d:D}{v:V}(h:RelD H v d):v≠.non:=by
 intro e;subst e
 cases d with
 |int i=>exact nomatch h
 |str x=>exact nomatch h
 |tup ds=>obtain⟨_,_,e,_⟩:=h;exact nomatch e
theorem xn3(T:Tx K mg)(u:DefIs P w K mg base n "row_at" qai xg8)(m:DefIs P w K mg base n "row_behind" qa5 xqz)(i:DefIs P w K mg base n "boxes_behind" qat xtm):DefIs P w K mg base (n+1) "stride" qas xg7:=by
 refine DefIs.of T.jS sc_stride (by walk_at"l") (λf a8 A outer s H vs Q E hr h=>?_);obtain⟨mv,lv,x,sa,p,k,bx,l,mk,hd,r,rfl,o,q⟩:=h;have nd:=sc_stride.nd
 refine⟨_,(zpn (psn 4 nd (pd u hr (va 0 (va 1 (v1 2)))))
   (zpn (xa4 (PW.pt (xgj (pR xa6 (px K (pv 4) pI) pS (nM _)) (xgq (PW.pt (xcj (pR xa6 (px K (pv 4) pI) pS (nM _)) (xb0 (pR xin (pv 3) xdx (nM _)))))))) (zpo (xai xdx)) pQ)
   (zpo (xai (xay (zpc (pd m hr (va 0 (va 4 (v1 2)))) (zpc (pd i hr (va 0 (va 4 (zpc (px K (pv 2) pI) (v1 3) ss)))) pN zsc) zsc)))))),xab λR1 a6=>?_⟩
 refine(xbk _ rfl _ rfl _ rfl mv x (xau sa p k mk hd (xbc r rfl o.md o.hf o.st.1 o.row (λrv Y=>a6 _ _ (xab λR2 a5=>?_)))));have G:=Y;obtain⟨a,us,rfl,ha,a7⟩:=xig Y;have M:SqT K H a (.str r.hd::us):=SqT.of ha;have h0:atI (V.str r.hd::us) 0=some (.str r.hd):=xa2 (j:=0) rfl;have Z:=o.ok;rcases q with⟨rfl,q⟩ |⟨nn,c,y,rfl,rfl,q⟩ |⟨a0,hl,q⟩
 ·exact(xaa _ rfl a _ _ _ rfl rfl M h0 (jAEA rfl _ rfl (iteKT (hdT rfl) (iteT q))))
 ·refine(xaa _ rfl a _ _ _ rfl rfl M h0 (jAEA rfl _ rfl (iteKF (hdF (xjj (by intro e;cases e))) ?_)))
  exact(xaa _ rfl a _ _ _ rfl rfl M h0 (jAEA rfl _ rfl (iteKT (hdT rfl) (xaz _ rfl rfl _ rfl (iteKT (zDT rfl) q)))))
 ·have U:R2 [some mv,some (.str x),some (.ref sa),some lv,some (.ref a)] H:=by
   refine a5 _ _ ?_;refine(xbk _ rfl _ rfl _ rfl mv (.ref a) (xau sa p k bx mk (xa8 hd.boxes r rfl o.md o.mok.wf G a0 (jAAA o.st o.few o.fit ⟨λt g e=>?_,λH1 C=>?_⟩))))
   ·subst e
    exact Z.1
   obtain⟨a1,kvs,hp,a3⟩:=o.st;refine(xbk _ rfl _ rfl _ rfl sa _ (xck _ _ rfl rfl (SqT.of (C _ _ a1)) rfl (jEA _ rfl ?_)));refine(xau mv (.ref a) lv p kvs (xaj bx l mk hd.boxes r rfl (o.md.same C _) o.mok.wf (G.same C _) (C _ _ hp) (jAAA (a3.tups (Same.tups C)) o.few o.fit (jAA (λz t e=>?_) (λI J z e=>(hl I J z e).2.same C _) (λp' O H2 s2 a2 h2 a4=>⟨(by walk_at"s"),λt ht=>?_⟩)))))
   ·subst e
    obtain⟨kk,_,h⟩:=Z;exact⟨kk,h⟩
   have s3:=Same.new ht (.tup [.int (xcn mk.kinds bx k r:Nat),.ref p']);exact q t p' _ (C.trans (s2.trans s3)) (a2.imp id λh=>xaf C h) (jAEA ups O (s3 _ _ h2) (a4.tups (Same.tups s3)))
  refine(xaa _ rfl a _ _ _ rfl rfl M h0 (jAEA rfl _ rfl (iteKF (hdF (xjj a0)) ?_)));by_cases ht:∃I J z,r=.take I J z
  ·obtain⟨I,J,z,rfl⟩:=ht
   exact(xaa _ rfl a _ _ _ rfl rfl M h0 (jAEA rfl _ rfl (iteKT (hdT rfl) (xaz _ rfl rfl _ rfl (iteKF (zDF (hl I J z rfl).1) U)))))
  ·exact(xaa _ rfl a _ _ _ rfl rfl M h0 (jAEA rfl _ rfl (iteKF (hdF (xcv λI J z e=>ht (jEEE I J z e))) (iteF U))))
theorem xsf(T:Tx K mg)(Z:DefIs P w K mg base n "row_at" qai xg8)(Y:DefIs P w K mg base n "stride" qas xg7)(l:DefIs P w K mg base n "first_letter" qar xnd)(G:DefIs P w K mg base n "worth" qae (xc3 (λks=>Ev ks 21) 6)):DefIs P w K mg base (n+1) "done" qau xnf:=by
 refine DefIs.of T.jV sc_done (by walk_at"l") (λf an A outer s H vs Q E hr h=>?_);obtain⟨mv,x,sa,ca,ga,ta,p,k,bx,M,hd,r,rfl,o,q⟩:=h;have nd:=sc_done.nd;have hu:=xfe hr
 refine⟨_,(zpn (psn 6 nd (pd Z hr (va 0 (va 1 (v1 2)))))
   (zpn (psn 7 nd (pd Y hr (va 0 (va 1 (va 2 (zpc (pd l hr (va 6 (v1 3))) pN zsc))))))
   (zpn (xa4 (pR xin (pv 7) xdx (nM _)) (zpo (xai xdx)) pQ)
   (zpn (xa4 (pR xa6 (px K (pv 6) pI) pS (nM _)) (zpo (xbl (xc4 PySem.F.plainAttrs_list PySem.F.slot_list_pop PySem.F.type_list_pop xfl (xbf hu (pv 3) (px K (pv 6) pI) (λ_ _=>rfl)) (zpc pI pN so)))) (zpo (xa4 (pR xa6 (px K (pv 6) pI) pS (nM _)) (zpo (xbl (xc4 PySem.F.plainAttrs_list PySem.F.slot_list_append PySem.F.type_list_append xbj (xbf hu (pv 4) (px K (pv 6) pI) (λ_ _=>rfl)) (zpc (pd G hr (zpc (px K (pv 0) pI) (zpc (px K (pv 6) pI) (zpc (px K (pv 2) pI) pN ss) ss) ss)) pN zsc)))) (zpo (xa4 (pR xa6 (px K (pv 6) pI) pS (nM _)) (zpo (xbl (xc4 PySem.F.plainAttrs_list PySem.F.slot_list_append PySem.F.type_list_append xbj (pv 5) (zpc (pd G hr (zpc (px K (pv 0) pI) (zpc (px K (pv 6) pI) (zpc (px K (pv 2) pI) pN ss) ss) ss)) pN zsc)))) pQ)))))
   (zpo (xai (pv 7))))))),xab λR1 ak=>?_⟩
 refine(xbk _ rfl _ rfl _ rfl mv x (xau sa p k M hd (xbc r rfl o.md o.hf o.st.1 o.row (λrv O=>ak _ _ (xab λR2 a2=>?_)))));have aa:=o.ok;obtain⟨a,us,rfl,ha,a3⟩:=xig (id O);have U:∀{H'},Same H H'->SqT K H' a (.str r.hd::us):=λs=>SqT.of (s _ _ ha);have h0:atI (V.str r.hd::us) 0=some (.str r.hd):=xa2 (j:=0) rfl
 have wk:∀{H1 t kk u},Same H H1->TmOk M.kinds 21 hd.boxes t kk->RelD H u t->∃(ma:Addr) (kv cv hv:V),mv=.ref ma/\H1 ma=some (.tup [kv,cv,hv])/\KsAt H1 kv M.kinds/\RelD H1 u t/\EnAt H1 p 6 (enOf bx)/\Ev M.kinds 21 (enOf bx) t (wv M.kinds bx t):=λ{H1 t kk u} s1 tok hu=>by
  obtain⟨ma,kv,cv,hv,e,a1,ai,_,_⟩:=mk_d o.md;obtain⟨_,kvs,hp,ah⟩:=o.st;exact(xav ma kv cv hv e (s1 _ _ a1) (o.mok.wf.ksAt (ai.same s1 _)) (hu.same s1 _) (KvD.en (s1 _ _ hp) (ah.tups (Same.tups s1)) o.few) ((xhv tok o.fit).1))
 have shut:Q .non H->R2 [some mv,some (.str x),some (.ref sa),some (.ref ca),some (.ref ga),some (.ref ta),some (.ref a),some .non] H:=λq=>a2 _ _ (xab λR3 C=>(xaz _ rfl rfl _ rfl (iteKT (zDT rfl) q)))
 cases r with
 |fin=>
  exact(xaw _ rfl _ rfl _ rfl _ rfl _ rfl (xcd (.ref a) ca (.fin) rfl O (xau mv (.non) x sa p (xau k bx (.int 0) M hd (jEAA (.fin) rfl o (.inl ⟨rfl,shut q⟩))))))
 | take nn c y=>
  obtain⟨kvs,la,ls,ds,af,hv,i,ac,qn,qs⟩:=q;obtain⟨_,_,rfl,rfl,_,_,rfl,rfl,_,_,rfl,rfl,rfl⟩:=a3;refine(xaw _ rfl _ rfl _ rfl _ rfl _ rfl (xcd (.ref a) ca (.take nn c y) rfl O (xdd kvs la ls af hv i ?_)))
  cases ds with
  |nil=>
   obtain rfl:ls=[]:=ac;exact(xau mv (.non) x sa p (xau k bx (.int 0) M hd (jEAA _ rfl o (.inr (.inl (xcd nn c y rfl rfl (shut (qn rfl))))))))
  | cons d ds=>
   obtain⟨lv,a9,rfl,ab,al⟩:=ac;refine(xau mv lv x sa p (xau k bx d M hd (jEAA _ rfl o (.inr (.inr (jAA (by intro e;cases e) (λ_ _ _ _=>⟨xry ab,ab⟩) (λa' p' H' g I st'=>?_)))))));refine a2 _ _ (xab λR3 C=>(xaz _ rfl rfl _ rfl (iteKF (zDF λz=>nomatch z) (C _ _ (xab λR4 J=>?_)))))
   have gd:DGet H' ca (.str c) (some (.ref la)):=by
    have:=DGet.rd (k:=Sum.inr c) (.inl (g _ _ af));rw[hv]at this;exact this
   refine(xaa _ rfl a _ _ _ rfl rfl (U g) h0 (jAEA rfl _ rfl (iteKT (hdT rfl) ?_)));refine(xap _ rfl _ rfl a _ _ (xb5 _ rfl rfl (U g) rfl (xbh ca _ rfl gd (.inl (jAE rfl _ (SqL.of (g _ _ i)))) (xaj la _ 0 0 lv rfl rfl (g _ _ i) (by decide) (by decide) (jAA (by simp[seqIndex?]) rfl ?_)))));refine J _ _ (jEA _ rfl ?_);have ch:Chg la a9 H' (upd H' la (.lst a9)):=Chg.upd;exact qs d ds rfl a' p' _ (Chg.pre g ch) I (st'.chg (g _ _ i) ch)
 | send c t=>
  obtain⟨kvs,la,ls,aj,hv,i,ae,qs⟩:=q;obtain⟨_,_,rfl,rfl,tv,_,rfl,a5,rfl⟩:=a3;obtain⟨am,_,_,_,tok⟩:=aa;refine(xaw _ rfl _ rfl _ rfl _ rfl _ rfl (xcd (.ref a) ca (.send c t) rfl O ?_));refine(xau mv (.non) x sa p (xau k bx (.int 0) M hd (jEAA _ rfl o (.inr (.inr (jAA (by intro e;cases e) (λ_ _ _ e=>by cases e) (λa' p' H' g I st'=>?_)))))));refine a2 _ _ (xab λR3 C=>(xaz _ rfl rfl _ rfl (iteKF (zDF λz=>nomatch z) (C _ _ (xab λR4 J=>?_)))))
  have gd:DGet H' ga (.str c) (some (.ref la)):=by
   have:=DGet.rd (k:=Sum.inr c) (.inl (g _ _ aj));rw[hv]at this;exact this
  obtain⟨ma,kv,cv,ag,rfl,a1,a6,a0,a8,a7⟩:=wk g tok a5;refine(xaa _ rfl a _ _ _ rfl rfl (U g) h0 (jAEA rfl _ rfl (iteKF (hdF (xcv (by intro _ _ _ e;cases e))) ?_)));refine(xaa _ rfl a _ _ _ rfl rfl (U g) h0 (jAEA rfl _ rfl (iteKT (hdT rfl) ?_)));refine(xap _ rfl _ rfl a _ _ (xb5 _ rfl rfl (U g) rfl (xbh ga _ rfl gd (.inl (jAE rfl _ (SqL.of (g _ _ i)))) ?_)));refine(xaa _ rfl ma _ _ _ rfl rfl (SqT.of a1) rfl (xaa _ rfl a _ _ _ rfl rfl (U g) rfl (xaa _ rfl sa _ _ _ rfl rfl (SqT.of (g _ _ o.st.1)) rfl ?_)));refine(xau _ _ p M.kinds t (xa8 (enOf bx) _ rfl a6 a0 a8 a7 (λu H2 s2 a4=>?_)));have m:=g.trans s2;refine(xaq la _ u rfl rfl (m _ _ i) (xba (by omega)) (J _ _ (jEA _ rfl ?_)));have ch:Chg la (ls++[u]) H2 (upd H2 la (.lst (ls++[u]))):=Chg.upd;exact qs a' p' u _ (Chg.pre m ch) (a4.tups (ch.tups (m _ _ i)) _) I ((st'.same s2).chg (m _ _ i) ch)
 |tell t=>
  obtain⟨ls,i,ae,qs⟩:=q;obtain⟨tv,_,rfl,a5,rfl⟩:=a3;refine(xaw _ rfl _ rfl _ rfl _ rfl _ rfl (xcd (.ref a) ca (.tell t) rfl O ?_));refine(xau mv (.non) x sa p (xau k bx (.int 0) M hd (jEAA _ rfl o (.inr (.inr (jAA (by intro e;cases e) (λ_ _ _ e=>by cases e) (λa' p' H' g I st'=>?_)))))));refine a2 _ _ (xab λR3 C=>(xaz _ rfl rfl _ rfl (iteKF (zDF λz=>nomatch z) (C _ _ (xab λR4 J=>?_)))));obtain⟨ma,kv,cv,ag,rfl,a1,a6,a0,a8,a7⟩:=wk g aa a5;refine(xaa _ rfl a _ _ _ rfl rfl (U g) h0 (jAEA rfl _ rfl (iteKF (hdF (xcv (by intro _ _ _ e;cases e))) ?_)));refine(xaa _ rfl a _ _ _ rfl rfl (U g) h0 (jAEA rfl _ rfl (iteKF (hdF (xdz (by intro _ _ e;cases e))) ?_)));refine(xaa _ rfl a _ _ _ rfl rfl (U g) h0 (jAEA rfl _ rfl (iteKT (hdT rfl) ?_)));refine(jEAA _ rfl (.inl (jAE rfl _ (SqL.of (g _ _ i)))) ?_);refine(xaa _ rfl ma _ _ _ rfl rfl (SqT.of a1) rfl (xaa _ rfl a _ _ _ rfl rfl (U g) rfl (xaa _ rfl sa _ _ _ rfl rfl (SqT.of (g _ _ o.st.1)) rfl ?_)));refine(xau _ _ p M.kinds t (xa8 (enOf bx) _ rfl a6 a0 a8 a7 (λu H2 s2 a4=>?_)));have m:=g.trans s2;refine(xaq ta _ u rfl rfl (m _ _ i) (xba (by omega)) (J _ _ (jEA _ rfl ?_)));have ch:Chg ta (ls++[u]) H2 (upd H2 ta (.lst (ls++[u]))):=Chg.upd;exact qs a' p' u _ (Chg.pre m ch) (a4.tups (ch.tups (m _ _ i)) _) I ((st'.same s2).chg (m _ _ i) ch)
 |_=>
  refine(xaw _ rfl _ rfl _ rfl _ rfl _ rfl (xcd (.ref a) ca _ rfl O ?_));refine(xau mv (.non) x sa p (xau k bx (.int 0) M hd (jEAA _ rfl o (.inr (.inr (jAA (by intro e;cases e) (λ_ _ _ e=>by cases e) (λa' p' H' g I st'=>?_)))))));refine a2 _ _ (xab λR3 C=>(xaz _ rfl rfl _ rfl (iteKF (zDF λz=>nomatch z) (C _ _ (xab λR4 J=>?_)))));refine(xaa _ rfl a _ _ _ rfl rfl (U g) h0 (jAEA rfl _ rfl (iteKF (hdF (xcv (by intro _ _ _ e;cases e))) ?_)));refine(xaa _ rfl a _ _ _ rfl rfl (U g) h0 (jAEA rfl _ rfl (iteKF (hdF (xdz (by intro _ _ e;cases e))) ?_)));refine(xaa _ rfl a _ _ _ rfl rfl (U g) h0 (jAEA rfl _ rfl (iteKF (hdF (xep (by intro _ e;cases e))) ?_)));exact J _ _ (jEA _ rfl (q a' p' H' g I st'))
structure LnHere(K:Fg)(H:Hp)(x:Addr)(mv:V)(h:Str)(a:LnA)(st:LSt)(mk:Mak)(hd:Hand):Prop where
 at_:LnAt H (ad K "Lone") x mv h a st
 md:RelD H mv mk.d
 mok:MakOk mk
 hf:xeh mk h=some hd
 ok:LOk mk hd st
theorem LnHere.same{K:Fg}{H H':Hp}{x:Addr}{mv:V}{h:Str}{a:LnA}{st:LSt}{mk:Mak}{hd:Hand}(l:LnHere K H x mv h a st mk hd)(s:Same H H'):LnHere K H' x mv h a st mk hd:=⟨l.at_.same s,l.md.same s _,l.mok,l.hf,l.ok⟩
def xkc(K:Fg):Sp:=λvs H Q _=>∃(x:Addr) (mv:V) (h:Str) (a:LnA) (st:LSt) (mk:Mak) (hd:Hand) (r:Row),vs=[.ref x]/\LnHere K H x mv h a st mk hd/\hd.rows[st.row]?=some r/\st.many<=900/\(r.shut st.com=true->Q (.bl false) H) ∧
 (r.shut st.com=false->∀a' H',(∀b o,H b=some o->b ∉a.F x->H' b=some o)->(∀b vs,H b=some (.tup vs)->H' b=some (.tup vs))->(∀b∈a'.F x,b∈a.F x\/H b=none)->LnHere K H' x mv h a' (st.next mk.kinds r) mk hd->Q (.bl true) H')
def xg9(K:Fg):Sp:=λvs H Q _=>∃(x:Addr) (mv:V) (h:Str) (a:LnA) (st:LSt),vs=[.ref x]/\LnAt H (ad K "Lone") x mv h a st/\st.bx.length<=100/\∀sa' p' H',Same H H'->H p'=none->StAt H' sa' p' st.row st.bx->Q (.ref sa') H'
def xm9(K:Fg):Sp:=λvs H Q _=>∃(x:Addr) (mv:V) (h:Str) (a:LnA) (st:LSt),vs=[.ref x]/\LnAt H (ad K "Lone") x mv h a st/\∀l us H',Same H H'->H l=none->H' l=some (.lst us)->RelDs H' us st.told->Q (.ref l) H'
def xd3(K:Fg)(F:LSt->Lts):Sp:=λvs H Q _=>∃(x:Addr) (mv:V) (h:Str) (a:LnA) (st:LSt),vs=[.ref x]/\LnAt H (ad K "Lone") x mv h a st/\((F st).map (·.1)).Nodup/\(F st).length<=100/\∀d' kvs' L' H',Same H H'->H d'=none->(∀a∈L',H a=none)->(d'::L').Nodup->H' d'=some (.dK kvs')->LsAt H' kvs' (F st) L'->Q (.ref d') H'
def xld(K:Fg):Sp:=λvs H Q _=>∃(x:Addr) (mv:V) (h:Str) (a:LnA) (st:LSt),vs=[.ref x]/\LnAt H (ad K "Lone") x mv h a st/\Q (.int st.many) H
theorem xhn(T:Tx K mg):MethIs P w K mg base (n+1) (ad K "Lone") "count" qaa [[]] (xld K):=by
 refine MethIs.of T.uK xhf (λvs H Q E h=>?_) (λf cdv A outer s H vs Q E hr h=>?_)
 ·obtain⟨_,_,_,_,_,rfl,_⟩:=h
  rfl
 obtain⟨x,mv,h,a,st,rfl,l,q⟩:=h;obtain⟨fs,hx,lf⟩:=l.ob;refine(jEA _ (zpo (xai (xdu (pv 0) rfl))) ?_);exact(xa5 _ rfl x _ _ fs (xbc _ rfl hx T.uD.cl (T.uD.no _ (by simp)) lf.mn q))
theorem xiu(T:Tx K mg):MethIs P w K mg base (n+1) (ad K "Lone") "told" qaa [[]] (xm9 K):=by
 refine MethIs.of T.uH xic (λvs H Q E h=>?_) (λf cdv A outer s H vs Q E hr h=>?_)
 ·obtain⟨_,_,_,_,_,rfl,_⟩:=h
  rfl
 obtain⟨x,mv,h,a,st,rfl,l,q⟩:=h;obtain⟨fs,hx,lf⟩:=l.ob;obtain⟨ut,hta,hut⟩:=l.tel;refine(jEA _ (zpo (xai (xao xb6 rfl T.k6 PyProof.Rows.boot_list (zpc (xdu (pv 0) rfl) pN xcl)))) ?_);refine(xa5 _ rfl x _ _ fs (xbc _ rfl hx T.uD.cl (T.uD.no _ (by simp)) lf.tl (xan a.ta ut rfl (.inl (SqL.of hta)) (λb hb=>?_))));have sb:=Same.new hb (.lst ut);exact q b ut _ sb hb ups (hut.same sb _)
theorem xhm(T:Tx K mg)(D_own_stand:DefIs P w K mg base n "own_stand" ["stand"] xka):MethIs P w K mg base (n+1) (ad K "Lone") "stand" qaa [[]] (xg9 K):=by
 refine MethIs.of T.uG xhe (λvs H Q E h=>?_) (λf cdv A outer s H vs Q E hr h=>?_)
 ·obtain⟨_,_,_,_,_,rfl,_⟩:=h
  rfl
 obtain⟨x,mv,h,a,st,rfl,l,h100,q⟩:=h;obtain⟨fs,hx,lf⟩:=l.ob;refine(jEA _ (zpo (xai (pd D_own_stand hr (zpc (xdu (pv 0) rfl) pN xcl)))) ?_);exact(xa5 _ rfl x _ _ fs (xbc _ rfl hx T.uD.cl (T.uD.no _ (by simp)) lf.nw (jEEE a.sa a.p st.row (xbn st.bx rfl l.sta h100 q))))
theorem xiw(T:Tx K mg)(D_own_lists:DefIs P w K mg base n "own_lists" ["lists"] xkb):MethIs P w K mg base (n+1) (ad K "Lone") "sent" qaa [[]] (xd3 K LSt.goi):=by
 refine MethIs.of T.uI xid (λvs H Q E h=>?_) (λf cdv A outer s H vs Q E hr h=>?_)
 ·obtain⟨_,_,_,_,_,rfl,_⟩:=h
  rfl
 obtain⟨x,mv,h,a,st,rfl,l,hnd,h100,q⟩:=h;obtain⟨fs,hx,lf⟩:=l.ob;obtain⟨kg,hga,hls⟩:=l.goi;refine(jEA _ (zpo (xai (pd D_own_lists hr (zpc (xdu (pv 0) rfl) pN xcl)))) ?_);exact(xa5 _ rfl x _ _ fs (xbc _ rfl hx T.uD.cl (T.uD.no _ (by simp)) lf.gn (xav a.ga kg st.goi a.Lg rfl hga hls hnd h100 q)))
theorem xix(T:Tx K mg)(D_own_lists:DefIs P w K mg base n "own_lists" ["lists"] xkb):MethIs P w K mg base (n+1) (ad K "Lone") "left" qaa [[]] (xd3 K LSt.com):=by
 refine MethIs.of T.uJ xie (λvs H Q E h=>?_) (λf cdv A outer s H vs Q E hr h=>?_)
 ·obtain⟨_,_,_,_,_,rfl,_⟩:=h
  rfl
 obtain⟨x,mv,h,a,st,rfl,l,hnd,h100,q⟩:=h;obtain⟨fs,hx,lf⟩:=l.ob;obtain⟨kg,hga,hls⟩:=l.com;refine(jEA _ (zpo (xai (pd D_own_lists hr (zpc (xdu (pv 0) rfl) pN xcl)))) ?_);exact(xa5 _ rfl x _ _ fs (xbc _ rfl hx T.uD.cl (T.uD.no _ (by simp)) lf.cm (xav a.ca kg st.com a.Lc rfl hga hls hnd h100 q)))
theorem xiv(T:Tx K mg)(D_done:DefIs P w K mg base n "done" qau xnf):MethIs P w K mg base (n+1) (ad K "Lone") "step" qaa [[]] (xkc K):=by
 refine MethIs.of T.uF sc_Lone_step (λvs H Q E h=>?_) (λf cdv A outer s H vs Q E hr h=>?_)
 ·obtain⟨_,_,_,_,_,_,_,_,rfl,_⟩:=h
  rfl
 obtain⟨x,mv,h,a,st,mk,hd,r,rfl,l,hrow,h900,qn,qs⟩:=h;have nd:=sc_Lone_step.nd;have l0:=l.at_;obtain⟨fs,hx,lf⟩:=l0.ob;obtain⟨hin,hnm⟩:=xgb l.hf;have hok:=l.mok.hok hd hin;have cl:=T.uD.cl;have no:=T.uD.no
 refine⟨_,(zpn (psn 1 nd (pd D_done hr (zpc (xdu (pv 0) rfl) (zpc (xdu (pv 0) rfl) (zpc (xdu (pv 0) rfl) (zpc (xdu (pv 0) rfl) (zpc (xdu (pv 0) rfl) (zpc (xdu (pv 0) rfl) pN xcl) xcl) xcl) xcl) xcl) xcl)))
   (zpn (xa4 (pR xin (pv 1) xdx (nM _)) (zpo (xai xil)) pQ)
   (zpn (xer (pv 0) (pv 1) rfl)
   (zpn (xer (pv 0) (xam xbd (xdu (pv 0) rfl) pI) rfl)
   (zpo (xai xil)))))),xab λR1 hR1=>?_⟩
 refine(xa5 _ rfl x _ _ fs (xbc _ rfl hx cl (no _ (by simp)) lf.mkv (xa5 _ rfl x _ _ fs (xbc _ rfl hx cl (no _ (by simp)) lf.nm (xa5 _ rfl x _ _ fs (xbc _ rfl hx cl (no _ (by simp)) lf.nw (xa5 _ rfl x _ _ fs (xbc _ rfl hx cl (no _ (by simp)) lf.cm (xa5 _ rfl x _ _ fs (xbc _ rfl hx cl (no _ (by simp)) lf.gn (xa5 _ rfl x _ _ fs (xbc _ rfl hx cl (no _ (by simp)) lf.tl ?_))))))))))));refine(xau mv h a.sa a.ca a.ga (xau a.ta a.p st.row st.bx mk (xan hd r rfl ⟨l.md,l.mok,l.hf,l0.sta,by have:=l.ok.bxlen hok;omega,l.ok.fit,hrow⟩ ?_)));have none_:Q (.bl false) H->R1 [some (.ref x),some .non] H:=λq=>hR1 _ _ (xab λR2 hR2=>(xaz _ rfl rfl _ rfl (iteKT (zDT rfl) q)))
 have some_:r.shut st.com=false->∀{sa' p':Addr} {H1:Hp},H1 x=some (.ins (ad K "Lone") a.dx fs)->StAt H1 sa' p' (xcn mk.kinds st.bx st.row r) (xf5 mk.kinds st.bx (r.letter st.com) r)->(∃kc,H1 a.ca=some (.dK kc)/\LsAt H1 kc (r.com st.com) a.Lc)->(∃kg,H1 a.ga=some (.dK kg)/\LsAt H1 kg (r.goi mk.kinds st.bx st.goi) a.Lg)->(∃ut,H1 a.ta=some (.lst ut)/\RelDs H1 ut (r.told mk.kinds st.bx st.told))->
   (∀b o,H b=some o->b ∉a.F x->H1 b=some o)->(∀b vs,H b=some (.tup vs)->H1 b=some (.tup vs))->p'=a.p\/H p'=none->R1 [some (.ref x),some (.ref sa')] H1:=λsh {sa' p' H1} hx1 h1 h2 h3 h4 fr tp hp=>by
  refine hR1 _ _ (xab λR2 hR2=>(xaz _ rfl rfl _ rfl (iteKF (zDF λz=>nomatch z) (hR2 _ _ (xab λR3 hR3=>?_)))));refine(xap _ rfl _ rfl x _ _ (xbc fs rfl hx1 cl (no _ (by simp)) (by have:=lf.len;omega) (hR3 _ _ (xab λR4 hR4=>?_))));have lf1:=lf.now sa';refine(xa5 _ rfl x _ _ _ (xbc _ rfl ups cl (no _ (by simp)) lf1.mn (xan _ _ rfl rfl (xaa _ rfl x _ _ _ rfl ups cl (no _ (by simp)) ⟨by have:=lf1.len;omega,hR4 _ _ ?_⟩))));rw[xg6]
  obtain⟨g1,g2,g3,g4⟩:=l0.stepped (st':=st.next mk.kinds r) (fs2:=putF (Str.ofString "many") (.int ((st.many:Int)+1)) (putF (Str.ofString "now") (.ref sa') fs)) hx1 (by
   have:=lf1.many ((st.many:Int)+1);rw[show((st.next mk.kinds r).many:Int)=(st.many:Int)+1 from by show((st.many+1:Nat):Int)=_;omega];exact this) h1 h2 h3 h4 fr tp hp
  exact qs sh _ _ g2 g3 g4 ⟨g1,l.md.tups g3 _,l.mok,l.hf,l.ok.next l.mok hin hrow sh⟩
 obtain⟨kc,hca,hlc⟩:=l0.com;obtain⟨kg,hga,hlg⟩:=l0.goi;obtain⟨ut,hta,hut⟩:=l0.tel;have ndl:=l0.nd;rw[List.nodup_cons,List.nodup_append]at ndl;obtain⟨nta,ndc,ndg,ncg⟩:=ndl;have hro:=hok.ok r (zMG hrow)
 have rest:∀{la:Addr} {us xs:List V} {H1:Hp},H la=some (.lst us)->la∈a.F x->Chg la xs H H1->H1 x=some (.ins (ad K "Lone") a.dx fs)/\H1 a.ca=some (.dK kc)/\H1 a.ga=some (.dK kg)/\(la ∉a.Lc->LsAt H1 kc st.com a.Lc)/\(la ∉a.Lg->LsAt H1 kg st.goi a.Lg)/\(a.ta≠la->H1 a.ta=some (.lst ut))/\RelDs H1 ut st.told/\(∀b o,H b=some o->b ∉a.F x->H1 b=some o)/\∀b vs,H b=some (.tup vs)->H1 b=some (.tup vs):=λ{la us xs H1} hla hF c=>by
  have tp:=c.tups hla;refine(jAAA (c.ne hx λz=>?_) (c.ne hca λz=>?_) (c.ne hga λz=>?_) (jAAA (λn=>hlc.keep tp λb hb zs e=>c.ne e λz=>n (z ▸ hb)) (λn=>hlg.keep tp λb hb zs e=>c.ne e λz=>n (z ▸ hb)) (λn=>c.ne hta n) (jAA (hut.tups tp _) (λb o e n=>c.ne e λz=>n (z ▸ hF)) tp)))
  ·rw[z,hla]at hx;cases hx
  ·rw[z,hla]at hca;cases hca
  ·rw[z,hla]at hga;cases hga
 have inF:∀la,la=a.ta\/la∈a.Lc\/la∈a.Lg->la∈a.F x:=λla h=>by
  simp only[LnA.F,List.mem_cons,List.mem_append];rcases h with h |h |h
  ·exact .inr (.inr (.inr (.inr (.inl h))))
  ·exact .inr (.inr (.inr (.inr (.inr (.inl h)))))
  ·exact .inr (.inr (.inr (.inr (.inr (.inr h)))))
 cases r with
 |fin=>exact none_ (qn rfl)
 | take nn c y=>
  obtain⟨ch,hc,rfl,hto,_⟩:=hro
  have hcm:ch.1∈st.com.map (·.1):=by
   rw[l.ok.com];exact List.mem_map_of_mem (List.mem_filter.mpr ⟨hc,zDT hto⟩)
  obtain⟨ds,hg,_⟩:=xe1 hcm;obtain⟨la,us,hv,hmem,hla,hus,mod⟩:=hlc.get ndc hg;have shE:(Row.take nn ch.1 y).shut st.com=ds.isEmpty:=by show((getL st.com ch.1).getD []).isEmpty=_;rw[hg];rfl
  refine(xav kc la us ds hca hv hla hus (λe=>none_ (qn (by rw[shE,e];rfl))) (λd ds' e sa' p' H1 chg hp' st'=>?_));subst e;obtain⟨u,us',rfl,hu,hus'⟩:=hus;obtain⟨r1,r2,r3,r4,r5,r6,r7,r8,r9⟩:=rest hla (inF la (.inr (.inl hmem))) chg;have nlg:la ∉a.Lg:=λz=>ncg la hmem la z rfl;have nlt:a.ta≠la:=λz=>nta (by rw[z];exact List.mem_append_left _ hmem);have eL:(Row.take nn ch.1 y).letter st.com=d:=by show((getL st.com ch.1).getD []).headD _=d;rw[hg];rfl
  refine some_ (by rw[shE];rfl) r1 (by rw[eL];exact st') (jEA kc r2 (mod H1 us' List.tail chg (hus'.tups (chg.tups hla) _))) (jEA kg r3 (r5 nlg)) (jEA ut (r6 nlt) r7) r8 r9 hp'
 | send c t=>
  obtain⟨ch,hc,rfl,hfrom,_⟩:=hro
  have hcm:ch.1∈st.goi.map (·.1):=by
   rw[l.ok.goi];exact List.mem_map_of_mem (List.mem_filter.mpr ⟨hc,zDT hfrom⟩)
  obtain⟨ds,hg,hgm⟩:=xe1 hcm;obtain⟨la,us,hv,hmem,hla,hus,mod⟩:=hlg.get ndg hg;have hb:=(l.ok.gok _ hgm).1;have hul:=hus.length;refine(xaq kg la us hga hv hla (by show us.length<=1000;rw[hul];exact Nat.le_trans hb (by omega)) (λsa' p' u H1 chg hu hp' st'=>?_));obtain⟨r1,r2,r3,r4,r5,r6,r7,r8,r9⟩:=rest hla (inF la (.inr (.inr hmem))) chg;have nlc:la ∉a.Lc:=λz=>ncg la z la hmem rfl;have nlt:a.ta≠la:=λz=>nta (by rw[z];exact List.mem_append_right _ hmem);exact some_ rfl r1 st' (jEA kc r2 (r4 nlc)) (jEA kg r3 (mod H1 (us++[u]) (λl=>l++[wv mk.kinds st.bx t]) chg ((hus.tups (chg.tups hla) _).append (xan u ([]) rfl hu rfl)))) (jEA ut (r6 nlt) r7) r8 r9 hp'
 |tell t=>
  have hb:=l.ok.tok.1;have hul:=hut.length;refine(jEAA ut hta (by omega) (λsa' p' u H1 chg hu hp' st'=>?_));obtain⟨r1,r2,r3,r4,r5,r6,r7,r8,r9⟩:=rest hta (inF a.ta (.inl rfl)) chg;exact some_ rfl r1 st' (jEA kc r2 (r4 λz=>nta (List.mem_append_left _ z))) (jEA kg r3 (r5 λz=>nta (List.mem_append_right _ z))) (jEA (ut++[u]) (chg.at hta) (r7.append (xan u ([]) rfl hu rfl))) r8 r9 hp'
 |_=>
  intro sa' p' H1 s1 hp' st';exact some_ rfl (s1 _ _ hx) st' (jEA kc (s1 _ _ hca) (hlc.same s1)) (jEA kg (s1 _ _ hga) (hlg.same s1)) (jEA ut (s1 _ _ hta) (hut.same s1 _)) (λb o e _=>s1 b o e) (Same.tups s1) hp'
def comL(mk:Mak)(h:Str)(cs:Lts):Lts:=(chTo mk h).map λc=>(c,(getL cs c).getD [])
def goiL(mk:Mak)(h:Str):Lts:=(xdh mk h).map λc=>(c,[])
def xpc(H:Hp)(sv:V)(mk:Mak)(hd:Hand)(row:Nat)(bx:List (Str×D)):Prop:=(sv=.non/\row=0/\bx=begL mk hd)\/∃sa p,sv=.ref sa/\StAt H sa p row bx/\bx.length<=100
theorem xua(c:Addr->Hp->Prop){R:Addr->Hp->Prop}{A:Prop}(h:(∀a H,c a H->R a H)->A)(r:∀a H,c a H->R a H):A:=h r
def xkd(K:Fg):Sp:=λvs H Q _=>∃(x dx:Addr) (mv:V) (h:Str) (d:Addr) (kvs:List (Key×V)) (cs:Lts) (L:List Addr) (mk:Mak) (hd:Hand) (sv:V) (row:Nat) (bx:List (Str×D)),vs=[.ref x,mv,.str h,.ref d,sv]/\xpc H sv mk hd row bx/\H x=some (.ins (ad K "Lone") dx [])/\RelD H mv mk.d/\MakOk mk/\xeh mk h=some hd/\H d=some (.dK kvs)/\LsAt H kvs cs L ∧
 ∀a H',SameBut x H H'->(∀b∈a.F x,b=x\/H b=none)->LnAt H' (ad K "Lone") x mv h a ⟨row,bx,comL mk h cs,goiL mk h,[],0⟩->Q .non H'
theorem xjs(a:Mak)(h:Str)(cs:Lts):(comL a h cs).map (·.1)=chTo a h:=by
 unfold comL;rw[List.map_map];exact(List.map_congr_left (g:=id) λ_ _=>rfl).trans (List.map_id _)
theorem xjk(a:Mak)(h:Str):(goiL a h).map (·.1)=xdh a h:=by
 unfold goiL;rw[List.map_map];exact(List.map_congr_left (g:=id) λ_ _=>rfl).trans (List.map_id _)
theorem xcz{x:Addr}{H a:Hp}{C f:Addr}{fs:List (Str×V)}(s:SameBut x H a)(c:H x=some (.ins C f fs)):∀b vs,H b=some (.tup vs)->a b=some (.tup vs):=λb vs e=>s b _ e λz=>by rw[z,c]at e;cases e
theorem xfq{x b:Addr}{H a:Hp}{o:HO}(s:SameBut x H a)(f:a x=some o)(e:a b=none):H b=none:=by
 cases h:H b with
 |none=>rfl
 |some u=>
  by_cases c:b=x
  ·rw[c,f]at e;cases e
  ·rw[s b u h c]at e;cases e
theorem xsz{a:Mak}(h:(a.chans.map (·.1)).Nodup)(x:Str):(chTo a x).Nodup:=List.Pairwise.sublist (List.Sublist.map _ List.filter_sublist) h
theorem xo5{a:Mak}(h:(a.chans.map (·.1)).Nodup)(x:Str):(xdh a x).Nodup:=List.Pairwise.sublist (List.Sublist.map _ List.filter_sublist) h
theorem xl5{a:Mak}(h:a.chans.length<=6){p:Chn->Bool}:((a.chans.filter p).map (·.1)).length<=6:=by
 rw[zLM];exact Nat.le_trans (List.length_filter_le _ _) h
theorem xl2 {H:Hp} {D c:Addr} {ys:List V} {kvs:List (Key×V)} {cs:Lts} {L:List Addr} (hD:H D=none) (hls:LsAt H kvs cs L) (hc:upd H D (.lst ys) c=none) :
  ∃H',H'=upd (upd H D (.lst ys)) c (.dK kvs)/\H c=none/\Same H H'/\H' c=some (.dK kvs)/\LsAt H' kvs cs L:=by
 have sD:=Same.new hD (.lst ys);have sc:=Same.new hc (.dK kvs);exact(xb5 _ rfl (xaf sD hc) (sD.trans sc) ups (hls.same (sD.trans sc)))
theorem xiy (T:Tx K mg) (J:DefIs P w K mg base n "begin_of" qac xni) (I:DefIs P w K mg base n "own_stand" ["stand"] xka) (u:DefIs P w K mg base n "channels_to" qac (xha chTo)) (m:DefIs P w K mg base n "channels_from" qac (xha xdh)) :
  MethIs P w K mg base (n+1) (ad K "Lone") "__init__" qam [[.none],[]] (xkd K):=by
 refine MethIs.of T.uE xif (λvs H Q E h=>?_) (λf dg A outer s H vs Q E hr h=>?_)
 ·obtain⟨_,_,_,_,_,_,_,_,_,_,_,_,_,rfl,_⟩:=h
  rfl
 obtain⟨x,dx,mv,h,d,kvs,cs,L,g,hd,sv,a2,bx,rfl,bv,hx,md,ae,hf,b0,cx,q⟩:=h;have hu:=xfe hr;have cl:=T.uD.cl;have no:=T.uD.no;have h6:=ae.cfew
 refine⟨_,(zpn (xer (pv 0) (pv 1) rfl)
   (zpn (xer (pv 0) (pv 2) rfl)
   (zpn (xer (pv 0) (xes (pR xin (pv 4) xdx (nM _)) (pd J hr (va 1 (v1 2))) (pd I hr (v1 4))) rfl)
   (zpn (xer (pv 0) (xao (xcw rfl) rfl T.k0 PyProof.Rows.boot_dict (zpc (xbt ["c","letters"] [none,some 3] rfl (by kernel_rfl) (xcf (K:=K) rfl (pd u hr (va 1 (v1 2)))) (λ_ _ _ _=>(pgc 0)) (λ_ _ _ _=>xb1) (λ_ _ _ _=>(xay (va 0 (zpc (xao (xew (K:=K) rfl) rfl T.k6 PyProof.Rows.boot_list (zpc (xlj hu (pv 1) (pv 0) (xb2 pN) ⟨rfl,rfl,rfl,rfl⟩) pN zsc)) pN zsc))))) pN xbz)) rfl)
   (zpn (xer (pv 0) (xao (xcw rfl) rfl T.k0 PyProof.Rows.boot_dict (zpc (xbt ["c"] [none] rfl (by kernel_rfl) (xcf (K:=K) rfl (pd m hr (va 1 (v1 2)))) (λ_ _ _ _=>(pgc 0)) (λ_ _ _ _=>xb1) (λ_ _ _ _=>(xay (va 0 (zpc (xb2 pN) pN xpf))))) pN xbz)) rfl)
   (zpn (xer (pv 0) (xb2 pN) rfl)
   (zpo (xer (pv 0) pI rfl)))))))),xab λR1 d8=>?_⟩
 refine(xap _ rfl _ rfl x _ _ (xbc _ rfl hx cl (no _ (by simp)) (by decide) (d8 _ _ (xab λR2 d7=>?_))));refine(xap _ rfl _ rfl x _ _ (xbc _ rfl ups cl (no _ (by simp)) (Nat.lt_of_le_of_lt (xbb _ _ _) (by decide)) (d7 _ _ (xab λR3 d6=>?_))));rw[xg6];obtain⟨f2,ba⟩:∃f2,f2=putF (Str.ofString "name") (.str h) (putF (Str.ofString "make") mv []):=⟨_,rfl⟩;have l2:f2.length<=2:=by rw[ba];exact Nat.le_trans (xbb _ _ _) (Nat.succ_le_succ (xbb _ _ _))
 rw[<- ba];obtain⟨H2,aj⟩:∃H2,H2=upd H x (.ins (ad K "Lone") dx f2):=⟨_,rfl⟩;rw[<- aj];have b2:SameBut x H H2:=by rw[aj];exact SameBut.upd _ _ _
 have a5:H2 x=some (.ins (ad K "Lone") dx f2):=by rw[aj];exact ups
 clear aj;have cq:=md.tups (xcz b2 hx) _
 have hA:sv=.non->a2=0/\bx=begL g hd:=λz=>by
  rcases bv with⟨_,e2,e3⟩ |⟨M,p0,e1,_⟩
  ·exact⟨e2,e3⟩
  ·rw[e1]at z;cases z
 have hB:sv≠.non->∃M p0,sv=.ref M/\StAt H2 M p0 a2 bx/\bx.length<=100:=λz=>by
  rcases bv with⟨e1,_⟩ |⟨M,p0,e1,bm,b3⟩
  ·exact absurd e1 z
  ·refine(xan M p0 e1 (bm.keep (xcz b2 hx) (λo e=>b2 p0 o e λz=>?_)) b3)
   obtain⟨_,cr,h',_⟩:=bm;rw[z,hx]at h';cases h'
 apply xua (λsa H3=>∃p,Same H2 H3/\H2 p=none/\StAt H3 sa p a2 bx)
 ·intro br
  refine(xaz _ rfl rfl _ rfl (ite2 (λc1=>?_) (λc1=>?_)))
  ·exact(xap _ rfl _ rfl mv h g (xb5 hd rfl cq ae hf (λsa p H3 s3 O a0=>br sa H3 (jEAA p s3 O (by rw[(hA (of_decide_eq_true c1)).1,(hA (of_decide_eq_true c1)).2];exact a0)))))
  ·obtain⟨M,p0,e1,ch,b3⟩:=hB λz=>c1 (zDT z)
   exact(xa5 _ rfl M p0 a2 bx (jAAA (congrArg (λv=>[v]) e1) ch b3 (λsa p H3 s3 O a0=>br sa H3 (jEAA p s3 O a0))))
 rintro sa H3 ⟨p,s3,O,a0⟩;refine(xaa _ rfl x _ _ _ rfl (s3 _ _ a5) cl (no _ (by simp)) ⟨by omega,d6 _ _ (xab λR4 d5=>?_)⟩);obtain⟨f3,b9⟩:∃f3,f3=putF (Str.ofString "now") (.ref sa) f2:=⟨_,rfl⟩;have l3:f3.length<=3:=by rw[b9];exact Nat.le_trans (xbb _ _ _) (Nat.succ_le_succ l2)
 rw[<- b9];obtain⟨H4,ai⟩:∃H4,H4=upd H3 x (.ins (ad K "Lone") dx f3):=⟨_,rfl⟩;rw[<- ai];have bh:SameBut x H3 H4:=by rw[ai];exact SameBut.upd _ _ _
 have a4:H4 x=some (.ins (ad K "Lone") dx f3):=by rw[ai];exact ups
 clear ai;have b4:SameBut x H H4:=(b2.trans s3.but).trans bh
 have cg:StAt H4 sa p a2 bx:=a0.keep (xcz bh (s3 _ _ a5)) λo e=>bh p o e λz=>by
  obtain⟨_,cr,h',_⟩:=a0;rw[z,s3 _ _ a5]at h';cases h'
 have bw:p≠x:=λz=>by rw[z,a5]at O;cases O
 have cw:H p=none:=xfq b2 a5 O;have cp:=md.tups (xcz b4 hx) _;have d1:d≠x:=λz=>by rw[z,hx]at b0;cases b0
 have c0:LsAt H4 kvs cs L:=cx.keep (xcz b4 hx) λa _ us e=>b4 a _ e λz=>by rw[z,hx]at e;cases e
 refine(xb9 _ rfl _ rfl mv h g rfl cp h6 (λbe c7=>?_));have a1:=Same.new c7 (.lst ((chTo g h).map V.str));obtain⟨H5,bc⟩:∃H5,H5=upd H4 be (.lst ((chTo g h).map V.str)):=⟨_,rfl⟩;have an:H5 be=some (.lst ((chTo g h).map V.str)):=by rw[bc];exact ups
 rw[<- bc]at a1⊢;clear bc;have dd:(chTo g h).length<=6:=xl5 h6;have ml:((chTo g h).map V.str).length=(chTo g h).length:=zLM _;refine(jEAA be rfl ⟨_,SqL.of an⟩ ?_);refine xdg (xs:=(chTo g h).map V.str) (λi ys U=>Same H5 U/\∃G L2,PairsV U ys G/\LsAt U G ((comL g h cs).take i) L2/\L2.Nodup/\∀a∈L2,H5 a=none) (jAE (Same.refl _) ([]) (xbn ([]) trivial (by rw[List.take_zero];trivial) List.nodup_nil (λ_ h=>nomatch h))) (xba (by omega)) (λi ys U _ p=>SqL.of (p.1 _ _ an)) ?_ ?_
 ·rintro i y ys U hy hi ag ⟨sm,G,L2,a7,a9,au,b5⟩
  rw[zGM]at hy;obtain⟨c,hc,rfl⟩:=zMS hy;have bo:=a1.trans sm;have bq:=LsAt.val (c:=c) (c0.same bo);have c5:U d=some (.dK kvs):=bo _ _ (b4 d _ b0 d1);refine⟨ext1 rfl,xdw ?_⟩;refine(jEA _ rfl (xca _ rfl d rfl (.inl ⟨kvs,.inl c5⟩) _ rfl ⟨(by walk_at"s"),λe0 d0=>?_⟩));have se:=Same.new d0 (.lst []);have gd:=DGet.rd (H:=upd U e0 (.lst [])) (k:=Sum.inr c) (.inl (se _ _ c5))
  obtain⟨la,us,gv,cy,cu⟩:∃la us,(valV kvs (Sum.inr c)).getD (.ref e0)=.ref la/\upd U e0 (.lst []) la=some (.lst us)/\RelDs (upd U e0 (.lst [])) us ((getL cs c).getD []):=by
   cases hg:getL cs c with
   |none=>
    rw[bq.1 hg];exact(xan e0 ([]) rfl ups rfl)
   |some ds=>
    obtain⟨la,us,h1,h2,h3⟩:=bq.2 ds hg;rw[h1];exact(xan la us rfl (se _ _ h2) (h3.same se _))
  refine(jEA _ gd ?_);rw[gv];refine(xan la us rfl (.inl (SqL.of cy)) (λl hl=>⟨(by walk_at"s"),λt ht=>nxtG hi ag ?_⟩));have sl:=Same.new hl (.lst us);have st:=Same.new ht (.tup [.str c,.ref l]);have sA:=se.trans (sl.trans st);have c3:=xaf se hl;refine(jAE (sm.trans sA) (G++[(Sum.inr c,.ref l)]) (xbn (L2++[l]) ((a7.same (Same.tups sA)).append ⟨(jEA t rfl ups),trivial⟩) ?_ ?_ ?_))
  ·have e:(comL g h cs)[i]?=some (c,(getL cs c).getD []):=by unfold comL;rw[zGM,hc];rfl
   rw[zTA,e];exact(a9.same sA).snoc (c:=c) (a:=l) (us:=us) (st _ _ ups) (cu.same (sl.trans st) _)
  ·refine List.nodup_append.mpr (jAA au (by simp) (λz hz y hy e=>?_))
   rw[zMO hy]at e;obtain⟨zs,a3⟩:=a9.there z hz;rw[e,c3]at a3;cases a3
  ·intro z hz
   rcases zMA hz with hz |hz
   ·exact b5 z hz
   ·rw[zMO hz]
    exact xaf sm c3
 rintro ys H6 ag ⟨sm,kc,Lc,a7,ax,ck,da⟩ D hD;have df:(comL g h cs).length=(chTo g h).length:=by unfold comL;rw[zLM]
 rw[ml,zTL (by omega)]at ax;refine(xdd D ys kc rfl ups (a7.same (Same.tups (Same.new hD _))) (λca cb=>?_));obtain⟨H7,ce,d2,s7,c9,c2⟩:=xl2 hD ax cb;rw[xdn (by rw[ax.keys];exact xgy (by rw[xjs];exact xsz ae.cnd h)),<- ce];clear ce;have ar:=a1.trans (sm.trans s7);have cd:∀a∈Lc,H4 a=none:=λa ha=>xaf a1 (da a ha);have b1:H4 ca=none:=xaf (a1.trans sm) d2;refine(xaa _ rfl x _ _ _ rfl (ar _ _ a4) cl (no _ (by simp)) ⟨by omega,d5 _ _ (xab λR5 d4=>?_)⟩);obtain⟨f4,b7⟩:∃f4,f4=putF (Str.ofString "coming") (.ref ca) f3:=⟨_,rfl⟩;have l4:f4.length<=4:=by rw[b7];exact Nat.le_trans (xbb _ _ _) (Nat.succ_le_succ l3)
 rw[<- b7];obtain⟨H8,ah⟩:∃H8,H8=upd H7 x (.ins (ad K "Lone") dx f4):=⟨_,rfl⟩;rw[<- ah];have bf:SameBut x H7 H8:=by rw[ah];exact SameBut.upd _ _ _
 have af:H8 x=some (.ins (ad K "Lone") dx f4):=by rw[ah];exact ups
 clear ah;have bt:=ar _ _ a4;have bg:SameBut x H4 H8:=ar.but.trans bf;have b8:SameBut x H H8:=b4.trans bg;have bl:=xcz bf bt
 have bp:∀b o,H7 b=some o->(∀C dx fs,o≠.ins C dx fs)->H8 b=some o:=λb o e n'=>bf b o e λz=>by
  rw[z,bt]at e;exact n' _ _ _ (Option.some.inj e).symm
 have al:LsAt H8 kc (comL g h cs) Lc:=c2.keep bl λa _ us e=>bp a _ e λ_ _ _ z=>by cases z
 have c8:=bp _ _ c9 λ_ _ _ z=>by cases z
 have co:=md.tups (xcz b8 hx) _;refine(xb9 _ rfl _ rfl mv h g rfl co h6 (λbd c6=>?_));have ac:=Same.new c6 (.lst ((xdh g h).map V.str));obtain⟨H9,bb⟩:∃H9,H9=upd H8 bd (.lst ((xdh g h).map V.str)):=⟨_,rfl⟩;have am:H9 bd=some (.lst ((xdh g h).map V.str)):=by rw[bb];exact ups
 rw[<- bb]at ac⊢;clear bb;have dc:(xdh g h).length<=6:=xl5 h6;have cm:((xdh g h).map V.str).length=(xdh g h).length:=zLM _;refine(jEAA bd rfl ⟨_,SqL.of am⟩ ?_);refine xdg (xs:=(xdh g h).map V.str) (λi ys U=>Same H9 U/\∃G L2,PairsV U ys G/\LsAt U G ((goiL g h).take i) L2/\L2.Nodup/\∀a∈L2,H9 a=none) (jAE (Same.refl _) ([]) (xbn ([]) trivial (by rw[List.take_zero];trivial) List.nodup_nil (λ_ h=>nomatch h))) (xba (by omega)) (λi ys U _ p=>SqL.of (p.1 _ _ am)) ?_ ?_
 ·rintro i y ys U hy hi ag ⟨sm,G,L2,a7,a9,au,b5⟩
  rw[zGM]at hy;obtain⟨c,hc,rfl⟩:=zMS hy;refine⟨ext1 rfl,xdw ?_⟩;refine(jEAA _ rfl (by walk_at"s") (λl hl=>⟨(by walk_at"s"),λt ht=>nxtG hi ag ?_⟩));have sl:=Same.new hl (.lst []);have st:=Same.new ht (.tup [.str c,.ref l]);have sA:=sl.trans st;refine(jAE (sm.trans sA) (G++[(Sum.inr c,.ref l)]) (xbn (L2++[l]) ((a7.same (Same.tups sA)).append ⟨(jEA t rfl ups),trivial⟩) ?_ ?_ ?_))
  ·have e:(goiL g h)[i]?=some (c,[]):=by unfold goiL;rw[zGM,hc];rfl
   rw[zTA,e];exact(a9.same sA).snoc (c:=c) (a:=l) (us:=[]) (ds:=[]) (st _ _ ups) rfl
  ·refine List.nodup_append.mpr (jAA au (by simp) (λz hz y hy e=>?_))
   rw[zMO hy]at e;obtain⟨zs,a3⟩:=a9.there z hz;rw[e,hl]at a3;cases a3
  ·intro z hz
   rcases zMA hz with hz |hz
   ·exact b5 z hz
   ·rw[zMO hz]
    exact xaf sm hl
 rintro ys dh db ⟨bn,kg,Lg,bz,aw,cj,d9⟩ D2 cc;have de:(goiL g h).length=(xdh g h).length:=by unfold goiL;rw[zLM]
 rw[cm,zTL (by omega)]at aw;refine(xdd D2 ys kg rfl ups (bz.same (Same.tups (Same.new cc _))) (λga c4=>?_));obtain⟨ab,aq,cz,ci,az,a8⟩:=xl2 cc aw c4;rw[xdn (by rw[aw.keys];exact xgy (by rw[xjk];exact xo5 ae.cnd h)),<- aq];clear aq;have r:=ac.trans (bn.trans ci);have ao:∀a∈Lg,H8 a=none:=λa ha=>xaf ac (d9 a ha);have ay:H8 ga=none:=xaf (ac.trans bn) cz;refine(xaa _ rfl x _ _ _ rfl (r _ _ af) cl (no _ (by simp)) ⟨by omega,d4 _ _ (xab λR6 d3=>?_)⟩);obtain⟨f5,b6⟩:∃f5,f5=putF (Str.ofString "going") (.ref ga) f4:=⟨_,rfl⟩;have l5:f5.length<=5:=by rw[b6];exact Nat.le_trans (xbb _ _ _) (Nat.succ_le_succ l4)
 rw[<- b6];refine⟨(by walk_at"s"),λta a6=>(xaa _ rfl x _ _ _ rfl (Same.new a6 _ _ _ ups) cl (no _ (by simp)) ⟨by omega,d3 _ _ ?_⟩)⟩;refine(xaa _ rfl x _ _ _ rfl ups cl (no _ (by simp)) ⟨Nat.lt_of_le_of_lt (xbb _ _ _) (by omega),?_⟩);rw[xg6];have bu:ta≠x:=λz=>by rw[z,ups]at a6;cases a6
 have j:ab ta=none:=by rw[xad bu]at a6;exact a6
 have ak:=r _ _ af;obtain⟨HZ,aa⟩:∃HZ,HZ=upd (upd (upd ab x (.ins (ad K "Lone") dx f5)) ta (.lst [])) x (.ins (ad K "Lone") dx (putF (Str.ofString "many") (.int 0) (putF (Str.ofString "tellings") (.ref ta) f5))):=⟨_,rfl⟩;rw[<- aa];have ct:HZ x=some (.ins (ad K "Lone") dx (putF (Str.ofString "many") (.int 0) (putF (Str.ofString "tellings") (.ref ta) f5))):=by rw[aa];exact ups
 have cv:HZ ta=some (.lst []):=by rw[aa,xad bu,ups]
 have bi:∀b o,ab b=some o->b≠x->HZ b=some o:=λb o e n'=>by
  rw[aa,xad n',xad (neN e j),xad n'];exact e
 clear aa;have bZ:SameBut x H8 HZ:=λb o e n'=>bi b o (r b o e) n';have bj:=xcz (show SameBut x ab HZ from bi) ak
 have Z:∀b o,ab b=some o->(∀C dx fs,o≠.ins C dx fs)->HZ b=some o:=λb o e n'=>bi b o e λz=>by
  rw[z,ak]at e;exact n' _ _ _ (Option.some.inj e).symm
 have cf:=cg.keep (xcz bg a4) λo e=>bg p o e bw;have HH:SameBut x H HZ:=b8.trans bZ;have av:∀{b},H8 b=none->H b=none:=λe=>xfq b8 af e;have Y:∀a∈Lc,∃us,H8 a=some (.lst us):=al.there;refine q ⟨dx,sa,p,ca,ga,ta,Lc,Lg⟩ HZ HH (λb hb=>?_) ⟨(jEA _ ct ?_),?_,(jEA kc ?_ ?_),(jEA kg ?_ ?_),(jEA ([]) cv rfl),?_⟩
 ·simp only[LnA.F,List.mem_cons,List.mem_append]at hb
  rcases hb with h |h |h |h |h |h |h
  ·exact .inl h
  ·exact .inr (by rw[h];exact cw)
  ·exact .inr (by rw[h];exact xfq b4 a4 b1)
  ·exact .inr (by rw[h];exact av ay)
  ·exact .inr (by rw[h];exact av (xaf r j))
  ·exact .inr (xfq b4 a4 (cd b h))
  ·exact .inr (av (ao b h))
 ·rw[b6,b7,b9,ba]
  exact Lf.init
 ·exact cf.keep (xcz bZ af) λo e=>bZ p o e bw
 ·exact Z _ _ (r _ _ c8) λ_ _ _ z=>by cases z
 ·exact(al.same r).keep bj λa _ us e=>Z a _ e λ_ _ _ z=>by cases z
 ·exact Z _ _ az λ_ _ _ z=>by cases z
 ·exact a8.keep bj λa _ us e=>Z a _ e λ_ _ _ z=>by cases z
 ·refine List.nodup_cons.mpr ⟨λhm=>?_,List.nodup_append.mpr (jAA ck cj (λy hy z hz e=>?_))⟩
  ·rcases zMA hm with hm |hm
   ·obtain⟨us,e⟩:=Y ta hm
    rw[r _ _ e]at j;cases j
   ·obtain⟨us,e⟩:=a8.there ta hm
    rw[e]at j;cases j
  ·obtain⟨us,e1⟩:=Y y hy
   rw[e,ao z hz]at e1;cases e1
def xd2(m:Nat):Sp:=λvs H Q _=>∃(f:Addr) (kv:V) (p q:Int) (ks:List Kn) (x:Str),vs=[.ref f,kv,.str x]/\H f=some (.lst [.int p,.int q])/\RelD H kv (xdf ks)/\KWf ks/\KIn ks m x/\∀u d H',Fed f H H'->RelD H' u d->Vk ks x d->Q u H'
theorem xio (T:Tx K mg) (a7:Sp) (g:DefIs P w K mg base n "_law_sort_of" qab xel) (o:DefIs P w K mg base n "_law_take" qad xcp) (l:DefIs P w K mg base n "_law_number" qav xna) (c:DefIs P w K mg base n "_law_value" qal a7) (a9:∀j,m=j+1->a7=xd2 j) :
  DefIs P w K mg base (n+1) "_law_value" qal (xd2 m):=by
 refine DefIs.of T.kQ scl_value (by walk_at"l") (λf ao A outer s H vs Q E hr h=>?_);obtain⟨f',kv,p,q0,ks,x,rfl,hf,hk,wf,aj,q⟩:=h;have nd:=scl_value.nd
 refine⟨_,(zpn (xc0 (pd g hr (va 1 (v1 2))) (xa9 (K:=K) rfl rfl (xac (pgn 3 nd) (xac (pgn 4 nd) xa7))))
   (zpn (xa4 (pR xa6 (pv 3) pS (nM _)) (zpo (xai (pd l hr (v1 0)))) pQ)
   (zpn (xa4 (pR xa6 (pv 3) pS (nM _)) (zpn (xc0 (px K (pv 4) (pd o hr (va 0 (zpc (xar (xag (K:=K) rfl) rfl T.k5 PySem.boot_len (v1 4)) pN zsc)))) (xa9 (K:=K) rfl rfl (xac (pgn 5 nd) (xac (pgn 6 nd) xa7))))
   (zpo (xai (xay (va 2 (va 5 (zpc (pd c hr (va 0 (va 1 (v1 6)))) pN zsc))))))) pQ)
   (zpo (xai (xay (va 2 (zpc (xao (xbo (K:=K) rfl) rfl T.uB PyProof.Rows.boot_tuple (zpc (xbt ["_law_name","_law_part","_law_feed_here","_law_kinds_here"] [none,none,some 0,some 1] rfl (by kernel_rfl) (xa1 (K:=K) rfl (pv 4)) (λ_ _ _ _=>(xa9 (K:=K) (n:=2) rfl rfl (xac (pgc 0) (xac (pgc 1) xa7)))) (λ_ _ _ _=>xb1) (λ_ _ _ _=>(pd c hr (va 2 (va 3 (v1 1)))))) pN xbz)) pN zsc)))))))),?_⟩
 refine(xci _ rfl _ rfl kv ks x rfl ((wf.ksAt hk).seq) (λt am H1 s1 ht rp=>?_));refine(xas t _ rfl (SqT.of ht) rfl _ _ rfl _ (jEAA _ rfl rfl ?_));have C:=s1 _ _ hf;have F1:Fed f' H H1:=(Fed.refl hf).same s1;rcases aj.look wf with⟨rfl,z⟩ |⟨j,k,rfl,z,hn,hm,hp⟩
 ·refine(xaz _ rfl rfl _ rfl (iteKT (zDT (by rw[z];rfl)) ?_))
  refine(jEA _ rfl (xcd f' p q0 rfl C (λr H2 af f2=>?_)));exact q _ (.int r) _ (F1.trans f2) rfl (.num r af)
 ·have D':=a9 j rfl
  subst D';rw[z]at rp;obtain⟨a,us,rfl,ha,a1⟩:=rp;have hl:=a1.length;rw[zLM]at hl;have h5:=wf.pts k hm;have G:xfa (kAt ks x)=k.sort:=by rw[z];rfl
  cases hc:k.rc with
  |false=>
   have ab:k.sort=S "alt":=xdt hc;refine(xaz _ rfl rfl _ rfl (iteKF (zDF (by rw[G,ab];decide +kernel)) ?_));refine(xaz _ rfl rfl _ rfl (iteKT (zDT (by rw[G,ab];rfl)) ?_));have an:k.parts.length≠0:=λe=>wf.alt k hm hc (List.length_eq_zero_iff.mp e);refine(xat _ rfl _ rfl _ rfl a _ rfl (.inr (SqT.of ha)) (xak f' p q0 _ rfl C (by omega) (by omega) (λr H2 r0 r1 f2=>?_)));have O:=xah (jEE p q0 C) f2;obtain⟨i,rfl⟩:∃i:Nat,r=(i:Int):=⟨r.toNat,by omega⟩;have hi:i<us.length:=by omega
   have g1:atI us (i:Int)=some us[i]:=xa2 (zGA hi);obtain⟨d,hd,rd⟩:=a1.get (zGA hi);rw[zGM]at hd;obtain⟨U,I,rfl⟩:=zMS hd;obtain⟨b,ws,eu,hb,_,_,rfl,rfl,_,_,rfl,rfl,rfl⟩:=rd;rw[eu]at g1;have M:=zMG I;obtain⟨p2,q2,J⟩:=f2.2;have ai:=(hk.same s1 _).tups O _;refine(xbm a _ _ _ rfl rfl (SqT.of (O _ _ ha)) g1 b (xbn _ rfl (SqT.of (O _ _ hb)) rfl (jEEA _ _ rfl (xan _ _ rfl rfl ?_))));refine(xaw _ rfl _ rfl _ rfl _ rfl _ rfl (xau f' kv p2 q2 ks (xbc U.2 rfl J ai wf (hp U M) (λu e H3 f3 ru a5=>⟨(by walk_at"s"),λt3 a2=>?_⟩))));have s4:=Same.new a2 (.tup [.str x,.str U.1,u]);exact q _ (.tup [.str x,.str U.1,e]) _ ((F1.trans (f2.trans f3)).same s4) (xal t3 _ rfl ups _ _ rfl rfl _ (xbe _ rfl rfl _ _ rfl (ru.same s4 _) rfl)) (.al z hc M a5)
  | true=>
   have aa:k.sort=S "rec":=xdj hc;refine(xaz _ rfl rfl _ rfl (iteKF (zDF (by rw[G,aa];decide +kernel)) ?_));refine(xaz _ rfl rfl _ rfl (iteKF (zDF (by rw[G,aa];decide +kernel)) ?_));refine(jEA _ rfl (xbg _ rfl a rfl ⟨_,SqT.of ha⟩ ?_));refine xbx (xs:=us) (λi ys H'=>Fed f' H1 H'/\ys.length=i/\∃ds:List D,RelDs H' ys ds/\ds.length=i/\∀(Z:Nat) w' Y,ds[Z]?=some w'->k.parts[Z]?=some Y->Vk ks Y.2 w') (jAA (Fed.refl C) rfl (jEAA ([]) rfl rfl (λZ w' Y h=>by simp at h))) (xba (by omega)) (λi ys H' _ Y=>SqT.of (xah (jEE p q0 C) Y.1 _ _ ha)) ?_ ?_
   ·rintro i y ys H' hy hi ac ⟨fm,ae,ds,a0,a6,a4⟩
    have tp:=xah (jEE p q0 C) fm;obtain⟨d,hd,rd⟩:=a1.get hy;rw[zGM]at hd;obtain⟨U,I,rfl⟩:=zMS hd;obtain⟨b,ws,rfl,hb,_,_,rfl,rfl,_,_,rfl,rfl,rfl⟩:=rd;obtain⟨p2,q2,J⟩:=fm.2;refine(xas b _ rfl (SqT.of (tp _ _ hb)) rfl _ _ rfl _ (xbn _ rfl rfl (ext2 rfl rfl) (xdw ?_)));refine(xbk _ rfl _ rfl _ rfl f' kv (xav p2 q2 ks U.2 rfl J ((hk.same s1 _).tups tp _) wf (hp U (zMG I)) (λu e H3 f3 ru a5=>nxtG hi ac (jAA (fm.trans f3) (by rw[zLA,List.length_singleton,ae]) (jEAA (ds++[e]) ?_ (by rw[zLA,List.length_singleton,a6]) (λZ w' Y hw a3=>?_))))))
    ·exact(a0.tups (xah (jEE p2 q2 J) f3) _).append (xan u ([]) rfl ru rfl)
    ·by_cases ak:Z<ds.length
     ·rw[List.getElem?_append_left ak]at hw
      exact a4 Z w' Y hw a3
     ·have ag:=(zES hw).1
      rw[zLA,List.length_singleton]at ag;have e0:Z=i:=by omega
      subst e0;rw[List.getElem?_append_right (by omega),a6,Nat.sub_self]at hw;simp at hw;subst hw;rw[I]at a3;cases a3;exact a5
   ·rintro ys H' ac ⟨fm,_,ds,a0,a6,a4⟩ D hD
    refine(jEEA D ys rfl (.inl ⟨SqL.of ups,λl' ah=>⟨(by walk_at"s"),λt3 a2=>?_⟩⟩));have s2:=Same.new hD (.lst ys);have s3:=Same.new ah (.tup ys);have s4:=Same.new a2 (.tup [.str x,.ref l']);have a8:=s2.trans (s3.trans s4);exact q _ (.tup [.str x,.tup ds]) _ ((F1.trans fm).same a8) (xal t3 _ rfl ups _ _ rfl rfl _ (jEAA _ rfl (xan l' ys rfl (s4 _ _ ups) (a0.same a8 _)) rfl)) (.rc z hc (by omega) a4)
theorem xg3(T:Tx K a):∀m,DefIs P w K a base (m+3) "_law_value" qal (xd2 m)
 |0=>xio (n:=2) T (λ_ _ _ _=>False) (xby T) (xdm T) (xez T (xdm T)) (DefIs.none T.kQ λ_ _ _ _ h=>h) (λj e=>by cases e)
 |m+1=>xio (n:=m+3) T (xd2 m) (xby T) (xdm T) (xez T (xdm T)) (xg3 T m) (λj e=>by cases e;rfl)
structure GIn(H:Hp)(f nb:Addr)(kv:V)(ks:List Kn)(nms:List Str):Prop where
 fd:∃p q:Int,H f=some (.lst [.int p,.int q])
 nl:H nb=some (.lst (nms.map V.str))
 ok:xj3 nms
 ne:nb≠f
 nby:∀z∈nms,NoBy z
 kd:RelD H kv (xdf ks)
 wf:KWf ks
 pb:PNB ks
theorem GIn.same{H i:Hp}{f c:Addr}{e:V}{ks:List Kn}{a:List Str}(g:GIn H f c e ks a)(s:Same H i):GIn i f c e ks a:=by
 obtain⟨p,q,h⟩:=g.fd;exact⟨(jEE p q (s _ _ h)),s _ _ g.nl,g.ok,g.ne,g.nby,g.kd.same s _,g.wf,g.pb⟩
theorem GIn.fed{H h:Hp}{f c:Addr}{e:V}{ks:List Kn}{a:List Str}(g:GIn H f c e ks a)(s:Fed f H h):GIn h f c e ks a:=⟨s.2,s.1 _ _ g.nl g.ne,g.ok,g.ne,g.nby,g.kd.tups (xah g.fd s) _,g.wf,g.pb⟩
theorem GIn.refl{H:Hp}{f c:Addr}{e:V}{ks:List Kn}{a:List Str}(g:GIn H f c e ks a):Fed f H H:=by
 obtain⟨p,q,h⟩:=g.fd;exact Fed.refl h
theorem GIn.name{H:Hp}{f c:Addr}{e:V}{ks:List Kn}{a:List Str}(g:GIn H f c e ks a){i:Nat}(h:i<26):∃z,a[i]?=some z/\atI (a.map V.str) (i:Int)=some (.str z):=by
 have j:=g.ok.1;exact(jEA (a[i]'(by omega)) (zGA _) (xa2 (by rw[zGM,zGA (by omega)];rfl)))
structure ChsOk(ks:List Kn)(nms:List Str)(hn:Nat)(cs:List Chn):Prop where
 len:cs.length<=6
 nm:cs.map (·.1)=(nms.drop 12).take cs.length
 kin:∀c∈cs,KIn ks ks.length c.2.2.2
 ends:∀c∈cs,c.2.1∈nms.take hn/\c.2.2.1∈nms.take hn
def xq1:Sp:=λvs H Q _=>∃(f nb:Addr) (kv:V) (ks:List Kn) (nms:List Str) (hn:Nat),vs=[.ref f,kv,.ref nb,.int hn]/\GIn H f nb kv ks nms/\1<=hn/\hn<=4/\∀cv cs H',Fed f H H'->RelD H' cv (.tup (cs.map dChn))->ChsOk ks nms hn cs->Q cv H'
theorem xkx{a:List Str}{i hn:Nat}{z:Str}(h:a[i]?=some z)(hi:i<hn):z∈a.take hn:=zMG (i:=i) (by rw[List.getElem?_take,if_pos hi];exact h)
theorem xir(T:Tx K mg)(a:DefIs P w K mg base n "_law_take" qad xcp)(j:DefIs P w K mg base n "_law_any_kind" qak xpi):DefIs P w K mg base (n+1) "_law_channels" qa9 xq1:=by
 refine DefIs.of T.kJ scl_channels (by walk_at"l") (λf bz A outer s H vs Q E hr h=>?_);obtain⟨p,nb,kv,ks,y,hn,rfl,g,h1,h4,q⟩:=h;have nd:=scl_channels.nd
 refine⟨_,(zpn (psn 4 nd (xb2 pN))
   (zpn (psn 5 nd (pd a hr (va 0 (v1 3))))
   (zpn (xcm PassesOwn.never rfl (xcb rfl T.k9 (zpc (xar (xo8 rfl) rfl T.k7 PyProof.Rows.boot_max (zpc (pd a hr (va 0 (zpc pI pN so))) (zpc (xam xda (pv 3) (xao xgh rfl T.k3 PyProof.Rows.boot_int (zpc (xey xdc (pd a hr (va 0 (zpc pI pN so))) pI (nM _)) pN xfh))) pN xa3) zsc)) pN zsc)) (pgn 6 nd)
   (zpn (psn 7 nd (xay (zpc (pxl K (pv 2) (pd a hr (va 0 (v1 3)))) (zpc (pxl K (pv 2) (pd a hr (va 0 (v1 3)))) pN ss) ss)))
   (zpn (xa4 (PW.pt (xcj (pR xfc (pv 6) (pv 3) (nM _)) (xb0 (pR xdc (pd a hr (va 0 (zpc pI pN so))) pI (nM _))))) (zpo (psn 7 nd (xay (zpc (px K (pv 7) pI) (zpc (pxl K (pv 2) (xam xcg (xam xbd (pv 5) (pv 6)) (pv 3))) pN ss) ss)))) pQ)
   (zpo (xbl (xc4 PySem.F.plainAttrs_list PySem.F.slot_list_append PySem.F.type_list_append xbj (pv 4) (zpc (xay (zpc (pxl K (pv 2) (xam xbd pI (pv 6))) (zpc (px K (pv 7) pI) (zpc (px K (pv 7) pI) (zpc (pd j hr (va 0 (v1 1))) pN zsc) ss) ss) ss)) pN sT)))))))
   (zpo (xai (xao (xbo (K:=K) rfl) rfl T.uB PyProof.Rows.boot_tuple (v1 4))))))),xab λR1 bd=>?_⟩
 refine⟨(by walk_at"s"),λl hl=>bd _ _ (xab λR2 bc=>?_)⟩;have s0:=Same.new hl (.lst []);have g0:=g.same s0;obtain⟨p0,q0,b8⟩:=g.fd;have I:l≠p:=Ne.symm (neN b8 hl);obtain⟨p1,q1,b7⟩:=g0.fd;refine(xap _ rfl _ rfl p p1 q1 (xb5 hn rfl b7 (by omega) (by omega) (λtn H1 t0 t1 f1=>bc _ _ (xab λR3 bb=>?_))));have F1:Fed p H H1:=(g.refl.same s0).trans f1;have aw:=f1.1 _ _ ups I;obtain⟨p2,q2,b6⟩:=F1.2;refine(xaa _ rfl p p2 q2 6 rfl b6 (by decide) (by decide) (λr1 H2 bu bt f2=>?_));have F2:=F1.trans f2;have av:=f2.1 _ _ aw I;obtain⟨p3,q3,b5⟩:=F2.2;refine(xap _ rfl _ rfl p p3 q3 (xb5 5 rfl b5 (by decide) (by decide) (λr2 H3 br bq f3=>?_)));have F3:=F2.trans f3;have au:=f3.1 _ _ av I;refine(xan _ _ rfl rfl (.inr (xax _ rfl _ _ rfl rfl (jAE (.inl ⟨by omega,by omega⟩) _ (jEA _ rfl ?_)))))
 obtain⟨N,hN,bx⟩:∃N:Nat,(if (hn:Int)*(if decide (r2 > 0)=true then 1 else 0) > r1 then (hn:Int)*(if decide (r2 > 0)=true then 1 else 0) else r1)=(N:Int)/\N<=5:=by
  have hb:(hn:Int)*(if decide (r2 > 0)=true then (1:Int) else 0)=0\/(hn:Int)*(if decide (r2 > 0)=true then (1:Int) else 0)=hn:=by
   by_cases m:decide (r2 > 0)=true
   ·rw[if_pos m];exact .inr (Int.mul_one _)
   ·rw[if_neg m];exact .inl (Int.mul_zero _)
  generalize (hn:Int)*(if decide (r2 > 0)=true then (1:Int) else 0)=b at hb;refine(jEA ((if b > r1 then b else r1).toNat) ?_ ?_) <;> split <;> omega
 rw[hN];refine(xbn _ rfl (by omega) (by omega) ?_)
 refine xc1 (λi σ H'=>∃us,∃cs:List Chn,∃o6 o7,σ=[some (.ref p),some kv,some (.ref nb),some (.int hn),some (.ref l),some (.int tn),o6,o7]/\Fed p H H'/\H' l=some (.lst us)/\RelDs H' us (cs.map dChn)/\cs.length=i/\ChsOk ks y hn cs)
  (xav ([]) ([]) none none rfl F3 au rfl rfl ⟨by decide,rfl,(λ_ h=>nomatch h),λ_ h=>nomatch h⟩) ?_ ?_
 ·rintro i σ H4 hi ⟨us,cs,o6,o7,rfl,F4,a4,C,a5,x⟩
  have bw:i<5:=by omega
  have e0:(0+(i:Int))=(i:Int):=by omega
  have g4:=g.fed F4;obtain⟨p4,q4,b4⟩:=F4.2;have an:=C.length;rw[zLM]at an;refine xab λS1 ba=>?_;refine(xbk _ rfl _ rfl _ rfl p p4 (xck q4 hn rfl b4 (by omega) (by omega) (λra H5 bp bo f5=>?_)));obtain⟨ia,rfl⟩:∃i:Nat,ra=(i:Int):=⟨ra.toNat,by omega⟩;have g5:=g4.fed f5;obtain⟨za,ak,bi⟩:=g5.name (i:=ia) (by omega);refine(xak nb _ _ _ rfl rfl (SqL.of g5.nl) bi ?_);obtain⟨p5,q5,b3⟩:=f5.2;refine(xbk _ rfl _ rfl _ rfl p p5 (xck q5 hn rfl b3 (by omega) (by omega) (λrb H6 bn bm f6=>?_)));obtain⟨ib,rfl⟩:∃i:Nat,rb=(i:Int):=⟨rb.toNat,by omega⟩;have g6:=g5.fed f6;obtain⟨zb,aj,bh⟩:=g6.name (i:=ib) (by omega);refine(xav nb _ _ _ rfl rfl (SqL.of g6.nl) bh (by walk_at"s") (λte ao=>ba _ _ (xab λS2 b9=>?_)));have s7:=Same.new ao (.tup [.str za,.str zb]);have F6:=F4.trans (f5.trans f6);have ae:=xah g4.fd (f5.trans f6)
  have a1:∀(Z:Addr) (Y U:Str) (O:Hp),Fed p H O->O l=some (.lst us)->RelDs O us (cs.map dChn)->O Z=some (.tup [.str Y,.str U])->Y∈y.take hn->U∈y.take hn->S2 [some (.ref p),some kv,some (.ref nb),some (.int hn),some (.ref l),some (.int tn),some (.int (0+(i:Int))),some (.ref Z)] O:=λZ Y U O F8 aa a8 G am al=>by
   refine b9 _ _ ?_;have g8:=g.fed F8;obtain⟨zc,ai,bg⟩:=g8.name (i:=12+i) (by omega)
   have ac:atI (y.map V.str) (12+(0+(i:Int)))=some (.str zc):=by
    rw[e0];exact bg
   refine(jEAA _ rfl (.inl (jAE rfl _ (SqL.of aa))) ?_);refine(xbi _ rfl _ rfl _ _ rfl rfl nb (xaq _ _ _ rfl rfl (SqL.of g8.nl) ac ?_));refine(xaa _ rfl Z _ _ _ rfl rfl (SqT.of G) rfl (xaa _ rfl Z _ _ _ rfl rfl (SqT.of G) rfl ?_));obtain⟨p8,q8,b2⟩:=F8.2;obtain⟨ka,ag,be,az,ay⟩:=id g8.kd;subst be;have ab:=g.wf.few;refine(xap _ rfl _ rfl p ka p8 (xb3 q8 ag ks rfl b2 (.inr az) ay ab (λkx H9 ax f9=>⟨(by walk_at"s"),λt ht=>?_⟩)));have st:=Same.new ht (.tup [.str zc,.str Y,.str U,.str kx]);have a2:=f9.1 _ _ aa I;have af:=xah g8.fd f9;refine(xaq l us _ rfl rfl (st _ _ a2) (xba (by omega)) ?_);have bv:l≠t:=neN a2 ht;have aq:H l=none:=hl;refine(xav (us++[.ref t]) (cs++[(zc,Y,U,kx)]) _ _ rfl ?_ ups ?_ (by rw[zLA,List.length_singleton,a5]) ?_)
   ·refine⟨λb o e hb=>?_,?_⟩
    ·rw[xad (neN e aq)]
     exact st _ _ ((F8.trans f9).1 b o e hb)
    ·obtain⟨p9,q9,b1⟩:=f9.2
     exact(jEE p9 q9 (by rw[xad (Ne.symm I)];exact st _ _ b1))
   ·have a6:∀b vs,upd H9 t (.tup [.str zc,.str Y,.str U,.str kx]) b=some (.tup vs)->upd (upd H9 t (.tup [.str zc,.str Y,.str U,.str kx])) l (.lst (us++[.ref t])) b=some (.tup vs):=λb vs e=>by
     rw[xad λz=>by rw[z,st _ _ a2]at e;cases e];exact e
    rw[zAP];refine(((a8.tups af _).same st _).tups a6 _).append (xan (.ref t) ([]) rfl (xal t _ rfl (a6 _ _ ups) _ _ rfl rfl _ (xbe _ rfl rfl _ _ rfl rfl (xan _ _ rfl rfl rfl))) rfl)
   ·refine⟨by rw[zLA,List.length_singleton];omega,?_,λc m=>?_,λc m=>?_⟩
    ·rw[zAP,zLA,List.length_singleton,x.nm,zTA,List.getElem?_drop,a5,ai]
     rfl
    ·rcases zMA m with m |m
     ·exact x.kin c m
     ·rw[zMO m];exact ax
    ·rcases zMA m with m |m
     ·exact x.ends c m
     ·rw[zMO m];exact⟨am,al⟩
  have F7:=F6.same s7;have ar:=(f5.trans f6).1 _ _ a4 I;have a3:=s7 _ _ ar;have r:=(C.tups ae _).same s7 _;have a0:=xkx ak (by omega:ia<hn);have a7:=xkx aj (by omega:ib<hn);refine(xbi _ rfl _ rfl _ _ rfl rfl _ ⟨rfl,ite2 (λc1=>?_) (λc1=>?_)⟩)
  ·obtain⟨p7,q7,u⟩:=F7.2
   refine(xaa _ rfl p p7 q7 6 rfl u (by decide) (by decide) (λrc O bl bj M=>(xan _ _ rfl rfl (jEA _ rfl (ite2 (λc2=>?_) (λc2=>?_))))))
   ·have a9:=xah (jEE p7 q7 u) M _ _ ups
    have F8:=F7.trans M;have g8:=g.fed F8;have J:(0:Int)<(hn:Int):=by omega
    have m0:=Int.emod_nonneg (tn+(0+(i:Int))) (by omega:(hn:Int)≠0);have m1:=Int.emod_lt_of_pos (tn+(0+(i:Int))) J;obtain⟨im,b0⟩:∃im:Nat,(tn+(0+(i:Int)))%(hn:Int)=(im:Int):=⟨((tn+(0+(i:Int)))%(hn:Int)).toNat,by omega⟩;obtain⟨zm,ah,bf⟩:=g8.name (i:=im) (by omega);refine(xaa _ rfl te _ _ _ rfl rfl (SqT.of a9) rfl (xat _ rfl _ rfl _ rfl _ _ rfl rfl (xax _ rfl _ _ rfl rfl (jAE J nb (xb3 _ _ _ rfl rfl (SqL.of g8.nl) (by rw[b0];exact bf) (by walk_at"s") (λZ G=>?_))))));have s9:=Same.new G (.tup [.str za,.str zm]);exact a1 Z za zm _ (F8.same s9) (s9 _ _ (M.1 _ _ a3 I)) ((r.tups (xah (jEE p7 q7 u) M) _).same s9 _) ups a0 (xkx ah (by omega))
   ·exact a1 te za zb O (F7.trans M) (M.1 _ _ a3 I) (r.tups (xah (jEE p7 q7 u) M) _) (xah (jEE p7 q7 u) M _ _ ups) a0 a7
  ·exact iteF (a1 te za zb _ F7 a3 r ups a0 a7)
 ·rintro σ H4 ⟨us,cs,o6,o7,rfl,F4,a4,C,a5,x⟩
  refine bb _ _ ?_;refine(jEA _ rfl (jEEA l us rfl (.inl ⟨SqL.of a4,λt ht=>?_⟩)));have st:=Same.new ht (.tup us);exact q _ cs _ (F4.same st) (xan t us rfl ups (C.same st _)) x
structure BsOk(ks:List Kn)(nms:List Str)(bs:List (Str×Str)):Prop where
 len:bs.length<=5
 nd:(bs.map (·.1)).Nodup
 nm:∀b∈bs,b.1∈nms
 kin:∀b∈bs,KIn ks 6 b.2
def xtl:Sp:=λvs H Q _=>∃(f nb:Addr) (kv cv:V) (ks:List Kn) (nms:List Str) (cs:List Chn) (x:Str),vs=[.ref f,kv,cv,.str x,.ref nb]/\GIn H f nb kv ks nms/\RelD H cv (.tup (cs.map dChn))/\cs.length<=6/\(∀c∈cs,KIn ks ks.length c.2.2.2)/\∀bv bs H',Fed f H H'->RelD H' bv (xdv bs)->BsOk ks nms bs->Q bv H'
def xuw(cs:List Chn)(x:Str)(bs:List (Str×Str))(c y:Str):Prop:=∃ch∈cs,ch.1=c/\ch.2.2.1=x/\(y,ch.2.2.2)∈bs
def IntoAt(H:Hp)(cs:List Chn)(x:Str)(bs:List (Str×Str))(w:V):Prop:=∃(b:Addr) (c y:Str),w=.ref b/\H b=some (.tup [.str c,.str y])/\xuw cs x bs c y
theorem IntoAt.tups{H a:Hp}{cs:List Chn}{x:Str}{bs:List (Str×Str)}{w:V}(h:IntoAt H cs x bs w)(s:∀b vs,H b=some (.tup vs)->a b=some (.tup vs)):IntoAt a cs x bs w:=by
 obtain⟨b,c,y,e,f,r⟩:=h;exact(xcd b c y e (s _ _ f) r)
def xle:Sp:=λvs H Q _=>∃(cv bv:V) (cs:List Chn) (x:Str) (bs:List (Str×Str)),vs=[cv,.str x,bv]/\RelD H cv (.tup (cs.map dChn))/\cs.length<=6/\RelD H bv (xdv bs)/\bs.length<=5/\∀l ws H',Same H H'->H l=none->H' l=some (.lst ws)->(∀w∈ws,IntoAt H' cs x bs w)->ws.length<=30->Q (.ref l) H'
theorem xjl(xs:List Str):(xs.map V.str).all xgm=true:=by
 rw[List.all_map];exact List.all_eq_true.mpr λ_ _=>rfl
theorem xnu{H:Hp}{us:List V}{bs:List (Str×Str)}(g:RelDs H us (bs.map xk3)){i:Nat}{v:V}(a:us[i]?=some v):∃(b:Addr) (p:Str×Str),bs[i]?=some p/\v=.ref b/\H b=some (.tup [.str p.1,.str p.2]):=by
 obtain⟨d,hd,rd⟩:=g.get a;rw[zGM]at hd;obtain⟨c,e,rfl⟩:=zMS hd;obtain⟨b,ws,rfl,f,_,_,rfl,rfl,_,_,rfl,rfl,rfl⟩:=rd;exact(xan b c e rfl f)
theorem xpv(T:Tx K mg):DefIs P w K mg base (n+1) "_law_into" qap xle:=by
 refine DefIs.of T.kL scl_into (by walk_at"l") (λf aa A outer s H vs Q E hr h=>?_);obtain⟨cv,bv,cs,x,bs,rfl,a4,h6,a5,h5,q⟩:=h;have nd:=scl_into.nd
 refine⟨_,(zpn (psn 3 nd (xb2 pN))
   (zpn (xcm PassesOwn.never rfl (xa1 (K:=K) rfl (pv 0)) (xa9 (K:=K) rfl rfl (xac (pgn 4 nd) (xac (pgn 5 nd) (xac (pgn 6 nd) (xac (pgn 7 nd) xa7)))))
   (zpo (psn 3 nd (xam xgr (pv 3) (xbt ["_law_x","_law_told","_law_c","_law_to","_law_h","_law_kind"] [none,none,some 4,some 6,some 1,some 7] rfl (by kernel_rfl) (xa1 (K:=K) rfl (pv 2)) (λ_ _ _ _=>(xa9 (K:=K) (n:=2) rfl rfl (xac (pgc 0) (xac (pgc 1) xa7)))) (λ_ _ _ _=>(xdk (PW.pt (xcj (pR xa6 (pv 3) (pv 4) (nM _)) (xb0 (pR xa6 (pv 1) (pv 5) (nM _))))))) (λ_ _ _ _=>(xay (va 2 (v1 0)))))))))
   (zpo (xai (pv 3))))),xab λR1 a9=>?_⟩
 refine⟨(by walk_at"s"),λl0 J=>a9 _ _ (xab λR2 a8=>?_)⟩;have s0:=Same.new J (.lst []);obtain⟨ca,us,rfl,M,hR⟩:=a4;obtain⟨ba,ub,rfl,O,hB⟩:=a5;have a2:=hR.length;have a6:=hB.length;rw[zLM]at a2 a6;refine(xbg _ rfl ca rfl ⟨_,SqT.of (s0 _ _ M)⟩ ?_)
 refine xde (xs:=us) (λi σ r=>∃(l:Addr) (ws:List V) (o4 Z Y U:Option V),σ=[some (.ref ca),some (.str x),some (.ref ba),some (.ref l),o4,Z,Y,U]/\Same H r/\H l=none/\r l=some (.lst ws)/\(∀w∈ws,IntoAt r cs x bs w)/\ws.length<=5*i)
  (xau l0 ([]) none none none (xbc none rfl s0 J ups (λ_ h=>nomatch h) (Nat.zero_le _))) (λi σ r _ p=>?_) ?_ ?_
 ·obtain⟨_,_,_,_,_,_,_,m,_⟩:=p
  exact SqT.of (m _ _ M)
 ·rintro i v σ H1 hv ⟨l,ws,o4,Z,Y,U,rfl,m,hl,z,g,a1⟩
  obtain⟨b,c,hc,rfl,hb⟩:=xdr hR hv;have hi:i<us.length:=(zES hv).1;refine(xas b _ rfl (SqT.of (m _ _ hb)) rfl _ _ rfl _ (jEA _ rfl (jEEA _ _ rfl (xan _ _ rfl rfl ?_))));refine(jEA _ rfl (xbg _ rfl ba rfl ⟨_,SqT.of (m _ _ O)⟩ ?_));refine xbx (xs:=ub) (λj ys r=>Same H1 r/\(∀w∈ys,IntoAt r cs x bs w)/\ys.length<=j) (jAA (Same.refl _) (λ_ h=>nomatch h) (Nat.le_refl _)) (xba (by omega)) (λj ys r _ p=>SqT.of ((m.trans p.1) _ _ O)) ?_ ?_
  ·rintro j y ys H2 hy hj o ⟨C,a,a0⟩
   obtain⟨b2,pb,a3,rfl,a7⟩:=xnu hB hy;refine(xas b2 _ rfl (SqT.of ((m.trans C) _ _ a7)) rfl _ _ rfl _ (xbn _ rfl rfl (ext2 rfl rfl) ?_));refine(xca _ rfl _ rfl rfl _ rfl (ite2 (λc1=>?_) (λc1=>iteF (nxtN hj o (jAA C a (by omega))))));refine(xca _ rfl _ rfl rfl _ rfl (ite2 (λc2=>?_) (λc2=>nxtN hj o (jAA C a (by omega)))));refine(xbg _ rfl _ rfl (by walk_at"s") (λt ht=>nxtG hj o ?_));have st:=Same.new ht (.tup [.str c.1,.str pb.1]);refine(jAA (C.trans st) (λw e=>?_) (by rw[zLA,List.length_singleton];omega));rcases zMA e with e |e
   ·exact(a w e).tups (Same.tups st)
   ·rw[zMO e]
    have e1:c.2.2.1=x:=V.str.inj (of_decide_eq_true c1);have e2:pb.2=c.2.2.2:=V.str.inj (of_decide_eq_true c2);exact(xcd t c.1 pb.1 rfl ups (xbn c (zMG hc) rfl e1 (by rw[<- e2];exact zMG a3)))
  ·rintro ys H2 o ⟨C,a,a0⟩ D hD
   have sD:=Same.new hD (.lst ys);have u:=C.trans sD;refine(xav l D ws ys rfl rfl (u _ _ z) ups (fits (by omega)) (λl2 I=>?_));have sl:=Same.new I (.lst (ws++ys));have G:=u.trans sl;refine(xau l2 (ws++ys) _ _ _ (xbc _ rfl (m.trans G) (xaf (m.trans u) I) ups (λw e=>?_) (by rw[zLA];omega)));rcases zMA e with e |e
   ·exact(g w e).tups (Same.tups G)
   ·exact(a w e).tups (Same.tups (sD.trans sl))
 ·rintro σ H1 ⟨l,ws,o4,Z,Y,U,rfl,m,hl,z,g,a1⟩
  exact a8 _ _ (jEA _ rfl (q l ws H1 m hl z g (by omega)))
theorem xn0(T:Tx K mg)(a:DefIs P w K mg base n "_law_take" qad xcp)(m:DefIs P w K mg base n "_law_any_kind" qak xpi):DefIs P w K mg base (n+1) "_law_boxes" qba xtl:=by
 refine DefIs.of T.kK scl_boxes (by walk_at"l") (λf b3 A outer s H vs Q E hr h=>?_);obtain⟨U,nb,kv,cv,ks,a8,cs,x,rfl,g,aj,h6,ak,q⟩:=h;have nd:=scl_boxes.nd
 refine⟨_,(zpn (psn 5 nd (xb2 pN))
   (zpn (xcm PassesOwn.never rfl (xa1 (K:=K) rfl (pv 2)) (xa9 (K:=K) rfl rfl (xac (pgn 6 nd) (xac (pgn 7 nd) (xac (pgn 8 nd) (xac (pgn 9 nd) xa7)))))
   (zpo (xa4 (PW.pt (xcj (pR xa6 (pv 8) (pv 3) (nM _)) (xb0 (pR xe2 (pv 9) (pv 5) (by with_unfolding_all rfl))))) (zpo (xbl (xc4 PySem.F.plainAttrs_list PySem.F.slot_list_append PySem.F.type_list_append xbj (pv 5) (v1 9)))) pQ)))
   (zpn (xcm PassesOwn.never rfl (xcb rfl T.k9 (zpc (pd a hr (va 0 (zpc pI pN so))) pN zsc)) (pgn 10 nd)
   (zpo (xbl (xc4 PySem.F.plainAttrs_list PySem.F.slot_list_append PySem.F.type_list_append xbj (pv 5) (zpc (pd m hr (va 0 (v1 1))) pN zsc)))))
   (zpn (psn 11 nd (xam xch (pd a hr (va 0 (zpc pI pN so))) pI))
   (zpo (xai (xao (xbo (K:=K) rfl) rfl T.uB PyProof.Rows.boot_tuple (zpc (xbt ["_law_k","_law_names_here","_law_wants","_law_turn"] [none,some 4,some 5,some 11] rfl (by kernel_rfl) (xcb rfl T.k9 (zpc (xar (xo6 rfl) rfl T.k8 PyProof.Rows.boot_min (zpc pI (zpc (xar (xag (K:=K) rfl) rfl T.k5 PySem.boot_len (v1 5)) pN zsc) so)) pN zsc)) (λ_ _ _ _=>(pgc 0)) (λ_ _ _ _=>xb1) (λ_ _ _ _=>(xay (zpc (pxl K (pv 1) (xam xbd pI (xam xcg (xam xbd (pv 0) (pv 3)) pI))) (zpc (pxl K (pv 2) (pv 0)) pN ss) ss)))) pN xbz)))))))),xab λR1 ao=>?_⟩
 refine⟨(by walk_at"s"),λl M=>ao _ _ (xab λR2 an=>?_)⟩;have s0:=Same.new M (.lst []);obtain⟨p0,q0,a4⟩:=g.fd;have lf:l≠U:=Ne.symm (neN a4 M);have ay:nb≠l:=neN g.nl M;obtain⟨ca,us,rfl,a5,hR⟩:=aj;have aa:=hR.length;rw[zLM]at aa;have O:=g.wf.few;refine(xbg _ rfl ca rfl ⟨_,SqT.of (s0 _ _ a5)⟩ ?_);have ar:∀{C:Hp} {xs:List Str} (k:Str),SameBut l H C->C l=some (.lst (xs.map V.str))->SameBut l H (upd C l (.lst ((xs++[k]).map V.str))):=λk s _=>s.trans (SameBut.upd _ _ _)
 refine xde (xs:=us) (λi σ C=>∃(xs:List Str) (o6 o7 o8 o9:Option V),σ=[some (.ref U),some kv,some (.ref ca),some (.str x),some (.ref nb),some (.ref l),o6,o7,o8,o9,none,none]/\SameBut l H C/\C l=some (.lst (xs.map V.str))/\(∀k∈xs,KIn ks ks.length k)/\xs.length<=i)
  (xce ([]) none none none none rfl s0.but ups (λ_ h=>nomatch h) (Nat.zero_le _)) (λi σ C _ p=>?_) ?_ ?_
 ·obtain⟨_,_,_,_,_,_,I,_⟩:=p
  exact SqT.of (I _ _ a5 (neN a5 M))
 ·rintro i v σ H1 hv ⟨xs,o6,o7,o8,o9,rfl,I,r,J,a0⟩
  obtain⟨b,c,hc,rfl,u⟩:=xdr hR hv;have hi:i<us.length:=(zES hv).1;refine(xas b _ rfl (SqT.of (I _ _ u (neN u M))) rfl _ _ rfl _ (jEA _ rfl (jEEA _ _ rfl (xan _ _ rfl rfl ?_))));refine(xca _ rfl _ rfl rfl _ rfl (ite2 (λc1=>?_) (λc1=>iteF (xce xs _ _ _ _ rfl I r J (by omega)))));refine(jEA _ rfl (xax _ rfl l _ rfl (.inl (SqL.of r)) (jAA rfl (xjl xs) (jEA _ rfl (ite2 (λc2=>?_) (λc2=>(xce xs _ _ _ _ rfl I r J (by omega))))))));refine(xaz _ rfl (.inl (jAE rfl _ (SqL.of r))) _ rfl (xaq l _ _ rfl rfl r (xba (by rw[zLM];omega)) ?_));refine(xce (xs++[c.2.2.2]) _ _ _ _ rfl (I.trans (SameBut.upd _ _ _)) (by rw[ups,zAP];rfl) (λk a2=>?_) (by rw[zLA,List.length_singleton];omega));rcases zMA a2 with h |h
  ·exact J k h
  ·rw[zMO h];exact ak c (zMG hc)
 rintro σ H1 ⟨xs,o6,o7,o8,o9,rfl,I,r,J,a0⟩;refine an _ _ (xab λR3 am=>?_);have F1:Fed U H H1:=(jAE (λb o e _=>I b o e (neN e M)) p0 ⟨q0,I _ _ a4 (neN a4 M)⟩);have g1:=g.fed F1;obtain⟨p1,q1,ai⟩:=F1.2;refine(xaa _ rfl U p1 q1 3 rfl ai (by decide) (by decide) (λr1 H2 ax aw f2=>(xbn _ rfl (by omega) (by omega) ?_)))
 refine xc1 (λi σ C=>∃(xs:List Str) (Y:Option V),σ=[some (.ref U),some kv,some (.ref ca),some (.str x),some (.ref nb),some (.ref l),o6,o7,o8,o9,Y,none]/\Fed U H C/\C l=some (.lst (xs.map V.str))/\(∀k∈xs,KIn ks ks.length k)/\xs.length<=6+i)
  (xck xs none rfl (F1.trans f2) (f2.1 _ _ r lf) J (by omega)) ?_ ?_
 ·rintro i σ H3 hi ⟨xs,Y,rfl,F3,r,J,a0⟩
  have g3:=g.fed F3;obtain⟨p3,q3,a3⟩:=F3.2;obtain⟨ka,a9,aq,ag,af⟩:=id g3.kd;subst aq;refine(xaz _ rfl (.inl (jAE rfl _ (SqL.of r))) _ rfl (xa5 _ rfl U ka p3 q3 (xa8 a9 ks rfl a3 (.inr ag) af O (λkx H4 ae f4=>?_))));have y:=f4.1 _ _ r lf;refine(xaq l _ _ rfl rfl y (xba (by rw[zLM];omega)) ?_);have F4:=F3.trans f4;refine(xck (xs++[kx]) _ rfl ?_ (by rw[ups,zAP];rfl) (λk a2=>?_) (by rw[zLA,List.length_singleton];omega))
  ·refine⟨λb o e u=>by rw[xad (neN e M)];exact F4.1 b o e u,?_⟩
   obtain⟨p4,q4,ah⟩:=F4.2;exact(jEE p4 q4 (by rw[xad (Ne.symm lf)];exact ah))
  ·rcases zMA a2 with h |h
   ·exact J k h
   ·rw[zMO h];exact ae
 rintro σ H3 ⟨xs,Y,rfl,F3,r,J,a0⟩;refine am _ _ (xab λR4 al=>?_);obtain⟨p3,q3,a3⟩:=F3.2;refine(xaa _ rfl U p3 q3 4 rfl a3 (by decide) (by decide) (λr4 H4 av au f4=>(xbh _ _ rfl rfl ⟨by decide,by decide⟩ (al _ _ ?_))));have F4:=F3.trans f4;have g4:=g.fed F4;have y:=f4.1 _ _ r lf;have xl:(xs.map V.str).length=xs.length:=zLM _;refine(xax _ rfl l _ rfl (.inl (SqL.of y)) (jEEA _ _ rfl ?_))
 obtain⟨N,hN,b2,b1⟩:∃N:Nat,(if ((xs.map V.str).length:Int)<5 then ((xs.map V.str).length:Int) else 5)=(N:Int)/\N<=5/\N<=xs.length:=by
  rw[xl];refine(jEAA ((if (xs.length:Int)<5 then (xs.length:Int) else 5).toNat) ?_ ?_ ?_) <;> split <;> omega
 rw[hN];refine(xbn _ rfl (by omega) (by omega) ?_);have tn:0<=r4 / 2/\r4 / 2<=1:=by omega
 obtain⟨tt,ab⟩:∃t:Nat,r4 / 2=(t:Int):=⟨(r4 / 2).toNat,by omega⟩;have ix:∀i:Nat,(18+((0+(i:Int))+r4 / 2)%6)=((18+(i+tt)%6:Nat):Int):=λi=>by rw[ab];omega
 refine xec (j:=0) (λi ys C=>Same H4 C/\∃bs:List (Str×Str),RelDs C ys (bs.map xk3)/\bs.length=i/\(∀(j:Nat) b,bs[j]?=some b->a8[18+(j+tt)%6]?=some b.1)/\∀b∈bs,KIn ks 6 b.2) (by rfl) (xf8 (Same.refl _) ([]) rfl rfl ⟨(λj b h=>by simp at h),λ_ h=>nomatch h⟩) (xba (by omega)) ?_ ?_
 ·rintro i ys H5 hi a7 ⟨s5,bs,Z,a6,G,a1⟩
  have g5:=g4.same s5;obtain⟨z,hz,az⟩:=g5.name (i:=18+(i+tt)%6) (by omega);have hx:i<xs.length:=by omega
  refine(xat _ rfl _ rfl _ rfl _ _ rfl rfl (xbh _ _ rfl rfl (by show(0:Int)<6;decide) (xan _ _ rfl rfl (xak nb _ _ _ rfl rfl (SqL.of g5.nl) (by rw[ix];exact az) ?_))));refine(xap _ rfl _ rfl l _ _ (xbc (.str xs[i]) rfl rfl (SqL.of (s5 _ _ y)) ?_ (by walk_at"s") (λt ht=>nxt hi a7 ?_)))
  ·rw[show(0+(i:Int))=(i:Int) by omega]
   exact xa2 (by rw[zGM,zGA hx];rfl)
  have st:=Same.new ht (.tup [.str z,.str xs[i]]);refine(xf8 (s5.trans st) (bs++[(z,xs[i])]) ?_ (by rw[zLA,List.length_singleton,a6]) ⟨λj b u=>?_,λb u=>?_⟩)
  ·rw[zAP]
   exact(Z.same st _).append (xan (.ref t) ([]) rfl (xal t _ rfl ups _ _ rfl rfl _ (jEAA _ rfl rfl rfl)) rfl)
  ·by_cases hj:j<bs.length
   ·rw[List.getElem?_append_left hj]at u
    exact G j b u
   ·have ac:=(zES u).1
    rw[zLA,List.length_singleton]at ac;have e0:j=i:=by omega
    subst e0;rw[List.getElem?_append_right (by omega),a6,Nat.sub_self]at u;simp at u;subst u;exact hz
  ·rcases zMA u with h |h
   ·exact a1 b h
   ·rw[zMO h]
    exact(J _ (List.getElem_mem hx)).mono O
 ·rintro ys H5 a7 ⟨s5,bs,Z,a6,G,a1⟩ D hD
  have sD:=Same.new hD (.lst ys);refine(jEEA D ys rfl (.inl ⟨SqL.of ups,λt ht=>?_⟩));have st:=Same.new ht (.tup ys);have sA:=sD.trans st;refine q _ bs _ (F4.same (s5.trans sA)) (xan t ys rfl ups (Z.same sA _)) ⟨by omega,?_,λb u=>?_,a1⟩
  ·refine List.pairwise_iff_getElem.mpr λi j hi hj b0 e=>?_
   rw[zLM]at hi hj;rw[List.getElem_map,List.getElem_map]at e;have h1:=G i _ (zGA hi);have h2:=G j _ (zGA hj);rw[e]at h1;obtain⟨k1,e1⟩:=zES h1;obtain⟨k2,e2⟩:=zES h2;have:=(List.getElem_inj (h₀:=k1) (h₁:=k2) g.ok.2.1).mp (e1.trans e2.symm);omega
  ·obtain⟨j,hj,e⟩:=zMI u
   have:=G j b (by rw[<- e];exact zGA hj);exact zMG this
def Sb2(f m:Addr)(H H':Hp):Prop:=(∀b o,H b=some o->b≠f->b≠m->H' b=some o)/\∃p q:Int,H' f=some (.lst [.int p,.int q])
theorem Sb2.of{f m:Addr}{H a:Hp}(h:Fed f H a):Sb2 f m H a:=⟨λb o e n _=>h.1 b o e n,h.2⟩
theorem Sb2.same{f m:Addr}{H c a:Hp}(h:Sb2 f m H c)(s:Same c a):Sb2 f m H a:=by
 obtain⟨l,p,q,j⟩:=h;exact(jAE (λb o e i g=>s _ _ (l b o e i g)) p ⟨q,s _ _ j⟩)
theorem Sb2.upd{f m:Addr}{H c:Hp}(h:Sb2 f m H c)(n:m≠f)(o:HO):Sb2 f m H (L2.upd c m o):=by
 obtain⟨j,p,q,i⟩:=h;exact(jAE (λb u e g a=>by rw[xad a];exact j b u e g a) p ⟨q,by rw[xad (Ne.symm n)];exact i⟩)
structure DIn(H:Hp)(f:Addr)(kv cv bv:V)(ks:List Kn)(cs:List Chn)(bs:List (Str×Str)):Prop where
 fd:∃p q:Int,H f=some (.lst [.int p,.int q])
 kd:RelD H kv (xdf ks)
 wf:KWf ks
 pb:PNB ks
 cd:RelD H cv (.tup (cs.map dChn))
 c6:cs.length<=6
 ck:∀c∈cs,KIn ks 6 c.2.2.2
 bd:RelD H bv (xdv bs)
 b5:bs.length<=5
 bn:(bs.map (·.1)).Nodup
 bb:∀b∈bs,NoBy b.1
 bk:∀b∈bs,KIn ks 6 b.2
theorem DIn.keep{H a:Hp}{f:Addr}{c e g:V}{ks:List Kn}{cs:List Chn}{bs:List (Str×Str)}(d:DIn H f c e g ks cs bs)(s:∀b vs,H b=some (.tup vs)->a b=some (.tup vs))(h:∃p q:Int,a f=some (.lst [.int p,.int q])):DIn a f c e g ks cs bs:=
 ⟨h,d.kd.tups s _,d.wf,d.pb,d.cd.tups s _,d.c6,d.ck,d.bd.tups s _,d.b5,d.bn,d.bb,d.bk⟩
theorem DIn.same{H g:Hp}{f:Addr}{a c e:V}{ks:List Kn}{cs:List Chn}{bs:List (Str×Str)}(d:DIn H f a c e ks cs bs)(s:Same H g):DIn g f a c e ks cs bs:=d.keep (Same.tups s) (by obtain⟨p,q,h⟩:=d.fd;exact(jEE p q (s _ _ h)))
theorem DIn.fed{H g:Hp}{f:Addr}{a c e:V}{ks:List Kn}{cs:List Chn}{bs:List (Str×Str)}(d:DIn H f a c e ks cs bs)(s:Fed f H g):DIn g f a c e ks cs bs:=d.keep (xah d.fd s) s.2
theorem DIn.tin{H:Hp}{f c:Addr}{g l m:V}{ks:List Kn}{cs:List Chn}{bs:List (Str×Str)}(d:DIn H f g l m ks cs bs){us:List V}(a:H c=none)(e:RelDs H us (bs.map xk3)):TIn (upd H c (.lst us)) f g (.ref c) ks bs 3:=by
 have s:=Same.new a (.lst us);have d':=d.same s;obtain⟨p,q,h⟩:=d.fd;exact⟨d'.fd,d'.kd,d.wf,d.pb,(xbh c us rfl ups (e.same s _) (Ne.symm (neN h a))),d.bn,by have:=d.b5;omega,λb i j _=>d.bb b i j,d.bk⟩
theorem xtq{k n:Nat}(h:k<n):seqIndex? (k:Int) n=some k:=by
 unfold seqIndex?;have:¬(k:Int)<0:=by omega
 simp only[if_neg this];rw[if_pos (by simp;omega),Int.toNat_natCast]
theorem xrg:∀(l:List Str) (i:Nat),(l.map V.str).eraseIdx i=(l.eraseIdx i).map V.str
 |[],i=>rfl
 |a::l,0=>rfl
 |a::l,i+1=>by
  rw[List.map_cons,List.eraseIdx_cons_succ,List.eraseIdx_cons_succ,List.map_cons,xrg l i]
def xng:Sp:=λvs H Q _=>∃(f m:Addr) (kv cv bv:V) (ks:List Kn) (cs:List Chn) (bs:List (Str×Str)) (x:Str) (ms:List Str),vs=[.ref f,kv,cv,.str x,bv,.ref m]/\DIn H f kv cv bv ks cs bs/\H m=some (.lst (ms.map V.str))/\m≠f/\ms.length<=100 ∧
 ∀u r ms' H',Sb2 f m H H'->H' m=some (.lst (ms'.map V.str))->ms'.length<=ms.length->((∀l c y,r≠.take l c y)->ms'=ms)->RelD H' u r.d->(∀n,xff ks cs x bs n r)->(∀b vs,H b=some (.tup vs)->H' b=some (.tup vs))->Q u H'
theorem xpx(T:Tx K mg)(a:DefIs P w K mg base n "_law_take" qad xcp)(C:DefIs P w K mg base n "_law_into" qap xle)(g:DefIs P w K mg base n "_law_new_term" qah xh4):DefIs P w K mg base (n+1) "_law_deal" qay xng:=by
 refine DefIs.of T.kM scl_deal (by walk_at"l") (λf c4 A outer s H vs Q E hr h=>?_);obtain⟨G,ml,kv,cv,bv,ks,cs,bs,x,O,rfl,d,aq,mf,bx,q⟩:=h;have nd:=scl_deal.nd;have c6:=d.c6;have b5:=d.b5
 refine⟨_,(zpn (psn 6 nd (pd a hr (va 0 (zpc pI pN so))))
   (zpn (psn 7 nd (pd C hr (va 2 (va 3 (v1 4)))))
   (zpn (xc6 (i:=8) ["_law_c","_law_come","_law_to","_law_kind","_law_h"] [none,none,none,none,some 3] rfl (by kernel_rfl) nd rfl (by walk_at"o") (xa1 (K:=K) rfl (pv 2)) (λ_ _ _ _=>(xa9 (K:=K) (n:=4) rfl rfl (xac (pgc 0) (xac (pgc 1) (xac (pgc 2) (xac (pgc 3) xa7)))))) (λ_ _ _ _=>(xdk (pR xa6 (pv 1) (pv 4) (nM _)))) (λ_ _ _ _=>(xay (va 0 (v1 3)))))
   (zpn (xa4 (PW.pt (xcj (pR xfc (pv 6) pI (nM _)) (xcj (pR xdc (xar (xag (K:=K) rfl) rfl T.k5 PySem.boot_len (v1 7)) pI (nM _)) (xb0 (pR xdc (xar (xag (K:=K) rfl) rfl T.k5 PySem.boot_len (v1 5)) pI (nM _)))))) (zpn (xc0 (pxl K (pv 7) (pd a hr (va 0 (zpc (xar (xag (K:=K) rfl) rfl T.k5 PySem.boot_len (v1 7)) pN zsc)))) (xa9 (K:=K) rfl rfl (xac (pgn 9 nd) (xac (pgn 10 nd) xa7))))
   (zpo (xai (xay (zpc pS (zpc (xc4 PySem.F.plainAttrs_list PySem.F.slot_list_pop PySem.F.type_list_pop xfl (pv 5) (zpc (pd a hr (va 0 (zpc (xar (xag (K:=K) rfl) rfl T.k5 PySem.boot_len (v1 5)) pN zsc))) pN zsc)) (va 9 (v1 10)) zsc) so))))) pQ)
   (zpn (xa4 (PW.pt (xcj (pR xfc (pv 6) pI (nM _)) (xb0 (pR xdc (xar (xag (K:=K) rfl) rfl T.k5 PySem.boot_len (v1 8)) pI (nM _))))) (zpn (xc0 (pxl K (pv 8) (pd a hr (va 0 (zpc (xar (xag (K:=K) rfl) rfl T.k5 PySem.boot_len (v1 8)) pN zsc)))) (xa9 (K:=K) rfl rfl (xac (pgn 9 nd) (xac (pgn 11 nd) xa7))))
   (zpo (xai (xay (zpc pS (va 9 (zpc (pd g hr (va 0 (va 1 (zpc (xao xb6 rfl T.k6 PyProof.Rows.boot_list (v1 4)) (v1 11) zsc)))) pN zsc)) so))))) pQ)
   (zpn (xa4 (PW.pt (xcj (pR xfc (pv 6) pI (nM _)) (xb0 (pR xdc (xar (xag (K:=K) rfl) rfl T.k5 PySem.boot_len (v1 4)) pI (nM _))))) (zpn (xc0 (px K (pv 4) (pd a hr (va 0 (zpc (xar (xag (K:=K) rfl) rfl T.k5 PySem.boot_len (v1 4)) pN zsc)))) (xa9 (K:=K) rfl rfl (xac (pgn 10 nd) (xac (pgn 11 nd) xa7))))
   (zpo (xai (xay (zpc pS (va 10 (zpc (pd g hr (va 0 (va 1 (zpc (xao xb6 rfl T.k6 PyProof.Rows.boot_list (v1 4)) (v1 11) zsc)))) pN zsc)) so))))) pQ)
   (zpo (xai (xay (zpc pS (zpc (pd g hr (va 0 (va 1 (zpc (xao xb6 rfl T.k6 PyProof.Rows.boot_list (v1 4)) (zpc pS pN so) zsc)))) pN zsc) so)))))))))),xab λR1 bn=>?_⟩
 obtain⟨p0,q0,b8⟩:=d.fd;refine(xaa _ rfl G p0 q0 8 rfl b8 (by decide) (by decide) (λfm H1 c0 bz f1=>bn _ _ (xab λR2 bm=>?_)));have d1:=d.fed f1;have ac:=f1.1 _ _ aq mf;refine(xbk _ rfl _ rfl _ rfl cv bv (xb3 cs x bs rfl d1.cd c6 d1.bd b5 (λil ws H2 s2 ar b6 ae bu=>bm _ _ (xab λR3 bj=>?_))));have d2:=d1.same s2;have ao:=s2 _ _ ac;have F2:Fed G H H2:=f1.same s2;obtain⟨ca,uc,bo,ax,ay⟩:=id d2.cd;subst bo;have bb:=ay.length;rw[zLM]at bb;refine(xbg _ rfl ca rfl ⟨_,SqT.of ax⟩ ?_);refine xbx (xs:=uc) (λi ys H'=>Same H2 H'/\(∀w∈ys,∃(b:Addr) (ch:Chn),w=.ref b/\H' b=some (.tup [.str ch.1,.str ch.2.2.2])/\ch∈cs/\ch.2.1=x)/\ys.length<=i) (jAA (Same.refl _) (λ_ h=>nomatch h) (Nat.le_refl _)) (xba (by omega)) (λi ys H' _ p=>SqT.of (p.1 _ _ ax)) ?_ ?_
 ·rintro i y ys H3 hy hi af ⟨s3,a0,b1⟩
  obtain⟨b,c,hc,rfl,hb⟩:=xdr ay hy;refine(xas b _ rfl (SqT.of (s3 _ _ hb)) rfl _ _ rfl _ (jEA _ rfl (jEEA _ _ rfl (xbh _ _ rfl rfl (ext4 rfl rfl rfl rfl) ?_))));refine(xca _ rfl _ rfl rfl _ rfl (ite2 (λc1=>?_) (λc1=>nxtN hi af (jAA s3 a0 (by omega)))));refine(xbg _ rfl _ rfl (by walk_at"s") (λt ht=>nxtG hi af ?_));have st:=Same.new ht (.tup [.str c.1,.str c.2.2.2]);refine(jAA (s3.trans st) (λw hw=>?_) (by rw[zLA,List.length_singleton];omega));rcases zMA hw with hw |hw
  ·obtain⟨b',ch,e,bf,r⟩:=a0 w hw
   exact(xan b' ch e (st _ _ bf) r)
  ·rw[zMO hw]
   exact(xbh t c rfl ups (zMG hc) (V.str.inj (of_decide_eq_true c1)))
 rintro ys H3 af ⟨s3,a0,b1⟩ D hD;have sD:=Same.new hD (.lst ys);obtain⟨H4,a8⟩:∃H4,H4=upd H3 D (.lst ys):=⟨_,rfl⟩;have ai:H4 D=some (.lst ys):=by rw[a8];exact ups
 rw[<- a8]at sD;have s4:=s3.trans sD;have d4:=d2.same s4;have F4:Fed G H H4:=F2.same s4;have a2:=s4 _ _ ao;have a3:=s4 _ _ b6;obtain⟨p1,q1,av⟩:=f1.2;have b0:il≠G:=Ne.symm (neN av ar);have bt:il≠ml:=Ne.symm (neN ac ar);have Df:D≠G:=Ne.symm (neN (s3 _ _ (s2 _ _ av)) hD);obtain⟨p4,q4,M⟩:=F4.2;obtain⟨ba,ub,bp,U,a6⟩:=id d4.bd;subst bp;have bc:=a6.length;rw[zLM]at bc;have az:(O.map V.str).length=O.length:=zLM _;have ah:∀w∈ws,IntoAt H4 cs x bs w:=λw hw=>(ae w hw).tups (Same.tups s4)
 have al:∀w∈ys,∃(b:Addr) (ch:Chn),w=.ref b/\H4 b=some (.tup [.str ch.1,.str ch.2.2.2])/\ch∈cs/\ch.2.1=x:=λw hw=>by
  obtain⟨b,ch,e,hb,r⟩:=a0 w hw;exact(xan b ch e (sD _ _ hb) r)
 rw[<- a8];clear a8 ae a0
 have a7:∀{H5 H6:Hp} {u:V} {r:Row},Fed G H4 H5->Same H5 H6->(∀l c y,r≠.take l c y)->RelD H6 u r.d->(∀n,xff ks cs x bs n r)->Q u H6:=λ{H5 H6 u r} o s6 bw hu b2=>by
  have F5:=(F4.trans o).same s6;exact q u r O H6 (Sb2.of F5) (s6 _ _ (o.1 _ _ a2 mf)) (Nat.le_refl _) (λ_=>rfl) hu b2 (xah d.fd F5)
 refine bj _ _ (xab λR4 bi=>?_)
 have Z:R4 [some (.ref G),some kv,some (.ref ca),some (.str x),some (.ref ba),some (.ref ml),some (.int fm),some (.ref il),some (.ref D),none,none,none] H4:=by
  refine bi _ _ (xab λR5 bh=>?_)
  have aa:R5 [some (.ref G),some kv,some (.ref ca),some (.str x),some (.ref ba),some (.ref ml),some (.int fm),some (.ref il),some (.ref D),none,none,none] H4:=by
   refine bh _ _ (xab λR6 bg=>?_)
   have a9:R6 [some (.ref G),some kv,some (.ref ca),some (.str x),some (.ref ba),some (.ref ml),some (.int fm),some (.ref il),some (.ref D),none,none,none] H4:=by
    refine bg _ _ ?_;refine(xat _ rfl _ rfl _ rfl ba ub rfl (.inr (SqT.of U)) (λbl j=>?_));have sb:=Same.new j (.lst ub);refine(xau G kv (.ref bl) ks bs (xbn (S "num") rfl (d4.tin j a6) (.inl rfl) (λta td H5 o rd tb=>⟨(by walk_at"s"),λt ht=>?_⟩)));have st:=Same.new ht (.tup [.str (S "tell"),.ref ta]);exact a7 (r:=.tell td) (((Fed.refl M).same sb).trans o) st (by intro _ _ _ e;cases e) (xal t _ rfl ups _ _ rfl rfl _ (jEAA _ rfl (rd.same st _) rfl)) λ_=>tb.1
   refine(xbv _ rfl _ _ rfl rfl _ rfl (ite2 (λc1=>?_) (λc1=>iteF a9)));refine(xbu _ rfl ba _ rfl (.inr (SqT.of U)) _ _ rfl rfl (jEA _ rfl (ite2 (λc2=>?_) (λc2=>a9))));have ab:=of_decide_eq_true c2;refine xab λS1 a5=>?_;refine(xat _ rfl _ rfl _ rfl ba _ rfl (.inr (SqT.of U)) (xak G p4 q4 _ rfl M (by omega) (by omega) (λr5 H5 ak aj o=>?_)));obtain⟨i5,rfl⟩:∃i:Nat,r5=(i:Int):=⟨r5.toNat,by omega⟩;have I:i5<ub.length:=by omega
   have m:=xah (jEE p4 q4 M) o;obtain⟨J,pb,b4,eb,a4⟩:=xnu a6 (zGA I);refine(xbm ba _ _ (.ref J) rfl rfl (SqT.of (m _ _ U)) (xa2 (by rw[zGA I,eb])) J (xbn _ rfl (SqT.of (m _ _ a4)) rfl (jEEA _ _ rfl (xan _ _ rfl rfl (a5 _ _ ?_)))));have am:=zMG b4;have d5:=d4.fed o;refine(jEA _ rfl (xat _ rfl _ rfl _ rfl ba ub rfl (.inr (SqT.of (m _ _ U))) (λbl j=>?_)));have sb:=Same.new j (.lst ub);refine(xa5 _ rfl G kv (.ref bl) ks (xbh bs pb.2 rfl (d5.tin j (a6.tups m _)) (d.bk pb am) (λta td H6 f6 rd tb=>⟨(by walk_at"s"),λt ht=>?_⟩)));have st:=Same.new ht (.tup [.str (S "set"),.str pb.1,.ref ta]);exact a7 (r:=.set pb.1 td) ((o.same sb).trans f6) st (by intro _ _ _ e;cases e) (xal t _ rfl ups _ _ rfl rfl _ (xbe _ rfl rfl _ _ rfl (rd.same st _) rfl)) λ_=>(jEA pb.2 am tb.1)
  refine(xbv _ rfl _ _ rfl rfl _ rfl (ite2 (λc1=>?_) (λc1=>iteF aa)));refine(xbu _ rfl D _ rfl (.inl (SqL.of ai)) _ _ rfl rfl (jEA _ rfl (ite2 (λc2=>?_) (λc2=>aa))));have ab:=of_decide_eq_true c2;refine xab λS1 a5=>?_;refine(xat _ rfl _ rfl _ rfl D _ rfl (.inl (SqL.of ai)) (xak G p4 q4 _ rfl M (by omega) (by omega) (λr5 H5 ak aj o=>?_)));obtain⟨i5,rfl⟩:∃i:Nat,r5=(i:Int):=⟨r5.toNat,by omega⟩;have I:i5<ys.length:=by omega
  have m:=xah (jEE p4 q4 M) o;obtain⟨J,ch,eb,a4,aw,b9⟩:=al _ (List.getElem_mem I);refine(xbm D _ _ (.ref J) rfl rfl (SqL.of (o.1 _ _ ai Df)) (xa2 (by rw[zGA I,eb])) J (xbn _ rfl (SqT.of (m _ _ a4)) rfl (jEEA _ _ rfl (xan _ _ rfl rfl (a5 _ _ ?_)))));have d5:=d4.fed o;refine(jEA _ rfl (xat _ rfl _ rfl _ rfl ba ub rfl (.inr (SqT.of (m _ _ U))) (λbl j=>?_)));have sb:=Same.new j (.lst ub);refine(xa5 _ rfl G kv (.ref bl) ks (xbh bs ch.2.2.2 rfl (d5.tin j (a6.tups m _)) (d.ck ch aw) (λta td H6 f6 rd tb=>⟨(by walk_at"s"),λt ht=>?_⟩)));have st:=Same.new ht (.tup [.str (S "send"),.str ch.1,.ref ta]);exact a7 (r:=.send ch.1 td) ((o.same sb).trans f6) st (by intro _ _ _ e;cases e) (xal t _ rfl ups _ _ rfl rfl _ (xbe _ rfl rfl _ _ rfl (rd.same st _) rfl)) λ_=>(xbn ch aw rfl b9 tb.1)
 refine(xbv _ rfl _ _ rfl rfl _ rfl (ite2 (λc1=>?_) (λc1=>iteF Z)));refine(xbu _ rfl il _ rfl (.inl (SqL.of a3)) _ _ rfl rfl (jEA _ rfl (ite2 (λc2=>?_) (λc2=>iteF Z))));refine(xbu _ rfl ml _ rfl (.inl (SqL.of a2)) _ _ rfl rfl (jEA _ rfl (ite2 (λc3=>?_) (λc3=>Z))));have ab:=of_decide_eq_true c2;have b3:=of_decide_eq_true c3;refine xab λS1 a5=>?_;refine(xat _ rfl _ rfl _ rfl il _ rfl (.inl (SqL.of a3)) (xak G p4 q4 _ rfl M (by omega) (by omega) (λr5 H5 ak aj o=>?_)));obtain⟨i5,rfl⟩:∃i:Nat,r5=(i:Int):=⟨r5.toNat,by omega⟩;have I:i5<ws.length:=by omega
 have m:=xah (jEE p4 q4 M) o;obtain⟨J,c5,y5,eb,a4,ag⟩:=ah _ (List.getElem_mem I);refine(xbm il _ _ (.ref J) rfl rfl (SqL.of (o.1 _ _ a3 b0)) (xa2 (by rw[zGA I,eb])) J (xbn _ rfl (SqT.of (m _ _ a4)) rfl (jEEA _ _ rfl (xan _ _ rfl rfl (a5 _ _ ?_)))));have a1:=o.1 _ _ a2 mf;obtain⟨p5,q5,b7⟩:=o.2;refine(jEAA _ rfl (.inl (jAE rfl _ (SqL.of a1))) ?_);refine(xbi _ rfl _ rfl ml _ rfl (.inl (SqL.of a1)) G (xaq p5 q5 _ rfl b7 (by omega) (by omega) (λr6 H6 br bq f6=>?_)));obtain⟨Y,rfl⟩:∃i:Nat,r6=(i:Int):=⟨r6.toNat,by omega⟩;have au:Y<O.length:=by omega
 have an:=f6.1 _ _ a1 mf;refine(xaj ml _ (Y:Int) Y (.str O[Y]) rfl rfl an (by omega) (by omega) (jAA (xtq (by rw[az];exact au)) (by rw[zGM,zGA au];rfl) ?_));have er:(O.map V.str).eraseIdx Y=(O.eraseIdx Y).map V.str:=xrg O Y;rw[er];refine(xbg _ rfl _ rfl (by walk_at"s") (λt ht=>?_));have st:=Same.new ht (.tup [.str (S "take"),.str O[Y],.str c5,.str y5]);have F6:Fed G H H6:=F4.trans (o.trans f6);have sb:Sb2 G ml H (upd (upd H6 ml (.lst ((O.eraseIdx Y).map V.str))) t (.tup [.str (S "take"),.str O[Y],.str c5,.str y5])):=((Sb2.of F6).upd mf _).same st
 refine q _ (.take O[Y] c5 y5) (O.eraseIdx Y) _ sb (st _ _ ups) (by rw[List.length_eraseIdx];split <;> omega) (λh=>absurd rfl (h _ _ _)) (xal t _ rfl ups _ _ rfl rfl _ (xbe _ rfl rfl _ _ rfl rfl (xan _ _ rfl rfl rfl))) (λ_=>ag) λb vs e=>st _ _ (by
  rw[xad λz=>by rw[z,aq]at e;cases e];exact xah d.fd F6 b vs e)
structure RowsOk(ks:List Kn)(cs:List Chn)(x:Str)(bs:List (Str×Str))(rs:List Row):Prop where
 len:rs.length<=30
 ok:∀r∈rs,xff ks cs x bs rs.length r
 last:∃r,rs.getLast?=some r/\r.ends
theorem xmh{ks:List Kn}{cs:List Chn}{x:Str}{bs:List (Str×Str)}{n a:Nat}{r:Row}(h:xff ks cs x bs n r)(l:n<=a):xff ks cs x bs a r:=by
 cases r with
 |go g=>exact Nat.lt_of_lt_of_le h l
 |cond t g=>exact⟨h.1,Nat.lt_of_lt_of_le h.2 l⟩
 |_=>exact h
def xru:Sp:=λvs H Q _=>∃(f nb:Addr) (kv cv bv:V) (ks:List Kn) (cs:List Chn) (bs:List (Str×Str)) (x:Str) (nms:List Str),vs=[.ref f,kv,cv,.str x,bv,.ref nb]/\DIn H f kv cv bv ks cs bs/\H nb=some (.lst (nms.map V.str))/\nms.length=26/\nb≠f/\∀rv rs H',Fed f H H'->RelD H' rv (.tup (rs.map Row.d))->RowsOk ks cs x bs rs->Q rv H'
theorem xsx{a:List Str}(h:a.length=26):cutV (a.map V.str) (some 20) (some 26)=((a.drop 20).take 6).map V.str:=by
 unfold cutV HT.sIx;rw[zLM,h,List.map_take,List.map_drop];rfl
theorem xtr{H:Hp}{us:List V}{rs:List Row}(h:RelDs H us (rs.map Row.d)){i:Nat}{v:V}(c:us[i]?=some v):∃(b:Addr) (r:Row) (zs:List V),rs[i]?=some r/\v=.ref b/\H b=some (.tup (.str r.hd::zs)):=by
 obtain⟨d,hd,rd⟩:=h.get c;rw[zGM]at hd;obtain⟨r,f,rfl⟩:=zMS hd;obtain⟨a,zs,e,g,_⟩:=xig rd;exact(xcd a r zs f e g)
theorem xrz{H:Hp}{us:List V}{ds:List D}{v:V}{d:D}(h:RelDs H us ds)(f:RelD H v d)(i:Nat):RelDs H (us.take i++v::us.drop i) (ds.take i++d::ds.drop i):=by
 have a:∀(i:Nat) {us:List V} {ds:List D},RelDs H us ds->RelDs H (us.take i) (ds.take i)/\RelDs H (us.drop i) (ds.drop i):=by
  intro i
  induction i with
  |zero=>intro us ds h;exact⟨rfl,h⟩
  | succ i c=>
   intro us ds h
   cases ds with
   |nil=>rw[show us=[] from h];exact⟨rfl,rfl⟩
   |cons d ds=>
    obtain⟨v,r,e,j,g⟩:=h;subst e;have:=c g;exact⟨(xan v _ rfl j this.1),this.2⟩
 have:=a i h;exact this.1.append (xan v _ rfl f this.2)
theorem xk1{f l:Addr}{H H1:Hp}{o:HO}(F:Fed f H H1)(hl:H l=none)(lf:l≠f):Fed f H (upd H1 l o):=by
 obtain⟨h1,p,q,h2⟩:=F;exact(jAE (λb u e n=>by rw[xad (neN e hl)];exact h1 b u e n) p ⟨q,by rw[xad (Ne.symm lf)];exact h2⟩)
theorem xpt(T:Tx K mg)(m:DefIs P w K mg base n "_law_take" qad xcp)(ab:DefIs P w K mg base n "_law_into" qap xle)(U:DefIs P w K mg base n "_law_new_term" qah xh4)(ac:DefIs P w K mg base n "_law_deal" qay xng):DefIs P w K mg base (n+1) "_law_rows" qaz xru:=by
 refine DefIs.of T.kN scl_rows (by walk_at"l") (λf ei A outer s H vs Q E hr h=>?_);obtain⟨I,nb,kv,cv,bv,ks,cs,bs,x,d0,rfl,d,d7,cq,ec,q⟩:=h;have nd:=scl_rows.nd;have c6:=d.c6;have b5:=d.b5
 refine⟨_,(zpn (psn 6 nd (xao xb6 rfl T.k6 PyProof.Rows.boot_list (zpc (xd7 xhd (pv 5) (xdl pI) (xdl pI)) pN ss)))
   (zpn (psn 7 nd (xb2 pN))
   (zpn (psn 8 nd (xam xbd pI (pd m hr (va 0 (zpc pI pN so)))))
   (zpn (xcm PassesOwn.never rfl (xcb rfl T.k9 (zpc (xam xcq (pv 8) pI) pN xa3)) (pgn 9 nd)
   (zpn (psn 10 nd (pd m hr (va 0 (zpc pI pN so))))
   (zpo (xa4 (pR xfc (pv 10) pI (nM _)) (zpn (psn 11 nd (pd U hr (va 0 (va 1 (zpc (xao xb6 rfl T.k6 PyProof.Rows.boot_list (v1 4)) (zpc pS pN so) zsc)))))
   (zpo (xbl (xc4 PySem.F.plainAttrs_list PySem.F.slot_list_append PySem.F.type_list_append xbj (pv 7) (zpc (xay (zpc pS (va 11 (zpc (pd m hr (va 0 (v1 8))) pN zsc)) so)) pN sT))))) (zpo (xa4 (pR xa6 (pv 10) pI (nM _)) (zpo (xbl (xc4 PySem.F.plainAttrs_list PySem.F.slot_list_append PySem.F.type_list_append xbj (pv 7) (zpc (pxl K (xb2 (zpc (xay (zpc pS pN so)) (zpc (xay (zpc pS (zpc (pd m hr (va 0 (v1 8))) pN zsc) so)) pN sT) sT)) (pd m hr (va 0 (zpc pI pN so)))) pN ss)))) (zpo (xbl (xc4 PySem.F.plainAttrs_list PySem.F.slot_list_append PySem.F.type_list_append xbj (pv 7) (zpc (pd ac hr (va 0 (va 1 (va 2 (va 3 (va 4 (v1 6))))))) pN zsc))))))))))
   (zpn (psn 12 nd (pd ab hr (va 2 (va 3 (v1 4)))))
   (zpn (xa4 (PW.pt (xcj (pR xdc (xar (xag (K:=K) rfl) rfl T.k5 PySem.boot_len (v1 12)) pI (nM _)) (xb0 (pR xe2 pS (xbt ["_law_row"] [none] rfl (by kernel_rfl) (xcf (K:=K) rfl (pv 7)) (λ_ _ _ _=>(pgc 0)) (λ_ _ _ _=>xb1) (λ_ _ _ _=>(px K (pv 0) pI))) (by with_unfolding_all rfl))))) (zpn (xc0 (pxl K (pv 12) (pd m hr (va 0 (zpc (xar (xag (K:=K) rfl) rfl T.k5 PySem.boot_len (v1 12)) pN zsc)))) (xa9 (K:=K) rfl rfl (xac (pgn 13 nd) (xac (pgn 14 nd) xa7))))
   (zpo (xbl (xc4 PySem.F.plainAttrs_list PySem.F.slot_list_insert PySem.F.type_list_insert xoe (pv 7) (zpc (pd m hr (va 0 (zpc (xam xbd (xar (xag (K:=K) rfl) rfl T.k5 PySem.boot_len (v1 7)) pI) pN xa3))) (zpc (xay (zpc pS (zpc (xc4 PySem.F.plainAttrs_list PySem.F.slot_list_pop PySem.F.type_list_pop xfl (pv 6) (zpc pI pN so)) (va 13 (v1 14)) zsc) so)) pN sT) zsc))))) pQ)
   (zpn (xa4 (pR xdc (pd m hr (va 0 (zpc pI pN so))) pI (nM _)) (zpo (xai (xam (xlu (K:=K) rfl) (xao (xbo (K:=K) rfl) rfl T.uB PyProof.Rows.boot_tuple (v1 7)) (xay (zpc (xay (zpc pS (zpc (pd m hr (va 0 (v1 8))) pN zsc) so)) pN sT))))) pQ)
   (zpo (xai (xam (xlu (K:=K) rfl) (xao (xbo (K:=K) rfl) rfl T.uB PyProof.Rows.boot_tuple (v1 7)) (xay (zpc (xay (zpc pS pN so)) pN sT)))))))))))),xab λR1 dr=>?_⟩
 obtain⟨p0,q0,bu⟩:=d.fd;refine(xat _ rfl _ rfl _ rfl nb _ rfl (SqL.of d7) (λc0 de=>?_));rw[xsx cq];obtain⟨a9,b8⟩:∃a9,(d0.drop 20).take 6=a9:=⟨_,rfl⟩;have d9:a9.length=6:=by rw[<- b8,List.length_take,List.length_drop,cq];rfl
 rw[b8];have bg:=Same.new de (.lst (a9.map V.str));refine(xan c0 _ rfl (.inl (SqL.of ups)) (λml b9=>dr _ _ (xab λR2 dq=>?_)));have c4:=Same.new b9 (.lst (a9.map V.str));refine⟨(by walk_at"s"),λO ah=>dq _ _ (xab λR3 dn=>?_)⟩;have c3:=Same.new ah (.lst []);have s0:=bg.trans (c4.trans c3);obtain⟨H0,b3⟩:∃H0,H0=upd (upd (upd H c0 (.lst (a9.map V.str))) ml (.lst (a9.map V.str))) O (.lst []):=⟨_,rfl⟩;have cg:H0 O=some (.lst []):=by rw[b3];exact ups
 have ci:H0 ml=some (.lst (a9.map V.str)):=by rw[b3];exact c3 _ _ ups
 rw[<- b3]at s0⊢;clear b3;have bm:H ml=none:=xaf bg b9;have bj:H O=none:=xaf (bg.trans c4) ah;have aa:ml≠I:=Ne.symm (neN bu bm);have a0:O≠I:=Ne.symm (neN bu bj);have bi:O≠ml:=λz=>by rw[z,ups]at ah;cases ah
 have F0:Fed I H H0:=(Fed.refl bu).same s0;obtain⟨pA,qA,dd⟩:=F0.2;refine(xaa _ rfl I pA qA 10 rfl dd (by decide) (by decide) (λrm H1 e2 e1 f1=>(xan _ _ rfl rfl ?_)));obtain⟨many,bq,ef,e0⟩:∃many:Nat,1+rm=(many:Int)/\1<=many/\many<=10:=(jEAA ((1+rm).toNat) (by omega) (by omega) (by omega))
 suffices ca:R3 [some (.ref I),some kv,some cv,some (.str x),some bv,some (.ref nb),some (.ref ml),some (.ref O),some (.int (many:Int)),none,none,none,none,none,none] H1 by
  rw[<- bq]at ca;exact ca
 refine dn _ _ (xab λR4 dm=>?_);refine(xbv _ rfl _ _ rfl rfl _ rfl (jAA (by omega) (by omega) ?_))
 refine xc1 (λi σ H'=>∃us,∃(rs:List Row) (ms:List Str) (o9 a2 a1:Option V),σ=[some (.ref I),some kv,some cv,some (.str x),some bv,some (.ref nb),some (.ref ml),some (.ref O),some (.int many),o9,a2,a1,none,none,none]/\Fed I H H'/\H' O=some (.lst us)/\RelDs H' us (rs.map Row.d)/\rs.length=i/\(∀r∈rs,xff ks cs x bs many r)/\H' ml=some (.lst (ms.map V.str))/\ms.length<=6/\((∀r∈rs,r.hd≠S "take")->ms.length=6))
  (xau ([]) ([]) a9 none none (xbc none rfl (F0.trans f1) (f1.1 _ _ cg a0) rfl rfl (jAAA (λ_ h=>nomatch h) (f1.1 _ _ ci aa) (by omega) (λ_=>d9)))) ?_ ?_
 ·rintro i σ H2 hi ⟨us,rs,ms,o9,a2,a1,rfl,F2,av,an,b6,a7,b0,ai,aw⟩
  have d2:=d.keep (xah d.fd F2) F2.2;obtain⟨p2,q2,bt⟩:=F2.2;have bn:=an.length;rw[zLM]at bn
  have put:∀{H5:Hp} {u:V} {r:Row} {a5:List Str} (a2 a1:Option V),Fed I H H5->H5 O=some (.lst us)->RelDs H5 us (rs.map Row.d)->RelD H5 u r.d->xff ks cs x bs many r->H5 ml=some (.lst (a5.map V.str))->a5.length<=6->((∀l c y,r≠.take l c y)->a5=ms)->
    (λi σ H'=>∃us,∃(rs:List Row) (ms:List Str) (o9 a2 a1:Option V),σ=[some (.ref I),some kv,some cv,some (.str x),some bv,some (.ref nb),some (.ref ml),some (.ref O),some (.int many),o9,a2,a1,none,none,none]/\Fed I H H'/\H' O=some (.lst us)/\RelDs H' us (rs.map Row.d)/\rs.length=i/\(∀r∈rs,xff ks cs x bs many r)/\H' ml=some (.lst (ms.map V.str))/\ms.length<=6/\((∀r∈rs,r.hd≠S "take")->ms.length=6)) (i+1) [some (.ref I),some kv,some cv,some (.str x),some bv,some (.ref nb),some (.ref ml),some (.ref O),some (.int many),some (.int (0+(i:Int))),a2,a1,none,none,none] (upd H5 O (.lst (us++[u]))):=λ{H5 u r a5} a2 a1 F5 C a6 hu au ay da bp=>by
   have tp:∀b vs,H5 b=some (.tup vs)->upd H5 O (.lst (us++[u])) b=some (.tup vs):=λb vs e=>by
    rw[xad λz=>by rw[z,C]at e;cases e];exact e
   refine(xau (us++[u]) (rs++[r]) a5 _ a2 (xbc a1 rfl (xk1 F5 bj a0) ups ?_ (by rw[zLA,List.length_singleton,b6]) (jAAA (λr' a4=>?_) (by rw[xad (Ne.symm bi)];exact ay) da (λhT=>?_))))
   ·rw[zAP]
    exact(a6.tups tp _).append (xan u ([]) rfl (hu.tups tp _) rfl)
   ·rcases zMA a4 with h |h
    ·exact a7 r' h
    ·rw[zMO h];exact au
   ·rw[bp λl c y e=>hT r (by simp) (by rw[e];rfl)]
    exact aw λr' a4=>hT r' (List.mem_append_left _ a4)
  refine xab λS1 bw=>?_;refine(xaa _ rfl I p2 q2 16 rfl bt (by decide) (by decide) (λfm H3 eh eg f3=>bw _ _ ?_));have F3:=F2.trans f3;have d3:=d2.fed f3;have cx:=xah d2.fd f3;have G:=f3.1 _ _ av a0;have a8:=f3.1 _ _ b0 aa;have M:=an.tups cx _;obtain⟨p3,q3,b2⟩:=F3.2;obtain⟨ba,ub,dv,df,di⟩:=id d3.bd;refine(xbv _ rfl _ _ rfl rfl _ rfl (ite2 (λc1=>?_) (λc1=>?_)))
  ·
   refine xab λS2 dh=>?_;refine(xat _ rfl _ rfl _ rfl ba ub (congrArg (λv=>[v]) dv) (.inr (SqT.of df)) (λbl bf=>?_));have sb:=Same.new bf (.lst ub);refine(xau I kv (.ref bl) ks bs (xbn (S "num") rfl (d3.tin bf di) (.inl rfl) (λta td H4 f4 rd tb=>dh _ _ ?_)));have ak:Fed I H3 H4:=((Fed.refl b2).same sb).trans f4;have bz:=xah d3.fd ak;have Y:=ak.1 _ _ G a0;obtain⟨p4,q4,af⟩:=f4.2;refine(jEAA _ rfl (.inl (jAE rfl _ (SqL.of Y))) ?_);refine(xbk _ rfl _ rfl _ rfl I p4 (xck q4 many rfl af (by omega) (by omega) (λg H5 g0 g1 f5=>⟨(by walk_at"s"),λt ht=>?_⟩)));obtain⟨gn,rfl⟩:∃i:Nat,g=(i:Int):=⟨g.toNat,by omega⟩;have st:=Same.new ht (.tup [.str (S "if"),.ref ta,.int gn]);have Z:=(ak.trans f5).same st;have aj:=xah d3.fd Z;have C:=Z.1 _ _ G a0;refine(xaq O us _ rfl rfl C (xba (by omega)) ?_);exact put (r:=.cond td gn) _ _ (F3.trans Z) C (M.tups aj _) (xal t _ rfl ups _ _ rfl rfl _ (xbe _ rfl ((rd.tups (xah (jEE p4 q4 af) f5) _).same st _) _ _ rfl rfl rfl)) ⟨tb.1,by omega⟩ (Z.1 _ _ a8 aa) ai λ_=>rfl
  ·refine(xaz _ rfl rfl _ rfl (ite2 (λc2=>?_) (λc2=>?_)))
   ·
    refine(jEAA _ rfl (.inl (jAE rfl _ (SqL.of G))) ?_);refine⟨(by walk_at"s"),λt1 ar=>?_⟩;have s1:=Same.new ar (.tup [.str (S "end")]);refine(xap _ rfl _ rfl I p3 q3 (xb5 many rfl (s1 _ _ b2) (by omega) (by omega) (λg H4 g0 g1 f4=>⟨(by walk_at"s"),λt2 aq=>⟨(by walk_at"s"),λll cl=>?_⟩⟩)));obtain⟨gn,rfl⟩:∃i:Nat,g=(i:Int):=⟨g.toNat,by omega⟩;have s2:=Same.new aq (.tup [.str (S "go"),.int gn]);have s3:=Same.new cl (.lst [.ref t1,.ref t2]);have ak:Fed I H3 _:=(((Fed.refl b2).same s1).trans f4).same (s2.trans s3);obtain⟨p5,q5,ae⟩:=ak.2
    have d1:ll≠I:=by
     obtain⟨p6,q6,h6⟩:=f4.2;exact Ne.symm (neN (s2 _ _ h6) cl)
    refine(xaa _ rfl I p5 q5 2 rfl ae (by decide) (by decide) (λr2 H5 ea e9 f5=>?_));have Z:=ak.trans f5;have C:=Z.1 _ _ G a0;have ce:H4 t1=some (.tup [.str (S "end")]):=xah (jEE p3 q3 (s1 _ _ b2)) f4 _ _ ups;have bx:=xah (jEE p5 q5 ae) f5;have dt:=bx _ _ ((s2.trans s3) _ _ ce);have ds:=bx _ _ (s3 _ _ ups);have bb:=f5.1 _ _ ups d1;have cy:r2=0\/r2=1:=by omega
    rcases cy with rfl |rfl
    ·refine(xbm ll _ _ (.ref t1) rfl rfl (SqL.of bb) rfl O (xck us _ rfl rfl C (xba (by omega)) ?_))
     exact put (r:=.fin) _ _ (F3.trans Z) C (M.tups (xah d3.fd Z) _) (xan t1 _ rfl dt (xan _ _ rfl rfl rfl)) trivial (Z.1 _ _ a8 aa) ai λ_=>rfl
    ·refine(xbm ll _ _ (.ref t2) rfl rfl (SqL.of bb) rfl O (xck us _ rfl rfl C (xba (by omega)) ?_))
     exact put (r:=.go gn) _ _ (F3.trans Z) C (M.tups (xah d3.fd Z) _) (xal t2 _ rfl ds _ _ rfl rfl _ (jEAA _ rfl rfl rfl)) (by show gn<many;omega) (Z.1 _ _ a8 aa) ai λ_=>rfl
   ·
    refine(jEAA _ rfl (.inl (jAE rfl _ (SqL.of G))) ?_);refine(xaw _ rfl _ rfl _ rfl _ rfl _ rfl (xa5 _ rfl I ml kv cv (xau bv ks cs bs x (xbc ms rfl d3 a8 aa (by omega) (λu r a5 H4 bh az dz bp hu au bz=>?_)))));have Y:=bh.1 _ _ G a0 bi;have F4:Fed I H H4:=⟨λb o e c9=>bh.1 b o (F3.1 b o e c9) c9 (neN e bm),bh.2⟩;refine(xaq O us _ rfl rfl Y (xba (by omega)) ?_);exact put (r:=r) _ _ F4 Y (M.tups bz _) hu (au many) az (by omega) bp
 rintro σ H2 ⟨us,rs,ms,o9,a2,a1,rfl,F2,av,an,b6,a7,b0,ai,aw⟩;have dw:rs.length<=9:=by omega
 have d2:=d.keep (xah d.fd F2) F2.2;refine dm _ _ (xab λR5 dl=>?_);refine(xbk _ rfl _ rfl _ rfl cv bv (xb3 cs x bs rfl d2.cd c6 d2.bd b5 (λil ws H3 s3 dc ck cp ed=>dl _ _ (xab λR6 dk=>?_))));have F3:Fed I H H3:=F2.same s3;have G:=s3 _ _ av;have a8:=s3 _ _ b0;have M:=an.same s3 _;obtain⟨p2,q2,bt⟩:=F2.2;have d4:il≠I:=Ne.symm (neN bt dc);have bn:=an.length;rw[zLM]at bn
 have am:∀(c8 c7:Option V) (H4:Hp) (us:List V) (rs:List Row),Fed I H H4->H4 O=some (.lst us)->RelDs H4 us (rs.map Row.d)->rs.length<=10->many<=rs.length+1->(∀r∈rs,xff ks cs x bs many r)->R6 [some (.ref I),some kv,some cv,some (.str x),some bv,some (.ref nb),some (.ref ml),some (.ref O),some (.int many),o9,a2,a1,some (.ref il),c8,c7] H4:=λc8 c7 H4 us rs F4 Y ag dx ee au=>by
  refine dk _ _ (xab λR7 dj=>?_);obtain⟨p4,q4,af⟩:=F4.2;have cc:=ag.length;rw[zLM]at cc;refine(xaa _ rfl I p4 q4 4 rfl af (by decide) (by decide) (λr4 H5 e8 e7 f5=>(xan _ _ rfl rfl (jEA _ rfl ?_))));have aj:=xah (jEE p4 q4 af) f5;have F5:=F4.trans f5;have C:=f5.1 _ _ Y a0;have a6:=ag.tups aj _
  have fin:∀{H6 H7:Hp} {tr tl:Addr} {v:V} {r:Row},Fed I H H6->Same H6 H7->H6 tr=some (.tup us)->RelDs H6 us (rs.map Row.d)->RelD H6 v r.d->r.ends->xff ks cs x bs (rs.length+1) r->H7 tl=some (.tup (us++[v]))->Q (.ref tl) H7:=λ{H6 H7 tr tl v r} F6 s7 _ J hv he cf ao=>by
   refine q (.ref tl) (rs++[r]) H7 (F6.same s7) (xan tl _ rfl ao ?_) ⟨by rw[zLA,List.length_singleton];omega,λr' a4=>?_,(jEA r (by simp) he)⟩
   ·rw[zAP]
    exact(J.same s7 _).append (xan v ([]) rfl (hv.same s7 _) rfl)
   ·rw[zLA,List.length_singleton]
    rcases zMA a4 with h |h
    ·exact xmh (au r' h) (by omega)
    ·rw[zMO h];exact cf
  refine ite2 (λc1=>?_) (λc1=>?_)
  ·refine(jEA _ rfl (jEEA O us rfl (.inl ⟨SqL.of C,λtr bo=>?_⟩)))
   have sr:=Same.new bo (.tup us);obtain⟨p5,q5,ae⟩:=f5.2;refine(xap _ rfl _ rfl I p5 q5 (xb5 many rfl (sr _ _ ae) (by omega) (by omega) (λg H6 g0 g1 f6=>⟨(by walk_at"s"),λt1 ar=>⟨(by walk_at"s"),λt2 aq=>?_⟩⟩)));obtain⟨gn,rfl⟩:∃i:Nat,g=(i:Int):=⟨g.toNat,by omega⟩;have s1:=Same.new ar (.tup [.str (S "go"),.int gn]);have s2:=Same.new aq (.tup [.ref t1]);have b1:=xah (jEE p5 q5 (sr _ _ ae)) f6;have F6:Fed I H _:=((F5.same sr).trans f6).same (s1.trans s2);have a3:=(s1.trans s2) _ _ (b1 _ _ ups);have J:=((a6.same sr _).tups b1 _).same (s1.trans s2) _;have hv:RelD (upd (upd H6 t1 (.tup [.str (S "go"),.int gn])) t2 (.tup [.ref t1])) (.ref t1) (Row.go gn).d:=(xal t1 _ rfl (s2 _ _ ups) _ _ rfl rfl _ (jEAA _ rfl rfl rfl));refine(xav tr t2 _ _ rfl rfl (SqT.of a3) (SqT.of ups) (fits (by rw[List.length_singleton];omega)) (jAA (λe=>?_) (λ_ e=>nomatch e) (λ_ _ tl ao=>?_)))
   ·exact fin F6 (Same.refl _) a3 J hv trivial (by show gn<_;omega) (by rw[ups,e];rfl)
   ·have s7:=Same.new ao (.tup (us++[.ref t1]))
    exact fin F6 s7 a3 J hv trivial (by show gn<_;omega) ups
  ·refine dj _ _ ?_
   refine(jEA _ rfl (jEEA O us rfl (.inl ⟨SqL.of C,λtr bo=>?_⟩)));have sr:=Same.new bo (.tup us);refine⟨(by walk_at"s"),λt1 ar=>⟨(by walk_at"s"),λt2 aq=>?_⟩⟩;have s1:=Same.new ar (.tup [.str (S "end")]);have s2:=Same.new aq (.tup [.ref t1]);have sA:=sr.trans (s1.trans s2);have F6:Fed I H _:=F5.same sA;have a3:=(s1.trans s2) _ _ (show upd H5 tr (.tup us) tr=some (.tup us) from ups);have J:=a6.same sA _;have hv:RelD (upd (upd (upd H5 tr (.tup us)) t1 (.tup [.str (S "end")])) t2 (.tup [.ref t1])) (.ref t1) Row.fin.d:=(xan t1 _ rfl (s2 _ _ ups) (xan _ _ rfl rfl rfl));refine(xav tr t2 _ _ rfl rfl (SqT.of a3) (SqT.of ups) (fits (by rw[List.length_singleton];omega)) (jAA (λe=>?_) (λ_ e=>nomatch e) (λ_ _ tl ao=>?_)))
   ·exact fin F6 (Same.refl _) a3 J hv trivial trivial (by rw[ups,e];rfl)
   ·have s7:=Same.new ao (.tup (us++[.ref t1]))
    exact fin F6 s7 a3 J hv trivial trivial ups
 have plain:R6 [some (.ref I),some kv,some cv,some (.str x),some bv,some (.ref nb),some (.ref ml),some (.ref O),some (.int many),o9,a2,a1,some (.ref il),none,none] H3:=am none none H3 us rs F3 G M (by omega) (by omega) a7;refine(xbu _ rfl il _ rfl (.inl (SqL.of ck)) _ _ rfl rfl (jEA _ rfl (ite2 (λc1=>?_) (λc1=>iteF plain))));have dy:=of_decide_eq_true c1;refine(xbg _ rfl O rfl ⟨_,SqL.of G⟩ ?_);refine xdg (xs:=us) (λi ys H'=>H'=H3/\ys=((rs.take i).map Row.hd).map V.str) ⟨rfl,rfl⟩ (xba (by omega)) (λi ys H' _ p=>by obtain⟨rfl,_⟩:=p;exact SqL.of G) ?_ ?_
 ·rintro i y ys H' hy hi cj ⟨rfl,rfl⟩
  obtain⟨b,r,zs,a4,rfl,hb⟩:=xtr M hy;refine⟨ext1 rfl,xdw ?_⟩;refine(xaa _ rfl b _ _ _ rfl rfl (SqT.of hb) (xa2 (j:=0) rfl) (nxtG hi cj ⟨rfl,?_⟩));rw[zTA,a4,zAP,zAP];rfl
 rintro ys H' cj ⟨rfl,rfl⟩ D hD;rw[zTL (by omega)];have sD:=Same.new hD (.lst ((rs.map Row.hd).map V.str));refine(xck D _ rfl (.inl (SqL.of ups)) rfl (xjl _) (jEA _ rfl (ite2 (λc2=>?_) (λc2=>?_))))
 ·have cz:∀r∈rs,r.hd≠S "take":=λr a4 e=>by
   have db:inV (.str (Str.ofString "take")) ((rs.map Row.hd).map V.str)=true:=by
    unfold inV;refine List.any_eq_true.mpr (jEA (.str r.hd) (List.mem_map_of_mem (List.mem_map_of_mem a4)) ?_);rw[e];decide +kernel
   have cr:(!inV (.str (Str.ofString "take")) ((rs.map Row.hd).map V.str))=true:=c2;rw[db]at cr;cases cr
  have d8:=aw cz;have F4:=F3.same sD;have Y:=sD _ _ G;have az:=sD _ _ a8;have be:=sD _ _ ck;have ag:=M.same sD _;obtain⟨p4,q4,af⟩:=F4.2;refine xab λS1 bw=>?_;refine(xat _ rfl _ rfl _ rfl il _ rfl (.inl (SqL.of be)) (xak I p4 q4 _ rfl af (by omega) (by omega) (λr5 H5 e6 e5 f5=>?_)));obtain⟨i5,rfl⟩:∃i:Nat,r5=(i:Int):=⟨r5.toNat,by omega⟩;have co:i5<ws.length:=by omega
  have aj:=xah (jEE p4 q4 af) f5;obtain⟨ct,c5,y5,eb,dg,br⟩:=cp _ (List.getElem_mem co);refine(xbm il _ _ (.ref ct) rfl rfl (SqL.of (f5.1 _ _ be d4)) (xa2 (by rw[zGA co,eb])) ct (xbn _ rfl (SqT.of (aj _ _ (sD _ _ dg))) rfl (jEEA _ _ rfl (xan _ _ rfl rfl (bw _ _ ?_)))));have C:=f5.1 _ _ Y a0;have ay:=f5.1 _ _ az aa;have a6:=ag.tups aj _;obtain⟨p5,q5,ae⟩:=f5.2;refine(jEAA _ rfl (.inl (jAE rfl _ (SqL.of C))) ?_);refine(xbi _ rfl _ rfl O _ rfl (.inl (SqL.of C)) _ (jEAA _ rfl rfl (xak I p5 q5 _ rfl ae (by omega) (by omega) (λr6 H6 e4 e3 f6=>?_))));obtain⟨i6,rfl⟩:∃i:Nat,r6=(i:Int):=⟨r6.toNat,by omega⟩;have b1:=xah (jEE p5 q5 ae) f6;have ch:=f6.1 _ _ C a0;have ax:=f6.1 _ _ ay aa;have J:=a6.tups b1 _
  obtain⟨m0,a5,du⟩:∃m0 a5,ms=m0::a5:=by
   cases ms with
   |nil=>cases d8
   |cons a l=>exact(jEE a l rfl)
  subst du;refine(jEAA _ rfl (.inl (jAE rfl _ (SqL.of ax))) (xaj ml _ 0 0 (.str m0) rfl rfl ax (by decide) (by decide) (jAA (xtq (k:=0) (by simp)) rfl ?_)));refine(xbg _ rfl _ rfl (by walk_at"s") (λt ht=>?_));have F6:Fed I H H6:=F4.trans (f5.trans f6);obtain⟨H7,al⟩:∃H7,H7=upd (upd H6 ml (.lst ((m0::a5).map V.str |>.eraseIdx 0))) t (.tup [.str (Str.ofString "take"),.str m0,.str c5,.str y5]):=⟨_,rfl⟩;have F7:Fed I H H7:=by rw[al];exact(xk1 F6 bm aa).same (Same.new ht _)
  have b7:H7 O=some (.lst us):=by
   rw[al];exact Same.new ht _ _ _ (by rw[xad bi];exact ch)
  have cw:∀b vs,H6 b=some (.tup vs)->H7 b=some (.tup vs):=λb vs e=>by
   rw[al];exact Same.new ht _ _ _ (by rw[xad λz=>by rw[z,ax]at e;cases e];exact e)
  have d5:H7 t=some (.tup [.str (Str.ofString "take"),.str m0,.str c5,.str y5]):=by rw[al];exact ups
  have b4:=J.tups cw _;have cb:=b4.length;rw[zLM]at cb;refine(xav O us i6 (.ref t) rfl rfl (by rw[<- al];exact b7) (by omega) (by omega) ?_);rw[<- al]
  have cu:∀b vs,H7 b=some (.tup vs)->upd H7 O (.lst (us.take i6++.ref t::us.drop i6)) b=some (.tup vs):=λb vs e=>by
   rw[xad λz=>by rw[z,b7]at e;cases e];exact e
  have d6:RelD H7 (.ref t) (Row.take m0 c5 y5).d:=(xal t _ rfl d5 _ _ rfl rfl _ (xbe _ rfl rfl _ _ rfl rfl (xan _ _ rfl rfl rfl)));have bc:=(xrz b4 d6 i6).tups cu _
  have em:(rs.map Row.d).take i6++(Row.take m0 c5 y5).d::(rs.map Row.d).drop i6=(rs.take i6++Row.take m0 c5 y5::rs.drop i6).map Row.d:=by
   rw[zAP,List.map_cons,List.map_take,List.map_drop]
  rw[em]at bc
  have cm:(rs.take i6++Row.take m0 c5 y5::rs.drop i6).length=rs.length+1:=by
   rw[zLA,List.length_cons,List.length_take,List.length_drop];omega
  refine am _ _ _ _ _ (xk1 F7 bj a0) ups bc (by rw[cm];omega) (by rw[cm];omega) λr a4=>?_;rcases zMA a4 with h |h
  ·exact a7 r (List.mem_of_mem_take h)
  ·rcases zMC h with h |h
   ·rw[h];exact br
   ·exact a7 r (List.mem_of_mem_drop h)
 ·exact am none none _ us rs (F3.same sD) (sD _ _ G) (M.same sD _) (by omega) (by omega) a7
structure NIn(H:Hp)(nb:Addr)(nms:List Str):Prop where
 nl:H nb=some (.lst (nms.map V.str))
 ok:xj3 nms
 nby:∀z∈nms,NoBy z
theorem NIn.same{H e:Hp}{c:Addr}{a:List Str}(g:NIn H c a)(s:Same H e):NIn e c a:=⟨s _ _ g.nl,g.ok,g.nby⟩
theorem NIn.name{H:Hp}{c:Addr}{a:List Str}(g:NIn H c a){i:Nat}(h:i<26):∃z,a[i]?=some z/\atI (a.map V.str) (i:Int)=some (.str z):=by
 have e:=g.ok.1;exact(jEA (a[i]'(by omega)) (zGA _) (xa2 (by rw[zGM,zGA (by omega)];rfl)))
def xke(K:Fg):Sp:=λvs H Q _=>∃(a nb:Addr) (ns:List Int) (at_ many:Nat) (kv cv:V) (ks:List Kn) (cs:List Chn) (nms:List Str),vs=[.ref a,.int at_,kv,cv,.int many,.ref nb]/\SqL K H a (ns.map V.int)/\ns.length<=63/\NIn H nb nms/\RelD H kv (xdf ks)/\KWf ks/\PNB ks/\RelD H cv (.tup (cs.map dChn))/\ChsOk ks nms many cs/\1<=many/\many<=4 ∧
 ∀v mk H',Same H H'->RelD H' v mk.d->MakOk mk->mk.hands.map Hand.name=nms.take many->mk.chans=cs->Q v H'
def xm8(K:Fg):Sp:=λvs H Q _=>∃(a nb:Addr) (ns:List Int) (at_:Nat) (nms:List Str),vs=[.ref a,.int at_,.ref nb]/\SqL K H a (ns.map V.int)/\ns.length<=63/\NIn H nb nms ∧
 ∀v mk H',Same H H'->RelD H' v mk.d->MakOk mk->mk.hands≠[]->Q v H'
theorem xst{ks:List Kn}{cs:List Chn}{a:List Str}{bs:List (Str×Str)}{rs:List Row}{x:Str}(b:BsOk ks a bs)(r:RowsOk ks cs x bs rs):HandOk ks cs ⟨x,bs,rs⟩:=⟨b.nd,b.len,b.kin,r.len,r.ok,r.last⟩
theorem xnz(T:Tx K mg)(p:DefIs P w K mg base n "_law_feed" qaj (xh5 K))(j:DefIs P w K mg base n "_law_boxes" qba xtl)(m:DefIs P w K mg base n "_law_rows" qaz xru):DefIs P w K mg base (n+1) "_law_hands" qa1 (xke K):=by
 refine DefIs.of T.kP scl_hands (by walk_at"l") (λf ar A outer s H vs Q E hr h=>?_);obtain⟨a,O,ns,ao,many,kv,cv,ks,cs,x,rfl,hS,al,g,hk,wf,pb,hc,u,h1,h4,q⟩:=h;have nd:=scl_hands.nd;have am:=g.ok.1
 refine⟨_,(zpn (psn 6 nd (xb2 pN))
   (zpn (xcm PassesOwn.never rfl (xcb rfl T.k9 (v1 4)) (pgn 7 nd)
   (zpn (psn 8 nd (pd p hr (va 0 (zpc (xam xbd (pv 1) (pv 7)) pN xa3))))
   (zpn (psn 9 nd (pd j hr (va 8 (va 2 (va 3 (zpc (pxl K (pv 5) (pv 7)) (v1 5) ss))))))
   (zpo (xbl (xc4 PySem.F.plainAttrs_list PySem.F.slot_list_append PySem.F.type_list_append xbj (pv 6) (zpc (xay (zpc (pxl K (pv 5) (pv 7)) (va 9 (zpc (pd m hr (va 8 (va 2 (va 3 (zpc (pxl K (pv 5) (pv 7)) (va 9 (v1 5)) ss))))) pN zsc)) ss)) pN sT)))))))
   (zpo (xai (xay (va 2 (va 3 (zpc (xao (xbo (K:=K) rfl) rfl T.uB PyProof.Rows.boot_tuple (v1 6)) pN zsc)))))))),xab λR1 ak=>?_⟩
 refine⟨(by walk_at"s"),λl hl=>ak _ _ (xab λR2 aj=>?_)⟩;have s0:=Same.new hl (.lst []);refine(xbg _ rfl _ rfl (by omega) ⟨by omega,?_⟩)
 refine xc1 (λi σ H'=>∃us,∃(hs:List Hand) (o7 o8 o9:Option V),σ=[some (.ref a),some (.int ao),some kv,some cv,some (.int many),some (.ref O),some (.ref l),o7,o8,o9]/\Same H H'/\H' l=some (.lst us)/\RelDs H' us (hs.map Hand.d)/\hs.length=i/\hs.map Hand.name=x.take i/\∀h∈hs,HandOk ks cs h)
  (xaj ([]) ([]) none none none rfl s0 ups rfl rfl ⟨rfl,λ_ h=>nomatch h⟩) ?_ ?_
 ·rintro i σ H1 hi ⟨us,hs,o7,o8,o9,rfl,s1,J,I,a6,M,Y⟩
  have aq:i<4:=by omega
  have e0:(0+(i:Int))=(i:Int):=by omega
  have aa:=I.length;rw[zLM]at aa;refine xab λS1 ai=>?_;refine(xat _ rfl _ rfl _ rfl _ _ rfl rfl (xaq a ns _ rfl (s1.seq hS) al (by omega) (λr p1 q1 nr=>ai _ _ (xab λS2 ah=>?_))));have sr:=Same.new nr (.lst [.int p1,.int q1]);obtain⟨H2,a0⟩:∃H2,H2=upd H1 r (.lst [.int p1,.int q1]):=⟨_,rfl⟩;have af:H2 r=some (.lst [.int p1,.int q1]):=by rw[a0];exact ups
  rw[<- a0]at sr⊢;clear a0;have G:=s1.trans sr;have g2:=g.same G;have a3:O≠r:=neN (g.same s1).nl nr;have lr:l≠r:=neN J nr;obtain⟨z,hz,az⟩:=g2.name (i:=i) (by omega);have a1:atI (x.map V.str) (0+(i:Int))=some (.str z):=by rw[e0];exact az
  have G2:GIn H2 r O kv ks x:=⟨(jEE p1 q1 af),g2.nl,g.ok,a3,g.nby,hk.same G _,wf,pb⟩;refine(xaw _ rfl _ rfl _ rfl _ rfl _ rfl (xbm O _ _ _ rfl rfl (SqL.of g2.nl) a1 _ (jAE rfl r (xau O kv cv ks x (xa8 cs z rfl G2 (hc.same G _) u.len u.kin (λbv bs H3 f3 a7 y=>ah _ _ ?_))))));have G3:=G2.fed f3;have a8:=xah G2.fd f3;have a5:=f3.1 _ _ (sr _ _ J) lr;have d3:DIn H3 r kv cv bv ks cs bs:=⟨G3.fd,G3.kd,wf,pb,(hc.same G _).tups a8 _,u.len,λc Z=>(u.kin c Z).mono wf.few,a7,y.len,y.nd,λb hb=>g.nby _ (y.nm b hb),y.kin⟩;refine(jEAA _ rfl (.inl (jAE rfl _ (SqL.of a5))) ?_);refine(xap _ rfl _ rfl O _ _ (xbr _ rfl rfl (SqL.of G3.nl) a1 _ rfl ?_));refine(xaw _ rfl _ rfl _ rfl _ rfl _ rfl (xbm O _ _ _ rfl rfl (SqL.of G3.nl) a1 _ (jAEA rfl _ rfl (xau r O kv cv bv (xaj ks cs bs z x rfl d3 G3.nl am a3 (λrv rs H4 f4 ac ae=>⟨(by walk_at"s"),λt ht=>?_⟩))))));have st:=Same.new ht (.tup [.str z,bv,rv]);have an:=f3.trans f4;have a4:=f4.1 _ _ a5 lr;have a9:Same H1 H4:=Fed.back nr sr an;refine(xaq l us _ rfl rfl (st _ _ a4) (xba (by omega)) ?_);have a2:=a9.trans st
  have C:∀b vs,upd H4 t (.tup [.str z,bv,rv]) b=some (.tup vs)->upd (upd H4 t (.tup [.str z,bv,rv])) l (.lst (us++[.ref t])) b=some (.tup vs):=λb vs e=>by
   rw[xad λz=>by rw[z,st _ _ a4]at e;cases e];exact e
  refine(xaj (us++[.ref t]) (hs++[⟨z,bs,rs⟩]) _ _ _ rfl (λb o e=>?_) ups ?_ (by rw[zLA,List.length_singleton,a6]) ⟨?_,λh hh=>?_⟩)
  ·rw[xad (neN e hl)]
   exact a2 _ _ (s1 _ _ e)
  ·rw[zAP]
   refine((I.same a2 _).tups C _).append (xan (.ref t) ([]) rfl ?_ rfl);exact(xal t _ rfl (C _ _ ups) _ _ rfl rfl _ (xbe _ rfl (((a7.tups (xah G3.fd f4) _).same st _).tups C _) _ _ rfl ((ac.same st _).tups C _) rfl))
  ·rw[zAP,M,zTA,hz]
   rfl
  ·rcases zMA hh with h' | h'
   ·exact Y h h'
   ·rw[zMO h']
    exact xst y ae
 ·rintro σ H1 ⟨us,hs,o7,o8,o9,rfl,s1,J,I,a6,M,Y⟩
  refine aj _ _ ?_;refine(xbk _ rfl _ rfl _ rfl l us ⟨rfl,.inl ⟨SqL.of J,λt ht=>⟨(by walk_at"s"),λt2 ab=>?_⟩⟩⟩);have st:=Same.new ht (.tup us);have U:=Same.new ab (.tup [kv,cv,.ref t]);have sA:=s1.trans (st.trans U)
  have ag:(cs.map (·.1)).Nodup:=by
   rw[u.nm];exact(g.ok.2.1.sublist (List.drop_sublist _ _)).sublist (List.take_sublist _ _)
  refine q _ ⟨ks,cs,hs⟩ _ sA (xal t2 _ rfl ups _ _ rfl (hk.same sA _) _ (xbe _ rfl (hc.same sA _) _ _ rfl (xan t us rfl (U _ _ ups) (I.same (st.trans U) _)) rfl)) ⟨wf,ag,u.len,λc Z=>(u.kin c Z).mono wf.few,?_,by show hs.length<=4;omega,Y⟩ ?_ rfl
  ·show(hs.map Hand.name).Nodup
   rw[M];exact g.ok.2.1.sublist (List.take_sublist _ _)
  ·exact M
theorem xpu(T:Tx K Y)(c:DefIs P w K Y base n "_law_feed" qaj (xh5 K))(o:DefIs P w K Y base n "_law_take" qad xcp)(l:DefIs P w K Y base n "_law_kinds" qa7 xnc)(i:DefIs P w K Y base n "_law_channels" qa9 xq1)(m:DefIs P w K Y base n "_law_hands" qa1 (xke K)):DefIs P w K Y base (n+1) "_law_make" qa0 (xm8 K):=by
 refine DefIs.of T.kO scl_make (by walk_at"l") (λf al A outer s H vs Q E Z h=>?_);obtain⟨a,z,ns,u,x,rfl,hS,O,g,q⟩:=h;have nd:=scl_make.nd
 refine⟨_,(zpn (psn 3 nd (pd l Z (zpc (pd c Z (va 0 (v1 1))) (v1 2) zsc)))
   (zpn (psn 4 nd (pd c Z (va 0 (zpc (xam xbd (pv 1) pI) pN xa3))))
   (zpn (psn 5 nd (xam xbd pI (pd o Z (va 4 (zpc pI pN so)))))
   (zpo (xai (pd m Z (va 0 (zpc (xam xbd (pv 1) pI) (va 3 (zpc (pd i Z (va 4 (va 3 (va 2 (v1 5))))) (va 5 (v1 2)) zsc)) xa3)))))))),xab λR1 ag=>?_⟩
 refine(xb9 _ rfl _ rfl a ns u rfl hS O ⟨by omega,λr p1 q1 nr=>?_⟩);have sr:=Same.new nr (.lst [.int p1,.int q1]);have g1:=g.same sr;have a8:z≠r:=neN g.nl nr;refine(xa5 _ rfl r z p1 q1 (xbc x rfl ups g1.nl g.ok a8 (λkv ks H1 f1 a4 ab ah=>ag _ _ (xab λR2 af=>?_))));have U:Same H H1:=Fed.back nr sr f1;obtain⟨wf,h4,ak,aa⟩:=ab
 have pb:PNB ks:=λk hk p hp j=>by
  have hm:p.1∈x:=by
   have h9:=(aa k hk).2;have a7:p.1∈k.parts.map (·.1):=List.mem_map_of_mem hp;rw[h9]at a7;exact List.mem_of_mem_drop (List.mem_of_mem_take (List.mem_of_mem_take a7))
  exact g.nby _ hm j
 refine(xbi _ rfl _ rfl _ _ rfl rfl a (xck ns _ rfl (U.seq hS) O (by omega) (λr2 p2 q2 y=>af _ _ (xab λR3 ae=>?_))));have I:=Same.new y (.lst [.int p2,.int q2]);have g2:=(g.same U).same I;have a1:z≠r2:=neN (g.same U).nl y;refine(xaa _ rfl r2 p2 q2 4 rfl ups (by decide) (by decide) (λhm H3 aj ai f3=>(xan _ _ rfl rfl ?_)));obtain⟨many,M,G,C⟩:∃many:Nat,1+hm=(many:Int)/\1<=many/\many<=4:=(jEAA ((1+hm).toNat) (by omega) (by omega) (by omega))
 suffices a2:R3 [some (.ref a),some (.int u),some (.ref z),some kv,some (.ref r2),some (.int (many:Int))] H3 by
  rw[<- M]at a2;exact a2
 refine ae _ _ ?_;have J:Same H1 H3:=Fed.back y I f3;have g3:=(g.same U).same J;have s3:=U.trans J;have a9:=f3.2;have G3:GIn H3 r2 z kv ks x:=⟨a9,g3.nl,g.ok,a1,g.nby,a4.same J _,wf,pb⟩;refine(xbi _ rfl _ rfl _ _ rfl rfl _ (jAEA rfl _ rfl (xbk _ rfl _ rfl _ rfl r2 z (xak kv ks x many rfl G3 G C (λcv cs H4 f4 ac a6=>?_)))));have a0:Same H1 H4:=Fed.back y I (f3.trans f4);have s4:=U.trans a0;refine(xap _ rfl _ rfl a z ns (xau (u+2) many kv cv ks (xa8 cs x ?_ (s4.seq hS) O (g.same s4) (a4.same a0 _) (jAAA wf pb ac (jAAA a6 G C (λv mk H5 s5 hv a3 a5 _=>q v mk H5 (s4.trans s5) hv a3 λe=>?_))))))
 ·show[V.ref a,V.int ((u:Int)+2),kv,cv,V.int many,V.ref z]=_
  rw[show((u:Int)+2)=((u+2:Nat):Int) by omega]
 ·rw[e]at a5
  have:=congrArg List.length a5;rw[List.length_take,g.ok.1]at this;simp at this;omega
theorem xgs (T:Tx K mg) (M:Sp) (g:DefIs P w K mg base n "_law_sort_of" qab xel) (c:DefIs P w K mg base n "_law_nought" qab M) (a0:∀j,m=j+1->M=spNu nuV j) :
  DefIs P w K mg base (n+1) "_law_nought" qab (spNu nuV m):=by
 refine DefIs.of T.kR scl_nought (by walk_at"l") (λf ab A outer s H vs Q E hr h=>?_);obtain⟨v,ks,x,rfl,hk,J,a8,q⟩:=h;have nd:=scl_nought.nd
 refine⟨_,(zpn (xc0 (pd g hr (va 0 (v1 1))) (xa9 (K:=K) rfl rfl (xac (pgn 2 nd) (xac (pgn 3 nd) xa7))))
   (zpn (xa4 (pR xa6 (pv 2) pS (nM _)) (zpo (xai pI)) pQ)
   (zpn (xa4 (pR xa6 (pv 2) pS (nM _)) (zpo (xai (xay (va 1 (zpc (px K (px K (pv 3) pI) pI) (zpc (pd c hr (va 0 (zpc (px K (px K (pv 3) pI) pI) pN ss))) pN zsc) ss))))) pQ)
   (zpo (xai (xay (va 1 (zpc (xao (xbo (K:=K) rfl) rfl T.uB PyProof.Rows.boot_tuple (zpc (xbt qbe [none,none,some 0] rfl (by kernel_rfl) (xa1 (K:=K) rfl (pv 3)) (λ_ _ _ _=>(xa9 (K:=K) (n:=2) rfl rfl (xac (pgc 0) (xac (pgc 1) xa7)))) (λ_ _ _ _=>xb1) (λ_ _ _ _=>(pd c hr (va 2 (v1 1))))) pN xbz)) pN zsc)))))))),?_⟩
 refine(xci _ rfl _ rfl v ks x rfl ((J.ksAt hk).seq) (λt a9 H1 Y ht rp=>?_));refine(xas t _ rfl (SqT.of ht) rfl _ _ rfl _ (jEAA _ rfl rfl ?_));rcases a8.nu J with⟨rfl,C,_,e⟩ |⟨j,k,rfl,C,hn,hm,hp,aa,I⟩
 ·refine(xaz _ rfl rfl _ rfl (iteKT (zDT (by rw[C];rfl)) ?_))
  rw[e]at q;exact q _ _ Y rfl
 ·have D':=a0 j rfl
  subst D';rw[C]at rp;obtain⟨a,us,rfl,ha,o⟩:=rp;have hl:=o.length;rw[zLM]at hl;have h5:=J.pts k hm;have z:xfa (kAt ks x)=k.sort:=by rw[C];rfl
  rcases I with⟨hc,_,e⟩ |⟨hc,p,r,er,_,e⟩
  ·have a1:k.sort=S "rec":=xdj hc
   refine(xaz _ rfl rfl _ rfl (iteKF (zDF (by rw[z,a1];decide +kernel)) ?_));refine(xaz _ rfl rfl _ rfl (iteKF (zDF (by rw[z,a1];decide +kernel)) ?_));refine(jEA _ rfl (xbg _ rfl a rfl ⟨_,SqT.of ha⟩ ?_));refine xbx (xs:=us) (λi ys H'=>Same H1 H'/\ys.length=i/\RelDs H' ys ((k.parts.take i).map λp=>nuV (j+1) ks p.2)) (jAA (Same.refl _) rfl rfl) (xba (by omega)) (λi ys H' _ p=>SqT.of (p.1 _ _ ha)) ?_ ?_
   ·rintro i y ys H' hy hi a4 ⟨O,Z,l⟩
    obtain⟨d,hd,rd⟩:=o.get hy;rw[zGM]at hd;obtain⟨p,a3,rfl⟩:=zMS hd;obtain⟨b,ws,rfl,hb,_,_,rfl,rfl,_,_,rfl,rfl,rfl⟩:=rd;refine(xas b _ rfl (SqT.of (O _ _ hb)) rfl _ _ rfl _ (xbn _ rfl rfl (ext2 rfl rfl) (xdw ?_)));refine(xb9 _ rfl _ rfl v ks p.2 rfl (hk.same (Y.trans O) _) J ⟨hp p (zMG a3),λu H2 G r2=>nxtG hi a4 (jAA (O.trans G) (by rw[zLA,List.length_singleton,Z]) ?_)⟩);rw[zTA,a3,zAP];exact(l.same G _).append (xan u ([]) rfl r2 rfl)
   ·rintro ys H' a4 ⟨O,Z,l⟩ D hD
    rw[zTL (by omega)]at l;refine(jEEA D ys rfl (.inl ⟨SqL.of ups,λl' a7=>⟨(by walk_at"s"),λt ht=>?_⟩⟩));have G:=Same.new hD (.lst ys);have U:=Same.new a7 (.tup ys);have s4:=Same.new ht (.tup [.str x,.ref l']);rw[e]at q;exact q _ _ (Y.trans (O.trans (G.trans (U.trans s4)))) (xal t _ rfl ups _ _ rfl rfl _ (jEAA _ rfl (xan l' ys rfl (s4 _ _ ups) (l.same (G.trans (U.trans s4)) _)) rfl))
  ·have a2:k.sort=S "alt":=xdt hc
   refine(xaz _ rfl rfl _ rfl (iteKF (zDF (by rw[z,a2];decide +kernel)) ?_));refine(xaz _ rfl rfl _ rfl (iteKT (zDT (by rw[z,a2];rfl)) ?_));rw[er]at o;obtain⟨vp,rest,rfl,rp,_⟩:=o;obtain⟨b,ws,rfl,hb,_,_,rfl,rfl,_,_,rfl,rfl,rfl⟩:=rp;have a5:SqT K H1 a (.ref b::rest):=SqT.of ha;have a6:atI (V.ref b::rest) 0=some (.ref b):=xa2 (j:=0) rfl;refine(xap _ rfl _ rfl a _ _ (xb5 _ rfl rfl a5 a6 (xak b _ _ _ rfl rfl (SqT.of hb) rfl ?_)));refine(xap _ rfl _ rfl a _ _ (xb5 _ rfl rfl a5 a6 (xak b _ _ _ rfl rfl (SqT.of hb) rfl ?_)));refine(xaq _ ks p.2 rfl (hk.same Y _) J (hp p (by rw[er];simp)) (λu H2 G r2=>⟨(by walk_at"s"),λt ht=>?_⟩));have U:=Same.new ht (.tup [.str x,.str p.1,u]);rw[e]at q;exact q _ _ (Y.trans (G.trans U)) (xal t _ rfl ups _ _ rfl rfl _ (xbe _ rfl rfl _ _ rfl (r2.same U _) rfl))
theorem xgv(T:Tx K a):∀m,DefIs P w K a base (m+2) "_law_nought" qab (spNu nuV m)
 |0=>xgs (n:=1) T (λ_ _ _ _=>False) (xby T) (DefIs.none T.kR λ_ _ _ _ h=>h) (λj e=>by cases e)
 |m+1=>xgs (n:=m+2) T (spNu nuV m) (xby T) (xgv T m) (λj e=>by cases e;rfl)
theorem xi2{α:Type}{f:α->Str}{l:List α}(nd:(l.map f).Nodup){i j:Nat}{a b:α}(c:l[i]?=some a)(g:l[j]?=some b)(e:f a=f b):i=j:=by
 have hi:=(zES c).1;have m:(l.map f)[i]?=some (f a):=by rw[zGM,c];rfl
 have h:(l.map f)[j]?=some (f a):=by rw[zGM,g,e];rfl
 exact(List.getElem?_inj (by rw[zLM];exact hi) nd).mp (m.trans h.symm)
def xo9(mk:Mak)(p:Str×List D):Prop:=p.2.length<=8/\∃c∈mk.chans,c.1=p.1/\∀d∈p.2,Vk mk.kinds c.2.2.2 d
def xq0(K:Fg):Sp:=λvs H Q _=>∃(a:Addr) (ns:List Int) (mv:V) (x:Str) (mk:Mak),vs=[.ref a,mv,.str x]/\SqL K H a (ns.map V.int)/\ns.length<=63/\RelD H mv mk.d/\MakOk mk ∧
 ∀d kvs cs L H',Same H H'->H d=none->H' d=some (.dK kvs)->LsAt H' kvs cs L->(∀a∈L,H a=none)->(cs.map (·.1)).Nodup->cs.length<=6->(∀p∈cs,xo9 mk p)->Q (.ref d) H'
theorem xkm(T:Tx K mg)(m:DefIs P w K mg base n "_law_feed" qaj (xh5 K))(l:DefIs P w K mg base n "_law_take" qad xcp)(g:DefIs P w K mg base n "_law_value" qal (xd2 6)):DefIs P w K mg base (n+1) "_law_letters" qbb (xq0 K):=by
 refine DefIs.of T.kS scl_letters (by walk_at"l") (λf bb A outer s H vs Q E hr h=>?_);obtain⟨sa,ns,mv,x,mk,rfl,hS,b9,hm,Y,q⟩:=h;have hu:=xfe hr;have nd:=scl_letters.nd
 refine⟨_,(zpn (psn 3 nd xhi)
   (zpn (psn 4 nd (pd m hr (va 0 (zpc pI pN so))))
   (zpn (xcm PassesOwn.never rfl (xa1 (K:=K) rfl (px K (pv 1) pI)) (xa9 (K:=K) rfl rfl (xac (pgn 5 nd) (xac (pgn 6 nd) (xac (pgn 7 nd) (xac (pgn 8 nd) xa7)))))
   (zpn (psn 9 nd (pd l hr (va 4 (zpc pI pN so))))
   (zpo (xa4 (PW.pt (xcj (pR xa6 (pv 7) (pv 2) (nM _)) (xb0 (pR xfc (pv 9) pI (nM _))))) (zpo (xdb hu (pv 3) (pv 5) (xbt ["_law_k","_law_feed_here","_law_kind","_law_make_here"] [none,some 4,some 8,some 1] rfl (by kernel_rfl) (xcb rfl T.k9 (v1 9)) (λ_ _ _ _=>(pgc 0)) (λ_ _ _ _=>xb1) (λ_ _ _ _=>(pd g hr (va 1 (zpc (px K (pv 3) pI) (v1 2) ss))))) rfl)) pQ))))
   (zpo (xai (pv 3)))))),xab λR1 b8=>?_⟩
 refine λd hd=>b8 _ _ (xab λR2 b7=>?_);have s0:=Same.new hd (.dK []);refine(jEA _ rfl (xaq sa ns 8 rfl (s0.seq hS) b9 (by decide) (λI p0 q0 a6=>b7 _ _ (xab λR3 b6=>?_))));have s1:=Same.new a6 (.lst [.int p0,.int q0]);have df:d≠I:=neN ups a6;have al:H I=none:=xaf s0 a6;have a5:=s0.trans s1;obtain⟨ma,kv,cv,hv,rfl,ah,b2,b3,_⟩:=mk_d hm;obtain⟨ca,us,rfl,au,hR⟩:=b3;have az:=hR.length;rw[zLM]at az;have h6:=Y.cfew;refine(xaa _ rfl ma _ _ _ rfl rfl (SqT.of (a5 _ _ ah)) rfl (jEAA ca rfl ⟨_,SqT.of (a5 _ _ au)⟩ ?_))
 refine xde (xs:=us) (λi σ H'=>∃(kvs:List (Key×V)) (cs:Lts) (L:List Addr) (o5 o6 o7 o8 o9:Option V),σ=[some (.ref sa),some (.ref ma),some (.str x),some (.ref d),some (.ref I),o5,o6,o7,o8,o9]/\Same H H'/\(∃p q:Int,H' I=some (.lst [.int p,.int q]))/\H' d=some (.dK kvs)/\LsAt H' kvs cs L/\(∀a∈L,H a=none/\a≠I)/\(∀c∈cs.map (·.1),c∈(mk.chans.take i).map (·.1))/\(cs.map (·.1)).Nodup/\cs.length<=i/\∀p∈cs,xo9 mk p)
  (xau ([]) ([]) ([]) none none (xb3 none none none rfl a5 (jEE p0 q0 ups) (s1 _ _ ups) trivial (jAAA (λ_ h=>nomatch h) (λ_ h=>nomatch h) List.nodup_nil ⟨Nat.zero_le _,λ_ h=>nomatch h⟩))) (λi σ H' _ p=>?_) ?_ ?_
 ·obtain⟨_,_,_,_,_,_,_,_,_,sm,_⟩:=p
  exact SqT.of (sm _ _ au)
 ·rintro i v σ H1 hv ⟨kvs,cs,L,o5,o6,o7,o8,o9,rfl,U,⟨p1,q1,a9⟩,aa,J,C,a0,a1,aj,Z⟩
  obtain⟨b,c,hc,rfl,hb⟩:=xdr hR hv;have hi:i<us.length:=(zES hv).1;refine(xas b _ rfl (SqT.of (U _ _ hb)) rfl _ _ rfl _ (jEA _ rfl (jEEA _ _ rfl (xan _ _ rfl rfl (xab λS1 b5=>?_)))));refine(xaa _ rfl I p1 q1 9 rfl a9 (by decide) (by decide) (λr H2 r0 r1 f2=>b5 _ _ ?_));have O:Same H H2:=λb u e=>f2.1 _ _ (U _ _ e) (neN e al);have av:=xah (jEE p1 q1 a9) f2;have aq:=f2.1 _ _ aa df;have af:LsAt H2 kvs cs L:=J.keep av λa G us e=>f2.1 _ _ e (C a G).2
  have a3:∃(kvs:List (Key×V)) (cs:Lts) (L:List Addr) (o5 o6 o7 o8 o9:Option V),[some (V.ref sa),some (.ref ma),some (.str x),some (.ref d),some (.ref I),some (.str c.1),some (.str c.2.1),some (.str c.2.2.1),some (.str c.2.2.2),some (.int r)]=[some (.ref sa),some (.ref ma),some (.str x),some (.ref d),some (.ref I),o5,o6,o7,o8,o9]/\Same H H2/\(∃p q:Int,H2 I=some (.lst [.int p,.int q]))/\H2 d=some (.dK kvs)/\LsAt H2 kvs cs L/\(∀a∈L,H a=none/\a≠I)/\(∀c∈cs.map (·.1),c∈(mk.chans.take (i+1)).map (·.1))/\(cs.map (·.1)).Nodup/\cs.length<=i+1/\∀p∈cs,xo9 mk p:=
   (xau kvs cs L _ _ (xb3 _ _ _ rfl O f2.2 aq af (jAAA C (λz hz=>by rw[zTA,zAP];exact List.mem_append_left _ (a0 z hz)) a1 ⟨by omega,Z⟩)))
  refine(xca _ rfl _ rfl rfl _ rfl (ite2 (λc1=>?_) (λc1=>iteF a3)));refine(xbv _ rfl _ _ rfl rfl _ rfl (ite2 (λc2=>?_) (λc2=>a3)));have r8:r<8:=of_decide_eq_true c2;refine(xbg _ rfl r rfl (by omega) ⟨by omega,?_⟩);have ar:=zMG hc;have b1:=Y.ckin c ar;refine xec (j:=0) (λj ys H'=>Fed I H2 H'/\∃ds,RelDs H' ys ds/\∀e∈ds,Vk mk.kinds c.2.2.2 e) (by rfl) (jAEA (by obtain⟨p,q,e⟩:=f2.2;exact Fed.refl e) ([]) rfl (λ_ h=>nomatch h)) (xba (by omega)) ?_ ?_
  ·rintro j ys H3 hj ai ⟨f3,ds,a2,a8⟩
   have ac:=xah f2.2 f3;obtain⟨p3,q3,an⟩:=f3.2;refine(xap _ rfl _ rfl ma _ _ (xbr _ rfl rfl (SqT.of (ac _ _ (O _ _ ah))) rfl _ rfl (xau I kv p3 q3 mk.kinds (xbc c.2.2.2 rfl an ((b2.same O _).tups ac _) Y.wf b1 (λu e H4 f4 b0 ay=>nxt hj ai ?_)))));refine(jAEA (f3.trans f4) (ds++[e]) ((a2.tups (xah (jEE p3 q3 an) f4) _).append (xan _ _ rfl b0 rfl)) (λz hz=>?_));rcases zMA hz with hz |hz
   ·exact a8 z hz
   ·rw[zMO hz];exact ay
  ·rintro ys H3 ai ⟨f3,ds,a2,a8⟩ D hD
   have sD:=Same.new hD (.lst ys);have ao:=f3.1 _ _ aq df;have aw:LsAt (upd H3 D (.lst ys)) kvs cs L:=(af.keep (xah f2.2 f3) λa G us e=>f3.1 _ _ e (C a G).2).same sD;have ba:=J.lens
   have a4:c.1 ∉cs.map (·.1):=λz=>by
    obtain⟨c',b4,e'⟩:=zMP (a0 _ z);obtain⟨j,hj⟩:=List.getElem?_of_mem b4;rw[List.getElem?_take]at hj;by_cases ak:j<i
    ·rw[if_pos ak]at hj
     have:=xi2 Y.cnd hj hc e';omega
    ·rw[if_neg ak]at hj;cases hj
   have ag:valV kvs (Sum.inr c.1)=none:=by
    refine J.val.1 ?_
    cases hg:getL cs c.1 with
    |none=>rfl
    |some ds=>
     obtain⟨p,hp,_⟩:=zMS hg;exact absurd (List.mem_map.mpr (jEA p (zMF hp) (of_decide_eq_true (List.find?_some (p:=λp:Str×List M.D=>decide (p.1=c.1)) hp)))) a4
   refine(jEA _ rfl (xax _ rfl d _ rfl (.inl (xbh kvs (Sum.inr c.1) (sD _ _ ao) rfl (Nat.lt_of_le_of_lt (by omega:kvs.length<=6) (by decide)) rfl)) ?_));rw[xhg _ ag]
   have a7:∀b o,upd H3 D (.lst ys) b=some o->(∀k,o≠.dK k)->upd (upd H3 D (.lst ys)) d (.dK (kvs++[(Sum.inr c.1,.ref D)])) b=some o:=λb o e n=>by
    rw[xad λz=>by rw[z,sD _ _ ao]at e;exact n _ (Option.some.inj e).symm];exact e
   have ab:∀b vs,upd H3 D (.lst ys) b=some (.tup vs)->upd (upd H3 D (.lst ys)) d (.dK (kvs++[(Sum.inr c.1,.ref D)])) b=some (.tup vs):=λb vs e=>a7 b _ e λk z=>by cases z
   obtain⟨p9,q9,am⟩:=f3.2;have ae:Same H H3:=λb u e=>f3.1 _ _ (O _ _ e) (neN e al);refine(xau _ (cs++[(c.1,ds)]) (L++[D]) _ _ (xb3 _ _ _ rfl (λb u e=>?_) (jEE p9 q9 (by rw[xad (Ne.symm df)];exact sD _ _ am)) ups ?_ (jAAA ?_ ?_ ?_ ⟨?_,?_⟩)))
   ·rw[xad (neN e hd)]
    exact sD _ _ (ae _ _ e)
   ·exact(aw.keep ab λa G us e=>a7 a _ e λk z=>by cases z).snoc (us:=ys) (a7 D _ ups λk z=>by cases z) ((a2.same sD _).tups ab _)
   ·intro a G
    rcases zMA G with G |G
    ·exact C a G
    ·rw[zMO G]
     exact⟨xaf ae hD,λz=>by rw[z,am]at hD;cases hD⟩
   ·intro z hz
    rw[zTA,hc,zAP];rw[zAP]at hz;rcases zMA hz with hz |hz
    ·exact List.mem_append_left _ (a0 z hz)
    ·exact List.mem_append_right _ hz
   ·rw[zAP]
    refine List.nodup_append.mpr (jAA a1 (by simp) (λz hz y hy e=>?_));have ax:y=c.1:=zMO hy;rw[e,ax]at hz;exact a4 hz
   ·rw[zLA,List.length_singleton];omega
   ·intro p hp
    rcases zMA hp with hp |hp
    ·exact Z p hp
    ·rw[zMO hp]
     refine(xf8 ?_ c ar rfl a8);have:=a2.length;show ds.length<=8;omega
 ·rintro σ H1 ⟨kvs,cs,L,o5,o6,o7,o8,o9,rfl,U,a9,aa,J,C,a0,a1,aj,Z⟩
  exact b6 _ _ (jEA _ rfl (q d kvs cs L H1 U hd aa J (λa G=>(C a G).1) a1 (by omega) Z))
structure NwA where
 nw:Addr
 pb:Addr
 tl:Addr
 sd:Addr
 ld:Addr
 Ls:List Addr
 Ll:List Addr
def NwA.F(A:NwA):List Addr:=A.nw::A.pb::A.tl::A.sd::A.ld::(A.Ls++A.Ll)
def nowK(A:NwA)(row many:Int):List (Key×V):=[(Sum.inr (Str.ofString "at"),.int row),(Sum.inr (Str.ofString "boxes"),.ref A.pb),(Sum.inr (Str.ofString "told"),.ref A.tl),(Sum.inr (Str.ofString "sent"),.ref A.sd),(Sum.inr (Str.ofString "left"),.ref A.ld),(Sum.inr (Str.ofString "count"),.int many)]
structure NowAt(H:Hp)(A:NwA)(st:LSt):Prop where
 nw:H A.nw=some (.dK (nowK A st.row st.many))
 bx:∃kb,H A.pb=some (.dK kb)/\KvD H kb st.bx
 tel:∃ut,H A.tl=some (.lst ut)/\RelDs H ut st.told
 goi:∃kg,H A.sd=some (.dK kg)/\LsAt H kg st.goi A.Ls
 com:∃kc,H A.ld=some (.dK kc)/\LsAt H kc st.com A.Ll
 nd:A.F.Nodup
theorem NowAt.keep{H c:Hp}{A:NwA}{st:LSt}(l:NowAt H A st)(s:∀b vs,H b=some (.tup vs)->c b=some (.tup vs))(k:∀b∈A.F,∀o,H b=some o->c b=some o):NowAt c A st:=by
 obtain⟨y,⟨i,x,w⟩,⟨f,u,r⟩,⟨g,p,n⟩,⟨h,m,j⟩,nd⟩:=l;exact⟨k _ (by simp[NwA.F]) _ y,(jEA i (k _ (by simp[NwA.F]) _ x) (w.tups s)),(jEA f (k _ (by simp[NwA.F]) _ u) (r.tups s _)),(jEA g (k _ (by simp[NwA.F]) _ p) (n.keep s λb a us e=>k b (by simp[NwA.F,a]) _ e)),(jEA h (k _ (by simp[NwA.F]) _ m) (j.keep s λb a us e=>k b (by simp[NwA.F,a]) _ e)),nd⟩
theorem NowAt.same{H a:Hp}{A:NwA}{st:LSt}(l:NowAt H A st)(s:Same H a):NowAt a A st:=l.keep (Same.tups s) λb _ o e=>s b o e
theorem NowAt.there{H:Hp}{A:NwA}{st:LSt}(l:NowAt H A st):∀b∈A.F,∃o,H b=some o/\∀vs,o≠.tup vs:=by
 obtain⟨m,⟨s,j,w⟩,⟨n,i,u⟩,⟨p,h,g⟩,⟨r,f,c⟩,nd⟩:=l;intro b a;simp only[NwA.F,List.mem_cons,List.mem_append]at a;rcases a with rfl |rfl |rfl |rfl |rfl |a |a
 ·exact(jEA _ m (λvs e=>by cases e))
 ·exact(jEA _ j (λvs e=>by cases e))
 ·exact(jEA _ i (λvs e=>by cases e))
 ·exact(jEA _ h (λvs e=>by cases e))
 ·exact(jEA _ f (λvs e=>by cases e))
 ·obtain⟨us,e⟩:=g.there b a
  exact(jEA _ e (λvs e=>by cases e))
 ·obtain⟨us,e⟩:=c.there b a
  exact(jEA _ e (λvs e=>by cases e))
def goiI(mk:Mak)(h:Str)(i:Nat):Lts:=((mk.chans.take i).filter λc=>decide (c.2.1=h)).map λc=>(c.1,[])
def comI(mk:Mak)(h:Str)(cs:Lts)(i:Nat):Lts:=((mk.chans.take i).filter λc=>decide (c.2.2.1=h)).map λc=>(c.1,(getL cs c.1).getD [])
def xm7:Sp:=λvs H Q _=>∃(mv hv:V) (dl sa p:Addr) (kl:List (Key×V)) (cl:Lts) (Ll:List Addr) (mk:Mak) (hd:Hand) (row:Nat) (bx:List (Str×D)),vs=[mv,hv,.ref dl,.ref sa]/\RelD H mv mk.d/\RelD H hv hd.d/\MakOk mk/\H dl=some (.dK kl)/\LsAt H kl cl Ll/\StAt H sa p row bx ∧
 ∀A H',Same H H'->(∀b∈A.F,H b=none)->NowAt H' A ⟨row,bx,comL mk hd.name cl,goiL mk hd.name,[],0⟩->Q (.ref A.nw) H'
theorem xn8(A:NwA)(r m:Int):valV (nowK A r m) (Sum.inr (Str.ofString "at"))=some (.int r):=by unfold nowK;rw[xbp rfl]
theorem xf2(A:NwA)(r m:Int):valV (nowK A r m) (Sum.inr (Str.ofString "boxes"))=some (.ref A.pb):=by unfold nowK;rw[xa0 (λz=>absurd (Sum.inr.inj z) (by walk_at"k")),xbp rfl]
theorem xq9(A:NwA)(r m:Int):valV (nowK A r m) (Sum.inr (Str.ofString "told"))=some (.ref A.tl):=by unfold nowK;rw[xa0 (λz=>absurd (Sum.inr.inj z) (by walk_at"k")),xa0 (λz=>absurd (Sum.inr.inj z) (by walk_at"k")),xbp rfl]
theorem xn6(A:NwA)(r m:Int):valV (nowK A r m) (Sum.inr (Str.ofString "sent"))=some (.ref A.sd):=by unfold nowK;rw[xa0 (λz=>absurd (Sum.inr.inj z) (by walk_at"k")),xa0 (λz=>absurd (Sum.inr.inj z) (by walk_at"k")),xa0 (λz=>absurd (Sum.inr.inj z) (by walk_at"k")),xbp rfl]
theorem xlo(A:NwA)(r m:Int):valV (nowK A r m) (Sum.inr (Str.ofString "left"))=some (.ref A.ld):=by unfold nowK;rw[xa0 (λz=>absurd (Sum.inr.inj z) (by walk_at"k")),xa0 (λz=>absurd (Sum.inr.inj z) (by walk_at"k")),xa0 (λz=>absurd (Sum.inr.inj z) (by walk_at"k")),xa0 (λz=>absurd (Sum.inr.inj z) (by walk_at"k")),xbp rfl]
theorem xra(A:NwA)(r m:Int):valV (nowK A r m) (Sum.inr (Str.ofString "count"))=some (.int m):=by unfold nowK;rw[xa0 (λz=>absurd (Sum.inr.inj z) (by walk_at"k")),xa0 (λz=>absurd (Sum.inr.inj z) (by walk_at"k")),xa0 (λz=>absurd (Sum.inr.inj z) (by walk_at"k")),xa0 (λz=>absurd (Sum.inr.inj z) (by walk_at"k")),xa0 (λz=>absurd (Sum.inr.inj z) (by walk_at"k")),xbp rfl]
theorem xp2{A:NwA}{D:Addr}(nd:A.F.Nodup)(hn:D ∉A.F):({A with Ls:=A.Ls++[D]}:NwA).F.Nodup:=by
 have e:({A with Ls:=A.Ls++[D]}:NwA).F=([A.nw,A.pb,A.tl,A.sd,A.ld]++A.Ls)++D::A.Ll:=by simp[NwA.F]
 rw[e,List.perm_middle.nodup_iff];refine List.nodup_cons.mpr ⟨λz=>hn ?_,?_⟩
 ·simpa[NwA.F] using z
 ·simpa[NwA.F] using nd
theorem xp3{A:NwA}{D:Addr}(nd:A.F.Nodup)(hn:D ∉A.F):({A with Ll:=A.Ll++[D]}:NwA).F.Nodup:=by
 have e:({A with Ll:=A.Ll++[D]}:NwA).F=([A.nw,A.pb,A.tl,A.sd,A.ld]++(A.Ls++A.Ll))++D::[]:=by simp[NwA.F]
 rw[e,List.perm_middle.nodup_iff];refine List.nodup_cons.mpr ⟨λz=>hn ?_,?_⟩
 ·simpa[NwA.F] using z
 ·simpa[NwA.F] using nd
theorem xqd{A:NwA}{D b:Addr}(h:b∈({A with Ls:=A.Ls++[D]}:NwA).F)(n:b≠D):b∈A.F:=by
 have e:({A with Ls:=A.Ls++[D]}:NwA).F=([A.nw,A.pb,A.tl,A.sd,A.ld]++A.Ls)++D::A.Ll:=by simp[NwA.F]
 rw[e]at h;rcases zMC (List.perm_middle.mem_iff.mp h) with z |z
 ·exact absurd z n
 ·simpa[NwA.F] using z
theorem xqe{A:NwA}{D b:Addr}(h:b∈({A with Ll:=A.Ll++[D]}:NwA).F)(n:b≠D):b∈A.F:=by
 have e:({A with Ll:=A.Ll++[D]}:NwA).F=([A.nw,A.pb,A.tl,A.sd,A.ld]++(A.Ls++A.Ll))++D::[]:=by simp[NwA.F]
 rw[e]at h;rcases zMC (List.perm_middle.mem_iff.mp h) with z |z
 ·exact absurd z n
 ·simpa[NwA.F] using z
theorem xmy{H:Hp}{a:List (Key×V)}{cs:Lts}{L:List Addr}{c:Str}(h:LsAt H a cs L)(g:c ∉cs.map (·.1)):valV a (Sum.inr c)=none:=by
 refine h.val.1 ?_
 cases f:getL cs c with
 |none=>rfl
 |some ds=>
  obtain⟨p,e,_⟩:=zMS f;exact absurd (List.mem_map.mpr (jEA p (zMF e) (of_decide_eq_true (List.find?_some (p:=λp:Str×List M.D=>decide (p.1=c)) e)))) g
theorem xp5 {H:Hp} {A:NwA} {st:LSt} {c:Str} {D:Addr} {us:List V} {ds:List M.D} (l:NowAt H A st) (hD:H D=some (.lst us)) (hn:D ∉A.F) (r:RelDs H us ds) (hc:c ∉st.goi.map (·.1)) :
  ∃kg,H A.sd=some (.dK kg)/\kg.length=st.goi.length/\valV kg (Sum.inr c)=none/\NowAt (upd H A.sd (.dK (kg++[(Sum.inr c,.ref D)]))) {A with Ls:=A.Ls++[D]} {st with goi:=st.goi++[(c,ds)]}:=by
 obtain⟨h1,⟨kb,h2,h3⟩,⟨ut,h4,h5⟩,⟨kg,h6,h7⟩,⟨kc,h8,h9⟩,nd⟩:=l;have n1:A.nw≠A.sd:=by intro z;simp[NwA.F,z]at nd
 have n2:A.pb≠A.sd:=by intro z;simp[NwA.F,z]at nd
 have n3:A.ld≠A.sd:=by intro z;simp[NwA.F,z]at nd
 have ne:∀b o,H b=some o->(∀k,o≠.dK k)->upd H A.sd (.dK (kg++[(Sum.inr c,.ref D)])) b=some o:=λb o e n=>by
  rw[xad λz=>by rw[z,h6]at e;exact n _ (Option.some.inj e).symm];exact e
 have tp:∀b vs,H b=some (.tup vs)->upd H A.sd (.dK (kg++[(Sum.inr c,.ref D)])) b=some (.tup vs):=λb vs e=>ne b _ e λk z=>by cases z
 refine(xbn kg h6 h7.lens.1 (xmy h7 hc) ⟨by rw[xad n1];exact h1,(jEA kb (by rw[xad n2];exact h2) (h3.tups tp)),(jEA ut (ne _ _ h4 (λk z=>by cases z)) (h5.tups tp _)),(jEA _ ups ?_),(jEA kc (by rw[xad n3];exact h8) (h9.keep tp λb _ us e=>ne b _ e λk z=>by cases z)),xp2 nd hn⟩);exact(h7.keep tp λb _ us e=>ne b _ e λk z=>by cases z).snoc (us:=us) (ne _ _ hD λk z=>by cases z) (r.tups tp _)
theorem xp6 {H:Hp} {A:NwA} {st:LSt} {c:Str} {D:Addr} {us:List V} {ds:List M.D} (l:NowAt H A st) (x:H D=some (.lst us)) (hn:D ∉A.F) (r:RelDs H us ds) (w:c ∉st.com.map (·.1)) :
  ∃a,H A.ld=some (.dK a)/\a.length=st.com.length/\valV a (Sum.inr c)=none/\NowAt (upd H A.ld (.dK (a++[(Sum.inr c,.ref D)]))) {A with Ll:=A.Ll++[D]} {st with com:=st.com++[(c,ds)]}:=by
 obtain⟨U,⟨u,O,J⟩,⟨i,I,G⟩,⟨s,C,y⟩,⟨a,h,g⟩,nd⟩:=l;have p:A.nw≠A.ld:=by intro z;simp[NwA.F,z]at nd
 have m:A.pb≠A.ld:=by intro z;simp[NwA.F,z]at nd
 have j:A.sd≠A.ld:=by intro z;simp[NwA.F,z]at nd
 have ne:∀b o,H b=some o->(∀k,o≠.dK k)->upd H A.ld (.dK (a++[(Sum.inr c,.ref D)])) b=some o:=λb o e n=>by
  rw[xad λz=>by rw[z,h]at e;exact n _ (Option.some.inj e).symm];exact e
 have f:∀b vs,H b=some (.tup vs)->upd H A.ld (.dK (a++[(Sum.inr c,.ref D)])) b=some (.tup vs):=λb vs e=>ne b _ e λk z=>by cases z
 refine(xbn a h g.lens.1 (xmy g w) ⟨by rw[xad p];exact U,(jEA u (by rw[xad m];exact O) (J.tups f)),(jEA i (ne _ _ I (λk z=>by cases z)) (G.tups f _)),(jEA s (by rw[xad j];exact C) (y.keep f λb _ us e=>ne b _ e λk z=>by cases z)),(jEA _ ups ?_),xp3 nd hn⟩);exact(g.keep f λb _ us e=>ne b _ e λk z=>by cases z).snoc (us:=us) (ne _ _ x λk z=>by cases z) (r.tups f _)
theorem xgo{f:Mak}(nd:(f.chans.map (·.1)).Nodup){i:Nat}{c:Chn}(h:f.chans[i]?=some c){p:Chn->Bool}:c.1 ∉((f.chans.take i).filter p).map (·.1):=λz=>by
 obtain⟨m,g,l⟩:=zMP z;obtain⟨j,e⟩:=List.getElem?_of_mem (List.mem_filter.mp g).1;rw[List.getElem?_take]at e;by_cases a:j<i
 ·rw[if_pos a]at e
  have:=xi2 nd e h l;omega
 ·rw[if_neg a]at e;cases e
theorem xnx(T:Tx K mg):DefIs P w K mg base (n+1) "_law_model" qbc xm7:=by
 refine DefIs.of T.kT scl_model (by walk_at"l") (λf b1 A outer s H vs Q E hr h=>?_);obtain⟨mv,hv,dl,sa,p,kl,G,Ll,g,hd,j,bx,rfl,hm,hh,a5,af,ai,ak,q⟩:=h;have hu:=xfe hr;have nd:=scl_model.nd;obtain⟨ac,kb,hp,an⟩:=ak
 refine⟨_,(zpn (psn 4 nd (xr8 (xd6 pS (px K (pv 3) pI) (xd6 pS (xao xcr rfl T.k0 PyProof.Rows.boot_dict (zpc (px K (pv 3) pI) pN ss)) (xd6 pS (xb2 pN) (xd6 pS xhi (xd6 pS xhi (xd6 pS pI xr3)))))) rfl rfl (λz=>by cases z) (by decide)))
   (zpn (xcm PassesOwn.never rfl (xa1 (K:=K) rfl (px K (pv 0) pI)) (xa9 (K:=K) rfl rfl (xac (pgn 5 nd) (xac (pgn 6 nd) (xac (pgn 7 nd) (xac (pgn 8 nd) xa7)))))
   (zpn (xa4 (pR xa6 (pv 6) (px K (pv 1) pI) (nM _)) (zpo (xdb hu (xbf hu (pv 4) pS (λ_ _=>rfl)) (pv 5) (xb2 pN) rfl)) pQ)
   (zpo (xa4 (pR xa6 (pv 7) (px K (pv 1) pI) (nM _)) (zpo (xdb hu (xbf hu (pv 4) pS (λ_ _=>rfl)) (pv 5) (xao xb6 rfl T.k6 PyProof.Rows.boot_list (zpc (xlj hu (pv 2) (pv 5) (xb2 pN) ⟨rfl,rfl,rfl,rfl⟩) pN zsc)) rfl)) pQ))))
   (zpo (xai (pv 4))))),xab λR1 av=>?_⟩
 refine λa a3=>?_;have s0:=Same.new a3 (.dK []);refine(xaa _ rfl sa _ _ _ rfl rfl (SqT.of (s0 _ _ ac)) rfl ?_);refine(xaa _ rfl sa _ _ _ rfl rfl (SqT.of (s0 _ _ ac)) rfl (xan p kb rfl (s0 _ _ hp) (λpb a2=>?_)));have s1:=Same.new a2 (.dK kb);refine⟨(by walk_at"s"),λx J=>?_⟩;have s2:=Same.new J (.lst []);refine λy I=>?_;have s3:=Same.new I (.dK []);refine λC r=>?_;have s4:=Same.new r (.dK []);have a1:=s1.trans (s2.trans (s3.trans s4));refine(xf8 (a1 _ _ ups) (nowK ⟨a,pb,x,y,C,[],[]⟩ j 0) rfl (by show 6<=15;decide) (av _ _ (xab λR2 au=>?_)));rw[xdn (show((nowK ⟨a,pb,x,y,C,[],[]⟩ j 0).map (·.1)).Nodup by show([Sum.inr (Str.ofString "at"),Sum.inr (Str.ofString "boxes"),Sum.inr (Str.ofString "told"),Sum.inr (Str.ofString "sent"),Sum.inr (Str.ofString "left"),Sum.inr (Str.ofString "count")]:List Key).Nodup;decide +kernel)]
 have l0:NowAt (upd (upd (upd (upd (upd (upd H a (.dK [])) pb (.dK kb)) x (.lst [])) y (.dK [])) C (.dK [])) a (.dK (nowK ⟨a,pb,x,y,C,[],[]⟩ j 0))) ⟨a,pb,x,y,C,[],[]⟩ ⟨j,bx,comI g hd.name G 0,goiI g hd.name 0,[],0⟩:=by
  have n1:pb≠a:=Ne.symm (neN ups a2);have n2:x≠a:=Ne.symm (neN (s1 _ _ ups) J);have n3:y≠a:=Ne.symm (neN ((s1.trans s2) _ _ ups) I);have n4:C≠a:=Ne.symm (neN ((s1.trans (s2.trans s3)) _ _ ups) r);have n5:x≠pb:=Ne.symm (neN ups J);have n6:y≠pb:=Ne.symm (neN (s2 _ _ ups) I);have n7:C≠pb:=Ne.symm (neN ((s2.trans s3) _ _ ups) r);have n8:y≠x:=Ne.symm (neN ups I);have n9:C≠x:=Ne.symm (neN (s3 _ _ ups) r);have a9:C≠y:=Ne.symm (neN ups r);refine⟨ups,(jEA kb (by rw[xad n1];exact(s2.trans (s3.trans s4)) _ _ ups) (an.tups λb vs e=>?_)),(jEA ([]) (by rw[xad n2];exact(s3.trans s4) _ _ ups) rfl),(jEA ([]) (by rw[xad n3];exact s4 _ _ ups) trivial),(jEA ([]) (by rw[xad n4];exact ups) trivial),?_⟩
  ·rw[xad (neN e a3)]
   exact a1 _ _ (s0 _ _ e)
  ·simp[NwA.F,n1,n2,n3,n4,n5,n6,n7,n8,n9,a9,Ne.symm n1,Ne.symm n2,Ne.symm n3,Ne.symm n4,Ne.symm n5,Ne.symm n6,Ne.symm n7,Ne.symm n8,Ne.symm n9,Ne.symm a9]
 have a0:Same H (upd (upd (upd (upd (upd (upd H a (.dK [])) pb (.dK kb)) x (.lst [])) y (.dK [])) C (.dK [])) a (.dK (nowK ⟨a,pb,x,y,C,[],[]⟩ j 0))):=λb u e=>by
  rw[xad (neN e a3)];exact a1 _ _ (s0 _ _ e)
 have aw:∀b∈(⟨a,pb,x,y,C,[],[]⟩:NwA).F,H b=none:=by
  intro b hb;simp only[NwA.F,List.mem_cons,List.append_nil,List.not_mem_nil,or_false]at hb;rcases hb with rfl |rfl |rfl |rfl |rfl
  ·exact a3
  ·exact xaf s0 a2
  ·exact xaf (s0.trans s1) J
  ·exact xaf (s0.trans (s1.trans s2)) I
  ·exact xaf (s0.trans (s1.trans (s2.trans s3))) r
 generalize upd (upd (upd (upd (upd (upd H a (.dK [])) pb (.dK kb)) x (.lst [])) y (.dK [])) C (.dK [])) a (.dK (nowK ⟨a,pb,x,y,C,[],[]⟩ j 0))=H0 at l0 a0⊢;clear s0 s1 s2 s3 s4 a1 r I J a2;obtain⟨ma,kv,cv,az,rfl,al,b0,aq,_⟩:=mk_d hm;obtain⟨ca,us,rfl,ag,hR⟩:=aq;have a6:=hR.length;rw[zLM]at a6;have h6:=a5.cfew;obtain⟨ha,bv,rv,rfl,ae,_,_⟩:=hd_d hh;refine(xaa _ rfl ma _ _ _ rfl rfl (SqT.of (a0 _ _ al)) rfl (jEAA ca rfl ⟨_,SqT.of (a0 _ _ ag)⟩ ?_))
 refine xde (xs:=us) (λi σ H'=>∃(A:NwA) (o5 o6 o7 o8:Option V),A.nw=a/\σ=[some (.ref ma),some (.ref ha),some (.ref dl),some (.ref sa),some (.ref a),o5,o6,o7,o8]/\Same H H'/\(∀b∈A.F,H b=none)/\NowAt H' A ⟨j,bx,comI g hd.name G i,goiI g hd.name i,[],0⟩)
  (xce _ none none none none rfl rfl a0 aw l0) (λi σ H' _ p=>?_) ?_ ?_
 ·obtain⟨_,_,_,_,_,_,_,sm,_⟩:=p
  exact SqT.of (sm _ _ ag)
 ·rintro i v σ H1 hv ⟨A,o5,o6,o7,o8,Y,rfl,m,O,l1⟩
  obtain⟨b,c,hc,rfl,hb⟩:=xdr hR hv;have hi:i<us.length:=(zES hv).1;refine(xas b _ rfl (SqT.of (m _ _ hb)) rfl _ _ rfl _ (jEA _ rfl (jEEA _ _ rfl (xan _ _ rfl rfl (xab λS1 ar=>?_)))));have a4:∀{k:Nat},k<=6->k<sizeLine:=λh=>Nat.lt_of_le_of_lt h (by decide);have few:∀p:Chn->Bool,((g.chans.take i).filter p).length<=6:=λp=>Nat.le_trans (List.length_filter_le _ _) (by rw[List.length_take];omega)
  have ab:∀(Z:NwA) (H2:Hp),Z.nw=a->Same H H2->(∀b∈Z.F,H b=none)->NowAt H2 Z ⟨j,bx,comI g hd.name G i,goiI g hd.name (i+1),[],0⟩->S1 [some (.ref ma),some (.ref ha),some (.ref dl),some (.ref sa),some (.ref a),some (.str c.1),some (.str c.2.1),some (.str c.2.2.1),some (.str c.2.2.2)] H2:=by
   intro Z H2 U l a8 l2;refine ar _ _ ?_;refine(xap _ rfl _ rfl ha _ _ (xbc _ rfl rfl (SqT.of (l _ _ ae)) rfl rfl (jEA _ rfl (ite2 (λc1=>?_) (λc1=>?_)))))
   ·have ax:c.2.2.1=hd.name:=V.str.inj (of_decide_eq_true c1)
    have aa:=LsAt.val (c:=c.1) (ai.same l);refine(xca _ rfl dl rfl (.inl ⟨kl,.inl (l _ _ af)⟩) _ rfl ⟨(by walk_at"s"),λe0 ao=>?_⟩);have se:=Same.new ao (.lst []);have gd:=DGet.rd (H:=upd H2 e0 (.lst [])) (k:=Sum.inr c.1) (.inl (se _ _ (l _ _ af)))
    obtain⟨la,us,gv,am,aj⟩:∃la us,(valV kl (Sum.inr c.1)).getD (.ref e0)=.ref la/\upd H2 e0 (.lst []) la=some (.lst us)/\RelDs (upd H2 e0 (.lst [])) us ((getL G c.1).getD []):=by
     cases hg:getL G c.1 with
     |none=>
      rw[aa.1 hg];exact(xan e0 ([]) rfl ups rfl)
     |some ds=>
      obtain⟨la,us,h1,h2,h3⟩:=aa.2 ds hg;rw[h1];exact(xan la us rfl (se _ _ h2) (h3.same se _))
    refine(jEA _ gd ?_);rw[gv];refine(xan la us rfl (.inl (SqL.of am)) (λD hD=>?_));have sD:=Same.new hD (.lst us);have ah:=l.trans (se.trans sD);have l3:=(l2.same se).same sD
    have a7:D ∉Z.F:=λz=>by
     obtain⟨o,e,_⟩:=(l2.same se).there D z;rw[hD]at e;cases e
    obtain⟨kc,h1,h2,h3,h4⟩:=xp6 l3 ups a7 (aj.same sD _) (c:=c.1) (by show c.1 ∉(comI g hd.name G i).map (·.1);unfold comI;rw[List.map_map];exact xgo a5.cnd hc)
    have gn:DGet (upd (upd H2 e0 (.lst [])) D (.lst us)) a (.str (Str.ofString "left")) (some (.ref Z.ld)):=by
     have:=DGet.rd (k:=Sum.inr (Str.ofString "left")) (.inl l3.nw);rw[xlo,U]at this;exact this
    refine(xb4 _ rfl a _ rfl gn _ rfl Z.ld (jEAA _ rfl (.inl (xbh kc (Sum.inr c.1) h1 rfl (a4 (by rw[h2];show(comI g hd.name G i).length<=6;unfold comI;rw[zLM];exact few _)) rfl)) ?_));rw[xhg _ h3];refine(xce ({Z with Ll:=Z.Ll++[D]}) _ _ _ _ U rfl (λb u e=>?_) (λb hb=>?_) ?_)
    ·rw[xad λz=>by have:=a8 Z.ld (by simp[NwA.F]);rw[<- z,e]at this;cases this]
     exact ah _ _ e
    ·by_cases M:b=D
     ·rw[M];exact xaf (l.trans se) hD
     ·exact a8 b (xqe hb M)
    ·have e:comI g hd.name G (i+1)=comI g hd.name G i++[(c.1,(getL G c.1).getD [])]:=by
      unfold comI;rw[zTA,hc,List.filter_append,zAP];show _++List.map _ (List.filter _ [c])=_;rw[List.filter_cons,if_pos (zDT ax)];rfl
     rw[e];exact h4
   ·refine(xce Z _ _ _ _ U rfl l a8 ?_)
    have e:comI g hd.name G (i+1)=comI g hd.name G i:=by
     unfold comI;rw[zTA,hc,List.filter_append,zAP];show _++List.map _ (List.filter _ [c])=_;rw[List.filter_cons,if_neg (by rw[decide_eq_true_iff];exact λz=>c1 (zDT (congrArg V.str z)))];exact List.append_nil _
    rw[e];exact l2
  refine(xap _ rfl _ rfl ha _ _ (xbc _ rfl rfl (SqT.of (m _ _ ae)) rfl rfl (jEA _ rfl (ite2 (λc1=>?_) (λc1=>?_)))))
  ·have ay:c.2.1=hd.name:=V.str.inj (of_decide_eq_true c1)
   refine⟨(by walk_at"s"),λD hD=>?_⟩;have sD:=Same.new hD (.lst []);have l2:=l1.same sD
   have a7:D ∉A.F:=λz=>by
    obtain⟨o,e,_⟩:=l1.there D z;rw[hD]at e;cases e
   obtain⟨kg,h1,h2,h3,h4⟩:=xp5 l2 ups a7 (ds:=[]) rfl (c:=c.1) (by show c.1 ∉(goiI g hd.name i).map (·.1);unfold goiI;rw[List.map_map];exact xgo a5.cnd hc)
   have gn:DGet (upd H1 D (.lst [])) a (.str (Str.ofString "sent")) (some (.ref A.sd)):=by
    have:=DGet.rd (k:=Sum.inr (Str.ofString "sent")) (.inl l2.nw);rw[xn6,Y]at this;exact this
   refine(xb4 _ rfl a _ rfl gn _ rfl A.sd (jEAA _ rfl (.inl (xbh kg (Sum.inr c.1) h1 rfl (a4 (by rw[h2];show(goiI g hd.name i).length<=6;unfold goiI;rw[zLM];exact few _)) rfl)) ?_));rw[xhg _ h3];refine ab {A with Ls:=A.Ls++[D]} _ Y (λb u e=>?_) (λb hb=>?_) ?_
   ·rw[xad λz=>by have:=O A.sd (by simp[NwA.F]);rw[<- z,e]at this;cases this]
    exact sD _ _ (m _ _ e)
   ·by_cases M:b=D
    ·rw[M];exact xaf m hD
    ·exact O b (xqd hb M)
   ·have e:goiI g hd.name (i+1)=goiI g hd.name i++[(c.1,[])]:=by
     unfold goiI;rw[zTA,hc,List.filter_append,zAP];show _++List.map _ (List.filter _ [c])=_;rw[List.filter_cons,if_pos (zDT ay)];rfl
    rw[e];exact h4
  ·refine ab A H1 Y m O ?_
   have e:goiI g hd.name (i+1)=goiI g hd.name i:=by
    unfold goiI;rw[zTA,hc,List.filter_append,zAP];show _++List.map _ (List.filter _ [c])=_;rw[List.filter_cons,if_neg (by rw[decide_eq_true_iff];exact λz=>c1 (zDT (congrArg V.str z)))];exact List.append_nil _
   rw[e];exact l1
 ·rintro σ H1 ⟨A,o5,o6,o7,o8,Y,rfl,m,O,l1⟩
  rw[<- Y];refine au _ _ (jEA _ rfl (q A H1 m O ?_))
  have e1:comI g hd.name G us.length=comL g hd.name G:=by
   unfold comI comL;rw[a6,zTL (Nat.le_refl _)];show _=List.map _ (List.map _ _);rw[List.map_map];rfl
  have e2:goiI g hd.name us.length=goiL g hd.name:=by
   unfold goiI goiL;rw[a6,zTL (Nat.le_refl _)];show _=List.map _ (List.map _ _);rw[List.map_map];rfl
  rw[e1,e2]at l1;exact l1
theorem xlh{k:Key}{v u:V}{r:List (Key×V)}(h:valV r k=none):putK ((k,u)::r) k v=(k,v)::r:=by
 unfold putK;rw[if_pos (by simp),List.map_cons,if_pos rfl];congr 1;refine(List.map_congr_left (g:=id) λkv hkv=>?_).trans (List.map_id _);refine if_neg λz=>?_;have:=xdi k r;rw[h]at this;exact absurd (List.any_eq_true.mpr (jEA kv hkv (zDT z))) (by rw[this];decide)
theorem xeq{k j:Key}{v u:V}{r:List (Key×V)}(n:j≠k)(h:(valV r k).isSome=true):putK ((j,u)::r) k v=(j,u)::putK r k v:=by
 unfold putK;have hr:=xdi k r;rw[h]at hr;rw[if_pos hr,if_pos (by rw[List.any_cons,hr,Bool.or_true]),List.map_cons,if_neg n]
theorem xf1(A:NwA)(r m r':Int):putK (nowK A r m) (Sum.inr (Str.ofString "at")) (.int r')=nowK A r' m:=by
 unfold nowK;refine xlh ?_;rw[xa0 (λz=>absurd (Sum.inr.inj z) (by walk_at"k")),xa0 (λz=>absurd (Sum.inr.inj z) (by walk_at"k")),xa0 (λz=>absurd (Sum.inr.inj z) (by walk_at"k")),xa0 (λz=>absurd (Sum.inr.inj z) (by walk_at"k")),xa0 (λz=>absurd (Sum.inr.inj z) (by walk_at"k"))];rfl
theorem xn7(A:NwA)(r m m':Int):putK (nowK A r m) (Sum.inr (Str.ofString "count")) (.int m')=nowK A r m':=by
 have g:∀{j k:Str},j≠k->(Sum.inr j:Key)≠Sum.inr k:=λn z=>n (Sum.inr.inj z);have v1:∀u:V,(valV [((Sum.inr (Str.ofString "count"):Key),u)] (Sum.inr (Str.ofString "count")))=some u:=λu=>xbp rfl;have sk:∀{j:Str} {u:V} {r:List (Key×V)},j≠Str.ofString "count"->(valV r (Sum.inr (Str.ofString "count"))).isSome=true->(valV ((Sum.inr j,u)::r) (Sum.inr (Str.ofString "count"))).isSome=true:=λn h=>by rw[xa0 (g n)];exact h
 have h1:=sk (j:=Str.ofString "left") (u:=.ref A.ld) (by walk_at"k") (show(valV [((Sum.inr (Str.ofString "count"):Key),V.int m)] (Sum.inr (Str.ofString "count"))).isSome=true by rw[v1];rfl);have h2:=sk (j:=Str.ofString "sent") (u:=.ref A.sd) (by walk_at"k") h1;have h3:=sk (j:=Str.ofString "told") (u:=.ref A.tl) (by walk_at"k") h2;have h4:=sk (j:=Str.ofString "boxes") (u:=.ref A.pb) (by walk_at"k") h3;unfold nowK;rw[xeq (g (by walk_at"k")) h4,xeq (g (by walk_at"k")) h3,xeq (g (by walk_at"k")) h2,xeq (g (by walk_at"k")) h1,xeq (g (by walk_at"k")) (by rw[v1];rfl),xlh rfl]
theorem NowAt.put{H:Hp}{A:NwA}{st:LSt}(l:NowAt H A st)(row many:Nat):NowAt (upd H A.nw (.dK (nowK A row many))) A {st with row:=row,many:=many}:=by
 obtain⟨h1,⟨kb,h2,h3⟩,⟨ut,h4,h5⟩,⟨kg,h6,h7⟩,⟨kc,h8,h9⟩,nd⟩:=l;have n1:A.pb≠A.nw:=by intro z;simp[NwA.F,z]at nd
 have n2:A.sd≠A.nw:=by intro z;simp[NwA.F,z]at nd
 have n3:A.ld≠A.nw:=by intro z;simp[NwA.F,z]at nd
 have ne:∀b o,H b=some o->(∀k,o≠.dK k)->upd H A.nw (.dK (nowK A row many)) b=some o:=λb o e n=>by
  rw[xad λz=>by rw[z,h1]at e;exact n _ (Option.some.inj e).symm];exact e
 have tp:∀b vs,H b=some (.tup vs)->upd H A.nw (.dK (nowK A row many)) b=some (.tup vs):=λb vs e=>ne b _ e λk z=>by cases z
 exact⟨ups,(jEA kb (by rw[xad n1];exact h2) (h3.tups tp)),(jEA ut (ne _ _ h4 (λk z=>by cases z)) (h5.tups tp _)),(jEA kg (by rw[xad n2];exact h6) (h7.keep tp λb _ us e=>ne b _ e λk z=>by cases z)),(jEA kc (by rw[xad n3];exact h8) (h9.keep tp λb _ us e=>ne b _ e λk z=>by cases z)),nd⟩
theorem NowAt.box{H:Hp}{A:NwA}{st:LSt}(l:NowAt H A st){kb:List (Key×V)}(hb:H A.pb=some (.dK kb)){x:Str}{v:V}{d:D}(r:RelD H v d):NowAt (upd H A.pb (.dK (putK kb (Sum.inr x) v))) A {st with bx:=putA st.bx x d}:=by
 obtain⟨h1,⟨kb',h2,h3⟩,⟨ut,h4,h5⟩,⟨kg,h6,h7⟩,⟨kc,h8,h9⟩,nd⟩:=l;rw[hb]at h2;cases h2;have n1:A.nw≠A.pb:=by intro z;simp[NwA.F,z]at nd
 have n2:A.sd≠A.pb:=by intro z;simp[NwA.F,z]at nd
 have n3:A.ld≠A.pb:=by intro z;simp[NwA.F,z]at nd
 have ne:∀b o,H b=some o->(∀k,o≠.dK k)->upd H A.pb (.dK (putK kb (Sum.inr x) v)) b=some o:=λb o e n=>by
  rw[xad λz=>by rw[z,hb]at e;exact n _ (Option.some.inj e).symm];exact e
 have tp:∀b vs,H b=some (.tup vs)->upd H A.pb (.dK (putK kb (Sum.inr x) v)) b=some (.tup vs):=λb vs e=>ne b _ e λk z=>by cases z
 exact⟨by rw[xad n1];exact h1,(jEA _ ups ((h3.tups tp).put (r.tups tp _))),(jEA ut (ne _ _ h4 (λk z=>by cases z)) (h5.tups tp _)),(jEA kg (by rw[xad n2];exact h6) (h7.keep tp λb _ us e=>ne b _ e λk z=>by cases z)),(jEA kc (by rw[xad n3];exact h8) (h9.keep tp λb _ us e=>ne b _ e λk z=>by cases z)),nd⟩
theorem NowAt.tell{H:Hp}{A:NwA}{st:LSt}(l:NowAt H A st){ut:List V}(ht:H A.tl=some (.lst ut)){v:V}{d:D}(r:RelD H v d):NowAt (upd H A.tl (.lst (ut++[v]))) A {st with told:=st.told++[d]}:=by
 obtain⟨h1,⟨kb,h2,h3⟩,⟨ut',h4,h5⟩,⟨kg,h6,h7⟩,⟨kc,h8,h9⟩,nd⟩:=l;rw[ht]at h4;cases h4
 have n1:∀a∈A.Ls++A.Ll,a≠A.tl:=λa ha z=>by
  subst z
  have:A.tl ∉A.Ls++A.Ll:=by
   have nd2:=nd;simp only[NwA.F,List.nodup_cons,List.mem_cons,not_or]at nd2;exact nd2.2.2.1.2.2
  exact this ha
 have ne:∀b o,H b=some o->(∀k,o≠.lst k)->upd H A.tl (.lst (ut++[v])) b=some o:=λb o e n=>by
  rw[xad λz=>by rw[z,ht]at e;exact n _ (Option.some.inj e).symm];exact e
 have tp:∀b vs,H b=some (.tup vs)->upd H A.tl (.lst (ut++[v])) b=some (.tup vs):=λb vs e=>ne b _ e λk z=>by cases z
 exact⟨ne _ _ h1 (λk z=>by cases z),(jEA kb (ne _ _ h2 (λk z=>by cases z)) (h3.tups tp)),(jEA _ ups ((h5.tups tp _).append (xan _ _ rfl (r.tups tp _) rfl))),(jEA kg (ne _ _ h6 (λk z=>by cases z)) (h7.keep tp λb hb us e=>by rw[xad (n1 b (List.mem_append_left _ hb))];exact e)),(jEA kc (ne _ _ h8 (λk z=>by cases z)) (h9.keep tp λb hb us e=>by rw[xad (n1 b (List.mem_append_right _ hb))];exact e)),nd⟩
theorem xiz{A:NwA}(nd:A.F.Nodup):A.Ls.Nodup/\A.Ll.Nodup/\(∀a∈A.Ls,∀b∈A.Ll,a≠b)/\∀a∈A.Ls++A.Ll,a≠A.nw/\a≠A.pb/\a≠A.tl/\a≠A.sd/\a≠A.ld:=by
 simp only[NwA.F,List.nodup_cons,List.mem_cons,not_or]at nd;obtain⟨⟨_,_,_,_,q1⟩,⟨_,_,_,q2⟩,⟨_,_,q3⟩,⟨_,q4⟩,q5,n⟩:=nd;obtain⟨n1,n2,n3⟩:=List.nodup_append.mp n;exact(jAAA n1 n2 (λa ha b hb=>n3 a ha b hb) (λa ha=>(jAAA (λz=>q1 (z ▸ ha)) (λz=>q2 (z ▸ ha)) (λz=>q3 (z ▸ ha)) ⟨λz=>q4 (z ▸ ha),λz=>q5 (z ▸ ha)⟩)))
theorem NowAt.send {H:Hp} {A:NwA} {st:LSt} (l:NowAt H A st) {c:Str} {ds:List D} (hg:getL st.goi c=some ds) :
  ∃kg la us,H A.sd=some (.dK kg)/\valV kg (Sum.inr c)=some (.ref la)/\la∈A.F/\H la=some (.lst us)/\RelDs H us ds/\∀us' f,RelDs (upd H la (.lst us')) us' (f ds)->NowAt (upd H la (.lst us')) A {st with goi:=modL f c st.goi}:=by
 obtain⟨h1,⟨kb,h2,h3⟩,⟨ut,h4,h5⟩,⟨kg,h6,h7⟩,⟨kc,h8,h9⟩,nd⟩:=l;obtain⟨p1,p2,p3,p4⟩:=xiz nd;obtain⟨la,us,g1,g2,g3,g4,g5⟩:=h7.get p1 hg;obtain⟨m1,m2,m3,m4,m5⟩:=p4 la (List.mem_append_left _ g2);refine(xb3 kg la us h6 g1 (by simp[NwA.F,g2]) g3 g4 (λus' f r=>?_));have ch:Chg la us' H (upd H la (.lst us')):=Chg.upd;have tp:=ch.tups g3;exact⟨by rw[xad (Ne.symm m1)];exact h1,(jEA kb (by rw[xad (Ne.symm m2)];exact h2) (h3.tups tp)),(jEA ut (by rw[xad (Ne.symm m3)];exact h4) (h5.tups tp _)),(jEA kg (by rw[xad (Ne.symm m4)];exact h6) (g5 _ us' f ch r)),(jEA kc (by rw[xad (Ne.symm m5)];exact h8) (h9.keep tp λb hb us e=>ch.ne e λz=>p3 la g2 b hb z.symm)),nd⟩
theorem NowAt.take {H:Hp} {A:NwA} {st:LSt} (l:NowAt H A st) {c:Str} {ds:List D} (hg:getL st.com c=some ds) :
  ∃kc la us,H A.ld=some (.dK kc)/\valV kc (Sum.inr c)=some (.ref la)/\la∈A.F/\H la=some (.lst us)/\RelDs H us ds/\∀us' f,RelDs (upd H la (.lst us')) us' (f ds)->NowAt (upd H la (.lst us')) A {st with com:=modL f c st.com}:=by
 obtain⟨h1,⟨kb,h2,h3⟩,⟨ut,h4,h5⟩,⟨kg,h6,h7⟩,⟨kc,h8,h9⟩,nd⟩:=l;obtain⟨p1,p2,p3,p4⟩:=xiz nd;obtain⟨la,us,g1,g2,g3,g4,g5⟩:=h9.get p2 hg;obtain⟨m1,m2,m3,m4,m5⟩:=p4 la (List.mem_append_right _ g2);refine(xb3 kc la us h8 g1 (by simp[NwA.F,g2]) g3 g4 (λus' f r=>?_));have ch:Chg la us' H (upd H la (.lst us')):=Chg.upd;have tp:=ch.tups g3;exact⟨by rw[xad (Ne.symm m1)];exact h1,(jEA kb (by rw[xad (Ne.symm m2)];exact h2) (h3.tups tp)),(jEA ut (by rw[xad (Ne.symm m3)];exact h4) (h5.tups tp _)),(jEA kg (by rw[xad (Ne.symm m4)];exact h6) (h7.keep tp λb hb us e=>ch.ne e λz=>p3 b hb la g2 z)),(jEA kc (by rw[xad (Ne.symm m5)];exact h8) (g5 _ us' f ch r)),nd⟩
def Frm(A:NwA)(H H':Hp):Prop:=∀b o,H b=some o->b ∉A.F->H' b=some o
theorem Frm.same{A:NwA}{H c a:Hp}(f:Frm A H c)(s:Same c a):Frm A H a:=λb o e n=>s _ _ (f b o e n)
theorem Frm.of{A:NwA}{H a:Hp}(s:Same H a):Frm A H a:=λb o e _=>s _ _ e
theorem Frm.upd{A:NwA}{H c:Hp}(f:Frm A H c){a:Addr}{u:HO}(h:a∈A.F):Frm A H (upd c a u):=λb o e n=>by
 rw[xad λz=>n (by rw[z];exact h)];exact f b o e n
theorem Frm.tups{A:NwA}{H c:Hp}{st:LSt}(f:Frm A H c)(l:NowAt H A st):∀b vs,H b=some (.tup vs)->c b=some (.tup vs):=λb vs e=>f b _ e λz=>by
 obtain⟨o,a,n⟩:=l.there b z;rw[e]at a;exact n vs (Option.some.inj a).symm
def xnb:Sp:=λvs H Q _=>∃(kv rv:V) (A:NwA) (st:LSt) (mk:Mak) (hd:Hand) (r:Row),vs=[kv,rv,.ref A.nw]/\RelD H kv (xdf mk.kinds)/\RelD H rv r.d/\MakOk mk/\hd∈mk.hands/\LOk mk hd st/\hd.rows[st.row]?=some r/\NowAt H A st/\st.many<=900 ∧
 (r.shut st.com=true->∀H',Same H H'->Q (.bl false) H')/\(r.shut st.com=false->∀H',Frm A H H'->NowAt H' A (st.next mk.kinds r)->Q (.bl true) H')
theorem xpw(T:Tx K mg)(I:DefIs P w K mg base n "worth" qae (xc3 (λks=>Ev ks 21) 6)):DefIs P w K mg base (n+1) "_law_done" qa2 xnb:=by
 refine DefIs.of T.kU xpk (by walk_at"l") (λf c4 A outer s H vs Q E hr h=>?_);obtain⟨kv,rv,A,st,mk,hd,r,rfl,bl,bf,ar,bm,a2,b5,l0,bh,qf,qt⟩:=h;have hu:=xfe hr;have b6:=ar.hok hd bm;have a6:=b6.ok r (zMG b5);have ba:=a2.bxlen b6;obtain⟨a,us,rfl,ha,a8⟩:=xig bf;have h0:atI (V.str r.hd::us) 0=some (.str r.hd):=xa2 (j:=0) rfl
 have G:∀{H':Hp} {d:Addr} {kvs:List (Key×V)} {x:Str} {v:V},H' d=some (.dK kvs)->valV kvs (Sum.inr x)=some v->DGet H' d (.str x) (some v):=λ{H' d kvs x v} e h=>by
  have:=DGet.rd (k:=Sum.inr x) (.inl e);rw[h]at this;exact this
 have am:∀{r m:Int},(nowK A r m).length<sizeLine:=Nat.lt_of_le_of_lt (Nat.le_refl 6) (by decide);have mn:A.nw∈A.F:=by simp[NwA.F]
 refine⟨_,(zpn (xa4 (PW.pt (xgj (pR xa6 (px K (pv 1) pI) pS (nM _)) (xgq (PW.pt (xcj (pR xa6 (px K (pv 1) pI) pS (nM _)) (xb0 (pR (xt6 (Nat.lt_of_succ_lt hu)) (xbf hu (xbf hu (pv 2) pS (λ_ _=>rfl)) (px K (pv 1) pI) (λ_ _=>rfl)) (xb2 pN) (nM _)))))))) (zpo (xai xil)) pQ)
   (zpn (xdb hu (pv 2) pS (xam xbd (xbf hu (pv 2) pS (λ_ _=>rfl)) pI) rfl)
   (zpn (xdb hu (pv 2) pS (xam xbd (xbf hu (pv 2) pS (λ_ _=>rfl)) pI) rfl)
   (zpn (xa4 (pR xa6 (px K (pv 1) pI) pS (nM _)) (zpo (xdb hu (pv 2) pS (px K (pv 1) pI) rfl)) pQ)
   (zpn (xa4 (PW.pt (xcj (pR xa6 (px K (pv 1) pI) pS (nM _)) (xb0 (pR xsc (pd I hr (va 0 (zpc (px K (pv 1) pI) (zpc (xao xcr rfl T.k0 PyProof.Rows.boot_dict (zpc (xbf hu (pv 2) pS (λ_ _=>rfl)) pN ss)) pN zsc) ss))) pI (nM _))))) (zpo (xdb hu (pv 2) pS (px K (pv 1) pI) rfl)) pQ)
   (zpn (xa4 (pR xa6 (px K (pv 1) pI) pS (nM _)) (zpo (xdb hu (xbf hu (pv 2) pS (λ_ _=>rfl)) (px K (pv 1) pI) (xc4 PySem.F.plainAttrs_list PySem.F.slot_list_pop PySem.F.type_list_pop xfl (xbf hu (xbf hu (pv 2) pS (λ_ _=>rfl)) (px K (pv 1) pI) (λ_ _=>rfl)) (zpc pI pN so)) rfl)) pQ)
   (zpn (xa4 (pR xa6 (px K (pv 1) pI) pS (nM _)) (zpo (xdb hu (xbf hu (pv 2) pS (λ_ _=>rfl)) (px K (pv 1) pI) (pd I hr (va 0 (zpc (px K (pv 1) pI) (zpc (xao xcr rfl T.k0 PyProof.Rows.boot_dict (zpc (xbf hu (pv 2) pS (λ_ _=>rfl)) pN ss)) pN zsc) ss))) rfl)) pQ)
   (zpn (xa4 (pR xa6 (px K (pv 1) pI) pS (nM _)) (zpo (xbl (xc4 PySem.F.plainAttrs_list PySem.F.slot_list_append PySem.F.type_list_append xbj (xbf hu (xbf hu (pv 2) pS (λ_ _=>rfl)) (px K (pv 1) pI) (λ_ _=>rfl)) (zpc (pd I hr (va 0 (zpc (px K (pv 1) pI) (zpc (xao xcr rfl T.k0 PyProof.Rows.boot_dict (zpc (xbf hu (pv 2) pS (λ_ _=>rfl)) pN ss)) pN zsc) ss))) pN zsc)))) pQ)
   (zpn (xa4 (pR xa6 (px K (pv 1) pI) pS (nM _)) (zpo (xbl (xc4 PySem.F.plainAttrs_list PySem.F.slot_list_append PySem.F.type_list_append xbj (xbf hu (pv 2) pS (λ_ _=>rfl)) (zpc (pd I hr (va 0 (zpc (px K (pv 1) pI) (zpc (xao xcr rfl T.k0 PyProof.Rows.boot_dict (zpc (xbf hu (pv 2) pS (λ_ _=>rfl)) pN ss)) pN zsc) ss))) pN zsc)))) pQ)
   (zpo (xai xil))))))))))),xab λR1 bq=>?_⟩
 have K1:r.shut st.com=false->∀H1,Same H H1->R1 [some kv,some (.ref a),some (.ref A.nw)] H1:=by
  intro av H1 s1;have l1:=l0.same s1;refine bq _ _ (xab λR2 bp=>?_);refine(xbu _ rfl A.nw _ rfl (G l1.nw (xra _ _ _)) _ _ rfl rfl (xax _ rfl A.nw _ rfl (.inl (xbh _ (Sum.inr (Str.ofString "count")) l1.nw rfl am rfl)) (bp _ _ (xab λR3 bo=>?_))));rw[xn7];have l2:NowAt (upd H1 A.nw (.dK (nowK A st.row ((st.many:Int)+1)))) A {st with many:=st.many+1}:=l1.put st.row (st.many+1);have f2:Frm A H (upd H1 A.nw (.dK (nowK A st.row ((st.many:Int)+1)))):=(Frm.of s1).upd mn;generalize upd H1 A.nw (.dK (nowK A st.row ((st.many:Int)+1)))=H2 at l2 f2⊢;refine(xbu _ rfl A.nw _ rfl (G l2.nw (xn8 _ _ _)) _ _ rfl rfl (xax _ rfl A.nw _ rfl (.inl (xbh _ (Sum.inr (Str.ofString "at")) l2.nw rfl am rfl)) (bo _ _ (xab λR4 ac=>?_))));rw[xf1];have l3:NowAt (upd H2 A.nw (.dK (nowK A ((st.row:Int)+1) ((st.many+1:Nat):Int)))) A {st with row:=st.row+1,many:=st.many+1}:=l2.put (st.row+1) (st.many+1);have f3:Frm A H (upd H2 A.nw (.dK (nowK A ((st.row:Int)+1) ((st.many+1:Nat):Int)))):=f2.upd mn;generalize upd H2 A.nw (.dK (nowK A ((st.row:Int)+1) ((st.many+1:Nat):Int)))=H3 at l3 f3⊢;have bb:=f3.tups l0;have o:SqT K H3 a (.str r.hd::us):=SqT.of (bb _ _ ha);have wk:∀{H':Hp} {t:D} {kk:Str} {u:V},Frm A H H'->TmOk mk.kinds 21 hd.boxes t kk->RelD H u t->KsAt H' kv mk.kinds/\RelD H' u t/\Ev mk.kinds 21 (enOf st.bx) t (wv mk.kinds st.bx t):=λ{H' t kk u} f' tok be=>(jAA (ar.wf.ksAt (bl.tups (f'.tups l0) _)) (be.tups (f'.tups l0) _) ((xhv tok a2.fit).1))
  have a7:=qt av;obtain⟨kb,ah,ai⟩:=l3.bx
  cases r with
  |fin=>cases av
  |go g=>
   obtain⟨_,_,rfl,rfl,rfl⟩:=a8;refine(xaa _ rfl a _ _ _ rfl rfl o h0 (jAEA rfl _ rfl (iteKT (hdT rfl) ?_)));refine(xaa _ rfl a _ _ _ rfl rfl o rfl (xax _ rfl A.nw _ rfl (.inl (xbh _ (Sum.inr (Str.ofString "at")) l3.nw rfl am rfl)) (ac _ _ (xab λR5 Z=>?_))));rw[xf1];have l4:=l3.put g (st.many+1);have f4:Frm A H (upd H3 A.nw (.dK (nowK A (g:Int) ((st.many+1:Nat):Int)))):=f3.upd mn;have C:SqT K (upd H3 A.nw (.dK (nowK A (g:Int) ((st.many+1:Nat):Int)))) a _:=SqT.of (f4.tups l0 _ _ ha);refine(xaa _ rfl a _ _ _ rfl rfl C h0 (jAEA rfl _ rfl (iteKF (hdF (xjh (by intro _ _ e;cases e))) (iteF (Z _ _ (xab λR6 Y=>?_))))));refine(xaa _ rfl a _ _ _ rfl rfl C h0 (jAEA rfl _ rfl (iteKF (hdF (xcv (by intro _ _ _ e;cases e))) (Y _ _ (xab λR7 U=>?_)))));refine(xaa _ rfl a _ _ _ rfl rfl C h0 (jAEA rfl _ rfl (iteKF (hdF (xe6 (by intro _ _ e;cases e))) (U _ _ (xab λR8 O=>?_)))));refine(xaa _ rfl a _ _ _ rfl rfl C h0 (jAEA rfl _ rfl (iteKF (hdF (xdz (by intro _ _ e;cases e))) (O _ _ (xab λR9 M=>?_)))));refine(xaa _ rfl a _ _ _ rfl rfl C h0 (jAEA rfl _ rfl (iteKF (hdF (xep (by intro _ e;cases e))) (M _ _ ?_))));exact a7 _ f4 l4
  | cond t g=>
   obtain⟨tv,_,rfl,a9,_,_,rfl,rfl,rfl⟩:=a8;obtain⟨c3,vk⟩:=xhv a6.1 a2.fit;obtain⟨i,hi,ei⟩:=xfr ar.wf rfl vk;refine(xaa _ rfl a _ _ _ rfl rfl o h0 (jAEA rfl _ rfl (iteKF (hdF (xji (by intro _ e;cases e))) (ac _ _ (xab λR5 Z=>?_)))));refine(xaa _ rfl a _ _ _ rfl rfl o h0 (jAEA rfl _ rfl (iteKT (hdT rfl) ?_)));refine(xap _ rfl _ rfl a _ _ (xbr _ rfl rfl o rfl _ rfl (xan A.nw _ rfl (G l3.nw (xf2 _ _ _)) (xan A.pb kb rfl ah (λp hp=>?_)))));have sp:=Same.new hp (.dK kb);obtain⟨w1,w2,w3⟩:=wk (f3.same sp) a6.1 a9;refine(xau _ _ p mk.kinds t (xa8 (enOf st.bx) _ rfl w1 w2 (KvD.en ups (ai.tups (Same.tups sp)) (by omega)) w3 (λu H4 s4 a3=>?_)));rw[ei]at a3;obtain rfl:u=.int i:=a3;have f4:=(f3.same sp).same s4;have l4:=(l3.same sp).same s4;have C:SqT K H4 a _:=SqT.of (f4.tups l0 _ _ ha);refine(jAEA rfl _ rfl (ite2 (λc1=>?_) (λc1=>?_)))
   ·have bg:¬wv mk.kinds st.bx t=.int 0:=λz=>by
     rw[ei]at z;cases z;exact absurd c1 (by decide)
    refine(xaa _ rfl a _ _ _ rfl rfl C rfl (xax _ rfl A.nw _ rfl (.inl (xbh _ (Sum.inr (Str.ofString "at")) l4.nw rfl am rfl)) (Z _ _ (xab λR6 Y=>?_))));rw[xf1];have l5:=l4.put g (st.many+1);have f5:Frm A H (upd H4 A.nw (.dK (nowK A (g:Int) ((st.many+1:Nat):Int)))):=f4.upd mn;have J:SqT K (upd H4 A.nw (.dK (nowK A (g:Int) ((st.many+1:Nat):Int)))) a _:=SqT.of (f5.tups l0 _ _ ha);refine(xaa _ rfl a _ _ _ rfl rfl J h0 (jAEA rfl _ rfl (iteKF (hdF (xcv (by intro _ _ _ e;cases e))) (Y _ _ (xab λR7 U=>?_)))));refine(xaa _ rfl a _ _ _ rfl rfl J h0 (jAEA rfl _ rfl (iteKF (hdF (xe6 (by intro _ _ e;cases e))) (U _ _ (xab λR8 O=>?_)))));refine(xaa _ rfl a _ _ _ rfl rfl J h0 (jAEA rfl _ rfl (iteKF (hdF (xdz (by intro _ _ e;cases e))) (O _ _ (xab λR9 M=>?_)))));refine(xaa _ rfl a _ _ _ rfl rfl J h0 (jAEA rfl _ rfl (iteKF (hdF (xep (by intro _ e;cases e))) (M _ _ ?_))));refine a7 _ f5 ?_
    have e:st.next mk.kinds (.cond t g)={st with row:=g,many:=st.many+1}:=by
     have e1:xcn mk.kinds st.bx st.row (.cond t g)=g:=if_neg bg;show(⟨xcn mk.kinds st.bx st.row (.cond t g),st.bx,st.com,st.goi,st.told,st.many+1⟩:LSt)=_;rw[e1]
    rw[e];exact l5
   ·refine Z _ _ (xab λR6 Y=>?_)
    have hz:wv mk.kinds st.bx t=.int 0:=by
     rw[ei];by_cases hz:i=0
     ·rw[hz]
     ·exact absurd (by simp[hz]) c1
    refine(xaa _ rfl a _ _ _ rfl rfl C h0 (jAEA rfl _ rfl (iteKF (hdF (xcv (by intro _ _ _ e;cases e))) (Y _ _ (xab λR7 U=>?_)))));refine(xaa _ rfl a _ _ _ rfl rfl C h0 (jAEA rfl _ rfl (iteKF (hdF (xe6 (by intro _ _ e;cases e))) (U _ _ (xab λR8 O=>?_)))));refine(xaa _ rfl a _ _ _ rfl rfl C h0 (jAEA rfl _ rfl (iteKF (hdF (xdz (by intro _ _ e;cases e))) (O _ _ (xab λR9 M=>?_)))));refine(xaa _ rfl a _ _ _ rfl rfl C h0 (jAEA rfl _ rfl (iteKF (hdF (xep (by intro _ e;cases e))) (M _ _ ?_))));refine a7 _ f4 ?_
    have e:st.next mk.kinds (.cond t g)={st with row:=st.row+1,many:=st.many+1}:=by
     have e1:xcn mk.kinds st.bx st.row (.cond t g)=st.row+1:=if_pos hz;show(⟨xcn mk.kinds st.bx st.row (.cond t g),st.bx,st.com,st.goi,st.told,st.many+1⟩:LSt)=_;rw[e1]
    rw[e];exact l4
  | take lm c y=>
   obtain⟨_,_,rfl,rfl,_,_,rfl,rfl,_,_,rfl,rfl,rfl⟩:=a8;obtain⟨al,aj,ak,ax,bu⟩:=a6;obtain⟨ds,a1,_⟩:=xe1 (cs:=st.com) (c:=c) (by rw[a2.com];exact List.mem_map.mpr (jEA al (List.mem_filter.mpr ⟨aj,zDT ax⟩) ak));obtain⟨kc,la,zs,aw,ab,aa,a0,ag,az⟩:=l3.take a1;refine(xaa _ rfl a _ _ _ rfl rfl o h0 (jAEA rfl _ rfl (iteKF (hdF (xji (by intro _ e;cases e))) (ac _ _ (xab λR5 Z=>?_)))));refine(xaa _ rfl a _ _ _ rfl rfl o h0 (jAEA rfl _ rfl (iteKF (hdF (xjh (by intro _ _ e;cases e))) (iteF (Z _ _ (xab λR6 Y=>?_))))));refine(xaa _ rfl a _ _ _ rfl rfl o h0 (jAEA rfl _ rfl (iteKT (hdT rfl) ?_)));have an:((getL st.com c).getD []).isEmpty=false:=av;rw[a1]at an
   cases ds with
   |nil=>cases an
   | cons d ds=>
    obtain⟨lv,af,rfl,bi,b7⟩:=ag;refine(xb4 _ rfl A.nw _ rfl (G l3.nw (xlo _ _ _)) _ rfl a (xaq _ _ _ rfl rfl o rfl (xbh A.ld _ rfl (G aw ab) (.inl (jAE rfl _ (SqL.of a0))) (xaj la _ 0 0 lv rfl rfl a0 (by decide) (by decide) (jAA (by simp[seqIndex?]) rfl ?_)))));have ch:Chg la af H3 (upd H3 la (.lst af)):=Chg.upd;have ae:=ch.tups a0;have l4:=az af List.tail (b7.tups ae _);have f4:Frm A H (upd H3 la (.lst af)):=f3.upd aa;have C:SqT K (upd H3 la (.lst af)) a _:=SqT.of (f4.tups l0 _ _ ha);obtain⟨b0,a4,b8⟩:=l4.bx;refine(xb4 _ rfl A.nw _ rfl (G l4.nw (xf2 _ _ _)) _ rfl a (xaq _ _ _ rfl rfl C rfl (xan A.pb _ rfl (.inl (xbh b0 (Sum.inr y) a4 rfl (Nat.lt_of_le_of_lt (by rw[b8.length];exact ba) (by decide)) rfl)) (Y _ _ (xab λR7 U=>?_)))));have l5:=l4.box a4 (x:=y) (bi.tups ae _);have f5:=f4.upd (a:=A.pb) (u:=.dK (putK b0 (Sum.inr y) lv)) (by simp[NwA.F]);have J:=SqT.of (K:=K) (f5.tups l0 _ _ ha);refine(xaa _ rfl a _ _ _ rfl rfl J h0 (jAEA rfl _ rfl (iteKF (hdF (xe6 (by intro _ _ e;cases e))) (U _ _ (xab λR8 O=>?_)))));refine(xaa _ rfl a _ _ _ rfl rfl J h0 (jAEA rfl _ rfl (iteKF (hdF (xdz (by intro _ _ e;cases e))) (O _ _ (xab λR9 M=>?_)))));refine(xaa _ rfl a _ _ _ rfl rfl J h0 (jAEA rfl _ rfl (iteKF (hdF (xep (by intro _ e;cases e))) (M _ _ ?_))));refine a7 _ f5 ?_
    have e:(Row.take lm c y).letter st.com=d:=by
     show((getL st.com c).getD []).headD (.int 0)=d;rw[a1];rfl
    have e2:st.next mk.kinds (.take lm c y)=⟨st.row+1,putA st.bx y d,modL List.tail c st.com,st.goi,st.told,st.many+1⟩:=by
     show(⟨st.row+1,putA st.bx y ((Row.take lm c y).letter st.com),modL List.tail c st.com,st.goi,st.told,st.many+1⟩:LSt)=_;rw[e]
    rw[e2];exact l5
  |set y t=>
   obtain⟨_,_,rfl,rfl,tv,_,rfl,a9,rfl⟩:=a8;obtain⟨kk,_,tok⟩:=a6;refine(xaa _ rfl a _ _ _ rfl rfl o h0 (jAEA rfl _ rfl (iteKF (hdF (xji (by intro _ e;cases e))) (ac _ _ (xab λR5 Z=>?_)))));refine(xaa _ rfl a _ _ _ rfl rfl o h0 (jAEA rfl _ rfl (iteKF (hdF (xjh (by intro _ _ e;cases e))) (iteF (Z _ _ (xab λR6 Y=>?_))))));refine(xaa _ rfl a _ _ _ rfl rfl o h0 (jAEA rfl _ rfl (iteKF (hdF (xcv (by intro _ _ _ e;cases e))) (Y _ _ (xab λR7 U=>?_)))));refine(xaa _ rfl a _ _ _ rfl rfl o h0 (jAEA rfl _ rfl (iteKT (hdT rfl) ?_)));refine(xap _ rfl _ rfl a _ _ (xbr _ rfl rfl o rfl _ rfl (xan A.nw _ rfl (G l3.nw (xf2 _ _ _)) (xan A.pb kb rfl ah (λp hp=>?_)))));have sp:=Same.new hp (.dK kb);obtain⟨w1,w2,w3⟩:=wk (f3.same sp) tok a9;refine(xau _ _ p mk.kinds t (xa8 (enOf st.bx) _ rfl w1 w2 (KvD.en ups (ai.tups (Same.tups sp)) (by omega)) w3 (λu H4 s4 a3=>?_)));have f4:=(f3.same sp).same s4;have l4:=(l3.same sp).same s4;have C:SqT K H4 a _:=SqT.of (f4.tups l0 _ _ ha);have a4:=s4 _ _ (sp _ _ ah);refine(xb4 _ rfl A.nw _ rfl (G l4.nw (xf2 _ _ _)) _ rfl a (xaq _ _ _ rfl rfl C rfl (xan A.pb _ rfl (.inl (xbh kb (Sum.inr y) a4 rfl (Nat.lt_of_le_of_lt (by rw[ai.length];exact ba) (by decide)) rfl)) (U _ _ (xab λR8 O=>?_)))));have l5:=l4.box a4 (x:=y) a3;have f5:Frm A H (upd H4 A.pb (.dK (putK kb (Sum.inr y) u))):=f4.upd (by simp[NwA.F]);have J:SqT K (upd H4 A.pb (.dK (putK kb (Sum.inr y) u))) a _:=SqT.of (f5.tups l0 _ _ ha)
   refine(xaa _ rfl a _ _ _ rfl rfl J h0 (jAEA rfl _ rfl (iteKF (hdF (xdz (by intro _ _ e;cases e))) (O _ _ (xab λR9 M=>?_)))));refine(xaa _ rfl a _ _ _ rfl rfl J h0 (jAEA rfl _ rfl (iteKF (hdF (xep (by intro _ e;cases e))) (M _ _ ?_))));exact a7 _ f5 l5
  |send c t=>
   obtain⟨_,_,rfl,rfl,tv,_,rfl,a9,rfl⟩:=a8;obtain⟨al,aj,ak,br,tok⟩:=a6;obtain⟨ds,a1,bn⟩:=xe1 (cs:=st.goi) (c:=c) (by rw[a2.goi];exact List.mem_map.mpr (jEA al (List.mem_filter.mpr ⟨aj,zDT br⟩) ak));obtain⟨kg,la,zs,b4,ab,aa,a0,ag,az⟩:=l3.send a1;have b9:=(a2.gok _ bn).1;have c0:=ag.length;refine(xaa _ rfl a _ _ _ rfl rfl o h0 (jAEA rfl _ rfl (iteKF (hdF (xji (by intro _ e;cases e))) (ac _ _ (xab λR5 Z=>?_)))));refine(xaa _ rfl a _ _ _ rfl rfl o h0 (jAEA rfl _ rfl (iteKF (hdF (xjh (by intro _ _ e;cases e))) (iteF (Z _ _ (xab λR6 Y=>?_))))));refine(xaa _ rfl a _ _ _ rfl rfl o h0 (jAEA rfl _ rfl (iteKF (hdF (xcv (by intro _ _ _ e;cases e))) (Y _ _ (xab λR7 U=>?_)))));refine(xaa _ rfl a _ _ _ rfl rfl o h0 (jAEA rfl _ rfl (iteKF (hdF (xe6 (by intro _ _ e;cases e))) (U _ _ (xab λR8 O=>?_)))));refine(xaa _ rfl a _ _ _ rfl rfl o h0 (jAEA rfl _ rfl (iteKT (hdT rfl) ?_)));refine(xb4 _ rfl A.nw _ rfl (G l3.nw (xn6 _ _ _)) _ rfl a (xaq _ _ _ rfl rfl o rfl (xbh A.sd _ rfl (G b4 ab) (.inl (jAE rfl _ (SqL.of a0))) ?_)));refine(xap _ rfl _ rfl a _ _ (xbr _ rfl rfl o rfl _ rfl (xan A.nw _ rfl (G l3.nw (xf2 _ _ _)) (xan A.pb kb rfl ah (λp hp=>?_)))));have sp:=Same.new hp (.dK kb);obtain⟨w1,w2,w3⟩:=wk (f3.same sp) tok a9;refine(xau _ _ p mk.kinds t (xa8 (enOf st.bx) _ rfl w1 w2 (KvD.en ups (ai.tups (Same.tups sp)) (by omega)) w3 (λu H4 s4 a3=>?_)));have f4:=(f3.same sp).same s4;have l4:=(l3.same sp).same s4;have a5:=sp.trans s4
   obtain⟨bz,bw,bv,ao,b2,bj,aq,b1,ay⟩:=l4.send a1;rw[a5 _ _ b4]at ao;cases ao;rw[ab]at b2;cases b2;rw[a5 _ _ a0]at aq;cases aq;have bt:ds.length<=st.many:=b9;refine(xaq la zs u rfl rfl (a5 _ _ a0) (Nat.lt_of_le_of_lt (show zs.length<=900 by omega) (by decide)) (O _ _ (xab λR9 M=>?_)));have ch:Chg la (zs++[u]) H4 (upd H4 la (.lst (zs++[u]))):=Chg.upd;have ae:=ch.tups (a5 _ _ a0);have l5:=ay (zs++[u]) (λl=>l++[wv mk.kinds st.bx t]) ((b1.tups ae _).append (xan _ _ rfl (a3.tups ae _) rfl));have f5:Frm A H (upd H4 la (.lst (zs++[u]))):=f4.upd aa;have J:=SqT.of (K:=K) (f5.tups l0 _ _ ha);refine(xaa _ rfl a _ _ _ rfl rfl J h0 (jAEA rfl _ rfl (iteKF (hdF (xep (by intro _ e;cases e))) (M _ _ ?_))));exact a7 _ f5 l5
  |tell t=>
   obtain⟨tv,_,rfl,a9,rfl⟩:=a8;have tok:=a6;obtain⟨ut,au,bd⟩:=l3.tel;have c2:=a2.tok.1;have b3:=bd.length;have bc:ut.length=st.told.length:=b3;refine(xaa _ rfl a _ _ _ rfl rfl o h0 (jAEA rfl _ rfl (iteKF (hdF (xji (by intro _ e;cases e))) (ac _ _ (xab λR5 Z=>?_)))));refine(xaa _ rfl a _ _ _ rfl rfl o h0 (jAEA rfl _ rfl (iteKF (hdF (xjh (by intro _ _ e;cases e))) (iteF (Z _ _ (xab λR6 Y=>?_))))));refine(xaa _ rfl a _ _ _ rfl rfl o h0 (jAEA rfl _ rfl (iteKF (hdF (xcv (by intro _ _ _ e;cases e))) (Y _ _ (xab λR7 U=>?_)))));refine(xaa _ rfl a _ _ _ rfl rfl o h0 (jAEA rfl _ rfl (iteKF (hdF (xe6 (by intro _ _ e;cases e))) (U _ _ (xab λR8 O=>?_)))));refine(xaa _ rfl a _ _ _ rfl rfl o h0 (jAEA rfl _ rfl (iteKF (hdF (xdz (by intro _ _ e;cases e))) (O _ _ (xab λR9 M=>?_)))));refine(xaa _ rfl a _ _ _ rfl rfl o h0 (jAEA rfl _ rfl (iteKT (hdT rfl) ?_)));refine(xax _ rfl A.nw _ rfl (G l3.nw (xq9 _ _ _)) ⟨.inl (jAE rfl _ (SqL.of au)),?_⟩);refine(xap _ rfl _ rfl a _ _ (xbr _ rfl rfl o rfl _ rfl (xan A.nw _ rfl (G l3.nw (xf2 _ _ _)) (xan A.pb kb rfl ah (λp hp=>?_)))));have sp:=Same.new hp (.dK kb);obtain⟨w1,w2,w3⟩:=wk (f3.same sp) tok a9;refine(xau _ _ p mk.kinds t (xa8 (enOf st.bx) _ rfl w1 w2 (KvD.en ups (ai.tups (Same.tups sp)) (by omega)) w3 (λu H4 s4 a3=>?_)));have f4:=(f3.same sp).same s4;have l4:=(l3.same sp).same s4;have a5:=sp.trans s4
   refine(xaq A.tl ut u rfl rfl (a5 _ _ au) (Nat.lt_of_le_of_lt (show ut.length<=900 by omega) (by decide)) (M _ _ ?_));exact a7 _ (f4.upd (by simp[NwA.F])) (l4.tell (a5 _ _ au) a3)
 have hh:SqT K H a (.str r.hd::us):=SqT.of ha
 cases r with
 |fin=>exact(xaa _ rfl a _ _ _ rfl rfl hh h0 (jAEA rfl _ rfl (iteKT (hdT rfl) (iteT (qf rfl H (Same.refl _))))))
 | take lm c y=>
  obtain⟨_,_,rfl,rfl,_,_,rfl,rfl,_,_,rfl,rfl,rfl⟩:=a8;obtain⟨al,aj,ak,ax,_⟩:=a6;obtain⟨ds,a1,_⟩:=xe1 (cs:=st.com) (c:=c) (by rw[a2.com];exact List.mem_map.mpr (jEA al (List.mem_filter.mpr ⟨aj,zDT ax⟩) ak));obtain⟨kc,la,zs,aw,ab,aa,a0,ag,_⟩:=l0.take a1;refine(xaa _ rfl a _ _ _ rfl rfl hh h0 (jAEA rfl _ rfl (iteKF (hdF (xjj (by intro e;cases e))) ?_)));refine(xaa _ rfl a _ _ _ rfl rfl hh h0 (jAEA rfl _ rfl (iteKT (hdT rfl) ?_)));refine(xb4 _ rfl A.nw _ rfl (G l0.nw (xlo _ _ _)) _ rfl a (xaq _ _ _ rfl rfl hh rfl (xbh A.ld _ rfl (G aw ab) (by walk_at"s") (λe he=>(xaq la e zs rfl rfl (SqL.of (Same.new he _ _ _ a0)) (SqL.of ups) (jEA _ rfl ?_))))));have se:=Same.new he (.lst [])
  have hb:Row.shut st.com (.take lm c y)=zs.isEmpty:=by
   show((getL st.com c).getD []).isEmpty=zs.isEmpty;rw[a1];have:=ag.length;show ds.isEmpty=zs.isEmpty;cases ds <;> cases zs <;> first |rfl |cases this
  cases hz:zs.isEmpty with
  |true=>exact iteT (qf (hb.trans hz) _ se)
  |false=>exact iteF (K1 (hb.trans hz) _ se)
 |_=>
  refine(xaa _ rfl a _ _ _ rfl rfl hh h0 (jAEA rfl _ rfl (iteKF (hdF (xjj (by intro e;cases e))) ?_)));exact(xaa _ rfl a _ _ _ rfl rfl hh h0 (jAEA rfl _ rfl (iteKF (hdF (xcv (by intro _ _ _ e;cases e))) (iteF (K1 rfl H (Same.refl _))))))
theorem xjm{bx:List (Str×D)}(nd:(bx.map (·.1)).Nodup){b:Str×D}(h:b∈bx):enOf bx b.1=some b.2:=by
 unfold enOf
 cases e:bx.find? λc=>decide (c.1=b.1) with
 |none=>exact absurd (zDT rfl) (List.find?_eq_none.mp e b h)
 |some c=>
  have a:=of_decide_eq_true (List.find?_some (p:=λc:Str×D=>decide (c.1=b.1)) e);rw[xc7 nd (zMF e) h a];rfl
theorem xlw{cs:Lts}(nd:(cs.map (·.1)).Nodup){b:Str×List D}(h:b∈cs):getL cs b.1=some b.2:=by
 unfold getL
 cases e:cs.find? λc=>decide (c.1=b.1) with
 |none=>exact absurd (zDT rfl) (List.find?_eq_none.mp e b h)
 |some c=>
  have a:=of_decide_eq_true (List.find?_some (p:=λc:Str×List D=>decide (c.1=b.1)) e);rw[xc7 nd (zMF e) h a];rfl
theorem xoj{H:Hp}:∀{kvs:List (Key×V)} {bx:List (Str×D)},KvD H kvs bx->∀p∈kvs,∃b∈bx,p.1=Sum.inr b.1/\RelD H p.2 b.2
 |[],[],_=>λp h=>nomatch h
 | j::kvs,b::bx,⟨i,g,f⟩=>λp h=>by
  rcases zMC h with rfl |h
  ·exact(jEAA b (by simp) i g)
  ·obtain⟨c,a,e⟩:=xoj f p h
   exact(jEA c (List.mem_cons_of_mem _ a) e)
 |[],_::_,h=>h.elim
 |_::_,[],h=>h.elim
theorem xqp{H:Hp}{a b:Addr}{g f:List (Key×V)}{bx:List (Str×D)}{n:Nat}(u:H a=some (.dK g))(s:H b=some (.dK f))(j:KvD H g bx)(i:KvD H f bx)(nd:(bx.map (·.1)).Nodup)(dp:∀b∈bx,b.2.deep<=12):EqS H (n+1) (.ref a) (.ref b):=by
 refine .inr (.inr (xav a b g f rfl rfl u s (j.length.trans i.length.symm) (λp o=>?_)));obtain⟨c,h,e,r⟩:=xoj j p o;obtain⟨v,m,l⟩:=i.val.2 _ (xjm nd h);exact(jEA v (by rw[e];exact m) (.inl (jEAA c.2 r l (Nat.le_trans (dp c h) (by decide)))))
theorem xlz{H:Hp}{a b:Addr}{g f:List (Key×V)}{cs:Lts}{I G:List Addr}{n:Nat}(C:H a=some (.dK g))(z:H b=some (.dK f))(r:LsAt H g cs I)(o:LsAt H f cs G)(nd:(cs.map (·.1)).Nodup)(dp:∀p∈cs,∀d∈p.2,d.deep<=12):EqS H (n+1) (.ref a) (.ref b):=by
 refine .inr (.inr (xav a b g f rfl rfl C z (r.lens.1.trans o.lens.1.symm) (λp x=>?_)));obtain⟨i,hi⟩:=List.getElem?_of_mem x;obtain⟨c,u,us,y,rfl,m,j⟩:=r.idx hi;have e:=zMG y;obtain⟨s,zs,w,l,h⟩:=o.val.2 _ (xlw nd e);exact(jEA _ w (.inr (xaj u s us zs c.2 rfl rfl m l j ⟨h,Nat.le_trans (xfo (dp c e)) (by decide)⟩)))
theorem xqg{a:Mak}{h:Str}{hd:Hand}{cs:Lts}(f:MakOk a)(G:xeh a h=some hd)(I:∀p∈cs,xo9 a p):LOk a hd ⟨0,begL a hd,comL a h cs,goiL a h,[],0⟩:=by
 obtain⟨s,m⟩:=xgb G;have i:=f.hok hd s
 have bk:(begL a hd).map (·.1)=hd.boxes.map (·.1):=by
  unfold begL;rw[List.map_map];rfl
 refine⟨i.pos,bk,λp o=>?_,?_,?_,λc x ds w d j=>?_,λp o=>?_,Nat.zero_le _,λ_ h=>nomatch h⟩
 ·have C:(p.1,nuV 7 a.kinds p.2)∈begL a hd:=List.mem_map.mpr (jEA p o rfl)
  exact(jEA _ (xjm (by rw[bk];exact i.nd) C) (xp4 f.wf 6 p.2 (i.kin p o)))
 ·show(comL a h cs).map (·.1)=_
  rw[xjs,m];rfl
 ·show(goiL a h).map (·.1)=_
  rw[xjk,m];rfl
 ·have n:getL (comL a h cs) c.1=some ds:=w
  obtain⟨q,l,e⟩:=zMS n;have g:=of_decide_eq_true (List.find?_some (p:=λq:Str×List D=>decide (q.1=c.1)) l);obtain⟨Z,_,rfl⟩:=zMP (zMF l);have U:Z=c.1:=g;subst U;have r:(getL cs c.1).getD []=ds:=e
  cases u:getL cs c.1 with
  |none=>rw[u]at r;rw[<- r]at j;exact nomatch j
  |some ls=>
   rw[u]at r;have O:ls=ds:=r;subst O;obtain⟨q,l,J⟩:=zMS u;have g:=of_decide_eq_true (List.find?_some (p:=λq:Str×List D=>decide (q.1=c.1)) l);obtain⟨_,Y,y,M,z⟩:=I q (zMF l);have:Y=c:=xc7 f.cnd y x (M.trans g);subst this;exact z d (by rw[J];exact j)
 ·obtain⟨c,_,rfl⟩:=zMP o
  exact⟨Nat.zero_le _,λ_ h=>nomatch h⟩
theorem LOk.deeps{h:Mak}{hd:Hand}{st:LSt}(a:MakOk h)(i:hd∈h.hands)(o:LOk h hd st):(∀b∈st.bx,b.2.deep<=12)/\∀p∈st.com,∀d∈p.2,d.deep<=12:=by
 have f:=a.hok hd i;have u:(st.bx.map (·.1)).Nodup:=by rw[o.keys];exact f.nd
 refine⟨λb n=>?_,λp m d j=>?_⟩
 ·have:b.1∈hd.boxes.map (·.1):=by rw[<- o.keys];exact List.mem_map_of_mem n
  obtain⟨q,l,e⟩:=zMP this;obtain⟨v,r,x⟩:=o.fit q l;rw[e,xjm u n]at r;cases r;exact xfg a.wf (f.kin q l) x
 ·have:p.1∈((h.chans.filter λc=>decide (c.2.2.1=hd.name)).map (·.1)):=by rw[<- o.com];exact List.mem_map_of_mem m
  obtain⟨c,w,e⟩:=zMP this;have g:=(List.mem_filter.mp w).1;have s:(st.com.map (·.1)).Nodup:=by rw[o.com];exact List.Pairwise.sublist (List.Sublist.map _ List.filter_sublist) a.cnd
  have y:c.1=p.1:=e;exact xfg a.wf (a.ckin c g) (o.cok c g p.2 (by rw[y];exact xlw s m) d j)
def xnj(K:Fg):Sp:=λvs H Q _=>∃(x:Addr) (mv:V) (h:Str) (a:LnA) (A:NwA) (st:LSt) (mk:Mak) (hd:Hand) (b:Bool),vs=[.ref x,.ref A.nw,.bl b]/\LnHere K H x mv h a st mk hd/\NowAt H A st/\st.many<=900/\(∀p∈st.com,p.2.length<=8)/\∀H',Same H H'->Q (.bl true) H'
theorem xhq{H:Hp}:∀{kvs:List (Key×V)} {cs:Lts} {L:List Addr},LsAt H kvs cs L->∀v∈kvs.map (·.2),∃c∈L,v=.ref c
 |[],[],[],_=>λv h=>nomatch h
 | i::kvs,p::cs,a::L,⟨e,_,g⟩=>λv h=>by
  subst e;rcases zMC h with z |z
  ·exact(jEA a (by simp) z)
  ·obtain⟨c,f,e⟩:=xhq g v z
   exact(jEA c (List.mem_cons_of_mem _ f) e)
 |[],[],_::_,h=>h.elim
 |[],_::_,_,h=>h.elim
 |_::_,[],_,h=>h.elim
 |_::_,_::_,[],h=>h.elim
def LstB(H:Hp)(L:List Addr)(k:Nat):Prop:=∀la∈L,∃us,H la=some (.lst us)/\us.length<=k
theorem LsAt.b{H:Hp}{k:Nat}:∀{kvs:List (Key×V)} {cs:Lts} {L:List Addr},LsAt H kvs cs L->(∀p∈cs,p.2.length<=k)->LstB H L k
 |[],[],[],_,_=>λv h=>nomatch h
 |m::kvs,p::cs,a::L,⟨e,⟨us,l,j⟩,i⟩,h=>λc g=>by
  rcases zMC g with rfl |z
  ·exact(jEA us l (by rw[j.length];exact h p (by simp)))
  ·exact LsAt.b i (λq f=>h q (List.mem_cons_of_mem _ f)) c z
 |[],[],_::_,h,_=>h.elim
 |[],_::_,_,h,_=>h.elim
 |_::_,[],_,h,_=>h.elim
 |_::_,_::_,[],h,_=>h.elim
theorem LstB.same{H a:Hp}{L:List Addr}{k:Nat}(b:LstB H L k)(s:Same H a):LstB a L k:=λc f=>let ⟨us,e,n⟩:=b c f;(jEA us (s _ _ e) n)
theorem LstB.dic{H:Hp}{L:List Addr}{k:Nat}(b:LstB H L k){p:Addr}{f a:List (Key×V)}(g:H p=some (.dK f)):LstB (upd H p (.dK a)) L k:=λc h=>by
 obtain⟨us,e,n⟩:=b c h;exact(jEA us (by rw[xad λz=>by rw[z,g]at e;cases e];exact e) n)
theorem LstB.lst{H:Hp}{L:List Addr}{k j:Nat}(b:LstB H L k){p:Addr}{a:List V}(h:a.length<=j)(f:k<=j):LstB (upd H p (.lst a)) L j:=λc g=>by
 by_cases z:c=p
 ·exact(jEA a (by rw[z];exact ups) h)
 ·obtain⟨us,e,n⟩:=b c g
  exact(jEA us (by rw[xad z];exact e) (Nat.le_trans n f))
theorem xd5{H a:Hp}(s:Same H a){p:Addr}{o:HO}(c:H p=none):Same H (upd a p o):=λb u e=>by
 rw[xad (neN e c)];exact s _ _ e
theorem xn2(T:Tx K mg)(m:MethIs P w K mg base n (ad K "Lone") "stand" qaa [[]] (xg9 K))(o:MethIs P w K mg base n (ad K "Lone") "told" qaa [[]] (xm9 K))(r:MethIs P w K mg base n (ad K "Lone") "sent" qaa [[]] (xd3 K LSt.goi))(C:MethIs P w K mg base n (ad K "Lone") "left" qaa [[]] (xd3 K LSt.com))(g:MethIs P w K mg base n (ad K "Lone") "count" qaa [[]] (xld K)):DefIs P w K mg base (n+1) "_law_alike" qbd (xnj K):=by
 refine DefIs.of T.kW scl_alike (by walk_at"l") (λf d2 A outer s H vs Q E hr h=>?_);obtain⟨x,mv,h,a,A,st,mk,hd,b,rfl,l,nw,ae,h8,q⟩:=h;have hu:=xfe hr;have ao:=xre hr;have nd:=scl_alike.nd;obtain⟨br,cy⟩:=xgb l.hf;have bh:=l.mok.hok hd br;have bt:(st.bx.map (·.1)).Nodup:=by rw[l.ok.keys];exact bh.nd
 have d1:=l.ok.bxlen bh;have aj:(st.com.map (·.1)).Nodup:=by rw[l.ok.com];exact List.Pairwise.sublist (List.Sublist.map _ List.filter_sublist) l.mok.cnd
 have ag:(st.goi.map (·.1)).Nodup:=by rw[l.ok.goi];exact List.Pairwise.sublist (List.Sublist.map _ List.filter_sublist) l.mok.cnd
 have d0:st.com.length<=6:=by
  have:=congrArg List.length l.ok.com;rw[zLM]at this;rw[this];exact xl5 l.mok.cfew
 have cz:st.goi.length<=6:=by
  have:=congrArg List.length l.ok.goi;rw[zLM]at this;rw[this];exact xl5 l.mok.cfew
 obtain⟨db,dc⟩:=LOk.deeps l.mok br l.ok;have dg:∀p∈st.goi,∀d∈p.2,d.deep<=12:=λp hp=>(l.ok.gok p hp).2;have g8:∀p∈st.goi,p.2.length<=900:=λp hp=>Nat.le_trans (l.ok.gok p hp).1 ae;have dt:=l.ok.tok.2;have cx:st.told.length<=900:=Nat.le_trans l.ok.tok.1 ae;obtain⟨fs,hx,lf⟩:=l.at_.ob
 refine⟨_,(zpn (xa4 (xii (pv 2)) (zpn (xc0 (xb2 (zpc (xcc g T.uD.cl hr (pv 0)) (zpc (xcc C T.uD.cl hr (pv 0)) (zpc (xcc r T.uD.cl hr (pv 0)) (zpc (xcc o T.uD.cl hr (pv 0)) pN zsc) zsc) zsc) zsc)) (xnt (K:=K) rfl rfl (xac (pgn 3 nd) (xac (pgn 4 nd) (xac (pgn 5 nd) (xac (pgn 6 nd) xa7))))))
   (zpo (psn 7 nd (xcc m T.uD.cl hr (pv 0))))) (zpn (xc0 (xb2 (zpc (xcc m T.uD.cl hr (pv 0)) (zpc (xcc o T.uD.cl hr (pv 0)) (zpc (xcc r T.uD.cl hr (pv 0)) (zpc (xcc C T.uD.cl hr (pv 0)) pN zsc) zsc) zsc) zsc)) (xnt (K:=K) rfl rfl (xac (pgn 7 nd) (xac (pgn 6 nd) (xac (pgn 5 nd) (xac (pgn 4 nd) xa7))))))
   (zpo (psn 3 nd (xcc g T.uD.cl hr (pv 0))))))
   (zpn (xa4 (PW.pt (xgj (xnp (xii (xar xds rfl T.k4 PyProof.Rows.boot_isinstance (va 7 (zpc (xli T.uB PyProof.Rows.boot_tuple) pN zsn))))) (xgj (pR (xhj ao) (pv 7) (xay (zpc (xbf hu (pv 1) pS (λ_ _=>rfl)) (zpc (xbf hu (pv 1) pS (λ_ _=>rfl)) pN ss) ss)) (nM _)) (xgq (xii (xar xds rfl T.k4 PyProof.Rows.boot_isinstance (zpc (px K (pv 7) pI) (zpc (xli T.kZ PyProof.Rows.boot_bool) pN zsn) ss))))))) (zpo (xai xil)) pQ)
   (zpn (xa4 (PW.pt (xgj (pR (xhj ao) (pv 6) (xbf hu (pv 1) pS (λ_ _=>rfl)) (nM _)) (xgj (pR (xhj ao) (pv 5) (xbf hu (pv 1) pS (λ_ _=>rfl)) (nM _)) (xgj (pR (xhj ao) (pv 4) (xbf hu (pv 1) pS (λ_ _=>rfl)) (nM _)) (xgq (pR xsc (pv 3) (xbf hu (pv 1) pS (λ_ _=>rfl)) (nM _))))))) (zpo (xai xil)) pQ)
   (zpn (xbl (xdy (px K (pv 7) pI)))
   (zpn (xbl (xc4 PySem.F.plainAttrs_list PySem.F.slot_list_append PySem.F.type_list_append xbj (pv 6) (zpc pI pN so)))
   (zpn (xcm PassesOwn.never rfl (xcf (K:=K) rfl (xam xgr (xfy rfl rfl T.k6 (pv 5)) (xfy rfl rfl T.k6 (pv 4)))) (pgn 8 nd)
   (zpo (xbl (xc4 PySem.F.plainAttrs_list PySem.F.slot_list_append PySem.F.type_list_append xbj (pv 8) (zpc pI pN so)))))
   (zpn (xbl (xdy (pv 5)))
   (zpn (xbl (xdy (pv 4)))
   (zpo (xai (xt2 (xar xds rfl T.k4 PyProof.Rows.boot_isinstance (zpc (xcc g T.uD.cl hr (pv 0)) (zpc (xli T.kZ PyProof.Rows.boot_bool) pN zsn) zsc))))))))))))),xab λR1 ck=>?_⟩
 have K1:∀(sa p lt j dl:Addr) (ut:List V) (J M:List (Key×V)) (Lg Lc:List Addr) (H1:Hp),Same H H1->H p=none->H lt=none->H j=none->H dl=none->(∀b∈Lg,H b=none)->(∀b∈Lc,H b=none)->p≠j->p≠dl->j≠dl->StAt H1 sa p st.row st.bx->H1 lt=some (.lst ut)->RelDs H1 ut st.told->H1 j=some (.dK J)->LsAt H1 J st.goi Lg->H1 dl=some (.dK M)->LsAt H1 M st.com Lc->
   R1 [some (.ref x),some (.ref A.nw),some (.bl b),some (.int st.many),some (.ref dl),some (.ref j),some (.ref lt),some (.ref sa),none] H1:=by
  intro sa p lt j dl ut J M Lg Lc H1 s1 hp af G a6 ak al n1 n2 n3 ca bp a9 a0 U a2 Y;have a4:=nw.same s1
  have aa:∀{H':Hp} {d:Addr} {kvs:List (Key×V)} {y:Str} {v:V},H' d=some (.dK kvs)->valV kvs (Sum.inr y)=some v->DGet H' d (.str y) (some v):=λ{H' d kvs y v} e h=>by
   have:=DGet.rd (k:=Sum.inr y) (.inl e);rw[h]at this;exact this
  obtain⟨aq,kb,bf,cc⟩:=ca;obtain⟨cu,bg,bq⟩:=a4.bx;obtain⟨c2,aw,bc⟩:=a4.tel;obtain⟨cr,be,bi⟩:=a4.goi;obtain⟨ct,bm,bn⟩:=a4.com;refine ck _ _ (xab λR2 cj=>?_);refine(xa5 _ rfl _ _ _ _ (xbr _ rfl (λu ac=>ac) (TyOf.tup aq) rfl _ rfl (iteF ?_)));refine(xbi _ rfl _ rfl A.nw _ rfl (aa a4.nw (xn8 _ _ _)) _ (jAE rfl A.nw (xbn _ rfl (aa a4.nw (xf2 _ _ _)) (by walk_at"s") (λt ht=>?_))));have c:=Same.new ht (.tup [.int st.row,.ref A.pb])
  have bv:EqS (upd H1 t (.tup [.int st.row,.ref A.pb])) 12 (.ref sa) (.ref t):=by
   refine .inr (.inl (xak sa t _ _ rfl rfl (.inl ⟨c _ _ aq,ups⟩) rfl (λi u z hu hz=>?_)));rcases i with _ |_ |i
   ·cases hu;cases hz
    exact EqS.dat (.inl (jEAA (.int st.row) rfl rfl (by show D.deep (.int _)<=100;unfold D.deep;decide)))
   ·cases hu;cases hz
    exact xqp (c _ _ bf) (c _ _ bg) (cc.tups (Same.tups c)) (bq.tups (Same.tups c)) bt db
   ·cases hu
  refine(jAA bv (jEEA _ _ rfl rfl) (jEA _ rfl (iteF ?_)));have s2:=s1.trans c;have ab:=a4.same c;refine(xaa _ rfl sa _ _ _ rfl rfl (SqT.of (c _ _ aq)) rfl (xce _ _ _ _ _ rfl (λu ac=>ac) (TyOf.int _) rfl (jEA _ rfl (iteF (cj _ _ (xab λR3 ci=>?_))))));have bd:=c _ _ aw;refine(jEA _ rfl (xax _ rfl A.nw _ rfl (aa ab.nw (xq9 _ _ _)) (jAA (EqS.dat (.inr (xaj lt A.tl ut c2 st.told rfl rfl (c _ _ bp) (c _ _ aw) (a9.same c _) ⟨bc.same c _,Nat.le_trans (xfo dt) (by decide)⟩))) (jEEA _ _ rfl rfl) (jEA _ rfl (iteF ?_)))));refine(jEA _ rfl (xax _ rfl A.nw _ rfl (aa ab.nw (xn6 _ _ _)) (jAA (xlz (c _ _ a0) (c _ _ be) (U.same c) (bi.same c) ag dg) (jEEA _ _ rfl rfl) (jEA _ rfl (iteF ?_)))));refine(jEA _ rfl (xax _ rfl A.nw _ rfl (aa ab.nw (xlo _ _ _)) (jAA (xlz (c _ _ a2) (c _ _ bm) (Y.same c) (bn.same c) aj dc) (jEEA _ _ rfl rfl) (jEA _ rfl (iteF ?_)))));refine(jEA _ rfl (xax _ rfl A.nw _ rfl (aa ab.nw (xra _ _ _)) (jAEA rfl _ rfl (ite2 (λc1=>absurd c1 (by simp)) (λ_=>ci _ _ (xab λR4 ch=>?_))))));have a7:=c _ _ bf
  have c0:LstB (upd H1 t (.tup [.int st.row,.ref A.pb])) (Lg++Lc) 900:=λla hl=>by
   rcases zMA hl with hl |hl
   ·exact LsAt.b (U.same c) g8 la hl
   ·obtain⟨us,e,n⟩:=LsAt.b (Y.same c) h8 la hl
    exact(jEA us e (by omega))
  have a5:=c _ _ bp;have b0:=c _ _ a0;have b2:=c _ _ a2;have ax:=c _ _ aq;generalize upd H1 t (.tup [.int st.row,.ref A.pb])=H2 at c s2 ab a7 c0 a5 b0 b2 ax bv bd⊢;refine(xaa _ rfl sa _ _ _ rfl rfl (SqT.of ax) rfl (xan p kb rfl a7 (ch _ _ (xab λR5 cg=>?_))));have c7:lt≠p:=λz=>by rw[z,a7]at a5;cases a5
  have ar:upd H2 p (.dK []) lt=some (.lst ut):=by rw[xad c7];exact a5
  have co:=a9.length;refine(jEAA _ rfl (.inl (jAE rfl _ (SqL.of ar))) (xaq lt ut (.int 4) rfl rfl ar (Nat.lt_of_le_of_lt (show ut.length<=900 by omega) (by decide)) (cg _ _ (xab λR6 cf=>?_))));have s4:Same H (upd (upd H2 p (.dK [])) lt (.lst (ut++[.int 4]))):=xd5 (xd5 s2 hp) af;have ba:LstB (upd (upd H2 p (.dK [])) lt (.lst (ut++[.int 4]))) (Lg++Lc) 901:=(c0.dic a7).lst (by rw[zLA,List.length_singleton];omega) (by omega)
  have bw:∀d k,H2 d=some (.dK k)->d≠p->upd (upd H2 p (.dK [])) lt (.lst (ut++[.int 4])) d=some (.dK k):=λd k e n=>by
   rw[xad (λz=>by rw[z,a5]at e;cases e),xad n];exact e
  have ah:=bw _ _ b0 (Ne.symm n1);have ai:=bw _ _ b2 (Ne.symm n2);generalize upd (upd H2 p (.dK [])) lt (.lst (ut++[.int 4]))=H4 at s4 ba ah ai⊢;have cp:=U.lens.1;have cq:=Y.lens.1;refine(xax _ rfl j J rfl ah (λy1 c9=>?_));have b4:=Same.new c9 (.lst (J.map (·.2)));refine(xax _ rfl dl M rfl (b4 _ _ ai) (λy2 c8=>?_));have b3:=Same.new c8 (.lst (M.map (·.2)));refine(xav y1 y2 _ _ rfl rfl (b3 _ _ ups) ups (by rw[zLM,zLM];exact fits (by omega)) (λD hD=>?_));have O:=Same.new hD (.lst (J.map (·.2)++M.map (·.2)));have sY:=b4.trans (b3.trans O);have s5:=s4.trans sY;have bz:=ba.same sY;have az:=sY _ _ ah;have b1:=sY _ _ ai
  have cm:D ∉Lg++Lc:=λz=>by
   obtain⟨us,e,_⟩:=(ba.same (b4.trans b3)) D z;rw[e]at hD;cases hD
  have au:upd (upd (upd H4 y1 (.lst (J.map (·.2)))) y2 (.lst (M.map (·.2)))) D (.lst (J.map (·.2)++M.map (·.2))) D=some (.lst (J.map (·.2)++M.map (·.2))):=ups;have bj:(J.map (·.2)++M.map (·.2)).length<=12:=by rw[zLA,zLM,zLM];omega
  have av:∀v∈J.map (·.2)++M.map (·.2),∃la∈Lg++Lc,v=.ref la:=λv hv=>by
   rcases zMA hv with hv |hv
   ·obtain⟨la,hl,e⟩:=xhq U v hv
    exact(jEA la (List.mem_append_left _ hl) e)
   ·obtain⟨la,hl,e⟩:=xhq Y v hv
    exact(jEA la (List.mem_append_right _ hl) e)
  generalize upd (upd (upd H4 y1 (.lst (J.map (·.2)))) y2 (.lst (M.map (·.2)))) D (.lst (J.map (·.2)++M.map (·.2)))=H5 at sY s5 bz az b1 au⊢;generalize J.map (·.2)++M.map (·.2)=ys at au bj av⊢;refine(jEAA D rfl ⟨_,SqL.of au⟩ ?_)
  refine xhs (xs:=ys) (λi σ H'=>∃o8,σ=[some (.ref x),some (.ref A.nw),some (.bl b),some (.int st.many),some (.ref dl),some (.ref j),some (.ref lt),some (.ref sa),o8]/\Same H H'/\LstB H' (Lg++Lc) (901+i)/\H' D=some (.lst ys)/\H' j=some (.dK J)/\H' dl=some (.dK M))
   (xbc none rfl s5 bz au az b1) (λi σ H' _ p=>by obtain⟨_,_,_,_,e,_⟩:=p;exact SqL.of e) ?_ ?_
  ·rintro i v σ H6 hv ⟨o8,rfl,s6,b9,bu,Z,a1⟩
   have hi:=(zES hv).1;obtain⟨la,b7,rfl⟩:=av v (zMG hv);obtain⟨us,an,cw⟩:=b9 la b7
   have bo:H la=none:=by
    rcases zMA b7 with z |z
    ·exact ak la z
    ·exact al la z
   refine(jEAA _ rfl (.inl (jAE rfl _ (SqL.of an))) (xaq la us (.int 5) rfl rfl an (Nat.lt_of_le_of_lt (show us.length<=1000 by omega) (by decide)) (xbc _ rfl (xd5 s6 bo) (b9.lst (by rw[zLA,List.length_singleton];omega) (by omega)) ?_ ?_ ?_)))
   ·rw[xad λz=>cm (by rw[z];exact b7)]
    exact bu
   ·rw[xad λz=>by rw[z,an]at Z;cases Z]
    exact Z
   ·rw[xad λz=>by rw[z,an]at a1;cases a1]
    exact a1
  ·rintro σ H6 ⟨o8,rfl,s6,b9,bu,Z,a1⟩
   refine cf _ _ (xab λR7 ce=>?_);refine(xax _ rfl j J rfl Z (ce _ _ (xab λR8 cd=>?_)));have s7:Same H (upd H6 j (.dK [])):=xd5 s6 G;refine(xax _ rfl dl M rfl (by rw[xad (Ne.symm n3)];exact a1) (cd _ _ ?_));have s8:Same H (upd (upd H6 j (.dK [])) dl (.dK [])):=xd5 s7 a6;refine(xbs _ rfl x _ fs rfl (s8 _ _ hx) (lf.no _ (by walk_at"k")) x (jEEE mv h a (jEAA st rfl (l.at_.same s8) ?_)));exact(xce _ _ _ _ _ rfl (λu ac=>ac) (TyOf.int _) rfl (jEA _ rfl (q _ s8)))
 cases b with
 |true=>
  refine(jEA _ rfl (jEA _ rfl (iteT (xab λS1 b8=>?_))));refine(xbs _ rfl x _ fs rfl hx (lf.no _ (by walk_at"k")) x (jEEE mv h a (jEAA st rfl l.at_ ?_)));refine(xbs _ rfl x _ fs rfl hx (lf.no _ (by walk_at"k")) x (xak mv h a st rfl l.at_ aj (by omega) (λdl M Lc H1 s1 a6 al c6 a2 Y=>?_)));refine(xbs _ rfl x _ fs rfl (s1 _ _ hx) (lf.no _ (by walk_at"k")) x (xak mv h a st rfl (l.at_.same s1) ag (by omega) (λj J Lg H2 s2 G ak c5 a0 U=>?_)));have I:=s1.trans s2;refine(xbs _ rfl x _ fs rfl (I _ _ hx) (lf.no _ (by walk_at"k")) x (jEEE mv h a (jEAA st rfl (l.at_.same I) (λlt ut H3 s3 af ar a9=>?_))));have a3:=I.trans s3;refine⟨(by walk_at"s"),λD hD=>?_⟩;have O:=Same.new hD (.lst [.int st.many,.ref dl,.ref j,.ref lt]);refine(xas D _ rfl (SqL.of ups) rfl _ _ rfl _ (jEA _ rfl (jEEA _ _ rfl (xan _ _ rfl rfl (b8 _ _ ?_)))));have a8:=a3.trans O;refine(xbs _ rfl x _ fs rfl (a8 _ _ hx) (lf.no _ (by walk_at"k")) x (jEEE mv h a (xbn st rfl (l.at_.same a8) (by omega) (λsa p H5 s5 b6 c3=>?_))));have am:=s3.trans (O.trans s5);exact K1 sa p lt j dl ut J M Lg Lc H5 (a8.trans s5) (xaf a8 b6) (xaf I af) (xaf s1 G) a6 (λb hb=>xaf s1 (ak b hb)) al (Ne.symm (neN ((s3.trans O) _ _ a0) b6)) (Ne.symm (neN ((s2.trans (s3.trans O)) _ _ a2) b6)) (Ne.symm (neN a2 G)) c3 ((O.trans s5) _ _ ar) (a9.same (O.trans s5) _) (am _ _ a0) (U.same am) ((s2.trans am) _ _ a2) (Y.same (s2.trans am))
 |false=>
  refine(jEA _ rfl (jEA _ rfl (iteF (xab λS1 b8=>?_))));refine(xbs _ rfl x _ fs rfl hx (lf.no _ (by walk_at"k")) x (jEEE mv h a (xbn st rfl l.at_ (by omega) (λsa p H1 s1 cb bb=>?_))));refine(xbs _ rfl x _ fs rfl (s1 _ _ hx) (lf.no _ (by walk_at"k")) x (jEEE mv h a (jEAA st rfl (l.at_.same s1) (λlt ut H2 s2 af a5 a9=>?_))));have I:=s1.trans s2;refine(xbs _ rfl x _ fs rfl (I _ _ hx) (lf.no _ (by walk_at"k")) x (xak mv h a st rfl (l.at_.same I) ag (by omega) (λj J Lg H3 s3 G ak c5 a0 U=>?_)));have a3:=I.trans s3;refine(xbs _ rfl x _ fs rfl (a3 _ _ hx) (lf.no _ (by walk_at"k")) x (xak mv h a st rfl (l.at_.same a3) aj (by omega) (λdl M Lc H4 s4 a6 al c6 a2 Y=>?_)));have a8:=a3.trans s4;refine⟨(by walk_at"s"),λD hD=>?_⟩;have O:=Same.new hD (.lst [.ref sa,.ref lt,.ref j,.ref dl]);refine(xas D _ rfl (SqL.of ups) rfl _ _ rfl _ (jEA _ rfl (jEEA _ _ rfl (xan _ _ rfl rfl (b8 _ _ ?_)))));have b5:=a8.trans O;refine(xbs _ rfl x _ fs rfl (b5 _ _ hx) (lf.no _ (by walk_at"k")) x (jEEE mv h a (jEAA st rfl (l.at_.same b5) ?_)));obtain⟨_,cv,ay,_⟩:=id bb;have c4:=s2.trans (s3.trans (s4.trans O));exact K1 sa p lt j dl ut J M Lg Lc _ b5 cb (xaf s1 af) (xaf I G) (xaf a3 a6) (λb hb=>xaf I (ak b hb)) (λb hb=>xaf a3 (al b hb)) (neN (s2 _ _ ay) G) (neN ((s2.trans s3) _ _ ay) a6) (neN a0 a6) (bb.same c4) ((s3.trans (s4.trans O)) _ _ a5) (a9.same (s3.trans (s4.trans O)) _) ((s4.trans O) _ _ a0) (U.same (s4.trans O)) (O _ _ a2) (Y.same O)
def spLaw(K:Fg):Sp:=λvs H Q _=>∃(a:Addr) (ns:List Int),vs=[.ref a]/\SqL K H a (ns.map V.int)/\ns.length<=63/\∀H',Q (.bl true) H'
structure BegOk(mk:Mak)(hd:Hand)(row:Nat)(bx:List (Str×D)):Prop where
 row:row<hd.rows.length
 keys:bx.map (·.1)=hd.boxes.map (·.1)
 fit:FitB mk.kinds hd.boxes (enOf bx)
theorem xlr{a i:Hp}{C x f:Addr}(g:a x=none)(c:a f=none)(s:SameBut x (upd (upd a f (.own x)) x (.ins C f [])) i):Same a i/\∀b,(b=x\/upd (upd a f (.own x)) x (.ins C f []) b=none)->a b=none:=by
 refine⟨λb o e=>s b o ?_ (neN e g),λb h=>?_⟩
 ·rw[xad (neN e g),xad (neN e c)]
  exact e
 ·rcases h with rfl |h
  ·exact g
  ·cases e:a b with
   |none=>rfl
   |some o=>
    rw[xad (neN e g),xad (neN e c),e]at h;cases h
theorem xsy{a:Mak}{h:Str}{cs:Lts}(i:∀p∈cs,xo9 a p):∀p∈comL a h cs,p.2.length<=8:=λp g=>by
 obtain⟨c,_,rfl⟩:=zMP g;show((getL cs c).getD []).length<=8
 cases e:getL cs c with
 |none=>exact Nat.zero_le _
 |some ds=>
  obtain⟨q,f,j⟩:=zMS e;have:=(i q (zMF f)).1;rw[j]at this;exact this
theorem xp9{ks:List Kn}{st:LSt}{r:Row}(h:∀p∈st.com,p.2.length<=8):∀p∈(st.next ks r).com,p.2.length<=8:=by
 show ∀p∈r.com st.com,p.2.length<=8
 cases r with
 | take l c x=>
  intro p e;rcases xkt e with z |⟨q,a,rfl⟩
  ·exact h p z
  ·show q.2.tail.length<=8
   have:=h q a;rw[List.length_tail];omega
 |_=>exact h
theorem LnHere.keep{K:Fg}{H c:Hp}{x:Addr}{e:V}{h:Str}{a:LnA}{st:LSt}{f:Mak}{hd:Hand}(l:LnHere K H x e h a st f hd)(s:∀b vs,H b=some (.tup vs)->c b=some (.tup vs))(k:∀b∈a.F x,∀o,H b=some o->c b=some o):LnHere K c x e h a st f hd:=⟨l.at_.keep s k,l.md.tups s _,l.mok,l.hf,l.ok⟩
theorem xut{a:Mak}{hd:Hand}(e:MakOk a)(f:hd∈a.hands):BegOk a hd 0 (begL a hd):=by
 have c:=e.hok hd f
 have bk:(begL a hd).map (·.1)=hd.boxes.map (·.1):=by
  unfold begL;rw[List.map_map];rfl
 refine⟨c.pos,bk,λp g=>?_⟩;have h:(p.1,nuV 7 a.kinds p.2)∈begL a hd:=List.mem_map.mpr (jEA p g rfl);exact(jEA _ (xjm (by rw[bk];exact c.nd) h) (xp4 e.wf 6 p.2 (c.kin p g)))
theorem xt8 (T:Tx K mg) (am:DefIs P w K mg base (n+1) "_law_feed" qaj (xh5 K)) (m:DefIs P w K mg base (n+1) "_law_take" qad xcp) (af:DefIs P w K mg base (n+1) "_law_names" qa6 xm5) (al:DefIs P w K mg base (n+1) "_law_make" qa0 (xm8 K)) (a9:DefIs P w K mg base (n+1) "_law_letters" qbb (xq0 K)) (ab:DefIs P w K mg base (n+1) "_law_nought" qab (spNu nuV 6)) (ae:DefIs P w K mg base (n+1) "_law_value" qal (xd2 6)) (ag:DefIs P w K mg base (n+1) "_law_model" qbc xm7) (an:DefIs P w K mg base (n+1) "_law_done" qa2 xnb) (Y:DefIs P w K mg base (n+1) "_law_alike" qbd (xnj K))
  (a3:MethIs P w K mg base n (ad K "Lone") "__init__" qam [[.none],[]] (xkd K)) (ao:MethIs P w K mg base (n+1) (ad K "Lone") "step" qaa [[]] (xkc K)) :
  DefIs P w K mg base (n+2) "law" ["_law_script"] (spLaw K):=by
 refine DefIs.of T.kX sc_law (by walk_at"l") (λf j1 A outer s H vs Q E hr h=>?_);obtain⟨a,ns,rfl,hS,dn,k⟩:=h;have nd:=sc_law.nd;have hu:=xfe hr;have iq:=xre hr
 refine⟨_,(zpn (psn 1 nd (pd af hr (zpc (xes (pR xdc (xar (xag (K:=K) rfl) rfl T.k5 PySem.boot_len (v1 0)) pI (nM _)) (xam xch (pxl K (pv 0) pI) pI) pI) (zpc pI pN so) xpg)))
   (zpn (psn 2 nd (pd al hr (va 0 (zpc pI (v1 1) so))))
   (zpn (psn 3 nd (pd am hr (va 0 (zpc pI pN so))))
   (zpn (psn 4 nd (px K (px K (pv 2) pI) (pd m hr (va 3 (zpc (xar (xag (K:=K) rfl) rfl T.k5 PySem.boot_len (zpc (px K (pv 2) pI) pN ss)) pN zsc)))))
   (zpn (psn 5 nd (pd a9 hr (va 0 (va 2 (zpc (px K (pv 4) pI) pN ss)))))
   (zpn (psn 6 nd xdx)
   (zpn (psn 7 nd (xay (zpc pI (zpc (xao (xcw rfl) rfl T.k0 PyProof.Rows.boot_dict (zpc (xbt ["_law_x","_law_kind","_law_make_here"] [none,none,some 2] rfl (by kernel_rfl) (xa1 (K:=K) rfl (px K (pv 4) pI)) (λ_ _ _ _=>(xa9 (K:=K) (n:=2) rfl rfl (xac (pgc 0) (xac (pgc 1) xa7)))) (λ_ _ _ _=>xb1) (λ_ _ _ _=>(xay (va 0 (zpc (pd ab hr (zpc (px K (pv 2) pI) (v1 1) ss)) pN zsc))))) pN xbz)) pN zsc) so)))
   (zpn (xa4 (pR xa6 (pd m hr (va 3 (zpc pI pN so))) pI (nM _)) (zpn (psn 7 nd (xay (zpc (pd m hr (va 3 (zpc (xar (xag (K:=K) rfl) rfl T.k5 PySem.boot_len (zpc (px K (pv 4) pI) pN ss)) pN zsc))) (zpc (xao (xcw rfl) rfl T.k0 PyProof.Rows.boot_dict (zpc (xbt ["_law_x","_law_kind","_law_feed_here","_law_make_here"] [none,none,some 3,some 2] rfl (by kernel_rfl) (xa1 (K:=K) rfl (px K (pv 4) pI)) (λ_ _ _ _=>(xa9 (K:=K) (n:=2) rfl rfl (xac (pgc 0) (xac (pgc 1) xa7)))) (λ_ _ _ _=>xb1) (λ_ _ _ _=>(xay (va 0 (zpc (pd ae hr (va 2 (zpc (px K (pv 3) pI) (v1 1) ss))) pN zsc))))) pN xbz)) pN zsc) zsc)))
   (zpo (psn 6 nd (xay (zpc (px K (pv 7) pI) (zpc (xao xcr rfl T.k0 PyProof.Rows.boot_dict (zpc (px K (pv 7) pI) pN ss)) pN zsc) ss))))) pQ)
   (zpn (psn 8 nd (pd ag hr (va 2 (va 4 (va 5 (v1 7))))))
   (zpn (psn 9 nd (xik (ds:=[]) (dvs:=[]) a3 T.uD hr T.uC (by simp) .nil (va 2 (zpc (px K (pv 4) pI) (va 5 (v1 6)) ss))))
   (zpn (xa4 (pR xin (pv 6) xdx (nM _)) (zpo (psn 9 nd (xik (ds:=[.none]) (dvs:=[.non]) a3 T.uD hr T.uC (by simp) (.cons rfl .nil) (va 2 (zpc (px K (pv 4) pI) (v1 5) ss))))) (zpo (xbl (xdy (px K (pv 6) pI)))))
   (zpn (xr2 (xcm PassesOwn.never rfl (xnr (pv 5)) (pgn 10 nd)
   (zpo (xbl (xq6 PySem.F.plainAttrs_list PySem.F.slot_list_clear PySem.F.type_list_clear xqc (pv 10))))))
   (zpn (xbl (xdy (pv 5)))
   (zpn (psn 11 nd (pd m hr (va 3 (zpc pI pN so))))
   (zpn (xcm PassesOwn.never rfl (xcb rfl T.k9 (zpc (xam xbd pI (xar (xag (K:=K) rfl) rfl T.k5 PySem.boot_len (zpc (xd7 xhd (pv 0) (xdl pI) (xdl pI)) pN ss))) pN xa3)) (pgn 12 nd)
   (zpn (xa4 (xnp (xii (pd Y hr (va 9 (va 8 (zpc (xey xa6 (xam xcg (xam xbd (pv 12) (pv 11)) pI) pI (nM _)) pN xfh)))))) (zpo (xai xil)) pQ)
   (zpn (psn 13 nd (pd an hr (zpc (px K (pv 2) pI) (zpc (px K (px K (pv 4) pI) (xbf hu (pv 8) pS (λ_ _=>rfl))) (v1 8) ss) ss)))
   (zpn (psn 14 nd (xcc ao T.uD.cl hr (pv 9)))
   (zpo (xa4 (PW.pt (xgj (xnp (xii (xar xds rfl T.k4 PyProof.Rows.boot_isinstance (va 14 (zpc (xli T.kZ PyProof.Rows.boot_bool) pN zsn))))) (xgq (pR xsc (pv 14) (pv 13) (nM _))))) (zpo (xai xil)) pQ))))))
   (zpo (xai (pd Y hr (va 9 (va 8 (zpc (xey xa6 (pv 11) pI (nM _)) pN xfh))))))))))))))))))))),xab λR1 h7=>?_⟩
 have K1:∀b H1 aj,Same H H1->H1 b=some (.lst (aj.map V.str))->xj3 aj->(∀z∈aj,NoBy z/\NoMo z)->R1 [some (.ref a),some (.ref b),none,none,none,none,none,none,none,none,none,none,none,none,none] H1:=by
  intro b H1 aj s1 J Z bo;refine h7 _ _ (xab λR2 h6=>?_);refine(xap _ rfl _ rfl a b ns (xck 1 aj rfl (s1.seq hS) dn ⟨J,Z,λz hz=>(bo z hz).1⟩ (λmv I H2 s2 md a4 gf=>h6 _ _ (xab λR3 h3=>?_))));have b4:=s1.trans s2;refine(jEA _ rfl (xaq a ns 7 rfl (b4.seq hS) dn (by decide) (λfd p q c0=>h3 _ _ (xab λR4 gz=>?_))));have s3:=Same.new c0 (.lst [.int p,.int q]);have e8:=b4.trans s3;have b3:upd H2 fd (.lst [.int p,.int q]) fd=some (.lst [.int p,.int q]):=ups;have c4:=md.same s3 _;generalize upd H2 fd (.lst [.int p,.int q])=H3 at s3 e8 b3 c4⊢;obtain⟨ma,kv,cv,ix,rfl,d7,gj,gq,gm⟩:=mk_d c4;obtain⟨ha,uh,rfl,dd,de⟩:=gm;have gg:=de.length;rw[zLM]at gg;have h4:=a4.hfew;have i2:0<I.hands.length:=List.length_pos_iff.mpr gf;refine(xaa _ rfl ma _ _ _ rfl rfl (SqT.of d7) rfl (xap _ rfl _ rfl ma _ _ (xb5 _ rfl rfl (SqT.of d7) rfl (xan ha _ rfl (.inr (SqT.of dd)) (xak fd p q uh.length rfl b3 (by omega) (by omega) (λr H4 r0 r1 f4=>?_))))));obtain⟨ri,rfl⟩:∃i:Nat,r=(i:Int):=⟨r.toNat,by omega⟩;have g9:ri<uh.length:=by omega
  have bq:=xah (jEE p q b3) f4;have hv:uh[ri]?=some uh[ri]:=zGA g9;refine(xak ha _ _ _ rfl rfl (SqT.of (bq _ _ dd)) (xa2 hv) (gz _ _ (xab λR5 gy=>?_)));obtain⟨iv,dc,ec⟩:=de.get hv;rw[zGM]at dc;obtain⟨hd,ex,rfl⟩:=zMS dc;have bm:=zMG ex;generalize uh[ri]=ip at ec⊢
  have hf:xeh I hd.name=some hd:=by
   unfold xeh
   cases e:I.hands.find? λh=>decide (h.name=hd.name) with
   |none=>exact absurd (zDT rfl) (List.find?_eq_none.mp e hd bm)
   |some h2=>
    have h1:=of_decide_eq_true (List.find?_some (p:=λh:Hand=>decide (h.name=hd.name)) e);rw[xc7 a4.hnd (zMF e) bm h1]
  have cf:=ec.tups bq _;have ei:=c4.tups bq _;obtain⟨p4,q4,cm⟩:=f4.2;have i0:Same H H2:=b4;have fz:Same H2 H4:=Fed.back c0 s3 f4;have bw:=b4.trans fz;clear f4 bq d7 dd b3 c4 s3 e8 hv dc de gj gq;obtain⟨a0,bv,rv,rfl,ah,gs,gb⟩:=hd_d cf;refine(xbk _ rfl _ rfl _ rfl a0 _ (xck _ _ rfl rfl (SqT.of ah) rfl (xaj a ns (.ref ma) hd.name I rfl (bw.seq hS) dn ei a4 (λdl kl cl Ll H5 ac ez c8 g3 fi i6 i7 ch=>gy _ _ (xab λR6 gx=>?_)))));have g0:=bw.trans ac;have ck:=ac _ _ cm;have eh:=ei.same ac _;have eb:=cf.same ac _;have Z:=a4.hok hd bm;refine gx _ _ (xab λR7 gw=>?_);obtain⟨ba,us,hm,c9,hR⟩:=id gs;subst hm;have hl:=hR.length;rw[zLM]at hl;have h5:=Z.few;obtain⟨il,el,j0,i1,e5,cg,ew,_,_⟩:=mk_d eh;cases e5;refine(xaa _ rfl a0 _ _ _ rfl rfl (SqT.of (ac _ _ ah)) rfl (jEAA ba rfl ⟨_,SqT.of (ac _ _ c9)⟩ ?_));refine xbx (xs:=us) (λi ys U=>Same H5 U/\∃kvs,PairsV U ys kvs/\KvD U kvs ((begL I hd).take i)) (jAEA (Same.refl _) ([]) trivial (by rw[List.take_zero];trivial)) (xba (by omega)) (λi ys U _ p=>SqT.of (p.1 _ _ (ac _ _ c9))) ?_ ?_
  ·rintro i y ys U hy hi bj ⟨sm,kvs,ax,aa⟩
   obtain⟨d,az,rd⟩:=hR.get hy;rw[zGM]at az;obtain⟨b,b7,rfl⟩:=zMS az;obtain⟨pb,ws,rfl,d5,_,_,rfl,rfl,_,_,rfl,rfl,rfl⟩:=rd;have dg:=zMG b7;refine(xas pb _ rfl (SqT.of ((ac.trans sm) _ _ d5)) rfl _ _ rfl _ (xbn _ rfl rfl (ext2 rfl rfl) (xdw ?_)));refine(xap _ rfl _ rfl ma _ _ (xbr _ rfl rfl (SqT.of (sm _ _ cg)) rfl _ rfl (xaq el I.kinds b.2 rfl (ew.same sm _) a4.wf (Z.kin b dg) (λu H2 s2 r2=>⟨(by walk_at"s"),λt ht=>nxtG hi bj ?_⟩))));have s3:=Same.new ht (.tup [.str b.1,u]);refine(jAEA (sm.trans (s2.trans s3)) (kvs++[(Sum.inr b.1,u)]) ?_ ?_)
   ·exact(ax.same (Same.tups (s2.trans s3))).append ⟨(jEA t rfl ups),trivial⟩
   ·have e:(begL I hd).take (i+1)=(begL I hd).take i++[(b.1,nuV 7 I.kinds b.2)]:=by
     rw[zTA];unfold begL;rw[zGM,b7];rfl
    rw[e];exact(aa.tups (Same.tups (s2.trans s3))).snoc (r2.same s3 _)
  rintro ys U bj ⟨sm,kvs,ax,aa⟩ D hD;have sD:=Same.new hD (.lst ys);have iw:(begL I hd).length=us.length:=by unfold begL;rw[zLM,hl]
  rw[zTL (by omega)]at aa;refine(xdd D ys kvs rfl ups (ax.same (Same.tups sD)) (λc hc=>⟨(by walk_at"s"),λbg ht=>gw _ _ (xab λR8 gv=>?_)⟩))
  have d8:(kvs.map (·.1)).Nodup:=by
   rw[aa.keys];exact xgy (xj0 Z.nd)
  rw[xdn d8]at ht⊢;have s3:=Same.new hc (.dK kvs);have s4:=Same.new ht (.tup [.int 0,.ref c]);have sA:=sD.trans (s3.trans s4);have a8:=sm.trans sA;have e0:StAt (upd (upd (upd U D (.lst ys)) c (.dK kvs)) bg (.tup [.int 0,.ref c])) bg c 0 (begL I hd):=(jAEA ups kvs (s4 _ _ ups) (aa.tups (Same.tups sA)));generalize upd (upd (upd U D (.lst ys)) c (.dK kvs)) bg (.tup [.int 0,.ref c])=H6 at a8 e0⊢;clear sA s4 s3 sD ax aa sm hD hc ht;have a5:=a8 _ _ ck
  have K2:∀(sv:V) (bg pb:Addr) (G:Nat) (bx:List (Str×M.D)) (H7:Hp),Fed fd H6 H7->StAt H7 bg pb G bx->(sv=.non/\G=0/\bx=begL I hd\/∃a7 sp,sv=.ref a7/\StAt H7 a7 sp G bx/\H6 sp=none)->BegOk I hd G bx->R8 [some (.ref a),some (.ref b),some (.ref ma),some (.ref fd),some (.ref a0),some (.ref dl),some sv,some (.ref bg),none,none,none,none,none,none,none] H7:=by
   intro sv bg pb G bx H7 f7 fv es cb;refine gv _ _ (xab λR9 gu=>?_);have aq:=xah (jEE p4 q4 a5) f7;have ai:=ac.trans a8;have ee:∀b∈Ll,b≠fd:=λb J z=>by have:=fi b J;rw[z,cm]at this;cases this
   have fq:dl≠fd:=λz=>by rw[z,ck]at c8;cases c8
   have a6:=f7.1 _ _ (a8 _ _ c8) fq;have av:LsAt H7 kl cl Ll:=(g3.same a8).keep aq λb J us e=>f7.1 _ _ e (ee b J);have c3:=(eh.same a8 _).tups aq _;have ce:=(eb.same a8 _).tups aq _
   have i8:bx.length<=5:=by
    have:=congrArg List.length cb.keys;rw[zLM,zLM]at this;omega
   refine(jEA _ rfl (xbk _ rfl _ rfl _ rfl (.ref ma) (.ref a0) (xau dl bg pb kl cl (xaj Ll I hd G bx rfl c3 ce a4 a6 (jAA av fv (λA H8 bb fm l8=>gu _ _ (xab λj7 ff=>?_)))))));have gl:SqT K H8 a0 _:=SqT.of (bb _ _ (aq _ _ (ai _ _ ah)))
   have eg:∀{HB:Hp} {x dx:Addr} {C:Addr},HB x=none->HB dx=none->Same HB (upd (upd HB dx (.own x)) x (.ins C dx [])):=λhx c7 b u e=>by
    rw[xad (neN e hx),xad (neN e c7)];exact e
   have lst:∀{U:Hp},Same H7 U->xpc U sv I hd G bx:=λ{U} s'=>by
    rcases es with⟨e1,e2,e3⟩ |⟨a7,sp,e1,e2,_⟩
    ·exact .inl (jAA e1 e2 e3)
    ·exact .inr (xan a7 sp e1 (e2.same s') (by omega))
   refine(xap _ rfl _ rfl a0 _ _ (xbr _ rfl rfl gl rfl _ rfl (jEA _ rfl (λx dx hx c7 i3=>?_))));have sN:=eg (C:=ad K "Lone") hx c7;have bt:=bb.trans sN;refine(xau x dx (.ref ma) hd.name dl (xau kl cl Ll I hd (xb3 sv G bx rfl (lst bt) ups (c3.same bt _) a4 (jAAA hf (bt _ _ a6) (av.same bt) (λa1 H9 b9 fn hq=>⟨rfl,ff _ _ (xab λhw fe=>?_)⟩)))));obtain⟨br,fl⟩:=xlr hx c7 b9;have au:=bb.trans br
   have K3:∀(x:Addr) (a1:LnA) (O:Hp),(∀b o,H7 b=some o->(∀k,o≠.dK k)->O b=some o)->O dl=some (.dK kl)->Same H O->(∀b∈a1.F x,H8 b=none)->NowAt O A ⟨G,bx,comL I hd.name cl,goiL I hd.name,[],0⟩->LnAt O (ad K "Lone") x (.ref ma) hd.name a1 ⟨G,bx,comL I hd.name cl,goiL I hd.name,[],0⟩->hw [some (.ref a),some (.ref b),some (.ref ma),some (.ref fd),some (.ref a0),some (.ref dl),some sv,some (.ref bg),some (.ref A.nw),some (.ref x),none,none,none,none,none] O:=by
    intro x a1 O kp bn e7 fj g5 ft;have there:∀la∈Ll,∃us,H7 la=some (.lst us):=av.there;have nA:∀{b:Addr} {o:HO},H7 b=some o->b ∉A.F:=λ{b o} e z=>by rw[fm b z]at e;cases e
    have nx:∀{b:Addr} {o:HO},H7 b=some o->b ∉a1.F x:=λ{b o} e z=>by have:=fj b z;rw[bb _ _ e]at this;cases this
    refine fe _ _ (xab λj6 fc=>?_);refine(xax _ rfl dl kl rfl bn (λo nz=>?_))
    refine xqo (λi σ U=>∃bz,σ=[some (.ref a),some (.ref b),some (.ref ma),some (.ref fd),some (.ref a0),some (.ref dl),some sv,some (.ref bg),some (.ref A.nw),some (.ref x),bz,none,none,none,none]/\U dl=some (.frz o (.dK kl))/\(∀b u,O b=some u->b≠dl->b ∉Ll->U b=some u)/\∀la∈Ll,∃us,U la=some (.lst us))
     (xbn none rfl ups (λb u e n _=>by rw[xad n];exact e) (λla hl=>?_)) (λi σ U _ p=>by obtain⟨_,_,e,_⟩:=p;exact e) ?_ ?_
    ·obtain⟨us,e⟩:=there la hl
     exact⟨us,by rw[xad λz=>by rw[z,a6]at e;cases e];exact kp _ _ e λk z=>by cases z⟩
    ·rintro i kv σ U hi ⟨bz,rfl,b6,c5,c6⟩
     obtain⟨la,ev,e⟩:=xhq av kv.2 (List.mem_map.mpr (jEA kv (zMG hi) rfl));rw[e];obtain⟨us,cz⟩:=c6 la ev;refine(xbe _ rfl (.inl (jAE rfl _ (SqL.of cz))) la us rfl rfl (xf8 cz _ rfl ?_ ⟨λb u e n n2=>?_,λlb gh=>?_⟩))
     ·rw[xad λz=>by rw[z,cz]at b6;cases b6]
      exact b6
     ·rw[xad λz=>n2 (by rw[z];exact ev)]
      exact c5 b u e n n2
     ·by_cases z:lb=la
      ·exact⟨[],by rw[z];exact ups⟩
      ·obtain⟨fu,e2⟩:=c6 lb gh
       exact⟨fu,by rw[xad z];exact e2⟩
    rintro σ U ⟨bz,rfl,b6,c5,c6⟩;refine(xcd dl o kl b6 nz (fc _ _ (xab λj5 fb=>?_)));refine(xax _ rfl dl kl rfl ups (fb _ _ (xab λj4 fa=>?_)))
    have ar:∀b u,O b=some u->b≠dl->b ∉Ll->upd (upd U dl (.dK kl)) dl (.dK []) b=some u:=λb u e n n2=>by
     rw[xad n,xad n];exact c5 b u e n n2
    generalize upd (upd U dl (.dK kl)) dl (.dK [])=HF at ar⊢;clear c5 c6 b6
    have fh:∀la∈Ll,∃us,O la=some (.lst us):=λla hl=>by
     obtain⟨us,e⟩:=there la hl;exact⟨us,kp _ _ e λk z=>by cases z⟩
    have cp:∀b vs,O b=some (.tup vs)->HF b=some (.tup vs):=λb vs e=>ar b _ e (λz=>by rw[z,bn]at e;cases e) λz=>by
     obtain⟨us,e2⟩:=fh b z;rw[e]at e2;cases e2
    have ef:∀{b:Addr},b∈Ll->b ∉A.F/\b ∉a1.F x:=λ{b} z=>by
     obtain⟨us,e⟩:=there b z;exact⟨nA e,nx e⟩
    have lF:=g5.keep cp λb J o e=>ar b o e (λz=>nA a6 (by rw[<- z];exact J)) λz=>(ef z).1 J;have aF:=ft.keep cp λb J o e=>ar b o e (λz=>nx a6 (by rw[<- z];exact J)) λz=>(ef z).2 J
    have fy:Same H HF:=λb o e=>ar b o (e7 _ _ e) (neN e (xaf bw ez)) λz=>by
     have:=xaf bw (fi b z);rw[e]at this;cases this
    obtain⟨p7,q7,ay⟩:=f7.2;have ci:=ar fd _ (kp _ _ ay λk z=>by cases z) (Ne.symm fq) λz=>ee fd z rfl;have cc:∀b vs,H7 b=some (.tup vs)->HF b=some (.tup vs):=λb vs e=>cp b vs (kp _ _ e λk z=>by cases z);have g2:=c3.tups cc _;have ea:=ce.tups cc _;refine(xaa _ rfl fd p7 q7 2 rfl ci (by decide) (by decide) (λtr HG ia i9 fG=>fa _ _ (xab λj3 f6=>?_)));have bp:=xah (jEE p7 q7 ci) fG;have lG:=lF.keep bp λb J o e=>fG.1 _ _ e λz=>nA ay (by rw[<- z];exact J);have aG:=aF.keep bp λb J o e=>fG.1 _ _ e λz=>nx ay (by rw[<- z];exact J);have fx:Same H HG:=λb o e=>fG.1 _ _ (fy _ _ e) (neN e (xaf b4 c0))
    have ek:LOk I hd ⟨G,bx,comL I hd.name cl,goiL I hd.name,[],0⟩:=by
     have l:=xqg (cs:=cl) a4 hf ch;exact⟨cb.row,cb.keys,cb.fit,l.com,l.goi,l.cok,l.gok,l.tok⟩
    have h0:LnHere K HG x (.ref ma) hd.name a1 ⟨G,bx,comL I hd.name cl,goiL I hd.name,[],0⟩ I hd:=⟨aG,g2.tups bp _,a4,hf,ek⟩
    have ho:∀b∈a1.F x,b ∉A.F:=λb J z=>by
     obtain⟨u,e,_⟩:=l8.there b z;rw[fj b J]at e;cases e
    refine(xat _ rfl _ rfl _ rfl a (ns.map V.int) rfl (fx.seq hS) (λpc gd=>(xal pc _ rfl (.inl (SqL.of ups)) _ _ rfl rfl _ ⟨rfl,?_⟩)));have sP:=Same.new gd (.lst (cutV (ns.map V.int) (some 9) (some 50)));have gn:=xgf (ns.map V.int) (some 9) (some 50);rw[zLM]at gn;refine(jAA (by omega) (by omega) ?_);have e9:=(ea.tups bp _).same sP _;have gr:∀p∈comL I hd.name cl,p.2.length<=8:=xsy ch
    refine xc1 (λi σ U=>∃(a1:LnA) (st:LSt) (cx cw cu:Option V),σ=[some (.ref a),some (.ref b),some (.ref ma),some (.ref fd),some (.ref a0),some (.ref dl),some sv,some (.ref bg),some (.ref A.nw),some (.ref x),bz,some (.int tr),cx,cw,cu]/\LnHere K U x (.ref ma) hd.name a1 st I hd/\NowAt U A st/\(∀b∈a1.F x,b ∉A.F)/\RelD U (.ref a0) hd.d/\st.many<=i/\∀p∈st.com,p.2.length<=8)
     (xaj a1 _ none none none rfl (h0.same sP) (lG.same sP) ho e9 ⟨Nat.le_refl _,gr⟩) ?_ ?_
    ·rintro i σ U hi ⟨a1,st,cx,cw,cu,rfl,ln,nw,dj,rh,d6,h8⟩
     refine xab λS1 dm=>?_;refine(jEA _ rfl (xat _ rfl _ rfl _ rfl _ _ rfl rfl (xck _ _ rfl rfl (by show(0:Int)<2;decide) rfl (xau x (.ref ma) hd.name a1 A (xav st I hd _ rfl ln nw (by omega) h8 (λG1 t1=>(jEA _ rfl (iteF (dm _ _ (xab λS2 f5=>?_))))))))));have bf:=ln.same t1;have bd:=nw.same t1;have ct:=rh.same t1 _;obtain⟨ik,g6,iz,io,e2,eu,gi,_,_⟩:=mk_d bf.md;cases e2;obtain⟨i5,j2,ib,e3,db,_,ga⟩:=hd_d ct;cases e3;obtain⟨ra,ur,dr,d3,ca⟩:=ga;subst dr;have d2:=ca.length;rw[zLM]at d2;have ir:=bf.ok.row;have hv:ur[st.row]?=some (ur[st.row]'(by omega)):=zGA _;obtain⟨d,az,rd⟩:=ca.get hv;rw[zGM]at az;obtain⟨r,d4,rfl⟩:=zMS az
     have hg:DGet G1 A.nw (.str (Str.ofString "at")) (some (.int st.row)):=by
      have:=DGet.rd (k:=Sum.inr (Str.ofString "at")) (.inl bd.nw);rw[xn8]at this;exact this
     have hk:∀{H2:Hp},Frm A G1 H2->LnHere K H2 x (.ref ma) hd.name a1 st I hd:=λ{H2} f2=>bf.keep (f2.tups bd) λb J o e=>f2 b o e (dj b J);refine(xaa _ rfl ma _ _ _ rfl rfl (SqT.of eu) rfl (xaa _ rfl a0 _ _ _ rfl rfl (SqT.of db) rfl (xax _ rfl A.nw _ rfl hg (xbm ra _ _ _ rfl rfl (SqT.of d3) (xa2 hv) _ (jAE rfl g6 (xau _ A st I hd (xbc r rfl gi rd a4 bm (jAAA bf.ok d4 bd (jAA (by omega) (λd1 G2 t2=>f5 _ _ (xab λS3 dk=>?_)) (λd1 G2 t2 ed=>f5 _ _ (xab λS3 dk=>?_)))))))))))
     ·have b5:=bf.same t2
      obtain⟨fs,hx,lf⟩:=b5.at_.ob;refine(xbs _ rfl x _ fs rfl hx (lf.no _ (by walk_at"k")) x (xau (.ref ma) hd.name a1 st I (xa8 hd r rfl b5 d4 (by omega) (λ_=>dk _ _ ?_) (λz=>by rw[d1]at z;cases z))));refine(xa5 _ rfl _ _ _ _ (xbr _ rfl (λu d0=>d0) (TyOf.bl _) rfl _ rfl (iteF ?_)));exact(xca _ rfl _ rfl rfl _ rfl (ite2 (λc1=>absurd c1 (by simp)) (λ_=>(xaj a1 st _ _ _ rfl b5 (bd.same t2) dj (ct.same t2 _) ⟨by omega,h8⟩))))
     ·have b5:=hk t2
      obtain⟨fs,hx,lf⟩:=b5.at_.ob;refine(xbs _ rfl x _ fs rfl hx (lf.no _ (by walk_at"k")) x (xau (.ref ma) hd.name a1 st I (xa8 hd r rfl b5 d4 (by omega) (λz=>by rw[d1]at z;cases z) (λ_ a2 G3 hh dy g1 g4=>dk _ _ ?_))));refine(xa5 _ rfl _ _ _ _ (xbr _ rfl (λu d0=>d0) (TyOf.bl _) rfl _ rfl (iteF ?_)));refine(xca _ rfl _ rfl rfl _ rfl (ite2 (λc1=>absurd c1 (by simp)) (λ_=>(xaj a2 _ _ _ _ rfl g4 (ed.keep dy λb J o e=>hh b o e λz=>dj b z J) (λb J z=>?_) ((ct.tups (t2.tups bd) _).tups dy _) ⟨?_,xp9 h8⟩))))
      ·rcases g1 b J with y |y
       ·exact dj b y z
       ·obtain⟨u,e,_⟩:=ed.there b z
        rw[y]at e;cases e
      ·show st.many+1<=i+1
       omega
    ·rintro σ U ⟨a1,st,cx,cw,cu,rfl,ln,nw,dj,rh,d6,h8⟩
     refine f6 _ _ ?_;exact(jEA _ rfl (xbg _ rfl _ rfl rfl (xau x (.ref ma) hd.name a1 A (xav st I hd _ rfl ln nw (by omega) h8 (λG1 t1=>k _)))))
   have ey:H fd=none:=xaf b4 c0;have e6:=g0.trans a8;have e4:Same H H7:=λb o e=>f7.1 _ _ (e6 _ _ e) (neN e ey);refine(xaz _ rfl rfl _ rfl (ite2 (λc1=>?_) (λc1=>?_)))
   ·have dq:sv=.non:=of_decide_eq_true c1
    refine(xap _ rfl _ rfl a0 _ _ (xbr _ rfl rfl (SqT.of (au _ _ (aq _ _ (ai _ _ ah)))) rfl _ rfl (λx' dt eo co i4=>?_)));have fw:=eg (C:=ad K "Lone") eo co;have b2:=au.trans fw
    have ej:xpc (upd (upd H9 dt (.own x')) x' (.ins (ad K "Lone") dt [])) .non I hd G bx:=by
     have:=lst b2;rw[dq]at this;exact this
    refine(xau x' dt (.ref ma) hd.name dl (xau kl cl Ll I hd (xb3 (.non) G bx rfl ej ups (c3.same b2 _) a4 (jAAA hf (b2 _ _ a6) (av.same b2) (λa' O hp fo hs=>⟨rfl,?_⟩)))));obtain⟨cd,fk⟩:=xlr eo co hp;have bc:=au.trans cd;exact K3 x' a' O (λb o e _=>bc _ _ e) (bc _ _ a6) (e4.trans bc) (λb J=>xaf br (fk b (fo b J))) (l8.same (br.trans cd)) hs
   ·obtain⟨a7,sp,dq,g8,aw⟩:∃a7 sp,sv=.ref a7/\StAt H7 a7 sp G bx/\H6 sp=none:=by
     rcases es with⟨e1,_⟩ |h
     ·exact absurd (zDT e1) c1
     ·exact h
    obtain⟨h1,g7,h2,_⟩:=g8;have fg:=au _ _ h2;have be:∀b o,H9 b=some o->b≠sp->upd H9 sp (.dK []) b=some o:=λb o e n=>by rw[xad n];exact e
    have dv:∀b vs,H9 b=some (.tup vs)->upd H9 sp (.dK []) b=some (.tup vs):=λb vs e=>be b _ e λz=>by rw[z,fg]at e;cases e
    refine(xaa _ rfl a7 _ _ _ dq rfl (SqT.of (au _ _ h1)) rfl (xan sp g7 rfl fg ?_));refine K3 x a1 _ (λb o e n=>be b o (au _ _ e) λz=>by rw[z,h2]at e;exact n _ (Option.some.inj e).symm) (be _ _ (au _ _ a6) λz=>by rw[<- z,a8 _ _ c8]at aw;cases aw) (xd5 (e4.trans au) (xaf e6 aw)) (λb J=>fl b (fn b J)) ((l8.same br).keep dv λb J o e=>be b o e λz=>by have:=fm b J;rw[z,h2]at this;cases this) (hq.keep dv λb J o e=>be b o e λz=>by have:=fl b (fn b J);rw[z,bb _ _ h2]at this;cases this)
  have ar:∀{H7:Hp} {bg pb:Addr} {G:Nat} {bx:List (Str×M.D)},Fed fd H6 H7->StAt H6 bg pb G bx->StAt H7 bg pb G bx:=λ{H7 bg pb G bx} f7 st=>st.keep (xah (jEE p4 q4 a5) f7) λo e=>f7.1 _ _ e λz=>by
   obtain⟨_,im,h9,_⟩:=st;rw[z,a5]at h9;cases h9
  refine(xaa _ rfl fd p4 q4 2 rfl a5 (by decide) (by decide) (λr7 H7 ih ig f7=>(jAEA rfl _ rfl (ite2 (λc1=>?_) (λc1=>K2 .non bg c 0 (begL I hd) H7 f7 (ar f7 e0) (.inl (jAA rfl rfl rfl)) (xut a4 bm))))));refine xab λS1 dm=>?_;obtain⟨p7,q7,ay⟩:=f7.2;obtain⟨ra,ur,dr,d3,ca⟩:=id gb;subst dr;have d2:=ca.length;rw[zLM]at d2;have iy:=Z.len;have gc:=Z.pos;have ai:=ac.trans a8;have aq:=xah (jEE p4 q4 a5) f7;refine(xap _ rfl _ rfl a0 _ _ (xb5 _ rfl rfl (SqT.of (aq _ _ (ai _ _ ah))) rfl (xan ra _ rfl (.inr (SqT.of (aq _ _ (ai _ _ d3)))) (xak fd p7 q7 _ rfl ay (by omega) (by omega) (λr8 H8 ie ic f8=>?_)))));have fp:=f7.trans f8;have dw:=xah (jEE p4 q4 a5) fp;refine(xaa _ rfl a0 _ _ _ rfl rfl (SqT.of (dw _ _ (ai _ _ ah))) rfl (jEAA ba rfl ⟨_,SqT.of (dw _ _ (ai _ _ c9))⟩ ?_));have di:H6 ba=some (.tup us):=ai _ _ c9;refine xbx (xs:=us) (λi ys U=>Fed fd H6 U/\ys.length=i/\∃(kvs:List (Key×V)) (bx:List (Str×M.D)),PairsV U ys kvs/\KvD U kvs bx/\bx.map (·.1)=(hd.boxes.take i).map (·.1)/\∀(j:Nat) b d,hd.boxes[j]?=some b->bx[j]?=some d->Vk I.kinds b.2 d.2) (jAA fp rfl (xbh ([]) ([]) trivial trivial rfl (λj b d _ h=>by simp at h))) (xba (by omega)) (λi ys U _ p=>SqT.of (xah (jEE p4 q4 a5) p.1 _ _ di)) ?_ ?_
  ·rintro i y ys H9 hy hi bj ⟨f9,em,kvs,bx,ax,aa,ak,cy⟩
   obtain⟨d,az,rd⟩:=hR.get hy;rw[zGM]at az;obtain⟨b,b7,rfl⟩:=zMS az;obtain⟨pb,ws,rfl,d5,_,_,rfl,rfl,_,_,rfl,rfl,rfl⟩:=rd;have dg:=zMG b7;have cq:=xah (jEE p4 q4 a5) f9;obtain⟨p9,q9,cj⟩:=f9.2;refine(xas pb _ rfl (SqT.of (cq _ _ (ai _ _ d5))) rfl _ _ rfl _ (xbn _ rfl rfl (ext2 rfl rfl) (xdw ?_)));refine(xbk _ rfl _ rfl _ rfl ma _ (xck _ _ rfl rfl (SqT.of (cq _ _ (a8 _ _ cg))) rfl (xa5 _ rfl fd el p9 q9 (xa8 I.kinds b.2 rfl cj ((ew.same a8 _).tups cq _) a4.wf (Z.kin b dg) (λu e O b0 eq ep=>⟨(by walk_at"s"),λt ht=>nxtG hi bj ?_⟩)))));have s3:=Same.new ht (.tup [.str b.1,u]);have dz:=xah (jEE p9 q9 cj) b0;have du:∀c vs,H9 c=some (.tup vs)->upd O t (.tup [.str b.1,u]) c=some (.tup vs):=λc vs e=>s3 _ _ (dz _ _ e)
   have f1:bx.length=i:=by
    have:=congrArg List.length ak;rw[zLM,zLM,List.length_take]at this;omega
   refine(jAA ((f9.trans b0).same s3) (by rw[zLA,List.length_singleton,em]) (xbh (kvs++[(Sum.inr b.1,u)]) (bx++[(b.1,e)]) ?_ ?_ ?_ ?_))
   ·exact(ax.same du).append ⟨(jEA t rfl ups),trivial⟩
   ·exact(aa.tups du).snoc (eq.same s3 _)
   ·rw[zAP,ak,zTA,b7,zAP]
    rfl
   ·intro j b9 d9 h1 h2
    rcases Nat.lt_or_ge j bx.length with hj |hj
    ·rw[List.getElem?_append_left hj]at h2
     exact cy j b9 d9 h1 h2
    ·rw[List.getElem?_append_right hj]at h2
     have gk:j-bx.length=0:=by
      rcases Nat.eq_zero_or_pos (j-bx.length) with z |z
      ·exact z
      ·rw[List.getElem?_eq_none (by rw[List.length_singleton];exact z)]at h2;cases h2
     rw[gk]at h2;cases h2;have:j=i:=by omega
     subst this;rw[b7]at h1;cases h1;exact ep
  rintro ys H9 bj ⟨f9,em,kvs,bx,ax,aa,ak,cy⟩ D2 he;have sD:=Same.new he (.lst ys);rw[zTL (by omega)]at ak
  have d8:(kvs.map (·.1)).Nodup:=by
   rw[aa.keys];exact xgy (by rw[ak];exact Z.nd)
  refine(xdd D2 ys kvs rfl ups (ax.same (Same.tups sD)) (λc2 gp=>⟨(by walk_at"s"),λb1 er=>dm _ _ ?_⟩));rw[xdn d8]at er⊢;have s3:=Same.new gp (.dK kvs);have s4:=Same.new er (.tup [.int r8,.ref c2]);obtain⟨rj,rfl⟩:∃i:Nat,r8=(i:Int):=⟨r8.toNat,by omega⟩;have sA:=sD.trans (s3.trans s4);have b8:StAt (upd (upd (upd H9 D2 (.lst ys)) c2 (.dK kvs)) b1 (.tup [.int (rj:Int),.ref c2])) b1 c2 rj bx:=(jAEA ups kvs (s4 _ _ ups) (aa.tups (Same.tups sA)));have b0:Fed fd H6 (upd (upd (upd H9 D2 (.lst ys)) c2 (.dK kvs)) b1 (.tup [.int (rj:Int),.ref c2])):=f9.same sA;generalize upd (upd (upd H9 D2 (.lst ys)) c2 (.dK kvs)) b1 (.tup [.int (rj:Int),.ref c2])=O at b8 b0⊢;obtain⟨f3,bh,f0,da⟩:=id b8;refine(xaa _ rfl b1 _ _ _ rfl rfl (SqT.of f3) rfl (xaa _ rfl b1 _ _ _ rfl rfl (SqT.of f3) rfl (xan c2 bh rfl f0 (λsp bi=>⟨(by walk_at"s"),λa7 et=>?_⟩))));have cr:=Same.new bi (.dK bh);have bu:=Same.new et (.tup [.int (rj:Int),.ref sp])
  have aw:H6 sp=none:=by
   cases e:H6 sp with
   |none=>rfl
   |some o=>
    obtain⟨ij,ii,df⟩:=b0.2;by_cases z:sp=fd
    ·rw[z,df]at bi;cases bi
    ·rw[b0.1 _ _ e z]at bi;cases bi
  refine K2 (.ref a7) b1 c2 rj bx _ ((b0.same cr).same bu) ((b8.same cr).same bu) (.inr (xan a7 sp rfl (jAEA ups bh (bu _ _ ups) (da.tups (Same.tups (cr.trans bu)))) aw)) ⟨by omega,ak,λp9 ge=>?_⟩;obtain⟨j,hj⟩:=List.getElem?_of_mem ge;have iu:=(zES hj).1
  have f1:bx.length=hd.boxes.length:=by
   have:=congrArg List.length ak;rw[zLM,zLM]at this;exact this
  have dh:bx[j]?=some (bx[j]'(by omega)):=zGA _
  have e1:(bx[j]'(by omega)).1=p9.1:=by
   have g:(bx.map (·.1))[j]?=(hd.boxes.map (·.1))[j]?:=by rw[ak]
   rw[zGM,zGM,dh,hj]at g;exact Option.some.inj g
  refine(jEA _ ?_ (cy j p9 _ hj dh));rw[<- e1];exact xjm (by rw[ak];exact Z.nd) (zMG dh)
 refine(xbu _ rfl a _ rfl (.inl hS) _ _ rfl rfl (jEA _ rfl (ite2 (λc1=>?_) (λc1=>?_))))
 ·cases ns with
  |nil=>exact absurd (of_decide_eq_true c1) (by decide)
  |cons n0 ns=>
   refine(xaa _ rfl a _ _ _ rfl rfl hS (xa2 (j:=0) rfl) (xbh _ _ rfl rfl ⟨by decide,by decide⟩ (jEA _ rfl (λb H1 aj s1 gt J Z bo=>K1 b H1 aj s1 J Z bo))))
 ·exact(jEA _ rfl (λb H1 aj s1 gt J Z bo=>K1 b H1 aj s1 J Z bo))
theorem law_is(T:Tx K a):DefIs P w K a base 100 "law" ["_law_script"] (spLaw K):=by
 have take:∀k,DefIs P w K a base (k+1) "_law_take" qad xcp:=λk=>xdm T;have size:DefIs P w K a base 28 "_law_size" qab (xgp 6):=(xnl T 6 (by omega)).mono (by omega);have o:DefIs P w K a base 30 "_law_parts" qaw xj9:=xnv T (take 28) (size.mono (by omega));have l:∀k,DefIs P w K a base (k+2) "_law_any_kind" qak xpi:=λk=>xis T (take k);have c:DefIs P w K a base 45 "worth" qae (xc3 (λks=>Ev ks 21) 6):=xk8 T 21 6 (by omega);have e:∀k,DefIs P w K a base (k+2) "hand_of" qac xfi:=λk=>xmj (n:=k+1) T (xp0 T);have f:∀k,DefIs P w K a base (k+3) "row_at" qai xg8:=λk=>xn4 (n:=k+2) T (e k);have g:DefIs P w K a base 50 "stride" qas xg7:=xn3 (n:=49) T (f 46) (xhk (n:=48) T (xko T) (c.mono (by omega))) (xf0 (n:=48) T (xq8 T) (c.mono (by omega)));have u:DefIs P w K a base 51 "done" qau xnf:=xsf (n:=50) T (f 47) g (xfz T) (c.mono (by omega));have step:MethIs P w K a base 99 (ad K "Lone") "step" qaa [[]] (xkc K):=xiv (n:=98) T (u.mono (by omega));have m:∀k,MethIs P w K a base (k+2) (ad K "Lone") "stand" qaa [[]] (xg9 K):=λk=>xhm (n:=k+1) T (xe3 T);have r:∀k,MethIs P w K a base (k+2) (ad K "Lone") "sent" qaa [[]] (xd3 K LSt.goi):=λk=>xiw (n:=k+1) T (xe4 T);have left:∀k,MethIs P w K a base (k+2) (ad K "Lone") "left" qaa [[]] (xd3 K LSt.com):=λk=>xix (n:=k+1) T (xe4 T);have init:MethIs P w K a base 98 (ad K "Lone") "__init__" qam [[.none],[]] (xkd K):=xiy (n:=97) T (xkq (n:=96) T (e 94) ((xi0 T 6).mono (by omega))) (xe3 T) (xgl T) (xfd T)
 have i:DefIs P w K a base 80 "_law_new_term" qah xh4:=xkr T;have j:∀k,DefIs P w K a base (k+1) "_law_into" qap xle:=λk=>xpv T;have x:DefIs P w K a base 81 "_law_deal" qay xng:=xpx (n:=80) T (take 79) (j 79) i;have s:DefIs P w K a base 82 "_law_rows" qaz xru:=xpt (n:=81) T (take 80) (j 80) (i.mono (by omega)) x;have p:DefIs P w K a base 83 "_law_hands" qa1 (xke K):=xnz (n:=82) T (xfk T) (xn0 (n:=81) T (take 80) (l 79)) s;have make:DefIs P w K a base 84 "_law_make" qa0 (xm8 K):=xpu (n:=83) T (xfk T) (take 82) ((xny T (take 29) o).mono (by omega)) (xir (n:=82) T (take 81) (l 80)) p;exact xt8 (n:=98) T (xfk T) (take 98) (xnw T) (make.mono (by omega)) (xkm (n:=98) T (xfk T) (take 97) ((xg3 T 6).mono (by omega))) ((xgv T 6).mono (by omega)) ((xg3 T 6).mono (by omega)) (xnx T) (xpw (n:=98) T (c.mono (by omega))) (xn2 (n:=98) T (m 96) (xiu T) (r 96) (left 96) (xhn T)) init step
end
end K34
end
end
namespace PySem.W.Fast
theorem tw9096063316443366828:0=0:=rfl
theorem tw8842831365868936587:0=0:=rfl
theorem tw4686620169760348241:0=0:=rfl
theorem tw2764125114206425897:0=0:=rfl
theorem tw13644240367024650078:0=0:=rfl
theorem tw2015953089742528554:0=0:=rfl
theorem tw7915959296116852266:0=0:=rfl
theorem tw6161035201037943031:0=0:=rfl
theorem tw11057541889603544504:0=0:=rfl
theorem tw17398784464074239038:0=0:=rfl
theorem tw10081735349471088572:0=0:=rfl
theorem tw3412332659883830880:0=0:=rfl
theorem tw14194570244804210668:0=0:=rfl
theorem tw9334852870226354157:0=0:=rfl
theorem tw18199482480910081709:0=0:=rfl
theorem tw15290581181061927416:0=0:=rfl
theorem tw11826448038191945198:0=0:=rfl
theorem tw1625036391594552910:0=0:=rfl
theorem tw13708433726766744564:0=0:=rfl
theorem tw18086506205123727715:0=0:=rfl
theorem tw4671191441018467149:0=0:=rfl
theorem tw15782777676744112344:0=0:=rfl
theorem tw2241574632462783004:0=0:=rfl
theorem tw6977359114003902633:0=0:=rfl
theorem tw6912293134659158016:0=0:=rfl
theorem tw4657869899358258153:0=0:=rfl
theorem tw4488104309195764385:0=0:=rfl
theorem tw14293540963292788161:0=0:=rfl
theorem tw8551707684644964580:0=0:=rfl
theorem tw14360788113346429633:0=0:=rfl
theorem tw13337817389636540458:0=0:=rfl
theorem tw7103937295504465552:0=0:=rfl
theorem tw549469980957538362:0=0:=rfl
theorem tw4864690800000534138:0=0:=rfl
theorem tw15877138047387099421:0=0:=rfl
theorem tw2307229785698919228:0=0:=rfl
theorem tw15494371174725465274:0=0:=rfl
theorem tw18007388318477621322:0=0:=rfl
theorem tw3200742624197654780:0=0:=rfl
theorem tw12328256988920738960:0=0:=rfl
theorem tw14730387458480911426:0=0:=rfl
theorem tw261661513119699531:0=0:=rfl
theorem tw652799951155438788:0=0:=rfl
theorem tw15902754843645132706:0=0:=rfl
theorem tw327354789444931664:0=0:=rfl
theorem tw4344873366622054993:0=0:=rfl
theorem tw15920649105206194571:0=0:=rfl
theorem tw4660012841560218157:0=0:=rfl
theorem tw15245906295671298280:0=0:=rfl
theorem tw12711621534091619523:0=0:=rfl
theorem tw11585211416052571607:0=0:=rfl
theorem tw11885828028280613483:0=0:=rfl
theorem tw9002654776808514854:0=0:=rfl
theorem tw11697428527782610695:0=0:=rfl
theorem tw13687238347064115728:0=0:=rfl
theorem tw9382840496941413499:0=0:=rfl
theorem tw2826709760070936019:0=0:=rfl
theorem tw8555670187212443415:0=0:=rfl
theorem tw13833568515824540678:0=0:=rfl
theorem tw205938429074089580:0=0:=rfl
theorem tw8131061341171851287:0=0:=rfl
theorem tw12569939131912660293:0=0:=rfl
theorem tw17357819708126009697:0=0:=rfl
theorem tw9854553890149163227:0=0:=rfl
theorem tw15129919994119307840:0=0:=rfl
theorem tw13197981527094143624:0=0:=rfl
theorem tw10920109321529383332:0=0:=rfl
theorem tw10991379170366318660:0=0:=rfl
theorem tw12738680647466073832:0=0:=rfl
theorem tw10870987003707063199:0=0:=rfl
theorem tw2778244742835934535:0=0:=rfl
theorem tw9729426300568093761:0=0:=rfl
theorem tw8696618431994748542:0=0:=rfl
theorem tw9047815785832253155:0=0:=rfl
theorem tw1916589602569537835:0=0:=rfl
theorem tw15526751456271752179:0=0:=rfl
theorem tw7636988564569595574:0=0:=rfl
theorem tw13816302080196823746:0=0:=rfl
theorem tw16344232085327145775:0=0:=rfl
theorem tw13657642038318997601:0=0:=rfl
theorem tw3283321871710304647:0=0:=rfl
theorem tw2077617378251808509:0=0:=rfl
theorem tw11378950220387206261:0=0:=rfl
theorem tw4986484102472362529:0=0:=rfl
theorem tw11967468655589831449:0=0:=rfl
theorem tw15505880214694733385:0=0:=rfl
theorem tw11103307396056258735:0=0:=rfl
theorem tw8051297443776557978:0=0:=rfl
theorem tw938639516614088377:0=0:=rfl
theorem tw9893233543158563677:0=0:=rfl
theorem tw2859855891687540167:0=0:=rfl
theorem tw15775775001207537224:0=0:=rfl
theorem tw3471984526258696248:0=0:=rfl
theorem tw9506263090546342176:0=0:=rfl
theorem tw10243085582743007072:0=0:=rfl
theorem tw11487403759789609051:0=0:=rfl
theorem tw1790167434654951981:0=0:=rfl
theorem tw13739869900277807379:0=0:=rfl
theorem tw4800166806618373964:0=0:=rfl
theorem tw16070106181191847206:0=0:=rfl
theorem tw2601855543850832484:0=0:=rfl
theorem tw7520891089273932550:0=0:=rfl
theorem tw3905265540976451977:0=0:=rfl
theorem tw10797550804107445805:0=0:=rfl
theorem tw4319771936747321083:0=0:=rfl
theorem tw13076741337263482861:0=0:=rfl
theorem tw13176374720157929698:0=0:=rfl
theorem tw18403934932626953847:0=0:=rfl
theorem tw11824480511533798557:0=0:=rfl
theorem tw9375601625061523125:0=0:=rfl
theorem tw14024920238244034244:0=0:=rfl
theorem tw9678624457948689095:0=0:=rfl
theorem tw15041498973652564737:0=0:=rfl
theorem tw2825107851919250832:0=0:=rfl
theorem tw10401194638994463960:0=0:=rfl
theorem tw3685175428317287529:0=0:=rfl
theorem tw4664070771520768903:0=0:=rfl
theorem tw10360071758305278722:0=0:=rfl
theorem tw9512868274355756336:0=0:=rfl
theorem tw17926032001990677988:0=0:=rfl
theorem tw5479243713683074703:0=0:=rfl
theorem tw16894416422619214232:0=0:=rfl
theorem tw10039549876174370168:0=0:=rfl
theorem tw1118828729251425165:0=0:=rfl
theorem tw6996351823516340541:0=0:=rfl
theorem tw15735058956191788609:0=0:=rfl
theorem tw6348168483800240089:0=0:=rfl
theorem tw13821945770797630983:0=0:=rfl
theorem tw7506410518900945726:0=0:=rfl
theorem tw8502913131716378715:0=0:=rfl
theorem tw15306995364204425389:0=0:=rfl
theorem tw2791689343619730071:0=0:=rfl
theorem tw12618921289784599049:0=0:=rfl
theorem tw1910559032731503153:0=0:=rfl
theorem tw9140836318786649787:0=0:=rfl
theorem tw2440151220435425466:0=0:=rfl
theorem tw3631193242575058506:0=0:=rfl
theorem tw909913721207003262:0=0:=rfl
theorem tw12589744603574853825:0=0:=rfl
theorem tw16296495094778422690:0=0:=rfl
theorem tw11023124725383558166:0=0:=rfl
theorem tw3279251971950254840:0=0:=rfl
theorem tw11788544335409712495:0=0:=rfl
theorem tw3863074815193101390:0=0:=rfl
theorem tw1642774457154770497:0=0:=rfl
theorem tw1176940986479614176:0=0:=rfl
theorem tw3174079038689586715:0=0:=rfl
theorem tw5967436878347279648:0=0:=rfl
theorem tw12948257682966343911:0=0:=rfl
theorem tw15061612893616880192:0=0:=rfl
theorem tw9766416964199160465:0=0:=rfl
theorem tw715389325250821862:0=0:=rfl
theorem tw8386225867141484784:0=0:=rfl
theorem tw13036731814179204164:0=0:=rfl
theorem tw1182545975853642888:0=0:=rfl
theorem tw11464245404896401164:0=0:=rfl
theorem tw8682121747396624225:0=0:=rfl
theorem tw2565637178836605681:0=0:=rfl
theorem tw9747361926141642678:0=0:=rfl
theorem tw13763355212712474448:0=0:=rfl
theorem tw2838039319995489731:0=0:=rfl
theorem tw373370502211257242:0=0:=rfl
theorem tw2411323847797667742:0=0:=rfl
theorem tw8308386083215836569:0=0:=rfl
theorem tw14315341246058505048:0=0:=rfl
theorem tw17571531977370458471:0=0:=rfl
theorem tw11046959477224953324:0=0:=rfl
theorem tw16509715920910142706:0=0:=rfl
theorem tw14412583056267676807:0=0:=rfl
theorem tw2704893041143272924:0=0:=rfl
theorem tw14591262439526721:0=0:=rfl
theorem tw3771531638174654210:0=0:=rfl
theorem tw696995586543655408:0=0:=rfl
theorem tw14614013612589393162:0=0:=rfl
theorem tw1829839722693424130:0=0:=rfl
theorem tw16710914566950058500:0=0:=rfl
theorem tw7640393887040514502:0=0:=rfl
theorem tw739308808316752298:0=0:=rfl
theorem tw8665380217236975385:0=0:=rfl
theorem tw6816142983118080776:0=0:=rfl
theorem tw18157598474979245892:0=0:=rfl
theorem tw4406724435821086003:0=0:=rfl
theorem tw6198275410133312496:0=0:=rfl
theorem tw15384199800891321927:0=0:=rfl
theorem tw15009872982239524000:0=0:=rfl
theorem tw2658983837637710248:0=0:=rfl
theorem tw11532517451167090330:0=0:=rfl
theorem tw2730609673342141737:0=0:=rfl
theorem tw9882846878583436476:0=0:=rfl
theorem tw15828840618864512404:0=0:=rfl
theorem tw11041763036119244627:0=0:=rfl
theorem tw12365488554574854785:0=0:=rfl
theorem tw5279878388961138913:0=0:=rfl
theorem tw4465071328929505013:0=0:=rfl
theorem tw4807633119222491571:0=0:=rfl
theorem tw3437186968519746783:0=0:=rfl
theorem tw9331301923028769670:0=0:=rfl
theorem tw6125257693765694640:0=0:=rfl
theorem tw6434061713918544020:0=0:=rfl
theorem tw4055442694705237705:0=0:=rfl
theorem tw13608732690729583533:0=0:=rfl
theorem tw12036265461444418295:0=0:=rfl
theorem tw1229863156246297056:0=0:=rfl
theorem tw6856020926891083394:0=0:=rfl
theorem tw11589139006839950591:0=0:=rfl
theorem tw6683215718762202518:0=0:=rfl
theorem tw3437752258972519406:0=0:=rfl
theorem tw11573377976296946936:0=0:=rfl
theorem tw83056285524934876:0=0:=rfl
theorem tw13165052373588672298:0=0:=rfl
theorem tw1482911671600053581:0=0:=rfl
theorem tw16868486540014853338:0=0:=rfl
theorem tw14962048634806389880:0=0:=rfl
theorem tw998869078924707603:0=0:=rfl
theorem tw4514993786550700883:0=0:=rfl
theorem tw16117774854181876578:0=0:=rfl
theorem tw12692020692564214990:0=0:=rfl
theorem tw2837366920965911071:0=0:=rfl
theorem tw8215712960219908041:0=0:=rfl
theorem tw11459217641264806094:0=0:=rfl
theorem tw18092316483949083882:0=0:=rfl
theorem tw7050493470807472120:0=0:=rfl
theorem tw15275399707405808721:0=0:=rfl
theorem tw8185230095999270004:0=0:=rfl
theorem tw1653794462233331041:0=0:=rfl
theorem tw11393866339157265897:0=0:=rfl
theorem tw9309569640143353227:0=0:=rfl
theorem tw1651689328433630173:0=0:=rfl
theorem tw8928269754011998272:0=0:=rfl
theorem tw5064478177677159972:0=0:=rfl
theorem tw121088743305637391:0=0:=rfl
theorem tw1479313526422785970:0=0:=rfl
theorem tw6624932627889960074:0=0:=rfl
theorem tw8720037436454095831:0=0:=rfl
theorem tw12985279583651647960:0=0:=rfl
theorem tw9225027384547665836:0=0:=rfl
theorem tw2083849729360271990:0=0:=rfl
end PySem.W.Fast
open PySem PySem.W PyProof.Rows
set_option maxRecDepth 100000 in
set_option maxHeartbeats 0 in
theorem PySem.Challenge.cw_swapstride_k34_rows_of_a_lone_hand_holds : PySem.Challenge.rw_swapstride_k34_rows_of_a_lone_hand.Holds := by
 w_on;o_law;k_head;(case hw=>w_witness2)
 k_fill
 refine L2.walk_of (l:=PySem.Challenge.rw_swapstride_k34_rows_of_a_lone_hand) (n:=63) (k:=100) (x:="_law_script") (CX:=λ_=>L2.CX0) (sp:=λ_=>K34.spLaw _) rfl (by decide) rfl ⟨rfl,by decide,by decide⟩ (λw h Y=>PySem.W.kIn_of Y) ?F (λ_ _ a ns hl _ hS=>⟨a,ns,rfl,hS,hl,λ_=>rfl⟩) λ_ _ _ _ _ z=>z
 case F=>
  intro w mg fa h KX G hmg
  have jA:L2.DefTx (L2.KOf KX) mg "row_ways" K34.s_row_ways ["row","k"]:=by
   walk_at"d"
  have jB:L2.DefTx (L2.KOf KX) mg "hand_of" K34.s_hand_of L2.qac:=by
   walk_at"d"
  have jC:L2.DefTx (L2.KOf KX) mg "named" K34.s_named L2.qa3:=by
   walk_at"d"
  have jD:L2.DefTx (L2.KOf KX) mg "channels_from" K34.s_channels_from L2.qac:=by
   walk_at"d"
  have jE:L2.DefTx (L2.KOf KX) mg "channels_to" K34.s_channels_to L2.qac:=by
   walk_at"d"
  have jF:L2.DefTx (L2.KOf KX) mg "sort_of" K34.s_sort_of L2.qag:=by
   walk_at"d"
  have jG:L2.DefTx (L2.KOf KX) mg "parts_of" K34.s_parts_of L2.qag:=by
   walk_at"d"
  have jH:L2.DefTx (L2.KOf KX) mg "with_box" K34.s_with_box L2.qan:=by
   walk_at"d"
  have jI:L2.DefTx (L2.KOf KX) mg "nought" K34.s_nought L2.qao:=by
   walk_at"d"
  have jJ:L2.DefTx (L2.KOf KX) mg "field" K34.s_field L2.qa4:=by
   walk_at"d"
  have jK:L2.DefTx (L2.KOf KX) mg "worth" K34.s_worth L2.qae:=by
   walk_at"d"
  have jL:L2.DefTx (L2.KOf KX) mg "op_worth" K34.s_op_worth L2.qaq:=by
   walk_at"d"
  have jM:L2.DefTx (L2.KOf KX) mg "case_worth" K34.s_case_worth L2.qae:=by
   walk_at"d"
  have jN:L2.DefTx (L2.KOf KX) mg "begin_of" K34.s_begin_of L2.qac:=by
   walk_at"d"
  have jO:L2.DefTx (L2.KOf KX) mg "own_stand" K34.s_own_stand ["stand"]:=by
   walk_at"d"
  have jP:L2.DefTx (L2.KOf KX) mg "own_lists" K34.s_own_lists ["lists"]:=by
   walk_at"d"
  have jQ:L2.DefTx (L2.KOf KX) mg "row_at" K34.s_row_at L2.qai:=by
   walk_at"d"
  have jR:L2.DefTx (L2.KOf KX) mg "first_letter" K34.s_first_letter L2.qar:=by
   walk_at"d"
  have jS:L2.DefTx (L2.KOf KX) mg "stride" K34.s_stride L2.qas:=by
   walk_at"d"
  have jT:L2.DefTx (L2.KOf KX) mg "row_behind" K34.s_row_behind L2.qa5:=by
   walk_at"d"
  have jU:L2.DefTx (L2.KOf KX) mg "boxes_behind" K34.s_boxes_behind L2.qat:=by
   walk_at"d"
  have jV:L2.DefTx (L2.KOf KX) mg "done" K34.s_done L2.qau:=by
   walk_at"d"
  have jW:L2.DefTx (L2.KOf KX) mg "_law_feed" K34.sl_feed L2.qaj:=by
   walk_at"d"
  have jX:L2.DefTx (L2.KOf KX) mg "_law_take" K34.sl_take L2.qad:=by
   walk_at"d"
  have jY:L2.DefTx (L2.KOf KX) mg "_law_names" K34.sl_names L2.qa6:=by
   walk_at"d"
  have jZ:L2.DefTx (L2.KOf KX) mg "_law_number" K34.sl_number L2.qav:=by
   walk_at"d"
  have j8:L2.DefTx (L2.KOf KX) mg "_law_sort_of" K34.sl_sort_of L2.qab:=by
   walk_at"d"
  have j9:L2.DefTx (L2.KOf KX) mg "_law_size" K34.sl_size L2.qab:=by
   walk_at"d"
  have kA:L2.DefTx (L2.KOf KX) mg "_law_small" K34.sl_small L2.qab:=by
   walk_at"d"
  have kB:L2.DefTx (L2.KOf KX) mg "_law_parts" K34.sl_parts L2.qaw:=by
   walk_at"d"
  have kC:L2.DefTx (L2.KOf KX) mg "_law_kinds" K34.sl_kinds L2.qa7:=by
   walk_at"d"
  have kD:L2.DefTx (L2.KOf KX) mg "_law_boxed" K34.sl_boxed L2.qax:=by
   walk_at"d"
  have kE:L2.DefTx (L2.KOf KX) mg "_law_arms" K34.sl_arms L2.qa8:=by
   walk_at"d"
  have kF:L2.DefTx (L2.KOf KX) mg "_law_whole_term" K34.sl_whole_term L2.qaf:=by
   walk_at"d"
  have kG:L2.DefTx (L2.KOf KX) mg "_law_term" K34.sl_term L2.qaf:=by
   walk_at"d"
  have kH:L2.DefTx (L2.KOf KX) mg "_law_new_term" K34.sl_new_term L2.qah:=by
   walk_at"d"
  have kI:L2.DefTx (L2.KOf KX) mg "_law_any_kind" K34.sl_any_kind L2.qak:=by
   walk_at"d"
  have kJ:L2.DefTx (L2.KOf KX) mg "_law_channels" K34.sl_channels L2.qa9:=by
   walk_at"d"
  have kK:L2.DefTx (L2.KOf KX) mg "_law_boxes" K34.sl_boxes L2.qba:=by
   walk_at"d"
  have kL:L2.DefTx (L2.KOf KX) mg "_law_into" K34.sl_into L2.qap:=by
   walk_at"d"
  have kM:L2.DefTx (L2.KOf KX) mg "_law_deal" K34.sl_deal L2.qay:=by
   walk_at"d"
  have kN:L2.DefTx (L2.KOf KX) mg "_law_rows" K34.sl_rows L2.qaz:=by
   walk_at"d"
  have kO:L2.DefTx (L2.KOf KX) mg "_law_make" K34.sl_make L2.qa0:=by
   walk_at"d"
  have kP:L2.DefTx (L2.KOf KX) mg "_law_hands" K34.sl_hands L2.qa1:=by
   walk_at"d"
  have kQ:L2.DefTx (L2.KOf KX) mg "_law_value" K34.sl_value L2.qal:=by
   walk_at"d"
  have kR:L2.DefTx (L2.KOf KX) mg "_law_nought" K34.sl_nought L2.qab:=by
   walk_at"d"
  have kS:L2.DefTx (L2.KOf KX) mg "_law_letters" K34.sl_letters L2.qbb:=by
   walk_at"d"
  have kT:L2.DefTx (L2.KOf KX) mg "_law_model" K34.sl_model L2.qbc:=by
   walk_at"d"
  have kU:L2.DefTx (L2.KOf KX) mg "_law_done" K34.sl_done L2.qa2:=by
   walk_at"d"
  have kW:L2.DefTx (L2.KOf KX) mg "_law_alike" K34.sl_alike L2.qbd:=by
   walk_at"d"
  have kX:L2.DefTx (L2.KOf KX) mg "law" K34.s_law ["_law_script"]:=by
   walk_at"d"
  have kY:∃t,mg "WIDE"=some (.int 4294967296 t):=by
   refine' L2.gint_mk KX G ?a
   (case a=>k_is)
  have kZ:mg "bool"=none:=by
   refine' PySem.W.mg_none_of KX G ?a
   (case a=>k_is)
  have k0:mg "dict"=none:=by
   refine' PySem.W.mg_none_of KX G ?a
   (case a=>k_is)
  have k3:mg "int"=none:=by
   refine' PySem.W.mg_none_of KX G ?a
   (case a=>k_is)
  have k4:mg "isinstance"=none:=by
   refine' PySem.W.mg_none_of KX G ?a
   (case a=>k_is)
  have k5:mg "len"=none:=by
   refine' PySem.W.mg_none_of KX G ?a
   (case a=>k_is)
  have k6:mg "list"=none:=by
   refine' PySem.W.mg_none_of KX G ?a
   (case a=>k_is)
  have k7:mg "max"=none:=by
   refine' PySem.W.mg_none_of KX G ?a
   (case a=>k_is)
  have k8:mg "min"=none:=by
   refine' PySem.W.mg_none_of KX G ?a
   (case a=>k_is)
  have k9:mg "range"=none:=by
   refine' PySem.W.mg_none_of KX G ?a
   (case a=>k_is)
  have uA:mg "sum"=none:=by
   refine' PySem.W.mg_none_of KX G ?a
   (case a=>k_is)
  have uB:mg "tuple"=none:=by
   refine' PySem.W.mg_none_of KX G ?a
   (case a=>k_is)
  have uC:mg "Lone"=some (.ref (L2.ad (L2.KOf KX) "Lone")):=by
   refine' PySem.W.mg_of KX G ?a
   (case a=>kernel_rfl)
  have uD:L2.DTab (L2.KOf KX) "Lone" L2.qbg:=by
   refine' L2.dtab_of ?a
   (case a=>kernel_rfl)
  have uE:L2.MethTx (L2.KOf KX) "Lone.__init__" (L2.ad (L2.KOf KX) "Lone") "__init__" K34.s_Lone_init L2.qam [[.none],[]]:=by
   dsimp only[L2.KOf];refine' L2.meth_mkD ?a ?i ?n ?l ?c ?k ?d ?e ?b
   (case a=>k_is);(case i=>k_is);(case n=>k_is);(case l=>k_is);(case c=>k_is);(case k=>k_is);(case d=>k_is);(case e=>rfl)
   (case b=>exact K34.bind_Lone_init)
  have uF:L2.MethTx (L2.KOf KX) "Lone.step" (L2.ad (L2.KOf KX) "Lone") "step" K34.s_Lone_step L2.qaa [[]]:=by
   dsimp only[L2.KOf];refine' L2.meth_mk ?a ?i ?n ?l ?c ?k ?b
   (case a=>k_is);(case i=>k_is);(case n=>k_is);(case l=>k_is);(case c=>k_is);(case k=>k_is)
   (case b=>exact λ_ _ _ _ _ _ us hl=>match us,hl with |[_],_=>rfl)
  have uG:L2.MethTx (L2.KOf KX) "Lone.stand" (L2.ad (L2.KOf KX) "Lone") "stand" K34.s_Lone_stand L2.qaa [[]]:=by
   dsimp only[L2.KOf];refine' L2.meth_mk ?a ?i ?n ?l ?c ?k ?b
   (case a=>k_is);(case i=>k_is);(case n=>k_is);(case l=>k_is);(case c=>k_is);(case k=>k_is)
   (case b=>exact λ_ _ _ _ _ _ us hl=>match us,hl with |[_],_=>rfl)
  have uH:L2.MethTx (L2.KOf KX) "Lone.told" (L2.ad (L2.KOf KX) "Lone") "told" K34.s_Lone_told L2.qaa [[]]:=by
   dsimp only[L2.KOf];refine' L2.meth_mk ?a ?i ?n ?l ?c ?k ?b
   (case a=>k_is);(case i=>k_is);(case n=>k_is);(case l=>k_is);(case c=>k_is);(case k=>k_is)
   (case b=>exact λ_ _ _ _ _ _ us hl=>match us,hl with |[_],_=>rfl)
  have uI:L2.MethTx (L2.KOf KX) "Lone.sent" (L2.ad (L2.KOf KX) "Lone") "sent" K34.s_Lone_sent L2.qaa [[]]:=by
   dsimp only[L2.KOf];refine' L2.meth_mk ?a ?i ?n ?l ?c ?k ?b
   (case a=>k_is);(case i=>k_is);(case n=>k_is);(case l=>k_is);(case c=>k_is);(case k=>k_is)
   (case b=>exact λ_ _ _ _ _ _ us hl=>match us,hl with |[_],_=>rfl)
  have uJ:L2.MethTx (L2.KOf KX) "Lone.left" (L2.ad (L2.KOf KX) "Lone") "left" K34.s_Lone_left L2.qaa [[]]:=by
   dsimp only[L2.KOf];refine' L2.meth_mk ?a ?i ?n ?l ?c ?k ?b
   (case a=>k_is);(case i=>k_is);(case n=>k_is);(case l=>k_is);(case c=>k_is);(case k=>k_is)
   (case b=>exact λ_ _ _ _ _ _ us hl=>match us,hl with |[_],_=>rfl)
  have uK:L2.MethTx (L2.KOf KX) "Lone.count" (L2.ad (L2.KOf KX) "Lone") "count" K34.s_Lone_count L2.qaa [[]]:=by
   dsimp only[L2.KOf];refine' L2.meth_mk ?a ?i ?n ?l ?c ?k ?b
   (case a=>k_is);(case i=>k_is);(case n=>k_is);(case l=>k_is);(case c=>k_is);(case k=>k_is)
   (case b=>exact λ_ _ _ _ _ _ us hl=>match us,hl with |[_],_=>rfl)
  have T:K34.Tx (L2.KOf KX) mg:=⟨jA,jB,jC,jD,jE,jF,jG,jH,jI,jJ,jK,jL,jM,jN,jO,jP,jQ,jR,jS,jT,jU,jV,jW,jX,jY,jZ,j8,j9,kA,kB,kC,kD,kE,kF,kG,kH,kI,kJ,kK,kL,kM,kN,kO,kP,kQ,kR,kS,kT,kU,kW,kX,kY,kZ,k0,k3,k4,k5,k6,k7,k8,k9,uA,uB,uC,uD,uE,uF,uG,uH,uI,uJ,uK⟩;exact L2.law_top kX hmg λbase=>K34.law_is T
