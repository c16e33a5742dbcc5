import PyProof.Rows.All
import Wide.All
import OpenK.AllK
import Wide.FinOn
import Lean
import PyProof.EqAt
import PyProof.EqKinds
import PyProof.TupleCall
import PyProof.ZipIter
import PyProof.ListNew
import PyProof.TupleIter
import PyProof.WalksMore
import KE.KIntText
import PyProof.Rows.EqBoolInt
import PyProof.Rows.ZipGen
import PySem.Str
import PyProof.StrLawsTight
import PyProof.StrLawsIdx
import PyProof.StrLawsIn
import PyProof.Rows.SetFrom
import KE.KDictSum
import PyProof.Rows.SortWalk
import PyProof.NeKinds
import KE.KDictList
import KE.KRevIter
import PyProof.EnumMake
import PyProof.Rows.EnumRows
import PyProof.ExcInit
import PyProof.InstStoreFacts
import PyProof.ExcArgsOwn
import PyProof.ExcAttrAll.ValueError
import PyProof.ExcBaseAll.ValueError
import PyProof.ConsumeWalk
import PyProof.AttrMissHeap
import KE.KItemsList
import KE.KEqDict
import PyProof.StationsW
import PyProof.RulesAs
import PyProof.NsDelKeeps
import PyProof.ListMulRoad
import PyProof.FactsAll.tuple
import OpenK.KMore
import PyProof.DictWalks
import KE.KPairComp
import PySem.Challenge.RW_swapstride_k54_whole_over_to_itself
set_option Elab.async false
set_option linter.all false
set_option maxRecDepth 100000
set_option maxHeartbeats 4000000
abbrev Fg:=PySem.W.Frag
local macro_rules | `(tactic| walk_at"o")=>`(tactic| first |exact Or.inl rfl |exact Or.inr rfl)
local macro_rules | `(tactic| walk_at"q")=>`(tactic| exact⟨rfl,rfl,rfl,by decide +kernel,rfl,by decide +kernel,by decide +kernel⟩)
local macro_rules | `(tactic| walk_at"k")=>`(tactic| decide +kernel)
local macro_rules | `(tactic| walk_at"c")=>`(tactic| ((case a=>k_is);(case l=>k_is);(case c=>k_is);(case k=>k_is)))
set_option hygiene false in
local macro_rules | `(tactic| walk_at"d")=>`(tactic| (dsimp only[L2.KOf];refine' L2.deftx_mk KX G ?a ?l ?c ?k ?b;(case a=>k_is);(case l=>k_is);(case c=>k_is);(case k=>k_is);(case b=>(intro _ _ _ _ _ _ us hl;first |(obtain⟨_,rfl⟩:=L2.ln1 hl;rfl) |(obtain⟨_,_,rfl⟩:=L2.ln2 hl;rfl) |(obtain⟨_,_,_,rfl⟩:=L2.ln3 hl;rfl) |(obtain⟨_,_,_,_,rfl⟩:=L2.ln4 hl;rfl) |(obtain⟨_,_,_,_,_,rfl⟩:=L2.ln5 hl;rfl) |(obtain⟨_,_,_,_,_,_,rfl⟩:=L2.ln6 hl;rfl) |(obtain⟨_,_,_,_,_,_,_,rfl⟩:=L2.ln7 hl;rfl)))))
set_option hygiene false in
local macro_rules | `(tactic| walk_at"i")=>`(tactic| first |intro f cdv A outer s H vs Q E hr h |intro vs H Q E h)
local macro_rules | `(tactic| walk_at"s")=>`(tactic| first |(show 2 ≤ PySem.sizeLine;decide) |(show 3 ≤ PySem.sizeLine;decide) |(show 1 ≤ PySem.sizeLine;decide) |(show 0 ≤ PySem.sizeLine;decide) |(show 4 ≤ PySem.sizeLine;decide) |(show 5 ≤ PySem.sizeLine;decide) |(show 6 ≤ PySem.sizeLine;decide) |(show 8 ≤ PySem.sizeLine;decide))
theorem zGA{α:Type _}{l:List α}{i:Nat}(h:i<l.length):l[i]?=some l[i]:=List.getElem?_eq_getElem h
theorem zMS{α β:Type _}{f:α→β}{x:Option α}{b:β}(h:x.map f=some b):∃a,x=some a∧f a=b:=Option.map_eq_some_iff.mp h
theorem zLM{α β:Type _}{as:List α}(f:α→β):(as.map f).length=as.length:=List.length_map f
theorem zGM{α β:Type _}{f:α→β}{l:List α}{i:Nat}:(l.map f)[i]?=l[i]?.map f:=List.getElem?_map
theorem zES{α:Type _}{l:List α}{i:Nat}{a:α}(h:l[i]?=some a):∃h:i<l.length,l[i]=a:=List.getElem?_eq_some_iff.mp h
theorem zMG{α:Type _}{l:List α}{i:Nat}{a:α}(e:l[i]?=some a):a∈l:=List.mem_of_getElem? e
theorem zTL{α:Type _}{i:Nat}{l:List α}(h:l.length ≤ i):l.take i=l:=List.take_of_length_le h
theorem zMA{α:Type _}{a:α}{s t:List α}(h:a∈s++t):a∈s∨a∈t:=List.mem_append.mp h
theorem zMO{α:Type _}{a b:α}(h:a∈[b]):a=b:=List.mem_singleton.mp h
theorem zDT{p:Prop}[Decidable p](h:p):decide p=true:=decide_eq_true h
theorem zDF{p:Prop}[Decidable p](h:¬p):decide p=false:=decide_eq_false h
local macro_rules | `(tactic| walk_at"l")=>`(tactic| (intro vs H Q E h;(repeat (rcases h with⟨_,h⟩)) <;> (subst_vars;rfl)))
local macro_rules | `(tactic| walk_at"rd1")=>`(tactic| first
 |refine⟨_,rfl,?_⟩
 |refine⟨_,_,rfl,rfl,?_⟩
 |refine⟨_,_,_,_,rfl,rfl,(by assumption),(by first |rfl |assumption),?_⟩
 |refine⟨_,_,rfl,.inl (by assumption),?_⟩
 |refine⟨(by first |exact .inr ⟨by decide,by decide⟩ |exact .inl ⟨by decide,by decide⟩ |exact⟨by decide,by decide,by decide⟩ |exact⟨by decide,by decide⟩ |exact⟨by assumption,by assumption⟩ |(show(0:Int)<_;first |decide |assumption)),?_⟩
 |refine⟨rfl,?_⟩)
local macro_rules | `(tactic| walk_at"rd")=>`(tactic| repeat walk_at"rd1")
local macro_rules | `(tactic| walk_at"rd1")=>`(tactic| first
 |refine⟨_,rfl,?_⟩
 |refine⟨_,_,rfl,rfl,?_⟩
 |refine⟨_,_,_,_,rfl,rfl,(by assumption),(by first |rfl |assumption),?_⟩
 |refine⟨rfl,?_⟩
 |refine M.iteKF (by walk_at"k") ?_
 |refine M.iteKT (by walk_at"k") ?_)
section
open PySem
theorem zPO{h:Heap}{a:Addr}{u:Obj}(o:Obj)(e:h.get? a=some u):(h.push o).get? a=some u:=Heap.get?_push_of_some o e
theorem zLA{α:Type _}{as bs:List α}:(as++bs).length=as.length+bs.length:=List.length_append
theorem zMF{α:Type _}{p:α→Bool}{a:α}{l:List α}(h:l.find? p=some a):a∈l:=List.mem_of_find?_eq_some h
theorem zTA{α:Type _}{l:List α}{i:Nat}:l.take (i+1)=l.take i++l[i]?.toList:=List.take_add_one
theorem zMI{α:Type _}{a:α}{l:List α}(h:a∈l):∃(i:Nat) (h:i<l.length),l[i]=a:=List.mem_iff_getElem.mp h
theorem zMC{α:Type _}{a b:α}{l:List α}(h:a∈b::l):a=b∨a∈l:=List.mem_cons.mp h
theorem zMP{α β:Type _}{b:β}{f:α→β}{l:List α}(h:b∈l.map f):∃a,a∈l∧f a=b:=List.mem_map.mp h
theorem zAP{α β:Type _}{f:α→β}{as bs:List α}:(as++bs).map f=as.map f++bs.map f:=List.map_append
end
namespace L2
theorem ln1{α:Type}{l:List α}(h:l.length=1):∃a,l=[a]:=match l,h with |[a],_=>⟨a,rfl⟩
theorem ln2{α:Type}{l:List α}(h:l.length=2):∃a b,l=[a,b]:=match l,h with |[a,b],_=>⟨a,b,rfl⟩
theorem ln3{α:Type}{l:List α}(h:l.length=3):∃a b c,l=[a,b,c]:=match l,h with |[a,b,c],_=>⟨a,b,c,rfl⟩
theorem ln4{α:Type}{l:List α}(h:l.length=4):∃a b c d,l=[a,b,c,d]:=match l,h with |[a,b,c,d],_=>⟨a,b,c,d,rfl⟩
theorem ln5{α:Type}{l:List α}(h:l.length=5):∃a b c d e,l=[a,b,c,d,e]:=match l,h with |[a,b,c,d,e],_=>⟨a,b,c,d,e,rfl⟩
theorem ln6{α:Type}{l:List α}(h:l.length=6):∃a b c d e f,l=[a,b,c,d,e,f]:=match l,h with |[a,b,c,d,e,f],_=>⟨a,b,c,d,e,f,rfl⟩
theorem ln7{α:Type}{l:List α}(h:l.length=7):∃a b c d e f g,l=[a,b,c,d,e,f,g]:=match l,h with |[a,b,c,d,e,f,g],_=>⟨a,b,c,d,e,f,g,rfl⟩
end L2
section
theorem gcut{A:Prop}(h:∀G:Prop,(A->G)->G):A:=h A id
theorem jAA{p:Prop}{q:Prop}{F:Prop}(H0:p)(H1:q)(k:F):p/\q/\F:=⟨H0,H1,k⟩
theorem jAAA{p:Prop}{q:Prop}{r:Prop}{F:Prop}(H0:p)(H1:q)(H2:r)(k:F):p/\q/\r/\F:=⟨H0,H1,H2,k⟩
theorem jAE{p:Prop}{a:Sort _}{F:a->Prop}(H0:p)(u:a)(k:F u):p/\∃u,F u:=⟨H0,u,k⟩
theorem jAEA{p:Prop}{a:Sort _}{q:a->Prop}{F:a->Prop}(H0:p)(u:a)(H1:q u)(k:F u):p/\∃u,q u/\F u:=⟨H0,u,H1,k⟩
theorem jEA{a:Sort _}{p:a->Prop}{F:a->Prop}(u:a)(H0:p u)(k:F u):∃u,p u/\F u:=⟨u,H0,k⟩
theorem jEAA{a:Sort _}{p:a->Prop}{q:a->Prop}{F:a->Prop}(u:a)(H0:p u)(H1:q u)(k:F u):∃u,p u/\q u/\F u:=⟨u,H0,H1,k⟩
theorem xb7{a:Sort _}{p:a->Prop}{q:a->Prop}{r:a->Prop}{F:a->Prop}(u:a)(H0:p u)(H1:q u)(H2:r u)(k:F u):∃u,p u/\q u/\r u/\F u:=⟨u,H0,H1,H2,k⟩
theorem xcy{a:Sort _}{p:a->Prop}{q:a->Prop}{r:a->Prop}{i:a->Prop}{F:a->Prop}(u:a)(H0:p u)(H1:q u)(H2:r u)(H3:i u)(k:F u):∃u,p u/\q u/\r u/\i u/\F u:=⟨u,H0,H1,H2,H3,k⟩
theorem xa7{a:Sort _}{p:a->Prop}{q:a->Prop}{r:a->Prop}{i:a->Prop}{j:a->Prop}{F:a->Prop}(u:a)(H0:p u)(H1:q u)(H2:r u)(H3:i u)(H4:j u)(k:F u):∃u,p u/\q u/\r u/\i u/\j u/\F u:=⟨u,H0,H1,H2,H3,H4,k⟩
theorem xbt{a:Sort _}{p:a->Prop}{q:a->Prop}{r:a->Prop}{i:a->Prop}{b:Sort _}{j:a->b->Prop}{F:a->b->Prop}(u:a)(H0:p u)(H1:q u)(H2:r u)(H3:i u)(v:b)(H4:j u v)(k:F u v):∃u,p u/\q u/\r u/\i u/\∃v,j u v/\F u v:=⟨u,H0,H1,H2,H3,v,H4,k⟩
theorem xba{a:Sort _}{p:a->Prop}{q:a->Prop}{b:Sort _}{r:a->b->Prop}{F:a->b->Prop}(u:a)(H0:p u)(H1:q u)(v:b)(H2:r u v)(k:F u v):∃u,p u/\q u/\∃v,r u v/\F u v:=⟨u,H0,H1,v,H2,k⟩
theorem xb4{a:Sort _}{p:a->Prop}{q:a->Prop}{b:Sort _}{c:Sort _}{r:a->b->c->Prop}{i:a->b->c->Prop}{F:a->b->c->Prop}(u:a)(H0:p u)(H1:q u)(v:b)(w:c)(H2:r u v w)(H3:i u v w)(k:F u v w):∃u,p u/\q u/\∃v,∃w,r u v w/\i u v w/\F u v w:=⟨u,H0,H1,v,w,H2,H3,k⟩
theorem xa9{a:Sort _}{p:a->Prop}{b:Sort _}{q:a->b->Prop}{r:a->b->Prop}{F:a->b->Prop}(u:a)(H0:p u)(v:b)(H1:q u v)(H2:r u v)(k:F u v):∃u,p u/\∃v,q u v/\r u v/\F u v:=⟨u,H0,v,H1,H2,k⟩
theorem xct{a:Sort _}{p:a->Prop}{b:Sort _}{q:a->b->Prop}{r:a->b->Prop}{c:Sort _}{i:a->b->c->Prop}{F:a->b->c->Prop}(u:a)(H0:p u)(v:b)(H1:q u v)(H2:r u v)(w:c)(H3:i u v w)(k:F u v w):∃u,p u/\∃v,q u v/\r u v/\∃w,i u v w/\F u v w:=⟨u,H0,v,H1,H2,w,H3,k⟩
theorem xb0{a:Sort _}{p:a->Prop}{b:Sort _}{q:a->b->Prop}{c:Sort _}{r:a->b->c->Prop}{d:Sort _}{i:a->b->c->d->Prop}{e:Sort _}{j:a->b->c->d->e->Prop}{F:a->b->c->d->e->Prop}(u:a)(H0:p u)(v:b)(H1:q u v)(w:c)(H2:r u v w)(x:d)(H3:i u v w x)(y:e)(H4:j u v w x y)(k:F u v w x y):∃u,p u/\∃v,q u v/\∃w,r u v w/\∃x,i u v w x/\∃y,j u v w x y/\F u v w x y:=⟨u,H0,v,H1,w,H2,x,H3,y,H4,k⟩
theorem xav{a:Sort _}{p:a->Prop}{b:Sort _}{q:a->b->Prop}{c:Sort _}{r:a->b->c->Prop}{d:Sort _}{e:Sort _}{F:a->b->c->d->e->Prop}(u:a)(H0:p u)(v:b)(H1:q u v)(w:c)(H2:r u v w)(x:d)(y:e)(k:F u v w x y):∃u,p u/\∃v,q u v/\∃w,r u v w/\∃x,∃y,F u v w x y:=⟨u,H0,v,H1,w,H2,x,y,k⟩
theorem xbc{a:Sort _}{p:a->Prop}{b:Sort _}{q:a->b->Prop}{c:Sort _}{r:a->b->c->Prop}{d:Sort _}{e:Sort _}{i:a->b->c->d->e->Prop}{j:a->b->c->d->e->Prop}{F:a->b->c->d->e->Prop}(u:a)(H0:p u)(v:b)(H1:q u v)(w:c)(H2:r u v w)(x:d)(y:e)(H3:i u v w x y)(H4:j u v w x y)(k:F u v w x y):∃u,p u/\∃v,q u v/\∃w,r u v w/\∃x,∃y,i u v w x y/\j u v w x y/\F u v w x y:=⟨u,H0,v,H1,w,H2,x,y,H3,H4,k⟩
theorem xbr{a:Sort _}{p:a->Prop}{b:Sort _}{q:a->b->Prop}{c:Sort _}{d:Sort _}{r:a->b->c->d->Prop}{i:a->b->c->d->Prop}{e:Sort _}{F:a->b->c->d->e->Prop}(u:a)(H0:p u)(v:b)(H1:q u v)(w:c)(x:d)(H2:r u v w x)(H3:i u v w x)(y:e)(k:F u v w x y):∃u,p u/\∃v,q u v/\∃w,∃x,r u v w x/\i u v w x/\∃y,F u v w x y:=⟨u,H0,v,H1,w,x,H2,H3,y,k⟩
theorem xbw{a:Sort _}{p:a->Prop}{b:Sort _}{q:a->b->Prop}{c:Sort _}{d:Sort _}{r:a->b->c->d->Prop}{i:a->b->c->d->Prop}{e:Sort _}{j:a->b->c->d->e->Prop}{F:a->b->c->d->e->Prop}(u:a)(H0:p u)(v:b)(H1:q u v)(w:c)(x:d)(H2:r u v w x)(H3:i u v w x)(y:e)(H4:j u v w x y)(k:F u v w x y):∃u,p u/\∃v,q u v/\∃w,∃x,r u v w x/\i u v w x/\∃y,j u v w x y/\F u v w x y:=⟨u,H0,v,H1,w,x,H2,H3,y,H4,k⟩
theorem xal{a:Sort _}{p:a->Prop}{b:Sort _}{q:a->b->Prop}{c:Sort _}{d:Sort _}{e:Sort _}{F:a->b->c->d->e->Prop}(u:a)(H0:p u)(v:b)(H1:q u v)(w:c)(x:d)(y:e)(k:F u v w x y):∃u,p u/\∃v,q u v/\∃w,∃x,∃y,F u v w x y:=⟨u,H0,v,H1,w,x,y,k⟩
theorem xa8{a:Sort _}{p:a->Prop}{b:Sort _}{q:a->b->Prop}{c:Sort _}{d:Sort _}{e:Sort _}{r:a->b->c->d->e->Prop}{i:a->b->c->d->e->Prop}{F:a->b->c->d->e->Prop}(u:a)(H0:p u)(v:b)(H1:q u v)(w:c)(x:d)(y:e)(H2:r u v w x y)(H3:i u v w x y)(k:F u v w x y):∃u,p u/\∃v,q u v/\∃w,∃x,∃y,r u v w x y/\i u v w x y/\F u v w x y:=⟨u,H0,v,H1,w,x,y,H2,H3,k⟩
theorem xah{a:Sort _}{p:a->Prop}{b:Sort _}{c:Sort _}{q:a->b->c->Prop}{r:a->b->c->Prop}{F:a->b->c->Prop}(u:a)(H0:p u)(v:b)(w:c)(H1:q u v w)(H2:r u v w)(k:F u v w):∃u,p u/\∃v,∃w,q u v w/\r u v w/\F u v w:=⟨u,H0,v,w,H1,H2,k⟩
theorem xb3{a:Sort _}{p:a->Prop}{b:Sort _}{c:Sort _}{d:Sort _}{q:a->b->c->d->Prop}{r:a->b->c->d->Prop}{F:a->b->c->d->Prop}(u:a)(H0:p u)(v:b)(w:c)(x:d)(H1:q u v w x)(H2:r u v w x)(k:F u v w x):∃u,p u/\∃v,∃w,∃x,q u v w x/\r u v w x/\F u v w x:=⟨u,H0,v,w,x,H1,H2,k⟩
theorem xbh{a:Sort _}{p:a->Prop}{b:Sort _}{c:Sort _}{d:Sort _}{e:Sort _}{F:a->b->c->d->e->Prop}(u:a)(H0:p u)(v:b)(w:c)(x:d)(y:e)(k:F u v w x y):∃u,p u/\∃v,∃w,∃x,∃y,F u v w x y:=⟨u,H0,v,w,x,y,k⟩
theorem xaa{a:Sort _}{p:a->Prop}{b:Sort _}{c:Sort _}{d:Sort _}{e:Sort _}{q:a->b->c->d->e->Prop}{r:a->b->c->d->e->Prop}{i:a->b->c->d->e->Prop}{j:a->b->c->d->e->Prop}{F:a->b->c->d->e->Prop}(u:a)(H0:p u)(v:b)(w:c)(x:d)(y:e)(H1:q u v w x y)(H2:r u v w x y)(H3:i u v w x y)(H4:j u v w x y)(k:F u v w x y):∃u,p u/\∃v,∃w,∃x,∃y,q u v w x y/\r u v w x y/\i u v w x y/\j u v w x y/\F u v w x y:=⟨u,H0,v,w,x,y,H1,H2,H3,H4,k⟩
theorem jEE{a:Sort _}{b:Sort _}{F:a->b->Prop}(u:a)(v:b)(k:F u v):∃u,∃v,F u v:=⟨u,v,k⟩
theorem jEEA{a:Sort _}{b:Sort _}{p:a->b->Prop}{F:a->b->Prop}(u:a)(v:b)(H0:p u v)(k:F u v):∃u,∃v,p u v/\F u v:=⟨u,v,H0,k⟩
theorem xaq{a:Sort _}{b:Sort _}{p:a->b->Prop}{q:a->b->Prop}{F:a->b->Prop}(u:a)(v:b)(H0:p u v)(H1:q u v)(k:F u v):∃u,∃v,p u v/\q u v/\F u v:=⟨u,v,H0,H1,k⟩
theorem xcv{a:Sort _}{b:Sort _}{p:a->b->Prop}{q:a->b->Prop}{r:a->b->Prop}{F:a->b->Prop}(u:a)(v:b)(H0:p u v)(H1:q u v)(H2:r u v)(k:F u v):∃u,∃v,p u v/\q u v/\r u v/\F u v:=⟨u,v,H0,H1,H2,k⟩
theorem xcb{a:Sort _}{b:Sort _}{p:a->b->Prop}{q:a->b->Prop}{r:a->b->Prop}{i:a->b->Prop}{F:a->b->Prop}(u:a)(v:b)(H0:p u v)(H1:q u v)(H2:r u v)(H3:i u v)(k:F u v):∃u,∃v,p u v/\q u v/\r u v/\i u v/\F u v:=⟨u,v,H0,H1,H2,H3,k⟩
theorem xak{a:Sort _}{b:Sort _}{p:a->b->Prop}{q:a->b->Prop}{r:a->b->Prop}{i:a->b->Prop}{j:a->b->Prop}{F:a->b->Prop}(u:a)(v:b)(H0:p u v)(H1:q u v)(H2:r u v)(H3:i u v)(H4:j u v)(k:F u v):∃u,∃v,p u v/\q u v/\r u v/\i u v/\j u v/\F u v:=⟨u,v,H0,H1,H2,H3,H4,k⟩
theorem xao{a:Sort _}{b:Sort _}{p:a->b->Prop}{q:a->b->Prop}{r:a->b->Prop}{c:Sort _}{d:Sort _}{i:a->b->c->d->Prop}{e:Sort _}{F:a->b->c->d->e->Prop}(u:a)(v:b)(H0:p u v)(H1:q u v)(H2:r u v)(w:c)(x:d)(H3:i u v w x)(y:e)(k:F u v w x y):∃u,∃v,p u v/\q u v/\r u v/\∃w,∃x,i u v w x/\∃y,F u v w x y:=⟨u,v,H0,H1,H2,w,x,H3,y,k⟩
theorem xag{a:Sort _}{b:Sort _}{p:a->b->Prop}{q:a->b->Prop}{c:Sort _}{d:Sort _}{r:a->b->c->d->Prop}{i:a->b->c->d->Prop}{e:Sort _}{F:a->b->c->d->e->Prop}(u:a)(v:b)(H0:p u v)(H1:q u v)(w:c)(x:d)(H2:r u v w x)(H3:i u v w x)(y:e)(k:F u v w x y):∃u,∃v,p u v/\q u v/\∃w,∃x,r u v w x/\i u v w x/\∃y,F u v w x y:=⟨u,v,H0,H1,w,x,H2,H3,y,k⟩
theorem jEEE{a:Sort _}{b:Sort _}{c:Sort _}{F:a->b->c->Prop}(u:a)(v:b)(w:c)(k:F u v w):∃u,∃v,∃w,F u v w:=⟨u,v,w,k⟩
theorem xpw{a:Sort _}{b:Sort _}{c:Sort _}{p:a->b->c->Prop}{F:a->b->c->Prop}(u:a)(v:b)(w:c)(H0:p u v w)(k:F u v w):∃u,∃v,∃w,p u v w/\F u v w:=⟨u,v,w,H0,k⟩
theorem xcx{a:Sort _}{b:Sort _}{c:Sort _}{p:a->b->c->Prop}{q:a->b->c->Prop}{F:a->b->c->Prop}(u:a)(v:b)(w:c)(H0:p u v w)(H1:q u v w)(k:F u v w):∃u,∃v,∃w,p u v w/\q u v w/\F u v w:=⟨u,v,w,H0,H1,k⟩
theorem xda{a:Sort _}{b:Sort _}{c:Sort _}{p:a->b->c->Prop}{q:a->b->c->Prop}{r:a->b->c->Prop}{F:a->b->c->Prop}(u:a)(v:b)(w:c)(H0:p u v w)(H1:q u v w)(H2:r u v w)(k:F u v w):∃u,∃v,∃w,p u v w/\q u v w/\r u v w/\F u v w:=⟨u,v,w,H0,H1,H2,k⟩
theorem xam{a:Sort _}{b:Sort _}{c:Sort _}{p:a->b->c->Prop}{q:a->b->c->Prop}{r:a->b->c->Prop}{i:a->b->c->Prop}{F:a->b->c->Prop}(u:a)(v:b)(w:c)(H0:p u v w)(H1:q u v w)(H2:r u v w)(H3:i u v w)(k:F u v w):∃u,∃v,∃w,p u v w/\q u v w/\r u v w/\i u v w/\F u v w:=⟨u,v,w,H0,H1,H2,H3,k⟩
theorem xap{a:Sort _}{b:Sort _}{c:Sort _}{d:Sort _}{p:a->b->c->d->Prop}{q:a->b->c->d->Prop}{r:a->b->c->d->Prop}{i:a->b->c->d->Prop}{F:a->b->c->d->Prop}(u:a)(v:b)(w:c)(x:d)(H0:p u v w x)(H1:q u v w x)(H2:r u v w x)(H3:i u v w x)(k:F u v w x):∃u,∃v,∃w,∃x,p u v w x/\q u v w x/\r u v w x/\i u v w x/\F u v w x:=⟨u,v,w,x,H0,H1,H2,H3,k⟩
theorem xbd{a:Sort _}{b:Sort _}{c:Sort _}{d:Sort _}{p:a->b->c->d->Prop}{q:a->b->c->d->Prop}{r:a->b->c->d->Prop}{i:a->b->c->d->Prop}{j:a->b->c->d->Prop}{F:a->b->c->d->Prop}(u:a)(v:b)(w:c)(x:d)(H0:p u v w x)(H1:q u v w x)(H2:r u v w x)(H3:i u v w x)(H4:j u v w x)(k:F u v w x):∃u,∃v,∃w,∃x,p u v w x/\q u v w x/\r u v w x/\i u v w x/\j u v w x/\F u v w x:=⟨u,v,w,x,H0,H1,H2,H3,H4,k⟩
theorem xbg{a:Sort _}{b:Sort _}{c:Sort _}{d:Sort _}{p:a->b->c->d->Prop}{q:a->b->c->d->Prop}{r:a->b->c->d->Prop}{i:a->b->c->d->Prop}{j:a->b->c->d->Prop}{g:a->b->c->d->Prop}{F:a->b->c->d->Prop}(u:a)(v:b)(w:c)(x:d)(H0:p u v w x)(H1:q u v w x)(H2:r u v w x)(H3:i u v w x)(H4:j u v w x)(H5:g u v w x)(k:F u v w x):∃u,∃v,∃w,∃x,p u v w x/\q u v w x/\r u v w x/\i u v w x/\j u v w x/\g u v w x/\F u v w x:=⟨u,v,w,x,H0,H1,H2,H3,H4,H5,k⟩
theorem xbf{a:Sort _}{b:Sort _}{c:Sort _}{d:Sort _}{p:a->b->c->d->Prop}{q:a->b->c->d->Prop}{r:a->b->c->d->Prop}{i:a->b->c->d->Prop}{e:Sort _}{F:a->b->c->d->e->Prop}(u:a)(v:b)(w:c)(x:d)(H0:p u v w x)(H1:q u v w x)(H2:r u v w x)(H3:i u v w x)(y:e)(k:F u v w x y):∃u,∃v,∃w,∃x,p u v w x/\q u v w x/\r u v w x/\i u v w x/\∃y,F u v w x y:=⟨u,v,w,x,H0,H1,H2,H3,y,k⟩
theorem xaj{a:Sort _}{b:Sort _}{c:Sort _}{d:Sort _}{e:Sort _}{F:a->b->c->d->e->Prop}(u:a)(v:b)(w:c)(x:d)(y:e)(k:F u v w x y):∃u,∃v,∃w,∃x,∃y,F u v w x y:=⟨u,v,w,x,y,k⟩
theorem xb2{a:Sort _}{b:Sort _}{c:Sort _}{d:Sort _}{e:Sort _}{p:a->b->c->d->e->Prop}{q:a->b->c->d->e->Prop}{r:a->b->c->d->e->Prop}{i:a->b->c->d->e->Prop}{F:a->b->c->d->e->Prop}(u:a)(v:b)(w:c)(x:d)(y:e)(H0:p u v w x y)(H1:q u v w x y)(H2:r u v w x y)(H3:i u v w x y)(k:F u v w x y):∃u,∃v,∃w,∃x,∃y,p u v w x y/\q u v w x y/\r u v w x y/\i u v w x y/\F u v w x y:=⟨u,v,w,x,y,H0,H1,H2,H3,k⟩
theorem xat{a:Sort _}{b:Sort _}{c:Sort _}{d:Sort _}{e:Sort _}{p:a->b->c->d->e->Prop}{q:a->b->c->d->e->Prop}{r:a->b->c->d->e->Prop}{i:a->b->c->d->e->Prop}{j:a->b->c->d->e->Prop}{F:a->b->c->d->e->Prop}(u:a)(v:b)(w:c)(x:d)(y:e)(H0:p u v w x y)(H1:q u v w x y)(H2:r u v w x y)(H3:i u v w x y)(H4:j u v w x y)(k:F u v w x y):∃u,∃v,∃w,∃x,∃y,p u v w x y/\q u v w x y/\r u v w x y/\i u v w x y/\j u v w x y/\F u v w x y:=⟨u,v,w,x,y,H0,H1,H2,H3,H4,k⟩
end
section
namespace L2
open PySem PySem.Spec PyProof.Rows
abbrev Key:=Sum Int Str
def xmf:Key->Value->Bool
 |.inl k,v=>Value.isInt k v
 |.inr x,v=>Value.isStrOf x v
def keyH(w:World):Key->Int
 |.inl k=>hashInt k
 |.inr x=>hashStr w x
theorem xbz:∀{k:Key} {v:Value},xmf k v=true->(∃i t,k=Sum.inl i/\v=Value.int i t)\/(∃x t,k=Sum.inr x/\v=Value.str x t)
 |.inl i,v,h=>by
  obtain⟨t,e⟩:=Value.isInt_shape (k:=i) (v:=v) h;exact .inl ⟨i,t,rfl,e⟩
 |.inr x,v,h=>by
  obtain⟨t,e⟩:=Value.isStrOf_shape (x:=x) (v:=v) h;exact .inr ⟨x,t,rfl,e⟩
theorem xob(i:Int)(t:Tok):xmf (.inl i) (.int i t)=true:=by simp[xmf,Value.isInt]
theorem xoa(x:Str)(t:Tok):xmf (.inr x) (.str x t)=true:=by simp[xmf,Value.isStrOf]
theorem xtg(a b:Int):decide ((Sum.inl a:Key)=Sum.inl b)=(a == b):=by
 by_cases e:a=b
 ·subst e;simp
 ·have h:¬(Sum.inl a:Key)=Sum.inl b:=λq=>e (Sum.inl.inj q)
  rw[zDF h];exact(beq_eq_false_iff_ne.mpr e).symm
theorem xtd(a b:Str):decide ((Sum.inr a:Key)=Sum.inr b)=decide (a=b):=by
 by_cases e:a=b
 ·subst e;simp
 ·have h:¬(Sum.inr a:Key)=Sum.inr b:=λq=>e (Sum.inr.inj q)
  rw[zDF h,zDF e]
theorem xtf(a:Int)(b:Str):decide ((Sum.inl a:Key)=Sum.inr b)=false:=zDF (λq=>nomatch q)
theorem xte(a:Str)(b:Int):decide ((Sum.inr a:Key)=Sum.inl b)=false:=zDF (λq=>nomatch q)
def xbv(prog:Program)(w:World):PySem.KeyKind prog w Key where
 is:=xmf
 hash:=keyH w
 inj:=λv a b ha hb=>by
  rcases xbz ha with⟨i,t,rfl,rfl⟩ |⟨x,t,rfl,rfl⟩
  ·rcases xbz hb with⟨j,u,rfl,e⟩ |⟨y,u,rfl,e⟩
   ·injection e with e1 _;rw[e1]
   ·exact nomatch e
  ·rcases xbz hb with⟨j,u,rfl,e⟩ |⟨y,u,rfl,e⟩
   ·exact nomatch e
   ·injection e with e1 _;rw[e1]
 byValue:=λk v h=>by
  rcases xbz h with⟨i,t,rfl,rfl⟩ |⟨x,t,rfl,rfl⟩ <;> rfl
 pyHash:=λhv h=>by
  rcases xbz hv with⟨i,t,rfl,rfl⟩ |⟨x,t,rfl,rfl⟩
  ·exact wpAny_pyHash_int h
  ·exact wpAny_pyHash_str h
 eqBool:=λhu hv h=>by
  rcases xbz hu with⟨i,t,rfl,rfl⟩ |⟨x,t,rfl,rfl⟩
  ·rcases xbz hv with⟨j,u,rfl,rfl⟩ |⟨y,u,rfl,rfl⟩
   ·rw[xtg]at h;exact wpAny_eqBool_int h
   ·rw[xtf]at h;exact SeqAt.EqAt.int_str i t y u _ _ _ _ h
  ·rcases xbz hv with⟨j,u,rfl,rfl⟩ |⟨y,u,rfl,rfl⟩
   ·rw[xte]at h;exact SeqAt.EqAt.str_int x t j u _ _ _ _ h
   ·rw[xtd]at h;exact wpAny_eqBool_str h
 «strs»:=λk x t v h=>by
  rcases xbz h with⟨i,u,rfl,e⟩ |⟨y,u,rfl,e⟩
  ·exact nomatch e
  ·injection e with e1 _
   subst e1;cases v <;> rfl
theorem xj5(prog:Program)(w:World)(i:Int)(t:Tok):(xbv prog w).is (.inl i) (.int i t)=true:=xob i t
theorem xj4(prog:Program)(w:World)(x:Str)(t:Tok):(xbv prog w).is (.inr x) (.str x t)=true:=xoa x t
inductive V where
 |non |bl (b:Bool) |int (i:Int) |str (x:Str) |byt (b:Array UInt8) |flt (b:UInt64) |ref (a:Addr) |ty (n:String)
 deriving DecidableEq
def RelV:V->Value->Prop
 |.non,u=>u=Value.none
 |.bl b,u=>u=Value.bool b
 |.int i,u=>∃t,u=Value.int i t
 |.str x,u=>∃t,u=Value.str x t
 |.byt b,u=>∃t,u=Value.bytes b t
 |.flt b,u=>∃t,u=Value.float b t
 |.ref a,u=>u=Value.ref a
 |.ty n,u=>u=Value.type n
abbrev Vals:List V->List Value->Prop:=Paired RelV
theorem Vals.length{xs:List V}{us:List Value}(r:Vals xs us):xs.length=us.length:=Paired.length r
theorem Vals.get:∀{xs:List V} {us:List Value} {i:Nat} {x:V},Vals xs us->xs[i]?=some x->∃u,us[i]?=some u/\RelV x u
 |_,_,_,_,.nil,e=>by simp at e
 |_,_,0,_,.cons r _,e=>by simp at e;subst e;exact⟨_,rfl,r⟩
 |_,_,i+1,x,.cons _ t,e=>by
  obtain⟨u,h1,h2⟩:=Vals.get (i:=i) (x:=x) t (by simpa using e);exact⟨u,by simpa using h1,h2⟩
theorem Vals.set{x:V}{u:Value}(r:RelV x u):∀{xs:List V} {us:List Value} (i:Nat),Vals xs us->Vals (xs.set i x) (us.set i u)
 |_,_,_,.nil=>.nil
 |_,_,0,.cons _ t=>.cons r t
 |_,_,i+1,.cons q t=>.cons q (Vals.set r i t)
theorem Vals.append:∀{xs ys:List V} {us ws:List Value},Vals xs us->Vals ys ws->Vals (xs++ys) (us++ws)
 |_,_,_,_,.nil,s=>s
 |_,_,_,_,.cons r t,s=>.cons r (Vals.append t s)
theorem Vals.take:∀{xs:List V} {us:List Value} (n:Nat),Vals xs us->Vals (xs.take n) (us.take n)
 |_,_,0,_=>.nil
 |_,_,_+1,.nil=>.nil
 |_,_,n+1,.cons r t=>.cons r (Vals.take n t)
theorem Vals.drop:∀{xs:List V} {us:List Value} (n:Nat),Vals xs us->Vals (xs.drop n) (us.drop n)
 |_,_,0,r=>r
 |_,_,_+1,.nil=>.nil
 |_,_,n+1,.cons _ t=>Vals.drop n t
def RelO:Option V->Option Value->Prop
 |some v,some u=>RelV v u
 |none,none=>True
 |_,_=>False
def KV{κ:Type}:List (κ×V)->List (κ×Value)->Prop:=Paired λ(p:κ×V) (q:κ×Value)=>p.1=q.1/\RelV p.2 q.2
def kV:Key->V
 |.inl i=>.int i
 |.inr x=>.str x
inductive HO where
 |lst (xs:List V)
 |tup (xs:List V)
 |dK (kvs:List (Key×V)) |dT (kvs:List (List Key×V))
 |set (S:Int->Bool) (n:Nat)
 |ins (C dx:Addr) (fs:List (Str×V))
 |own (x:Addr)
 |xd (fs:List (Str×V))
 |met (f x:Addr)
 |rng (lo hi:Int)
 |frz (o:Obj) (u:HO)
 |tbl (ps:Array Value)
 |ext (φ:Heap->Prop)
abbrev Hp:=Addr->Option HO
def upd(H:Hp)(a:Addr)(o:HO):Hp:=λb=>if b=a then some o else H b
theorem ups{H:Hp}{a:Addr}{o:HO}:upd H a o a=some o:=by unfold upd;rw[if_pos rfl]
theorem xai{H:Hp}{a b:Addr}{o:HO}(h:b≠a):upd H a o b=H b:=by unfold upd;rw[if_neg h]
theorem xfv{H:Hp}{a:Addr}{o u:HO}:upd (upd H a o) a u=upd H a u:=by
 funext b;unfold upd;split <;> rfl
theorem xuk{H:Hp}{a b:Addr}{o u:HO}(h:H a=some o)(h':H b=some u)(d:o≠u):a≠b:=by
 intro e;subst e;rw[h]at h';exact d (Option.some.inj h')
theorem neN{H:Hp}{a b:Addr}{o:HO}(h:H a=some o)(h':H b=none):a≠b:=by
 intro e;subst e;rw[h]at h';cases h'
section
variable (P:Program)(w:World)
def ObjOk(H:Hp)(h:Heap)(a:Addr):HO->Prop
 |.lst xs=>xs.length<=sizeLine/\∃(its:List Value) (n:Nat),Vals xs its/\h.get? a=some {cls:=.type "list",data:=.seq its.toArray n}
 |.tup xs=>xs.length<=sizeLine/\∃its:List Value,Vals xs its/\∃o,h.get? a=some o/\o.cls=.type "tuple"/\∃n,o.data=.seq its.toArray n/\o.dict=none
 |.dK kvs=>kvs.length<=sizeLine/\(a == sysModules)=false/\∃vs,KV kvs vs/\h.DictOf (xbv P w) a vs
 | .dT kvs=>kvs.length<=sizeLine/\(a == sysModules)=false/\∃xs:List (List Key×Addr×Value),
   Paired (λ(p:List Key×V) (q:List Key×Addr×Value)=>p.1=q.1/\H q.2.1=some (.tup (p.1.map kV))/\RelV p.2 q.2.2) kvs xs ∧
   ∃o es ep,h.get? a=some o/\o.ExactDict/\o.data=.dict es ep/\es.toList=xs.map (entryOfKey (tupleKind (xbv P w)))/\(xs.map (·.1)).Nodup
 |.set S n=>h.SetOf (intKind P w) a S n
 | .ins C dx fs=>H dx=some (.own a)/\fs.length<=1000/\dx≠a/\h.get? a=some (PySem.W.instObj C dx) ∧
   ∃mA,h.Ns1 dx mA/\(∀f,RelO (fs.lookup f) (mA f))/\PySem.Within mA (fs.map (·.1))
 |.own _=>∃o,h.get? a=some o
 |.xd fs=>∃mA,h.Ns1 a mA/\∀f,RelO (fs.lookup f) (mA f)
 |.rng lo hi=>∃t u v,h.get? a=some {cls:=.type "range",data:=.fields #[.int lo t,.int hi u,.int 1 v]}
 |.frz o u=>h.get? a=some o/\ObjOk H h a u
 |.tbl ps=>h.get? a=some {cls:=.none,data:=.fields ps}
 |.met f x=>h.get? a=some (PySem.W.methodObj (.ref f) (.ref x))
 |.ext φ=>φ h/\(∃o,h.get? a=some o)/\∀h1 h2:Heap,φ h1->(∀o,h1.get? a=some o->h2.get? a=some o)->φ h2
def HOk(H:Hp)(h:Heap):Prop:=∀a o,H a=some o->ObjOk P w H h a o
end
section
variable {P:Program}{w:World}{H H':Hp}{h h':Heap}{a:Addr}{o:HO}
theorem ObjOk.lt(x:ObjOk P w H h a o):a<h.objs.size:=by
 cases o with
 |lst xs=>obtain⟨_,_,_,_,e⟩:=x;exact Heap.lt_size e
 |tup xs=>obtain⟨_,_,_,_,e,_⟩:=x;exact Heap.lt_size e
 |dK kvs=>obtain⟨_,_,_,_,o,_,_,e,_⟩:=x;exact Heap.lt_size e
 |dT kvs=>obtain⟨_,_,_,_,o,_,_,e,_⟩:=x;exact Heap.lt_size e
 |set S n=>obtain⟨o,_,_,_,e,_⟩:=x;exact Heap.lt_size e
 |ins C dx fs=>obtain⟨_,_,_,e,_⟩:=x;exact Heap.lt_size e
 |own y=>obtain⟨_,e⟩:=x;exact Heap.lt_size e
 |xd fs=>obtain⟨_,⟨_,_,_,e,_⟩,_⟩:=x;exact Heap.lt_size e
 |rng lo hi=>obtain⟨_,_,_,e⟩:=x;exact Heap.lt_size e
 |frz b u=>obtain⟨e,_⟩:=x;exact Heap.lt_size e
 |tbl ps=>exact Heap.lt_size (show h.get? a=some _ from x)
 |met f y=>exact Heap.lt_size (show h.get? a=some _ from x)
 |ext φ=>obtain⟨_,⟨_,e⟩,_⟩:=x;exact Heap.lt_size e
theorem Paired.mapP{α β:Type}{F G:α->β->Prop}:∀{e:List α} {c:List β},Paired F e c->(∀a b,F a b->G a b)->Paired G e c
 |_,_,.nil,_=>.nil
 |_,_,.cons r t,f=>.cons (f _ _ r) (Paired.mapP t f)
theorem ObjOk.stay (x:ObjOk P w H h a o) (k:∀b u,(b=a\/H b=some (.own a))->h.get? b=some u->h'.get? b=some u)
  (ho:∀b,H b=some (.own a)->H' b=some (.own a)) (ht:∀b xs,H b=some (.tup xs)->H' b=some (.tup xs)):ObjOk P w H' h' a o:=by
 induction o with
 |lst xs=>obtain⟨z,its,n,r,e⟩:=x;exact⟨z,its,n,r,k _ _ (.inl rfl) e⟩
 |tup xs=>obtain⟨z,its,r,ob,e,c⟩:=x;exact⟨z,its,r,ob,k _ _ (.inl rfl) e,c⟩
 |dK kvs=>obtain⟨z,y,vs,r,ob,es,ep,e,c⟩:=x;exact⟨z,y,vs,r,ob,es,ep,k _ _ (.inl rfl) e,c⟩
 |dT kvs=>
  obtain⟨z,y,xs,r,ob,es,ep,e,c⟩:=x;exact⟨z,y,xs,Paired.mapP r λp q z=>⟨z.1,ht _ _ z.2.1,z.2.2⟩,ob,es,ep,k _ _ (.inl rfl) e,c⟩
 |set S n=>obtain⟨ob,es,ep,t,e,c⟩:=x;exact⟨ob,es,ep,t,k _ _ (.inl rfl) e,c⟩
 |ins C dx fs=>
  obtain⟨d,z,ne,e,mA,⟨od,es,ep,e2,c⟩,r⟩:=x;exact⟨ho _ d,z,ne,k _ _ (.inl rfl) e,mA,⟨od,es,ep,k _ _ (.inr d) e2,c⟩,r⟩
 |own y=>obtain⟨ob,e⟩:=x;exact⟨ob,k _ _ (.inl rfl) e⟩
 |xd fs=>obtain⟨mA,⟨od,es,ep,e,c⟩,r⟩:=x;exact⟨mA,⟨od,es,ep,k _ _ (.inl rfl) e,c⟩,r⟩
 |rng lo hi=>obtain⟨t,u,v,e⟩:=x;exact⟨t,u,v,k _ _ (.inl rfl) e⟩
 |frz ob u ih=>obtain⟨e,q⟩:=x;exact⟨k _ _ (.inl rfl) e,ih q⟩
 |tbl ps=>
  have e:h.get? a=some {cls:=.none,data:=.fields ps}:=x;show h'.get? a=some {cls:=.none,data:=.fields ps};exact k a _ (.inl rfl) e
 |met f y=>
  have e:h.get? a=some (PySem.W.methodObj (.ref f) (.ref y)):=x;show h'.get? a=some (PySem.W.methodObj (.ref f) (.ref y));exact k a _ (.inl rfl) e
 |ext φ=>obtain⟨p,⟨o,e⟩,st⟩:=x;exact⟨st _ _ p λo q=>k _ _ (.inl rfl) q,⟨o,k _ _ (.inl rfl) e⟩,st⟩
theorem HOk.lt(x:HOk P w H h)(e:H a=some o):a<h.objs.size:=(x a o e).lt
theorem HOk.fresh(x:HOk P w H h)(e:h.objs.size<=a):H a=none:=by
 cases q:H a with
 |none=>rfl
 |some u=>exact absurd (Nat.lt_of_lt_of_le (x.lt q) e) (Nat.lt_irrefl _)
theorem HOk.kept(x:HOk P w H h)(k:∀b u,h.get? b=some u->h'.get? b=some u):HOk P w H h':=λa o e=>
 (x a o e).stay (λb u _ q=>k b u q) (λ_ q=>q) λ_ _ q=>q
theorem HOk.laid(x:HOk P w H h)(k:∀b u,h.get? b=some u->h'.get? b=some u)(hp:h.objs.size<=a)(new:ObjOk P w (upd H a o) h' a o):HOk P w (upd H a o) h':=λb u e=>by
 have hn:=x.fresh hp;by_cases hb:b=a
 ·subst hb;rw[ups]at e;cases e;exact new
 ·rw[xai hb]at e
  exact(x b u e).stay (λc v _ q=>k c v q) (λc q=>by rw[xai (neN q hn)];exact q) λc xs q=>by rw[xai (neN q hn)];exact q
end
def Rd(H:Hp)(a:Addr)(u:HO):Prop:=H a=some u\/∃o,H a=some (.frz o u)
theorem Rd.ok{P:Program}{w:World}{H:Hp}{h:Heap}{a:Addr}{u:HO}(r:Rd H a u)(x:HOk P w H h):ObjOk P w H h a u:=by
 rcases r with r |⟨o,r⟩
 ·exact x a u r
 ·obtain⟨_,q⟩:=x a _ r
  exact q
def Mut:Option HO->Prop
 |some (.lst _)=>True
 |some (.dK _)=>True
 |some (.dT _)=>True
 |some (.set _ _)=>True
 |some (.ins _ _ _)=>True
 |some (.ext _)=>True
 |_=>False
section
variable {P:Program}{w:World}{H:Hp}{h h':Heap}{x e:Addr}{o':HO}
theorem HOk.write (ok:HOk P w H h) (mu:Mut (H x)) (he:e=x\/H e=some (.own x)) (k:∀b u,b≠e->h.get? b=some u->h'.get? b=some u) (heo:∃u,h'.get? e=some u)
  (new:ObjOk P w (upd H x o') h' x o'):HOk P w (upd H x o') h':=λb u q=>by
 have nown:∀c y,H c=some (.own y)->c≠x:=λc y r z=>by subst z;rw[r]at mu;exact mu
 have ntup:∀c xs,H c=some (.tup xs)->c≠x:=λc xs r z=>by subst z;rw[r]at mu;exact mu
 by_cases hb:b=x
 ·subst hb;rw[ups]at q;cases q;exact new
 ·rw[xai hb]at q
  by_cases hbe:b=e
  ·have q':H b=some (.own x):=by
    rcases he with z |z
    ·exact absurd (hbe.trans z) hb
    ·rw[hbe];exact z
   rw[q]at q';cases q';obtain⟨v,hv⟩:=heo;exact⟨v,by rw[hbe];exact hv⟩
  ·refine(ok b u q).stay (λc v hc r=>k c v ?_ r) (λc r=>by rw[xai (nown c b r)];exact r) λc xs r=>by rw[xai (ntup c xs r)];exact r
   rcases hc with rfl |hc
   ·exact hbe
   ·rintro rfl
    rcases he with z |z
    ·exact nown c b hc z
    ·rw[hc]at z;cases z;exact hb rfl
end
structure Un(fs ex:List Addr)(H H':Hp)(h h':Heap):Prop where
 keep:∀b o,h.get? b=some o->H b=none->b ∉fs->b ∉ex->h'.get? b=some o
 slot:∀b o,h.get? b=some o->H b=none->b∈fs->b ∉ex->∃sl,h'.get? b=some {o with slots:=sl}
 free:∀b o,h.get? b=some o->H b=none->b ∉ex->H' b=none
 there:∀b o,h.get? b=some o->b ∉ex->∃o',h'.get? b=some o'
 tups:∀b xs,H b=some (.tup xs)->H' b=some (.tup xs)
 frzs:∀b o u,H b=some (.frz o u)->H' b=some (.frz o u)
 tbls:∀b ps,H b=some (.tbl ps)->∃more,H' b=some (.tbl (ps++more))
section
variable {fs fs' ex ex':List Addr}{H H1 H2:Hp}{h h1 h2 h':Heap}{a x e:Addr}{o:HO}
theorem Un.any(u:Un fs ex H H1 h h1){b:Addr}{a:Obj}(q:h.get? b=some a)(n:H b=none)(c:b ∉ex):∃sl,h1.get? b=some {a with slots:=sl}:=by
 by_cases e:b∈fs
 ·exact u.slot b a q n e c
 ·exact⟨a.slots,u.keep b a q n e c⟩
theorem Un.kept(k:∀b u,h.get? b=some u->h'.get? b=some u):Un fs ex H H h h':=
 ⟨λb a q _ _ _=>k b a q,λb a q _ _ _=>⟨a.slots,k b a q⟩,λ_ _ _ n _=>n,λb a q _=>⟨a,k b a q⟩,λ_ _ q=>q,λ_ _ _ q=>q,λ_ ps q=>⟨#[],by rw[q];simp⟩⟩
theorem Un.refl:Un fs ex H H h h:=Un.kept λ_ _ q=>q
theorem Un.laid(k:∀b u,h.get? b=some u->h'.get? b=some u)(c:h.objs.size<=a)(hn:H a=none):Un fs ex H (upd H a o) h h' where
 keep:=λb u q _ _ _=>k b u q
 slot:=λb u q _ _ _=>⟨u.slots,k b u q⟩
 free:=λb u q n _=>by rw[xai (Nat.ne_of_lt (Nat.lt_of_lt_of_le (Heap.lt_size q) c))];exact n
 there:=λb u q _=>⟨u,k b u q⟩
 tups:=λb xs q=>by rw[xai (neN q hn)];exact q
 frzs:=λb u xs q=>by rw[xai (neN q hn)];exact q
 tbls:=λb ps q=>⟨#[],by rw[xai (neN q hn),q];simp⟩
theorem Un.write(c:Mut (H x))(l:e=x\/H e=some (.own x))(k:∀b u,b≠e->h.get? b=some u->h'.get? b=some u)(g:∃u,h'.get? e=some u):Un fs ex H (upd H x o) h h':=by
 have i:∀b,H b=none->b≠x:=λb n z=>by subst z;rw[n]at c;exact c
 have j:∀b,H b=none->b≠e:=λb n z=>by
  subst z;rcases l with r |r
  ·exact i b n r
  ·rw[n]at r;cases r
 have f:∀b u,H b=some u->¬Mut (some u)->b≠x:=λb u q nm z=>by subst z;rw[q]at c;exact nm c
 refine⟨λb u q n _ _=>k b u (j b n) q,λb u q n _ _=>⟨u.slots,k b u (j b n) q⟩,λb u q n _=>by rw[xai (i b n)];exact n,λb u q _=>?_,
  λb xs q=>by rw[xai (f b _ q λz=>z)];exact q,λb u xs q=>by rw[xai (f b _ q λz=>z)];exact q,λb ps q=>⟨#[],by rw[xai (f b _ q λz=>z),q];simp⟩⟩
 by_cases a:b=e
 ·subst a;exact g
 ·exact⟨u,k b u a q⟩
end
def trk(h:Heap)(H:Hp):List Addr:=(List.range h.objs.size).filter λa=>(H a).isSome
def hidT(h:Heap)(H:Hp):Heap:=PySem.W.hideAll h (trk h H)
theorem xoi(h:Heap)(H:Hp):(hidT h H).objs.size=h.objs.size:=PySem.W.hideAll_size _ _
theorem xp0{h:Heap}{H:Hp}{b:Addr}{o:Obj}(e:h.get? b=some o)(n:H b=none):(hidT h H).get? b=some o:=
 PySem.W.hideAll_get _ e λa=>by
  have q:(H b).isSome=true:=(List.mem_filter.mp a).2;rw[n]at q;simp at q
theorem xri{h:Heap}{H:Hp}{b:Addr}{o:Obj}(e:(hidT h H).get? b=some o):h.get? b=some o/\H b=none:=by
 have a:h.get? b=some o:=PySem.W.of_hideAll (trk h H) e;refine⟨a,?_⟩
 cases q:H b with
 |none=>rfl
 |some x=>
  have c:b∈trk h H:=List.mem_filter.mpr ⟨List.mem_range.mpr (Heap.lt_size a),by simp[q]⟩;have z:(hidT h H).get? b=none:=PySem.W.hideAll_none (trk h H) c;rw[z]at e;cases e
structure Mod(K:Fg)(mg:Str->Option Value)(base:Heap):Prop where
 kin:K.In base
 glob:base.Ns mainGlobals mg
 blt:∃mb,base.Ns builtinsNs mb/\∀x:Str,x≠"__name__"->mb x=bootBuiltins x
 nolimit:base.NoLimit
structure Cx where
 prog:Program
 w:World
 K:Fg
 mg:Str->Option Value
 base:Heap
 A:Around
 N:List Str
 s₀:Shared
 H₀:Hp
 env:Env
 outer:List Env
 stack:List Env
 ex:List Addr
 fn:Str->Bool
 calm:Bool
 pn:List (Addr×Obj)
 xe:Value->Shared->Prop
def frs(l:List Env):List Addr:=l.filterMap (·.frame)
abbrev Cx.fs(X:Cx):List Addr:=frs X.outer
def Vis(sc:Scope)(x:Str):Prop:=sc.names.lookup x=some .local\/sc.names.lookup x=some .cell\/sc.names.lookup x=some .free
def Loc(sc:Scope)(x:Str):Prop:=sc.names.lookup x=some .local\/sc.names.lookup x=some .cell
def Look(env:Env)(h:Heap)(m:Str->Option Value)(x:Str)(u:Value):Prop:=
 (env.kindOf x=some .local/\m x=some u)\/((env.kindOf x=some .cell\/env.kindOf x=some .free)/\∃c,env.cells.lookup x=some c/\h.IsCell c (some u))
structure Cx.Ok(X:Cx):Prop where
 mod:Mod X.K X.mg X.base
 kind:X.env.scope.kind=.function
 glob:X.env.globals=mainGlobals
 blt:X.env.builtins=builtinsNs
 above:X.s₀.heap.objs.size<=X.env.locals
 inj:∀x y c,X.env.cells.lookup x=some c->X.env.cells.lookup y=some c->x=y
 has:∀x,(X.env.kindOf x=some .cell\/X.env.kindOf x=some .free)->∃c,X.env.cells.lookup x=some c
 cab:∀x c,X.fn x=true->X.env.cells.lookup x=some c->X.s₀.heap.objs.size<=c
 hd:X.calm=true->X.A.handled=none
 frames:X.A.frames=some X.stack
 stk:X.stack=X.outer\/(X.stack=X.env::X.outer/\X.env.frame=some X.env.locals)
 exf:∀b∈X.ex,b≠X.env.locals/\∀x c,X.env.cells.lookup x=some c->c≠b
 bs:∀b o,X.base.get? b=some o->X.s₀.heap.get? b=some o/\X.H₀ b=none
 bsz:X.base.objs.size<=X.s₀.heap.objs.size
 noex:∀b o,X.base.get? b=some o->b ∉X.ex
 exfs:∀b∈X.ex,b ∉X.fs
 funs:X.s₀.heap.FunFrames X.base X.outer
 frf:∀b∈X.fs,X.H₀ b=none
structure Inv(X:Cx)(pins:List (Addr×Obj))(σ:List (Option V))(H:Hp)(s:Shared):Prop where
 ok:X.Ok
 os:s.os=X.s₀.os
 bare:AllBare s.gens
 base:Un X.fs X.ex X.H₀ H X.s₀.heap s.heap
 loc:∃m,s.heap.Ns X.env.locals m/\∀(i:Nat) (x:Str) (v:V),X.N[i]?=some x->σ[i]?=some (some v)->Vis X.env.scope x->∃u,RelV v u/\Look X.env s.heap m x u
 cell:∀x c,X.env.cells.lookup x=some c->∃v,s.heap.IsCell c v
 free:H X.env.locals=none
 freeC:∀x c,X.env.cells.lookup x=some c->H c=none
 pin:∀p∈X.pn++pins,s.heap.get? p.1=some p.2/\H p.1=none/\p.1≠X.env.locals/\p.1 ∉X.fs/\∀v,p.2.data≠.cell v
 hok:HOk X.prog X.w H s.heap
 len:σ.length=X.N.length
section
variable {X:Cx}{pins:List (Addr×Obj)}{σ:List (Option V)}{H H':Hp}{s:Shared}{h':Heap}
theorem Cx.Ok.nofr(ok:X.Ok){b:Addr}{o:Obj}(e:X.base.get? b=some o):b ∉X.fs:=λa=>by
 have:=(ok.funs.mem a).1;rw[e]at this;cases this
theorem Inv.bs(I:Inv X pins σ H s):∀b o,X.base.get? b=some o->s.heap.get? b=some o/\H b=none:=λb o e=>
 ⟨I.base.keep b o (I.ok.bs b o e).1 (I.ok.bs b o e).2 (I.ok.nofr e) (I.ok.noex b o e),I.base.free b o (I.ok.bs b o e).1 (I.ok.bs b o e).2 (I.ok.noex b o e)⟩
theorem Inv.bk(I:Inv X pins σ H s):∀b o,X.base.get? b=some o->s.heap.get? b=some o:=λb o e=>(I.bs b o e).1
theorem Inv.mod(I:Inv X pins σ H s):Mod X.K X.mg X.base:=I.ok.mod
theorem Inv.kIn(I:Inv X pins σ H s):X.K.In s.heap:=I.ok.mod.kin.keeps I.bk
theorem Inv.lt(I:Inv X pins σ H s):X.env.locals<s.heap.objs.size:=let ⟨_,hn,_⟩:=I.loc;hn.lt
theorem Inv.sz(I:Inv X pins σ H s):X.s₀.heap.objs.size<=s.heap.objs.size:=Nat.le_trans I.ok.above (Nat.le_of_lt I.lt)
theorem Inv.nofs(I:Inv X pins σ H s){a:Addr}(h:s.heap.objs.size<=a):a ∉X.fs:=λc=>by
 obtain⟨_,o,b,_⟩:=I.ok.funs.mem c;exact absurd (Nat.lt_of_lt_of_le (Heap.lt_size b) (Nat.le_trans I.sz h)) (Nat.lt_irrefl _)
theorem Inv.cne(I:Inv X pins σ H s):∀x c,X.env.cells.lookup x=some c->c≠X.env.locals:=λx c e z=>by
 obtain⟨v,o,f,hd⟩:=I.cell x c e;obtain⟨m,⟨o',es,ep,a,b,_⟩,_⟩:=I.loc;rw[z,a]at f;cases f;rw[b]at hd;cases hd
theorem Inv.funs(I:Inv X pins σ H s):s.heap.FunFrames X.base X.outer:=by
 have all:∀(l:List Env),(∀b∈frs l,b∈X.fs)->X.s₀.heap.FunFrames X.base l->s.heap.FunFrames X.base l:=by
  intro l
  induction l with
  |nil=>intro _ _;trivial
  |cons env r g=>
   intro hs j;obtain⟨m,⟨L,o,a,hn,i,hd⟩,h⟩:=j;have f:L∈X.fs:=hs L (by unfold frs;rw[List.filterMap_cons,a];exact List.mem_cons_self);obtain⟨sl,e⟩:=I.base.slot L o i (I.ok.frf L f) f λz=>I.ok.exfs L z f;exact⟨m,⟨L,_,a,hn,e,hd⟩,g (λb c=>hs b (by unfold frs;rw[List.filterMap_cons,a];exact List.mem_cons_of_mem _ c)) h⟩
 exact all X.outer (λ_ c=>c) I.ok.funs
theorem Inv.stack(I:Inv X pins σ H s):s.heap.FunFrames X.base X.stack:=by
 rcases I.ok.stk with e |⟨e,hf⟩
 ·rw[e];exact I.funs
 ·rw[e]
  obtain⟨m,hn,_⟩:=I.loc;refine .cons (by rw[I.ok.kind];decide) hf hn ?_ I.funs;exact Heap.get?_none_of_le (Nat.le_trans I.ok.bsz I.ok.above)
theorem Inv.stkSub(I:Inv X pins σ H s):∀b∈frs X.stack,b∈X.env.locals::X.fs:=λb a=>by
 rcases I.ok.stk with e |⟨e,c⟩
 ·rw[e]at a;exact List.mem_cons_of_mem _ a
 ·rw[e]at a
  unfold frs at a;rw[List.filterMap_cons,c]at a;exact a
theorem Inv.stkFree(I:Inv X pins σ H s):∀b∈frs X.stack,H b=none:=λb a=>by
 rcases zMC (I.stkSub b a) with e |a
 ·rw[e];exact I.free
 ·obtain⟨_,o,c,_⟩:=I.ok.funs.mem a
  exact I.base.free b o c (I.ok.frf b a) λz=>I.ok.exfs b z a
theorem Inv.step {g':Array GenState} {t':Nat} {d':Drawn} {ch:List Addr} (I:Inv X pins σ H s)
  (hch:∀b∈ch,(b∈X.ex\/X.s₀.heap.objs.size<=b)/\b≠X.env.locals/\(∀x c,X.env.cells.lookup x=some c->c≠b)/\∀p∈X.pn++pins,p.1≠b)
  (keep:∀b o,b≠X.env.locals->b ∉X.fs->b ∉ch->s.heap.get? b=some o->H b=none->h'.get? b=some o)
  (slot:∀b o,b≠X.env.locals->b∈X.fs->b ∉ch->s.heap.get? b=some o->H b=none->∃sl,h'.get? b=some {o with slots:=sl}) (free:∀b o,b ∉ch->s.heap.get? b=some o->H b=none->H' b=none)
  (there:∀b o,b ∉ch->s.heap.get? b=some o->∃o',h'.get? b=some o')
  (tups:∀b xs,H b=some (.tup xs)->H' b=some (.tup xs)) (frzs:∀b o u,H b=some (.frz o u)->H' b=some (.frz o u)) (tbls:∀b ps,H b=some (.tbl ps)->∃more,H' b=some (.tbl (ps++more)))
  (ns:∀m,s.heap.Ns X.env.locals m->h'.Ns X.env.locals m) (hok:HOk X.prog X.w H' h') (hg:AllBare g') :
  Inv X pins σ H' {s with heap:=h',gens:=g',drawn:=d',toks:=t'}:=by
 have neL:∀b o,X.s₀.heap.get? b=some o->b≠X.env.locals:=λb o e=>Nat.ne_of_lt (Nat.lt_of_lt_of_le (Heap.lt_size e) I.ok.above)
 have neC:∀b o,X.s₀.heap.get? b=some o->b ∉X.ex->b ∉ch:=λb o e hx hb=>by
  rcases(hch b hb).1 with z |z
  ·exact hx z
  ·exact absurd (Nat.lt_of_lt_of_le (Heap.lt_size e) z) (Nat.lt_irrefl _)
 have cellK:∀x c,X.env.cells.lookup x=some c->∀v,s.heap.IsCell c v->h'.IsCell c v:=λx c e v ⟨o,ho,hd⟩=>by
  have nch:c ∉ch:=λz=>(hch c z).2.2.1 x c e rfl;by_cases hc:c∈X.fs
  ·obtain⟨sl,q⟩:=slot c o (I.cne x c e) hc nch ho (I.freeC x c e)
   exact⟨_,q,hd⟩
  ·exact⟨o,keep c o (I.cne x c e) hc nch ho (I.freeC x c e),hd⟩
 refine⟨I.ok,I.os,hg,⟨λb o e n hb hx=>?_,λb o e n hb hx=>?_,λb o e n hx=>?_,λb o e hx=>?_,λb xs e=>tups b xs (I.base.tups b xs e),λb o xs e=>frzs b o xs (I.base.frzs b o xs e),λb ps e=>?_⟩,?_,λx c e=>?_,?_,λx c e=>?_,λp hp=>?_,hok,I.len⟩
 ·exact keep b o (neL b o e) hb (neC b o e hx) (I.base.keep b o e n hb hx) (I.base.free b o e n hx)
 ·obtain⟨sl,e1⟩:=I.base.slot b o e n hb hx
  obtain⟨sl',e2⟩:=slot b _ (neL b o e) hb (neC b o e hx) e1 (I.base.free b o e n hx);exact⟨sl',e2⟩
 ·obtain⟨o',e1⟩:=I.base.there b o e hx
  exact free b o' (neC b o e hx) e1 (I.base.free b o e n hx)
 ·obtain⟨o',e1⟩:=I.base.there b o e hx
  exact there b o' (neC b o e hx) e1
 ·obtain⟨m1,e1⟩:=I.base.tbls b ps e
  obtain⟨m2,e2⟩:=tbls b _ e1;exact⟨m1++m2,by rw[e2,Array.append_assoc]⟩
 ·obtain⟨m,hn,hl⟩:=I.loc
  refine⟨m,ns m hn,λi x v e1 e2 e3=>?_⟩;obtain⟨u,r,l⟩:=hl i x v e1 e2 e3;refine⟨u,r,?_⟩;rcases l with l |⟨k,c,e,z⟩
  ·exact .inl l
  ·exact .inr ⟨k,c,e,cellK x c e _ z⟩
 ·obtain⟨v,z⟩:=I.cell x c e
  exact⟨v,cellK x c e v z⟩
 ·obtain⟨m,⟨o,_,_,ho,_⟩,_⟩:=I.loc
  exact free _ o (λz=>(hch _ z).2.1 rfl) ho I.free
 ·obtain⟨v,o,ho,hd⟩:=I.cell x c e
  exact free c o (λz=>(hch c z).2.2.1 x c e rfl) ho (I.freeC x c e)
 ·obtain⟨e,n,ne,nf,d⟩:=I.pin p hp
  have nch:p.1 ∉ch:=λz=>(hch p.1 z).2.2.2 p hp rfl;exact⟨keep p.1 p.2 ne nf nch e n,free p.1 p.2 nch e n,ne,nf,d⟩
theorem Inv.un{t':Nat}(I:Inv X pins σ H s)(u:Un X.fs [] H H' s.heap h')(hok:HOk X.prog X.w H' h'):Inv X pins σ H' {s with heap:=h',toks:=t'}:=by
 obtain⟨m,⟨o,es,ep,ho,r⟩,_⟩:=id I.loc;obtain⟨sl,hL⟩:=u.any ho I.free (by simp)
 exact I.step (g':=s.gens) (d':=s.drawn) (ch:=[]) (λ_ z=>nomatch z) (λb o _ hb _ e n=>u.keep b o e n hb (by simp)) (λb o _ hb _ e n=>u.slot b o e n hb (by simp)) (λb o _ e n=>u.free b o e n (by simp)) (λb o _ e=>u.there b o e (by simp)) u.tups u.frzs u.tbls (λm' hm=>by
  obtain⟨o',es',ep',ho',r'⟩:=hm;rw[ho]at ho';cases ho';exact⟨_,es',ep',hL,r'⟩) hok I.bare
theorem Inv.call {g':Array GenState} {t':Nat} {d':Drawn} {ch:List Addr} (I:Inv X pins σ H s) (u:Un (frs X.stack) ch H H' s.heap h') (hok:HOk X.prog X.w H' h') (hg:AllBare g')
  (hch:∀b∈ch,(b∈X.ex\/X.s₀.heap.objs.size<=b)/\b≠X.env.locals/\(∀x c,X.env.cells.lookup x=some c->c≠b)/\∀p∈X.pn++pins,p.1≠b) :
  Inv X pins σ H' {s with heap:=h',gens:=g',drawn:=d',toks:=t'}:=by
 obtain⟨m,⟨o,es,ep,ho,r⟩,_⟩:=id I.loc;obtain⟨sl,hL⟩:=u.any ho I.free λz=>(hch _ z).2.1 rfl
 exact I.step (ch:=ch) hch (λb o hL hb hc e n=>u.keep b o e n (λz=>(zMC (I.stkSub b z)).elim hL hb) hc) (λb o _ _ hc e n=>u.any e n hc) (λb o hc e n=>u.free b o e n hc) (λb o hc e=>u.there b o e hc) u.tups u.frzs u.tbls (λm' hm=>by
  obtain⟨o',es',ep',ho',r'⟩:=hm;rw[ho]at ho';cases ho';exact⟨_,es',ep',hL,r'⟩) hok hg
theorem Inv.turned {t':Nat} {it:Addr} (I:Inv X pins σ H s) (k:∀b o,b≠it->s.heap.get? b=some o->h'.get? b=some o) (hn:H it=none) (hL:it≠X.env.locals)
  (h1:it∈X.ex\/X.s₀.heap.objs.size<=it) (h2:∀x c,X.env.cells.lookup x=some c->c≠it) (h3:∀p∈X.pn++pins,p.1≠it):Inv X pins σ H {s with heap:=h',toks:=t'}:=by
 have nit:∀b u,H b=some u->b≠it:=λb u e z=>by rw[z,hn]at e;cases e
 refine I.step (g':=s.gens) (d':=s.drawn) (ch:=[it]) (λb hb=>?_) (λb o _ _ hc e _=>k b o (λz=>hc (by simp[z])) e) (λb o _ _ hc e _=>⟨o.slots,k b o (λz=>hc (by simp[z])) e⟩) (λ_ _ _ _ n=>n)
  (λb o hc e=>⟨o,k b o (λz=>hc (by simp[z])) e⟩) (λ_ _ e=>e) (λ_ _ _ e=>e) (λb ps e=>⟨#[],by rw[e];simp⟩) (λm hm=>?_) (λb u e=>?_) I.bare
 ·have e:b=it:=by simpa using hb
  subst e;exact⟨h1,hL,h2,h3⟩
 ·obtain⟨o,es,ep,ho,r⟩:=hm
  exact⟨o,es,ep,k _ o (Ne.symm hL) ho,r⟩
 ·refine(I.hok b u e).stay (λc v hc q=>k c v ?_ q) (λ_ q=>q) λ_ _ q=>q
  rcases hc with z |z
  ·rw[z];exact nit b u e
  ·exact nit c _ z
theorem Inv.tok(I:Inv X pins σ H s)(t:Nat):Inv X pins σ H {s with toks:=t}:=I.un (h':=s.heap) (t':=t) Un.refl I.hok
theorem Inv.kept{t':Nat}(I:Inv X pins σ H s)(k:∀b u,s.heap.get? b=some u->h'.get? b=some u):Inv X pins σ H {s with heap:=h',toks:=t'}:=I.un (Un.kept k) (I.hok.kept k)
theorem Inv.laid {a:Addr} {o:HO} {t':Nat} (I:Inv X pins σ H s) (k:∀b u,s.heap.get? b=some u->h'.get? b=some u) (hp:s.heap.objs.size<=a) (new:ObjOk X.prog X.w (upd H a o) h' a o) :
  Inv X pins σ (upd H a o) {s with heap:=h',toks:=t'}:=I.un (Un.laid k hp (I.hok.fresh hp)) (I.hok.laid k hp new)
theorem Inv.write {x e:Addr} {o:HO} {t':Nat} (I:Inv X pins σ H s) (mu:Mut (H x)) (he:e=x\/H e=some (.own x)) (k:∀b u,b≠e->s.heap.get? b=some u->h'.get? b=some u) (heo:∃u,h'.get? e=some u)
  (new:ObjOk X.prog X.w (upd H x o) h' x o):Inv X pins σ (upd H x o) {s with heap:=h',toks:=t'}:=I.un (Un.write mu he k heo) (I.hok.write mu he k heo new)
theorem Inv.weak{σ':List (Option V)}(I:Inv X pins σ H s)(hl:σ'.length=σ.length)(w:∀(i:Nat) v,σ'[i]?=some (some v)->σ[i]?=some (some v)):Inv X pins σ' H s:=
 ⟨I.ok,I.os,I.bare,I.base,let ⟨m,hn,hl'⟩:=I.loc;⟨m,hn,λi x v e1 e2 e3=>hl' i x v e1 (w i v e2) e3⟩,I.cell,I.free,I.freeC,I.pin,I.hok,hl.trans I.len⟩
theorem Inv.pins_of{a:List (Addr×Obj)}(I:Inv X pins σ H s)(h:∀p∈a,s.heap.get? p.1=some p.2/\H p.1=none/\p.1≠X.env.locals/\p.1 ∉X.fs/\∀v,p.2.data≠.cell v):Inv X a σ H s:=
 ⟨I.ok,I.os,I.bare,I.base,I.loc,I.cell,I.free,I.freeC,λp b=>(zMA b).elim (λz=>I.pin p (List.mem_append_left _ z)) (h p),I.hok,I.len⟩
theorem xk9{N:List Str}(c:N.Nodup){i j:Nat}{x:Str}(a:N[i]?=some x)(b:N[j]?=some x):i=j:=by
 obtain⟨h1,f⟩:=zES a;obtain⟨h2,e⟩:=zES b;exact(List.getElem_inj c).mp (f.trans e.symm)
theorem xhx {M:Model} {A:Around} {E:Value->Shared->Prop} {i:Nat} {x:Str} {v:V} {u:Value} {Q:Unit->Shared->Prop} (I:Inv X pins σ H s) (hN:X.N.Nodup) (hi:X.N[i]?=some x) (hx:Loc X.env.scope x) (r:RelV v u)
  (h:∀s',Inv X pins (σ.set i (some v)) H s'->(∃a,Heap.SameBut a s.heap s'.heap/\(a=X.env.locals\/X.env.cells.lookup x=some a))->Q () s') (hf:X.fn x=true\/X.env.scope.names.lookup x=some .local:=by first |exact .inl rfl |exact .inr rfl |assumption):wpAny M A (storeName X.env x u) Q E s:=by
 obtain⟨m,hn,hl⟩:=id I.loc;have hcls:(X.env.scope.kind == .class || (X.env.scope.kind == .module && X.env.locals != X.env.globals))=false:=by rw[I.ok.kind];rfl
 have hiσ:i<σ.length:=by rw[I.len];exact(zES hi).1
 have cne:=I.cne
 have tracked:∀{a:Addr} {h':Heap},(∃o,s.heap.get? a=some o/\H a=none)->Heap.SameBut a s.heap h'->HOk X.prog X.w H h':=λ{a h'} ha hs b ob e=>by
  obtain⟨_,_,hfree⟩:=ha;refine(I.hok b ob e).stay (λc w' hc q=>(hs.2 c ?_).trans q) (λ_ q=>q) λ_ _ q=>q;rintro rfl;rcases hc with rfl |hc
  ·rw[hfree]at e;cases e
  ·rw[hfree]at hc;cases hc
 rcases hx with hk |hk
 ·refine wpAny_storeName_local hk hn (λh' hn' hs=>?_) hcls
  obtain⟨oL,_,_,hoL,_⟩:=id hn;refine h _ ⟨I.ok,I.os,I.bare,⟨λb o e n hb hx=>?_,λb o e n hb hx=>?_,I.base.free,λb o e hx=>?_,I.base.tups,I.base.frzs,I.base.tbls⟩,⟨_,hn',λj y v' e1 e2 e3=>?_⟩,λy c e=>?_,I.free,I.freeC,λp hp=>?_,tracked ⟨oL,hoL,I.free⟩ hs,by simpa using I.len⟩ ⟨_,hs,.inl rfl⟩
  ·exact(hs.2 b (Nat.ne_of_lt (Nat.lt_of_lt_of_le (Heap.lt_size e) I.ok.above))).trans (I.base.keep b o e n hb hx)
  ·obtain⟨sl,e1⟩:=I.base.slot b o e n hb hx
   exact⟨sl,(hs.2 b (Nat.ne_of_lt (Nat.lt_of_lt_of_le (Heap.lt_size e) I.ok.above))).trans e1⟩
  ·obtain⟨o',e1⟩:=I.base.there b o e hx
   exact⟨o',(hs.2 b (Nat.ne_of_lt (Nat.lt_of_lt_of_le (Heap.lt_size e) I.ok.above))).trans e1⟩
  ·by_cases hj:j=i
   ·subst hj
    rw[hi]at e1;cases e1;rw[List.getElem?_set_self hiσ]at e2;cases e2;exact⟨u,r,.inl ⟨hk,by simp⟩⟩
   ·rw[List.getElem?_set_ne (Ne.symm hj)]at e2
    obtain⟨u',r',q⟩:=hl j y v' e1 e2 e3;refine⟨u',r',?_⟩;rcases q with⟨k,e⟩ |⟨k,c,e,z⟩
    ·refine .inl ⟨k,?_⟩
     have:y≠x:=λe=>hj (xk9 hN e1 (e ▸ hi));simp[this,e]
    ·exact .inr ⟨k,c,e,z.sameBut hs (cne y c e)⟩
  ·obtain⟨w',z⟩:=I.cell y c e
   exact⟨w',z.sameBut hs (cne y c e)⟩
  ·obtain⟨e,n,ne,nf,d⟩:=I.pin p hp
   exact⟨(hs.2 p.1 ne).trans e,n,ne,nf,d⟩
 ·have hfn:X.fn x=true:=by
   rcases hf with z |z
   ·exact z
   ·rw[z]at hk;cases hk
  obtain⟨c,hc⟩:=I.ok.has x (.inl hk);obtain⟨w',z⟩:=I.cell x c hc;refine wpAny_storeName_cell I.ok.kind hk hc z (λh' hc' hs=>?_);obtain⟨oc,hoc,hocd⟩:=id z;refine h {s with heap:=h'} ⟨I.ok,I.os,I.bare,⟨λb o e n hb hx=>?_,λb o e n hb hx=>?_,I.base.free,λb o e hx=>?_,I.base.tups,I.base.frzs,I.base.tbls⟩,⟨m,hn.sameBut hs (Ne.symm (cne x c hc)),λj y v' e1 e2 e3=>?_⟩,λy c' e=>?_,I.free,I.freeC,λp hp=>?_,tracked ⟨oc,hoc,I.freeC x c hc⟩ hs,by simpa using I.len⟩ ⟨c,hs,.inr hc⟩
  ·exact(hs.2 b (Nat.ne_of_lt (Nat.lt_of_lt_of_le (Heap.lt_size e) (I.ok.cab x c hfn hc)))).trans (I.base.keep b o e n hb hx)
  ·obtain⟨sl,e1⟩:=I.base.slot b o e n hb hx
   exact⟨sl,(hs.2 b (Nat.ne_of_lt (Nat.lt_of_lt_of_le (Heap.lt_size e) (I.ok.cab x c hfn hc)))).trans e1⟩
  ·obtain⟨o',e1⟩:=I.base.there b o e hx
   exact⟨o',(hs.2 b (Nat.ne_of_lt (Nat.lt_of_lt_of_le (Heap.lt_size e) (I.ok.cab x c hfn hc)))).trans e1⟩
  ·by_cases hj:j=i
   ·subst hj
    rw[hi]at e1;cases e1;rw[List.getElem?_set_self hiσ]at e2;cases e2;exact⟨u,r,.inr ⟨.inl hk,c,hc,hc'⟩⟩
   ·rw[List.getElem?_set_ne (Ne.symm hj)]at e2
    obtain⟨u',r',q⟩:=hl j y v' e1 e2 e3;refine⟨u',r',?_⟩;rcases q with q |⟨k,c',e,z'⟩
    ·exact .inl q
    ·refine .inr ⟨k,c',e,z'.sameBut hs ?_⟩
     rintro rfl;exact hj (xk9 hN e1 (I.ok.inj _ _ _ e hc ▸ hi))
  ·by_cases hcc:c'=c
   ·subst hcc;exact⟨_,hc'⟩
   ·obtain⟨w2,z2⟩:=I.cell y c' e
    exact⟨w2,z2.sameBut hs hcc⟩
  ·obtain⟨e,n,ne,nf,d⟩:=I.pin p hp
   refine⟨(hs.2 p.1 ?_).trans e,n,ne,nf,d⟩;intro q;rw[q,hoc]at e;have q':oc=p.2:=Option.some.inj e;exact d w' (by rw[<- q'];exact hocd)
theorem xkw {M:Model} {A:Around} {E:Value->Shared->Prop} {i:Nat} {x:Str} {v:V} {u:Value} {Q:Unit->Shared->Prop} (I:Inv X pins σ H s) (c:X.N.Nodup) (hi:X.N[i]?=some x) (a:Loc X.env.scope x) (r:RelV v u)
  (h:∀s',Inv X pins (σ.set i (some v)) H s'->Q () s') (b:X.fn x=true\/X.env.scope.names.lookup x=some .local:=by first |exact .inl rfl |exact .inr rfl |assumption):wpAny M A (storeName X.env x u) Q E s:=
 xhx I c hi a r (λs' e _=>h s' e) b
theorem Inv.call' {s':Shared} {ch:List Addr} (I:Inv X pins σ H s) (ho:s'.os=s.os) (u:Un (frs X.stack) ch H H' s.heap s'.heap) (hok:HOk X.prog X.w H' s'.heap) (hg:AllBare s'.gens)
  (hch:∀b∈ch,(b∈X.ex\/X.s₀.heap.objs.size<=b)/\b≠X.env.locals/\(∀x c,X.env.cells.lookup x=some c->c≠b)/\∀p∈X.pn++pins,p.1≠b):Inv X pins σ H' s':=by
 obtain⟨h',g',d',t',o'⟩:=s';have e:o'=s.os:=ho;subst e;exact I.call (g':=g') (t':=t') (d':=d') u hok hg hch
end
abbrev XK:=Value->Option Addr->Hp->Prop
abbrev St:=List (Option V)
abbrev VK:=V->Hp->Prop
abbrev TE:=St->Hp->VK->Prop
abbrev TT:=St->Hp->(Bool->Hp->Prop)->Prop
abbrev TA:=St->Hp->(List V->Hp->Prop)->Prop
structure Ends where
 nx:St->Hp->Prop
 rt:VK
 bk:St->Hp->Prop:=λ_ _=>False
 ct:St->Hp->Prop:=λ_ _=>False
abbrev TS:=Ends->St->Hp->Prop
def EP(X:Cx)(pins:List (Addr×Obj))(σ:St)(Q:VK)(u:Value)(s':Shared):Prop:=∃v H',Inv X pins σ H' s'/\RelV v u/\Q v H'
def TP(X:Cx)(pins:List (Addr×Obj))(σ:St)(Q:Bool->Hp->Prop)(b:Bool)(s':Shared):Prop:=∃H',Inv X pins σ H' s'/\Q b H'
def AP(X:Cx)(pins:List (Addr×Obj))(σ:St)(Q:List V->Hp->Prop)(us:List Value)(s':Shared):Prop:=∃vs H',Inv X pins σ H' s'/\Vals vs us/\Q vs H'
def SP(X:Cx)(pins:List (Addr×Obj))(D:Ends)(f:Flow)(s':Shared):Prop:=
 match f with
 |.next=>∃σ' H',Inv X pins σ' H' s'/\D.nx σ' H'
 |.brk=>∃σ' H',Inv X pins σ' H' s'/\D.bk σ' H'
 |.cont=>∃σ' H',Inv X pins σ' H' s'/\D.ct σ' H'
 |.ret u=>∃v σ' H',Inv X pins σ' H' s'/\RelV v u/\D.rt v H'
def PE(X:Cx)(e:Expr)(t:TE):Prop:=
 ∀(pins:List (Addr×Obj)) (s:Shared) (σ:St) (H:Hp) (Q:VK),Inv X pins σ H s->t σ H Q->wpAny (model X.prog X.w) X.A (eval e X.env) (EP X pins σ Q) X.xe s
def PT(X:Cx)(e:Expr)(t:TT):Prop:=
 ∀(pins:List (Addr×Obj)) (s:Shared) (σ:St) (H:Hp) (Q:Bool->Hp->Prop),Inv X pins σ H s->t σ H Q->wpAny (model X.prog X.w) X.A (isTrue e X.env (eval e X.env)) (TP X pins σ Q) X.xe s
def PW(X:Cx)(e:Expr)(t:TT):Prop:=
 ∀(whole:Sem Value) (pins:List (Addr×Obj)) (s:Shared) (σ:St) (H:Hp) (Q:Bool->Hp->Prop),Inv X pins σ H s->t σ H Q->wpAny (model X.prog X.w) X.A (isTrue e X.env whole) (TP X pins σ Q) X.xe s
theorem PW.pt{X:Cx}{e:Expr}{t:TT}(h:PW X e t):PT X e t:=h _
def PA(X:Cx)(es:List Expr)(t:TA):Prop:=
 ∀(pos:Pos) (pins:List (Addr×Obj)) (s:Shared) (σ:St) (H:Hp) (Q:List V->Hp->Prop),Inv X pins σ H s->t σ H Q->wpAny (model X.prog X.w) X.A (spliced (backTo pos (starEach es X.env))) (AP X pins σ Q) X.xe s
def PS(X:Cx)(st:Stmt)(t:TS):Prop:=
 ∀(pins:List (Addr×Obj)) (s:Shared) (σ:St) (H:Hp) (D:Ends),Inv X pins σ H s->t D σ H->wpAny (model X.prog X.w) X.A (exec st X.env) (SP X pins D) X.xe s
def PSs(X:Cx)(st:List Stmt)(t:TS):Prop:=
 ∀(pins:List (Addr×Obj)) (s:Shared) (σ:St) (H:Hp) (D:Ends),Inv X pins σ H s->t D σ H->wpAny (model X.prog X.w) X.A (execs st X.env) (SP X pins D) X.xe s
theorem thn{α:Type}{t:Sem α}{Q Q':α->Shared->Prop}{M:Model}{A:Around}{E:Value->Shared->Prop}{s:Shared}(h:wpAny M A t Q E s)(hQ:∀a s,Q a s->Q' a s):wpAny M A t Q' E s:=wpAny_mono h hQ λ_ _ x=>x
section
variable {X:Cx}
def tVar(i:Nat):TE:=λσ H Q=>∃v,σ[i]?=some (some v)/\Q v H
def tC(v:V):TE:=λ_ H Q=>Q v H
theorem xs3{i:Nat}{x:Str}{pos:Pos}(p:X.N[i]?=some x)(j:Vis X.env.scope x)(hd:(x == ("__debug__":Str))=false:=by decide)(f:(x == ("__classdict__":Str))=false:=by decide):PE X (.Name x pos) (tVar i):=by
 intro pins s σ H Q I h;obtain⟨v,e,h⟩:=h;obtain⟨m,hn,o⟩:=I.loc;obtain⟨u,r,l⟩:=o i x v p e j;have fin:EP X pins σ Q u s:=⟨v,H,I,r,h⟩;rcases l with⟨b,n⟩ |⟨b,c,g,a⟩
 ·exact wpAny_Name (wpAny_loadName_local I.ok.kind b hn n fin) hd
 ·rcases b with b |b
  ·exact wpAny_Name (wpAny_loadName_cell I.ok.kind b g a fin) hd
  ·exact wpAny_Name (wpAny_loadName_free I.ok.kind b g a fin f) hd
theorem pI{i j pos}:PE X (.Constant (.int i) j pos) (tC (.int i)):=λ_ _ _ H _ I h=>wpAny_Constant_int ⟨.int i,H,I.tok _,⟨_,rfl⟩,h⟩
theorem xl5{b j pos}:PE X (.Constant (.bool b) j pos) (tC (.bl b)):=λ_ _ _ H _ I h=>Constant_bool ⟨.bl b,H,I,rfl,h⟩
theorem xca{j pos}:PE X (.Constant .none j pos) (tC .non):=λ_ _ _ H _ I h=>Constant_none ⟨.non,H,I,rfl,h⟩
theorem pS{x j pos}:PE X (.Constant (.str x) j pos) (tC (.str x)):=λ_ _ _ H _ I h=>Calls.Constant_str ⟨.str x,H,I.tok _,⟨_,rfl⟩,h⟩
def Gl(X:Cx)(x:Str):Prop:=X.env.kindOf x=some .globalImplicit
theorem xj7 {E:Value->Shared->Prop} {pins:List (Addr×Obj)} {s:Shared} {σ:St} {H:Hp} {x:Str} {u:Value} {pos:Pos} {Q:Value->Shared->Prop} (I:Inv X pins σ H s) (b:Gl X x) (a:X.mg x=some u) (h:Q u s)
  (hd:(x == ("__debug__":Str))=false:=by decide):wpAny (model X.prog X.w) X.A (eval (.Name x pos) X.env) Q E s:=
 Calls.Name_function_global I.ok.kind b (Calls.loadGlobal_global (by rw[I.ok.glob];exact I.mod.glob.keeps I.bk) a h) hd
theorem xer {E:Value->Shared->Prop} {pins:List (Addr×Obj)} {s:Shared} {σ:St} {H:Hp} {x:Str} {u:Value} {pos:Pos} {Q:Value->Shared->Prop} (I:Inv X pins σ H s) (c:Gl X x) (b:X.mg x=none) (a:bootBuiltins x=some u) (h:Q u s)
  (hn:x≠"__name__":=by decide) (hd:(x == ("__debug__":Str))=false:=by decide):wpAny (model X.prog X.w) X.A (eval (.Name x pos) X.env) Q E s:=by
 obtain⟨e,h1,h2⟩:=I.mod.blt;exact Calls.Name_function_global I.ok.kind c (Calls.loadGlobal_builtin (by rw[I.ok.glob];exact I.mod.glob.keeps I.bk) b (by rw[I.ok.blt];exact h1.keeps I.bk) ((h2 x hn).trans a) h) hd
theorem xra{x:Str}{v:V}{u:Value}{pos:Pos}(hg:Gl X x)(hm:X.mg x=some u)(r:RelV v u)(hd:(x == ("__debug__":Str))=false:=by decide):PE X (.Name x pos) (tC v):=
 λ_ _ _ H _ I h=>xj7 I hg hm ⟨v,H,I,r,h⟩ hd
theorem xre{x:Str}{v:V}{u:Value}{pos:Pos}(c:Gl X x)(b:X.mg x=none)(a:bootBuiltins x=some u)(r:RelV v u)(hn:x≠"__name__":=by decide)(hd:(x == ("__debug__":Str))=false:=by decide):PE X (.Name x pos) (tC v):=
 λ_ _ _ H _ I h=>xer I c b a ⟨v,H,I,r,h⟩ hn hd
variable {a b:Expr}{ta tb:TE}{pos:Pos}
def PC(X:Cx)(op:CmpOp)(a b:Expr)(t:TE):Prop:=
 ∀(pins:List (Addr×Obj)) (s:Shared) (σ:St) (H:Hp) (Q:VK),Inv X pins σ H s->t σ H Q->
  wpAny (model X.prog X.w) X.A (eval a X.env) (λv s₁=>wpAny (model X.prog X.w) X.A (eval b X.env) (λu s₂=>wpAny (model X.prog X.w) X.A (compareOp op v u) (EP X pins σ Q) X.xe s₂) X.xe s₁) X.xe s
def tB(t:TE):TT:=λσ H Q=>t σ H λx H1=>∃c,x=.bl c/\Q c H1
theorem xs6{op:CmpOp}{t:TE}(h:PC X op a b t)(h1:behindInMarks op b=false:=by first |exact nobehind _ (by decide) (by decide) |rfl):PE X (.Compare a [op] [b] pos) t:=λpins s σ H Q I c=>wpAny_Compare1 (h pins s σ H Q I c) h1
theorem xf4{op:CmpOp}{t:TE}(h:PC X op a b t)(h1:behindInMarks op b=false:=by first |exact nobehind _ (by decide) (by decide) |rfl):PT X (.Compare a [op] [b] pos) (tB t):=by
 intro pins s σ H Q I g;refine wpAny_isTrue_Compare1 (thn (h pins s σ H _ I g) λv m h1=>thn h1 λu l h2=>thn h2 λc j ⟨x,H1,i,e,f⟩=>?_) h1;obtain⟨d,rfl,q⟩:=f;cases e;exact wpAny_truthy_bool ⟨H1,i,q⟩
theorem xnc{e:Expr}{t:TE}(h:PE X e t)(he:∀whole,isTrue e X.env whole=(do let v <- whole;standAt e.pos;holding [v] (truthy v)):=by intro _;rfl):PT X e (tB t):=by
 intro pins s σ H Q I hw;refine isTrue_plain (thn (h pins s σ H _ I hw) λv s1 ⟨x,H1,I1,r1,q1⟩=>?_) (he _);obtain⟨d,rfl,q⟩:=q1;cases r1;exact wpAny_truthy_bool ⟨H1,I1,q⟩
variable {tA tB':TT}{rest:List Expr}
def tAnd(t u:TT):TT:=λσ H Q=>t σ H λc H1=>if c=true then u σ H1 Q else Q false H1
def tOr(t u:TT):TT:=λσ H Q=>t σ H λc H1=>if c=true then Q true H1 else u σ H1 Q
def tNot(t:TT):TT:=λσ H Q=>t σ H λc H1=>Q (!c) H1
theorem xdj(b:PT X a tA):PW X (.BoolOp .And [a] pos) tA:=by
 intro f pins s σ H Q I h;refine isTrue_and (thn (b pins s σ H Q I h) λc g e=>?_)
 cases c with
 |true=>exact isTrue_and_nil e
 |false=>exact e
theorem xsv(b:PT X a tA):PW X (.BoolOp .Or [a] pos) tA:=by
 intro f pins s σ H Q I h;refine isTrue_or (thn (b pins s σ H Q I h) λc g e=>?_)
 cases c with
 |false=>exact isTrue_or_nil e
 |true=>exact e
theorem xea(l:PT X a tA)(j:PW X (.BoolOp .And (b::rest) pos) tB'):PW X (.BoolOp .And (a::b::rest) pos) (tAnd tA tB'):=by
 intro g pins s σ H Q I h;refine isTrue_and (thn (l pins s σ H _ I h) λc i ⟨H1,f,e⟩=>?_)
 cases c with
 |true=>exact j g pins i σ H1 Q f e
 |false=>exact⟨H1,f,e⟩
theorem xue(l:PT X a tA)(j:PW X (.BoolOp .Or (b::rest) pos) tB'):PW X (.BoolOp .Or (a::b::rest) pos) (tOr tA tB'):=by
 intro g pins s σ H Q I h;refine isTrue_or (thn (l pins s σ H _ I h) λc i ⟨H1,f,e⟩=>?_)
 cases c with
 |true=>exact⟨H1,f,e⟩
 |false=>exact j g pins i σ H1 Q f e
theorem xk3(b:PT X a tA):PT X (.UnaryOp .Not a pos) (tNot tA):=by
 intro pins s σ H Q I h;exact isTrue_not (b pins s σ H (λc H1=>Q (!c) H1) I h)
def xt5(ta tb:TE):TE:=λσ H Q=>ta σ H λx H1=>∃c,x=.bl c/\if c=true then tb σ H1 Q else Q (.bl false) H1
def xt0(ta:TE):TE:=λσ H Q=>ta σ H λx H1=>∃c,x=.bl c/\Q (.bl (!c)) H1
theorem xk5{op}{t:TE}(h:PE X a t):PE X (.BoolOp op [a] pos) t:=λpins s σ H Q I b=>BoolOp_one (h pins s σ H Q I b)
theorem xk6(l:PE X a ta)(j:PE X (.BoolOp .And (b::rest) pos) tb):PE X (.BoolOp .And (a::b::rest) pos) (xt5 ta tb):=by
 intro pins s σ H Q I h;refine BoolOp_and (thn (l pins s σ H _ I h) λv g ⟨x,H1,f,i,e⟩=>?_);obtain⟨c,rfl,e⟩:=e;cases i;refine wpAny_truthy_bool ?_
 cases c with
 |true=>exact j pins g σ H1 Q f e
 |false=>exact⟨.bl false,H1,f,rfl,e⟩
theorem xs4(f:PE X a ta):PE X (.UnaryOp .Not a pos) (xt0 ta):=by
 intro pins s σ H Q I h;refine UnaryOp_ (thn (f pins s σ H _ I h) λv i ⟨x,H1,g,e,b⟩=>?_);obtain⟨c,rfl,b⟩:=b;cases e;exact not_of (wpAny_truthy_bool ⟨.bl (!c),H1,g,rfl,b⟩)
def tIf(t:TT)(ta tb:TE):TE:=λσ H Q=>t σ H λc H1=>if c=true then ta σ H1 Q else tb σ H1 Q
theorem xhb{c:Expr}(i:PT X c tA)(l:PE X a ta)(j:PE X b tb):PE X (.IfExp c a b pos) (tIf tA ta tb):=by
 intro pins s σ H Q I h;refine wpAny_IfExp (thn (i pins s σ H _ I h) λd e ⟨H1,g,f⟩=>?_)
 cases d with
 |true=>exact l pins e σ H1 Q g f
 |false=>exact j pins e σ H1 Q g f
end
def SqL(K:Fg)(H:Hp)(a:Addr)(xs:List V):Prop:=
 Rd H a (.lst xs) ∨
  ∃(o:Obj) (its:Array Value) (n:Nat),K.lookup a=some o/\o.cls=.type "list"/\o.dict=none/\o.data=.seq its n/\its.size<=sizeLine/\Vals xs its.toList
def SqT(K:Fg)(H:Hp)(a:Addr)(xs:List V):Prop:=
 Rd H a (.tup xs) ∨
  ∃(o:Obj) (its:Array Value) (n:Nat),K.lookup a=some o/\o.cls=.type "tuple"/\o.data=.seq its n/\its.size<=sizeLine/\Vals xs its.toList
def absV:Value->Option V
 |.none=>some .non
 |.bool b=>some (.bl b)
 |.int i _=>some (.int i)
 |.str x _=>some (.str x)
 |.bytes b _=>some (.byt b)
 |.float b _=>some (.flt b)
 |.ref a=>some (.ref a)
 |.type n=>some (.ty n)
 |_=>none
theorem RelV.abs{x:V}{u:Value}(r:RelV x u):absV u=some x:=by
 cases x with
 |non=>cases r;rfl
 |bl _=>cases r;rfl
 |int _=>obtain⟨t,rfl⟩:=r;rfl
 |str _=>obtain⟨t,rfl⟩:=r;rfl
 |byt _=>obtain⟨t,rfl⟩:=r;rfl
 |flt _=>obtain⟨t,rfl⟩:=r;rfl
 |ref _=>cases r;rfl
 |ty _=>cases r;rfl
theorem RelV.inj{x y:V}{u:Value}(r:RelV x u)(q:RelV y u):x=y:=Option.some.inj (r.abs.symm.trans q.abs)
theorem Vals.inj:∀{xs ys:List V} {us:List Value},Vals xs us->Vals ys us->xs=ys
 |_,_,_,.nil,.nil=>rfl
 |_,_,_,.cons r t,.cons a t'=>by rw[r.inj a,Vals.inj t t']
section
variable {X:Cx}{pins:List (Addr×Obj)}{σ:St}{H:Hp}{s:Shared}{a:Addr}{xs ys:List V}
theorem SqL.of{K:Fg}(h:H a=some (.lst xs)):SqL K H a xs:=.inl (.inl h)
theorem SqT.of{K:Fg}(h:H a=some (.tup xs)):SqT K H a xs:=.inl (.inl h)
theorem Inv.list(I:Inv X pins σ H s)(h:SqL X.K H a xs):∃its:List Value,Vals xs its/\PlainL s.heap a its.toArray/\xs.length<=sizeLine:=by
 rcases h with h |⟨o,its,n,b,c,hd,hs,hz,r⟩
 ·obtain⟨z,its,n,r,e⟩:=h.ok I.hok
  exact⟨its,r,⟨_,n,e,rfl,rfl,rfl⟩,z⟩
 ·refine⟨its.toList,r,⟨o,n,I.kIn a o b,c,hd,by simpa using hs⟩,?_⟩
  have e:=r.length;simp only[Array.length_toList]at e;omega
theorem Inv.tuple(I:Inv X pins σ H s)(h:SqT X.K H a xs):∃its:List Value,Vals xs its/\IsTup s.heap a its.toArray/\xs.length<=sizeLine:=by
 rcases h with h |⟨o,its,n,b,f,hs,hz,r⟩
 ·obtain⟨z,its,r,o,e,c,n,d,_⟩:=h.ok I.hok
  exact⟨its,r,⟨o,e,c,n,d⟩,z⟩
 ·refine⟨its.toList,r,⟨o,I.kIn a o b,f,n,by simpa using hs⟩,?_⟩
  have e:=r.length;simp only[Array.length_toList]at e;omega
theorem Inv.list_inj(I:Inv X pins σ H s)(h:SqL X.K H a xs)(h':SqL X.K H a ys):xs=ys:=by
 obtain⟨its,r,⟨o,n,e,_,_,d⟩,_⟩:=I.list h;obtain⟨its',c,⟨o',g,b,_,_,d'⟩,_⟩:=I.list h';rw[e]at b;cases b;rw[d]at d';injection d' with f _;have:its=its':=by simpa using congrArg Array.toList f
 subst this;exact r.inj c
theorem Inv.tuple_inj(I:Inv X pins σ H s)(h:SqT X.K H a xs)(h':SqT X.K H a ys):xs=ys:=by
 obtain⟨its,r,⟨o,e,_,n,d⟩,_⟩:=I.tuple h;obtain⟨its',c,⟨o',b,_,g,d'⟩,_⟩:=I.tuple h';rw[e]at b;cases b;rw[d]at d';injection d' with f _;have:its=its':=by simpa using congrArg Array.toList f
 subst this;exact r.inj c
end
abbrev Cx.wish(X:Cx)(E:Value->Shared->Prop):Cx:={X with xe:=E}
abbrev Cx.nox(X:Cx):Cx:=X.wish λ_ _=>False
theorem Cx.Ok.wish{X:Cx}(ok:X.Ok)(E:Value->Shared->Prop):(X.wish E).Ok:=
 ⟨ok.mod,ok.kind,ok.glob,ok.blt,ok.above,ok.inj,ok.has,ok.cab,ok.hd,ok.frames,ok.stk,ok.exf,ok.bs,ok.bsz,ok.noex,ok.exfs,ok.funs,ok.frf⟩
theorem Cx.Ok.unwish{X:Cx}{E:Value->Shared->Prop}(ok:(X.wish E).Ok):X.Ok:=
 ⟨ok.mod,ok.kind,ok.glob,ok.blt,ok.above,ok.inj,ok.has,ok.cab,ok.hd,ok.frames,ok.stk,ok.exf,ok.bs,ok.bsz,ok.noex,ok.exfs,ok.funs,ok.frf⟩
section
variable {X:Cx}{pins:List (Addr×Obj)}{σ:St}{H:Hp}{s:Shared}{E:Value->Shared->Prop}
theorem Inv.wish(I:Inv X pins σ H s)(E:Value->Shared->Prop):Inv (X.wish E) pins σ H s:=⟨I.ok.wish E,I.os,I.bare,I.base,I.loc,I.cell,I.free,I.freeC,I.pin,I.hok,I.len⟩
theorem Inv.unwish(I:Inv (X.wish E) pins σ H s):Inv X pins σ H s:=⟨I.ok.unwish,I.os,I.bare,I.base,I.loc,I.cell,I.free,I.freeC,I.pin,I.hok,I.len⟩
theorem SP.unwish{D:Ends}{f:Flow}{s':Shared}(h:SP (X.wish E) pins D f s'):SP X pins D f s':=by
 cases f with
 |next=>obtain⟨a,H',I,q⟩:=h;exact⟨a,H',I.unwish,q⟩
 |brk=>obtain⟨a,H',I,q⟩:=h;exact⟨a,H',I.unwish,q⟩
 |cont=>obtain⟨a,H',I,q⟩:=h;exact⟨a,H',I.unwish,q⟩
 |ret u=>obtain⟨v,a,H',I,r,q⟩:=h;exact⟨v,a,H',I.unwish,r,q⟩
theorem PSs.nox{st:List Stmt}{t:TS}(h:PSs X.nox st t):PSs X st t:=λpins s σ H D I a=>
 wpAny_mono (h pins s σ H D (I.wish _) a) (λ_ _ q=>q.unwish) λ_ _ z=>False.elim z
end
section
variable {X:Cx}{st:Stmt}{rest:List Stmt}{t u:TS}{e:Expr}{te:TE}{pos:Pos}
def xt1:TS:=λD σ H=>D.nx σ H
def tSeq(t u:TS):TS:=λD σ H=>t {D with nx:=u D} σ H
theorem pQ:PSs X [] xt1:=λ_ _ σ H _ I h=>wpAny_execs_nil ⟨σ,H,I,h⟩
theorem zpn(h1:PS X st t)(h2:PSs X rest u):PSs X (st::rest) (tSeq t u):=by
 intro pins s σ H D I h;refine wpAny_execs_cons (thn (h1 pins s σ H {D with nx:=u D} I h) λf b q=>?_)
 cases f with
 |next=>
  obtain⟨a,H',c,q⟩:=q;exact h2 pins b a H' D c q
 |ret v=>exact q
 |brk=>exact q
 |cont=>exact q
theorem zpo(h1:PS X st t):PSs X [st] t:=by
 intro pins s σ H D I h;refine wpAny_execs_cons (thn (h1 pins s σ H D I h) λf a q=>?_)
 cases f with
 |next=>exact wpAny_execs_nil q
 |ret v=>exact q
 |brk=>exact q
 |cont=>exact q
theorem Inv.quiet{pins:List (Addr×Obj)}{σ:St}{H:Hp}{s:Shared}(I:Inv X pins σ H s):interactive X.env=false:=by simp[interactive,I.ok.kind]
def xt2(te:TE):TS:=λD σ H=>te σ H λ_ H1=>D.nx σ H1
theorem xa1(b:PE X e te)(hs:swapsWith e none pos.line X.env=pure false:=by rfl):PS X (.Expr e pos) (xt2 te):=by
 intro pins s σ H D I h;exact wpAny_Expr_any (thn (b pins s σ H _ I h) λv f ⟨x,H1,c,g,a⟩=>⟨σ,H1,c,a⟩) I.quiet hs
def tRet(te:TE):TS:=λD σ H=>te σ H D.rt
theorem xad(c:PE X e te):PS X (.Return (some e) pos) (tRet te):=by
 intro pins s σ H D I h;exact wpAny_Return_some (thn (c pins s σ H _ I h) λv g ⟨x,H1,f,a,b⟩=>⟨x,σ,H1,f,a,b⟩)
def tIfS(c:TT)(t u:TS):TS:=λD σ H=>c σ H λb H1=>if b=true then t D σ H1 else u D σ H1
theorem xax{c:Expr}{a b:List Stmt}{tc:TT}(i:PT X c tc)(l:PSs X a t)(j:PSs X b u):PS X (.If c a b pos) (tIfS tc t u):=by
 intro pins s σ H D I h;refine wpAny_If (thn (i pins s σ H _ I h) λd e ⟨H1,g,f⟩=>?_)
 cases d with
 |true=>exact l pins e σ H1 D g f
 |false=>exact j pins e σ H1 D g f
def xsd:TS:=λ_ _ _=>False
theorem xbq:PS X st xsd:=λ_ _ _ _ _ _ h=>h.elim
end
abbrev TG:=V->St->Hp->(St->Hp->Prop)->Prop
abbrev TGs:=List V->St->Hp->(St->Hp->Prop)->Prop
def PG(X:Cx)(target:Expr)(t:TG):Prop:=
 ∀(pins:List (Addr×Obj)) (s:Shared) (σ:St) (H:Hp) (v:V) (u:Value) (Q:St->Hp->Prop),Inv X pins σ H s->RelV v u->t v σ H Q->
  wpAny (model X.prog X.w) X.A (assign target X.env u) (λ_ s'=>∃σ' H',Inv X pins σ' H' s'/\Q σ' H') X.xe s
def PGs(X:Cx)(ts:List Expr)(t:TGs):Prop:=
 ∀(pins:List (Addr×Obj)) (s:Shared) (σ:St) (H:Hp) (vs:List V) (us:List Value) (Q:St->Hp->Prop),Inv X pins σ H s->Vals vs us->t vs σ H Q->
  wpAny (model X.prog X.w) X.A (assignInOrder ((assignEach ts X.env).map (·.2)) us) (λ_ s'=>∃σ' H',Inv X pins σ' H' s'/\Q σ' H') X.xe s
abbrev TSet:=V->V->V->Hp->(Hp->Prop)->Prop
def PSet(X:Cx)(t:TSet):Prop:=
 ∀(pins:List (Addr×Obj)) (s:Shared) (σ:St) (H:Hp) (o i v:V) (ov iv u:Value) (Q:Hp->Prop),Inv X pins σ H s->RelV o ov->RelV i iv->RelV v u->t o i v H Q->
  wpAny (model X.prog X.w) X.A (setItem ov iv u) (λ_ s'=>∃H',Inv X pins σ H' s'/\Q H') X.xe s
section
variable {X:Cx}{pos:Pos}
def xgg(i:Nat):TG:=λv σ H Q=>Q (σ.set i (some v)) H
theorem xnf{i:Nat}{x:Str}(c:X.N.Nodup)(hi:X.N[i]?=some x)(a:Loc X.env.scope x)(b:X.fn x=true\/X.env.scope.names.lookup x=some .local:=by first |exact .inl rfl |exact .inr rfl |assumption):PG X (.Name x pos) (xgg i):=by
 intro pins s σ H v u Q I r h;exact wpAny_assign_Name (xkw I c hi a r (λs' e=>⟨_,H,e,h⟩) b)
def gNil:TGs:=λvs σ H Q=>vs=[]/\Q σ H
def xur(t:TG)(u:TGs):TGs:=λvs σ H Q=>∃v r,vs=v::r/\t v σ H λσ' H'=>u r σ' H' Q
theorem xa2:PGs X [] gNil:=by
 intro pins s σ H vs us Q I r h;obtain⟨e,h⟩:=h;subst e;cases r;exact assignInOrder_nil ⟨σ,H,I,h⟩
theorem xac {e:Expr} {es:List Expr} {t:TG} {u:TGs} (h1:PG X e t) (h2:PGs X es u)
  (hs:(assignEach (e::es) X.env).map (·.2)=assign e X.env::(assignEach es X.env).map (·.2):=by rfl):PGs X (e::es) (xur t u):=by
 intro pins s σ H vs us Q I r h;obtain⟨v,j,g,h⟩:=h;subst g
 cases r with
 |cons r c=>
  rw[hs];refine assignInOrder_cons (thn (h1 pins s σ H _ _ _ I r h) λ_ b ⟨a,H1,i,f⟩=>?_);exact h2 pins b a H1 _ _ Q i c f
def gTup(K:Fg)(n:Nat)(t:TGs):TG:=λv σ H Q=>∃a xs,v=.ref a/\SqT K H a xs/\xs.length=n/\t xs σ H Q
theorem xs2 {es:List Expr} {k:Nat} {t:TGs} {n:Nat} (p:X.calm=true) (h:PGs X es t)
  (hn:(assignEach es X.env).length=n:=by rfl) (f:(assignEach es X.env).findIdx? (·.1)=none:=by rfl):PG X (.Tuple es k pos) (gTup X.K n t):=by
 intro pins s σ H v u Q I r c;obtain⟨a,xs,w,l,m,c⟩:=c;subst w;cases r;obtain⟨its,g,j,hz⟩:=I.tuple l;refine assign_Tuple_tuple (I.ok.hd p) j (by simp[hn,<- m,g.length]) f λh' i=>?_;have x:Inv X pins σ H {s with heap:=h'}:=I.kept (t':=s.toks) λb o e=>i b o (Nat.ne_of_lt (Heap.lt_size e)) e;exact h pins _ σ H xs _ Q x (by simpa using g) c
def gSub(to ti:TE)(t:TSet):TG:=λv σ H Q=>to σ H λo H1=>ti σ H1 λi H2=>t o i v H2 λH3=>Q σ H3
theorem xqh {o i:Expr} {to c:TE} {t:TSet} (p:PE X o to) (hi:PE X i c) (hs:PSet X t)
  (w:∀v,assign (.Subscript o i pos) X.env v=(do
   let a <- holding [v] (eval o X.env)
   let b <- holding [v,a] (eval i X.env)
   standAt pos
   holding [v,a,b] (setItem a b v)
   release [v,a,b] []):=by intro _;rfl):PG X (.Subscript o i pos) (gSub to c t):=by
 intro pins s σ H v u Q I r h;rw[w];refine wpAny_bind (wpAny_holding (thn (p pins s σ H _ I h) λa f ⟨x,H1,G,j,n⟩=>?_));refine wpAny_bind (wpAny_holding (thn (hi pins f σ H1 _ G n) λb e ⟨y,H2,C,g,m⟩=>?_));refine wpAny_bind (wpAny_standAt (wpAny_bind (wpAny_holding (thn (hs pins e σ H2 x y v a b u _ C j g r m) λ_ M ⟨J,z,l⟩=>?_))));exact wpAny_release ⟨σ,J,z,l⟩
def tAsg(te:TE)(g:TG):TS:=λD σ H=>te σ H λx H1=>g x σ H1 D.nx
theorem xeb {tg e:Expr} {te:TE} {g:TG} (j:PE X e te) (i:PG X tg g) (hs:swapsWithSole [tg] e pos.line X.env=pure false:=by rfl) (f:swappedStores [tg] e X.env=pure none:=by rfl)
  (h1:(assignEach [tg] X.env).map (·.2)=[assign tg X.env]:=by rfl):PS X (.Assign [tg] e pos) (tAsg te g):=by
 intro pins s σ H D I h;refine wpAny_Assign_stores (thn (j pins s σ H _ I h) λv a ⟨x,H1,l,b,c⟩=>?_) hs f;rw[h1];exact thn (i pins a σ H1 x v _ l b c) λ_ m q=>q
theorem xsw {i:Nat} {x:Str} {e:Expr} {te:TE} {pos':Pos} (hN:X.N.Nodup) (hi:X.N[i]?=some x) (hx:Loc X.env.scope x) (he:PE X e te) (hs:swapsWith e (some (.Name x pos')) pos.line X.env=pure false:=by rfl) (hf:X.fn x=true\/X.env.scope.names.lookup x=some .local:=by first |exact .inl rfl |exact .inr rfl |assumption) :
  PS X (.Assign [.Name x pos'] e pos) (tAsg te (xgg i)):=by
 intro pins s σ H D I h;refine wpAny_Assign_Name (thn (he pins s σ H _ I h) λv s1 ⟨y,H1,I1,r1,q1⟩=>?_) hs;exact xkw I1 hN hi hx r1 (λs2 I2=>⟨_,H1,I2,q1⟩) hf
end
structure It where
 go:Nat->Hp->Prop
 yld:Nat->Hp->V->Hp->Prop
 stop:Nat->Hp->Prop
def FpOk(X:Cx)(pins:List (Addr×Obj))(H:Hp)(b:Addr):Prop:=
 H b=none/\b≠X.env.locals/\b ∉X.fs/\(b∈X.ex\/X.s₀.heap.objs.size<=b)/\(∀x c,X.env.cells.lookup x=some c->c≠b)/\∀p∈X.pn++pins,p.1≠b
theorem Inv.fpOk{X:Cx}{pins:List (Addr×Obj)}{σ:St}{H H':Hp}{s:Shared}{b:Addr}(I:Inv X pins σ H s)(a:s.heap.objs.size<=b)(hn:H' b=none):FpOk X pins H' b:=by
 refine⟨hn,Nat.ne_of_gt (Nat.lt_of_lt_of_le I.lt a),I.nofs a,.inr (Nat.le_trans I.sz a),λx c e z=>?_,λp f z=>?_⟩
 ·obtain⟨v,q⟩:=I.cell x c e
  exact absurd (Nat.lt_of_lt_of_le q.lt (by rw[z];exact a)) (Nat.lt_irrefl _)
 ·exact absurd (Nat.lt_of_lt_of_le (Heap.lt_size (I.pin p f).1) (by rw[z];exact a)) (Nat.lt_irrefl _)
structure Turn(P:Program)(w:World)(K:Fg)(tg:Expr)(J:It)(fp:List Addr)(it:Addr)(tn:Nat->Heap->Prop):Prop where
 mem:it∈fp
 obj:∀i h,tn i h->∀b∈fp,∃o,h.get? b=some o/\∀v,o.data≠.cell v
 keep:∀i h h',tn i h->(∀b∈fp,∀o,h.get? b=some o->h'.get? b=some o)->tn i h'
 item:∀(X:Cx),X.prog=P->X.w=w->X.K=K->X.calm=true->∀(i:Nat) (pins:List (Addr×Obj)) (s:Shared) (σ:St) (H:Hp) (E:Value->Shared->Prop),Inv X pins σ H s->(∀b∈fp,FpOk X pins H b)->tn i s.heap->J.go i H->
  wpAny (model P w) X.A (pyNext (.ref it)) (λr s1=>∃u,r=some u ∧
   wpAny (model P w) X.A (letOwnedTupleGo tg (.ref it) u) (λ_ s2=>∃x H',Inv X pins σ H' s2/\RelV x u/\J.yld i H x H'/\tn (i+1) s2.heap/\∀b∈fp,H' b=none) E s1) E s
 done:∀(X:Cx),X.prog=P->X.w=w->X.K=K->X.calm=true->∀(i:Nat) (pins:List (Addr×Obj)) (s:Shared) (σ:St) (H:Hp) (E:Value->Shared->Prop),Inv X pins σ H s->(∀b∈fp,FpOk X pins H b)->tn i s.heap->J.stop i H->
  wpAny (model P w) X.A (pyNext (.ref it)) (λr s1=>r=none/\Inv X pins σ H s1) E s
 self:∀(A:Around) (i:Nat) (s:Shared) (Q:Value->Shared->Prop) (E:Value->Shared->Prop),tn i s.heap->Q (.ref it) s->wpAny (model P w) A (pyIter (.ref it)) Q E s
abbrev TI:=St->Hp->(It->Hp->Prop)->Prop
def PIE(X:Cx)(pins:List (Addr×Obj))(σ:St)(tg:Expr)(R:It->Hp->Prop)(itv:Value)(s2:Shared):Prop:=
 ∃(it:Addr) (fp:List Addr) (tn:Nat->Heap->Prop) (J:It) (H':Hp),itv=.ref it/\Inv X pins σ H' s2/\Turn X.prog X.w X.K tg J fp it tn/\tn 0 s2.heap/\(∀b∈fp,FpOk X pins H' b)/\R J H'
def PI(X:Cx)(tg iter:Expr)(wi:TI):Prop:=
 ∀(pins:List (Addr×Obj)) (s:Shared) (σ:St) (H:Hp) (R:It->Hp->Prop),Inv X pins σ H s->wi σ H R->
  wpAny (model X.prog X.w) X.A (eval iter X.env) (λv s1=>wpAny (model X.prog X.w) X.A (pyIter v) (PIE X pins σ tg R) X.xe s1) X.xe s
theorem xp1 {M:Model} {A:Around} {E:Value->Shared->Prop} {s:Shared} {tg:Expr} {it:Addr} {u:Value} {o:Obj} {n:String} {vs:Array Value} {Q:Unit->Shared->Prop} (ho:s.heap.get? it=some o) (hc:o.cls=.type n) (hd:o.data=.fields vs)
    (hn:["enumerate","zip","dict_itemiterator","dict_reverseitemiterator","odict_iterator","itertools.zip_longest","itertools.pairwise"].contains n=false) (hQ:Q () s):wpAny M A (letOwnedTupleGo tg (.ref it) u) Q E s:=by
  unfold letOwnedTupleGo
  cases tg <;> first
    |exact wpAny_pure hQ
    |(cases u <;> first
        |exact wpAny_pure hQ
        | (refine wpAny_bind (wpAny_load ho ?_)
           rw[hc,hd];show wpAny M A (if (["enumerate","zip","dict_itemiterator","dict_reverseitemiterator","odict_iterator","itertools.zip_longest","itertools.pairwise"].contains n && vs[0]? == some (rawInt _))=true then _ else _) Q E s;rw[if_neg (by intro h;rw[hn,Bool.false_and]at h;cases h)];exact wpAny_pure hQ))
def Itl(K:Fg)(a:Addr):It:=
 ⟨λi H=>∃xs x,SqL K H a xs/\xs[i]?=some x,λi H x H'=>H'=H/\∀xs,SqL K H a xs->xs[i]?=some x,λi H=>∃xs,SqL K H a xs/\xs.length<=i⟩
def Itt(K:Fg)(a:Addr):It:=
 ⟨λi H=>∃xs x,SqT K H a xs/\xs[i]?=some x,λi H x H'=>H'=H/\∀xs,SqT K H a xs->xs[i]?=some x,λi H=>∃xs,SqT K H a xs/\xs.length<=i⟩
def Itr(lo:Int)(n:Nat):It:=⟨λi _=>i<n,λi H x H'=>H'=H/\x=.int (lo+i),λi _=>n<=i⟩
theorem xmo{P:Program}{w:World}{K:Fg}{tg:Expr}(a it:Addr):Turn P w K tg (Itl K a) [it] it (λi h=>h.IsListIter it a i) where
 mem:=by simp
 obj:=λi h st b f=>by
  have e:b=it:=by simpa using f
  subst e;obtain⟨o,e,c,d⟩:=st;exact⟨o,e,λv z=>by rw[d]at z;cases z⟩
 keep:=λi h h' st k=>st.at λo e=>k it (by simp) o e
 item:=by
  intro X C r G Z i pins s σ H E I l st y;subst C r G;obtain⟨xs,x,j,n⟩:=y;obtain⟨its,m,p,hz⟩:=I.list j;obtain⟨u,hu,ru⟩:=m.get n;obtain⟨Y,U,f2,O,M,J⟩:=l it (by simp);refine wpAny_pyNext_list_item st p.isList (x:=u) (by simpa using hu) λh' g sb=>?_;have I1:Inv X pins σ H {s with heap:=h'}:=I.turned (t':=s.toks) (λb o f e=>(sb.2 b f).trans e) Y U O M J;obtain⟨o,e,c,d⟩:=id g;exact⟨u,rfl,xp1 (s:={s with heap:=h'}) e c d (by decide) ⟨x,H,I1,ru,⟨rfl,λys hy=>by rw[I.list_inj hy j];exact n⟩,g,λb f=>(l b f).1⟩⟩
 done:=by
  intro X C r G Z i pins s σ H E I l st y;subst C r G;obtain⟨xs,j,n⟩:=y;obtain⟨its,m,p,hz⟩:=I.list j;obtain⟨Y,U,f2,O,M,J⟩:=l it (by simp);have hl:=m.length;exact wpAny_pyNext_list_end (I.ok.hd Z) st p.isList (by simp;omega) λh' eb=>⟨rfl,I.turned (t':=s.toks) (λb o f e=>eb b o f e) Y U O M J⟩
 self:=λ_ _ _ _ _ st h=>wpAny_pyIter_listiter st h
theorem xlu{P:Program}{w:World}{K:Fg}{tg:Expr}(a it:Addr):Turn P w K tg (Itt K a) [it] it (λi h=>h.IsTupleIter it a i) where
 mem:=by simp
 obj:=λi h st b f=>by
  have e:b=it:=by simpa using f
  subst e;obtain⟨o,e,c,d⟩:=st;exact⟨o,e,λv z=>by rw[d]at z;cases z⟩
 keep:=λi h h' st k=>st.at λo e=>k it (by simp) o e
 item:=by
  intro X C r G Z i pins s σ H E I l st y;subst C r G;obtain⟨xs,x,j,n⟩:=y;obtain⟨its,m,p,hz⟩:=I.tuple j;obtain⟨u,hu,ru⟩:=m.get n;obtain⟨Y,U,f2,O,M,J⟩:=l it (by simp);refine wpAny_pyNext_tuple_item st (show s.heap.IsTuple a its.toArray from p) (x:=u) (by simpa using hu) λh' g sb=>?_;have I1:Inv X pins σ H {s with heap:=h'}:=I.turned (t':=s.toks) (λb o f e=>(sb.2 b f).trans e) Y U O M J;obtain⟨o,e,c,d⟩:=id g;exact⟨u,rfl,xp1 (s:={s with heap:=h'}) e c d (by decide) ⟨x,H,I1,ru,⟨rfl,λys hy=>by rw[I.tuple_inj hy j];exact n⟩,g,λb f=>(l b f).1⟩⟩
 done:=by
  intro X C r G Z i pins s σ H E I l st y;subst C r G;obtain⟨xs,j,n⟩:=y;obtain⟨its,m,p,hz⟩:=I.tuple j;obtain⟨Y,U,f2,O,M,J⟩:=l it (by simp);have hl:=m.length;exact wpAny_pyNext_tuple_end (I.ok.hd Z) st (show s.heap.IsTuple a its.toArray from p) (by simp;omega) λh' eb=>⟨rfl,I.turned (t':=s.toks) (λb o f e=>eb b o f e) Y U O M J⟩
 self:=λ_ _ _ _ _ st h=>wpAny_pyIter_tupleiter st h
theorem xlv{P:Program}{w:World}{K:Fg}{tg:Expr}(it:Addr)(lo:Int)(n:Nat):Turn P w K tg (Itr lo n) [it] it (λi h=>IsRangeIter h it (lo+(i:Nat)*1) ((n:Int)-(i:Nat)) 1) where
 mem:=by simp
 obj:=λi h st b a=>by
  have e:b=it:=by simpa using a
  subst e
  exact⟨_,st,λv z=>by
   have G:Data.fields _=Data.cell v:=z;cases G⟩
 keep:=λi h h' st k=>k it (by simp) _ st
 item:=by
  intro X m g p l i pins s σ H E I f st j;subst m g p;obtain⟨C,y,O,x,u,r⟩:=f it (by simp);have W:=Walks.range (prog:=X.prog) (w:=X.w) (I.ok.hd l) it lo 1 n;refine W.item i s _ _ j st λv h' tk M c J=>?_;obtain⟨t,rfl⟩:=M;have Y:Inv X pins σ H {s with heap:=h',toks:=tk}:=I.turned (λb o a e=>J b o (by simpa using a) e) C y x u r;refine⟨_,rfl,xp1 (s:={s with heap:=h',toks:=tk}) (n:="range_iterator") c rfl rfl (by decide) ⟨.int (lo+i),H,Y,⟨t,?_⟩,⟨rfl,rfl⟩,c,λb a=>(f b a).1⟩⟩;rw[Int.mul_one]
 done:=by
  intro X m g p l i pins s σ H E I f st j;subst m g p;obtain⟨C,y,O,x,u,r⟩:=f it (by simp);exact wpAny_pyNext_range_end (I.ok.hd l) st (by have:n<=i:=j;omega) λh' U=>⟨rfl,I.turned (t':=s.toks) (λb o a e=>U b o a e) C y x u r⟩
 self:=λ_ _ _ _ _ st h=>wpAny_pyIter_rangeiter st h
section
variable {X:Cx}{tg:Expr}
def xtm(K:Fg)(tl:TE):TI:=λσ H R=>tl σ H λx H1=>∃a,x=.ref a/\(∃xs,SqL K H1 a xs)/\R (Itl K a) H1
def iTup(K:Fg)(tl:TE):TI:=λσ H R=>tl σ H λx H1=>∃a,x=.ref a/\(∃xs,SqT K H1 a xs)/\R (Itt K a) H1
theorem xq8{l:Expr}{tl:TE}(m:PE X l tl):PI X tg l (xtm X.K tl):=by
 intro pins s σ H R I h;refine thn (m pins s σ H _ I h) λv c ⟨x,H1,f,g,i⟩=>?_;obtain⟨a,e,⟨xs,j⟩,q⟩:=i;subst e;cases g;obtain⟨its,r,p,hz⟩:=f.list j;refine wpAny_pyIter_list p.isList ?_;refine⟨c.heap.objs.size,[c.heap.objs.size],_,_,H1,rfl,f.kept (t':=c.toks) λb o e=>zPO _ e,xmo a _,⟨_,Heap.get?_push_size _ rfl,rfl,rfl⟩,λb n=>?_,q⟩;have e:b=c.heap.objs.size:=by simpa using n
 subst e;exact f.fpOk (Nat.le_refl _) (f.hok.fresh (Nat.le_refl _))
theorem xs0{l:Expr}{tl:TE}(m:PE X l tl):PI X tg l (iTup X.K tl):=by
 intro pins s σ H R I h;refine thn (m pins s σ H _ I h) λv c ⟨x,H1,f,g,i⟩=>?_;obtain⟨a,e,⟨xs,j⟩,q⟩:=i;subst e;cases g;obtain⟨its,r,p,hz⟩:=f.tuple j;refine wpAny_pyIter_tuple (show c.heap.IsTuple a its.toArray from p) ?_;refine⟨c.heap.objs.size,[c.heap.objs.size],_,_,H1,rfl,f.kept (t':=c.toks) λb o e=>zPO _ e,xlu a _,⟨_,Heap.get?_push_size _ rfl,rfl,rfl⟩,λb n=>?_,q⟩;have e:b=c.heap.objs.size:=by simpa using n
 subst e;exact f.fpOk (Nat.le_refl _) (f.hok.fresh (Nat.le_refl _))
theorem xk2 {pins:List (Addr×Obj)} {σ:St} {H:Hp} {s:Shared} {R:It->Hp->Prop} {E:Value->Shared->Prop} {lo hi:Int} {t u v:Tok} {tk:Nat} (I:Inv X pins σ H s) (h1:-(2 ^ 62)<=lo) (h2:lo<2 ^ 62) (h3:-(2 ^ 62)<=hi) (h4:hi<2 ^ 62)
  (q:R (Itr lo (hi-lo).toNat) H):wpAny (model X.prog X.w) X.A (pyIter (.ref s.heap.objs.size)) (PIE X pins σ tg R) E {s with heap:=s.heap.push {cls:=.type "range",data:=.fields #[.int lo t,.int hi u,.int 1 v]},toks:=tk}:=by
 refine wpAny_pyIter_range (IsRange.new ..) (small_one h1 h2 h3 h4) ?_;have I1:Inv X pins σ H {s with heap:=s.heap.push {cls:=.type "range",data:=.fields #[.int lo t,.int hi u,.int 1 v]},toks:=tk}:=I.kept λb o e=>zPO _ e
 refine⟨(s.heap.push {cls:=.type "range",data:=.fields #[.int lo t,.int hi u,.int 1 v]}).objs.size,[(s.heap.push {cls:=.type "range",data:=.fields #[.int lo t,.int hi u,.int 1 v]}).objs.size],_,_,H,rfl,
  I1.kept (t':=tk) λb o e=>zPO _ e,xlv _ lo (hi-lo).toNat,?_,λb hb=>?_,q⟩
 ·have e1:lo+((0:Nat):Int)*1=lo:=by simp
  have e2:(((hi-lo).toNat:Nat):Int)-((0:Nat):Int)=Builtin.Range.rangeSize lo hi 1:=by rw[rangeSize_one];split <;> omega
  show IsRangeIter _ _ (lo+((0:Nat):Int)*1) ((((hi-lo).toNat:Nat):Int)-((0:Nat):Int)) 1;rw[e1,e2];exact Heap.get?_push_size _ rfl
 ·have e:b=(s.heap.push {cls:=.type "range",data:=.fields #[.int lo t,.int hi u,.int 1 v]}).objs.size:=by simpa using hb
  subst e;exact I1.fpOk (Nat.le_refl _) (I1.hok.fresh (Nat.le_refl _))
def xuo(ta:TA):TI:=λσ H R=>ta σ H λvs H1=>∃j:Int,vs=[.int j]/\-(2 ^ 62)<=j/\j<2 ^ 62/\R (Itr 0 j.toNat) H1
def xun(ta:TA):TI:=λσ H R=>ta σ H λvs H1=>∃i j:Int,vs=[.int i,.int j]/\(-(2 ^ 62)<=i/\i<2 ^ 62/\-(2 ^ 62)<=j/\j<2 ^ 62)/\R (Itr i (j-i).toNat) H1
theorem xcc{a:Expr}{ta:TA}{p pos:Pos}(l:Gl X "range")(i:X.mg "range"=none)(m:PA X [a] ta)(hs:starEach [a] X.env=[(false,eval a X.env)]:=by rfl):PI X tg (.Call (.Name "range" p) [a] [] pos) (xuo ta):=by
 intro pins s σ H R I h;refine Call_ (xer I l i boot_range (PyProof.Rows.callWith_type1 (thn (m pos pins s σ H _ I h) λus o ⟨vs,H1,n,f,b⟩=>?_) hs rfl));obtain⟨j,e,b,g,q⟩:=b;subst e
 cases f with
 |cons r c=>
  cases c;obtain⟨t,rfl⟩:=r;exact call_range_1 (xk2 n (by omega) (by omega) b g (by simpa using q))
theorem xne {a b:Expr} {ta:TA} {p pos:Pos} (x:Gl X "range") (w:X.mg "range"=none) (y:PA X [a,b] ta) (hs:starEach [a,b] X.env=[(false,eval a X.env),(false,eval b X.env)]:=by rfl) (c:starEach [b] X.env=[(false,eval b X.env)]:=by rfl) :
  PI X tg (.Call (.Name "range" p) [a,b] [] pos) (xun ta):=by
 intro pins s σ H R I h;refine Call_ (xer I x w boot_range (PyProof.Rows.callWith_type1 (thn (y pos pins s σ H _ I h) λus C ⟨vs,H1,z,l,g⟩=>?_) (by rw[hs,c]) (by rw[c];rfl)));obtain⟨i,j,e,⟨g,u,o,n⟩,q⟩:=g;subst e
 cases l with
 | cons r f=>
  cases f with
  |cons m f=>
   cases f;obtain⟨t,rfl⟩:=r;obtain⟨t',rfl⟩:=m;exact call_range_2 (xk2 z g u o n q)
def tFor(wi:TI)(g:TG)(tb:TS):TS:=λD σ H=>wi σ H λJ H1=>∃W:Nat->Nat->St->Hp->Prop,(∃m,W 0 m σ H1)/\∀i m σ H,W i m σ H->
 (J.stop i H/\D.nx σ H)\/(J.go i H/\∃N:St->Hp->Prop,(∀σ' H',N σ' H'->∃m',m'<m/\W (i+1) m' σ' H')/\∀x H',J.yld i H x H'->g x σ H' λσ2 H2=>tb {D with nx:=N,ct:=N,bk:=D.nx} σ2 H2)
def xia(fp:List Addr)(h:Heap):List (Addr×Obj):=fp.filterMap λb=>(h.get? b).map λo=>(b,o)
theorem xd5{a:List Addr}{h:Heap}{b:Addr}{o:Obj}(c:b∈a)(e:h.get? b=some o):(b,o)∈xia a h:=List.mem_filterMap.mpr ⟨b,c,by rw[e];rfl⟩
theorem xnu{a:List Addr}{h:Heap}{p:Addr×Obj}(c:p∈xia a h):p.1∈a/\h.get? p.1=some p.2:=by
 obtain⟨b,f,e⟩:=List.mem_filterMap.mp c
 cases q:h.get? b with
 |none=>rw[q]at e;cases e
 |some o=>
  rw[q]at e;have g:(b,o)=p:=Option.some.inj e;subst g;exact⟨f,q⟩
theorem Inv.pinned{pins:List (Addr×Obj)}{σ:St}{H:Hp}{s:Shared}{a:List Addr}(I:Inv X pins σ H s)(i:∀b∈a,FpOk X pins H b)(h:∀b∈a,∃o,s.heap.get? b=some o/\∀v,o.data≠.cell v):Inv X (pins++xia a s.heap) σ H s:=
 I.pins_of λp g=>(zMA g).elim (λz=>I.pin p (List.mem_append_right _ z)) λz=>by
  obtain⟨c,e⟩:=xnu z;obtain⟨m,l,j,_⟩:=i p.1 c;obtain⟨o,f,d⟩:=h p.1 c;rw[e]at f;cases f;exact⟨e,m,l,j,d⟩
theorem Inv.unpinned{pins pl:List (Addr×Obj)}{σ:St}{H:Hp}{s:Shared}(I:Inv X (pins++pl) σ H s):Inv X pins σ H s:=I.pins_of λp a=>I.pin p (List.mem_append_right _ (List.mem_append_left _ a))
theorem xbp {j:Expr} {G:List Stmt} {wi:TI} {g:TG} {tb:TS} {pos:Pos} (hp:PassesOwn (model X.prog X.w) X.A X.env X.xe) (hc:X.calm=true) (hi:PI X tg j wi) (hg:PG X tg g) (l:PSs X G tb)
  (hs:∀x,foldedSetIterable j X.env x=pure x:=by intro _;rfl):PS X (.For tg j G [] pos) (tFor wi g tb):=by
 intro pins s σ H D I h;refine wpAny_For (thn (hi pins s σ H _ I h) λv s1 h1=>thn h1 λa5 s2 h2=>?_) hs;obtain⟨it,fp,tn,J,H2,e,I2,T,a2,f2,W,⟨m0,w0⟩,Y⟩:=h2;subst e;have c:∀{H':Hp},(∀b∈fp,H' b=none)->∀b∈fp,FpOk X pins H' b:=λhn b l=>⟨hn b l,(f2 b l).2⟩;refine codeAny_forLoop_any (λn s'=>∃i U H',Inv X pins U H' s'/\tn i s'.heap/\(∀b∈fp,H' b=none)/\W i n U H') ?_ m0 ⟨0,σ,H2,I2,a2,λb l=>(f2 b l).1,w0⟩;rintro n s3 ⟨i,O,H3,I3,a0,a1,w3⟩;rcases Y i n O H3 w3 with⟨Z,qn⟩ |⟨go,N,hN,step⟩
 ·refine wpAny_passesOwn hp (thn (T.done X rfl rfl rfl hc i pins s3 O H3 X.xe I3 (c a1) a0 Z) λr s4 ⟨hr,I4⟩=>?_)
  subst hr;exact wpAny_execs_nil ⟨O,H3,I4,qn⟩
 ·refine wpAny_passesOwn hp (thn (T.item X rfl rfl rfl hc i pins s3 O H3 X.xe I3 (c a1) a0 go) λr s4 ⟨u,hr,h4⟩=>?_)
  subst hr;refine wpAny_passesOwn hp (thn h4 λ_ s5 ⟨x,H5,I5,r5,y5,M,a3⟩=>?_);have a4:=I5.pinned (c a3) (T.obj _ _ M);refine wpAny_passesOwn hp (thn (hg _ s5 O H5 x u _ a4 r5 (step x H5 y5)) λ_ s6 ⟨σ6,H6,I6,q6⟩=>?_);refine wpAny_passesOwn hp (thn (l _ s6 σ6 H6 _ I6 q6) λf s7 C=>?_)
  have p:∀{a:St} {z:Hp},Inv X (pins++xia fp s5.heap) a z s7->N a z->∃m,m<n/\∃i U H',Inv X pins U H' s7/\tn i s7.heap/\(∀b∈fp,H' b=none)/\W i m U H':=λ{a z} y n7=>by
   obtain⟨m',hm,w7⟩:=hN a z n7;refine⟨m',hm,i+1,a,z,y.unpinned,T.keep _ _ _ M λb l o e=>(y.pin (b,o) (List.mem_append_right _ (List.mem_append_right _ (xd5 l e)))).1,λb l=>?_,w7⟩;obtain⟨o,e,d⟩:=T.obj _ _ M b l;exact(y.pin (b,o) (List.mem_append_right _ (List.mem_append_right _ (xd5 l e)))).2.1
  cases f with
  |next=>obtain⟨a,z,y,n7⟩:=C;exact p y n7
  |cont=>obtain⟨a,z,y,n7⟩:=C;exact p y n7
  |brk=>obtain⟨a,z,y,C⟩:=C;exact⟨a,z,y.unpinned,C⟩
  |ret v=>obtain⟨x7,a,z,y,r7,C⟩:=C;exact⟨x7,a,z,y.unpinned,r7,C⟩
end
theorem xho {K:Fg} {a:Addr} {xs:List V} {g:TG} {tb:TS} {D:Ends} {σ:St} {H:Hp} (Pv:Nat->St->Hp->Prop) (h0:Pv 0 σ H) (hl:∀i σ H,i<=xs.length->Pv i σ H->SqL K H a xs)
  (hs:∀i x σ H,xs[i]?=some x->Pv i σ H->g x σ H λσ2 H2=>tb {D with nx:=Pv (i+1),ct:=Pv (i+1),bk:=D.nx} σ2 H2) (hd:∀σ H,Pv xs.length σ H->D.nx σ H) :
  ∃W:Nat->Nat->St->Hp->Prop,(∃m,W 0 m σ H)/\∀i m σ H,W i m σ H->
   ((Itl K a).stop i H/\D.nx σ H)\/((Itl K a).go i H/\∃N:St->Hp->Prop,(∀σ' H',N σ' H'->∃m',m'<m/\W (i+1) m' σ' H')/\∀x H',(Itl K a).yld i H x H'->g x σ H' λσ2 H2=>tb {D with nx:=N,ct:=N,bk:=D.nx} σ2 H2):=by
 refine⟨λi m σ H=>m=xs.length-i/\i<=xs.length/\Pv i σ H,⟨xs.length,by simp,Nat.zero_le _,h0⟩,?_⟩;rintro i m σ H ⟨rfl,hi,p⟩;have q:=hl i σ H hi p;by_cases hlt:i<xs.length
 ·refine .inr ⟨⟨xs,xs[i],q,by simp[hlt]⟩,Pv (i+1),λσ' H' p'=>⟨xs.length-(i+1),by omega,rfl,hlt,p'⟩,λx H' y=>?_⟩
  obtain⟨e,y⟩:=y;subst e;exact hs i x σ _ (y xs q) p
 ·have e:i=xs.length:=by omega
  subst e;exact .inl ⟨⟨xs,q,Nat.le_refl _⟩,hd σ H p⟩
theorem xck {K:Fg} {a:Addr} {xs:List V} {g:TG} {tb:TS} {D:Ends} {σ:St} {H:Hp} (b:Nat->St->Hp->Prop) (h0:b 0 σ H) (n:∀i σ H,i<=xs.length->b i σ H->SqT K H a xs)
  (hs:∀i x σ H,xs[i]?=some x->b i σ H->g x σ H λf H2=>tb {D with nx:=b (i+1),ct:=b (i+1),bk:=D.nx} f H2) (hd:∀σ H,b xs.length σ H->D.nx σ H) :
  ∃W:Nat->Nat->St->Hp->Prop,(∃m,W 0 m σ H)/\∀i m σ H,W i m σ H->
   ((Itt K a).stop i H/\D.nx σ H)\/((Itt K a).go i H/\∃N:St->Hp->Prop,(∀h H',N h H'->∃j,j<m/\W (i+1) j h H')/\∀x H',(Itt K a).yld i H x H'->g x σ H' λf H2=>tb {D with nx:=N,ct:=N,bk:=D.nx} f H2):=by
 refine⟨λi m σ H=>m=xs.length-i/\i<=xs.length/\b i σ H,⟨xs.length,by simp,Nat.zero_le _,h0⟩,?_⟩;rintro i m σ H ⟨rfl,hi,p⟩;have q:=n i σ H hi p;by_cases c:i<xs.length
 ·refine .inr ⟨⟨xs,xs[i],q,by simp[c]⟩,b (i+1),λh H' l=>⟨xs.length-(i+1),by omega,rfl,c,l⟩,λx H' y=>?_⟩
  obtain⟨e,y⟩:=y;subst e;exact hs i x σ _ (y xs q) p
 ·have e:i=xs.length:=by omega
  subst e;exact .inl ⟨⟨xs,q,Nat.le_refl _⟩,hd σ H p⟩
theorem xc3 {lo:Int} {n:Nat} {g:TG} {tb:TS} {D:Ends} {σ:St} {H:Hp} (b:Nat->St->Hp->Prop) (h0:b 0 σ H)
  (hs:∀i σ H,i<n->b i σ H->g (.int (lo+i)) σ H λc H2=>tb {D with nx:=b (i+1),ct:=b (i+1),bk:=D.nx} c H2) (hd:∀σ H,b n σ H->D.nx σ H) :
  ∃W:Nat->Nat->St->Hp->Prop,(∃m,W 0 m σ H)/\∀i m σ H,W i m σ H->
   ((Itr lo n).stop i H/\D.nx σ H)\/((Itr lo n).go i H/\∃N:St->Hp->Prop,(∀f H',N f H'->∃h,h<m/\W (i+1) h f H')/\∀x H',(Itr lo n).yld i H x H'->g x σ H' λc H2=>tb {D with nx:=N,ct:=N,bk:=D.nx} c H2):=by
 refine⟨λi m σ H=>m=n-i/\i<=n/\b i σ H,⟨n,by simp,Nat.zero_le _,h0⟩,?_⟩;rintro i m σ H ⟨rfl,hi,p⟩;by_cases a:i<n
 ·refine .inr ⟨a,b (i+1),λf H' j=>⟨n-(i+1),by omega,rfl,a,j⟩,λx H' y=>?_⟩
  obtain⟨e,y⟩:=y;subst e y;exact hs i σ _ a p
 ·have e:i=n:=by omega
  subst e;exact .inl ⟨Nat.le_refl _,hd σ H p⟩
abbrev R2:=V->V->Hp->VK->Prop
def OpR(X:Cx)(f:Value->Value->Sem Value)(r:R2):Prop:=
 ∀(pins:List (Addr×Obj)) (s:Shared) (σ:St) (H:Hp) (x y:V) (v u:Value) (Q:VK),Inv X pins σ H s->RelV x v->RelV y u->r x y H Q->
  wpAny (model X.prog X.w) X.A (f v u) (EP X pins σ Q) X.xe s
def xd1(X:Cx)(f:Value)(r:List V->Hp->VK->Prop):Prop:=
 ∀(pins:List (Addr×Obj)) (s:Shared) (σ:St) (H:Hp) (xs:List V) (us:List Value) (Q:VK),Inv X pins σ H s->Vals xs us->r xs H Q->
  wpAny (model X.prog X.w) X.A (call f us) (EP X pins σ Q) X.xe s
def tOp(r:R2)(ta tb:TE):TE:=λσ H Q=>ta σ H λx H1=>tb σ H1 λy H2=>r x y H2 Q
def rI(C:Int->Int->Prop)(g:Int->Int->V):R2:=λx y H Q=>∃i j,x=.int i/\y=.int j/\C i j/\Q (g i j) H
def rI0(g:Int->Int->V):R2:=λx y H Q=>∃i j,x=.int i/\y=.int j/\Q (g i j) H
section
variable {X:Cx}{a b c:Expr}{ta tb tc:TE}{pos:Pos}
theorem binT (r:PE X a ta) (p:PE X b tb) {pins:List (Addr×Obj)} {s:Shared} {σ:St} {H:Hp} {R:V->V->Hp->Prop} (I:Inv X pins σ H s)
  (h:ta σ H λx H1=>tb σ H1 λy H2=>R x y H2) {Q:Value->Shared->Prop} {f:Value->Value->Sem Value}
  (o:∀v u c x y H2,Inv X pins σ H2 c->RelV x v->RelV y u->R x y H2->wpAny (model X.prog X.w) X.A (f v u) Q X.xe c) :
  wpAny (model X.prog X.w) X.A (eval a X.env) (λv g=>wpAny (model X.prog X.w) X.A (eval b X.env) (λu e=>wpAny (model X.prog X.w) X.A (f v u) Q X.xe e) X.xe g) X.xe s:=by
 refine thn (r pins s σ H _ I h) λv i ⟨x,H1,C,l,n⟩=>?_;refine thn (p pins i σ H1 _ C n) λu c ⟨y,H2,z,j,m⟩=>?_;exact o v u c x y H2 z l j m
theorem xaz{op:Operator}{r:R2}(g:OpR X (binaryOp op) r)(j:PE X a ta)(i:PE X b tb):PE X (.BinOp a op b pos) (tOp r ta tb):=by
 intro pins s σ H Q I h;exact wpAny_BinOp (binT j i I h λv u c x y H2 l f e q=>g pins c σ H2 x y v u Q l f e q)
theorem opI {f:Value->Value->Sem Value} {C:Int->Int->Prop} {g:Int->Int->Int}
  (a:∀(i j:Int) (t u:Tok) (s:Shared) (Q:Value->Shared->Prop) (E:Value->Shared->Prop),C i j->Q (.int (g i j) s.toks) {s with toks:=s.toks+1}->wpAny (model X.prog X.w) X.A (f (.int i t) (.int j u)) Q E s) :
  OpR X f (rI C λi j=>.int (g i j)):=by
 intro pins s σ H x y v u Q I c b h;obtain⟨i,j,rfl,rfl,e,q⟩:=h;obtain⟨t,rfl⟩:=c;obtain⟨t',rfl⟩:=b;exact a i j t t' s _ _ e ⟨.int (g i j),H,I.tok _,⟨_,rfl⟩,q⟩
theorem opI0 {f:Value->Value->Sem Value} {g:Int->Int->Int}
  (a:∀(i j:Int) (t u:Tok) (s:Shared) (Q:Value->Shared->Prop) (E:Value->Shared->Prop),Q (.int (g i j) s.toks) {s with toks:=s.toks+1}->wpAny (model X.prog X.w) X.A (f (.int i t) (.int j u)) Q E s) :
  OpR X f (rI0 λi j=>.int (g i j)):=by
 intro pins s σ H x y v u Q I c b h;obtain⟨i,j,rfl,rfl,q⟩:=h;obtain⟨t,rfl⟩:=c;obtain⟨t',rfl⟩:=b;exact a i j t t' s _ _ ⟨.int (g i j),H,I.tok _,⟨_,rfl⟩,q⟩
theorem opB0 {f:Value->Value->Sem Value} {g:Int->Int->Bool}
  (a:∀(i j:Int) (t u:Tok) (s:Shared) (Q:Value->Shared->Prop) (E:Value->Shared->Prop),Q (.bool (g i j)) s->wpAny (model X.prog X.w) X.A (f (.int i t) (.int j u)) Q E s) :
  OpR X f (rI0 λi j=>.bl (g i j)):=by
 intro pins s σ H x y v u Q I c b h;obtain⟨i,j,rfl,rfl,q⟩:=h;obtain⟨t,rfl⟩:=c;obtain⟨t',rfl⟩:=b;exact a i j t t' s _ _ ⟨.bl (g i j),H,I,rfl,q⟩
def CPow(i j:Int):Prop:=0<=j/\j<=1000000/\i.natAbs<2 ^ 64
def CMul(i j:Int):Prop:=(-(2 ^ 64)<i/\i<2 ^ 64)\/(-(2 ^ 64)<j/\j<2 ^ 64)
theorem CMul.ok{i j:Int}(h:CMul i j):IntMulOk i j:=by
 rcases h with⟨h1,h2⟩ |⟨h1,h2⟩
 ·exact .of_left (intBits_le_64 h1 h2)
 ·exact .of_right (intBits_le_64 h1 h2)
theorem xby:OpR X (binaryOp .Add) (rI0 λi j=>.int (i+j)):=opI0 λ_ _ _ _ _ _ _ q=>add_int q
theorem xic:OpR X (binaryOp .Sub) (rI0 λi j=>.int (i-j)):=opI0 λ_ _ _ _ _ _ _ q=>sub_int q
theorem xec:OpR X (binaryOp .Mult) (rI CMul λi j=>.int (i*j)):=opI λ_ _ _ _ _ _ _ a q=>mul_int q a.ok
theorem xcd:OpR X (binaryOp .Mod) (rI (λ_ j=>0<j) λi j=>.int (i%j)):=opI λi j _ _ _ _ _ hc q=>by
 have h1:(0:Int)<j:=hc;exact mod_int' (by omega) (by rw[Int.fmod_eq_emod_of_nonneg i (by omega)];exact q)
theorem xqi:OpR X (binaryOp .Pow) (rI CPow λi j=>.int (i ^ j.toNat)):=opI λ_ _ _ _ _ _ _ a q=>pow_int_small a.1 a.2.1 a.2.2 q
end
def scal:V->V->Bool
 |.non,.non=>true |.non,.int _=>true |.int _,.non=>true |.non,.bl _=>true |.bl _,.non=>true |.non,.str _=>true |.str _,.non=>true
 |.int _,.int _=>true |.bl _,.bl _=>true |.str _,.str _=>true |.byt _,.byt _=>true
 |.int _,.str _=>true |.str _,.int _=>true |.bl _,.str _=>true |.str _,.bl _=>true
 |_,_=>false
def rEq:R2:=λx y H Q=>scal x y=true/\Q (.bl (decide (x=y))) H
def rNe:R2:=λx y H Q=>scal x y=true/\Q (.bl (!decide (x=y))) H
theorem xot{i j:Int}:decide (V.int i=V.int j)=(i == j):=by
 rw[Bool.eq_iff_iff];simp
theorem xqq{i j:Bool}:decide (V.bl i=V.bl j)=(i == j):=by
 rw[Bool.eq_iff_iff];simp
theorem xos{i j:Str}:decide (V.str i=V.str j)=(i == j):=by
 rw[Bool.eq_iff_iff];simp
theorem xou{i j:Array UInt8}:decide (V.byt i=V.byt j)=(i.toList == j.toList):=by
 rw[Bool.eq_iff_iff];cases i;cases j;simp
section
variable {X:Cx}{a b c:Expr}{ta tb tc:TE}{pos:Pos}
theorem xbo{pins:List (Addr×Obj)}{σ:St}{H:Hp}{s:Shared}{Q:VK}{k k':Bool}(I:Inv X pins σ H s)(q:Q (.bl k) H)(e:k=k'):EP X pins σ Q (.bool k') s:=by
 subst e;exact⟨.bl k,H,I,rfl,q⟩
theorem xbe:OpR X (compareOp .Eq) rEq:=by
 intro pins s σ H x y v u Q I b a h;obtain⟨hs,q⟩:=h
 cases x with
 |non=>
  cases b
  cases y with
  |non=>cases a;exact PySem.EqNone.eq_none_none (xbo I q (by simp))
  |bl j=>cases a;exact PySem.EqNone.eq_none_bool (xbo I q (by simp))
  |int j=>obtain⟨t',rfl⟩:=a;exact PySem.EqNone.eq_none_int (xbo I q (by simp))
  |str j=>obtain⟨t',rfl⟩:=a;exact PySem.EqNone.eq_none_str (xbo I q (by simp))
  |_=>exact absurd (show false=true from hs) Bool.false_ne_true
 |bl i=>
  cases b
  cases y with
  |non=>cases a;exact PySem.EqNone.eq_bool_none (xbo I q (by simp))
  |bl j=>cases a;exact eq_bool (xbo I q xqq)
  |str j=>obtain⟨t',rfl⟩:=a;exact PySem.EqMixed.eq_bool_str (xbo I q (by simp))
  |_=>exact absurd (show false=true from hs) Bool.false_ne_true
 |int i=>
  obtain⟨t,rfl⟩:=b
  cases y with
  |non=>cases a;exact PySem.EqNone.eq_int_none (xbo I q (by simp))
  |int j=>obtain⟨t',rfl⟩:=a;exact eq_int (xbo I q xot)
  |str j=>obtain⟨t',rfl⟩:=a;exact PySem.EqMixed.eq_int_str (xbo I q (by simp))
  |_=>exact absurd (show false=true from hs) Bool.false_ne_true
 |str i=>
  obtain⟨t,rfl⟩:=b
  cases y with
  |non=>cases a;exact PySem.EqNone.eq_str_none (xbo I q (by simp))
  |bl j=>cases a;exact PySem.EqMixed.eq_str_bool (xbo I q (by simp))
  |int j=>obtain⟨t',rfl⟩:=a;exact PySem.EqMixed.eq_str_int (xbo I q (by simp))
  |str j=>obtain⟨t',rfl⟩:=a;exact eq_str (xbo I q xos)
  |_=>exact absurd (show false=true from hs) Bool.false_ne_true
 |byt i=>
  obtain⟨t,rfl⟩:=b
  cases y with
  |byt j=>obtain⟨t',rfl⟩:=a;exact PySem.W.eq_bytes (xbo I q xou)
  |_=>exact absurd (show false=true from hs) Bool.false_ne_true
 |_=>cases y <;> exact absurd (show false=true from hs) Bool.false_ne_true
theorem xgl:OpR X (compareOp .NotEq) rNe:=by
 intro pins s σ H x y v u Q I b a h;obtain⟨hs,q⟩:=h
 cases x with
 |non=>
  cases b
  cases y with
  |non=>cases a;exact PySem.EqNone.ne_none_none (xbo I q (by simp))
  |bl j=>cases a;exact PySem.EqNone.ne_none_bool (xbo I q (by simp))
  |int j=>obtain⟨t',rfl⟩:=a;exact PySem.EqNone.ne_none_int (xbo I q (by simp))
  |str j=>obtain⟨t',rfl⟩:=a;exact PySem.EqNone.ne_none_str (xbo I q (by simp))
  |_=>exact absurd (show false=true from hs) Bool.false_ne_true
 |bl i=>
  cases b
  cases y with
  |non=>cases a;exact PySem.EqNone.ne_bool_none (xbo I q (by simp))
  |bl j=>cases a;exact ne_bool (xbo I q (congrArg not xqq))
  |str j=>obtain⟨t',rfl⟩:=a;exact PySem.EqMixed.ne_bool_str (xbo I q (by simp))
  |_=>exact absurd (show false=true from hs) Bool.false_ne_true
 |int i=>
  obtain⟨t,rfl⟩:=b
  cases y with
  |non=>cases a;exact PySem.EqNone.ne_int_none (xbo I q (by simp))
  |int j=>obtain⟨t',rfl⟩:=a;exact ne_int (xbo I q (congrArg not xot))
  |str j=>obtain⟨t',rfl⟩:=a;exact PySem.EqMixed.ne_int_str (xbo I q (by simp))
  |_=>exact absurd (show false=true from hs) Bool.false_ne_true
 |str i=>
  obtain⟨t,rfl⟩:=b
  cases y with
  |non=>cases a;exact PySem.EqNone.ne_str_none (xbo I q (by simp))
  |bl j=>cases a;exact PySem.EqMixed.ne_str_bool (xbo I q (by simp))
  |int j=>obtain⟨t',rfl⟩:=a;exact PySem.EqMixed.ne_str_int (xbo I q (by simp))
  |str j=>obtain⟨t',rfl⟩:=a;exact ne_str (xbo I q (congrArg not xos))
  |_=>exact absurd (show false=true from hs) Bool.false_ne_true
 |byt i=>
  obtain⟨t,rfl⟩:=b
  cases y with
  |byt j=>obtain⟨t',rfl⟩:=a;exact PySem.W.ne_bytes (xbo I q (congrArg not xou))
  |_=>exact absurd (show false=true from hs) Bool.false_ne_true
 |_=>cases y <;> exact absurd (show false=true from hs) Bool.false_ne_true
theorem xjt:OpR X (compareOp .Lt) (rI0 λi j=>.bl (decide (i<j))):=opB0 λ_ _ _ _ _ _ _ q=>lt_int q
theorem xug:OpR X (compareOp .LtE) (rI0 λi j=>.bl (decide (i<=j))):=opB0 λ_ _ _ _ _ _ _ q=>le_int q
theorem xf5:OpR X (compareOp .Gt) (rI0 λi j=>.bl (decide (j<i))):=opB0 λ_ _ _ _ _ _ _ q=>gt_int q
theorem xuh:OpR X (compareOp .GtE) (rI0 λi j=>.bl (decide (j<=i))):=opB0 λ_ _ _ _ _ _ _ q=>ge_int q
theorem xfd:OpR X (compareOp .Is) (λx y H Q=>y=.non/\Q (.bl (decide (x=.non))) H):=by
 intro pins s σ H x y v u Q I rx ry h;obtain⟨rfl,q⟩:=h;cases ry;refine is_none_gen (xbo I q ?_)
 cases x <;> first
  |(cases rx;rfl)
  |(obtain⟨t,rfl⟩:=rx;rfl)
theorem xnl:OpR X (compareOp .IsNot) (λx y H Q=>y=.non/\Q (.bl (!decide (x=.non))) H):=by
 intro pins s σ H x y v u Q I a b h;obtain⟨rfl,q⟩:=h;cases b;refine isnot_none_gen (xbo I q ?_)
 cases x <;> first
  |(cases a;rfl)
  |(obtain⟨t,rfl⟩:=a;rfl)
theorem nM(b:Expr){op:CmpOp}(h:op≠.In:=by decide)(h2:op≠.NotIn:=by decide):behindInMarks op b=false:=by
 have c:(op == CmpOp.In)=false:=by cases op <;> first |rfl |exact absurd rfl h
 have a:(op == CmpOp.NotIn)=false:=by cases op <;> first |rfl |exact absurd rfl h2
 cases b <;> simp[behindInMarks,c,a]
theorem xeh{op:CmpOp}{r:R2}(ho:OpR X (compareOp op) r)(ha:PE X a ta)(hb:PE X b tb)(hm:behindInMarks op b=false):PE X (.Compare a [op] [b] pos) (tOp r ta tb):=by
 intro pins s σ H Q I h;exact wpAny_Compare1 (binT ha hb I h λv u s2 x y H2 I2 rx ry q=>ho pins s2 σ H2 x y v u Q I2 rx ry q) hm
def xsc(t:TE):TT:=λσ H Q=>t σ H λx H'=>∃k,x=.bl k/\Q k H'
theorem pR{op:CmpOp}{r:R2}(p:OpR X (compareOp op) r)(G:PE X a ta)(C:PE X b tb)(w:behindInMarks op b=false):PT X (.Compare a [op] [b] pos) (xsc (tOp r ta tb)):=by
 intro pins s σ H Q I h
 refine wpAny_isTrue_Compare1 (thn (G pins s σ H _ I h) λv g ⟨x,H1,O,l,o⟩=>thn (C pins g σ H1 _ O o) λu f ⟨y,H2,M,j,n⟩=>
  thn (p pins f σ H2 x y v u _ M l j n) λc Y ⟨z,U,J,i,k,e,m⟩=>?_) w
 subst e;cases i;exact wpAny_truthy_bool ⟨U,J,m⟩
def xsh(r r':R2)(ta tb tc:TE):TE:=λσ H Q=>ta σ H λx H1=>tb σ H1 λy H2=>r x y H2 λz H3=>∃k,z=.bl k ∧
 (if k=true then tc σ H3 λw' H4=>r' y w' H4 Q else Q (.bl false) H3)
theorem xpb {op f:CmpOp} {r j:R2} (ho:OpR X (compareOp op) r) (g:OpR X (compareOp f) j) (ha:PE X a ta) (hb:PE X b tb) (hc:PE X c tc)
  (hm:lastMarks [op,f] [b,c]=false:=by with_unfolding_all rfl):PT X (.Compare a [op,f] [b,c] pos) (xsc (xsh r j ta tb tc)):=by
 intro pins s σ H Q I h
 refine isTrue_chain (thn (ha pins s σ H _ I h) λv J ⟨x,H1,I1,Y,q1⟩=>test_link (thn (hb pins J σ H1 _ I1 q1) λu G ⟨y,H2,I2,i,q2⟩=>
  thn (ho pins G σ H2 x y v u _ I2 Y i q2) λd C ⟨z,n,m,U,k,e,l⟩=>?_)) hm
 subst e;cases U;refine wpAny_truthy_bool ?_
 cases k with
 |false=>
  obtain⟨k',e',q'⟩:=l;cases e';exact ite_ff ⟨n,m,q'⟩
 |true=>
  refine ite_tt (test_last (thn (hc pins C σ n _ m l) λp w ⟨o,H4,I4,O,q4⟩=>thn (g pins w σ H4 y o u p _ I4 i O q4) λd' s5 ⟨z2,H5,I5,M,k2,e2,Z⟩=>?_));subst e2;cases M;exact wpAny_truthy_bool ⟨H5,I5,Z⟩
theorem xiw:(sizeLine:Nat)<2 ^ 63:=by rw[sizeLine_eq];decide
theorem xe4:OpR X (binaryOp .Add) (λx y H Q=>∃i j,x=.str i/\y=.str j/\i.length+j.length<=sizeLine/\Q (.str (i++j)) H):=by
 intro pins s σ H x y v u Q I b a h;obtain⟨i,j,rfl,rfl,hz,q⟩:=h;obtain⟨t,rfl⟩:=b;obtain⟨t',rfl⟩:=a;exact add_str (λt' tk=>⟨.str (i++j),H,I.tok _,⟨_,rfl⟩,q⟩) hz
theorem xfi{x:V}{us:List Value}(r:Vals [x] us):∃u,us=[u]/\RelV x u:=by
 cases r with
 |cons b a=>cases a;exact⟨_,rfl,b⟩
theorem xr9{x y:V}{us:List Value}(r:Vals [x,y] us):∃u a,us=[u,a]/\RelV x u/\RelV y a:=by
 cases r with
 |cons f e=>
  cases e with
  |cons c b=>cases b;exact⟨_,_,rfl,f,c⟩
theorem xo2(b:X.calm=true):xd1 X (.builtin "max") (λxs H Q=>∃i j,xs=[.int i,.int j]/\Q (.int (if j > i then j else i)) H):=by
 intro pins s σ H xs us Q I r h;obtain⟨i,j,rfl,q⟩:=h;obtain⟨u,c,rfl,⟨t,rfl⟩,⟨t',rfl⟩⟩:=xr9 r;refine max_two_ints (I.ok.hd b) λh' tk k=>⟨_,H,I.kept k,?_,q⟩;by_cases a:j > i
 ·rw[if_pos a,if_pos a];exact⟨_,rfl⟩
 ·rw[if_neg a,if_neg a];exact⟨_,rfl⟩
theorem xi6(b:X.calm=true):xd1 X (.builtin "min") (λxs H Q=>∃i j,xs=[.int i,.int j]/\Q (.int (if j<i then j else i)) H):=by
 intro pins s σ H xs us Q I r h;obtain⟨i,j,rfl,q⟩:=h;obtain⟨u,c,rfl,⟨t,rfl⟩,⟨t',rfl⟩⟩:=xr9 r;refine min_two_ints (I.ok.hd b) λh' tk k=>⟨_,H,I.kept k,?_,q⟩;by_cases a:j<i
 ·rw[if_pos a,if_pos a];exact⟨_,rfl⟩
 ·rw[if_neg a,if_neg a];exact⟨_,rfl⟩
theorem xi8:xd1 X (.type "int") (λxs H Q=>(∃i,xs=[.int i]/\Q (.int i) H)\/∃k,xs=[.bl k]/\Q (.int (if k then 1 else 0)) H):=by
 intro pins s σ H xs us Q I r h;rcases h with⟨i,rfl,q⟩ |⟨k,rfl,q⟩
 ·obtain⟨u,rfl,t,rfl⟩:=xfi r
  exact call_int_int ⟨.int i,H,I,⟨_,rfl⟩,q⟩
 ·obtain⟨u,rfl,a⟩:=xfi r
  cases a;exact call_int_bool ⟨.int (if k then 1 else 0),H,I.tok _,⟨_,rfl⟩,q⟩
end
structure ObjM(h:Heap)(x dx C:Addr)(mA:Str->Option Value):Prop where
 obj:h.get? x=some (PySem.W.instObj C dx)
 ns:h.Ns1 dx mA
 ne:dx≠x
theorem xn7{h:Heap}{dx:Addr}{mA:Str->Option Value}(n:h.Ns1 dx mA):∃od,h.get? dx=some od/\∀name,PySem.W.lookIn name od=some (mA name):=by
 obtain⟨o,es,ep,f,hd,i,_,g⟩:=n;refine⟨o,f,λname=>?_⟩;have e:=g name;unfold nsFind findBy at e;rw[<- Array.find?_toList]at e;unfold PySem.W.lookIn;rw[hd];dsimp only;split
 ·rename_i y q
  rw[q]at e;exact congrArg some e
 ·rename_i q
  rw[q]at e
  have a:es.toList.any (·.refKey)=false:=by
   rw[List.any_eq_false];intro y c;obtain⟨z,t,b⟩:=i y (Array.mem_toList_iff.mp c);simp[DictEntry.refKey,b]
  have j:¬es.toList.any (·.refKey)=true:=by rw[a];exact Bool.false_ne_true
  rw[if_neg j];exact congrArg some e
theorem ObjM.look{h:Heap}{x dx C:Addr}{mA:Str->Option Value}(I:ObjM h x dx C mA):∃od,PySem.W.InstAt h x (PySem.W.instObj C dx) C (some od)/\∀name,PySem.W.lookIn name od=some (mA name):=
 let ⟨od,a,b⟩:=xn7 I.ns
 ⟨od,⟨I.obj,rfl,rfl,a⟩,b⟩
section
variable {prog:Program}{w:World}{A:Around}{E:Value->Shared->Prop}{s:Shared}{K:Fg}{x dx C f:Addr}{mA:Str->Option Value}{name:Str}{v:Value}
theorem xry {a:Bool} {Q:Value->Shared->Prop} (X:K.In s.heap) (I:ObjM s.heap x dx C mA) (g:PySem.W.plainGet K C name=true) (f:PySem.W.hasDictIn K C=true)
  (i:PySem.W.findIn K (.ref C) name=some none) (c:mA name=some v) (b:PySem.W.handedIn v=true) (h:Q v {s with toks:=s.toks+1}) :
  wpAny (model prog w) A (getAttr (.ref x) name a) Q E s:=by
 obtain⟨od,J,e⟩:=I.look;exact PySem.W.get_value X J (PySem.W.plainGet_of g).1 (PySem.W.findObj_own f i rfl (by rw[e,c])) b h
theorem xq3 {ns:List Str} {Q:Unit->Shared->Prop} (X:K.In s.heap) (I:ObjM s.heap x dx C mA)
  (hs:PySem.W.findIn K (.ref C) "__setattr__"=some (some (.builtin "object.__setattr__"))) (o:PySem.W.plainOver K C=true) (n:PySem.W.takerIn K C name=some none) (p:PySem.W.hasDictIn K C=true)
  (m:PySem.Within mA ns) (hsz:ns.length<=sizeLine)
  (h:∀h',ObjM h' x dx C (λy=>if y=name then some v else mA y)->Heap.SameBut dx s.heap h'->Q () {s with heap:=h',toks:=s.toks+2}) :
  wpAny (model prog w) A (setAttr (.ref x) name v) Q E s:=by
 obtain⟨od,J,O⟩:=I.look;refine PySem.W.set_plain X J hs (PySem.W.osa_open (s:={s with toks:=s.toks+1}) (r:=none) X J o n λb=>?_);obtain⟨U,u,i⟩:=PySem.W.any_some p;have l:s.heap.get? x=some ⟨.ref C,some dx,.plain,#[]⟩:=I.obj;refine wpAny_bind (wpAny_pure (wpAny_bind (wpAny_bind (wpAny_loadPart l (wpAny_bind (PySem.W.Looks.here (s:={s with toks:=s.toks+1}) (PySem.W.looks_clsIn X u) ?_))))));rw[i];refine wpAny_pure (a:=some dx) (wpAny_bind (wpAny_pure (wpAny_bind ?_)));refine wpAny_nsSet1 (s:={s with toks:=s.toks+1}) I.ns λh' e c=>?_;obtain⟨M,z,G,f,g,j⟩:=e.count (PySem.Within.cons name v m);refine wpAny_bind (wpAny_lookBehind f (by rw[g];exact pastItsLine_dict (Nat.le_trans j (by rw[List.length_cons];omega))) ?_);exact wpAny_pure (h _ ⟨(c.2 _ (Ne.symm I.ne)).trans I.obj,e,I.ne⟩ c)
theorem xpt {R:Result->Shared->Prop} {vs:List Value} {kw:List (Str×Value)} (X:K.In s.heap) (hm:PySem.W.makesIn K C=true)
  (hi:PySem.W.findIn K (.ref C) "__init__"=some (some (.ref f))) (hf:PySem.W.typeIn K (.ref f)=some (.type "function"))
  (h:codeAny (model prog w) (A.under (.builtin "type.__call__" ⟨.ref C::vs,kw⟩)) (.call (.ref f) ⟨.ref (s.heap.objs.size+1)::vs,kw⟩) (PySem.W.InitBack (s.heap.objs.size+1) R)
   {s with heap:=(s.heap.push PySem.W.emptyDict).push (PySem.W.instObj C s.heap.objs.size)}) :
  codeAny (model prog w) A (.call (.ref C) ⟨vs,kw⟩) R s:=by
 obtain⟨hh,g,d,t,os⟩:=s;exact PySem.W.make_core (PySem.W.makes_of X hm) (PySem.W.looks_findIn X hi) (λself=>PySem.W.bind_fn X self hf) (.inl rfl) h
end
def putF(f:Str)(v:V):List (Str×V)->List (Str×V)
 |[]=>[(f,v)]
 |(g,x)::r=>if g=f then (g,v)::r else (g,x)::putF f v r
theorem xa4(f g:Str)(v:V):∀fs:List (Str×V),(putF f v fs).lookup g=if g=f then some v else fs.lookup g
 | []=>by
  show List.lookup g [(f,v)]=_;by_cases h:g=f
  ·have a:(g == f)=true:=beq_iff_eq.mpr h
   simp only[List.lookup,a,if_pos h]
  ·have a:(g == f)=false:=beq_eq_false_iff_ne.mpr h
   simp only[List.lookup,a,if_neg h]
 | (k,x)::r=>by
  have c:=xa4 f g v r;rw[show putF f v ((k,x)::r)=(if k=f then (k,v)::r else (k,x)::putF f v r) from rfl];by_cases b:k=f
  ·rw[if_pos b]
   by_cases h:g=k
   ·have a:(g == k)=true:=beq_iff_eq.mpr h
    simp only[List.lookup,a,if_pos (h.trans b)]
   ·have a:(g == k)=false:=beq_eq_false_iff_ne.mpr h
    simp only[List.lookup,a,if_neg (λe:g=f=>h (e.trans b.symm))]
  ·rw[if_neg b]
   by_cases h:g=k
   ·have a:(g == k)=true:=beq_iff_eq.mpr h
    simp only[List.lookup,a,if_neg (λe:g=f=>b (h.symm.trans e))]
   ·have a:(g == k)=false:=beq_eq_false_iff_ne.mpr h
    simp only[List.lookup,a];exact c
theorem xge(f:Str)(v:V):∀fs:List (Str×V),f∈(putF f v fs).map (·.1)/\∀g,g∈fs.map (·.1)->g∈(putF f v fs).map (·.1)
 |[]=>⟨by simp[putF],λg h=>by simp at h⟩
 | (k,x)::r=>by
  obtain⟨c,b⟩:=xge f v r;rw[show putF f v ((k,x)::r)=(if k=f then (k,v)::r else (k,x)::putF f v r) from rfl];by_cases a:k=f
  ·rw[if_pos a]
   subst a;exact⟨by simp,λg h=>by simpa using h⟩
  ·rw[if_neg a]
   refine⟨?_,λg h=>?_⟩
   ·rw[List.map_cons]
    exact List.mem_cons_of_mem _ c
   ·rw[List.map_cons]at h⊢
    rcases zMC h with e |e
    ·exact List.mem_cons.mpr (.inl e)
    ·exact List.mem_cons_of_mem _ (b g e)
theorem xbj(f:Str)(v:V):∀fs:List (Str×V),(putF f v fs).length<=fs.length+1
 |[]=>by simp[putF]
 |(k,x)::r=>by
  have b:=xbj f v r;rw[show putF f v ((k,x)::r)=(if k=f then (k,v)::r else (k,x)::putF f v r) from rfl];by_cases a:k=f
  ·rw[if_pos a,List.length_cons,List.length_cons];omega
  ·rw[if_neg a,List.length_cons,List.length_cons];omega
theorem RelO.some_of{v:V}{o:Option Value}(r:RelO (some v) o):∃u,o=some u/\RelV v u:=by
 cases o with
 |none=>exact(show False from r).elim
 |some u=>exact⟨u,rfl,r⟩
theorem xok{v:V}{u:Value}(r:RelV v u):PySem.W.handedIn u=true:=by
 cases v with
 |non=>cases (show u=Value.none from r);rfl
 |bl b=>cases (show u=Value.bool b from r);rfl
 |int i=>obtain⟨t,e⟩:=(show ∃t,u=Value.int i t from r);cases e;rfl
 |str x=>obtain⟨t,e⟩:=(show ∃t,u=Value.str x t from r);cases e;rfl
 |byt b=>obtain⟨t,e⟩:=(show ∃t,u=Value.bytes b t from r);cases e;rfl
 |flt b=>obtain⟨t,e⟩:=(show ∃t,u=Value.float b t from r);cases e;rfl
 |ref a=>cases (show u=Value.ref a from r);rfl
 |ty n=>cases (show u=Value.type n from r);rfl
section
variable {P:Program}{w:World}{H H':Hp}{h h':Heap}{a C dx:Addr}{fs fs':List (Str×V)}
theorem xj9(b:HOk P w H h)(e:H a=some (.ins C dx fs)):∃mA,ObjM h a dx C mA/\(∀f,RelO (fs.lookup f) (mA f))/\PySem.Within mA (fs.map (·.1))/\fs.length<=1000/\H dx=some (.own a):=by
 obtain⟨d,z,ne,c,mA,n,r,q⟩:=(show ObjOk P w H h a (.ins C dx fs) from b a _ e);exact⟨mA,⟨c,n,ne⟩,r,q,z,d⟩
end
structure Cls(K:Fg)(C:Addr):Prop where
 pg:PySem.W.plainGet K C Str.empty=true
 hd:PySem.W.hasDictIn K C=true
 po:PySem.W.plainOver K C=true
 sa:PySem.W.findIn K (.ref C) "__setattr__"=some (some (.builtin "object.__setattr__"))
theorem Cls.get{K:Fg}{C:Addr}(c:Cls K C)(f:Str):PySem.W.plainGet K C f=true:=c.pg
def NoAttr(K:Fg)(C:Addr)(f:Str):Prop:=PySem.W.findIn K (.ref C) f=some none
theorem NoAttr.taker{K:Fg}{C:Addr}{f:Str}(n:NoAttr K C f):PySem.W.takerIn K C f=some none:=by
 unfold PySem.W.takerIn;rw[show PySem.W.findIn K (.ref C) f=some none from n];rfl
structure Meth(K:Fg)(C:Addr)(m:Str)(f:Addr):Prop where
 at_:PySem.W.findIn K (.ref C) m=some (some (.ref f))
 fn:PySem.W.isFn K (.ref f)=true
 kp:PySem.W.keepIn K (.ref f)=true
section
variable {X:Cx}{pins:List (Addr×Obj)}{σ:St}{H:Hp}{s:Shared}{a C dx:Addr}{fs:List (Str×V)}{f:Str}{v:V}{A:Around}{E:Value->Shared->Prop}
theorem xmj {b:Bool} {Q:Value->Shared->Prop} (I:Inv X pins σ H s) (e:H a=some (.ins C dx fs)) (c:Cls X.K C) (n:NoAttr X.K C f) (l:fs.lookup f=some v)
  (h:∀u s',Inv X pins σ H s'->RelV v u->Q u s'):wpAny (model X.prog X.w) A (getAttr (.ref a) f b) Q E s:=by
 obtain⟨mA,O,r,_,_,_⟩:=xj9 I.hok e;obtain⟨u,i,g⟩:=RelO.some_of (v:=v) (o:=mA f) (by rw[<- l];exact r f);exact xry I.kIn O (c.get f) c.hd n i (xok g) (h u _ (I.tok _) g)
theorem xl0 {y:V} {u:Value} {Q:Unit->Shared->Prop} (I:Inv X pins σ H s) (e:H a=some (.ins C dx fs)) (c:Cls X.K C) (n:NoAttr X.K C f) (U:fs.length<1000) (p:RelV y u)
  (h:∀s',Inv X pins σ (upd H a (.ins C dx (putF f y fs))) s'->Q () s'):wpAny (model X.prog X.w) A (setAttr (.ref a) f u) Q E s:=by
 obtain⟨mA,O,r,j,_,l⟩:=xj9 I.hok e;have hz:(fs.map (·.1)).length<=sizeLine:=by rw[zLM,sizeLine_eq];omega
 refine xq3 I.kIn O c.sa c.po n.taker c.hd j hz λh' i m=>h _ ?_;have hd:∃o,h'.get? dx=some o:=let ⟨o,_,_,M,_⟩:=i.ns;⟨o,M⟩;refine I.write (x:=a) (e:=dx) (by rw[e];exact True.intro) (.inr l) (λb q J z=>(m.2 b J).trans z) hd ?_;refine⟨by rw[xai O.ne];exact l,?_,O.ne,i.obj,_,i.ns,λg=>?_,λg G=>?_⟩
 ·have:=xbj f y fs;omega
 ·show RelO ((putF f y fs).lookup g) (if g=f then some u else mA g)
  rw[xa4];by_cases q:g=f
  ·rw[if_pos q,if_pos q];exact p
  ·rw[if_neg q,if_neg q];exact r g
 ·by_cases q:g=f
  ·rw[q];exact(xge f y fs).1
  ·refine(xge f y fs).2 g (j g λz=>G ?_)
   show(if g=f then some u else mA g)=none;rw[if_neg q];exact z
theorem Inv.made (I:Inv X pins σ H s):Inv X pins σ (upd (upd H s.heap.objs.size (.own (s.heap.objs.size+1))) (s.heap.objs.size+1) (.ins C s.heap.objs.size []))
  {s with heap:=(s.heap.push PySem.W.emptyDict).push (PySem.W.instObj C s.heap.objs.size)}:=by
 have e1:(s.heap.push PySem.W.emptyDict).get? s.heap.objs.size=some PySem.W.emptyDict:=Heap.get?_push_size s.heap rfl
 have e2:((s.heap.push PySem.W.emptyDict).push (PySem.W.instObj C s.heap.objs.size)).get? (s.heap.objs.size+1)=some (PySem.W.instObj C s.heap.objs.size):=by
  have:=Heap.get?_push_size (s.heap.push PySem.W.emptyDict) (o:=PySem.W.instObj C s.heap.objs.size) rfl
  rwa[Heap.size_push]at this
 have e3:(s.heap.push PySem.W.emptyDict).Ns s.heap.objs.size (λ_=>none):=⟨PySem.W.emptyDict,#[],_,e1,rfl,(λe he=>absurd he (by simp)),λ_=>rfl⟩;have I1:=I.laid (a:=s.heap.objs.size) (o:=.own (s.heap.objs.size+1)) (h':=s.heap.push PySem.W.emptyDict) (t':=s.toks) (λb u q=>zPO _ q) (Nat.le_refl _) ⟨_,e1⟩;refine I1.laid (a:=s.heap.objs.size+1) (o:=.ins C s.heap.objs.size []) (t':=s.toks) (λb u q=>zPO _ q) (Nat.le_of_eq (Heap.size_push _ _)) ?_;have ne:s.heap.objs.size≠s.heap.objs.size+1:=Nat.ne_of_lt (Nat.lt_succ_self _);refine⟨by rw[xai ne,ups],Nat.zero_le _,ne,e2,λ_=>none,(Heap.Ns1.of_empty e3).at λo q=>zPO _ q,λ_=>True.intro,λy hy=>absurd rfl hy⟩
theorem xr4 {prog:Program} {w:World} {env:Env} {e:Expr} {f:Str} {pos:Pos} {s:Shared} {Q:Value->Shared->Prop} (hb:attributeBase e f env (eval e env)=eval e env)
  (h:wpAny (model prog w) A (eval e env) (λo s₁=>wpAny (model prog w) A (getAttr o f true) Q E s₁) E s):wpAny (model prog w) A (eval (.Attribute e f pos) env) Q E s:=
 Attribute_any_ h (by rw[arm_eval_Attribute,hb])
end
def tFld(K:Fg)(ta:TE)(f:Str):TE:=λσ H Q=>ta σ H λx H1=>∃a C dx fs v,x=.ref a/\H1 a=some (.ins C dx fs)/\Cls K C/\NoAttr K C f/\fs.lookup f=some v/\Q v H1
def sFld(K:Fg)(ta tv:TE)(f:Str):TS:=λD σ H=>tv σ H λy H1=>ta σ H1 λx H2=>∃a C dx fs,x=.ref a/\H2 a=some (.ins C dx fs)/\Cls K C/\NoAttr K C f/\fs.length<1000 ∧
 D.nx σ (upd H2 a (.ins C dx (putF f y fs)))
section
variable {X:Cx}{o e value:Expr}{f:Str}{pos pos' tpos:Pos}{ta tv:TE}
theorem xfb(i:PE X e ta)(j:attributeBase e f X.env (eval e X.env)=eval e X.env):PE X (.Attribute e f pos) (tFld X.K ta f):=by
 intro pins s σ H Q I h;refine xr4 j (thn (i pins s σ H _ I h) λu y ⟨x,H1,p,b,a,C,dx,fs,v,ex,m,c,n,l,q⟩=>?_);subst ex;obtain rfl:u=Value.ref a:=b;exact xmj p m c n l λr w o g=>⟨v,H1,o,g,q⟩
theorem xh9(p:PE X o ta)(m:PE X value tv)(hs:swapsWith value (some (.Attribute o f pos')) pos.line X.env=pure false):PS X (.Assign [.Attribute o f pos'] value pos) (sFld X.K ta tv f):=by
 intro pins s σ H D I h;refine plainObj_wpAny_Assign_Attribute (thn (m pins s σ H _ I h) λu b ⟨y,H1,G,e,q⟩=>thn (p pins b σ H1 _ G q) λj M ⟨x,H2,z,g,a,C,dx,fs,ex,r,c,n,l,i⟩=>?_) hs;subst ex;obtain rfl:j=Value.ref a:=g;exact xl0 z r c n l e λJ w=>⟨σ,_,w,i⟩
end
section
variable {X:Cx}{pins:List (Addr×Obj)}{σ:St}{H:Hp}{s:Shared}{A:Around}{E:Value->Shared->Prop}{Q:Value->Shared->Prop}{c:Value}{b:Bool}
inductive TyOf(K:Fg)(H:Hp):V->Value->Prop where
 |non:TyOf K H .non (.type "NoneType")
 |bl (x:Bool):TyOf K H (.bl x) (.type "bool")
 |int (i:Int):TyOf K H (.int i) (.type "int")
 |str (x:Str):TyOf K H (.str x) (.type "str")
 |flt (x:UInt64):TyOf K H (.flt x) (.type "float")
 |lst {a:Addr} {xs:List V} (e:H a=some (.lst xs)):TyOf K H (.ref a) (.type "list")
 |frz {a:Addr} {o:Obj} {xs:List V} (e:H a=some (.frz o (.lst xs))):TyOf K H (.ref a) (.type "list")
 |tup {a:Addr} {xs:List V} (e:H a=some (.tup xs)):TyOf K H (.ref a) (.type "tuple")
 |dK {a:Addr} {kvs:List (Key×V)} (e:H a=some (.dK kvs)):TyOf K H (.ref a) (.type "dict")
 |dT {a:Addr} {kvs:List (List Key×V)} (e:H a=some (.dT kvs)):TyOf K H (.ref a) (.type "dict")
 | ins {a C dx:Addr} {fs:List (Str×V)} (e:H a=some (.ins C dx fs)) (cl:Cls K C) (ha:PySem.W.findIn K (.ref C) "__class__"=some (some (.builtin "object.__class__")))
   (hn:PySem.W.specialIn K (.builtin "object.__class__") "__get__"=some (some (.builtin "getset_descriptor.__get__"))) (htk:PySem.W.takesIn K (.builtin "object.__class__")=some true)
   (hm:PySem.W.mroIn K C (.type "object")=some true):TyOf K H (.ref a) (.ref C)
theorem xoe {x:V} {u t:Value} (I:Inv X pins σ H s) (rx:RelV x u) (ty:TyOf X.K H x t) (e:PySem.W.kitOne X.K t c=some b) (h:∀tk,Q (.bool b) {s with toks:=tk}) :
  wpAny (model X.prog X.w) A (call (.builtin "isinstance") [u,c]) Q E s:=by
 cases ty with
 |non=>cases (show u=Value.none from rx);exact PySem.W.kia_one PySem.W.kitx_none I.kIn True.intro e (λz=>nomatch z) h
 |bl y=>cases (show u=Value.bool y from rx);exact PySem.W.kia_one PySem.W.kitx_bool I.kIn True.intro e (λz=>nomatch z) h
 |int i=>obtain⟨t,q⟩:=(show ∃t,u=Value.int i t from rx);cases q;exact PySem.W.kia_one PySem.W.kitx_int I.kIn True.intro e (λz=>nomatch z) h
 |str y=>obtain⟨t,q⟩:=(show ∃t,u=Value.str y t from rx);cases q;exact PySem.W.kia_one PySem.W.kitx_str I.kIn True.intro e (λz=>nomatch z) h
 |flt y=>obtain⟨t,q⟩:=(show ∃t,u=Value.float y t from rx);cases q;exact PySem.W.kia_one PySem.W.kitx_float I.kIn True.intro e (λz=>nomatch z) h
 |@lst a xs ea=>
  cases (show u=Value.ref a from rx);obtain⟨_,_,n,_,h1⟩:=(show ObjOk X.prog X.w H s.heap a (.lst xs) from I.hok a _ ea);exact PySem.W.kia_one PySem.W.kitx_list I.kIn ⟨_,h1,rfl⟩ e (λz=>nomatch z) h
 |@frz a ob xs ea=>
  cases (show u=Value.ref a from rx);obtain⟨_,_,_,n,_,h1⟩:=(show ObjOk X.prog X.w H s.heap a (.frz ob (.lst xs)) from I.hok a _ ea);exact PySem.W.kia_one PySem.W.kitx_list I.kIn ⟨_,h1,rfl⟩ e (λz=>nomatch z) h
 |@tup a xs ea=>
  cases (show u=Value.ref a from rx);obtain⟨_,_,_,p⟩:=(show ObjOk X.prog X.w H s.heap a (.tup xs) from I.hok a _ ea);obtain⟨o,h1,h2,_⟩:=p;exact PySem.W.kia_one PySem.W.kitx_tuple I.kIn ⟨o,h1,h2⟩ e (λz=>nomatch z) h
 |@dK a kvs ea=>
  cases (show u=Value.ref a from rx);obtain⟨_,_,vs,_,p⟩:=(show ObjOk X.prog X.w H s.heap a (.dK kvs) from I.hok a _ ea);obtain⟨o,es,ep,h1,h2,_⟩:=p;exact PySem.W.kia_one PySem.W.kitx_dict I.kIn ⟨o,h1,h2.1⟩ e (λz=>nomatch z) h
 |@dT a kvs ea=>
  cases (show u=Value.ref a from rx);obtain⟨_,_,xs,_,o,es,ep,h1,h2,_⟩:=(show ObjOk X.prog X.w H s.heap a (.dT kvs) from I.hok a _ ea);exact PySem.W.kia_one PySem.W.kitx_dict I.kIn ⟨o,h1,h2.1⟩ e (λz=>nomatch z) h
 |@ins a C dx fs ea cl ha hn htk hm=>
  cases (show u=Value.ref a from rx);obtain⟨mA,O,_⟩:=xj9 I.hok ea;obtain⟨od,J,_⟩:=O.look;exact PySem.W.kia_one (PySem.W.kitx_own (cl.get _) cl.hd ha hn htk hm) I.kIn J e (λz=>nomatch z) h
end
structure Room(k:Nat)(A:Around):Prop where
 hd:A.handled=none
 dp:A.depth+3*k+5<recursionLimit
 un:A.units+16*k+200<cLine
theorem Room.mono{j k:Nat}{A:Around}(r:Room k A)(h:j<=k):Room j A:=⟨r.hd,by have:=r.dp;omega,by have:=r.un;omega⟩
theorem Room.deeper{k:Nat}{A:Around}(r:Room (k+1) A)(env:Env):Room k (A.deeper env):=
 ⟨r.hd,by have:=r.dp;show A.depth+1+3*k+5<_;omega,by have:=r.un;show A.units+3+16*k+200<_;omega⟩
theorem xme{A:Around}{C:Addr}{us:List Value}{kw:List (Str×Value)}:(A.under (.builtin "type.__call__" ⟨.ref C::us,kw⟩)).depth=A.depth+1:=by
 first |rfl |simp[Around.under,Code.weight,Code.isCreation,Code.isGuard,Code.isCaller,Code.frames,Code.isFrame,guardIds]
theorem xmd{A:Around}{C:Addr}{us:List Value}{kw:List (Str×Value)}:(A.under (.builtin "type.__call__" ⟨.ref C::us,kw⟩)).units=A.units+1:=by
 first |rfl |simp[Around.under,Code.cUnits,Code.frames,Code.isFrame]
theorem Room.make{k:Nat}{A:Around}(r:Room (k+1) A)(C:Addr)(us:List Value)(kw:List (Str×Value)):Room k (A.under (.builtin "type.__call__" ⟨.ref C::us,kw⟩)):=
 ⟨r.hd,by have:=r.dp;rw[xme];omega,by have:=r.un;rw[xmd];omega⟩
theorem Room.depth{k:Nat}{A:Around}(r:Room k A):A.depth<recursionLimit:=by have:=r.dp;omega
theorem Room.units{k:Nat}{A:Around}(r:Room k A):A.units+64<cLine:=by have:=r.un;omega
def tNil:TA:=λ_ H Q=>Q [] H
def xqz(ta:TE)(tr:TA):TA:=λσ H Q=>ta σ H λx H1=>tr σ H1 λxs H2=>Q (x::xs) H2
section
variable {X:Cx}{e:Expr}{es:List Expr}{te:TE}{t:TA}{pos:Pos}
theorem pN:PA X [] tNil:=λ_ _ _ _ H Q I h=>Calls.spliced_nil ⟨[],H,I,.nil,h⟩
theorem pc(j:PE X e te)(i:PA X es t)(hs:starEach (e::es) X.env=(false,eval e X.env)::starEach es X.env:=by rfl):PA X (e::es) (xqz te t):=by
 intro pos pins s σ H Q I h;rw[hs];show wpAny _ _ (spliced ((false,eval e X.env)::backTo pos (starEach es X.env))) _ _ s;refine Calls.spliced_cons (thn (j pins s σ H _ I h) λu a ⟨x,H1,m,c,g⟩=>?_);exact thn (i pos pins a σ H1 _ m g) λus n ⟨xs,H2,l,b,f⟩=>⟨x::xs,H2,l,.cons c b,f⟩
def tTup(t:TA):TE:=λσ H Q=>t σ H λxs H1=>xs.length<=sizeLine/\∀p,H1 p=none->Q (.ref p) (upd H1 p (.tup xs))
def tLst(t:TA):TE:=λσ H Q=>t σ H λxs H1=>xs.length<=sizeLine/\∀p,H1 p=none->Q (.ref p) (upd H1 p (.lst xs))
theorem xaw{f}(h:PA X es t):PE X (.Tuple es f pos) (tTup t):=by
 intro pins s σ H Q I g;refine wpAny_Tuple_spliced (thn (h pos pins s σ H _ I g) λus a ⟨xs,H1,c,r,z,q⟩=>⟨by rw[<- r.length];exact z,?_⟩);have i:H1 a.heap.objs.size=none:=c.hok.fresh (Nat.le_refl _);refine⟨.ref a.heap.objs.size,upd H1 a.heap.objs.size (.tup xs),c.laid (t':=a.toks) (λb u e=>zPO _ e) (Nat.le_refl _) ?_,rfl,q _ i⟩;exact⟨z,us,r,⟨_,Heap.get?_push_size _ rfl,rfl,_,rfl,rfl⟩⟩
theorem xcg(h:PA X es t):PE X (.List es pos) (tLst t):=by
 intro pins s σ H Q I f;refine wpAny_List_spliced (thn (h pos pins s σ H _ I f) λus a ⟨xs,H1,c,r,z,q⟩=>⟨by rw[<- r.length];exact z,?_⟩);have g:H1 a.heap.objs.size=none:=c.hok.fresh (Nat.le_refl _);refine⟨.ref a.heap.objs.size,upd H1 a.heap.objs.size (.lst xs),c.laid (t':=a.toks) (λb u e=>zPO _ e) (Nat.le_refl _) ?_,rfl,q _ g⟩;exact⟨z,us,0,r,Heap.get?_push_size _ rfl⟩
end
abbrev Sp:=List V->Hp->VK->XK->Prop
abbrev CXT:=List Env->Hp->Shared->XK->Value->Shared->Prop
structure Env0(P:Program)(w:World)(K:Fg)(mg:Str->Option Value)(base:Heap)(A:Around)(outer:List Env)(s:Shared)(H:Hp):Prop where
 frames:A.frames=some outer
 mod:Mod K mg base
 bs:∀b o,base.get? b=some o->s.heap.get? b=some o/\H b=none
 bsz:base.objs.size<=s.heap.objs.size
 funs:s.heap.FunFrames base outer
 frf:∀b∈frs outer,H b=none
 hok:HOk P w H s.heap
 bare:AllBare s.gens
def CE(outer:List Env)(P:Program)(w:World)(H:Hp)(s:Shared)(Q:VK)(u:Value)(s':Shared):Prop:=
 ∃v H',s'.os=s.os/\AllBare s'.gens/\Un (frs outer) [] H H' s.heap s'.heap/\HOk P w H' s'.heap/\RelV v u/\Q v H'
def CR(CX:CXT)(outer:List Env)(P:Program)(w:World)(H:Hp)(s:Shared)(Q:VK)(E:XK)(r:Result)(s':Shared):Prop:=
 match r with
 |.ok (.ret u)=>CE outer P w H s Q u s'
 |.ok _=>False
 |.error e=>CX outer H s E e s'
structure FnOk(P:Program)(w:World)(K:Fg)(mg:Str->Option Value)(base:Heap)(CX:CXT)(k:Nat)(f:Addr)(fd:FuncData)(ps:List Str)(sp:Sp):Prop where
 len:∀vs H Q E,sp vs H Q E->vs.length=ps.length
 run:∀(A:Around) (outer:List Env) (s:Shared) (H:Hp) (args:Args) (us:List Value) (vs:List V) (Q:VK) (E:XK),Room k A->Env0 P w K mg base A outer s H->BindsTo s fd args (ps.zip us)->Vals vs us->sp vs H Q E->
  codeAny (model P w) A (.call (.ref f) args) (CR CX outer P w H s Q E) s
theorem FnOk.mono {P:Program} {w:World} {K:Fg} {mg:Str->Option Value} {base:Heap} {CX:CXT} {j k:Nat} {f:Addr} {fd:FuncData} {ps:List Str} {sp:Sp} (F:FnOk P w K mg base CX j f fd ps sp) (h:j<=k) :
  FnOk P w K mg base CX k f fd ps sp:=⟨F.len,λA outer s H args us vs Q E a=>F.run A outer s H args us vs Q E (a.mono h)⟩
theorem FnOk.imp {P:Program} {w:World} {K:Fg} {mg:Str->Option Value} {base:Heap} {CX:CXT} {k:Nat} {f:Addr} {fd:FuncData} {ps:List Str} {sp sp':Sp} (F:FnOk P w K mg base CX k f fd ps sp)
  (h:∀vs H Q E,sp' vs H Q E->sp vs H Q E):FnOk P w K mg base CX k f fd ps sp':=
 ⟨λvs H Q E q=>F.len vs H Q E (h _ _ _ _ q),λA outer s H args us vs Q E hr he hb hv hs=>F.run A outer s H args us vs Q E hr he hb hv (h _ _ _ _ hs)⟩
theorem Env0.make {P:Program} {w:World} {K:Fg} {mg:Str->Option Value} {base:Heap} {A:Around} {outer:List Env} {s:Shared} {H:Hp} (e:Env0 P w K mg base A outer s H) (C:Addr) (us:List Value) (kw:List (Str×Value)) :
  Env0 P w K mg base (A.under (.builtin "type.__call__" ⟨.ref C::us,kw⟩)) outer s H:=⟨by first |exact e.frames |(simpa[Around.under,Code.envs,Code.isFrame,pushEnvs] using e.frames),e.mod,e.bs,e.bsz,e.funs,e.frf,e.hok,e.bare⟩
section
variable {X:Cx}{pins:List (Addr×Obj)}{σ:St}{H:Hp}{s s':Shared}
theorem Inv.env0(I:Inv X pins σ H s):Env0 X.prog X.w X.K X.mg X.base X.A X.stack s H:=
 ⟨I.ok.frames,I.ok.mod,I.bs,Nat.le_trans I.ok.bsz I.sz,I.stack,I.stkFree,I.hok,I.bare⟩
theorem Inv.after{Q:VK}{u:Value}(I:Inv X pins σ H s)(h:CE X.stack X.prog X.w H s Q u s'):EP X pins σ Q u s':=by
 obtain⟨v,H',os,bare,un,hok,r,q⟩:=h;obtain⟨hh,g,d,t,os'⟩:=s';obtain rfl:os'=s.os:=os;exact⟨v,H',I.call (h':=hh) (g':=g) (d':=d) (t':=t) (ch:=[]) un hok bare (λb z=>absurd z (by simp)),r,q⟩
end
def xsi(sp:Sp)(dvs:List V)(E:XK)(t:TA):TE:=λσ H Q=>t σ H λvs H1=>sp (vs++dvs) H1 Q E
def xse(C:Addr)(sp:Sp)(dvs:List V)(E:XK)(t:TA):TE:=λσ H Q=>t σ H λvs H1=>∀x dx,H1 x=none->H1 dx=none->dx≠x->
 sp (.ref x::(vs++dvs)) (upd (upd H1 dx (.own x)) x (.ins C dx [])) (λv H2=>v=.non/\Q (.ref x) H2) E
def Binds(K:Fg)(fd:FuncData)(ps:List Str)(ds:List Value):Prop:=
 ∀(s:Shared) (us:List Value),K.In s.heap->(us++ds).length=ps.length->BindsTo s fd ⟨us,[]⟩ (ps.zip (us++ds))
theorem Binds.all{K:Fg}{fd:FuncData}{ps:List Str}(h:∀us:List Value,us.length=ps.length->bindArgs fd ⟨us,[]⟩=pure (ps.zip us)):Binds K fd ps []:=λs us _ hl=>by
 rw[List.append_nil]at hl⊢;exact .of_eq (h us hl)
def xjd(CX:CXT)(X:Cx)(E:XK):Prop:=∀(pins:List (Addr×Obj)) (σ:St) (H:Hp) (s:Shared) (e:Value) (s':Shared),Inv X pins σ H s->CX X.stack H s E e s'->X.xe e s'
section
variable {X:Cx}{CX:CXT}{k:Nat}{f C:Addr}{fd:FuncData}{ps:List Str}{sp:Sp}{dvs:List V}{ds:List Value}{E:XK}{x m:Str}{p pos apos:Pos}{e o:Expr}{es:List Expr}{ta:TE}{t:TA}
theorem xsq {pins:List (Addr×Obj)} {σ:St} {H:Hp} {s:Shared} {Q:VK} {us:List Value} {vs:List V} (F:FnOk X.prog X.w X.K X.mg X.base CX k f fd ps sp) (hr:Room k X.A) (hb:Binds X.K fd ps ds) (hd:Vals dvs ds) (hx:xjd CX X E)
  (I:Inv X pins σ H s) (r:Vals vs us) (h:sp (vs++dvs) H Q E):wpAny (model X.prog X.w) X.A (call (.ref f) us) (EP X pins σ Q) X.xe s:=by
 have r2:Vals (vs++dvs) (us++ds):=r.append hd;have hl:(us++ds).length=ps.length:=by rw[<- r2.length];exact F.len _ _ _ _ h
 refine wpAny_call (codeAny_mono (F.run X.A X.stack s H ⟨us,[]⟩ (us++ds) (vs++dvs) Q E hr I.env0 (hb s us I.kIn hl) r2 h) λr s' hq=>?_)
 cases r with
 |error e=>exact hx pins σ H s e s' I hq
 |ok fl=>
  cases fl with
  |ret u=>exact I.after hq
  |next=>exact False.elim hq
  |brk=>exact False.elim hq
  |cont=>exact False.elim hq
theorem xrd (F:FnOk X.prog X.w X.K X.mg X.base CX k f fd ps sp) (i:Room k X.A) (m:Gl X x) (j:X.mg x=some (.ref f)) (l:PySem.W.keepIn X.K (.ref f)=true) (o:Binds X.K fd ps ds) (hd:Vals dvs ds) (g:xjd CX X E)
  (u:PA X (e::es) t) (b:(x == ("__debug__":Str))=false:=by decide) (n:starEach (e::es) X.env=(false,eval e X.env)::starEach es X.env:=by rfl) (a:(backTo pos (starEach es X.env)).any (·.1)=false:=by rfl) :
  PE X (.Call (.Name x p) (e::es) [] pos) (xsi sp dvs E t):=by
 intro pins s σ H Q I h;refine wpAny_Call_Name_kw (xj7 I m j ?_ b);refine PySem.W.callWith_K (h₀:=X.base) I.ok.mod.kin l (thn (u pos pins s σ H _ I h) λus y ⟨vs,H1,c,r,q⟩=>⟨c.kIn,?_⟩) n a;exact xsq F i o hd g c r q
structure Mk(K:Fg)(C f:Addr):Prop where
 makes:PySem.W.makesIn K C=true
 init:PySem.W.findIn K (.ref C) "__init__"=some (some (.ref f))
 fn:PySem.W.isFn K (.ref f)=true
 kp:PySem.W.keepIn K (.ref C)=true
theorem xo9 {pins:List (Addr×Obj)} {σ:St} {H:Hp} {s:Shared} {Q:VK} {us:List Value} {vs:List V} (M:Mk X.K C f) (F:FnOk X.prog X.w X.K X.mg X.base CX k f fd ps sp) (m:Room (k+1) X.A) (o:Binds X.K fd ps ds) (hd:Vals dvs ds)
  (l:xjd CX X E) (I:Inv X pins σ H s) (r:Vals vs us)
  (h:∀x dx,H x=none->H dx=none->dx≠x->sp (.ref x::(vs++dvs)) (upd (upd H dx (.own x)) x (.ins C dx [])) (λv H2=>v=.non/\Q (.ref x) H2) E) :
  wpAny (model X.prog X.w) X.A (call (.ref C) us) (EP X pins σ Q) X.xe s:=by
 have g:=h (s.heap.objs.size+1) s.heap.objs.size (I.hok.fresh (Nat.le_succ _)) (I.hok.fresh (Nat.le_refl _)) (Nat.ne_of_lt (Nat.lt_succ_self _));have b:=Inv.made (C:=C) I;have c:Vals (V.ref (s.heap.objs.size+1)::(vs++dvs)) (Value.ref (s.heap.objs.size+1)::(us++ds)):=.cons rfl (r.append hd)
 have n:(Value.ref (s.heap.objs.size+1)::us++ds).length=ps.length:=by
  have e:=c.length;rw[F.len _ _ _ _ g]at e;exact e.symm
 refine wpAny_call (xpt (f:=f) I.kIn M.makes M.init (beq_iff_eq.mp M.fn) (codeAny_mono (F.run _ X.stack _ _ ⟨Value.ref (s.heap.objs.size+1)::us,[]⟩ (Value.ref (s.heap.objs.size+1)::(us++ds)) _ _ E (m.make C us [])
  (b.env0.make C us []) (o _ (Value.ref (s.heap.objs.size+1)::us) b.kIn n) c g) λr s' a=>?_))
 cases r with
 |error e=>exact l pins σ _ _ e s' b a
 | ok p=>
  cases p with
  |ret u=>
   obtain⟨v,H',z,i,y,j⟩:=b.after a;subst y;exact⟨i,⟨V.ref (s.heap.objs.size+1),H',z,rfl,j⟩⟩
  |next=>exact False.elim a
  |brk=>exact False.elim a
  |cont=>exact False.elim a
theorem xq9 (M:Mk X.K C f) (F:FnOk X.prog X.w X.K X.mg X.base CX k f fd ps sp) (i:Room (k+1) X.A) (l:Gl X x) (j:X.mg x=some (.ref C)) (n:Binds X.K fd ps ds) (hd:Vals dvs ds) (g:xjd CX X E)
  (o:PA X (e::es) t) (b:(x == ("__debug__":Str))=false:=by decide) (m:starEach (e::es) X.env=(false,eval e X.env)::starEach es X.env:=by rfl) (a:(backTo pos (starEach es X.env)).any (·.1)=false:=by rfl) :
  PE X (.Call (.Name x p) (e::es) [] pos) (xse C sp dvs E t):=by
 intro pins s σ H Q I h;refine wpAny_Call_Name_kw (xj7 I l j ?_ b);refine PySem.W.callWith_K (h₀:=X.base) I.ok.mod.kin M.kp (thn (o pos pins s σ H _ I h) λus u ⟨vs,H1,c,r,q⟩=>⟨c.kIn,?_⟩) m a;exact xo9 M F i n hd g c r q
end
structure FnScope(N P:List Str)(sc:Scope):Prop where
 kind:sc.kind=.function
 co:sc.isCoroutine=false
 gen:sc.isGenerator=false
 nd:N.Nodup
 pre:N.take P.length=P
 par:∀x∈P,sc.names.lookup x=some .local\/sc.names.lookup x=some .cell
 nofree:∀y∈sc.names,y.2≠.free
theorem xi9{a:Str->Option NameKind}{x:Str}:∀{binds:List (Str×Value)} {m:Str->Option Value},(∀v,(x,v) ∉binds)->bindL a binds m x=m x
 |[],_,_=>rfl
 | (n,v)::r,m,h=>by
  unfold bindL;rw[xi9 λw b=>h w (List.mem_cons_of_mem _ b)];split
  ·have:x≠n:=by rintro rfl;exact h v List.mem_cons_self
   simp[this]
  ·rfl
theorem xjb{a:Str->Option NameKind}{x:Str}:∀{binds:List (Str×Value)} {m:Str->Option Value},(∀v,(x,v) ∉binds)->bindC a binds m x=m x
 |[],_,_=>rfl
 | (n,v)::r,m,h=>by
  unfold bindC;rw[xjb λw b=>h w (List.mem_cons_of_mem _ b)];split
  ·rfl
  ·have:x≠n:=by rintro rfl;exact h v List.mem_cons_self
   simp[this]
theorem xja {a:Str->Option NameKind} {x:Str} {v:Value}:∀{P:List Str} {vs:List Value} {i:Nat} {m:Str->Option Value},P.Nodup->P[i]?=some x->vs[i]?=some v->a x=some .local->
  bindL a (P.zip vs) m x=some v
 |[],_,_,_,_,h,_,_=>by simp at h
 |_::_,[],_,_,_,_,h,_=>by simp at h
 |p::P,w::vs,0,m,nd,h1,h2,b=>by
  simp at h1 h2;subst h1;subst h2;show bindL a ((p,w)::P.zip vs) m p=_;unfold bindL;rw[xi9 λv c=>(List.nodup_cons.mp nd).1 (List.of_mem_zip c).1,if_pos b];simp
 |p::P,w::vs,i+1,m,nd,h1,h2,b=>by
  show bindL a ((p,w)::P.zip vs) m x=_;unfold bindL;exact xja (i:=i) (List.nodup_cons.mp nd).2 (by simpa using h1) (by simpa using h2) b
theorem xjc {a:Str->Option NameKind} {x:Str} {v:Value}:∀{P:List Str} {vs:List Value} {i:Nat} {m:Str->Option Value},P.Nodup->P[i]?=some x->vs[i]?=some v->a x≠some .local->
  bindC a (P.zip vs) m x=some v
 |[],_,_,_,_,h,_,_=>by simp at h
 |_::_,[],_,_,_,_,h,_=>by simp at h
 |p::P,w::vs,0,m,nd,h1,h2,b=>by
  simp at h1 h2;subst h1;subst h2;show bindC a ((p,w)::P.zip vs) m p=_;unfold bindC;rw[xjb λv c=>(List.nodup_cons.mp nd).1 (List.of_mem_zip c).1,if_neg b];simp
 |p::P,w::vs,i+1,m,nd,h1,h2,b=>by
  show bindC a ((p,w)::P.zip vs) m x=_;unfold bindC;exact xjc (i:=i) (List.nodup_cons.mp nd).2 (by simpa using h1) (by simpa using h2) b
def xfj(N:List Str)(vs:List V):St:=vs.map some++List.replicate (N.length-vs.length) none
def cxOf(CX:CXT)(P:Program)(w:World)(K:Fg)(mg:Str->Option Value)(base:Heap)(N:List Str)(qual:Str)(scope:Scope)(f:Addr)(cd:Value)(A:Around)(outer:List Env)(s:Shared)(H:Hp)(E:XK):Cx where
 prog:=P
 w:=w
 K:=K
 mg:=mg
 base:=base
 A:=A.deeper (envOfC qual scope s.heap.objs.size f cd)
 N:=N
 s₀:=s
 H₀:=H
 env:=envOfC qual scope s.heap.objs.size f cd
 outer:=outer
 stack:=envOfC qual scope s.heap.objs.size f cd::outer
 ex:=[]
 calm:=true
 fn:=λ_=>true
 pn:=[]
 xe:=λe s'=>wpAny (model P w) (A.deeper (envOfC qual scope s.heap.objs.size f cd)) (leaving (envOfC qual scope s.heap.objs.size f cd) e) (λ_ s''=>CX outer H s E e s'') (λe' s''=>CX outer H s E e' s'') s'
theorem xln{a:Scope}{n:Nat}{x:Str}(h:a.names.lookup x=some .cell):∃c,(cellsFrom n a.names []).lookup x=some c:=by
 have q:=PySem.W.cellsFrom_some a.names n [] (.inl h);exact Option.isSome_iff_exists.mp q
theorem xof {CX:CXT} {P:Program} {w:World} {K:Fg} {mg:Str->Option Value} {base:Heap} {N ps:List Str} {j:Str} {g:Scope} {f:Addr} {I:Value} {A:Around} {outer:List Env} {s J:Shared} {H:Hp} {E:XK} {us:List Value} {vs:List V}
  (S:FnScope N ps g) (hd:A.handled=none) (l:Env0 P w K mg base A outer s H) (hl:vs.length=ps.length) (r:Vals vs us)
  (x:InCallC s s.heap.objs.size (bindL (envOfC j g s.heap.objs.size f I).kindOf (ps.zip us) λ_=>none) (cellsFrom (s.heap.objs.size+1) g.names []) (bindC (envOfC j g s.heap.objs.size f I).kindOf (ps.zip us) λ_=>none) J) :
  Inv (cxOf CX P w K mg base N j g f I A outer s H E) [] (xfj N vs) H J:=by
 have Y:ps.length<=N.length:=by have:=congrArg List.length S.pre;rw[List.length_take]at this;omega
 obtain⟨h1,tk,rfl,O⟩:=x.done;have m:∀b:Addr,b ∉(cxOf CX P w K mg base N j g f I A outer s H E).ex:=λb z=>absurd (show b∈([]:List Addr) from z) (by simp)
 refine⟨⟨l.mod,S.kind,rfl,rfl,Nat.le_refl _,λy z c h1 h2=>?_,λy o=>?_,λy c _ h=>?_,λ_=>hd,Around.frames_deeper l.frames,.inr ⟨rfl,rfl⟩,λb z=>absurd z (m b),l.bs,l.bsz,λb _ _=>m b,λb z=>absurd z (m b),l.funs,l.frf⟩,
  rfl,l.bare,Un.kept O,⟨_,x.toInCall.ns,λi y v h1 h2 h3=>?_⟩,λy c h=>⟨_,x.cell y c h⟩,l.hok.fresh (Nat.le_refl _),λy c h=>?_,λp G=>absurd (show p∈([]:List (Addr×Obj)) from G) (by simp),l.hok.kept O,?_⟩
 ·exact name_of_addr x.apart (PySem.mem_of_lookup h1) (PySem.mem_of_lookup h2)
 ·have o:g.names.lookup y=some .cell\/g.names.lookup y=some .free:=o
  rcases o with o |o
  ·exact xln o
  ·exact absurd rfl (S.nofree _ (PySem.mem_of_lookup o))
 ·exact Nat.le_of_lt (x.above y c (PySem.mem_of_lookup h))
 ·have hi:i<vs.length:=by
   unfold xfj at h2;by_cases hi:i<vs.length
   ·exact hi
   ·rw[List.getElem?_append_right (by simpa using hi)]at h2
    rw[List.getElem?_replicate]at h2;split at h2 <;> cases h2
  have Z:vs[i]?=some v:=by
   unfold xfj at h2;rw[List.getElem?_append_left (by simpa using hi),zGM]at h2
   cases e:vs[i]? with
   |none=>rw[e]at h2;cases h2
   |some a=>rw[e]at h2;cases h2;rfl
  obtain⟨u,M,U⟩:=r.get Z
  have G:ps[i]?=some y:=by
   rw[<- S.pre,List.getElem?_take_of_lt (by omega)];exact h1
  have C:ps.Nodup:=by rw[<- S.pre];exact S.nd.sublist (List.take_sublist _ _)
  refine⟨u,U,?_⟩;rcases S.par y (zMG G) with k |k
  ·exact .inl ⟨k,xja C G M k⟩
  ·obtain⟨c,e⟩:=xln (n:=s.heap.objs.size+1) k
   refine .inr ⟨.inl k,c,e,?_⟩;have q:=x.cell y c e;rw[xjc C G M (by show g.names.lookup y≠_;rw[k];decide)]at q;exact q
 ·exact l.hok.fresh (Nat.le_of_lt (x.above y c (PySem.mem_of_lookup h)))
 ·unfold xfj
  show _=N.length;rw[zLA,zLM,List.length_replicate];omega
theorem xtr {CX:CXT} {P:Program} {w:World} {K:Fg} {mg:Str->Option Value} {base:Heap} {k:Nat} {f:Addr} {name qual:Str} {params:Arguments} {body:List Stmt} {scope:Scope} {dV kV doc pm cdv ct oc:Value} {an od:Option Addr}
  {osl:Array (Option Value)} {N ps:List Str} {sp:Sp} (lk:K.lookup f=some ⟨oc,od,.func (PySem.W.fnOf name qual params body scope dV kV doc pm an cdv ct),osl⟩) (hcd:PySem.W.codeIn K cdv qual=true) (S:FnScope N ps scope)
  (len:∀vs H Q E,sp vs H Q E->vs.length=ps.length)
  (hbody:∀(A:Around) (outer:List Env) (s:Shared) (H:Hp) (vs:List V) (Q:VK) (E:XK),Room k (A.deeper (envOfC qual scope s.heap.objs.size f cdv))->sp vs H Q E->
   ∃t,PSs (cxOf CX P w K mg base N qual scope f cdv A outer s H E) body t/\t {nx:=λ_ H'=>Q .non H',rt:=Q} (xfj N vs) H) :
  FnOk P w K mg base CX (k+1) f (PySem.W.fnOf name qual params body scope dV kV doc pm an cdv ct) ps sp:=by
 refine⟨len,λA outer s H args us vs Q E hr e0 hb r hsp=>?_⟩;have hl:=len _ _ _ _ hsp;have KX:K.In s.heap:=e0.mod.kin.keeps λb o e=>(e0.bs b o e).1;have lim:s.heap.NoLimit:=e0.mod.nolimit.keeps λb o e=>(e0.bs b o e).1
 have hkind:∀y∈ps.zip us,scope.names.lookup y.1=some .local\/(scope.names.lookup y.1=some .cell/\((cellsFrom (s.heap.objs.size+1) scope.names []).lookup y.1).isSome=true):=λ⟨n,v⟩ hy=>by
  rcases S.par n (List.of_mem_zip hy).1 with q |q
  ·exact .inl q
  ·exact .inr ⟨q,PySem.W.cellsFrom_some _ _ _ (.inl q)⟩
 refine codeAny_call_function hr.depth (KX _ _ lk) rfl S.co S.gen rfl (PySem.W.codeRec_of KX hcd) (hb _ _ _ _ ?_);refine wpAny_newFunctionEnv_cells S.kind hkind λenv he s1 x=>?_;subst he;refine⟨lim.keeps x.toInCall.keep,codeAny_func ?_⟩;obtain⟨t,ht,hq⟩:=hbody A outer s H vs Q E (hr.deeper _) hsp;have I:Inv (cxOf CX P w K mg base N qual scope f cdv A outer s H E) [] (xfj N vs) H s1:=xof S hr.hd e0 hl r x;refine wpAny_mono (ht [] s1 (xfj N vs) H _ I hq) (λfl s' hs=>?_) λe s' hs=>hs
 have fin:∀{σ':St} {H':Hp} {v:V} {u:Value},Inv (cxOf CX P w K mg base N qual scope f cdv A outer s H E) [] σ' H' s'->RelV v u->Q v H'->CE outer P w H s Q u s':=
  λ{σ' H' v u} J rv q=>⟨v,H',J.os,J.bare,J.base,J.hok,rv,q⟩
 cases fl with
 |ret u=>
  obtain⟨v,σ',H',J,rv,q⟩:=hs;exact fin J rv q
 |next=>
  obtain⟨σ',H',J,q⟩:=hs;exact fin (v:=V.non) (u:=Value.none) J rfl q
 |brk=>
  obtain⟨_,_,_,q⟩:=hs;exact False.elim q
 |cont=>
  obtain⟨_,_,_,q⟩:=hs;exact False.elim q
section
variable {X:Cx}{x:Str}{p pos:Pos}{e:Expr}{es:List Expr}{t:TA}{id T:String}{r:List V->Hp->VK->Prop}
def tCB(r:List V->Hp->VK->Prop)(t:TA):TE:=λσ H Q=>t σ H λvs H1=>r vs H1 Q
theorem xau (hc:xd1 X (.builtin id) r) (hg:Gl X x) (hm:X.mg x=none) (hv:bootBuiltins x=some (.builtin id)) (ha:PA X (e::es) t) (hn:x≠"__name__":=by decide) (hdb:(x == ("__debug__":Str))=false:=by decide)
  (he:starEach (e::es) X.env=(false,eval e X.env)::starEach es X.env:=by rfl) (hpl:(backTo pos (starEach es X.env)).any (·.1)=false:=by rfl):PE X (.Call (.Name x p) (e::es) [] pos) (tCB r t):=by
 intro pins s σ H Q I h;refine wpAny_Call_Name_kw (xer I hg hm hv ?_ hn hdb);exact PyProof.Rows.callWith_builtin1 (thn (ha pos pins s σ H _ I h) λus s1 ⟨vs,H1,I1,r1,q1⟩=>hc pins s1 σ H1 vs us Q I1 r1 q1) he hpl
theorem xay (hc:xd1 X (.type T) r) (hg:Gl X x) (hm:X.mg x=none) (hv:bootBuiltins x=some (.type T)) (ha:PA X (e::es) t) (hn:x≠"__name__":=by decide) (hdb:(x == ("__debug__":Str))=false:=by decide)
  (he:starEach (e::es) X.env=(false,eval e X.env)::starEach es X.env:=by rfl) (hpl:(backTo pos (starEach es X.env)).any (·.1)=false:=by rfl):PE X (.Call (.Name x p) (e::es) [] pos) (tCB r t):=by
 intro pins s σ H Q I h;refine wpAny_Call_Name_kw (xer I hg hm hv ?_ hn hdb);exact PyProof.Rows.callWith_type1 (thn (ha pos pins s σ H _ I h) λus s1 ⟨vs,H1,I1,r1,q1⟩=>hc pins s1 σ H1 vs us Q I1 r1 q1) he hpl
end
end L2
namespace HT
open PySem PyProof.Rows
section
variable {prog:Program}{w:World}{A:Around}{E:Value->Shared->Prop}{s:Shared}
theorem cat_tup {t b:Addr} {vs ws:List Value} {Q:Value->Shared->Prop} (ht:IsTup s.heap t vs.toArray) (hb:IsTup s.heap b ws.toArray) (hv:vs≠[])
  (h1:ws=[]->Q (.ref t) s) (h2:ws≠[]->Q (.ref s.heap.objs.size) {s with heap:=s.heap.push {cls:=.type "tuple",data:=.seq (vs++ws).toArray}})
  (hsz:vs.length+ws.length<=sizeLine):wpAny (model prog w) A (binaryOp .Add (.ref t) (.ref b)) Q E s:=by
 obtain⟨⟨cls,dd,data,sl⟩,ho,hc,n,hd⟩:=id ht;obtain⟨⟨cls2,dd2,data2,sl2⟩,ho2,hc2,n2,hd2⟩:=id hb;simp only at hc hd hc2 hd2;subst hc hd hc2 hd2;have e:vs.toArray++ws.toArray=(vs++ws).toArray:=by simp
 by_cases hw:ws=[]
 ·exact concat_meets ⟨_,ho,rfl⟩ ⟨_,ho2,rfl⟩ noFill_tuple_add seq_tuple_add PySem.F.slot_tuple_add PySem.F.entry_tuple_add (PySem.F.args_tuple_add_2 _ _)
   (tuple_addW1 t b vs.toArray ws.toArray n n2 dd dd2 sl sl2 (by simpa using hv) (by simp[hw])) ⟨ho,ho2,h1 hw⟩
 ·refine concat_meets ⟨_,ho,rfl⟩ ⟨_,ho2,rfl⟩ noFill_tuple_add seq_tuple_add PySem.F.slot_tuple_add PySem.F.entry_tuple_add (PySem.F.args_tuple_add_2 _ _)
   (tuple_addW2 t b vs.toArray ws.toArray n n2 dd dd2 sl sl2 (by simpa using hv) (by simpa using hw) (by rw[List.size_toArray,List.size_toArray];exact hsz)) ⟨ho,ho2,?_⟩
  rw[e];exact h2 hw
def sIx(n d:Nat):Option Int->Nat
 |none=>d
 |some v=>if v<0 then (v+(n:Int)).toNat else min v.toNat n
theorem sIx_none(n d:Nat):sIx n d none=d:=rfl
theorem sIx_nat(n d k:Nat):sIx n d (some (k:Int))=min k n:=by
 show(if (k:Int)<0 then ((k:Int)+(n:Int)).toNat else min (k:Int).toNat n)=min k n;rw[if_neg (by omega),Int.toNat_natCast]
theorem xsp(n d:Nat)(hd:d<=n)(o:Option Int):sIx n d o<=n:=by
 cases o with
 |none=>exact hd
 |some v=>
  show(if v<0 then (v+(n:Int)).toNat else min v.toNat n)<=n;by_cases a:v<0
  ·rw[if_pos a];omega
  ·rw[if_neg a];exact Nat.min_le_right _ _
theorem xoy(v:Int)(n d:Nat):(if v<0 then max (v+(n:Int)) 0 else min v (n:Int))=((sIx n d (some v):Nat):Int):=by
 show(if v<0 then max (v+(n:Int)) 0 else min v (n:Int))=(((if v<0 then (v+(n:Int)).toNat else min v.toNat n):Nat):Int);by_cases a:v<0
 ·simp only[if_pos a];omega
 ·simp only[if_neg a];omega
theorem xmm(lo hi:Option Int)(n:Nat):Builtin.Slice.sliceAdjust lo hi 1 (n:Int)=(((sIx n 0 lo:Nat):Int),((sIx n n hi:Nat):Int)):=by
 have h1:¬((1:Int)<0):=by omega
 unfold Builtin.Slice.sliceAdjust;simp only[h1,if_false];refine Prod.ext ?_ ?_
 ·cases lo with
  |none=>rfl
  |some v=>exact xoy v n 0
 ·cases hi with
  |none=>rfl
  |some v=>exact xoy v n n
theorem xl4(i j:Nat):Builtin.Slice.slicePlaces (i:Int) (j:Int) 1=j-i:=by
 unfold Builtin.Slice.slicePlaces;have h1:(1:Int) > 0:=by omega
 simp only[h1,if_true,Int.ediv_one];split <;> omega
theorem xgs{v:Value}{o:Option Int}{Q:Option Int->Shared->Prop}(p:IsPart v o)(h:Q o s):wpAny (model prog w) A (Builtin.Slice.slicePartIndex v) Q E s:=by
 cases p with
 |none=>exact slicePart_none h
 |int i t=>exact slicePart_int h
theorem xfk {sl:Addr} {e c:Value} {lo hi:Option Int} {n:Nat} {Q:Int×Int×Nat->Shared->Prop} (hs:s.heap.IsSliceOf sl e c .none) (pl:IsPart e lo) (f:IsPart c hi)
  (h:Q (((sIx n 0 lo:Nat):Int),1,sIx n n hi-sIx n 0 lo) s):wpAny (model prog w) A (Builtin.Slice.sliceApplied (.ref sl) (pure (n:Int))) Q E s:=by
 obtain⟨i,a,g,b⟩:=id hs;unfold Builtin.Slice.sliceApplied Builtin.Slice.sliceFields;refine wpAny_bind (wpAny_bind (wpAny_field a b (x:=e) rfl (wpAny_bind (wpAny_field a b (x:=c) rfl (wpAny_bind (wpAny_field a b (x:=.none) rfl (wpAny_pure ?_)))))));refine wpAny_bind (slicePart_none ?_);show wpAny _ _ (if ((1:Int) == 0)=true then _ else _) _ _ s;rw[if_neg (by decide)];refine wpAny_bind (xgs pl (wpAny_bind (xgs f (wpAny_bind (wpAny_pure ?_)))));show wpAny _ _ (match Builtin.Slice.sliceAdjust lo hi 1 (n:Int) with |(lo,hi)=>pure (lo,(1:Int),Builtin.Slice.slicePlaces lo hi 1)) _ _ s;rw[xmm lo hi n];show wpAny _ _ (pure (((sIx n 0 lo:Nat):Int),(1:Int),Builtin.Slice.slicePlaces ((sIx n 0 lo:Nat):Int) ((sIx n n hi:Nat):Int) 1)) _ _ s;rw[xl4];exact wpAny_pure h
theorem xpd(xs:Array Value)(i k:Nat):((List.range k).filterMap λ(m:Nat)=>xs[((i:Int)+(m:Int)*1).toNat]?).toArray=((xs.toList.drop i).take k).toArray:=by
 have e:(λ(m:Nat)=>xs[((i:Int)+(m:Int)*1).toNat]?)=λm=>xs[i+m]?:=by
  funext m
  have:((i:Int)+(m:Int)*1).toNat=i+m:=by omega
  rw[this]
 rw[e];have:=pick_run xs i k;rw[List.filterMap_map]at this;have a:((λx=>xs[x]?) ∘ λx=>i+x)=λm=>xs[i+m]?:=rfl;rw[a]at this;rw[this]
theorem getItem_tuple_cut {t sl:Addr} {items:Array Value} {j i:Value} {lo hi:Option Int} {Q:Value->Shared->Prop} (b:IsTup s.heap t items) (hs:s.heap.IsSliceOf sl j i .none) (pl:IsPart j lo) (l:IsPart i hi)
  (o:¬(sIx items.size 0 lo=0/\sIx items.size items.size hi=items.size))
  (h:Q (.ref s.heap.objs.size) {s with heap:=s.heap.push {cls:=.type "tuple",data:=.seq ((items.toList.drop (sIx items.size 0 lo)).take (sIx items.size items.size hi-sIx items.size 0 lo)).toArray}})
  (hsz:items.size<=sizeLine):wpAny (model prog w) A (getItem (.ref t) (.ref sl)) Q E s:=by
 have a:sizeOk (.seq ((items.toList.drop (sIx items.size 0 lo)).take (sIx items.size items.size hi-sIx items.size 0 lo)).toArray):=by
  show((items.toList.drop (sIx items.size 0 lo)).take (sIx items.size items.size hi-sIx items.size 0 lo)).toArray.size<=sizeLine;rw[List.size_toArray,List.length_take,List.length_drop,Array.length_toList];omega
 have x:sIx items.size items.size hi<=items.size:=xsp _ _ (Nat.le_refl _) hi;obtain⟨n,c,f,p⟩:=id hs;have g:s.TypeIs (.ref sl) "slice":=⟨n,c,f⟩;unfold getItem
 try with_reducible refine wpAny_holding ?_
 first |refine wpAny_bind (wpAny_pure ?_) |skip
 refine wpAny_bind (wpAny_sequenceKey b.typeIs (by decide) ?_)
 refine wpAny_bind (wpAny_callSpecial?_slot (name:=Str.ofString "__getitem__") b.typeIs PyProof.Rows.slot_tuple_getitem
  (wpAny_call_entry PyProof.Rows.slot_tuple_getitem b.typeIs entry_tuple_getitem ?_ (args_tuple_getitem _ _)))
 show wpAny _ _ (Builtin.Tuple.tupleItemsOf (.ref t) >>= _) _ _ s;refine wpAny_bind (tupleItemsOf_ b ?_);refine wpAny_bind (wpAny_typeOf g ?_);rw[if_pos (by decide)];refine wpAny_bind (xfk hs pl l ?_)
 have e:¬((((sIx items.size 0 lo:Nat):Int) == 0 && (1:Int) == 1 && (sIx items.size items.size hi-sIx items.size 0 lo) == items.size)=true):=by
  intro q;rw[Bool.and_eq_true,Bool.and_eq_true]at q;have u:((sIx items.size 0 lo:Nat):Int)=0:=eq_of_beq q.1.1;have r:sIx items.size items.size hi-sIx items.size 0 lo=items.size:=eq_of_beq q.2;exact o ⟨by omega,by omega⟩
 show wpAny _ _ (if (((sIx items.size 0 lo:Nat):Int) == 0 && (1:Int) == 1 && (sIx items.size items.size hi-sIx items.size 0 lo) == items.size)=true then _ else _) _ _ s;rw[if_neg e,xpd]
 first
  |exact wpAny_bind (m:=Builtin.Tuple.tupleExact _) (wpAny_newObj_type (wpAny_pure ⟨_,rfl,wpAny_pure h⟩) a)
  |exact wpAny_bind (m:=Builtin.Tuple.tupleExact _) (wpAny_newObj_type (wpAny_bind (wpAny_pure (wpAny_pure ⟨_,rfl,wpAny_pure h⟩))) a)
  |exact wpAny_bind (wpAny_bind (m:=Builtin.Tuple.tupleExact _) (wpAny_newObj_type (wpAny_pure (wpAny_pure ⟨_,rfl,wpAny_pure h⟩)) a))
  |exact wpAny_bind (wpAny_bind (m:=Builtin.Tuple.tupleExact _) (wpAny_newObj_type (wpAny_pure ⟨_,rfl,wpAny_pure h⟩) a))
end
end HT
namespace L2
open PySem PySem.Spec PyProof.Rows
abbrev TO:=St->Hp->(Option Int->Hp->Prop)->Prop
def PO(X:Cx)(e:Option Expr)(t:TO):Prop:=
 ∀(pins:List (Addr×Obj)) (s:Shared) (σ:St) (H:Hp) (Q:Option Int->Hp->Prop),Inv X pins σ H s->t σ H Q->
  wpAny (model X.prog X.w) X.A (evalPart e X.env) (λu s'=>∃o H',Inv X pins σ H' s'/\IsPart u o/\Q o H') X.xe s
def xqw:TO:=λ_ H Q=>Q none H
def xtz(t:TE):TO:=λσ H Q=>t σ H λx H1=>∃i,x=.int i/\Q (some i) H1
theorem xgv{ns:List Int}:∀{us:List Value},Vals (ns.map V.int) us->IntsAre us ns:=by
 induction ns with
 |nil=>intro us r;rw[List.map_nil]at r;cases r;exact .nil
 | cons n ns c=>
  intro us r;rw[List.map_cons]at r
  cases r with
  |cons b a=>
   obtain⟨t,e⟩:=b;subst e;exact .cons n t (c a)
section
variable {X:Cx}{e:Expr}{te:TE}{lo hi:Option Expr}{tl th:TO}{pos p2:Pos}
theorem xe3:PO X none xqw:=by
 intro pins s σ H Q I h;rw[evalPart_none];exact wpAny_pure ⟨none,H,I,.none,h⟩
theorem xc9(h:PE X e te):PO X (some e) (xtz te):=by
 intro pins s σ H Q I c;rw[evalPart_some];refine thn (h pins s σ H _ I c) λu g ⟨x,H1,f,a,b⟩=>?_;obtain⟨i,rfl,q⟩:=b;obtain⟨t,rfl⟩:=a;exact⟨some i,H1,f,.int i t,q⟩
def SlR(X:Cx)(r:V->Option Int->Option Int->Hp->VK->Prop):Prop:=
 ∀(pins:List (Addr×Obj)) (s:Shared) (σ:St) (H:Hp) (x:V) (v vl vu:Value) (lo hi:Option Int) (sl:Addr) (Q:VK),Inv X pins σ H s->RelV x v->s.heap.IsSliceOf sl vl vu .none->IsPart vl lo->IsPart vu hi->r x lo hi H Q->
  ∃T id,typeLookup (.type T) "__getitem__"=pure (some (.builtin id))/\s.TypeIs v T/\wpAny (model X.prog X.w) X.A (getItem v (.ref sl)) (EP X pins σ Q) X.xe s
def tSl(r:V->Option Int->Option Int->Hp->VK->Prop)(te:TE)(tl th:TO):TE:=λσ H Q=>te σ H λx H1=>tl σ H1 λl H2=>th σ H2 λu H3=>r x l u H3 Q
theorem xc6{r:V->Option Int->Option Int->Hp->VK->Prop}(hr:SlR X r)(he:PE X e te)(hl:PO X lo tl)(hu:PO X hi th):PE X (.Subscript e (.Slice lo hi none p2) pos) (tSl r te tl th):=by
 intro pins s σ H Q I h;refine Subscript_ (thn (he pins s σ H _ I h) λv s1 ⟨x,H1,I1,r1,q1⟩=>?_);refine wpAny_Slice (thn (hl pins s1 σ H1 _ I1 q1) λvl s2 ⟨l,H2,I2,pl,q2⟩=>thn (hu pins s2 σ H2 _ I2 q2) λvu s3 ⟨u,H3,I3,pu,q3⟩=>?_);rw[evalPart_none];refine wpAny_pure ?_;have I4:Inv X pins σ H3 {s3 with heap:=s3.heap.push {cls:=.type "slice",data:=.fields #[vl,vu,.none]}}:=I3.kept (t':=s3.toks) λb ob q=>zPO _ q;obtain⟨T,id,hT,ht,hg⟩:=hr pins {s3 with heap:=s3.heap.push {cls:=.type "slice",data:=.fields #[vl,vu,.none]}} σ H3 x v vl vu l u s3.heap.objs.size Q I4 r1 (Heap.IsSliceOf.new ..) pl pu q3;show wpAny (model X.prog X.w) X.A (subscriptTail e (.Slice lo hi none p2) v (.ref s3.heap.objs.size)) (EP X pins σ Q) X.xe {s3 with heap:=s3.heap.push {cls:=.type "slice",data:=.fields #[vl,vu,.none]}};exact tail_any (ops:=[.ref s3.heap.objs.size,v]) ht hT hg (by with_unfolding_all rfl)
def cutV(xs:List V)(lo hi:Option Int):List V:=(xs.drop (HT.sIx xs.length 0 lo)).take (HT.sIx xs.length xs.length hi-HT.sIx xs.length 0 lo)
theorem xgj(xs:List V)(lo hi:Option Int):(cutV xs lo hi).length<=xs.length:=by
 unfold cutV;rw[List.length_take,List.length_drop];omega
def rSlT(K:Fg):V->Option Int->Option Int->Hp->VK->Prop:=λx lo hi H Q=>∃a xs,x=.ref a/\SqT K H a xs ∧
 ¬(HT.sIx xs.length 0 lo=0/\HT.sIx xs.length xs.length hi=xs.length)/\∀p,H p=none->Q (.ref p) (upd H p (.tup (cutV xs lo hi)))
theorem xso:SlR X (rSlT X.K):=by
 intro pins s σ H x v m l lo hi sl Q I f hs pl g h;obtain⟨a,xs,rfl,i,j,q⟩:=h;cases f;obtain⟨its,r,e,hz⟩:=I.tuple i;have c:its.toArray.size=xs.length:=by rw[List.size_toArray];exact r.length.symm
 refine⟨"tuple",_,PyProof.Rows.slot_tuple_getitem.lookup,e.typeIs,?_⟩;refine HT.getItem_tuple_cut e hs pl g (by rw[c];exact j) ?_ (by rw[c];exact hz);rw[c];refine⟨.ref s.heap.objs.size,_,I.laid (t':=s.toks) (o:=.tup (cutV xs lo hi)) (λb n q=>zPO _ q) (Nat.le_refl _) ?_,rfl,q _ (I.hok.fresh (Nat.le_refl _))⟩;exact⟨Nat.le_trans (xgj xs lo hi) hz,_,(r.drop (HT.sIx xs.length 0 lo)).take (HT.sIx xs.length xs.length hi-HT.sIx xs.length 0 lo),_,Heap.get?_push_size _ rfl,rfl,_,rfl,rfl⟩
def xud(K:Fg):R2:=λx y H Q=>∃a b xs ys,x=.ref a/\y=.ref b/\SqT K H a xs/\SqT K H b ys/\xs≠[]/\xs.length+ys.length<=sizeLine ∧
 (ys=[]->Q (.ref a) H)/\(ys≠[]->∀p,H p=none->Q (.ref p) (upd H p (.tup (xs++ys))))
theorem Vals.nil_iff{xs:List V}{us:List Value}(r:Vals xs us):us=[] ↔ xs=[]:=by
 cases r with
 |nil=>simp
 |cons _ _=>simp
theorem xrh:OpR X (binaryOp .Add) (xud X.K):=by
 intro pins s σ H x y v u Q I i g h;obtain⟨a,b,xs,ys,rfl,rfl,r,p,n,hz,l,j⟩:=h;cases i;cases g;obtain⟨its,e,m,_⟩:=I.tuple r;obtain⟨f,c,p2,_⟩:=I.tuple p;refine HT.cat_tup m p2 (λz=>n (e.nil_iff.mp z)) (λz=>⟨.ref a,H,I,rfl,l (c.nil_iff.mp z)⟩) (λz=>?_) (by rw[<- e.length,<- c.length];exact hz);refine⟨.ref s.heap.objs.size,_,I.laid (t':=s.toks) (o:=.tup (xs++ys)) (λb C q=>zPO _ q) (Nat.le_refl _) ?_,rfl,j (λw=>z (c.nil_iff.mpr w)) _ (I.hok.fresh (Nat.le_refl _))⟩;exact⟨by rw[zLA];exact hz,_,e.append c,_,Heap.get?_push_size _ rfl,rfl,_,rfl,rfl⟩
end
def ixN(n:Nat)(i:Int):Option Nat:=if 0<=i then (if i<n then some i.toNat else none) else if -(n:Int)<=i then some (i+n).toNat else none
def atI{α:Type}(xs:List α)(i:Int):Option α:=(ixN xs.length i).bind λj=>xs[j]?
theorem xod{n:Nat}{i:Int}{j:Nat}(h:ixN n i=some j):seqIndex? i n=some j/\j<n/\-(n:Int)<=i/\i<n:=by
 unfold ixN at h;by_cases h0:0<=i
 ·rw[if_pos h0]at h
  by_cases h1:i<n
  ·rw[if_pos h1]at h
   have e:i.toNat=j:=Option.some.inj h;exact⟨by rw[seqIndex_of h0 h1,e],by omega,by omega,h1⟩
  ·rw[if_neg h1]at h;cases h
 ·rw[if_neg h0]at h
  by_cases h1:-(n:Int)<=i
  ·rw[if_pos h1]at h
   have e:(i+n).toNat=j:=Option.some.inj h;exact⟨by rw[seqIndex_neg (by omega) h1,e],by omega,h1,by omega⟩
  ·rw[if_neg h1]at h;cases h
theorem xkp{α:Type}{xs:List α}{i:Int}{v:α}(h:atI xs i=some v):∃j,seqIndex? i xs.length=some j/\xs[j]?=some v/\j<xs.length/\-(xs.length:Int)<=i/\i<xs.length:=by
 unfold atI at h
 cases e:ixN xs.length i with
 |none=>rw[e]at h;cases h
 |some j=>
  rw[e]at h;obtain⟨h1,h2,b,a⟩:=xod e;exact⟨j,h1,h,h2,b,a⟩
theorem xas{α:Type}{xs:List α}{j:Nat}{v:α}(h:xs[j]?=some v):atI xs (j:Int)=some v:=by
 have a:j<xs.length:=(zES h).1
 have e:ixN xs.length (j:Int)=some j:=by
  unfold ixN;rw[if_pos (by omega),if_pos (by omega)];simp
 unfold atI;rw[e];exact h
def xkr(b:Expr):Prop:=∀o i,subscripted b false o i=operate [o,i] (getItem o i)
def IxR(X:Cx)(r:R2):Prop:=
 ∀(value slice:Expr) (pins:List (Addr×Obj)) (s:Shared) (σ:St) (H:Hp) (x y:V) (v u:Value) (Q:VK),Inv X pins σ H s->RelV x v->RelV y u->r x y H Q->
  subscripted slice false v u=operate [v,u] (getItem v u)->wpAny (model X.prog X.w) X.A (subscriptTail value slice v u) (EP X pins σ Q) X.xe s
def MtR(X:Cx)(id:String)(r:V->List V->Hp->VK->Prop):Prop:=
 ∀(pins:List (Addr×Obj)) (s:Shared) (σ:St) (H:Hp) (x:V) (xs:List V) (v:Value) (us:List Value) (Q:VK),Inv X pins σ H s->RelV x v->Vals xs us->r x xs H Q->
  wpAny (model X.prog X.w) X.A (call (.builtin id) (v::us)) (EP X pins σ Q) X.xe s
section
variable {X:Cx}{a b:Expr}{ta tb:TE}{pos:Pos}
theorem xpg{r:R2}(hr:IxR X r)(ha:PE X a ta)(hb:PE X b tb)(hs:xkr b):PE X (.Subscript a b pos) (tOp r ta tb):=by
 intro pins s σ H Q I h;exact Subscript_ (binT ha hb I h λv u s2 x y H2 I2 rx ry q=>hr a b pins s2 σ H2 x y v u Q I2 rx ry q (hs _ _))
def rIxL(K:Fg):R2:=λx y H Q=>∃p xs i v,x=.ref p/\y=.int i/\SqL K H p xs/\atI xs i=some v/\Q v H
def rIxT(K:Fg):R2:=λx y H Q=>∃p xs i v,x=.ref p/\y=.int i/\SqT K H p xs/\atI xs i=some v/\Q v H
def rIxS:R2:=λx y H Q=>∃z i c,x=.str z/\y=.int i/\z.length<=sizeLine/\atI z.cps.toList i=some c/\Q (.str ⟨#[c]⟩) H
theorem iL:IxR X (rIxL X.K):=by
 intro value a pins s σ H x y v u Q I g f h hs;obtain⟨p,xs,i,z,rfl,rfl,l,n,q⟩:=h;cases g;obtain⟨t,rfl⟩:=f;obtain⟨its,r,pl,hz⟩:=I.list l;obtain⟨j,h1,h2,G,C,o⟩:=xkp n;obtain⟨w,e,b⟩:=r.get h2;have m:=r.length;have hn:=xiw;have fin:EP X pins σ Q w s:=⟨z,H,I,b,q⟩;by_cases h0:0<=i
 ·have c:i.toNat=j:=by
   rw[seqIndex_of h0 o]at h1;exact Option.some.inj h1
  exact item_listR pl.isList h0 (by omega) (by rw[c];simpa using e) fin hs
 ·have c:(i+(its.toArray.size:Int)).toNat=j:=by
   rw[seqIndex_neg (by omega) C]at h1;rw[List.size_toArray,<- m];exact Option.some.inj h1
  exact subscriptTail_builtinR (x:=w) pl.isList.typeIs slot_list_getitem.lookup
   (wpAny_getItem_list_neg (Q:=λr s'=>r=w/\EP X pins σ Q r s') pl.isList (by omega) (by rw[List.size_toArray] <;> omega) (by omega) (by rw[c];simpa using e) ⟨rfl,fin⟩) hs
theorem xti:IxR X (rIxT X.K):=by
 intro value a pins s σ H x y v u Q I e c h hs;obtain⟨p,xs,i,z,rfl,rfl,f,l,q⟩:=h;cases e;obtain⟨t,rfl⟩:=c;obtain⟨its,r,pl,hz⟩:=I.tuple f;obtain⟨j,h1,h2,C,o,n⟩:=xkp l;obtain⟨w,m,b⟩:=r.get h2;have g:=r.length;have hn:=xiw;have fin:EP X pins σ Q w s:=⟨z,H,I,b,q⟩
 exact subscriptTail_builtinR (x:=w) pl.typeIs slot_tuple_getitem.lookup
  (getItem_tuple (j:=j) (Q:=λr s'=>r=w/\EP X pins σ Q r s') pl (by omega) (by omega) (by rw[List.size_toArray,<- g];exact h1) (by simpa using m) ⟨rfl,fin⟩) hs
theorem xql:IxR X rIxS:=by
 intro value a pins s σ H x y v u Q I e b h hs;obtain⟨z,i,c,rfl,rfl,hz,g,q⟩:=h;obtain⟨t,rfl⟩:=e;obtain⟨t',rfl⟩:=b;obtain⟨j,h1,h2,p,m,l⟩:=xkp g;have f:z.cps.toList.length=z.length:=by simp[Str.length]
 rw[f]at h1 m l;have hn:=xiw
 exact tail_any (typeIs_str s z t) slot_str_getitem.lookup (getItem_str (c:=c) (by
  have o:decide (i < -(2 ^ 63:Int))=false:=zDF (by omega);have n:decide (i ≥ 2 ^ 63)=false:=zDF (by omega);rw[o,n,Bool.or_false]) (by rw[h1];simpa using h2) ⟨.str ⟨#[c]⟩,H,I.tok _,⟨_,rfl⟩,q⟩) hs
theorem xmc(its:List Value)(n j:Nat)(u:Value):Obj.mapSeq (·.setIfInBounds j u) {cls:=.type "list",data:=.seq its.toArray n}={cls:=.type "list",data:=.seq (its.set j u).toArray n}:=by
 simp[Obj.mapSeq]
theorem Inv.lst {pins:List (Addr×Obj)} {σ:St} {H:Hp} {s:Shared} {p:Addr} {xs:List V} (I:Inv X pins σ H s) (h:H p=some (.lst xs)) :
  ∃(its:List Value) (n:Nat),Vals xs its/\s.heap.get? p=some {cls:=.type "list",data:=.seq its.toArray n}/\xs.length<=sizeLine:=by
 obtain⟨z,its,n,r,e⟩:=I.hok p _ h;exact⟨its,n,r,e,z⟩
theorem Inv.lstUpd {pins:List (Addr×Obj)} {σ:St} {H:Hp} {s:Shared} {p:Addr} {xs ys:List V} {its its':List Value} {n n':Nat} {f:Obj->Obj} (I:Inv X pins σ H s) (h:H p=some (.lst xs))
  (ho:s.heap.get? p=some {cls:=.type "list",data:=.seq its.toArray n}) (hf:f {cls:=.type "list",data:=.seq its.toArray n}={cls:=.type "list",data:=.seq its'.toArray n'}) (r:Vals ys its') (hz:ys.length<=sizeLine) (t:Nat) :
  Inv X pins σ (upd H p (.lst ys)) {s with heap:=s.heap.update p f,toks:=t}:=by
 have e:(s.heap.update p f).get? p=some {cls:=.type "list",data:=.seq its'.toArray n'}:=by
  rw[Heap.get?_update_self f ho (by rw[hf] <;> rfl),hf]
 refine I.write (x:=p) (e:=p) (by rw[h];trivial) (.inl rfl) (λb u hb q=>(Heap.get?_update_other _ _ (Ne.symm hb)).trans q) ⟨_,e⟩ ?_;exact⟨hz,its',n',r,e⟩
def xub:V->V->V->Hp->(Hp->Prop)->Prop:=λo i v H Q=>∃p xs k j,o=.ref p/\i=.int k/\H p=some (.lst xs)/\ixN xs.length k=some j/\Q (upd H p (.lst (xs.set j v)))
theorem xk1:PSet X xub:=by
 intro pins s σ H o i v z C u Q I w x m h;obtain⟨p,xs,k,j,rfl,rfl,e,y,q⟩:=h;cases w;obtain⟨t,rfl⟩:=x;obtain⟨its,n,r,a,hz⟩:=I.lst e;obtain⟨h1,h2,g,f⟩:=xod y;have b:=r.length;have hn:=xiw
 have l:Inv X pins σ (upd H p (.lst (xs.set j v))) {s with heap:=s.heap.update p (Obj.mapSeq (·.setIfInBounds j u))}:=
  I.lstUpd e a (xmc its n j u) (r.set m j) (by rw[List.length_set];exact hz) s.toks
 by_cases h0:0<=k
 ·have c:k.toNat=j:=by
   rw[seqIndex_of h0 f]at h1;exact Option.some.inj h1
  exact PySem.W.ki_setAt a h0 (by omega) (by rw[List.size_toArray,<- b];exact f) (by rw[c];exact⟨_,l,q⟩)
 ·have c:(k+(its.toArray.size:Int)).toNat=j:=by
   rw[seqIndex_neg (by omega) g]at h1;rw[List.size_toArray,<- b];exact Option.some.inj h1
  exact PySem.W.ki_setBack a (by omega) (by rw[List.size_toArray,<- b];exact g) (by omega) (by rw[c];exact⟨_,l,q⟩)
theorem xh4(lo hi:Option Int)(n:Nat):(sliceBounds lo hi none n).1=((HT.sIx n 0 lo:Nat):Int)/\(sliceBounds lo hi none n).2.1=((HT.sIx n n hi:Nat):Int)/\(sliceBounds lo hi none n).2.2=1:=by
 refine⟨?_,?_,rfl⟩
 ·cases lo with
  |none=>simp[sliceBounds,HT.sIx]
  |some i=>
   simp only[sliceBounds,HT.sIx,Option.getD_none,show(1:Int) > 0 by decide,if_true];by_cases h:i<0
   ·simp only[h,if_true] <;> omega
   ·simp only[h,if_false] <;> omega
 ·cases hi with
  |none=>simp[sliceBounds,HT.sIx]
  |some i=>
   simp only[sliceBounds,HT.sIx,Option.getD_none,show(1:Int) > 0 by decide,if_true];by_cases h:i<0
   ·simp only[h,if_true] <;> omega
   ·simp only[h,if_false] <;> omega
theorem xg4(its:List Value)(lo hi:Option Int):slicePick its.toArray lo hi none=((its.drop (HT.sIx its.length 0 lo)).take (HT.sIx its.length its.length hi-HT.sIx its.length 0 lo)).toArray:=by
 obtain⟨h1,h2,a⟩:=xh4 lo hi its.toArray.size;unfold slicePick;rw[h1,h2,a];simp only[sliceRange_one,pick_run,List.size_toArray] <;> rfl
def rSlL(K:Fg):V->Option Int->Option Int->Hp->VK->Prop:=λx lo hi H Q=>∃a xs,x=.ref a/\SqL K H a xs/\∀p,H p=none->Q (.ref p) (upd H p (.lst (cutV xs lo hi)))
theorem xjn:SlR X (rSlL X.K):=by
 intro pins s σ H x v l j lo hi sl Q I f hs pl g h;obtain⟨a,xs,rfl,i,q⟩:=h;cases f;obtain⟨its,r,e,hz⟩:=I.list i;have c:=r.length;refine⟨"list",_,slot_list_getitem.lookup,e.isList.typeIs,?_⟩;refine wpAny_getItem_list_slice e.isList hs pl g .none (by simp) ?_ (by rw[List.size_toArray] <;> omega);rw[xg4,<- c];refine⟨.ref s.heap.objs.size,_,I.laid (t':=s.toks) (o:=.lst (cutV xs lo hi)) (λb m q=>zPO _ q) (Nat.le_refl _) ?_,rfl,q _ (I.hok.fresh (Nat.le_refl _))⟩;exact⟨Nat.le_trans (xgj xs lo hi) hz,_,0,(r.drop (HT.sIx xs.length 0 lo)).take (HT.sIx xs.length xs.length hi-HT.sIx xs.length 0 lo),Heap.get?_push_size _ rfl⟩
def xev:V->Bool
 |.non=>true
 |.bl _=>true
 |.int _=>true
 |.str _=>true
 |_=>false
def eqV:V->V->Bool
 |.non,.non=>true
 |.bl a,.bl b=>a == b
 |.bl a,.int b=>(if a then 1 else 0) == b
 |.int a,.bl b=>a == (if b then 1 else 0)
 |.int a,.int b=>a == b
 |.str a,.str b=>a == b
 |_,_=>false
theorem xqo{A:Around}{s:Shared}{y x:V}{u v:Value}(e:RelV y u)(c:RelV x v)(g:xev y=true)(f:xev x=true):SeqAt.EqAt A s u v (eqV y x):=by
 cases y with
 |non=>
  cases e
  cases x with
  |non=>cases c;exact SeqAt.EqAt.same _
  |bl b=>cases c;exact SeqAt.EqAt.none_bool b
  |int b=>obtain⟨t,rfl⟩:=c;exact SeqAt.EqAt.none_int b t
  |str b=>obtain⟨t,rfl⟩:=c;exact SeqAt.EqAt.none_str b t
  |_=>exact absurd (show false=true from f) Bool.false_ne_true
 |bl a=>
  cases e
  cases x with
  |non=>cases c;exact SeqAt.EqAt.bool_none a
  |bl b=>cases c;exact SeqAt.EqAt.bool_bool a b
  |int b=>obtain⟨t,rfl⟩:=c;exact SeqAt.EqAt.bool_int a b t
  |str b=>obtain⟨t,rfl⟩:=c;exact SeqAt.EqAt.bool_str a b t
  |_=>exact absurd (show false=true from f) Bool.false_ne_true
 |int a=>
  obtain⟨t',rfl⟩:=e
  cases x with
  |non=>cases c;exact SeqAt.EqAt.int_none a t'
  |bl b=>cases c;exact SeqAt.EqAt.int_bool a t' b
  |int b=>obtain⟨t,rfl⟩:=c;exact SeqAt.EqAt.int_int a t' b t
  |str b=>obtain⟨t,rfl⟩:=c;exact SeqAt.EqAt.int_str a t' b t
  |_=>exact absurd (show false=true from f) Bool.false_ne_true
 |str a=>
  obtain⟨t',rfl⟩:=e
  cases x with
  |non=>cases c;exact SeqAt.EqAt.str_none a t'
  |bl b=>cases c;exact SeqAt.EqAt.str_bool a t' b
  |int b=>obtain⟨t,rfl⟩:=c;exact SeqAt.EqAt.str_int a t' b t
  |str b=>obtain⟨t,rfl⟩:=c;exact SeqAt.EqAt.str_str a t' b t
  |_=>exact absurd (show false=true from f) Bool.false_ne_true
 |_=>exact absurd (show false=true from g) Bool.false_ne_true
def eqU(x:V)(u:Value):Bool:=match u with
 |.none=>eqV .non x
 |.bool b=>eqV (.bl b) x
 |.int i _=>eqV (.int i) x
 |.str z _=>eqV (.str z) x
 |_=>false
theorem xoq{x y:V}{u:Value}(r:RelV y u)(f:xev y=true):eqU x u=eqV y x:=by
 cases y with
 |non=>cases r;rfl
 |bl b=>cases r;rfl
 |int i=>obtain⟨t,rfl⟩:=r;rfl
 |str z=>obtain⟨t,rfl⟩:=r;rfl
 |_=>exact absurd (show false=true from f) Bool.false_ne_true
theorem xkq{x:V}:∀{xs:List V} {us:List Value},Vals xs us->xs.all xev=true->us.any (eqU x)=xs.any λy=>eqV y x
 |_,_,.nil,_=>rfl
 |y::xs,u::us,.cons r t,f=>by
  rw[List.all_cons,Bool.and_eq_true]at f;rw[List.any_cons,List.any_cons,xoq r f.1,xkq t f.2]
theorem xfq{A:Around}{s:Shared}{x:V}{v:Value}(b:RelV x v)(c:xev x=true):∀{xs:List V} {us:List Value},Vals xs us->xs.all xev=true->∀u∈us,SeqAt.EqAt A s u v (eqU x u)
 |_,_,.nil,_=>λu a=>by cases a
 |y::xs,u::us,.cons r t,f=>λe a=>by
  rw[List.all_cons,Bool.and_eq_true]at f;rcases zMC a with rfl |a
  ·rw[xoq r f.1];exact xqo r b f.1 c
  ·exact xfq b c t f.2 e a
def inV(x:V)(xs:List V):Bool:=xs.any λy=>eqV y x
def rIn(K:Fg)(neg:Bool):R2:=λx y H Q=>∃p xs,y=.ref p/\(SqL K H p xs\/SqT K H p xs)/\xev x=true/\xs.all xev=true/\Q (.bl (if neg then !inV x xs else inV x xs)) H
theorem xfc:OpR X (compareOp .NotIn) (rIn X.K true):=by
 intro pins s σ H x y v u Q I c f h;obtain⟨p,xs,rfl,a,e,fs,q⟩:=h;cases f;rcases a with a |a
 ·obtain⟨its,r,pl,hz⟩:=I.list a
  refine SeqAt.notIn_listAt (eqU x) pl.isList (λw b=>xfq c e r fs w (by simpa using b)) ⟨.bl _,H,I,rfl,?_⟩;rw[show its.toArray.any (eqU x)=its.any (eqU x) by simp,xkq r fs];exact q
 ·obtain⟨its,r,pl,hz⟩:=I.tuple a
  refine SeqAt.notIn_tupleAt (eqU x) pl (λw b=>xfq c e r fs w (by simpa using b)) ⟨.bl _,H,I,rfl,?_⟩;rw[show its.toArray.any (eqU x)=its.any (eqU x) by simp,xkq r fs];exact q
theorem xi7:xd1 X (.builtin "len") (λxs H Q=>∃p ys,xs=[.ref p]/\(SqL X.K H p ys\/SqT X.K H p ys)/\Q (.int ys.length) H):=by
 intro pins s σ H xs us Q I r h;obtain⟨p,ys,rfl,b,q⟩:=h;obtain⟨u,rfl,e⟩:=xfi r;cases e;have hn:=xiw;rcases b with b |b
 ·obtain⟨its,c,pl,hz⟩:=I.list b
  have a:=c.length;exact Calls.call_len_list pl.isList (by simp only[List.size_toArray] <;> omega) ⟨.int ys.length,H,I.tok _,⟨s.toks+1,by rw[List.size_toArray,a]⟩,q⟩
 ·obtain⟨its,c,pl,hz⟩:=I.tuple b
  have a:=c.length;exact len_tuple pl (by simp only[List.size_toArray] <;> omega) ⟨.int ys.length,H,I.tok _,⟨s.toks+1,by rw[List.size_toArray,a]⟩,q⟩
theorem xfg:xd1 X (.type "list") (λxs H Q=>∃p ys,xs=[.ref p]/\(SqL X.K H p ys\/SqT X.K H p ys)/\∀l,H l=none->Q (.ref l) (upd H l (.lst ys))):=by
 intro pins s σ H xs us Q I r h;obtain⟨p,ys,rfl,g,q⟩:=h;obtain⟨u,rfl,x⟩:=xfi r;cases x
 have fin:∀(its:List Value),Vals ys its->ys.length<=sizeLine->∀(h':Heap) (c:Nat),(∀b o',s.heap.get? b=some o'->h'.get? b=some o')->
   h'.get? s.heap.objs.size=some {cls:=.type "list",dict:=none,data:=.seq its.toArray c,slots:=#[]}->EP X pins σ Q (.ref s.heap.objs.size) {s with heap:=h'}:=λits a hz h' c f e=>
  ⟨.ref s.heap.objs.size,_,I.laid (t':=s.toks) f (Nat.le_refl _) (show ObjOk X.prog X.w _ h' _ (.lst ys) from⟨hz,its,c,a,e⟩),rfl,q _ (I.hok.fresh (Nat.le_refl _))⟩
 rcases g with g |g
 ·obtain⟨its,a,pl,hz⟩:=I.list g
  have i:=a.length;obtain⟨o,j,m,n,hd⟩:=pl.isList;exact call_list_seq p (.inl rfl) j m hd (λh' c f e=>fin its a hz h' c f e) (by simp only[List.size_toArray] <;> omega)
 ·obtain⟨its,a,pl,hz⟩:=I.tuple g
  have i:=a.length;obtain⟨o,j,m,n,hd⟩:=pl;exact call_list_seq p (.inr rfl) j m hd (λh' c f e=>fin its a hz h' c f e) (by simp only[List.size_toArray] <;> omega)
theorem xhr:xd1 X (.type "tuple") (λxs H Q=>∃p ys,xs=[.ref p]/\((SqL X.K H p ys/\∀l,H l=none->Q (.ref l) (upd H l (.tup ys)))\/(SqT X.K H p ys/\Q (.ref p) H))):=by
 intro pins s σ H xs us Q I r h;obtain⟨p,ys,rfl,h⟩:=h;obtain⟨u,rfl,i⟩:=xfi r;cases i;rcases h with⟨c,q⟩ |⟨c,q⟩
 ·obtain⟨its,a,pl,hz⟩:=I.list c
  have f:=a.length;refine call_tuple_list pl.isList (λh' j=>?_) (by simp only[List.size_toArray] <;> omega);have g:Inv X pins σ H {s with heap:=h'}:=I.kept (t':=s.toks) j
  have m:Inv X pins σ (upd H h'.objs.size (.tup ys)) {s with heap:=h'.push {cls:=.type "tuple",data:=.seq its.toArray}}:=
   g.laid (t':=s.toks) (λb o e=>zPO _ e) (Nat.le_refl _) (show ObjOk X.prog X.w _ _ _ (.tup ys) from⟨hz,its,a,_,Heap.get?_push_size _ rfl,rfl,_,rfl,rfl⟩)
  exact⟨.ref h'.objs.size,_,m,rfl,q _ (g.hok.fresh (Nat.le_refl _))⟩
 ·obtain⟨its,a,pl,hz⟩:=I.tuple c
  exact call_tuple_same pl ⟨.ref p,H,I,rfl,q⟩
def tyV(K:Fg)(T:String)(x:V)(H:Hp):Prop:=match x with
 |.str _=>T="str"
 |.int _=>T="int"
 | .ref p=>(T="list"/\∃xs,SqL K H p xs)\/(T="tuple"/\∃o,K.lookup p=some o/\o.cls=.type "tuple"/\o.dict=none) ∨
   (T="dict"/\((∃kvs,H p=some (.dK kvs))\/∃kvs,H p=some (.dT kvs)))\/(T="set"/\∃S n,H p=some (.set S n))
 |_=>False
theorem xsb {pins:List (Addr×Obj)} {σ:St} {H:Hp} {s:Shared} {T:String} {x:V} {v:Value} (I:Inv X pins σ H s) (r:RelV x v) (f:tyV X.K T x H) :
  s.TypeIs v T/\∀a,v=.ref a->∃h,s.heap.get? a=some h/\h.dict=none:=by
 cases x with
 |str z=>
  obtain⟨t,rfl⟩:=r;cases (show T="str" from f);exact⟨typeIs_str s z t,λ_ e=>nomatch e⟩
 |int i=>
  obtain⟨t,rfl⟩:=r;cases (show T="int" from f);exact⟨typeIs_int s i t,λ_ e=>nomatch e⟩
 | ref p=>
  cases r;rcases f with⟨rfl,xs,j⟩ |⟨rfl,o,b,l,hd⟩ |⟨rfl,b⟩ |⟨rfl,S,n,b⟩
  ·obtain⟨its,_,pl,_⟩:=I.list j
   refine⟨pl.isList.typeIs,λa e=>?_⟩;cases e;obtain⟨o,n,e,c,hd,_⟩:=pl;exact⟨o,e,hd⟩
  ·refine⟨⟨o,I.kIn p o b,l⟩,λa e=>?_⟩
   cases e;exact⟨o,I.kIn _ o b,hd⟩
  ·have z:∃o,s.heap.get? p=some o/\o.ExactDict:=by
    rcases b with⟨kvs,b⟩ |⟨kvs,b⟩
    ·obtain⟨_,_,_,_,o,_,_,e,ex,_⟩:=I.hok p _ b
     exact⟨o,e,ex⟩
    ·obtain⟨_,_,_,_,o,_,_,e,ex,_⟩:=I.hok p _ b
     exact⟨o,e,ex⟩
   obtain⟨o,e,ex⟩:=z;refine⟨⟨o,e,ex.1⟩,λa g=>?_⟩;cases g;exact⟨o,e,ex.2.1⟩
  ·obtain⟨o,_,_,_,e,ex,_⟩:=I.hok p _ b
   refine⟨⟨o,e,ex.1⟩,λa g=>?_⟩;cases g;exact⟨o,e,ex.2.1⟩
 |_=>exact False.elim f
def tBM(K:Fg)(T:String)(r:V->List V->Hp->VK->Prop)(to:TE)(t:TA):TE:=λσ H Q=>to σ H λx H1=>tyV K T x H1/\t σ H1 λxs H2=>r x xs H2 Q
variable {o e:Expr}{es:List Expr}{to:TE}{t:TA}{name:Str}{apos cpos:Pos}{T id:String}{r:V->List V->Hp->VK->Prop}
theorem xds (pa:PlainAttrs T) (f:Slot T name id) (i:typeOf (.builtin id)=pure (.type "method_descriptor")) (G:MtR X id r) (C:PE X o to) (J:PA X (e::es) t)
  (c:attributeBase o name X.env (eval o X.env)=eval o X.env:=by rfl)
  (g:((backTo cpos (starEach (e::es) X.env)).all (λx=>!x.1) && (backToKw cpos (keywordEach [] X.env)).all (λx=>x.1.isSome)
   && decide ((e::es).length+([]:List Keyword).length+(if ([]:List Keyword).isEmpty then 0 else 1)<30))=true:=by rfl)
  (b:(apos.endLine == cpos.line)=true:=by rfl) (hs:starEach (e::es) X.env=(false,eval e X.env)::starEach es X.env:=by rfl) (a:(backTo cpos (starEach es X.env)).any (·.1)=false:=by rfl) :
  PE X (.Call (.Attribute o name apos) (e::es) [] cpos) (tBM X.K T r to t):=by
 intro pins s σ H Q I h;refine wpAny_Call_method_late c g b rfl (thn (C pins s σ H _ I h) λv u ⟨x,H1,m,j,n,z⟩=>?_);obtain⟨h1,h2⟩:=xsb m j n;refine⟨T,id,pa,f,i,h1,h2,?_⟩;have l:=J cpos pins u σ H1 _ m z;rw[hs]at l⊢;refine Calls.callWith_builtin (by show(false || (backTo cpos (starEach es X.env)).any (·.1))=false;rw[a] <;> rfl) (Calls.evalArgs_plain ?_);exact thn l λus p ⟨vs,H2,M,w,y⟩=>G pins p σ H2 x vs v us Q M j w y
end
def MtM(X:Cx)(id:String)(r:V->List V->Hp->VK->Prop):Prop:=
 ∀(pins:List (Addr×Obj)) (s:Shared) (σ:St) (H:Hp) (x:V) (xs:List V) (v:Value) (us:List Value) (Q:VK),Inv X pins σ H s->RelV x v->Vals xs us->r x xs H Q->
  wpAny (model X.prog X.w) X.A (call (.builtin id) (v::us)) (EP X pins σ Q) X.xe s
theorem Vals.one:∀{x:V} {us:List Value},Vals [x] us->∃u,us=[u]/\RelV x u
 |_,_,.cons r .nil=>⟨_,rfl,r⟩
theorem Vals.two:∀{x y:V} {us:List Value},Vals [x,y] us->∃u v,us=[u,v]/\RelV x u/\RelV y v
 |_,_,_,.cons r (.cons q .nil)=>⟨_,_,rfl,r,q⟩
theorem Vals.eraseIdx:∀{xs:List V} {us:List Value} (i:Nat),Vals xs us->Vals (xs.eraseIdx i) (us.eraseIdx i)
 |_,_,_,.nil=>.nil
 |_,_,0,.cons _ t=>t
 |_,_,i+1,.cons r t=>.cons r (Vals.eraseIdx i t)
theorem xiy{α:Type}:∀(l:List α) (i:Nat),(l.eraseIdx i).length<=l.length
 |[],_=>Nat.le_refl _
 |_::_,0=>Nat.le_succ _
 |_::r,i+1=>Nat.succ_le_succ (xiy r i)
section
variable {X:Cx}{pins:List (Addr×Obj)}{σ:St}{H:Hp}{s:Shared}{l b:Addr}{xs ys zs:List V}
theorem Inv.lset {its its':List Value} {n:Nat} {f:Array Value->Array Value} {t':Nat} (I:Inv X pins σ H s) (h:H l=some (.lst xs))
  (e:s.heap.get? l=some {cls:=.type "list",data:=.seq its.toArray n}) (c:f its.toArray=its'.toArray) (a:Vals ys its') (hz:ys.length<=sizeLine) :
  Inv X pins σ (upd H l (.lst ys)) {s with heap:=s.heap.update l (Obj.mapSeq f),toks:=t'}:=by
 have q:=PySem.IsL.update e f;rw[c]at q;refine I.write (x:=l) (e:=l) (by rw[h];exact trivial) (.inl rfl) (λi u g b=>(Heap.get?_update_other s.heap (Obj.mapSeq f) (Ne.symm g)).trans b) ⟨_,q⟩ ?_;exact⟨hz,its',_,a,q⟩
theorem Inv.lnew {its:List Value} {t':Nat} (I:Inv X pins σ H s) (a:Vals ys its) (hz:ys.length<=sizeLine) :
  Inv X pins σ (upd H s.heap.objs.size (.lst ys)) {s with heap:=s.heap.push {cls:=.type "list",data:=.seq its.toArray},toks:=t'}:=
 I.laid (λ_ _ q=>zPO _ q) (Nat.le_refl _) ⟨hz,its,0,a,Heap.get?_push_size _ rfl⟩
theorem Inv.fresh(I:Inv X pins σ H s):H s.heap.objs.size=none:=I.hok.fresh (Nat.le_refl _)
theorem Inv.lstM(I:Inv X pins σ H s)(a:H l=some (.lst xs)):xs.length<=sizeLine/\∃(its:List Value) (n:Nat),Vals xs its/\xs.length=its.length/\s.heap.get? l=some {cls:=.type "list",data:=.seq its.toArray n}:=by
 obtain⟨z,its,n,r,e⟩:=I.hok l _ a;exact⟨z,its,n,r,r.length,e⟩
theorem xpn{n:Nat}(h:n<=sizeLine):Builtin.List.listTooLong n=false:=by
 unfold Builtin.List.listTooLong;exact zDF (by omega)
end
section
variable {X:Cx}
def xq5:V->List V->Hp->VK->Prop:=λx vs H Q=>∃l xs y,x=.ref l/\vs=[y]/\H l=some (.lst xs)/\xs.length<sizeLine/\Q .non (upd H l (.lst (xs++[y])))
theorem xbs:MtM X "list.append" xq5:=by
 intro pins s σ H x vs v us Q I b c h;obtain⟨l,xs,y,rfl,rfl,a,hz,q⟩:=h;cases b;obtain⟨u,rfl,f⟩:=c.one;obtain⟨z,its,n,r,g,e⟩:=I.lstM a;refine call_meets F.slot_list_append ⟨_,e,rfl⟩ F.entry_list_append (F.args_list_append_2 _ _) (PySem.list_append l its.toArray n u (by rw[List.size_toArray];omega)) ⟨e,?_⟩;refine⟨.non,_,I.lset (its':=its++[u]) a e (by simp) (r.append (.cons f .nil)) ?_,rfl,q⟩;rw[zLA,List.length_singleton];omega
def xq4:V->List V->Hp->VK->Prop:=λx vs H Q=>∃l b xs zs,x=.ref l/\vs=[.ref b]/\H l=some (.lst xs)/\H b=some (.lst zs)/\xs.length+zs.length<=sizeLine/\Q .non (upd H l (.lst (xs++zs)))
theorem xn2:MtM X "list.extend" xq4:=by
 intro pins s σ H x vs v us Q I g i h;obtain⟨l,b,xs,zs,rfl,rfl,f,w,hz,q⟩:=h;cases g;obtain⟨u,rfl,j⟩:=i.one;cases j;obtain⟨z,its,n,r,G,e⟩:=I.lstM f;obtain⟨C,a,o,m,p,y⟩:=I.lstM w;have hsz:its.toArray.size+a.toArray.size<=sizeLine:=by rw[List.size_toArray,List.size_toArray];omega
 have c:¬(!its.toArray.isEmpty && Builtin.List.listTooLong (its.toArray.size+a.toArray.size))=true:=by
  rw[xpn hsz,Bool.and_false];exact Bool.false_ne_true
 refine call_meets F.slot_list_extend ⟨_,e,rfl⟩ F.entry_list_extend (F.args_list_extend_2 _ _)
  (AutoSeq1.list_extend_list_list_0 l its.toArray n b a.toArray o c (by rw[List.size_toArray];omega) (by omega)) ⟨e,y,?_⟩
 refine⟨.non,_,I.lset (its':=its++a) f e (by simp) (r.append m) ?_,rfl,q⟩;rw[zLA];omega
def xst:V->List V->Hp->VK->Prop:=λx vs H Q=>∃l xs i k y,x=.ref l/\vs=[.int i]/\H l=some (.lst xs)/\-(2 ^ 63)<=i/\i<2 ^ 63/\seqIndex? i xs.length=some k/\xs[k]?=some y/\Q y (upd H l (.lst (xs.eraseIdx k)))
theorem xpq:MtM X "list.pop" xst:=by
 intro pins s σ H x vs v us Q I c f h;obtain⟨l,xs,i,k,y,rfl,rfl,b,h1,h2,p,j,q⟩:=h;cases c;obtain⟨u,rfl,g⟩:=f.one;obtain⟨t,rfl⟩:=g;obtain⟨z,its,n,r,o,e⟩:=I.lstM b;obtain⟨w,m,a⟩:=r.get j
 refine call_meets F.slot_list_pop ⟨_,e,rfl⟩ F.entry_list_pop (F.args_list_pop_2 _ _)
  (MeetsSeq.list_pop_at l its.toArray n i t k w (fitsIndex_both h1 h2) (by rw[List.size_toArray,<- o];exact p) (by rw[<- Array.getElem?_toList];exact m) (by rw[List.size_toArray];omega)) ⟨e,?_⟩
 refine⟨y,_,I.lset (its':=its.eraseIdx k) b e ?_ (r.eraseIdx k) ?_,a,q⟩
 ·show its.toArray.eraseIdxIfInBounds k=(its.eraseIdx k).toArray
  rw[List.eraseIdxIfInBounds_toArray]
 ·have:=xiy xs k
  omega
def rCat:R2:=λx y H Q=>∃l b xs zs,x=.ref l/\y=.ref b/\H l=some (.lst xs)/\H b=some (.lst zs)/\xs.length+zs.length<=sizeLine/\∀p,H p=none->Q (.ref p) (upd H p (.lst (xs++zs)))
theorem xnm:OpR X (binaryOp .Add) rCat:=by
 intro pins s σ H x y v u Q I f c h;obtain⟨l,b,xs,zs,rfl,rfl,j,m,hz,q⟩:=h;cases f;cases c;obtain⟨z,its,n,r,G,e⟩:=I.lstM j;obtain⟨w,a,C,g,i,p⟩:=I.lstM m;refine PySem.P.add_list e p ?_ (by rw[List.size_toArray,List.size_toArray];omega);have o:its.toArray++a.toArray=(its++a).toArray:=by simp
 rw[o];exact⟨.ref _,_,I.lnew (t':=s.toks) (r.append g) (by rw[zLA];omega),rfl,q _ I.fresh⟩
end
end L2
namespace Att
open PySem PySem.W PySem.Calls PyProof.Rows
theorem xgf{P:Params}{h:Heap}:∀(ns:List Int) (vs:List Value),WellAll P h vs (ns.map WData.int)->IntsAre vs ns:=by
 intro ns
 induction ns with
 |nil=>
  intro vs w;rw[List.map_nil]at w;cases w;exact .nil
 | cons n ns c=>
  intro vs w;rw[List.map_cons]at w
  cases w with
  |cons a b=>
   cases a;exact .cons _ _ (c _ b)
theorem xm9 {l:OpenLaw} {n:Nat} (hn:l.most=some n) {P:Params} {h:Heap} {args:List WData} {b:List Value}
  (c:l.row.toRowW.claim.pre args=true) (j:WellAll P h b args) :
  ∃a vs ns,b=[Value.ref a]/\args=[WData.list (ns.map WData.int)]/\h.get? a=some {cls:=.type "list",data:=.seq vs.toArray}/\IntsAre vs ns/\ns.length<=n:=by
 have m:WShape.hasAll [] args [.list .int]=true:=(pre_splitW c).1;have o:l.pre.holds [] {args:=args}=true:=(pre_splitW c).2;obtain⟨d,r,rfl,h1,h2⟩:=hasAllW_cons m;obtain rfl:=hasAllW_nil h2;obtain⟨xs,rfl,x⟩:=hasW_list h1;obtain⟨ns,rfl⟩:=items_int x
 have e:ns.length<=n:=by
  unfold OpenLaw.pre at o
  have i:(WTm.not (.lt (.lit (.int (n:Int))) (.len (.arg 0)))).holds [] {args:=[.list (ns.map .int)]}=true:=by
   have i:=(holds_andW o).1;rw[hn]at i;exact i
  have g:=condW_of i (w_not (w_lt w_lit (w_len_list (w_arg rfl))));rw[zLM]at g;refine Nat.le_of_not_lt λq=>?_;have u:(n:Int)<((ns.length:Nat):Int):=by omega
  first
   |(rw[zDT u]at g;exact absurd g (by decide))
   |(simp at g;omega)
 cases j with
 |cons s p=>
  cases p
  cases s with
  |list w f=>exact⟨_,_,ns,rfl,rfl,w,xgf ns _ f,e⟩
theorem xnd(l:OpenLaw)(args:List WData):l.row.toRowW.claim.post args (.bool true) args=true:=
 postW_of (r:=l.row.toRowW) (X:=(true == true))
  (show WShape.has [] (.bool true) .bool=true by first |rfl |decide |simp[WShape.has,WShape.arms,WShape.armsAll])
  (show(WTm.eq .res (.lit (.bool true))).value [] {args:=args,res:=some (.bool true),after:=args}=some (.bool (true == true)) from w_eq_bool (w_res rfl) w_lit) rfl
theorem attach_call {l:OpenLaw} {n:Nat} {q:Program} {loose:List Str} {XP:(Str->Option Value)->Heap->Prop} {YP:World->Heap->Prop} {d:DefRec}
  (hn:l.most=some n) (hdf:d.params.defaults=[])
  (call:∀(w:World) (s₀ s₁:Shared) (mg mb:Str->Option Value) (fa:Addr) (o:Obj) (pm cd doc:Value) (a:Addr) (vs:List Value) (ns:List Int),
   Ground q loose [] XP w s₀ mg mb s₁.heap->YP w s₁.heap->
   s₁.heap.get? fa=some o->o.data=.func (docDef d.name d.params d.body d.scope pm cd doc)->s₁.heap.CodeRec cd d.name->mg d.name=some (.ref fa)->
   s₁.heap.get? a=some {cls:=.type "list",data:=.seq vs.toArray}->IntsAre vs ns->ns.length<=n->s₁.gens=#[]->
   codeAny (model l.prog w) callerA (.call (.ref fa) ⟨[.ref a],[]⟩) (λr s'=>r=.ok (.ret (.bool true))/\OldK s₁.heap s'.heap/\s'.os=s₁.os/\AllBare s'.gens) s₁) :
  WalkO q loose XP YP l.row.toRowW d [] (λf vs=>PySem.call f vs):=by
 intro w s₀ s₁ mg mb G Y fa o pm cd doc dV kV ho hd hcd hD hmg hg args vals as hpre hlay hrd hwl hlo;obtain rfl:dV=.none:=Dflts.none hD hdf;obtain rfl:kV=.none:=Dflts.noKw hD;obtain⟨a,vs,ns,rfl,rfl,hobj,hints,hlen⟩:=xm9 hn hpre hwl;refine enter_call (codeAny_mono (call w s₀ s₁ mg mb fa o pm cd doc a vs ns G Y ho (fd_plain hd) hcd hmg hobj hints hlen hg) λr s' hq=>?_);obtain⟨rfl,h2,h3,h4⟩:=hq;exact⟨.inl ⟨.bool true,.bool true,[],rfl,λ_=>rfl,.bool true,xnd l _,λ_=>⟨List.Pairwise.nil,λ_ hm=>(nomatch hm)⟩⟩,h2,h3,h4⟩
end Att
namespace L2
open PySem PySem.Spec PyProof.Rows
theorem xht:∀{vs:List Value} {ns:List Int},IntsAre vs ns->Vals (ns.map V.int) vs
 |_,_,.nil=>.nil
 |_,_,.cons n t h=>.cons ⟨t,rfl⟩ (xht h)
def Only(H:Hp):Prop:=∀b,H b=none\/∃o xs,H b=some (.frz o (.lst xs))
theorem xpu {P:Program} {w:World} {K:Fg} {mg mb:Str->Option Value} {CX:CXT} {k:Nat} {fa a:Addr} {fd:FuncData} {x:Str} {sp:Sp} {s₁:Shared} {vs:List Value} {ns:List Int}
  (KX:K.In s₁.heap) (hns:s₁.heap.Ns mainGlobals mg) (hb:s₁.heap.Ns builtinsNs mb) (hbb:∀x:Str,x≠"__name__"->mb x=bootBuiltins x) (hlim:s₁.heap.NoLimit) (hg:s₁.gens=#[])
  (ha:s₁.heap.get? a=some {cls:=.type "list",data:=.seq vs.toArray}) (hi:IntsAre vs ns) (hl:ns.length<=sizeLine) (hr:Room k callerA)
  (F:∀base:Heap,K.In base->base.Ns mainGlobals mg->FnOk P w K mg base CX k fa fd [x] sp) (hbind:∀(s:Shared) (u:Value),BindsTo s fd ⟨[u],[]⟩ [(x,u)])
  (hsp:∀H:Hp,Only H->SqL K H a (ns.map V.int)->sp [.ref a] H (λv _=>v=.bl true) λ_ _ _=>False)
  (hCX:∀H e s',CX [] H s₁ (λ_ _ _=>False) e s'->False) :
  codeAny (model P w) callerA (.call (.ref fa) ⟨[.ref a],[]⟩) (λr s'=>r=.ok (.ret (.bool true))/\OldK s₁.heap s'.heap/\s'.os=s₁.os/\AllBare s'.gens) s₁:=by
 have rv:=xht hi;have lenV:=hi.length
 have core:∀H:Hp,Only H->SqL K H a (ns.map V.int)->HOk P w H s₁.heap->(∀b,H b≠none->b=a)->(H a≠none->K.lookup a=none)->
   codeAny (model P w) callerA (.call (.ref fa) ⟨[.ref a],[]⟩) (λr s'=>r=.ok (.ret (.bool true))/\OldK s₁.heap s'.heap/\s'.os=s₁.os/\AllBare s'.gens) s₁:=by
  intro H hO hS hok hA hK;have base_of:∀{b:Addr} {o:Obj},s₁.heap.get? b=some o->H b=none->(hidT s₁.heap H).get? b=some o:=λe n=>xp0 e n
  have noA:∀{b:Addr} {o:Obj} {es:Array DictEntry} {ep:Nat},s₁.heap.get? b=some o->o.data=.dict es ep->H b=none:=λ{b o es ep} e d=>by
   cases q:H b with
   |none=>rfl
   |some u=>
    have e':b=a:=hA b (by rw[q];simp);subst e';rw[ha]at e;cases e;have d':Data.seq vs.toArray _=Data.dict es ep:=d;cases d'
  have nsK:∀{b:Addr} {m:Str->Option Value},s₁.heap.Ns b m->(hidT s₁.heap H).Ns b m:=λ{b m} ⟨o,es,ep,e,d,r⟩=>⟨o,es,ep,base_of e (noA e d),d,r⟩
  have hKb:K.In (hidT s₁.heap H):=λb o e=>base_of (KX b o e) (by
   cases q:H b with
   |none=>rfl
   |some u=>
    have e':b=a:=hA b (by rw[q];simp);subst e';rw[hK (by rw[q];simp)]at e;cases e)
  have hM:Mod K mg (hidT s₁.heap H):=⟨hKb,nsK hns,⟨mb,nsK hb,hbb⟩,let ⟨mc,h1,h2⟩:=hlim;⟨mc,nsK h1,h2⟩⟩;have e0:Env0 P w K mg (hidT s₁.heap H) callerA [] s₁ H:=⟨rfl,hM,λb o e=>xri e,Nat.le_of_eq (xoi _ _),trivial,λb hb=>absurd (show b∈([]:List Addr) from hb) (by simp),hok,.of_eq hg⟩;refine codeAny_mono ((F _ hKb (nsK hns)).run callerA [] s₁ H ⟨[.ref a],[]⟩ [.ref a] [.ref a] _ _ hr e0 (hbind s₁ (.ref a)) (.cons rfl .nil) (hsp H hO hS)) λr s' h=>?_
  cases r with
  |error e=>exact(hCX H e s' h).elim
  | ok fl=>
   cases fl with
   |next=>exact False.elim h
   |brk=>exact False.elim h
   |cont=>exact False.elim h
   | ret u=>
    obtain⟨v,H',os,bare,un,hok',r',q⟩:=h;have q':v=.bl true:=q;subst q';obtain rfl:u=Value.bool true:=r';refine⟨rfl,OldK.of_keep λb o e=>?_,os,bare⟩
    cases q:H b with
    |none=>exact un.keep b o e q (by intro z;exact absurd (show b∈([]:List Addr) from z) (by simp)) (by simp)
    | some u=>
     rcases hO b with z |⟨ob,xs,z⟩
     ·rw[q]at z;cases z
     ·have z2:=un.frzs b ob _ z
      obtain⟨e1,_⟩:=hok b _ z;obtain⟨e2,_⟩:=hok' b _ z2;rw[e]at e1;cases e1;exact e2
 cases hk:K.lookup a with
 |some o=>
  have e:=KX a o hk;rw[ha]at e;cases e;refine core (λ_=>none) (λ_=>.inl rfl) (.inr ⟨_,vs.toArray,_,hk,rfl,rfl,rfl,by rw[List.size_toArray,lenV];exact hl,by simpa using rv⟩) (λb u z=>by have z':(none:Option HO)=some u:=z;cases z') (λb z=>absurd rfl z) λz=>absurd rfl z
 | none=>
  refine core (λb=>if b=a then some (.frz {cls:=.type "list",data:=.seq vs.toArray} (.lst (ns.map V.int))) else none) (λb=>?_) (.inl (.inr ⟨{cls:=.type "list",data:=.seq vs.toArray},if_pos rfl⟩)) (λb u z=>?_) (λb z=>?_) λ_=>hk
  ·by_cases hb:b=a
   ·exact .inr ⟨_,_,if_pos hb⟩
   ·exact .inl (if_neg hb)
  ·by_cases hb:b=a
   ·have z':=(if_pos hb).symm.trans z
    cases z';subst hb;exact⟨ha,by rw[zLM];exact hl,vs,_,rv,ha⟩
   ·have z':=(if_neg hb).symm.trans z
    cases z'
  ·by_cases hb:b=a
   ·exact hb
   ·exact absurd (if_neg hb) z
abbrev KOf{K:Fg}{h:Heap}(_:K.In h):Fg:=K
theorem walk_of {l:PySem.W.OpenLaw} {n k:Nat} {q:Program} {loose:List Str} {XP:(Str->Option Value)->Heap->Prop} {YP:World->Heap->Prop} {d:DefRec} {K:Params->Fg} {CX:World->CXT} {sp:World->Sp} {x:Str}
  (hn:l.most=some n) (hn2:n<=sizeLine) (hdf:d.params.defaults=[]) (hr:Room k callerA)
  (hY:∀(w:World) (h:Heap),YP w h->(K w.params).In h)
  (F:∀(w:World) (mg:Str->Option Value) (fa:Addr) (h:Heap),(K w.params).In h->h.Ns mainGlobals mg->mg d.name=some (.ref fa)->
   ∃fd:FuncData,(∀(s:Shared) (u:Value),BindsTo s fd ⟨[u],[]⟩ [(x,u)]) ∧
    ∀base:Heap,(K w.params).In base->base.Ns mainGlobals mg->FnOk l.prog w (K w.params) mg base (CX w) k fa fd [x] (sp w))
  (hsp:∀(w:World) (H:Hp) (a:Addr) (ns:List Int),ns.length<=n->Only H->SqL (K w.params) H a (ns.map V.int)->sp w [.ref a] H (λv _=>v=.bl true) λ_ _ _=>False)
  (hCX:∀(w:World) (H:Hp) (s:Shared) (e:Value) (s':Shared),CX w [] H s (λ_ _ _=>False) e s'->False) :
  PySem.W.WalkO q loose XP YP l.row.toRowW d [] (λf vs=>PySem.call f vs):=by
 refine Att.attach_call hn hdf λw s₀ s₁ mg mb fa o pm cd doc a vs ns G Y ho hd hcd hmg hobj hints hlen hg=>?_;have KX:=hY w _ Y;obtain⟨fd,hb,hF⟩:=F w mg fa _ KX G.T.g hmg;exact xpu KX G.T.g G.T.b G.T.builtins G.T.nolimit hg hobj hints (Nat.le_trans hlen hn2) hr hF hb (λH hO hS=>hsp w H a ns hlen hO hS) λH e s'=>hCX w H s₁ e s'
def xdm(s:Stmt):Arguments:=match s with
 |.FunctionDef _ a _ _ _ _ _ _ _ _=>a
 |_=>{posonlyargs:=[],args:=[],vararg:=none,kwonlyargs:=[],kw_defaults:=[],kwarg:=none,defaults:=[]}
def xcw(s:Stmt):List Stmt:=match s with
 |.FunctionDef _ _ b _ _ _ _ _ _ _=>b
 |_=>[]
def xab(s:Stmt):Scope:=match s with
 |.FunctionDef _ _ _ _ _ _ sc _ _ _=>sc
 |_=>{kind:=.function,names:=[],isGenerator:=false,isCoroutine:=false}
abbrev CX0:CXT:=λ_ _ _ _ _ _=>False
abbrev E0:XK:=λ_ _ _=>False
theorem xs7{X:Cx}:xjd CX0 X E0:=λ_ _ _ _ _ _ _ h=>h.elim
structure Fun(K:Fg)(x qual:Str)(st:Stmt)(f:Addr)(fd:FuncData):Prop where
 ex:∃(oc:Value) (od:Option Addr) (kV doc pm:Value) (an:Option Addr) (cdv ct:Value) (osl:Array (Option Value)),
  fd=PySem.W.fnOf x qual (xdm st) (xcw st) (xab st) .none kV doc pm an cdv ct/\K.lookup f=some ⟨oc,od,.func fd,osl⟩/\PySem.W.codeIn K cdv qual=true
 kp:PySem.W.keepIn K (.ref f)=true
section
variable {P:Program}{w:World}{K:Fg}{mg:Str->Option Value}{base:Heap}
theorem Fun.ok {x qual:Str} {st:Stmt} {f:Addr} {fd:FuncData} {N ps:List Str} {k:Nat} {sp:Sp} (F:Fun K x qual st f fd) (S:FnScope N ps (xab st)) (len:∀vs H Q E,sp vs H Q E->vs.length=ps.length)
  (hbody:∀(cdv:Value) (A:Around) (outer:List Env) (s:Shared) (H:Hp) (vs:List V) (Q:VK) (E:XK),Room k (A.deeper (envOfC qual (xab st) s.heap.objs.size f cdv))->sp vs H Q E->
   ∃t,PSs (cxOf CX0 P w K mg base N qual (xab st) f cdv A outer s H E).nox (xcw st) t/\t {nx:=λ_ H'=>Q .non H',rt:=Q} (xfj N vs) H):FnOk P w K mg base CX0 (k+1) f fd ps sp:=by
 obtain⟨oc,od,kV,doc,pm,an,cdv,ct,osl,rfl,lk,hcd⟩:=F.ex;refine xtr lk hcd S len λA outer s H vs Q E hr hsp=>?_;obtain⟨t,h,q⟩:=hbody cdv A outer s H vs Q E hr hsp;exact⟨t,h.nox,q⟩
theorem xtq {x a:Str} {st:Stmt} {f:Addr} {j:Value} {od i:Option Addr} {g:Array (Option Value)} {kV e h b ct:Value} (l:K.lookup f=some ⟨j,od,.func (PySem.W.fnOf x a (xdm st) (xcw st) (xab st) .none kV e h i b ct),g⟩)
  (c:PySem.W.codeIn K b a=true) (k:PySem.W.keepIn K (.ref f)=true):Fun K x a st f (PySem.W.fnOf x a (xdm st) (xcw st) (xab st) .none kV e h i b ct):=⟨⟨j,od,kV,e,h,i,b,ct,g,rfl,l,c⟩,k⟩
end
theorem xdl{A:Around}{k:Nat}(a:Room k A):A.units+1<cLine:=Nat.lt_of_le_of_lt (Nat.add_le_add_left (by decide:1<=64) _) a.units
section
variable {X:Cx}
theorem pv (i:Nat) {x:Str} {pos:Pos} (c:X.N[i]?=some x:=by rfl) (b:Vis X.env.scope x:=by first |exact Or.inl rfl |exact Or.inr (Or.inl rfl) |exact Or.inr (Or.inr rfl)) (hd:(x == ("__debug__":Str))=false:=by decide)
  (a:(x == ("__classdict__":Str))=false:=by decide):PE X (.Name x pos) (tVar i):=xs3 c b hd a
end
theorem iteF{A B:Prop}(h:B):if false=true then A else B:=by
 rw[if_neg Bool.false_ne_true];exact h
theorem iteT{A B:Prop}(h:A):if true=true then A else B:=by
 rw[if_pos rfl];exact h
theorem ite2{c A B:Prop}[Decidable c](h1:c->A)(h2:¬c->B):if c then A else B:=by
 by_cases h:c
 ·rw[if_pos h]
  exact h1 h
 ·rw[if_neg h]
  exact h2 h
theorem xmi{c A B:Prop}[Decidable c](a:c)(h:B):if (!decide c)=true then A else B:=by
 rw[zDT a];exact iteF h
def Same(H H':Hp):Prop:=∀b o,H b=some o->H' b=some o
theorem Same.refl(H:Hp):Same H H:=λ_ _ h=>h
theorem Same.trans{H H1 H2:Hp}(a:Same H H1)(b:Same H1 H2):Same H H2:=λc o h=>b c o (a c o h)
theorem Same.seq{K:Fg}{H H':Hp}{a:Addr}{xs:List V}(e:Same H H')(h:SqL K H a xs):SqL K H' a xs:=by
 rcases h with(h |⟨o,h⟩) |h
 ·exact .inl (.inl (e _ _ h))
 ·exact .inl (.inr ⟨o,e _ _ h⟩)
 ·exact .inr h
def clOf(env:Env):List (Str×NameKind)->List (Str×Addr)->List (Str×Addr)
 |[],cs=>cs
 |(n,k)::r,cs=>clOf env r (if k == .free then match env.cells.lookup n with |some a=>(n,a)::cs |none=>cs else cs)
theorem xi5{env:Env}{x:Str}{c:Addr}:∀{ns:List (Str×NameKind)} {cs:List (Str×Addr)},(∀p∈cs,env.cells.lookup p.1=some p.2)->(clOf env ns cs).lookup x=some c->env.cells.lookup x=some c
 |[],cs,h,e=>by
  unfold clOf at e;exact h (x,c) (PySem.mem_of_lookup e)
 | (n,k)::r,cs,h,e=>by
  unfold clOf at e;refine xi5 (ns:=r) ?_ e;intro p b;split at b
  ·split at b
   ·rename_i a f
    rcases zMC b with rfl |b
    ·exact f
    ·exact h p b
   ·exact h p b
  ·exact h p b
theorem xed{x:Str}:∀{cs:List (Str×Addr)},(∃c,(x,c)∈cs)->∃c,cs.lookup x=some c
 |[],⟨_,h⟩=>nomatch h
 | (n,a)::r,⟨c,h⟩=>by
  rw[List.lookup_cons]
  cases e:x == n with
  |true=>exact⟨a,rfl⟩
  | false=>
   rcases zMC h with h |h
   ·cases h
    rw[beq_self_eq_true]at e;cases e
   ·exact xed ⟨c,h⟩
theorem xlm{env:Env}{x:Str}:∀{ns:List (Str×NameKind)} {cs:List (Str×Addr)},((∃c,(x,c)∈cs)\/((x,NameKind.free)∈ns/\∃c,env.cells.lookup x=some c))->∃c,(x,c)∈clOf env ns cs
 |[],cs,h=>by
  unfold clOf;rcases h with h |⟨h,_⟩
  ·exact h
  ·cases h
 | (n,k)::r,cs,h=>by
  unfold clOf;refine xlm (ns:=r) ?_;rcases h with⟨c,h⟩ |⟨h,c,a⟩
  ·refine .inl ⟨c,?_⟩
   split
   ·split
    ·exact List.mem_cons_of_mem _ h
    ·exact h
   ·exact h
  ·rcases zMC h with h |h
   ·cases h
    refine .inl ⟨c,?_⟩;rw[if_pos (by decide),a];exact List.mem_cons_self
   ·exact .inr ⟨h,c,a⟩
theorem xew{a:Scope}{env:Env}(h:∀p∈a.names,p.2=NameKind.free->∃c,env.cells.lookup p.1=some c):closureFor a env=pure (clOf env a.names []):=by
 have go:∀(ns:List (Str×NameKind)) (cs:List (Str×Addr)),(∀p∈ns,p.2=NameKind.free->∃c,env.cells.lookup p.1=some c)->
   (forIn ns cs λ(x:Str×NameKind) (r:List (Str×Addr))=>(if (x.2 == NameKind.free)=true then do
     let y <- cellOf env x.1
     pure (ForInStep.yield ((x.1,y)::r)) else pure (ForInStep.yield r):Sem (ForInStep (List (Str×Addr)))))=(pure (clOf env ns cs):Sem (List (Str×Addr))):=by
  intro ns
  induction ns with
  |nil=>intro cs _;rfl
  | cons p r f=>
   intro cs e;obtain⟨n,k⟩:=p;rw[List.forIn_cons];unfold clOf;by_cases g:k=NameKind.free
   ·subst g
    obtain⟨c,i⟩:=e (n,.free) List.mem_cons_self rfl;have l:cellOf env n=pure c:=by unfold cellOf;rw[i]
    simp only[beq_self_eq_true,if_true,l,i,pure_bind];exact f _ λq b=>e q (List.mem_cons_of_mem _ b)
   ·have j:(k == NameKind.free)=false:=by simpa using g
    simp only[j,Bool.false_eq_true,if_false,pure_bind];exact f _ λq b=>e q (List.mem_cons_of_mem _ b)
 unfold closureFor;have:=go a.names [] h;simp only[bind_pure_comp,id_map']at this⊢;rw[this];rfl
theorem xcs {env:Env} {x:Str} {k':NameKind}:∀{ns:List (Str×NameKind)},
  (ns.map λ(n,k)=>if (k == NameKind.free && env.scope.kind == .function && env.kindOf n == some .cell) then (n,NameKind.cell) else (n,k)).lookup x=some k'->
  ∃k,ns.lookup x=some k/\(k'=k\/(k=.free/\k'=.cell))
 |[],h=>by simp at h
 | (n,k)::r,h=>by
  have h':List.lookup x ((if (k == NameKind.free && env.scope.kind == .function && env.kindOf n == some .cell)=true then (n,NameKind.cell) else (n,k))::(r.map λ(n,k)=>if (k == NameKind.free && env.scope.kind == .function && env.kindOf n == some .cell) then (n,NameKind.cell) else (n,k)))=some k':=h;rw[List.lookup_cons];by_cases a:(k == NameKind.free && env.scope.kind == .function && env.kindOf n == some .cell)=true
  ·rw[if_pos a,List.lookup_cons]at h'
   cases e:x == n with
   |true=>
    rw[e]at h';cases h';refine⟨k,rfl,.inr ⟨?_,rfl⟩⟩;rw[Bool.and_eq_true,Bool.and_eq_true]at a;exact eq_of_beq a.1.1
   |false=>
    rw[e]at h';exact xcs h'
  ·rw[if_neg a,List.lookup_cons]at h'
   cases e:x == n with
   |true=>
    rw[e]at h';cases h';exact⟨_,rfl,.inl rfl⟩
   |false=>
    rw[e]at h';exact xcs h'
theorem xeg {env:Env} {x:Str} {k:NameKind}:∀{ns:List (Str×NameKind)},ns.lookup x=some k->
  ∃k',(ns.map λ(n,k)=>if (k == NameKind.free && env.scope.kind == .function && env.kindOf n == some .cell) then (n,NameKind.cell) else (n,k)).lookup x=some k'/\(k'=k\/(k=.free/\k'=.cell))
 |[],h=>by simp at h
 | (n,b)::r,h=>by
  show ∃k',List.lookup x ((if (b == NameKind.free && env.scope.kind == .function && env.kindOf n == some .cell)=true then (n,NameKind.cell) else (n,b))::(r.map λ(n,k)=>if (k == NameKind.free && env.scope.kind == .function && env.kindOf n == some .cell) then (n,NameKind.cell) else (n,k)))=some k'/\_;rw[List.lookup_cons]at h;by_cases a:(b == NameKind.free && env.scope.kind == .function && env.kindOf n == some .cell)=true
  ·rw[if_pos a,List.lookup_cons]
   cases e:x == n with
   |true=>
    rw[e]at h;cases h;refine⟨_,rfl,.inr ⟨?_,rfl⟩⟩;rw[Bool.and_eq_true,Bool.and_eq_true]at a;exact eq_of_beq a.1.1
   |false=>
    rw[e]at h;exact xeg h
  ·rw[if_neg a,List.lookup_cons]
   cases e:x == n with
   |true=>
    rw[e]at h;cases h;exact⟨_,rfl,.inl rfl⟩
   |false=>
    rw[e]at h;exact xeg h
abbrev Cap:=List (Option Nat)
def capt(ix:Cap)(σ:St):St:=ix.map λo=>(o.bind λj=>σ[j]?).join
def xp5(N N':List Str)(sc sc':Scope)(ix:Cap):Bool:=
 (ix.length == N'.length) && (sc'.kind == .function) &&
 (sc'.names.all λp=>p.2 != .cell && (p.2 != .local || sc'.names.lookup p.1 == some .local) && (p.2 != .free || (sc.names.lookup p.1 == some .cell || sc.names.lookup p.1 == some .free))) &&
 (List.range ix.length).all λk=>match ix[k]? with
  |some (some j)=>match N'[k]? with
   |some x=>N[j]? == some x && sc'.names.lookup x == some .free
   |none=>false
  |_=>true
structure CapOk(N N':List Str)(sc sc':Scope)(ix:Cap):Prop where
 len:ix.length=N'.length
 kind:sc'.kind=.function
 nocell:∀p∈sc'.names,p.2≠.cell
 loc:∀p∈sc'.names,p.2=.local->sc'.names.lookup p.1=some .local
 fre:∀p∈sc'.names,p.2=.free->sc.names.lookup p.1=some .cell\/sc.names.lookup p.1=some .free
 cap:∀(k j:Nat),ix[k]?=some (some j)->∃x,N'[k]?=some x/\N[j]?=some x/\sc'.names.lookup x=some .free
theorem xlo{N g:List Str}{i a:Scope}{ix:Cap}(h:xp5 N g i a ix=true):CapOk N g i a ix:=by
 unfold xp5 at h;simp only[Bool.and_eq_true,List.all_eq_true,beq_iff_eq]at h;obtain⟨⟨⟨s,r⟩,f⟩,o⟩:=h;refine⟨s,r,λp b=>?_,λp b m=>?_,λp b n=>?_,λk j l=>?_⟩
 ·have:=(f p b).1.1
  simpa using this
 ·have:=(f p b).1.2
  rw[m]at this;simpa using this
 ·have:=(f p b).2
  rw[n]at this;simpa using this
 ·have c:k<ix.length:=(zES l).1
  have:=o k (List.mem_range.mpr c);rw[l]at this;simp only at this
  cases e:g[k]? with
  |none=>rw[e]at this;simp at this
  |some x=>
   rw[e]at this;simp only[Bool.and_eq_true,beq_iff_eq]at this;exact⟨x,rfl,this.1,this.2⟩
abbrev Cx.comp(X:Cx)(sc:Scope)(N':List Str)(C:Addr)(s₀:Shared)(H₀:Hp)(ex:List Addr):Cx:=
 {X with N:=N',s₀:=s₀,H₀:=H₀,env:=compEnvC sc (clOf X.env sc.names []) C X.env,outer:=X.stack,stack:=X.stack,ex:=ex,fn:=λ_=>false,pn:=[],xe:=λ_ _=>False}
def Ext(σ σ':St):Prop:=σ.length=σ'.length/\∀(i:Nat) v,σ[i]?=some (some v)->σ'[i]?=some (some v)
theorem xgi{σ:St}{i:Nat}{v:Option V}(h:σ[i]?=some none):Ext σ (σ.set i v):=by
 refine⟨by simp,λj w e=>?_⟩;by_cases a:i=j
 ·subst a;rw[h]at e;cases e
 ·rw[List.getElem?_set_ne a];exact e
def PTs(X:Cx)(ifs:List Expr)(t:TT):Prop:=
 ∀(pins:List (Addr×Obj)) (s:Shared) (σ:St) (H:Hp) (Q:Bool->Hp->Prop),Inv X pins σ H s->t σ H Q->
  wpAny (model X.prog X.w) X.A (forIn ifs true λc r=>if r=true then do let ok <- isTrue c X.env (eval c X.env);pure (ForInStep.yield ok) else pure (ForInStep.yield r)) (TP X pins σ Q) X.xe s
def tYes:TT:=λ_ H Q=>Q true H
theorem xbl{X:Cx}:PTs X [] tYes:=λ_ _ _ H _ I h=>wpAny_tests_nil ⟨H,I,h⟩
theorem xe2{X:Cx}{c:Expr}{t:TT}(h:PT X c t):PTs X [c] t:=λa s σ H Q I b=>wpAny_tests_one (h a s σ H Q I b)
def xfh(J:It)(ix:Cap)(g:TG)(tt:TT)(te:TE)(σ:St)(H1:Hp)(Q:VK):Prop:=∃W:Nat->Nat->List V->Hp->Prop,(∃m,W 0 m [] H1)/\∀i m ys H,W i m ys H->
 (J.stop i H/\∀D,H D=none->Q (.ref D) (upd H D (.lst ys))) ∨
 (J.go i H/\ys.length<sizeLine/\∀x H',J.yld i H x H'->g x (capt ix σ) H' λσ2 H2=>Ext (capt ix σ) σ2/\tt σ2 H2 λb H3=>
  if b=true then te σ2 H3 λy H4=>∃m',m'<m/\W (i+1) m' (ys++[y]) H4 else ∃m',m'<m/\W (i+1) m' ys H3)
def xsg(ix:Cap)(wi:TI)(g:TG)(tt:TT)(te:TE):TE:=λσ H Q=>wi σ H λJ H1=>xfh J ix g tt te σ H1 Q
theorem HOk.track{P:Program}{w:World}{H:Hp}{h:Heap}{a:Addr}{o:HO}(x:HOk P w H h)(hn:H a=none)(new:ObjOk P w (upd H a o) h a o):HOk P w (upd H a o) h:=λb u e=>by
 by_cases f:b=a
 ·subst f;rw[ups]at e;cases e;exact new
 ·rw[xai f]at e
  exact(x b u e).stay (λc v _ q=>q) (λc q=>by rw[xai (neN q hn)];exact q) λc xs q=>by rw[xai (neN q hn)];exact q
theorem xd9 {prog:Program} {w:World} {A:Around} {R:Result->Shared->Prop} {s:Shared} {j a g:Expr} {i:List Expr} {b:Scope} {pos:Pos} {it acc:Value} {env:Env} (I:Nat->Shared->Prop)
  (l:∀ n s,I n s->wpAny (model prog w) A (pyNext it) (λr u=>match r with
   |none=>R (.ok .next) u
   | some v=>wpAny (model prog w) A (letOwnedTupleGo a it v) (λ_ o=>wpAny (model prog w) A (assign a env v) (λ_ G=>
     wpAny (model prog w) A (forIn i true λc r=>if r=true then do let ok <- isTrue c env (eval c env);pure (ForInStep.yield ok) else pure (ForInStep.yield r)) (λok p=>
      if ok=true then wpAny (model prog w) A (eval j env) (λx C=>
       wpAny (model prog w) A (call (.builtin "list.append") [acc,x]) (λ_ z=>∃m,m<n/\I m z) (notedBy (model prog w) A env λe f=>R (.error e) f) C) (notedBy (model prog w) A env λe f=>R (.error e) f) p
      else ∃m,m<n/\I m p) (notedBy (model prog w) A env λe f=>R (.error e) f) G) (notedBy (model prog w) A env λe f=>R (.error e) f) o) (notedBy (model prog w) A env λe f=>R (.error e) f) u) (notedBy (model prog w) A env λe f=>R (.error e) f) s)
  (n:Nat) (h:I n s) :
  codeAny (model prog w) A (.compLoop (.ListComp j [⟨a,g,i,0⟩] b pos) 0 it acc env) R s:=by
 refine codeAny_loop rfl I (λn s Y=>?_) n h;show wpAny _ A ((compTurn (.ListComp j [⟨a,g,i,0⟩] b pos) 0 it acc env).onRaise (λx=>do noteFrame x env;theTreesLotGoes x)) _ _ s;refine wpAny_noted ?_;rw[compTurn_list];refine wpAny_bind (wpAny_standAt (wpAny_bind (wpAny_mono (l n s Y) (λr u h₁=>?_) λ_ _ h'=>h')))
 cases r with
 |none=>exact wpAny_pure h₁
 | some v=>
  refine wpAny_bind (wpAny_mono h₁ (λ_ o y=>?_) λ_ _ h'=>h');refine wpAny_bind (wpAny_mono y (λ_ G U=>wpAny_bind (wpAny_mono U (λok p J=>?_) λ_ _ h'=>h')) λ_ _ h'=>h')
  cases ok with
  |false=>exact wpAny_pure ⟨rfl,J⟩
  |true=>
   exact wpAny_bind (wpAny_bind (wpAny_mono J (λx C O=>wpAny_bind (wpAny_mono O (λ_ z M=>wpAny_pure (wpAny_pure ⟨rfl,M⟩)) λ_ _ h'=>h')) λ_ _ h'=>h'))
section
variable {X:Cx}
theorem xgu{M:Model}{A:Around}{α:Type}{t:Sem α}{Q:α->Shared->Prop}{E:Value->Shared->Prop}{s:Shared}(h:wpAny M A t Q (λ_ _=>False) s):wpAny M A t Q E s:=wpAny_mono h (λ_ _ q=>q) λ_ _ z=>z.elim
theorem xgy {elt tg iter:Expr} {ifs:List Expr} {sc:Scope} {pos:Pos} {N':List Str} {ix:Cap} {g:TG} {tt:TT} {te:TE} {pins:List (Addr×Obj)} {σ:St} {s:Shared} {Q:VK} {RR:Value->Addr->Result->Shared->Prop} {E:Value->Shared->Prop}
  {itv:Value} (hc:X.calm=true) (ok:CapOk X.N N' X.env.scope sc ix)
  (hg:∀C s₀ H₀ ex,PG (X.comp sc N' C s₀ H₀ ex) tg g) (ht:∀C s₀ H₀ ex,PTs (X.comp sc N' C s₀ H₀ ex) ifs tt) (he:∀C s₀ H₀ ex,PE (X.comp sc N' C s₀ H₀ ex) elt te)
  (hi:PIE X pins σ tg (λJ H1=>xfh J ix g tt te σ H1 Q) itv s)
  (fin:∀(D C:Addr) (s':Shared) (H':Hp) (m:Str->Option Value),Inv X pins σ H' s'->Q (.ref D) H'->s'.heap.Ns C m->H' C=none->C≠X.env.locals->X.s₀.heap.objs.size<=C->(∀x c,X.env.cells.lookup x=some c->c≠C)->(∀p∈X.pn++pins,p.1≠C)->
   RR (.ref D) C (.ok .next) s') :
  wpAny (model X.prog X.w) X.A (newList []) (λacc s₃=>wpAny (model X.prog X.w) X.A (newFunctionEnv sc X.env.globals (clOf X.env sc.names []) [] X.env.qual none .none (some X.env)) (λcenv s₄=>
   codeAny (model X.prog X.w) X.A (.compStart (.ListComp elt [⟨tg,iter,ifs,0⟩] sc pos) 0 itv acc {cenv with scope:=relabel sc X.env}) (RR acc cenv.locals) s₄) E s₃) E s:=by
 obtain⟨it,fp,tn,J,H2,rfl,I2,T,st2,f2,W,⟨m0,w0⟩,turn⟩:=hi;refine wpAny_newObj_type (wpAny_newFunctionEnv ok.nocell (by intro y hy;simp at hy) (λh₁ hns₁ hsb₁=>?_) ok.kind);dsimp only at hns₁ hsb₁⊢;generalize hHD:s.heap.push {cls:=.type "list",dict:=none,data:=.seq ([]:List Value).toArray}=hD at hns₁ hsb₁⊢;have hCs:hD.objs.size=s.heap.objs.size+1:=by rw[<- hHD,Heap.size_push]
 have upC:s.heap.objs.size<hD.objs.size:=by rw[hCs];exact Nat.lt_succ_self _
 have hDC:s.heap.objs.size≠hD.objs.size:=by rw[hCs];exact Nat.ne_of_lt (Nat.lt_succ_self _)
 have below:∀b o,s.heap.get? b=some o->b≠hD.objs.size/\b≠s.heap.objs.size:=λb o e=>by
  have:=Heap.lt_size e;exact⟨Nat.ne_of_lt (by rw[hCs];exact Nat.lt_succ_of_lt this),Nat.ne_of_lt this⟩
 have old:∀b o,s.heap.get? b=some o->h₁.get? b=some o:=λb o e=>hsb₁.extBut b o (below b o e).1 (zPO _ (hHD ▸ zPO _ e));have hacc:h₁.get? s.heap.objs.size=some {cls:=.type "list",data:=.seq ([]:List Value).toArray 0}:=hsb₁.extBut _ _ hDC (zPO _ (hHD ▸ Heap.get?_push_size _ rfl));have fpo:∀b∈fp,b<s.heap.objs.size:=λb hb=>let ⟨o,e,_⟩:=T.obj _ _ st2 b hb;Heap.lt_size e;have cellX:∀x c,(clOf X.env sc.names []).lookup x=some c->X.env.cells.lookup x=some c:=λx c e=>xi5 (λp hp=>absurd hp (by simp)) e;have cellLt:∀x c,X.env.cells.lookup x=some c->c<s.heap.objs.size:=λx c e=>let ⟨v,z⟩:=I2.cell x c e;z.lt
 have hasC:∀x,(x,NameKind.free)∈sc.names->∃c,(clOf X.env sc.names []).lookup x=some c:=λx hx=>by
  have h1:=I2.ok.has x (ok.fre (x,.free) hx rfl);exact xed (xlm (.inr ⟨hx,h1⟩))
 have okX:(X.comp sc N' hD.objs.size s H2 fp).Ok:=by
  refine⟨I2.ok.mod,ok.kind,I2.ok.glob,I2.ok.blt,?_,?_,?_,?_,I2.ok.hd,I2.ok.frames,.inl rfl,?_,I2.bs,Nat.le_trans I2.ok.bsz I2.sz,?_,?_,I2.stack,I2.stkFree⟩
  ·exact Nat.le_of_lt upC
  ·intro x y c h1 h2
   exact I2.ok.inj x y c (cellX x c h1) (cellX y c h2)
  ·intro x hx
   have hx':(relabel sc X.env).names.lookup x=some .cell\/(relabel sc X.env).names.lookup x=some .free:=hx
   have:∃k,sc.names.lookup x=some k/\(k=.free\/k=.cell):=by
    rcases hx' with h |h
    ·obtain⟨k,e,z⟩:=xcs h
     rcases z with z |⟨z,_⟩
     ·exact⟨k,e,.inr z.symm⟩
     ·exact⟨k,e,.inl z⟩
    ·obtain⟨k,e,z⟩:=xcs h
     rcases z with z |⟨_,z⟩
     ·exact⟨k,e,.inl z.symm⟩
     ·cases z
   obtain⟨k,e,z⟩:=this;rcases z with rfl |rfl
   ·exact hasC x (PySem.mem_of_lookup e)
   ·exact absurd rfl (ok.nocell _ (PySem.mem_of_lookup e))
  ·intro x c h _
   cases h
  ·intro b hb
   refine⟨?_,λx c e=>(f2 b hb).2.2.2.2.1 x c (cellX x c e)⟩;exact Nat.ne_of_lt (by rw[hCs];exact Nat.lt_succ_of_lt (fpo b hb))
  ·intro b o e hb
   rcases(f2 b hb).2.2.2.1 with z |z
   ·exact I2.ok.noex b o e z
   ·exact absurd (Nat.lt_of_lt_of_le (Heap.lt_size (I2.ok.bs b o e).1) z) (Nat.lt_irrefl _)
  ·intro b hb z
   rcases zMC (I2.stkSub b z) with z |z
   ·exact(f2 b hb).2.1 z
   ·exact(f2 b hb).2.2.1 z
 have hnD:H2 s.heap.objs.size=none:=I2.hok.fresh (Nat.le_refl _);have hnC:H2 hD.objs.size=none:=I2.hok.fresh (Nat.le_of_lt upC)
 have nofsD:∀a,s.heap.objs.size<=a->a ∉frs X.stack:=λa ha z=>by
  rcases zMC (I2.stkSub a z) with z |z
  ·exact absurd (Nat.lt_of_lt_of_le I2.lt ha) (by rw[z];exact Nat.lt_irrefl _)
  ·exact I2.nofs ha z
 have xfj:Inv (X.comp sc N' hD.objs.size s H2 fp) [(s.heap.objs.size,{cls:=.type "list",data:=.seq ([]:List Value).toArray 0})] (capt ix σ) H2 {s with heap:=h₁,toks:=s.toks+([]:List (Str×Value)).length}:=by
  refine⟨okX,rfl,I2.bare,Un.kept old,⟨_,hns₁,?_⟩,λx c e=>?_,hnC,λx c e=>I2.freeC x c (cellX x c e),λp hp=>?_,I2.hok.kept old,?_⟩
  ·intro i x v hN hv hvis
   have hl:i<ix.length:=by rw[ok.len];exact(zES hN).1
   have hv':(ix.map λo=>(o.bind λj=>σ[j]?).join)[i]?=some (some v):=hv;rw[zGM,zGA hl]at hv';have hv'':((ix[i].bind λj=>σ[j]?).join)=some v:=Option.some.inj hv'
   cases ej:ix[i] with
   |none=>rw[ej]at hv'';cases hv''
   | some j=>
    rw[ej]at hv''
    have hσ:σ[j]?=some (some v):=by
     have z:(σ[j]?).join=some v:=hv''
     cases q:σ[j]? with
     |none=>rw[q]at z;cases z
     |some o=>rw[q]at z;exact congrArg some z
    obtain⟨x',e1,e2,e3⟩:=ok.cap i j (by rw[zGA hl,ej]);rw[show N'[i]?=some x from hN]at e1;cases e1;have hk:=ok.fre (x,.free) (PySem.mem_of_lookup e3) rfl;obtain⟨m,hm,hl'⟩:=I2.loc;obtain⟨u,ru,lk⟩:=hl' j x v e2 hσ (hk.elim (λz=>.inr (.inl z)) λz=>.inr (.inr z));refine⟨u,ru,.inr ⟨?_,?_⟩⟩
    ·show(relabel sc X.env).names.lookup x=some .cell\/(relabel sc X.env).names.lookup x=some .free
     obtain⟨k',q1,q2⟩:=xeg (env:=X.env) e3;rcases q2 with q2 |⟨_,q2⟩
     ·exact .inr (q1.trans (congrArg some q2))
     ·exact .inl (q1.trans (congrArg some q2))
    ·obtain⟨c,hc'⟩:=hasC x (PySem.mem_of_lookup e3)
     refine⟨c,hc',?_⟩;rcases lk with⟨z,_⟩ |⟨_,c',ec,⟨o,ho,hd⟩⟩
     ·have z':X.env.scope.names.lookup x=some .local:=z
      rcases hk with hk |hk
      ·rw[z']at hk;cases hk
      ·rw[z']at hk;cases hk
     ·rw[cellX x c hc']at ec
      cases ec;exact⟨o,old _ _ ho,hd⟩
  ·obtain⟨v,o,ho,hd⟩:=I2.cell x c (cellX x c e)
   exact⟨v,o,old _ _ ho,hd⟩
  ·have e:p=(s.heap.objs.size,{cls:=.type "list",data:=.seq ([]:List Value).toArray 0}):=by simpa using hp
   subst e;exact⟨hacc,hnD,hDC,nofsD _ (Nat.le_refl _),λv z=>by cases z⟩
  ·show(ix.map _).length=N'.length
   rw[zLM];exact ok.len
 have st1:tn 0 h₁:=T.keep _ _ _ st2 λb hb o e=>old b o e
 have loop:∀s₃:Shared,s₃={s with heap:=h₁,toks:=s.toks+([]:List (Str×Value)).length}->
   codeAny (model X.prog X.w) X.A (.compLoop (.ListComp elt [⟨tg,iter,ifs,0⟩] sc pos) 0 (.ref it) (.ref s.heap.objs.size) (compEnvC sc (clOf X.env sc.names []) hD.objs.size X.env))
    (RR (.ref s.heap.objs.size) hD.objs.size) s₃:=by
  rintro s₃ rfl
  have fpI:∀{H':Hp} {o:Obj},(∀b∈fp,H' b=none)->∀b∈fp,FpOk (X.comp sc N' hD.objs.size s H2 fp) [(s.heap.objs.size,o)] H' b:=λ{H' o} hn b hb=>by
   have hlt:=fpo b hb;refine⟨hn b hb,(okX.exf b hb).1,okX.exfs b hb,.inl hb,(okX.exf b hb).2,λp hp=>?_⟩;have e:p=(s.heap.objs.size,o):=by simpa using hp
   subst e;exact Nat.ne_of_gt hlt
  refine xd9 (λn s'=>∃i ys its k H',Inv (X.comp sc N' hD.objs.size s H2 fp) [(s.heap.objs.size,{cls:=.type "list",data:=.seq its.toArray k})] (capt ix σ) H' s'/\Vals ys its/\ys.length<=sizeLine/\tn i s'.heap/\(∀b∈fp,H' b=none)/\W i n ys H')
   ?_ m0 ⟨0,[],[],0,H2,xfj,.nil,Nat.zero_le _,st1,λb hb=>(f2 b hb).1,w0⟩
  rintro n s4 ⟨i,ys,its,k,H4,I4,r4,z4,st4,fr4,w4⟩;rcases turn i n ys H4 w4 with⟨stop,q⟩ |⟨go,hz,step⟩
  ·refine xgu (thn (T.done (X.comp sc N' hD.objs.size s H2 fp) rfl rfl rfl hc i _ s4 _ H4 (λ_ _=>False) I4 (fpI fr4) st4 stop) λr s5 ⟨hr,I5⟩=>?_)
   subst hr;show RR (.ref s.heap.objs.size) hD.objs.size (.ok .next) s5;obtain⟨pD,nD,_,_,_⟩:=I5.pin (s.heap.objs.size,{cls:=.type "list",data:=.seq its.toArray k}) (by simp);obtain⟨m5,hm5,_⟩:=I5.loc;have okD:HOk X.prog X.w (upd H4 s.heap.objs.size (.lst ys)) s5.heap:=I5.hok.track nD ⟨z4,its,k,r4,pD⟩
   have un:Un (frs X.stack) fp H2 (upd H4 s.heap.objs.size (.lst ys)) s.heap s5.heap:=by
    have B:Un (frs X.stack) fp H2 H4 s.heap s5.heap:=I5.base;have ne:∀b u,H2 b=some u->b≠s.heap.objs.size:=λb u e=>neN e hnD;refine⟨B.keep,B.slot,λb o e n hb=>?_,B.there,λb xs e=>?_,λb o u e=>?_,λb ps e=>?_⟩
    ·rw[xai (below b o e).2];exact B.free b o e n hb
    ·rw[xai (ne b _ e)];exact B.tups b xs e
    ·rw[xai (ne b _ e)];exact B.frzs b o u e
    ·rw[xai (ne b _ e)];exact B.tbls b ps e
   have IX:Inv X pins σ (upd H4 s.heap.objs.size (.lst ys)) s5:=I2.call' (ch:=fp) I5.os un okD I5.bare λb hb=>⟨(f2 b hb).2.2.2.1,(f2 b hb).2.1,(f2 b hb).2.2.2.2.1,(f2 b hb).2.2.2.2.2⟩;refine fin _ _ s5 _ m5 IX (q _ nD) hm5 ?_ (Nat.ne_of_gt (Nat.lt_trans I2.lt upC)) (Nat.le_of_lt (Nat.lt_of_le_of_lt I2.sz upC)) (λx c e=>Nat.ne_of_lt (Nat.lt_trans (cellLt x c e) upC)) (λp hp=>Nat.ne_of_lt (Nat.lt_trans (Heap.lt_size (I2.pin p hp).1) upC));rw[xai (Ne.symm hDC)];exact I5.free
  ·refine xgu (thn (T.item (X.comp sc N' hD.objs.size s H2 fp) rfl rfl rfl hc i _ s4 _ H4 (λ_ _=>False) I4 (fpI fr4) st4 go) λr s5 ⟨u,hr,h5⟩=>?_)
   subst hr;refine xgu (thn h5 λ_ s6 ⟨x,H6,I6,r6,y6,st6,fr6⟩=>?_);have I6':=I6.pinned (fpI fr6) (T.obj _ _ st6);refine xgu (thn (hg _ _ _ _ _ s6 _ H6 x u _ I6' r6 (step x H6 y6)) λ_ s7 ⟨σ7,H7,I7,x7,q7⟩=>?_);refine xgu (thn (ht _ _ _ _ _ s7 σ7 H7 _ I7 q7) λb s8 ⟨H8,I8,q8⟩=>?_)
   have back:∀{s9:Shared} {H9:Hp},Inv (X.comp sc N' hD.objs.size s H2 fp) ([(s.heap.objs.size,{cls:=.type "list",data:=.seq its.toArray k})]++xia fp s6.heap) σ7 H9 s9->
     Inv (X.comp sc N' hD.objs.size s H2 fp) [(s.heap.objs.size,{cls:=.type "list",data:=.seq its.toArray k})] (capt ix σ) H9 s9/\tn (i+1) s9.heap/\(∀b∈fp,H9 b=none):=λ{s9 H9} J9=>by
    refine⟨(J9.unpinned).weak x7.1 x7.2,T.keep _ _ _ st6 λb hb o e=>(J9.pin (b,o) (List.mem_append_right _ (List.mem_append_right _ (xd5 hb e)))).1,λb hb=>?_⟩;obtain⟨o,e,d⟩:=T.obj _ _ st6 b hb;exact(J9.pin (b,o) (List.mem_append_right _ (List.mem_append_right _ (xd5 hb e)))).2.1
   cases b with
   |false=>
    rw[if_neg Bool.false_ne_true]at q8⊢;obtain⟨m',hm,w8⟩:=q8;obtain⟨J8,st8,fr8⟩:=back I8;exact⟨m',hm,i+1,ys,its,k,H8,J8,r4,z4,st8,fr8,w8⟩
   | true=>
    rw[if_pos rfl]at q8⊢;refine xgu (thn (he _ _ _ _ _ s8 σ7 H8 _ I8 q8) λy s9 ⟨v9,H9,I9,r9,q9⟩=>?_);obtain⟨m',hm,w9⟩:=q9;obtain⟨J9,st9,fr9⟩:=back I9;obtain⟨pD,nD,neC,nf,_⟩:=J9.pin (s.heap.objs.size,{cls:=.type "list",data:=.seq its.toArray k}) (by simp);have hlen:=r4.length;refine call_meets F.slot_list_append ⟨_,pD,rfl⟩ F.entry_list_append (F.args_list_append_2 _ _) (PySem.list_append s.heap.objs.size its.toArray k y (by rw[List.size_toArray];omega)) ⟨pD,?_⟩;have q:=PySem.IsL.update pD (·.push y);have ep:its.toArray.push y=(its++[y]).toArray:=by simp
    dsimp only at q;rw[ep]at q;obtain⟨k',q⟩:∃k',(s9.heap.update s.heap.objs.size (Obj.mapSeq (·.push y))).get? s.heap.objs.size=some {cls:=.type "list",data:=.seq (its++[y]).toArray k'}:=⟨_,q⟩;have J0:Inv (X.comp sc N' hD.objs.size s H2 fp) [] (capt ix σ) H9 s9:=J9.pins_of λp hp=>absurd hp (by simp)
    have J1:Inv (X.comp sc N' hD.objs.size s H2 fp) [] (capt ix σ) H9 {s9 with heap:=s9.heap.update s.heap.objs.size (Obj.mapSeq (·.push y))}:=
     J0.turned (it:=s.heap.objs.size) (t':=s9.toks) (λb o hb e=>(Heap.get?_update_other _ _ (Ne.symm hb)).trans e) nD neC (.inr (Nat.le_refl _)) (λx c e=>Nat.ne_of_lt (cellLt x c (cellX x c e))) λp hp=>absurd hp (by simp)
    refine⟨m',hm,i+1,ys++[v9],its++[y],k',H9,J1.pins_of λp hp=>?_,r4.append (.cons r9 .nil),?_,T.keep _ _ _ st9 λb hb o e=>(Heap.get?_update_other _ _ ?_).trans e,fr9,w9⟩
    ·have e:p=_:=zMO hp
     subst e;exact⟨q,nD,neC,nf,λv z=>by cases z⟩
    ·rw[zLA,List.length_singleton];omega
    ·exact Nat.ne_of_gt (fpo b hb)
 exact codeAny_compStart_list (loop _ rfl) (T.self _ 0 _ _ _ st1 (loop _ rfl))
theorem Inv.letGo {pins:List (Addr×Obj)} {σ:St} {H:Hp} {s:Shared} {C:Addr} {h':Heap} (I:Inv X pins σ H s) (hs:Heap.SameBut C s.heap h') (h0:H C=none) (h1:C≠X.env.locals) (h2:X.s₀.heap.objs.size<=C) (h3:∀x c,X.env.cells.lookup x=some c->c≠C)
  (h4:∀p∈X.pn++pins,p.1≠C):Inv X pins σ H {s with heap:=h'}:=I.turned (t':=s.toks) (λb o hb e=>(hs.2 b hb).trans e) h0 h1 (.inr h2) h3 h4
theorem xbm {elt tg iter:Expr} {ifs:List Expr} {sc:Scope} {pos:Pos} (N':List Str) (ix:Cap) {wi:TI} {g:TG} {tt:TT} {te:TE} (hc:X.calm=true) (hok:xp5 X.N N' X.env.scope sc ix=true)
  (hi:PI X tg iter wi) (hg:∀C s₀ H₀ ex,PG (X.comp sc N' C s₀ H₀ ex) tg g) (ht:∀C s₀ H₀ ex,PTs (X.comp sc N' C s₀ H₀ ex) ifs tt) (he:∀C s₀ H₀ ex,PE (X.comp sc N' C s₀ H₀ ex) elt te)
  (hs:∀x,foldedSetIterable iter X.env x=pure x:=by intro _;rfl):PE X (.ListComp elt [⟨tg,iter,ifs,0⟩] sc pos) (xsg ix wi g tt te):=by
 intro pins s σ H Q I h;have ok:=xlo hok;rw[eval_ListComp];refine wpAny_comprehension_free (use:=none) rfl hs (xew λp hp hk=>I.ok.has p.1 (ok.fre p hp hk)) ok.kind ok.loc (thn (hi pins s σ H _ I h) λv s1 h1=>thn h1 λitv s2 h2=>?_);refine xgy (RR:=λacc C=>compPost (model X.prog X.w) X.A X.xe none (EP X pins σ Q) acc C) hc ok hg ht he h2 ?_;intro D C s' H' m I' q hm h0 h1 h2 h3 h4;exact⟨m,hm,λh' hsb=>⟨.ref D,H',I'.letGo hsb h0 h1 h2 h3 h4,rfl,q⟩⟩
theorem xc1 {elt tg iter:Expr} {ifs:List Expr} {sc:Scope} {pos spos py:Pos} {i:Nat} {y:Str} (N':List Str) (ix:Cap) {wi:TI} {g:TG} {tt:TT} {te:TE} (hc:X.calm=true) (hok:xp5 X.N N' X.env.scope sc ix=true)
  (hN:X.N.Nodup) (hy:X.N[i]?=some y) (hx:Loc X.env.scope y)
  (hi:PI X tg iter wi) (hg:∀C s₀ H₀ ex,PG (X.comp sc N' C s₀ H₀ ex) tg g) (ht:∀C s₀ H₀ ex,PTs (X.comp sc N' C s₀ H₀ ex) ifs tt) (he:∀C s₀ H₀ ex,PE (X.comp sc N' C s₀ H₀ ex) elt te)
  (hs:∀x,foldedSetIterable iter X.env x=pure x:=by intro _;rfl) (hsw:swapsWith (.ListComp elt [⟨tg,iter,ifs,0⟩] sc pos) (some (.Name y py)) spos.line X.env=pure true:=by rfl)
  (hf:X.fn y=true\/X.env.scope.names.lookup y=some .local:=by first |exact .inl rfl |exact .inr rfl |assumption) :
  PS X (.Assign [.Name y py] (.ListComp elt [⟨tg,iter,ifs,0⟩] sc pos) spos) (tAsg (xsg ix wi g tt te) (xgg i)):=by
 intro pins s σ H D I h;have ok:=xlo hok;rw[exec_Assign_Name_used _ _ _ _ hsw];refine wpAny_bind (wpAny_standAt (wpAny_bind ?_));show wpAny _ X.A (do let _ <- comprehension (.ListComp elt [⟨tg,iter,ifs,0⟩] sc pos) sc X.env _ (newList []) false (eval iter X.env) (some (assign (.Name y py) X.env))) _ _ s
 refine wpAny_bind (wpAny_mono (wpAny_comprehension_free (use:=some (assign (.Name y py) X.env)) (Q:=λ_ s'=>SP X pins D .next s') rfl hs (xew λp hp hk=>I.ok.has p.1 (ok.fre p hp hk)) ok.kind ok.loc
  (thn (hi pins s σ H _ I h) λv s1 h1=>thn h1 λitv s2 h2=>?_)) (λ_ s' hq=>wpAny_pure (wpAny_pure hq)) λ_ _ e=>e)
 refine xgy (Q:=λx H1=>xgg i x σ H1 D.nx) (RR:=λacc C=>compPost (model X.prog X.w) X.A X.xe (some (assign (.Name y py) X.env)) (λ_ s'=>SP X pins D .next s') acc C) hc ok hg ht he h2 ?_;intro Dl C s' H' m I' q hm h0 h1 h2 h3 h4;refine wpAny_assign_Name (xhx I' hN hy hx (v:=.ref Dl) rfl (λs3 I3 sb=>?_) hf);obtain⟨a,hsb,ha⟩:=sb
 have hne:C≠a:=by
  rcases ha with e |e
  ·rw[e];exact h1
  ·exact Ne.symm (h3 y a e)
 exact⟨m,hm.sameBut hsb hne,λh' hs'=>⟨_,H',I3.letGo hs' h0 h1 h2 h3 h4,q⟩⟩
end
section
variable {ix:Cap}{tt:TT}{te:TE}{g:TG}{σ:St}{H:Hp}{Q:VK}
def Nxt(Pv:Nat->List V->Hp->Prop)(n i:Nat)(ys:List V):VK:=λy H2=>∃m',m'<n-i/\m'=n-(i+1)/\i+1<=n/\(ys++[y]).length=i+1/\Pv (i+1) (ys++[y]) H2
theorem nxt{a:Nat->List V->Hp->Prop}{n i:Nat}{ys:List V}{y:V}{b:Hp}(hi:i<n)(c:ys.length=i)(h:a (i+1) (ys++[y]) b):Nxt a n i ys y b:=
 ⟨n-(i+1),by omega,rfl,hi,by rw[zLA,List.length_singleton,c],h⟩
theorem xd6 {lo:Int} {n j:Nat} (Pv:Nat->List V->Hp->Prop) (hj:(capt ix σ)[j]?=some none) (h0:Pv 0 [] H) (hn:n<sizeLine)
  (hs:∀i ys H,i<n->ys.length=i->Pv i ys H->te ((capt ix σ).set j (some (.int (lo+i)))) H (Nxt Pv n i ys))
  (hd:∀ys H,ys.length=n->Pv n ys H->∀D,H D=none->Q (.ref D) (upd H D (.lst ys))):xfh (Itr lo n) ix (xgg j) tYes te σ H Q:=by
 refine⟨λi m ys H=>m=n-i/\i<=n/\ys.length=i/\Pv i ys H,⟨n,by simp,Nat.zero_le _,rfl,h0⟩,?_⟩;rintro i m ys H ⟨rfl,hi,hl,p⟩;by_cases hlt:i<n
 ·refine .inr ⟨hlt,by omega,λx H' y=>?_⟩
  obtain⟨e,y⟩:=y;subst e y;refine⟨xgi hj,?_⟩;unfold tYes;dsimp only;rw[if_pos rfl];exact hs i ys _ hlt hl p
 ·have e:i=n:=by omega
  subst e;exact .inl ⟨Nat.le_refl _,hd ys H hl p⟩
theorem xox {K:Fg} {a:Addr} {xs:List V} {j:Nat} (Pv:Nat->List V->Hp->Prop) (hj:(capt ix σ)[j]?=some none) (h0:Pv 0 [] H) (hn:xs.length<sizeLine) (hl':∀i ys H,i<=xs.length->Pv i ys H->SqL K H a xs)
  (hs:∀i x ys H,xs[i]?=some x->ys.length=i->Pv i ys H->te ((capt ix σ).set j (some x)) H (Nxt Pv xs.length i ys))
  (hd:∀ys H,ys.length=xs.length->Pv xs.length ys H->∀D,H D=none->Q (.ref D) (upd H D (.lst ys))):xfh (Itl K a) ix (xgg j) tYes te σ H Q:=by
 refine⟨λi m ys H=>m=xs.length-i/\i<=xs.length/\ys.length=i/\Pv i ys H,⟨xs.length,by simp,Nat.zero_le _,rfl,h0⟩,?_⟩;rintro i m ys H ⟨rfl,hi,hl,p⟩;have q:=hl' i ys H hi p;by_cases hlt:i<xs.length
 ·refine .inr ⟨⟨xs,xs[i],q,by simp[hlt]⟩,by omega,λv H' y=>?_⟩
  obtain⟨e,y⟩:=y;subst e;refine⟨xgi hj,?_⟩;unfold tYes;dsimp only;rw[if_pos rfl];exact hs i v ys _ (y xs q) hl p
 ·have e:i=xs.length:=by omega
  subst e;exact .inl ⟨⟨xs,q,Nat.le_refl _⟩,hd ys H hl p⟩
theorem xdn {K:Fg} {a:Addr} {xs:List V} {j:Nat} (b:Nat->List V->Hp->Prop) (h:(capt ix σ)[j]?=some none) (h0:b 0 [] H) (hn:xs.length<sizeLine) (f:∀i ys H,i<=xs.length->b i ys H->SqT K H a xs)
  (hs:∀i x ys H,xs[i]?=some x->ys.length=i->b i ys H->te ((capt ix σ).set j (some x)) H (Nxt b xs.length i ys))
  (hd:∀ys H,ys.length=xs.length->b xs.length ys H->∀D,H D=none->Q (.ref D) (upd H D (.lst ys))):xfh (Itt K a) ix (xgg j) tYes te σ H Q:=by
 refine⟨λi m ys H=>m=xs.length-i/\i<=xs.length/\ys.length=i/\b i ys H,⟨xs.length,by simp,Nat.zero_le _,rfl,h0⟩,?_⟩;rintro i m ys H ⟨rfl,hi,g,p⟩;have q:=f i ys H hi p;by_cases c:i<xs.length
 ·refine .inr ⟨⟨xs,xs[i],q,by simp[c]⟩,by omega,λv l y=>?_⟩
  obtain⟨e,y⟩:=y;subst e;refine⟨xgi h,?_⟩;unfold tYes;dsimp only;rw[if_pos rfl];exact hs i v ys _ (y xs q) g p
 ·have e:i=xs.length:=by omega
  subst e;exact .inl ⟨⟨xs,q,Nat.le_refl _⟩,hd ys H g p⟩
end
section
variable {X:Cx}
def xuv(i j:Int):Prop:=0<j/\j<2 ^ 64
theorem xc7:OpR X (binaryOp .FloorDiv) (rI xuv λi j=>.int (i / j)):=opI λi j _ _ _ _ _ a q=>by
 have f:(0:Int)<j:=a.1;have e:j<2 ^ 64:=a.2;refine floordiv_int (by omega) (by rw[Int.fdiv_eq_ediv_of_nonneg i (by omega)];exact q) (.inl (PyProof.noPylong_of_log2 ?_));have b:j.natAbs<2 ^ 64:=by omega
 have h0:j.natAbs≠0:=by omega
 have c:j.natAbs.log2<64:=(Nat.log2_lt h0).mpr b;omega
theorem xly{ys:List Str}:∀{us:List Value},Vals (ys.map V.str) us->StrsAre us ys:=by
 induction ys with
 |nil=>intro us r;rw[List.map_nil]at r;cases r;exact .nil
 | cons n ns c=>
  intro us r;rw[List.map_cons]at r
  cases r with
  |cons b a=>
   obtain⟨t,e⟩:=b;subst e;exact .cons n t (c a)
def xuc(K:Fg):V->List V->Hp->VK->Prop:=λx vs H Q=>∃(sep:Str) (p:Addr) (ys:List Str),x=.str sep/\vs=[.ref p]/\SqL K H p (ys.map V.str)/\(ys.map (·.length)).sum+ys.length*sep.length<=16777216/\Q (.str (Txt.join sep ys)) H
theorem xrq:MtR X "str.join" (xuc X.K):=by
 intro a s σ H x vs v us Q I c e h;obtain⟨b,p,ys,rfl,rfl,g,hz,q⟩:=h;obtain⟨t,rfl⟩:=c;obtain⟨u,rfl,f⟩:=e.one;cases f;obtain⟨its,r,pl,_⟩:=I.list g;exact join_list pl.isList (by simpa using xly r) hz λt' k=>⟨.str _,H,I.tok k,⟨t',rfl⟩,q⟩
def rSlS:V->Option Int->Option Int->Hp->VK->Prop:=λx lo hi H Q=>∃z:Str,x=.str z/\z.length<=sizeLine/\Q (.str (Txt.slice z lo hi)) H
theorem xqf:SlR X rSlS:=by
 intro f s σ H x v G C y hi sl Q I w hs pl r h;obtain⟨z,rfl,hz,q⟩:=h;obtain⟨t,rfl⟩:=w;refine⟨"str",_,F.slot_str_getitem.lookup,typeIs_str _ _ _,?_⟩
 have m:∀(o:Str),o=Txt.slice z y hi->o.length<=sizeLine/\∀t' k,EP X f σ Q (.str o t') {s with toks:=k}:=λo e=>by
  subst e;exact⟨Nat.le_trans (Txt.slice_le z _ _) hz,λt' k=>⟨.str _,H,I.tok k,⟨t',rfl⟩,q⟩⟩
 obtain⟨g,a,c,b⟩:=hs
 cases pl with
 |none=>
  cases r with
  |none=>exact wpAny_getItem_str_slice (l:=none) (u:=none) (st:=none) ⟨g,a,c,b⟩ rfl (post_val_or_str (m _ rfl))
  |int j n=>exact wpAny_getItem_str_slice (l:=none) (u:=some (j,n)) (st:=none) ⟨g,a,c,b⟩ rfl (post_val_or_str (m _ rfl))
 |int i p=>
  cases r with
  |none=>exact wpAny_getItem_str_slice (l:=some (i,p)) (u:=none) (st:=none) ⟨g,a,c,b⟩ rfl (post_val_or_str (m _ rfl))
  |int j n=>exact wpAny_getItem_str_slice (l:=some (i,p)) (u:=some (j,n)) (st:=none) ⟨g,a,c,b⟩ rfl (post_val_or_str (m _ rfl))
theorem xkm:xd1 X (.builtin "isinstance") (λxs H Q=>∃x y c t b,xs=[x,y]/\(∀u,RelV y u->u=c)/\TyOf X.K H x t/\PySem.W.kitOne X.K t c=some b/\Q (.bl b) H):=by
 intro a s σ H xs us Q I r h;obtain⟨x,y,c,t,b,rfl,l,f,e,q⟩:=h;obtain⟨u,v,rfl,j,i⟩:=r.two;obtain rfl:=l v i;exact xoe I j f e λg=>⟨.bl b,H,I.tok g,rfl,q⟩
def eqVs:List V->List V->Bool
 |[],[]=>true
 |x::xs,y::ys=>eqV x y && eqVs xs ys
 |_,_=>false
theorem xlh:∀{xs ys:List V},xs.length≠ys.length->eqVs xs ys=false
 |[],[],h=>absurd rfl h
 |[],_::_,_=>rfl
 |_::_,[],_=>rfl
 |x::xs,y::ys,h=>by
  show(eqV x y && eqVs xs ys)=false;rw[xlh (xs:=xs) (ys:=ys) (by simpa using h),Bool.and_false]
theorem xgx:∀{xs ys:List V},xs.length=ys.length->(List.range xs.length).all (λi=>eqV (xs.getD i .non) (ys.getD i .non))=eqVs xs ys
 |[],[],_=>rfl
 |[],_::_,h=>by cases h
 |_::_,[],h=>by cases h
 |x::xs,y::ys,h=>by
  rw[List.length_cons,List.range_succ_eq_map,List.all_cons,List.all_map];show(eqV x y && (List.range xs.length).all (λi=>eqV (xs.getD i .non) (ys.getD i .non)))=(eqV x y && eqVs xs ys);rw[xgx (xs:=xs) (ys:=ys) (by simpa using h)]
def rEqL(K:Fg):R2:=λx y H Q=>∃a b xs ys,x=.ref a/\y=.ref b/\SqL K H a xs/\SqL K H b ys/\xs.all xev=true/\ys.all xev=true/\Q (.bl (eqVs xs ys)) H
theorem xs9(r:X.A.units<cLine):OpR X (compareOp .Eq) (rEqL X.K):=by
 intro n s σ H x y v u Q I J G h;obtain⟨a,b,xs,ys,rfl,rfl,Z,Y,fa,fb,q⟩:=h;cases J;cases G;obtain⟨its,m,p,_⟩:=I.list Z;obtain⟨c,l,o,_⟩:=I.list Y;have U:=m.length;have l2:=l.length;by_cases w:xs.length=ys.length
 ·refine SeqAt.eq_listAt (e:=λi=>eqV (xs.getD i .non) (ys.getD i .non)) p.isList o.isList (by simp only[List.size_toArray];omega) r (λj h1 h2=>?_) ⟨.bl _,H,I,rfl,?_⟩
  ·have g:j<xs.length:=by simp only[List.size_toArray]at h1;omega
   have f:j<ys.length:=by simp only[List.size_toArray]at h2;omega
   obtain⟨C,e1,O⟩:=m.get (i:=j) (x:=xs[j]) (zGA g);obtain⟨z,e2,M⟩:=l.get (i:=j) (x:=ys[j]) (zGA f)
   have g1:its.toArray[j]=C:=by
    have:its[j]?=some its[j]:=zGA (by omega);rw[e1]at this;simpa using (Option.some.inj this).symm
   have g2:c.toArray[j]=z:=by
    have:c[j]?=some c[j]:=zGA (by omega);rw[e2]at this;simpa using (Option.some.inj this).symm
   rw[g1,g2,List.getD_eq_getElem?_getD,List.getD_eq_getElem?_getD,zGA g,zGA f];exact xqo O M (List.all_eq_true.mp fa _ (List.getElem_mem g)) (List.all_eq_true.mp fb _ (List.getElem_mem f))
  ·rw[List.size_toArray,<- U,xgx w]
   exact q
 ·refine SeqAt.eq_list_lengthsAt p.isList o.isList (by simp only[List.size_toArray];simp;omega) r ⟨.bl _,H,I,rfl,?_⟩
  rw[xlh w]at q;exact q
end
def SameBut(a:Addr)(H H':Hp):Prop:=∀b o,H b=some o->b≠a->H' b=some o
theorem SameBut.refl(a:Addr)(H:Hp):SameBut a H H:=λ_ _ h _=>h
theorem SameBut.trans{a:Addr}{H f c:Hp}(h:SameBut a H f)(k:SameBut a f c):SameBut a H c:=λb o e n=>k b o (h b o e n) n
theorem SameBut.upd(a:Addr)(H:Hp)(o:HO):SameBut a H (upd H a o):=λb u e n=>by rw[xai n];exact e
theorem Same.but{a:Addr}{H c:Hp}(h:Same H c):SameBut a H c:=λb o e _=>h b o e
theorem Same.new{H:Hp}{p:Addr}(h:H p=none)(o:HO):Same H (upd H p o):=λb u q=>by rw[xai (neN q h)];exact q
theorem xch{H a:Hp}{p:Addr}(h:Same H a)(n:a p=none):H p=none:=by
 cases e:H p with
 |none=>rfl
 |some o=>rw[h p o e]at n;cases n
structure DefTx(K:Fg)(mg:Str->Option Value)(x:Str)(st:Stmt)(ps:List Str):Prop where
 ex:∃(f:Addr) (fd:FuncData),Fun K x x st f fd/\mg x=some (.ref f)/\∀us:List Value,us.length=ps.length->bindArgs fd ⟨us,[]⟩=pure (ps.zip us)
structure DefIs(P:Program)(w:World)(K:Fg)(mg:Str->Option Value)(base:Heap)(n:Nat)(x:Str)(ps:List Str)(sp:Sp):Prop where
 ex:∃(f:Addr) (fd:FuncData),FnOk P w K mg base CX0 n f fd ps sp/\Binds K fd ps []/\PySem.W.keepIn K (.ref f)=true/\mg x=some (.ref f)/\∃oc od osl,K.lookup f=some ⟨oc,od,.func fd,osl⟩
theorem xom{K:Fg}{x:Str}{st:Stmt}{f:Addr}{c:FuncData}(F:Fun K x x st f c):∃b od a,K.lookup f=some ⟨b,od,.func c,a⟩:=by
 obtain⟨b,od,kV,e,h,i,g,ct,a,_,l,_⟩:=F.ex;exact⟨b,od,a,l⟩
section
variable {P:Program}{w:World}{K:Fg}{mg:Str->Option Value}{base:Heap}{n m:Nat}{x:Str}{ps N:List Str}{sp:Sp}{st:Stmt}
theorem DefIs.mono(D:DefIs P w K a base n x ps sp)(h:n<=m):DefIs P w K a base m x ps sp:=by
 obtain⟨f,b,F,r⟩:=D.ex;exact⟨f,b,F.mono h,r⟩
theorem DefIs.imp{a:Sp}(D:DefIs P w K b base n x ps sp)(h:∀vs H Q E,a vs H Q E->sp vs H Q E):DefIs P w K b base n x ps a:=by
 obtain⟨f,c,F,r⟩:=D.ex;exact⟨f,c,F.imp h,r⟩
theorem DefIs.of (T:DefTx K e x st ps) (S:FnScope N ps (xab st)) (len:∀vs H Q E,sp vs H Q E->vs.length=ps.length)
  (c:∀(f:Addr) (a:Value) (A:Around) (outer:List Env) (s:Shared) (H:Hp) (vs:List V) (Q:VK) (E:XK),Room n (A.deeper (envOfC x (xab st) s.heap.objs.size f a))->sp vs H Q E->
   ∃t,PSs (cxOf CX0 P w K e base N x (xab st) f a A outer s H E).nox (xcw st) t/\t {nx:=λ_ j=>Q .non j,rt:=Q} (xfj N vs) H):DefIs P w K e base (n+1) x ps sp:=by
 obtain⟨f,i,F,m,b⟩:=T.ex;exact⟨f,i,F.ok S len (λa A outer s H vs Q E g h=>c f a A outer s H vs Q E g h),Binds.all b,F.kp,m,xom F⟩
theorem DefIs.none(T:DefTx K a x st ps)(no:∀vs H Q E,¬sp vs H Q E):DefIs P w K a base n x ps sp:=by
 obtain⟨f,c,F,m,b⟩:=T.ex;exact⟨f,c,⟨λvs H Q E h=>absurd h (no vs H Q E),λA outer s H args us vs Q E _ _ _ _ h=>absurd h (no vs H Q E)⟩,Binds.all b,F.kp,m,xom F⟩
end
section
variable {X:Cx}{n:Nat}{x:Str}{ps:List Str}{sp:Sp}{e:Expr}{es:List Expr}{p pos:Pos}{t:TA}
theorem pd (D:DefIs X.prog X.w X.K X.mg X.base n x ps sp) (g:Room n X.A) (j:PA X (e::es) t) (h:Gl X x:=by rfl) (c:(x == ("__debug__":Str))=false:=by decide)
  (i:starEach (e::es) X.env=(false,eval e X.env)::starEach es X.env:=by rfl) (a:(backTo pos (starEach es X.env)).any (·.1)=false:=by rfl):PE X (.Call (.Name x p) (e::es) [] pos) (xsi sp [] E0 t):=by
 obtain⟨f,l,F,b,k,m,_⟩:=D.ex;exact xrd F g h m k b .nil xs7 j c i a
theorem xhc{i:Int}(hm:∃t,X.mg x=some (.int i t))(hg:Gl X x:=by rfl)(hd:(x == ("__debug__":Str))=false:=by decide):PE X (.Name x pos) (tC (.int i)):=by
 obtain⟨t,h⟩:=hm;exact xra hg h ⟨t,rfl⟩ hd
theorem xs5{T:String}(b:X.mg x=none)(a:bootBuiltins x=some (.type T))(c:Gl X x:=by rfl)(hn:x≠"__name__":=by decide)(hd:(x == ("__debug__":Str))=false:=by decide):PE X (.Name x pos) (tC (.ty T)):=xre c b a rfl hn hd
end
def Fed(a:Addr)(H H':Hp):Prop:=SameBut a H H'/\∃p q:Int,H' a=some (.lst [.int p,.int q])
theorem Fed.trans{a:Addr}{H c b:Hp}(h:Fed a H c)(k:Fed a c b):Fed a H b:=⟨h.1.trans k.1,k.2⟩
theorem Fed.of{a:Addr}{H:Hp}{p q:Int}:Fed a H (upd H a (.lst [.int p,.int q])):=⟨SameBut.upd a H _,p,q,ups⟩
theorem Fed.refl{a:Addr}{H:Hp}{p q:Int}(h:H a=some (.lst [.int p,.int q])):Fed a H H:=⟨SameBut.refl a H,p,q,h⟩
theorem Fed.same{a:Addr}{H c b:Hp}(h:Fed a H c)(s:Same c b):Fed a H b:=by
 obtain⟨k,p,q,e⟩:=h;exact⟨k.trans s.but,p,q,s _ _ e⟩
theorem Fed.back{a:Addr}{H H0 H':Hp}(n:H a=none)(s:Same H H0)(h:Fed a H0 H'):Same H H':=λb o e=>h.1 b o (s b o e) (neN e n)
theorem deftx_mk {K:Fg} {h:Heap} {n:Str->Option Value} (X:K.In h) (G:h.Ns mainGlobals n) {x:Str} {st:Stmt} {ps:List Str} {f:Addr} {o:Value} {od j:Option Addr} {m:Array (Option Value)} {kV g i e ct:Value}
  (a:PySem.W.nsIn K mainGlobals x=some (some (.ref f))) (l:K.lookup f=some ⟨o,od,.func (PySem.W.fnOf x x (xdm st) (xcw st) (xab st) .none kV g i j e ct),m⟩)
  (c:PySem.W.codeIn K e x=true) (k:PySem.W.keepIn K (.ref f)=true)
  (b:∀(kV g i:Value) (j:Option Addr) (e ct:Value) (us:List Value),us.length=ps.length->bindArgs (PySem.W.fnOf x x (xdm st) (xcw st) (xab st) .none kV g i j e ct) ⟨us,[]⟩=pure (ps.zip us)):DefTx K n x st ps:=by
 have F:=xtq (st:=st) l c k;exact⟨f,_,F,PySem.W.mg_of X G a,b kV g i j e ct⟩
theorem law_top {P:Program} {w:World} {K:Fg} {mg:Str->Option Value} {n:Nat} {x y:Str} {st:Stmt} {sp:Sp} {fa:Addr} (T:DefTx K mg x st [y]) (hmg:mg x=some (.ref fa)) (D:∀base,DefIs P w K mg base n x [y] sp) :
  ∃fd:FuncData,(∀(s:Shared) (u:Value),BindsTo s fd ⟨[u],[]⟩ [(y,u)])/\∀base:Heap,K.In base->base.Ns mainGlobals mg->FnOk P w K mg base CX0 n fa fd [y] sp:=by
 obtain⟨f,fd,F,m,b⟩:=T.ex;rw[hmg]at m;cases m;refine⟨fd,λs u=>.of_eq (b [u] rfl),λbase _ _=>?_⟩;obtain⟨f',fd',G,_,_,m',oc,od,osl,l⟩:=(D base).ex;rw[hmg]at m';cases m';obtain⟨oc2,od2,osl2,l2⟩:=xom F;rw[l]at l2;cases l2;exact G
theorem gint_mk{K:Fg}{h:Heap}{b:Str->Option Value}(X:K.In h)(G:h.Ns mainGlobals b){x:Str}{i:Int}{t:Tok}(a:PySem.W.nsIn K mainGlobals x=some (some (.int i t))):∃t,b x=some (.int i t):=⟨t,PySem.W.mg_of X G a⟩
end L2
end
section
namespace Zt
open PySem
section
variable {prog:Program}{w:World}{A:Around}{E:Value->Shared->Prop}{s:Shared}
theorem next_item {it l:Addr} {i:Nat} {items} {x:Value} {Q:Value->Shared->Prop} (a:s.heap.IsTupleIter it l i)
  (g:s.heap.IsTuple l items) (f:items[i]?=some x)
  (j:∀h',h'.IsTupleIter it l (i+1)->Heap.SameBut it s.heap h'->Q x {s with heap:=h'}) :
  wpAny (model prog w) A (Builtin.SmallTypes.nextOf (.ref it)) Q E s:=by
 obtain⟨o,b,h,hd⟩:=id a;obtain⟨m,c,_,n,e⟩:=g;unfold Builtin.SmallTypes.nextOf
 refine wpAny_bind (wpAny_callSpecial?_slot (name:=Str.ofString "__next__") a.typeIs F.slot_tuple_iterator_next
  (wpAny_call_entry F.slot_tuple_iterator_next a.typeIs F.entry_tuple_iterator_next ?_ (F.args_tuple_iterator_next_1 _)))
 show wpAny _ _ (field (.ref it) 0 >>= _) _ _ s;refine wpAny_bind (wpAny_field b hd (x:=.ref l) rfl ?_);show wpAny _ _ (if (Value.ref l == Value.none)=true then _ else _) _ _ s;rw[if_neg (show ¬((Value.ref l == Value.none)=true) from Bool.false_ne_true)];show wpAny _ _ (field (.ref it) 1 >>= _) _ _ s;refine wpAny_bind (wpAny_field b hd (x:=.int i 0) rfl ?_);show wpAny _ _ (seqItems? (.ref l) >>= _) _ _ s;refine wpAny_bind (wpAny_seqItems c e ?_);simp only[Int.toNat_natCast,f];refine wpAny_bind (wpAny_setField b hd (by simp) (wpAny_pure ⟨x,rfl,wpAny_pure (j _ ?_ (Heap.SameBut.update ..))⟩))
 exact⟨_,Heap.get?_update_self _ b (Obj.isFreed_of_fields (Obj.data_mapFields hd _)),(Obj.cls_mapFields ..).trans h,by
  rw[Obj.data_mapFields hd];simp[rawInt]⟩
theorem next_end {it l:Addr} {i:Nat} {items} {Q:Value->Shared->Prop} (h:A.handled=none)
  (b:s.heap.IsTupleIter it l i) (n:s.heap.IsTuple l items) (j:items[i]?=none)
  (hE:∀h' e,Heap.ExtBut it s.heap h'->(∃o,h'.get? e=some o/\o.cls=.type "StopIteration")->E (.ref e) {s with heap:=h'}) :
  wpAny (model prog w) A (Builtin.SmallTypes.nextOf (.ref it)) Q E s:=by
 obtain⟨o,f,u,hd⟩:=id b;obtain⟨p,c,_,r,g⟩:=n;unfold Builtin.SmallTypes.nextOf
 refine wpAny_bind (wpAny_callSpecial?_slot (name:=Str.ofString "__next__") b.typeIs F.slot_tuple_iterator_next
  (wpAny_call_entry F.slot_tuple_iterator_next b.typeIs F.entry_tuple_iterator_next ?_ (F.args_tuple_iterator_next_1 _)))
 show wpAny _ _ (field (.ref it) 0 >>= _) _ _ s;refine wpAny_bind (wpAny_field f hd (x:=.ref l) rfl ?_);show wpAny _ _ (if (Value.ref l == Value.none)=true then _ else _) _ _ s;rw[if_neg (show ¬((Value.ref l == Value.none)=true) from Bool.false_ne_true)];show wpAny _ _ (field (.ref it) 1 >>= _) _ _ s;refine wpAny_bind (wpAny_field f hd (x:=.int i 0) rfl ?_);show wpAny _ _ (seqItems? (.ref l) >>= _) _ _ s;refine wpAny_bind (wpAny_seqItems c g ?_);simp only[Int.toNat_natCast,j];refine wpAny_bind (wpAny_rule (wpAny_bind (wpAny_setField f hd (by simp) ?_)));show wpAny _ _ (newExc (.type "StopIteration") [] >>= _) _ _ _;refine wpAny_bind ?_;simp only[newExc,newTuple];refine wpAny_bind (wpAny_newObj_type ?_ (by size_fits));refine wpAny_bind (m:=firstArgMember _ _) (wpAny_of_eq (a:=Value.none) (by first |rfl |(simp only[firstArgMember];rfl)) ?_);refine wpAny_newObj_type ?_ (by size_fits);simp only[raiseNew];refine wpAny_bind (wpAny_handled ?_)
 first |rw[show A.in1.handled=none from h] |rw[h]
 refine wpAny_bind (wpAny_pure (wpAny_throw ?_));exact hE _ _ (((Heap.SameBut.update ..).extBut.push _).push _) ⟨_,Heap.get?_push_size _ rfl,rfl⟩
abbrev xqs(h:Heap)(z TI TO:Addr)(f0 f1:Value):Prop:=
 h.get? z=some {cls:=.type "zip",dict:=none,data:=.fields #[f0,f1,.bool false,.ref TI,.ref TO],slots:=#[]}
def Free(h:Heap)(z TI TO:Addr):Prop:=xqs h z TI TO .none (.bool false)\/∃(T:Addr) (b:Bool) (o:Obj),xqs h z TI TO (rawInt T) (.bool b)/\h.get? T=some o/\T≠z
structure Zs(h:Heap)(z TI TO i1 i2 l1 l2:Addr)(xs ys:Array Value)(k:Nat):Prop where
 zip:Free h z TI TO
 ti:IsPair h TI (.ref i1) (.ref i2)
 to:∃a b,IsPair h TO a b
 it1:h.IsTupleIter i1 l1 k
 it2:h.IsTupleIter i2 l2 k
 t1:h.IsTuple l1 xs
 t2:h.IsTuple l2 ys
structure Nx(prog:Program)(w:World)(it l:Addr)(xs:Array Value)(P:Heap->Nat->Prop):Prop where
 item:∀{A:Around} {E:Value->Shared->Prop} {s:Shared} {Q:Value->Shared->Prop} {i:Nat} {x:Value},P s.heap i->xs[i]?=some x->(∀h',P h' (i+1)->Heap.SameBut it s.heap h'->Q x {s with heap:=h'})->wpAny (model prog w) A (Builtin.SmallTypes.nextOf (.ref it)) Q E s
 last:∀{A:Around} {E:Value->Shared->Prop} {s:Shared} {Q:Value->Shared->Prop} {i:Nat},A.handled=none->P s.heap i->xs[i]?=none->(∀h' e,Heap.ExtBut it s.heap h'->(∃o,h'.get? e=some o/\o.cls=.type "StopIteration")->E (.ref e) {s with heap:=h'})->wpAny (model prog w) A (Builtin.SmallTypes.nextOf (.ref it)) Q E s
 kept:∀{h h':Heap} {i:Nat},P h i->(∀o,h.get? it=some o->h'.get? it=some o)->(∀o,h.get? l=some o->h'.get? l=some o)->P h' i
 there:∀{h:Heap} {i:Nat},P h i->∃o,h.get? it=some o
theorem Nx.ext{it l a:Addr}{xs:Array Value}{P:Heap->Nat->Prop}(N:Nx prog w it l xs P){h h':Heap}{i:Nat}(p:P h i)(e:Heap.ExtBut a h h')(c:it≠a)(b:l≠a):P h' i:=N.kept p (λo q=>e _ _ c q) λo q=>e _ _ b q
structure Zg(P1:Heap->Nat->Prop)(h:Heap)(z TI TO i1 i2 l2:Addr)(ys:Array Value)(k:Nat):Prop where
 zip:Free h z TI TO
 ti:IsPair h TI (.ref i1) (.ref i2)
 to:∃a b,IsPair h TO a b
 p1:P1 h k
 it2:h.IsTupleIter i2 l2 k
 t2:h.IsTuple l2 ys
theorem xtp {P1:Heap->Nat->Prop} {z TI TO Y r l1 l2:Addr} {k1 k2:Nat} {xs ys:Array Value} {x y a b:Value} {Q:Value->Shared->Prop} (D:ZipApart z TI TO Y r l1 l2)
  (hz:IsZip s.heap z TI TO .none) (a7:IsPair s.heap TI (.ref Y) (.ref r)) (a6:IsPair s.heap TO a b)
  (Z:Nx prog w Y l1 xs P1) (h1:P1 s.heap k1) (h2:s.heap.IsTupleIter r l2 k2) (a4:s.heap.IsTuple l2 ys) (hx:xs[k1]?=some x) (hy:ys[k2]?=some y)
  (hQ:∀h',IsZip h' z TI TO (rawInt s.heap.objs.size)->IsPair h' TO x y->P1 h' (k1+1)->h'.IsTupleIter r l2 (k2+1)->IsPair h' s.heap.objs.size x y->h'.objs.size=s.heap.objs.size+1->
   (∀c o,c≠z->c≠TO->c≠Y->c≠r->s.heap.get? c=some o->h'.get? c=some o)->Q (.ref s.heap.objs.size) {s with heap:=h'}) :
  wpAny (model prog w) A (Builtin.«zip.__next__» ⟨[.ref z],[]⟩) (λfin s'=>∃v,fin=.done (.ret v)/\Q v s') E s:=by
 show wpAny _ _ (field (.ref z) 2 >>= _) _ _ _;refine wpAny_bind (wpAny_field hz rfl (x:=.bool false) rfl ?_);show wpAny _ _ (field (.ref z) 3 >>= _) _ _ _;refine wpAny_bind (wpAny_field hz rfl (x:=.ref TI) rfl ?_);refine wpAny_bind (wpAny_seqItems a7 rfl ?_);show wpAny _ _ (Builtin.SmallTypes.ownedTupleIsFree (.ref z) >>= _) _ _ _;refine wpAny_bind ?_;unfold Builtin.SmallTypes.ownedTupleIsFree;refine wpAny_bind (wpAny_field hz rfl (x:=.none) rfl (wpAny_pure ?_));simp only[if_true];refine wpAny_bind (wpAny_rule ?_);refine wpAny_bind (wpAny_field hz rfl (x:=.ref TO) rfl ?_);refine wpAny_bind (wpAny_setField_rec hz (by simp) λh₁ J j=>?_)
 replace J:IsZip h₁ z TI TO .ellipsis:=J
 refine wpAny_bind ?_;simp only[List.zipIdx_cons,List.zipIdx_nil,List.forIn_cons,List.forIn_nil];refine wpAny_bind (wpAny_bind (wpAny_onRaise ?_));show wpAny _ _ (Builtin.SmallTypes.nextOf (.ref Y) >>= _) _ _ _;refine wpAny_bind (Z.item (Z.ext h1 j.extBut D.i1z D.l1z) hx λh₂ ab i=>wpAny_pure ?_);have G:IsPair h₂ TO a b:=i.extBut _ _ D.TOi1 (j.extBut _ _ D.TOz a6);refine wpAny_bind (wpAny_seqItems G rfl ?_);refine wpAny_bind (wpAny_updateSeq_pair G λh₃ n h=>?_)
 replace n:IsPair h₃ TO x b:=n
 refine wpAny_bind (wpAny_letGo (wpAny_pure ?_));refine wpAny_bind (wpAny_bind (wpAny_onRaise ?_));show wpAny _ _ (Builtin.SmallTypes.nextOf (.ref r) >>= _) _ _ _
 refine wpAny_bind (next_item (((h2.extBut j.extBut D.i2z).extBut i.extBut D.i12.symm).extBut h.extBut D.TOi2.symm)
  (((a4.extBut j.extBut D.l2z).extBut i.extBut D.l2i1).extBut h.extBut D.l2TO) hy λh₄ a9 m=>wpAny_pure ?_)
 have C:IsPair h₄ TO x b:=m.extBut _ _ D.TOi2 n;refine wpAny_bind (wpAny_seqItems C rfl ?_);refine wpAny_bind (wpAny_updateSeq_pair C λf g l=>?_)
 replace g:IsPair f TO x y:=g
 refine wpAny_bind (wpAny_letGo (wpAny_pure (wpAny_pure ?_)));refine wpAny_bind (wpAny_seqItems g rfl ?_);refine wpAny_bind (wpAny_newTuple ?_);have hsz:f.objs.size=s.heap.objs.size:=by rw[l.1,m.1,h.1,i.1,j.1]
 have a0:IsZip f z TI TO .ellipsis:=l.extBut _ _ D.TOz.symm (m.extBut _ _ D.i2z.symm (h.extBut _ _ D.TOz.symm (i.extBut _ _ D.i1z.symm J)))
 have a5:∀c o,c≠z->c≠TO->c≠Y->c≠r->s.heap.get? c=some o->f.get? c=some o:=λc o U c2 c3 c4 e=>
  l.extBut _ _ c2 (m.extBut _ _ c4 (h.extBut _ _ c2 (i.extBut _ _ c3 (j.extBut _ _ U e))))
 have aa:P1 f (k1+1):=Z.ext (Z.ext (Z.ext ab h.extBut D.TOi1.symm D.l1TO) m.extBut D.i12 D.l1i2) l.extBut D.TOi1.symm D.l1TO;have a8:f.IsTupleIter r l2 (k2+1):=a9.extBut l.extBut D.TOi2.symm;have u:z<f.objs.size:=Heap.lt_size a0;show wpAny _ _ (Builtin.SmallTypes.ownedTupleHandOut (.ref z) (.ref f.objs.size) >>= _) _ _ _;refine wpAny_bind ?_;unfold Builtin.SmallTypes.ownedTupleHandOut;have a3:IsZip (f.push {cls:=.type "tuple",data:=.seq #[x,y]}) z TI TO .ellipsis:=zPO _ a0;refine wpAny_bind (wpAny_setField_rec a3 (by simp) λh₇ I O=>?_)
 replace I:IsZip h₇ z TI TO (rawInt f.objs.size):=I
 refine wpAny_setField_rec I (by simp) λh₈ p M=>?_
 replace p:IsZip h₈ z TI TO (rawInt f.objs.size):=p
 have up:∀c o,c≠z->f.get? c=some o->h₈.get? c=some o:=λc o U e=>M.extBut _ _ U (O.extBut _ _ U (zPO _ e));have a2:IsPair h₈ f.objs.size x y:=M.extBut _ _ (Nat.ne_of_gt u) (O.extBut _ _ (Nat.ne_of_gt u) (Heap.get?_push_size _ rfl));have a1:h₈.objs.size=f.objs.size+1:=by rw[M.1,O.1,Heap.size_push]
 rw[hsz]at p a2 a1;refine wpAny_pure ⟨_,rfl,?_⟩;show Q (.ref f.objs.size) _;rw[hsz];exact hQ h₈ p (up _ _ D.TOz g) (Z.kept aa (λo e=>up _ o D.i1z e) λo e=>up _ o D.l1z e) (a8.at λo e=>up _ o D.i2z e) a2 a1 λc o U c2 c3 c4 e=>up c o U (a5 c o U c2 c3 c4 e)
theorem xut{a:Addr}{o:Obj}{Q:Option Obj->Shared->Prop}(b:s.heap.get? a=some o)(h:Q (some o) s):wpAny (model prog w) A (loadIfAlive a) Q E s:=by
 intro Γ p c;unfold loadIfAlive
 first
  |(rw[Sem.wp_loadIfAlive,b];exact h)
  |(simp only[Sem.wp_loadIfAlive,b];exact h)
theorem xuq {P1:Heap->Nat->Prop} {z TI TO i Z Y U:Addr} {k:Nat} {xs ys:Array Value} {Q:Fin->Shared->Prop} (J:A.handled=none) (D:ZipApart z TI TO i Z Y U) (G:Nx prog w i Y xs P1) (S:Zg P1 s.heap z TI TO i Z U ys k) (I:xs[k]?=none)
  (hE:∀h' e,(∀c o,c≠z->c≠i->s.heap.get? c=some o->h'.get? c=some o)->(∃o,h'.get? e=some o/\o.cls=.type "StopIteration")->E (.ref e) {s with heap:=h'}) :
  wpAny (model prog w) A (Builtin.«zip.__next__» ⟨[.ref z],[]⟩) Q E s:=by
 obtain⟨hz,u,⟨a,b,a2⟩,O,h2,a0⟩:=S;rcases hz with hz |⟨T,bb,oT,hz,hT,a1⟩
 ·show wpAny _ _ (field (.ref z) 2 >>= _) _ _ _
  refine wpAny_bind (wpAny_field hz rfl (x:=.bool false) rfl ?_);show wpAny _ _ (field (.ref z) 3 >>= _) _ _ _;refine wpAny_bind (wpAny_field hz rfl (x:=.ref TI) rfl ?_);refine wpAny_bind (wpAny_seqItems u rfl ?_);show wpAny _ _ (Builtin.SmallTypes.ownedTupleIsFree (.ref z) >>= _) _ _ _;refine wpAny_bind ?_;unfold Builtin.SmallTypes.ownedTupleIsFree;refine wpAny_bind (wpAny_field hz rfl (x:=.none) rfl (wpAny_pure ?_));simp only[if_true];refine wpAny_bind (wpAny_rule ?_);refine wpAny_bind (wpAny_field hz rfl (x:=.ref TO) rfl ?_);refine wpAny_bind (wpAny_setField_rec hz (by simp) λh₁ h g=>?_)
  replace h:IsZip h₁ z TI TO .ellipsis:=h
  refine wpAny_bind ?_;simp only[List.zipIdx_cons,List.zipIdx_nil,List.forIn_cons,List.forIn_nil];refine wpAny_bind (wpAny_bind (wpAny_onRaise ?_));show wpAny _ _ (Builtin.SmallTypes.nextOf (.ref i) >>= _) _ _ _;refine wpAny_bind (G.last J (G.ext O g.extBut D.i1z D.l1z) I λl e f p=>?_);obtain⟨oe,j,r⟩:=p;have m:IsZip l z TI TO .ellipsis:=f _ _ D.i1z.symm h;have M:e≠z:=λx=>by subst x;rw[m]at j;cases j;simp at r
  refine wpAny_setField_rec m (by simp) λh₃ _ n=>hE h₃ e (λc o C y x=>n.extBut _ _ C (f _ _ y (g.extBut _ _ C x))) ⟨oe,n.extBut _ _ M j,r⟩
 ·show wpAny _ _ (field (.ref z) 2 >>= _) _ _ _
  refine wpAny_bind (wpAny_field hz rfl (x:=.bool false) rfl ?_);show wpAny _ _ (field (.ref z) 3 >>= _) _ _ _;refine wpAny_bind (wpAny_field hz rfl (x:=.ref TI) rfl ?_);refine wpAny_bind (wpAny_seqItems u rfl ?_);show wpAny _ _ (Builtin.SmallTypes.ownedTupleIsFree (.ref z) >>= _) _ _ _;refine wpAny_bind ?_;unfold Builtin.SmallTypes.ownedTupleIsFree;refine wpAny_bind (wpAny_field hz rfl (x:=rawInt T) rfl ?_);show wpAny _ _ (loadIfAlive ((T:Int).toNat) >>= _) _ _ _;rw[Int.toNat_natCast];refine wpAny_bind (xut hT ?_);simp only[Option.isNone_some,Bool.false_eq_true,if_false];refine wpAny_bind (wpAny_field hz rfl (x:=.bool bb) rfl ?_)
  cases bb with
  |true=>
   simp only[bne_self_eq_false,Bool.false_eq_true,if_false];refine wpAny_pure ?_;simp only[Bool.false_eq_true,if_false,List.forIn_toArray,List.forIn_cons,List.forIn_nil];refine wpAny_bind (wpAny_bind (wpAny_bind (wpAny_holding ?_)));show wpAny _ _ (Builtin.SmallTypes.nextOf (.ref i) >>= _) _ _ _;exact wpAny_bind (G.last J O I λl e f p=>hE l e (λc o C y x=>f _ _ y x) p)
  |false=>
   rw[if_pos (by rfl)];refine wpAny_bind (wpAny_setField_rec hz (by simp) λh₁ h g=>?_);refine wpAny_pure ?_;simp only[Bool.false_eq_true,if_false,List.forIn_toArray,List.forIn_cons,List.forIn_nil];refine wpAny_bind (wpAny_bind (wpAny_bind (wpAny_holding ?_)));show wpAny _ _ (Builtin.SmallTypes.nextOf (.ref i) >>= _) _ _ _;exact wpAny_bind (G.last J (G.ext O g.extBut D.i1z D.l1z) I λl e f p=>hE l e (λc o C y x=>f _ _ y (g.extBut _ _ C x)) p)
theorem gEnd {j:Heap->Nat->Prop} {z TI TO a h g f:Addr} {k:Nat} {xs ys:Array Value} {Q:Option Value->Shared->Prop} (p:A.handled=none) (D:ZipApart z TI TO a h g f) (y:Nx prog w a g xs j) (S:Zg j s.heap z TI TO a h f ys k) (l:xs[k]?=none)
  (x:∀h',(∀c o,c≠z->c≠a->s.heap.get? c=some o->h'.get? c=some o)->Q none {s with heap:=h'}):wpAny (model prog w) A (pyNext (.ref z)) Q E s:=by
 have i:s.TypeIs (.ref z) "zip":=by
  rcases S.zip with hz |⟨T,G,C,hz,_⟩ <;> exact⟨_,hz,rfl⟩
 unfold pyNext
 refine wpAny_bind (wpAny_attempt (wpAny_callSpecial?_slot (name:=Str.ofString "__next__") i F.slot_zip_next
  (wpAny_call_entry F.slot_zip_next i F.entry_zip_next (xuq p D y S l λh' e n r=>?_) (F.args_zip_next_1 _))))
 obtain⟨o,m,u⟩:=r;refine wpAny_bind (wpAny_isInstance (T:="StopIteration") (b:=true) ⟨o,m,u⟩ isSubtype_stop ?_);exact wpAny_pure (x _ n)
theorem nxT{it l:Addr}{xs:Array Value}(f:l≠it):Nx prog w it l xs λh k=>h.IsTupleIter it l k/\h.IsTuple l xs where
 item:=λp c i=>next_item p.1 p.2 c λh' a s=>i h' ⟨a,p.2.extBut s.extBut f⟩ s
 last:=λg p c hE=>next_end g p.1 p.2 c hE
 kept:=λp a b=>⟨p.1.at a,p.2.at b⟩
 there:=λp=>by obtain⟨o,e,_⟩:=p.1;exact⟨o,e⟩
theorem item_first {z TI TO f e h g:Addr} {j i:Nat} {xs ys:Array Value} {x y a b:Value} {Q:Value->Shared->Prop} (D:ZipApart z TI TO f e h g)
  (hz:IsZip s.heap z TI TO .none) (p:IsPair s.heap TI (.ref f) (.ref e)) (n:IsPair s.heap TO a b)
  (J:s.heap.IsTupleIter f h j) (I:s.heap.IsTupleIter e g i) (m:s.heap.IsTuple h xs) (l:s.heap.IsTuple g ys) (C:xs[j]?=some x) (u:ys[i]?=some y)
  (G:∀h',IsZip h' z TI TO (rawInt s.heap.objs.size)->IsPair h' TO x y->h'.IsTupleIter f h (j+1)->h'.IsTupleIter e g (i+1)->IsPair h' s.heap.objs.size x y->h'.objs.size=s.heap.objs.size+1->
   (∀c o,c≠z->c≠TO->c≠f->c≠e->s.heap.get? c=some o->h'.get? c=some o)->Q (.ref s.heap.objs.size) {s with heap:=h'}) :
  wpAny (model prog w) A (Builtin.«zip.__next__» ⟨[.ref z],[]⟩) (λfin r=>∃v,fin=.done (.ret v)/\Q v r) E s:=xtp D hz p n (nxT D.l1i1) ⟨J,m⟩ I l C u λh' b1 b2 Z Y U O M=>G h' b1 b2 Z.1 Y U O M
theorem pyNext_end {z TI TO a f e b:Addr} {k:Nat} {xs ys:Array Value} {Q:Option Value->Shared->Prop} (h:A.handled=none) (D:ZipApart z TI TO a f e b) (S:Zs s.heap z TI TO a f e b xs ys k) (g:xs[k]?=none)
  (i:∀h',(∀c o,c≠z->c≠a->s.heap.get? c=some o->h'.get? c=some o)->Q none {s with heap:=h'}):wpAny (model prog w) A (pyNext (.ref z)) Q E s:=gEnd h D (nxT D.l1i1) ⟨S.zip,S.ti,S.to,⟨S.it1,S.t1⟩,S.it2,S.t2⟩ g i
end
abbrev zH1(h:Heap)(l1:Addr):Heap:=h.push {cls:=.type "tuple_iterator",data:=.fields #[.ref l1,.int 0 0]}
abbrev zH2(h:Heap)(l1 l2:Addr):Heap:=(zH1 h l1).push {cls:=.type "tuple_iterator",data:=.fields #[.ref l2,.int 0 0]}
abbrev zH3(h:Heap)(l1 l2:Addr):Heap:=(zH2 h l1 l2).push {cls:=.type "tuple",data:=.seq #[.ref h.objs.size,.ref (zH1 h l1).objs.size]}
abbrev zH4(h:Heap)(l1 l2:Addr):Heap:=(zH3 h l1 l2).push {cls:=.type "tuple",data:=.seq #[.none,.none]}
abbrev zH5(h:Heap)(l1 l2:Addr):Heap:=(zH4 h l1 l2).push {cls:=.type "zip",data:=.fields #[.none,.bool false,.bool false,.ref (zH2 h l1 l2).objs.size,.ref (zH3 h l1 l2).objs.size]}
theorem meets_new (a b:Addr) (xs ys:Array Value) :
  Meets (Builtin.«zip.__new__» ⟨[.type "zip",.ref a,.ref b],[]⟩) (λ_ R s=>s.heap.IsTuple a xs/\s.heap.IsTuple b ys ∧
   R (.ok (.ret (.ref (zH4 s.heap a b).objs.size))) {s with heap:=zH5 s.heap a b}):=
 .of_wp λprog w A R s h=>by
  obtain⟨n,g,d,j,l⟩:=s;obtain⟨e,c,h⟩:=h;have m:=sub_zip;have i:Heap.IsTuple (Shared.heap ⟨n,g,d,j,l⟩) a xs:=e;have f:Heap.IsTuple (Shared.heap ⟨n.push {cls:=.type "tuple_iterator",data:=.fields #[.ref a,.int 0 0]},g,d,j,l⟩) b ys:=Heap.IsTuple.push c _
  wp_walk using wpAny_pyIter_tuple i,wpAny_pyIter_tuple f
  exact⟨_,rfl,h⟩
end Zt
end
section
namespace L2
open PySem PySem.Spec PyProof.Rows
abbrev TJ:=St->Hp->Str->VK->Prop
def PJ(X:Cx)(es:List Expr)(t:TJ):Prop:=
 ∀(pins:List (Addr×Obj)) (s:Shared) (σ:St) (H:Hp) (out:Str) (Q:VK),Inv X pins σ H s->t σ H out Q->wpAny (model X.prog X.w) X.A (joinParts out (evalEach es X.env)) (EP X pins σ Q) X.xe s
def jNil:TJ:=λ_ H out Q=>out.length<=sizeLine/\Q (.str out) H
def jLit(x:Str)(t:TJ):TJ:=λσ H out Q=>(out++x).length<=sizeLine/\t σ H (out++x) Q
def jStr(te:TE)(t:TJ):TJ:=λσ H out Q=>te σ H λv H1=>∃x,v=.str x/\x.length<=sizeLine/\(out++x).length<=sizeLine/\t σ H1 (out++x) Q
section
variable {X:Cx}{e e1 e2:Expr}{es:List Expr}{te:TE}{t:TJ}{pos:Pos}
theorem xsy:PJ X [] jNil:=λ_ _ _ H out _ I h=>joinParts_nilE (joinParts_nil ⟨.str out,H,I.tok _,⟨_,rfl⟩,h.2⟩ h.1)
theorem xsz{x:Str}{j}(h:PJ X es t):PJ X (.Constant (.str x) j pos::es) (jLit x t):=by
 intro a s σ H out Q I b;refine joinParts_consE (joinParts_cons (thn (pS (X:=X) a s σ H (λv i=>v=.str x/\i=H) I ⟨rfl,rfl⟩) λv c ⟨z,l,g,r,f,e⟩=>?_));subst f e;obtain⟨t',rfl⟩:=r;exact⟨b.1,h a c σ _ _ Q g b.2⟩
theorem xsx(j:PE X e c)(h:PJ X es t):PJ X (.FormattedValue e (-1) none pos::es) (jStr c t):=by
 intro a s σ H out Q I g;refine joinParts_consE (joinParts_cons (FormattedValue_plain (thn (j a s σ H _ I g) λv n ⟨z,m,l,r,x,e,hz,i,q⟩=>?_)));subst e;obtain⟨t',rfl⟩:=r;exact formatField_str (λf b=>⟨i,h a _ σ m _ Q (l.tok b) q⟩) hz
theorem xrb(h:PJ X (e::c::es) t):PE X (.JoinedStr (e::c::es) pos) (λσ H Q=>t σ H Str.empty Q):=λa s σ H Q I b=>JoinedStr_many (h a s σ H _ Q I b)
end
section
variable {es:List Expr}{env:Env}
theorem so{c k p}:starEach (.Constant c k p::es) env=(false,eval (.Constant c k p) env)::starEach es env:=rfl
theorem zsn{x p}:starEach (.Name x p::es) env=(false,eval (.Name x p) env)::starEach es env:=rfl
theorem zsc{a b c d}:starEach (.Call a b c d::es) env=(false,eval (.Call a b c d) env)::starEach es env:=rfl
theorem xcf{a b c d}:starEach (.BinOp a b c d::es) env=(false,eval (.BinOp a b c d) env)::starEach es env:=rfl
theorem ss{a b c}:starEach (.Subscript a b c::es) env=(false,eval (.Subscript a b c) env)::starEach es env:=rfl
theorem sT{a b c}:starEach (.Tuple a b c::es) env=(false,eval (.Tuple a b c) env)::starEach es env:=rfl
theorem xg2{a b}:starEach (.List a b::es) env=(false,eval (.List a b) env)::starEach es env:=rfl
theorem xo6{a b c d}:starEach (.Compare a b c d::es) env=(false,eval (.Compare a b c d) env)::starEach es env:=rfl
theorem xmu{a b c}:starEach (.BoolOp a b c::es) env=(false,eval (.BoolOp a b c) env)::starEach es env:=rfl
theorem xmt{a b}:starEach (.JoinedStr a b::es) env=(false,eval (.JoinedStr a b) env)::starEach es env:=rfl
theorem xb1{a b c d}:starEach (.ListComp a b c d::es) env=(false,eval (.ListComp a b c d) env)::starEach es env:=rfl
theorem xb5{a b c}:starEach (.Attribute a b c::es) env=(false,eval (.Attribute a b c) env)::starEach es env:=rfl
end
end L2
end
section
namespace M
open PySem
inductive D where
 |int (i:Int)
 |str (x:Str)
 |tup (ds:List D)
inductive All2{α β:Type}(R:α->β->Prop):List α->List β->Prop where
 |nil:All2 R [] []
 |cons {a b as bs} (h:R a b) (t:All2 R as bs):All2 R (a::as) (b::bs)
theorem All2.length{α β:Type}{R:α->β->Prop}{as:List α}{bs:List β}(h:All2 R as bs):as.length=bs.length:=by
 induction h with
 |nil=>rfl
 |cons _ _ a=>simp[a]
theorem All2.imp{α β:Type}{R S:α->β->Prop}{as:List α}{bs:List β}(h:All2 R as bs)(f:∀a b,R a b->S a b):All2 S as bs:=by
 induction h with
 |nil=>exact .nil
 |cons h _ c=>exact .cons (f _ _ h) c
theorem All2.get{α β:Type}{R:α->β->Prop}{as:List α}{bs:List β}(h:All2 R as bs):∀{i:Nat} {a:α},as[i]?=some a->∃b,bs[i]?=some b/\R a b:=by
 induction h with
 |nil=>intro i a e;simp at e
 |cons h _ c=>
  intro i a e
  cases i with
  |zero=>simp at e;subst e;exact⟨_,by simp,h⟩
  |succ i=>simpa using c (i:=i) (a:=a) (by simpa using e)
def S(s:String):Str:=Str.ofString s
def xes(c:Nat):Bool:=97<=c && c<=122
def xn1(x:List Nat):Bool:=1<=x.length && x.length<=6 && x.all xes && x != [110,117,109] && x != [105,116]
def Name(x:Str):Prop:=xn1 x.cps.toList=true
theorem Name.le{x:Str}(h:Name x):x.cps.toList.length<=6:=by
 unfold Name xn1 at h;simp only[Bool.and_eq_true,decide_eq_true_eq]at h;exact h.1.1.1.2
def L(x:Str):List Nat:=x.cps.toList
def ofL(l:List Nat):Str:=⟨l.toArray⟩
theorem xek(l:List Nat):L (ofL l)=l:=rfl
theorem xtc(x:Str):ofL (L x)=x:=by
 cases x;rfl
theorem xp6{x y:Str}(h:L x=L y):x=y:=by
 rw[<- xtc x,<- xtc y,h]
theorem xey(x y:Str):L (x++y)=L x++L y:=by
 show(x.cps++y.cps).toList=_;simp[L]
theorem xex(x:Str):(L x).length=x.length:=by
 simp[L,Str.length]
end M
end
section
namespace M
open PySem L2
mutual
def RelD(H:Hp):V->D->Prop
 |v,.int i=>v=.int i
 |v,.str x=>v=.str x
 |v,.tup ds=>∃a vs,v=.ref a/\H a=some (.tup vs)/\RelDs H vs ds
def RelDs(H:Hp):List V->List D->Prop
 |vs,[]=>vs=[]
 |vs,d::ds=>∃v r,vs=v::r/\RelD H v d/\RelDs H r ds
end
mutual
theorem RelD.same{H H':Hp}(s:Same H H'):∀{v:V} (d:D),RelD H v d->RelD H' v d
 |v,.int i,h=>h
 |v,.str x,h=>h
 |v,.tup ds,⟨a,vs,e,ha,h⟩=>⟨a,vs,e,s _ _ ha,RelDs.same s ds h⟩
theorem RelDs.same{H H':Hp}(s:Same H H'):∀{vs:List V} (ds:List D),RelDs H vs ds->RelDs H' vs ds
 |vs,[],h=>h
 |vs,d::ds,⟨v,r,e,h1,h2⟩=>⟨v,r,e,RelD.same s d h1,RelDs.same s ds h2⟩
end
theorem RelDs.length{H:Hp}:∀{vs:List V} {ds:List D},RelDs H vs ds->vs.length=ds.length
 |vs,[],h=>by rw[show vs=[] from h];rfl
 |vs,d::ds,⟨v,r,e,_,a⟩=>by rw[e,List.length_cons,List.length_cons,RelDs.length a]
theorem RelDs.append{H:Hp}:∀{vs us:List V} {ds es:List D},RelDs H vs ds->RelDs H us es->RelDs H (vs++us) (ds++es)
 |vs,us,[],es,h,k=>by rw[show vs=[] from h];exact k
 |vs,us,d::ds,es,⟨v,r,e,b,a⟩,k=>by subst e;exact⟨v,r++us,rfl,b,RelDs.append a k⟩
theorem RelDs.get{H:Hp}:∀{vs:List V} {ds:List D} {i:Nat} {v:V},RelDs H vs ds->vs[i]?=some v->∃d,ds[i]?=some d/\RelD H v d
 |vs,[],i,v,h,e=>by rw[show vs=[] from h]at e;simp at e
 |vs,d::ds,0,v,⟨u,r,a,g,_⟩,e=>by
  subst a;simp at e;subst e;exact⟨d,rfl,g⟩
 |vs,d::ds,i+1,v,⟨u,r,a,_,f⟩,e=>by
  subst a;obtain⟨x,b,c⟩:=RelDs.get (i:=i) (v:=v) f (by simpa using e);exact⟨x,by simpa using b,c⟩
theorem iteKF{c A B:Prop}[Decidable c](h:decide c=false)(b:B):if decide c=true then A else B:=by
 rw[h];exact b
theorem iteKT{c A B:Prop}[Decidable c](h:decide c=true)(a:A):if decide c=true then A else B:=by
 rw[h];exact a
theorem xum{c:Bool}{A B:Prop}(h:c=false)(b:B):if c=true then A else B:=by
 rw[h];exact b
theorem xpy{c:Bool}{A B:Prop}(h:c=true)(a:A):if c=true then A else B:=by
 rw[h];exact a
mutual
theorem RelD.tups{H H':Hp}(s:∀b vs,H b=some (.tup vs)->H' b=some (.tup vs)):∀{v:V} (d:D),RelD H v d->RelD H' v d
 |v,.int i,h=>h
 |v,.str x,h=>h
 |v,.tup ds,⟨a,vs,e,ha,h⟩=>⟨a,vs,e,s _ _ ha,RelDs.tups s ds h⟩
theorem RelDs.tups{H H':Hp}(s:∀b vs,H b=some (.tup vs)->H' b=some (.tup vs)):∀{vs:List V} (ds:List D),RelDs H vs ds->RelDs H' vs ds
 |vs,[],h=>h
 |vs,d::ds,⟨v,r,e,h1,h2⟩=>⟨v,r,e,RelD.tups s d h1,RelDs.tups s ds h2⟩
end
theorem xar{a:Addr}{H c:Hp}(g:∃p q:Int,H a=some (.lst [.int p,.int q]))(f:Fed a H c):∀b vs,H b=some (.tup vs)->c b=some (.tup vs):=λb vs e=>f.1 b _ e λz=>by
 obtain⟨p,q,h⟩:=g;rw[z,h]at e;cases e
def xc5(c:Nat):Str:=⟨#[c]⟩
theorem xi1:∀cs:List Nat,Txt.join (S "") (cs.map xc5)=ofL cs:=by
 have h:∀cs:List Nat,L (Str.join (S "") (cs.map xc5))=cs:=by
  intro cs
  induction cs with
  |nil=>rfl
  | cons c r a=>
   cases r with
   |nil=>rfl
   |cons d r=>
    show L (xc5 c++S ""++Str.join (S "") ((d::r).map xc5))=_;rw[xey,xey,a];have e:L (S "")=[]:=by walk_at"k"
    rw[e];rfl
 intro cs;apply xp6;show L (Builtin.Str.glued (S "") (cs.map xc5))=cs;rw[StrLaws.glued_eq_join,h]
theorem xjh(cs:List Nat):((cs.map xc5).map (·.length)).sum=cs.length:=by
 induction cs with
 |nil=>rfl
 |cons c r a=>
  show(xc5 c).length+((r.map xc5).map (·.length)).sum=r.length+1;rw[a,show(xc5 c).length=1 from rfl];omega
theorem xlp{α:Type}{cs:List α}{r:Int}(h0:0<=r)(h:r<(cs.length:Int)):∃c∈cs,atI cs r=some c:=by
 have a:r.toNat<cs.length:=by omega
 have b:r=((r.toNat:Nat):Int):=by omega
 refine⟨cs[r.toNat],List.getElem_mem a,?_⟩;have q:atI cs ((r.toNat:Nat):Int)=some cs[r.toNat]:=xas (zGA a);rw[<- b]at q;exact q
end M
end
section
namespace L2
open PySem PySem.Spec PyProof.Rows
section
variable {κ:Type}[DecidableEq κ]
def valV(kvs:List (κ×V))(k:κ):Option V:=(kvs.find? λkv=>decide (kv.1=k)).map (·.2)
def putK(kvs:List (κ×V))(k:κ)(v:V):List (κ×V):=
 if (kvs.any λkv=>decide (kv.1=k))=true then kvs.map (λkv=>if kv.1=k then (kv.1,v) else kv) else kvs++[(k,v)]
theorem xci{p:κ×V}{r:List (κ×V)}{k:κ}(e:p.1=k):valV (p::r) k=some p.2:=by simp[valV,List.find?_cons,e]
theorem xcj{p:κ×V}{r:List (κ×V)}{k:κ}(e:¬p.1=k):valV (p::r) k=valV r k:=by simp[valV,List.find?_cons,e]
theorem xel(k:κ):∀kvs:List (κ×V),(kvs.any λkv=>decide (kv.1=k))=(valV kvs k).isSome
 |[]=>rfl
 |p::r=>by
  rw[List.any_cons];by_cases e:p.1=k
  ·simp only[xci e,zDT e,Bool.true_or,Option.isSome_some]
  ·rw[xcj e,zDF e,Bool.false_or];exact xel k r
theorem xkt(k j:κ)(y:V):∀kvs:List (κ×V),valV (kvs.map λkv=>if kv.1=k then (kv.1,y) else kv) j=(valV kvs j).map λx=>if j=k then y else x
 |[]=>rfl
 | p::r=>by
  have a:=xkt k j y r;rw[List.map_cons];by_cases h:p.1=k
  ·rw[if_pos h]
   by_cases e:p.1=j
   ·rw[xci (p:=(p.1,y)) e,xci e,Option.map_some,if_pos (e.symm.trans h)]
   ·rw[xcj (p:=(p.1,y)) e,xcj e,a]
  ·rw[if_neg h]
   by_cases e:p.1=j
   ·rw[xci (p:=p) e,xci e,Option.map_some,if_neg (λz=>h (e.trans z))]
   ·rw[xcj (p:=p) e,xcj e,a]
theorem xhu(k j:κ)(y:V):∀kvs:List (κ×V),valV kvs k=none->valV (kvs++[(k,y)]) j=if j=k then some y else valV kvs j
 |[],_=>by
  by_cases e:k=j
  ·rw[if_pos e.symm];exact xci (p:=(k,y)) e
  ·rw[if_neg (λz=>e z.symm)];exact xcj (p:=(k,y)) e
 |p::r,hn=>by
  rw[List.cons_append];have a:¬p.1=k:=λz=>by rw[xci z]at hn;cases hn
  rw[xcj a]at hn;have b:=xhu k j y r hn;by_cases e:p.1=j
  ·rw[xci e,xci e,if_neg (λz=>a (e.trans z))]
  ·rw[xcj e,xcj e,b]
theorem xcz(kvs:List (κ×V))(k j:κ)(y:V):valV (putK kvs k y) j=if j=k then some y else valV kvs j:=by
 unfold putK;by_cases a:(kvs.any λkv=>decide (kv.1=k))=true
 ·rw[if_pos a,xkt]
  rw[xel]at a;by_cases e:j=k
  ·obtain⟨x,b⟩:=Option.isSome_iff_exists.mp a
   rw[if_pos e,e,b,Option.map_some,if_pos rfl]
  ·rw[if_neg e]
   cases valV kvs j with
   |none=>rfl
   |some x=>rw[Option.map_some,if_neg e]
 ·rw[if_neg a]
  refine xhu k j y kvs ?_;rw[xel]at a
  cases q:valV kvs k with
  |none=>rfl
  |some x=>rw[q]at a;exact(a rfl).elim
theorem xdk(kvs:List (κ×V))(k:κ)(v:V):(putK kvs k v).length<=kvs.length+1:=by
 unfold putK;split
 ·rw[zLM];omega
 ·rw[zLA,List.length_cons,List.length_nil];omega
theorem xpa{kvs:List (κ×V)}{k:κ}(v:V)(h:valV kvs k=none):putK kvs k v=kvs++[(k,v)]:=by
 unfold putK;rw[xel,h];exact if_neg (by decide)
theorem RelO.isSome_eq{o:Option V}{u:Option Value}(r:RelO o u):o.isSome=u.isSome:=by
 cases o with
 |none=>cases u with
  |none=>rfl
  |some _=>exact(show False from r).elim
 |some _=>cases u with
  |none=>exact(show False from r).elim
  |some _=>rfl
theorem KV.val{kvs:List (κ×V)}{vs:List (κ×Value)}(r:KV kvs vs)(k:κ):RelO (valV kvs k) (valueAt vs k):=by
 unfold KV at r
 induction r with
 |nil=>exact True.intro
 | @cons p q ps qs h t ih=>
  obtain⟨h1,h2⟩:=h;by_cases e:p.1=k
  ·have e':q.1=k:=h1.symm.trans e
   have b:valueAt (q::qs) k=some q.2:=by simp[valueAt,List.find?_cons,e']
   rw[xci e,b];exact h2
  ·have e':¬q.1=k:=λz=>e (h1.trans z)
   have b:valueAt (q::qs) k=valueAt qs k:=by simp[valueAt,List.find?_cons,e']
   rw[xcj e,b];exact ih
theorem KV.any{kvs:List (κ×V)}{vs:List (κ×Value)}(r:KV kvs vs)(k:κ):(kvs.any λkv=>decide (kv.1=k))=vs.any λkv=>decide (kv.1=k):=by
 unfold KV at r
 induction r with
 |nil=>rfl
 |cons h t a=>rw[List.any_cons,List.any_cons,a,h.1]
theorem KV.repl {kvs:List (κ×V)} {vs:List (κ×Value)} (r:KV kvs vs) (k:κ) {y:V} {u:Value} (b:RelV y u) :
  KV (kvs.map λkv=>if kv.1=k then (kv.1,y) else kv) (vs.map λkv=>if kv.1=k then (kv.1,u) else kv):=by
 unfold KV at r⊢
 induction r with
 |nil=>exact .nil
 |@cons p q ps g h t c=>
  rw[List.map_cons,List.map_cons];refine .cons ?_ c;obtain⟨a,f⟩:=h;by_cases e:p.1=k
  ·rw[if_pos e,if_pos (a.symm.trans e)];exact⟨a,b⟩
  ·rw[if_neg e,if_neg (λz=>e (a.trans z))];exact⟨a,f⟩
theorem KV.put{kvs:List (κ×V)}{vs:List (κ×Value)}(r:KV kvs vs)(k:κ){y:V}{u:Value}(a:RelV y u):KV (putK kvs k y) (stored vs k u):=by
 unfold putK stored;rw[r.any k];by_cases e:(vs.any λkv=>decide (kv.1=k))=true
 ·rw[if_pos e,if_pos e];exact r.repl k a
 ·rw[if_neg e,if_neg e];exact Paired.snoc r ⟨rfl,a⟩
theorem KV.length{kvs:List (κ×V)}{vs:List (κ×Value)}(r:KV kvs vs):kvs.length=vs.length:=Paired.length r
end
theorem xj8{P:Program}{w:World}{k:Key}{u:Value}(r:RelV (kV k) u):(xbv P w).is k u=true:=by
 cases k with
 |inl i=>obtain⟨t,e⟩:=(show ∃t,u=Value.int i t from r);subst e;exact xj5 P w i t
 |inr x=>obtain⟨t,e⟩:=(show ∃t,u=Value.str x t from r);subst e;exact xj4 P w x t
theorem xi2{P:Program}{w:World}:∀{ks:List Key} {us:List Value},Vals (ks.map kV) us->ItemsAre (xbv P w) ks us
 |[],_,r=>by rw[List.map_nil]at r;cases r;exact .nil
 |k::ks,_,r=>by
  rw[List.map_cons]at r
  cases r with
  |cons h t=>exact .cons (xj8 h) (xi2 t)
abbrev KT(H:Hp):List (List Key×V)->List (List Key×Addr×Value)->Prop:=Paired λp q=>p.1=q.1/\H q.2.1=some (.tup (p.1.map kV))/\RelV p.2 q.2.2
theorem KT.val{H:Hp}{kvs:List (List Key×V)}{xs:List (List Key×Addr×Value)}(r:KT H kvs xs)(k:List Key):RelO (valV kvs k) ((atKey xs k).map (·.2)):=by
 induction r with
 |nil=>exact True.intro
 | @cons p q ps a h t g=>
  obtain⟨f,_,i⟩:=h;by_cases e:p.1=k
  ·have c:q.1=k:=f.symm.trans e
   have b:atKey (q::a) k=some q.2:=by simp[atKey,List.find?_cons,c]
   rw[xci e,b];exact i
  ·have c:¬q.1=k:=λz=>e (f.trans z)
   have b:atKey (q::a) k=atKey a k:=by simp[atKey,List.find?_cons,c]
   rw[xcj e,b];exact g
theorem KT.repl {H:Hp} {kvs:List (List Key×V)} {xs:List (List Key×Addr×Value)} (r:KT H kvs xs) (k:List Key) {y:V} {u:Value} (c:RelV y u) :
  KT H (kvs.map λkv=>if kv.1=k then (kv.1,y) else kv) (xs.map (putAt k u)):=by
 induction r with
 |nil=>exact .nil
 |@cons p q ps i h t f=>
  rw[List.map_cons,List.map_cons];refine .cons ?_ f;obtain⟨a,b,g⟩:=h;unfold putAt;by_cases e:p.1=k
  ·rw[if_pos e,if_pos (a.symm.trans e)];exact⟨a,b,c⟩
  ·rw[if_neg e,if_neg (λz=>e (a.trans z))];exact⟨a,b,g⟩
theorem KT.put {H:Hp} {kvs:List (List Key×V)} {xs:List (List Key×Addr×Value)} (r:KT H kvs xs) (k:List Key) {b:Addr} {y:V} {u:Value} (c:H b=some (.tup (k.map kV))) (a:RelV y u) :
  KT H (putK kvs k y) (storedH xs k b u):=by
 have e:(kvs.any λkv=>decide (kv.1=k))=(atKey xs k).isSome:=by
  rw[xel,(r.val k).isSome_eq,Option.isSome_map]
 unfold putK storedH;rw[e];by_cases q:(atKey xs k).isSome=true
 ·rw[if_pos q,if_pos q];exact r.repl k a
 ·rw[if_neg q,if_neg q];exact Paired.snoc r ⟨rfl,c,a⟩
theorem KT.keeps{H a:Hp}{kvs:List (List Key×V)}{xs:List (List Key×Addr×Value)}(r:KT H kvs xs)(c:∀b ys,H b=some (.tup ys)->a b=some (.tup ys)):KT a kvs xs:=
 Paired.mapP r λ_ _ z=>⟨z.1,c _ _ z.2.1,z.2.2⟩
section
variable {P:Program}{w:World}{H:Hp}{h:Heap}{a:Addr}
theorem xsr{u:HO}(ok:HOk P w H h)(e:Rd H a u):ObjOk P w H h a u:=e.ok ok
theorem xkh{kvs:List (Key×V)}(ok:HOk P w H h)(e:Rd H a (.dK kvs)):kvs.length<=sizeLine/\(a == sysModules)=false/\∃vs,KV kvs vs/\h.DictOf (xbv P w) a vs:=
 show ObjOk P w H h a (.dK kvs) from xsr ok e
theorem xki{kvs:List (Key×V)}(ok:HOk P w H h)(e:H a=some (.dK kvs)):kvs.length<=sizeLine/\(a == sysModules)=false/\∃vs,KV kvs vs/\h.DictOf (xbv P w) a vs:=xkh ok (.inl e)
theorem xi0{ks:List Key}(ok:HOk P w H h)(e:H a=some (.tup (ks.map kV))):(tupleKind (xbv P w)).is h ks a:=by
 obtain⟨_,its,r,o,h1,h2,n,h3,_⟩:=(show ObjOk P w H h a (.tup (ks.map kV)) from ok a _ e);exact⟨o,its.toArray,n,h1,h2,h3,by simpa using xi2 r⟩
theorem xml {kvs:List (List Key×V)} (ok:HOk P w H h) (e:Rd H a (.dT kvs)):kvs.length<=sizeLine/\(a == sysModules)=false ∧
  ∃xs,KT H kvs xs/\h.DictOfH (tupleKind (xbv P w)) a xs:=by
 obtain⟨z,y,xs,r,o,es,ep,s,n,j,i,g⟩:=(show ObjOk P w H h a (.dT kvs) from xsr ok e);refine⟨z,y,xs,r,o,es,ep,s,n,j,i,λx b=>?_,g⟩
 have all:∀{l:List (List Key×V)} {m:List (List Key×Addr×Value)},KT H l m->∀x∈m,(tupleKind (xbv P w)).is h x.1 x.2.1:=by
  intro l m q
  induction q with
  |nil=>intro x b;exact nomatch b
  | @cons p q ps u c t f=>
   intro x b;rcases zMC b with e |b
   ·subst e
    exact xi0 ok (by rw[<- c.1];exact c.2.1)
   ·exact f x b
 exact all r x b
theorem xus {kvs:List (List Key×V)} (ok:HOk P w H h) (e:H a=some (.dT kvs)):kvs.length<=sizeLine/\(a == sysModules)=false ∧
  ∃xs,KT H kvs xs/\h.DictOfH (tupleKind (xbv P w)) a xs:=xml ok (.inl e)
end
def DGet(H:Hp)(a:Addr)(y:V)(r:Option V):Prop:=
 (∃kvs k,Rd H a (.dK kvs)/\y=kV k/\r=valV kvs k)\/∃kvs k b,Rd H a (.dT kvs)/\y=.ref b/\H b=some (.tup (k.map kV))/\r=valV kvs k
def DPut(H:Hp)(a:Addr)(y v:V)(H':Hp):Prop:=
 (∃kvs k,H a=some (.dK kvs)/\y=kV k/\kvs.length<sizeLine/\H'=upd H a (.dK (putK kvs k v))) ∨
 ∃kvs k b,H a=some (.dT kvs)/\y=.ref b/\H b=some (.tup (k.map kV))/\kvs.length<sizeLine/\H'=upd H a (.dT (putK kvs k v))
theorem DGet.k{H:Hp}{a:Addr}{kvs:List (Key×V)}{k:Key}(e:H a=some (.dK kvs)):DGet H a (kV k) (valV kvs k):=.inl ⟨kvs,k,.inl e,rfl,rfl⟩
theorem DGet.t{H:Hp}{a b:Addr}{kvs:List (List Key×V)}{k:List Key}(e:H a=some (.dT kvs))(c:H b=some (.tup (k.map kV))):DGet H a (.ref b) (valV kvs k):=.inr ⟨kvs,k,b,.inl e,rfl,c,rfl⟩
theorem DPut.k{H:Hp}{a:Addr}{kvs:List (Key×V)}{k:Key}{v:V}(e:H a=some (.dK kvs))(b:kvs.length<sizeLine):DPut H a (kV k) v (upd H a (.dK (putK kvs k v))):=.inl ⟨kvs,k,e,rfl,b,rfl⟩
theorem DPut.t {H:Hp} {a b:Addr} {kvs:List (List Key×V)} {k:List Key} {v:V} (e:H a=some (.dT kvs)) (f:H b=some (.tup (k.map kV))) (c:kvs.length<sizeLine) :
  DPut H a (.ref b) v (upd H a (.dT (putK kvs k v))):=.inr ⟨kvs,k,b,e,rfl,f,c,rfl⟩
section
variable {X:Cx}{pins:List (Addr×Obj)}{σ:St}{H:Hp}{s:Shared}{a:Addr}{y v:V}{u r:Value}{o:Option V}{A:Around}{E:Value->Shared->Prop}
theorem Inv.big(I:Inv X pins σ H s):sysModules<s.heap.objs.size:=by
 have h:mainGlobals<s.heap.objs.size:=(I.mod.glob.keeps I.bk).lt;exact Nat.lt_trans (by decide) h
theorem xow {Q:Value->Shared->Prop} (hu:A.units+1<cLine) (I:Inv X pins σ H s) (g:DGet H a y (some v)) (ry:RelV y u) (h:∀w' s',Inv X pins σ H s'->RelV v w'->Q w' s') :
  wpAny (model X.prog X.w) A (getItem (.ref a) u) Q E s:=by
 rcases g with⟨kvs,k,e,ey,l⟩ |⟨kvs,k,b,e,ey,eb,l⟩
 ·subst ey
  obtain⟨z,hd,vs,rel,dd⟩:=xkh I.hok e;obtain⟨w',hw,rw'⟩:=RelO.some_of (v:=v) (o:=valueAt vs k) (by rw[l];exact rel.val k);exact wpAny_getItem_of (xj8 ry) dd.mapOf hw (h w' _ (I.tok _) rw')
 ·subst ey
  cases (show u=Value.ref b from ry);obtain⟨z,hd,xs,rel,dd⟩:=xml I.hok e;obtain⟨w',hw,rw'⟩:=RelO.some_of (v:=v) (o:=(atKey xs k).map (·.2)) (by rw[l];exact rel.val k);obtain⟨p,hp,hp2⟩:=zMS hw;refine wpAny_getItem_heap (tupleKind_room_in1 hu) (xi0 I.hok eb) dd hp ?_;rw[hp2];exact h w' _ (I.tok _) rw'
theorem d_in {Q:Value->Shared->Prop} (hu:A.units+1<cLine) (I:Inv X pins σ H s) (g:DGet H a y o) (ry:RelV y u) (h:∀s',Inv X pins σ H s'->Q (.bool o.isSome) s') :
  wpAny (model X.prog X.w) A (compareOp .In u (.ref a)) Q E s:=by
 rcases g with⟨kvs,k,e,ey,l⟩ |⟨kvs,k,b,e,ey,eb,l⟩
 ·subst ey
  obtain⟨z,hd,vs,rel,dd⟩:=xkh I.hok e;refine wpAny_in_of (xj8 ry) hd dd.mapOf ?_;rw[<- (rel.val k).isSome_eq,<- l];exact h _ (I.tok _)
 ·subst ey
  cases (show u=Value.ref b from ry);obtain⟨z,hd,xs,rel,dd⟩:=xml I.hok e;refine wpAny_in_heap (tupleKind_room_in1 hu) (xi0 I.hok eb) hd dd ?_;have q:=(rel.val k).isSome_eq;rw[Option.isSome_map]at q;rw[<- q,<- l];exact h _ (I.tok _)
theorem xr2 {Q:Value->Shared->Prop} (n:A.units+1<cLine) (I:Inv X pins σ H s) (g:DGet H a y o) (m:RelV y u) (h:∀j,Inv X pins σ H j->Q (.bool (!o.isSome)) j) :
  wpAny (model X.prog X.w) A (compareOp .NotIn u (.ref a)) Q E s:=by
 rcases g with⟨kvs,k,e,f,l⟩ |⟨kvs,k,b,e,f,p,l⟩
 ·subst f
  obtain⟨z,hd,vs,c,i⟩:=xkh I.hok e;refine wpAny_notIn_of (xj8 m) hd i.mapOf ?_;rw[<- (c.val k).isSome_eq,<- l];exact h _ (I.tok _)
 ·subst f
  cases (show u=Value.ref b from m);obtain⟨z,hd,xs,c,i⟩:=xml I.hok e;refine wpAny_notIn_heap (tupleKind_room_in1 n) (xi0 I.hok p) hd i ?_;have q:=(c.val k).isSome_eq;rw[Option.isSome_map]at q;rw[<- q,<- l];exact h _ (I.tok _)
theorem xkl {h':Heap} {t':Nat} {ob:HO} (I:Inv X pins σ H s) (mu:Mut (H a)) (hs:Heap.SameBut a s.heap h') (he:∃q,h'.get? a=some q) (new:ObjOk X.prog X.w (upd H a ob) h' a ob) :
  Inv X pins σ (upd H a ob) {s with heap:=h',toks:=t'}:=
 I.write (x:=a) (e:=a) mu (.inl rfl) (λb q hb z=>(hs.2 b hb).trans z) he new
theorem xi3 {P:Program} {w:World} {e:Hp} {h':Heap} {kvs:List (Key×V)} {vs:List (Key×Value)} (z:kvs.length<=sizeLine) (hd:(a == sysModules)=false) (b:KV kvs vs) (c:h'.DictOf (xbv P w) a vs) :
  ObjOk P w e h' a (.dK kvs):=⟨z,hd,vs,b,c⟩
theorem xov {H':Hp} {Q:Unit->Shared->Prop} (hu:A.units+1<cLine) (I:Inv X pins σ H s) (g:DPut H a y v H') (ry:RelV y u) (rv:RelV v r) (h:∀s',Inv X pins σ H' s'->Q () s') :
  wpAny (model X.prog X.w) A (setItem (.ref a) u r) Q E s:=by
 rcases g with⟨kvs,k,e,ey,l,eH⟩ |⟨kvs,k,b,e,ey,eb,l,eH⟩
 ·subst ey eH
  obtain⟨z,hd,vs,rel,dd⟩:=xki I.hok e;have hz:vs.length<=sizeLine:=by rw[<- rel.length];exact z
  have hl:(putK kvs k v).length<=sizeLine:=by have:=xdk kvs k v;omega
  refine wpAny_setItem_pairs (hsz:=hz) (xj8 ry) dd λh' dd' hs=>h _ ?_;have he:∃q,h'.get? a=some q:=let ⟨q,_,_,hq,_⟩:=dd';⟨q,hq⟩;exact xkl I (by rw[e];exact True.intro) hs he (xi3 hl hd (rel.put k rv) dd')
 ·subst ey eH
  cases (show u=Value.ref b from ry);obtain⟨z,hd,xs,rel,dd⟩:=xus I.hok e;have hz:xs.length<=sizeLine:=by rw[<- Paired.length rel];exact z
  have hl:(putK kvs k v).length<=sizeLine:=by have:=xdk kvs k v;omega
  refine wpAny_setItem_heap (hsz:=hz) (tupleKind_room_in1 hu) (xi0 I.hok eb) dd λh' dd' hs=>h _ ?_;obtain⟨q,es,ep,hq,h2,h3,h4,_,h5⟩:=dd';refine xkl I (by rw[e];exact True.intro) hs ⟨q,hq⟩ ⟨hl,hd,_,(rel.put k eb rv).keeps λc ys ec=>?_,q,es,ep,hq,h2,h3,h4,h5⟩;rw[xai (xuk ec e (λz=>nomatch z))];exact ec
end
def NoSl(i:Expr):Prop:=∀ov iv,subscripted i false ov iv=operate [ov,iv] (getItem ov iv)
theorem xq1 {prog:Program} {w:World} {A:Around} {E:Value->Shared->Prop} {s:Shared} {env:Env} {value a:Expr} {pos:Pos} {T id:String} {Q:Value->Shared->Prop}
  (l:typeLookup (.type T) "__getitem__"=pure (some (.builtin id))) (hs:NoSl a)
  (h:wpAny (model prog w) A (eval value env) (λo f=>wpAny (model prog w) A (eval a env) (λi b=>b.TypeIs o T/\wpAny (model prog w) A (getItem o i) Q E b) E f) E s) :
  wpAny (model prog w) A (eval (.Subscript value a pos) env) Q E s:=by
 refine Subscript_ (wpAny_mono h (λo f h₁=>wpAny_mono h₁ (λi b c=>?_) λ_ _ x=>x) λ_ _ x=>x);obtain⟨g,c⟩:=c;unfold subscriptTail;refine wpAny_bind ?_;rw[getitemInPython_of_ne g.not_modules];refine wpAny_bind (wpAny_specialOf g l ?_)
 have fin:wpAny (model prog w) A (subscripted a false o i) (λr e=>wpAny (model prog w) A (letTemporaryGo value o r >>= λ_=>pure r) Q E e) E b:=by
  rw[hs o i];exact wpAny_operating (wpAny_mono c (λr e j=>wpAny_bind (wpAny_letTemporaryGo (wpAny_pure j))) λ_ _ x=>x)
 first
  |exact wpAny_pure (wpAny_bind fin)
  |exact wpAny_bind (wpAny_pure (wpAny_bind fin))
  |exact wpAny_bind fin
theorem xkj{X:Cx}{pins:List (Addr×Obj)}{σ:St}{H:Hp}{s:Shared}{a:Addr}{y:V}{o:Option V}(I:Inv X pins σ H s)(g:DGet H a y o):s.TypeIs (.ref a) "dict":=by
 rcases g with⟨kvs,k,e,_,_⟩ |⟨kvs,k,b,e,_,_,_⟩
 ·obtain⟨_,_,vs,_,c⟩:=xkh I.hok e
  exact c.typeIs
 ·obtain⟨_,_,xs,_,c⟩:=xml I.hok e
  exact c.typeIs
def xt4(td ty:TE):TE:=λσ H Q=>td σ H λx H1=>ty σ H1 λy H2=>∃a v,x=.ref a/\DGet H2 a y (some v)/\Q v H2
def tDIn(ty td:TE):TE:=λσ H Q=>ty σ H λy H1=>td σ H1 λx H2=>∃a o,x=.ref a/\DGet H2 a y o/\Q (.bl o.isSome) H2
def xqy(ty td:TE):TE:=λσ H Q=>ty σ H λy H1=>td σ H1 λx H2=>∃a o,x=.ref a/\DGet H2 a y o/\Q (.bl (!o.isSome)) H2
def xua(td ty tv:TE):TS:=λD σ H=>tv σ H λv H1=>td σ H1 λx H2=>ty σ H2 λy H3=>∃a H4,x=.ref a/\DPut H3 a y v H4/\D.nx σ H4
section
variable {X:Cx}{o i e value:Expr}{pos pos' tpos:Pos}{td ty tv:TE}
theorem xcm(n:X.A.units+1<cLine)(p:PE X o td)(hi:PE X i ty)(hs:NoSl i):PE X (.Subscript o i pos) (xt4 td ty):=by
 intro pins s σ H Q I h;refine xq1 PySem.F.slot_dict_getitem.lookup hs (thn (p pins s σ H _ I h) λu e ⟨x,C,w,j,m⟩=>thn (hi pins e σ C _ w m) λO M ⟨y,z,c,f,a,v,ex,g,l⟩=>?_);subst ex;obtain rfl:u=Value.ref a:=j;exact⟨xkj c g,xow n c g f λG J r b=>⟨v,z,r,b,l⟩⟩
theorem xni(m:X.A.units+1<cLine)(hi:PE X i ty)(n:PE X o td):PC X .In i o (tDIn ty td):=by
 intro pins s σ H Q I h;refine thn (hi pins s σ H _ I h) λM b ⟨y,C,w,c,j⟩=>thn (n pins b σ C _ w j) λu J ⟨x,z,r,e,a,l,ex,g,f⟩=>?_;subst ex;obtain rfl:u=Value.ref a:=e;exact d_in m r g c λG p=>⟨.bl l.isSome,z,p,rfl,f⟩
theorem xdu(m:X.A.units+1<cLine)(hi:PE X i ty)(n:PE X o td):PC X .NotIn i o (xqy ty td):=by
 intro pins s σ H Q I h;refine thn (hi pins s σ H _ I h) λM b ⟨y,C,w,c,j⟩=>thn (n pins b σ C _ w j) λu J ⟨x,z,r,e,a,l,ex,g,f⟩=>?_;subst ex;obtain rfl:u=Value.ref a:=e;exact xr2 m r g c λG p=>⟨.bl (!l.isSome),z,p,rfl,f⟩
theorem xha (w:X.A.units+1<cLine) (z:PE X o td) (hi:PE X i ty) (p:PE X value tv) (hs:swapsWith value (some (.Subscript o i pos')) pos.line X.env=pure false) :
  PS X (.Assign [.Subscript o i pos'] value pos) (xua td ty tv):=by
 intro pins s σ H D I h;refine wpAny_Assign_Subscript (thn (p pins s σ H _ I h) λr c ⟨v,Y,M,j,n⟩=>thn (z pins c σ Y _ M n) λu b ⟨x,U,J,f,m⟩=>thn (hi pins b σ U _ J m) λiv s3 ⟨y,H3,G,e,a,O,ex,g,l⟩=>?_) hs;subst ex;obtain rfl:u=Value.ref a:=f;exact xov w G g e j λZ C=>⟨σ,O,C,l⟩
end
theorem xlj{P:Program}{w:World}{H:Hp}(h:Heap)(a:sysModules<h.objs.size):ObjOk P w H (h.push {cls:=.type "dict",data:=.dict #[]}) h.objs.size (.dK []):=
 ⟨Nat.zero_le _,beq_eq_false_iff_ne.mpr (Ne.symm (Nat.ne_of_lt a)),[],.nil,Heap.DictOf.new h⟩
def xsf:TE:=λ_ H Q=>∀p,H p=none->Q (.ref p) (upd H p (.dK []))
section
variable {X:Cx}{pos:Pos}
theorem xhd:PE X (.Dict [] [] pos) xsf:=λpins s σ H Q I h=>
 wpAny_Dict_empty ⟨.ref s.heap.objs.size,_,I.laid (a:=s.heap.objs.size) (o:=.dK []) (t':=s.toks) (λ_ _ q=>zPO _ q) (Nat.le_refl _) (xlj s.heap I.big),rfl,h _ (I.hok.fresh (Nat.le_refl _))⟩
end
def xmq:List (TE×TE)->St->Hp->(List (V×V)->Hp->Prop)->Prop
 |[],_,H,Q=>Q [] H
 |(tk,tv)::r,σ,H,Q=>tk σ H λx H1=>tv σ H1 λy H2=>xmq r σ H2 λps H3=>Q ((x,y)::ps) H3
abbrev VV:List (V×V)->List (Value×Value)->Prop:=Paired λp q=>RelV p.1 q.1/\RelV p.2 q.2
def PPs(X:Cx)(pos:Pos)(keys:List (Option Expr))(values:List Expr)(trs:List (TE×TE)):Prop:=
 ∀(pins:List (Addr×Obj)) (s:Shared) (σ:St) (H:Hp) (Q:List (V×V)->Hp->Prop),Inv X pins σ H s->xmq trs σ H Q->
  wpAny (model X.prog X.w) X.A (evalPairs (pairTrees keys values X.env pos)) (λvs s'=>∃ps H',Inv X pins σ H' s'/\VV ps vs/\Q ps H') X.xe s
theorem xq7{X:Cx}{pos:Pos}:PPs X pos [] [] []:=λpins s σ H Q I h=>pairTrees_nil_walk ⟨[],H,I,.nil,h⟩
theorem xpc {X:Cx} {pos:Pos} {k v:Expr} {ks:List (Option Expr)} {vs:List Expr} {c tv:TE} {a:List (TE×TE)} (p:PE X k c) (n:PE X v tv) (o:PPs X pos ks vs a) :
  PPs X pos (some k::ks) (v::vs) ((c,tv)::a):=λpins s σ H Q I h=>
 pairTrees_cons_walk (thn (p pins s σ H _ I h) λu f ⟨x,J,z,i,m⟩=>thn (n pins f σ J _ z m) λM e ⟨y,G,w,g,l⟩=>
  thn (o pins e σ G _ w l) λws O ⟨ps,C,r,b,j⟩=>⟨(x,y)::ps,C,r,.cons ⟨i,g⟩ b,j⟩)
def xa5(kvs more:List (Key×V)):List (Key×V):=more.foldl (λacc kv=>putK acc kv.1 kv.2) kvs
theorem KV.merge:∀{more:List (Key×V)} {rs:List (Key×Value)} {kvs:List (Key×V)} {vs:List (Key×Value)},KV more rs->KV kvs vs->KV (xa5 kvs more) (merged vs rs):=by
 intro more rs kvs vs r;unfold KV at r
 induction r generalizing kvs vs with
 |nil=>intro q;exact q
 | @cons p q ps c h t b=>
  intro a
  have e:KV (putK kvs p.1 p.2) (stored vs q.1 q.2):=by
   have:=a.put p.1 h.2;rw[<- h.1];exact this
  exact b e
theorem xb9:∀(more kvs:List (Key×V)),(xa5 kvs more).length<=kvs.length+more.length
 |[],kvs=>by show kvs.length<=kvs.length+0;omega
 |p::r,kvs=>by
  have b:=xb9 r (putK kvs p.1 p.2);have a:=xdk kvs p.1 p.2;show(xa5 (putK kvs p.1 p.2) r).length<=_;rw[List.length_cons];omega
theorem xgz{P:Program}{w:World}:∀{kvs:List (Key×V)} {ws:List (Value×Value)},VV (kvs.map λkv=>(kV kv.1,kv.2)) ws->∃rs,Carries (xbv P w) ws rs/\KV kvs rs
 |[],_,r=>by rw[List.map_nil]at r;cases r;exact⟨[],True.intro,.nil⟩
 | p::kvs,_,r=>by
  rw[List.map_cons]at r
  cases r with
  |@cons a b as bs h t=>
   obtain⟨rs,c,q⟩:=xgz (P:=P) (w:=w) t;obtain⟨f,e⟩:=b;exact⟨(p.1,e)::rs,⟨xj8 h.1,rfl,c⟩,.cons ⟨rfl,h.2⟩ q⟩
def xt3(trs:List (TE×TE)):TE:=λσ H Q=>∀p,H p=none->xmq trs σ (upd H p (.dK [])) λps H2=>H2 p=some (.dK [])/\∃kvs:List (Key×V),ps=kvs.map (λkv=>(kV kv.1,kv.2))/\kvs.length<=15/\Q (.ref p) (upd H2 p (.dK (xa5 [] kvs)))
theorem xrc {X:Cx} {pos:Pos} {keys:List (Option Expr)} {b:List Expr} {f:List (TE×TE)} (h:PPs X pos keys b f) (g:keys.all (·.isSome)=true) (y:keys.length=b.length) (h0:keys≠[])
  (l:keys.length<=15):PE X (.Dict keys b pos) (xt3 f):=by
 intro pins s σ H Q I q;have hn:=I.hok.fresh (Nat.le_refl s.heap.objs.size);have M:=I.laid (a:=s.heap.objs.size) (o:=.dK []) (h':=s.heap.push {cls:=.type "dict",data:=.dict #[]}) (t':=s.toks) (λ_ _ q=>zPO _ q) (Nat.le_refl _) (xlj s.heap I.big);refine wpAny_Dict_walk (knd:=xbv X.prog X.w) g y h0 l (thn (h pins _ σ _ _ M (q _ hn)) λws O ⟨ps,Y,m,j,e,kvs,ep,U,u⟩=>?_);subst ep;obtain⟨rs,c,p⟩:=xgz (P:=X.prog) (w:=X.w) j;obtain⟨z,hd,n,r,J⟩:=xki m.hok e;cases r;refine⟨rs,c,J,λh' i hs=>⟨.ref s.heap.objs.size,_,?_,rfl,u⟩⟩
 have hz:(xa5 [] kvs).length<=sizeLine:=by
  have G:=xb9 kvs [];rw[List.length_nil]at G;rw[sizeLine_eq];omega
 have C:∃q,h'.get? s.heap.objs.size=some q:=let ⟨q,_,_,x,_⟩:=i;⟨q,x⟩;exact xkl m (by rw[e];exact True.intro) hs C (xi3 hz hd (p.merge .nil) i)
def IsD(H:Hp)(a:Addr):Prop:=(∃kvs,Rd H a (.dK kvs))\/∃kvs,Rd H a (.dT kvs)
theorem xtk {X:Cx} {pins:List (Addr×Obj)} {σ:St} {H:Hp} {s:Shared} {a:Addr} (I:Inv X pins σ H s) (d:IsD H a) :
  s.TypeIs (.ref a) "dict"/\(∀b,Value.ref a=.ref b->∃c,s.heap.get? b=some c/\c.dict=none)/\(a == sysModules)=false:=by
 rcases d with⟨kvs,e⟩ |⟨kvs,e⟩
 ·obtain⟨_,hd,vs,_,f⟩:=xkh I.hok e
  refine⟨f.typeIs,λb q=>?_,hd⟩;cases q;obtain⟨c,_,_,h,g,_⟩:=f;exact⟨c,h,g.2.1⟩
 ·obtain⟨_,hd,xs,_,f⟩:=xml I.hok e
  refine⟨f.typeIs,λb q=>?_,hd⟩;cases q;obtain⟨c,_,_,h,g,_⟩:=f;exact⟨c,h,g.2.1⟩
section
variable {X:Cx}{pins:List (Addr×Obj)}{σ:St}{H:Hp}{s:Shared}{a:Addr}{kvs:List (Key×V)}{A:Around}{E:Value->Shared->Prop}
theorem xp4{Q:Value->Shared->Prop}(I:Inv X pins σ H s)(e:Rd H a (.dK kvs))(h:∀p g,H p=none->Inv X pins σ (upd H p (.dK kvs)) g->Q (.ref p) g):wpAny (model X.prog X.w) A (call (.type "dict") [.ref a]) Q E s:=by
 obtain⟨z,hd,vs,c,j⟩:=xkh I.hok e;refine kt_call_dict hd j (by rw[<- c.length];exact z) λh' f hs=>?_;refine h _ _ (I.hok.fresh (Nat.le_refl _)) (I.laid (a:=s.heap.objs.size) (o:=.dK kvs) (t':=s.toks) (λb q i=>?_) (Nat.le_refl _) (xi3 z (beq_eq_false_iff_ne.mpr (Ne.symm (Nat.ne_of_lt I.big))) c f));exact(hs.2 b (Nat.ne_of_lt (Heap.lt_size i))).trans (zPO _ i)
end
section
variable {κ:Type}[DecidableEq κ]
theorem xny:∀{l:List κ} {k:κ},l.Nodup->¬k∈l->(l++[k]).Nodup
 |[],k,_,_=>by simp
 |a::r,k,h,b=>by
  obtain⟨e,c⟩:=List.nodup_cons.mp h;show(a::(r++[k])).Nodup;refine List.nodup_cons.mpr ⟨λm=>?_,xny c λm=>b (List.mem_cons.mpr (Or.inr m))⟩;rcases zMA m with q |q
  ·exact e q
  ·exact b (List.mem_cons.mpr (Or.inl (zMO q).symm))
end
section
variable {es:List Expr}{env:Env}
theorem xf0{a b c}:starEach (.Dict a b c::es) env=(false,eval (.Dict a b c) env)::starEach es env:=rfl
end
section
variable {X:Cx}
theorem xe9:xd1 X (.type "dict") (λxs H Q=>∃a kvs,xs=[V.ref a]/\H a=some (.dK kvs)/\∀p,H p=none->Q (.ref p) (upd H p (.dK kvs))):=by
 intro pins s σ H xs us Q I r h;obtain⟨a,kvs,rfl,ha,q⟩:=h;obtain⟨u,rfl,ru⟩:=xfi r;cases ru;exact xp4 I (.inl ha) λp s' hp I'=>⟨.ref p,_,I',rfl,q p hp⟩
end
section
variable {ix:Cap}{tt:TT}{te:TE}{g:TG}{σ:St}{H:Hp}{Q:VK}
def NxtG(Pv:Nat->List V->Hp->Prop)(n i:Nat)(ys:List V):VK:=λy H2=>∃m',m'<n-i/\m'=n-(i+1)/\i+1<=n/\(ys++[y]).length<=i+1/\Pv (i+1) (ys++[y]) H2
def NxtN(Pv:Nat->List V->Hp->Prop)(n i:Nat)(ys:List V):Hp->Prop:=λH2=>∃m',m'<n-i/\m'=n-(i+1)/\i+1<=n/\ys.length<=i+1/\Pv (i+1) ys H2
theorem nxtG{a:Nat->List V->Hp->Prop}{n i:Nat}{ys:List V}{y:V}{b:Hp}(hi:i<n)(c:ys.length<=i)(h:a (i+1) (ys++[y]) b):NxtG a n i ys y b:=
 ⟨n-(i+1),by omega,rfl,hi,by rw[zLA,List.length_singleton];omega,h⟩
theorem nxtN{a:Nat->List V->Hp->Prop}{n i:Nat}{ys:List V}{b:Hp}(hi:i<n)(c:ys.length<=i)(h:a (i+1) ys b):NxtN a n i ys b:=
 ⟨n-(i+1),by omega,rfl,hi,by omega,h⟩
theorem xbu {K:Fg} {a:Addr} {xs:List V} (c:Nat->List V->Hp->Prop) (h0:c 0 [] H) (hn:xs.length<sizeLine) (j:∀i ys H,i<=xs.length->c i ys H->SqT K H a xs)
  (hs:∀i x ys H,xs[i]?=some x->i<xs.length->ys.length<=i->c i ys H->g x (capt l σ) H λh u=>Ext (capt l σ) h/\r h u λb o=>if b=true then s h o (NxtG c xs.length i ys) else NxtN c xs.length i ys o)
  (hd:∀ys H,ys.length<=xs.length->c xs.length ys H->∀D,H D=none->Q (.ref D) (upd H D (.lst ys))):xfh (Itt K a) l g r s σ H Q:=by
 refine⟨λi m ys H=>m=xs.length-i/\i<=xs.length/\ys.length<=i/\c i ys H,⟨xs.length,by simp,Nat.zero_le _,Nat.le_refl _,h0⟩,?_⟩;rintro i m ys H ⟨rfl,hi,n,p⟩;have q:=j i ys H hi p;by_cases f:i<xs.length
 ·refine .inr ⟨⟨xs,xs[i],q,by simp[f]⟩,by omega,λv w y=>?_⟩
  obtain⟨e,y⟩:=y;subst e;exact hs i v ys _ (y xs q) f n p
 ·have e:i=xs.length:=by omega
  subst e;exact .inl ⟨⟨xs,q,Nat.le_refl _⟩,hd ys H n p⟩
theorem xe7 {K:Fg} {a:Addr} {xs:List V} (c:Nat->List V->Hp->Prop) (h0:c 0 [] H) (hn:xs.length<sizeLine) (j:∀i ys H,i<=xs.length->c i ys H->SqL K H a xs)
  (hs:∀i x ys H,xs[i]?=some x->i<xs.length->ys.length<=i->c i ys H->g x (capt l σ) H λh u=>Ext (capt l σ) h/\r h u λb o=>if b=true then s h o (NxtG c xs.length i ys) else NxtN c xs.length i ys o)
  (hd:∀ys H,ys.length<=xs.length->c xs.length ys H->∀D,H D=none->Q (.ref D) (upd H D (.lst ys))):xfh (Itl K a) l g r s σ H Q:=by
 refine⟨λi m ys H=>m=xs.length-i/\i<=xs.length/\ys.length<=i/\c i ys H,⟨xs.length,by simp,Nat.zero_le _,Nat.le_refl _,h0⟩,?_⟩;rintro i m ys H ⟨rfl,hi,n,p⟩;have q:=j i ys H hi p;by_cases f:i<xs.length
 ·refine .inr ⟨⟨xs,xs[i],q,by simp[f]⟩,by omega,λv w y=>?_⟩
  obtain⟨e,y⟩:=y;subst e;exact hs i v ys _ (y xs q) f n p
 ·have e:i=xs.length:=by omega
  subst e;exact .inl ⟨⟨xs,q,Nat.le_refl _⟩,hd ys H n p⟩
theorem ext2{σ:St}{i j:Nat}{v w:Option V}(h:σ[i]?=some none)(k:σ[j]?=some none):Ext σ ((σ.set i v).set j w):=by
 refine⟨by simp,λn c e=>?_⟩;have b:i≠n:=λz=>by subst z;rw[h]at e;cases e
 have a:j≠n:=λz=>by subst z;rw[k]at e;cases e
 rw[List.getElem?_set_ne a,List.getElem?_set_ne b];exact e
end
section
variable {X:Cx}
def xsu:V->List V->Hp->VK->Prop:=λx vs H Q=>∃l,∃ys:List Str,∃z j,x=.ref l/\vs=[.str z]/\H l=some (.lst (ys.map V.str))/\ys.findIdx? (λy=>decide (y=z))=some j/\Q (.int (j:Nat)) H
theorem xpr:MtM X "list.index" xsu:=by
 intro p s σ H x vs v us Q I C G h;obtain⟨l,ys,z,j,rfl,rfl,Z,Y,q⟩:=h;cases C;obtain⟨u,rfl,J⟩:=G.one;obtain⟨o,its,n,r,U,e⟩:=I.lstM Z
 have fs:(ys.map V.str).all xev=true:=by
  rw[List.all_eq_true];intro y b;obtain⟨y',_,rfl⟩:=zMP b;rfl
 obtain⟨h1,h2,h3⟩:=List.findIdx?_eq_some_iff_getElem.mp Y;rw[zLM]at U o
 have a:∀i (hi:i<ys.length) (f:i<its.toArray.size),eqU (.str z) its.toArray[i]=decide (ys[i]=z):=λi hi f=>by
  obtain⟨w,e',M⟩:=r.get (i:=i) (x:=.str ys[i]) (by rw[zGM,zGA hi];rfl)
  have g:its.toArray[i]=w:=by
   have:its[i]?=some its[i]:=zGA (by omega);rw[e']at this;simpa using (Option.some.inj this).symm
  rw[g,xoq M rfl];show(ys[i] == z)=_;rw[Bool.eq_iff_iff];simp
 refine call_meets F.slot_list_index ⟨_,e,rfl⟩ F.entry_list_index (F.args_list_index_2 _ _) (SeqAt.list_indexAt l its.toArray n none #[] u (eqU (.str z)) j (by simp;omega) ?_ ?_ ?_) ⟨e,λy b=>xfq J rfl r fs y (by simpa using b),⟨.int j,H,I.tok _,⟨_,rfl⟩,q⟩⟩
 ·rw[sizeLine_eq]at o
  omega
 ·rw[a j h1 (by simp;omega)]
  exact h2
 ·intro m O c
  rw[a m (by omega) O];have:=h3 m c;simpa using this
end
theorem xhw:∀{ns:List Int},(∀n∈ns,0<=n/\n<=1000000)->0<=ns.sum/\ns.sum<=1000000*(ns.length:Int)
 |[],_=>by simp
 |n::ns,h=>by
  have c:=h n (by simp);have b:=xhw (ns:=ns) λm a=>h m (List.mem_cons_of_mem _ a);rw[List.sum_cons,List.length_cons];push_cast;omega
section
variable {X:Cx}
theorem xo0(x:X.calm=true):xd1 X (.builtin "sum") (λxs H Q=>∃p,∃ns:List Int,xs=[.ref p]/\SqL X.K H p (ns.map V.int)/\(∀n∈ns,0<=n/\n<=1000000)/\ns.length<=1000/\Q (.int ns.sum) H):=by
 intro b s σ H xs us Q I r h;obtain⟨p,ns,rfl,m,g,c,q⟩:=h;obtain⟨u,rfl,l⟩:=xfi r;cases l;obtain⟨its,i,pl,hz⟩:=I.list m;have hi:=xgv i;obtain⟨xs,e⟩:=hi.allInts.items;have a:ns=xs.toList.map (·.1):=by rw[<- hi.numsOf,<- nums_intItems,<- e]
 have f:=pl.isList;rw[e]at f;have hsz:xs.size=ns.length:=by rw[a,zLM,Array.length_toList]
 refine sum_intList (I.ok.hd x) f (λj w=>?_) λh' y t' k=>⟨.int ns.sum,H,I.kept k,?_,q⟩
 ·have o:numAt xs j∈ns:=by
   rw[a,numAt_eq];exact getD_mem (by rw[zLM,Array.length_toList];exact w)
  have G:=g _ o;have C:=xhw (ns:=ns.take (j+1)) λn hn=>g n (List.mem_of_mem_take hn);have z:(ns.take (j+1)).length<=1000:=Nat.le_trans (List.length_take_le _ _) (by omega);rw[preSum_eq,<- a];unfold InLong;omega
 ·refine⟨t',?_⟩
  rw[preSum_eq,<- a,zTL (by omega)]
theorem xo1(z:X.calm=true):xd1 X (.builtin "max") (λxs H Q=>∃p,∃ns:List Int,xs=[.ref p]/\SqL X.K H p (ns.map V.int)/\ns≠[]/\∀m,m∈ns->(∀n∈ns,n<=m)->Q (.int m) H):=by
 intro f s σ H xs us Q I r h;obtain⟨p,ns,rfl,x,c,q⟩:=h;obtain⟨u,rfl,o⟩:=xfi r;cases o;obtain⟨its,l,pl,hz⟩:=I.list x;have hi:=xgv l;obtain⟨xs,e⟩:=hi.allInts.items;have b:ns=xs.toList.map (·.1):=by rw[<- hi.numsOf,<- nums_intItems,<- e]
 have g:=pl.isList;rw[e]at g;have hsz:xs.size=ns.length:=by rw[b,zLM,Array.length_toList]
 have J:0<ns.length:=List.length_pos_iff.mpr c;refine max_intList (I.ok.hd z) g (by omega) λv h' G w k=>?_;obtain⟨t,rfl⟩:=intItems_at w;obtain⟨M,C⟩:=argBest_gt (numAt xs) (xs.size-1);refine⟨.int _,H,I.kept k,⟨t,rfl⟩,q _ ?_ λa i=>?_⟩
 ·rw[b,numAt_eq]
  exact getD_mem (by rw[zLM,Array.length_toList];omega)
 ·rw[b]at i
  obtain⟨j,y,rfl⟩:=mem_getD i;rw[zLM,Array.length_toList]at y;rw[<- numAt_eq];exact C j (by omega)
end
section
variable {X:Cx}{K:Fg}
theorem xrw(h:X.K=K):IxR X (rIxT K):=by subst h;exact xti
theorem xpx(h:X.K=K):IxR X (rIxL K):=by subst h;exact iL
theorem xae(h:X.K=K):xd1 X (.builtin "len") (λxs H Q=>∃p ys,xs=[.ref p]/\(SqL K H p ys\/SqT K H p ys)/\Q (.int ys.length) H):=by subst h;exact xi7
theorem xa3 {es:List Expr} {k:Nat} {t:TGs} {n:Nat} {pos:Pos} (c:X.K=K) (b:X.calm=true) (h:PGs X es t)
  (hn:(assignEach es X.env).length=n:=by rfl) (a:(assignEach es X.env).findIdx? (·.1)=none:=by rfl):PG X (.Tuple es k pos) (gTup K n t):=by subst c;exact xs2 b h hn a
end
end L2
end
section
namespace Zt
open PySem PySem.Spec PyProof.Rows
section
variable {prog:Program}{w:World}{A:Around}{E:Value->Shared->Prop}{s:Shared}
theorem call_zipN {l1 l2:Addr} {xs ys:Array Value} {Q:Value->Shared->Prop} (hl1:s.heap.IsTuple l1 xs) (hl2:s.heap.IsTuple l2 ys)
  (h:∀h',IsZip h' (s.heap.objs.size+4) (s.heap.objs.size+2) (s.heap.objs.size+3) .none->IsPair h' (s.heap.objs.size+2) (.ref s.heap.objs.size) (.ref (s.heap.objs.size+1))->(∃a b,IsPair h' (s.heap.objs.size+3) a b)->
   h'.IsTupleIter s.heap.objs.size l1 0->h'.IsTupleIter (s.heap.objs.size+1) l2 0->(∀c o,s.heap.get? c=some o->h'.get? c=some o)->Q (.ref (s.heap.objs.size+4)) {s with heap:=h'}) :
  wpAny (model prog w) A (call (.type "zip") [.ref l1,.ref l2]) Q E s:=by
 refine callType_new F.called_zip (by decide) (F.typeCall_zip_2 _ _) (F.newCall_zip_2 _ _) (λobj=>F.args_object_init_3 obj _ _) F.entry_zip_new
  (meets_new l1 l2 xs ys) ⟨hl1,hl2,?_⟩
 have z1:(zH1 s.heap l1).objs.size=s.heap.objs.size+1:=Heap.size_push ..;have z2:(zH2 s.heap l1 l2).objs.size=s.heap.objs.size+2:=by rw[Heap.size_push,z1]
 have z3:(zH3 s.heap l1 l2).objs.size=s.heap.objs.size+3:=by rw[Heap.size_push,z2]
 have z4:(zH4 s.heap l1 l2).objs.size=s.heap.objs.size+4:=by rw[Heap.size_push,z3]
 have g5:(zH5 s.heap l1 l2).get? (zH4 s.heap l1 l2).objs.size=some _:=Heap.get?_push_size _ rfl;have g4:(zH5 s.heap l1 l2).get? (zH3 s.heap l1 l2).objs.size=some _:=zPO _ (Heap.get?_push_size _ rfl);have g3:(zH5 s.heap l1 l2).get? (zH2 s.heap l1 l2).objs.size=some _:=zPO _ (zPO _ (Heap.get?_push_size _ rfl));have g2:(zH5 s.heap l1 l2).get? (zH1 s.heap l1).objs.size=some _:=zPO _ (zPO _ (zPO _ (Heap.get?_push_size _ rfl)));have g1:(zH5 s.heap l1 l2).get? s.heap.objs.size=some _:=zPO _ (zPO _ (zPO _ (zPO _ (Heap.get?_push_size _ rfl))));have kp:∀c o,s.heap.get? c=some o->(zH5 s.heap l1 l2).get? c=some o:=λc o e=>zPO _ (zPO _ (zPO _ (zPO _ (zPO _ e))));show _/\_;rw[z2,z3,z4]at g5;rw[z1,z2]at g3;rw[z3]at g4;rw[z1]at g2;rw[z4];exact⟨⟨_,g5,rfl⟩,h _ g5 g3 ⟨_,_,g4⟩ ⟨_,g1,rfl,rfl⟩ ⟨_,g2,rfl,rfl⟩ kp⟩
end
end Zt
namespace L2
open PySem PySem.Spec PyProof.Rows
section
variable {X:Cx}{pins:List (Addr×Obj)}{σ:St}{H:Hp}{s:Shared}{h':Heap}
theorem Inv.turnedM{t':Nat}{fp:List Addr}(I:Inv X pins σ H s)(k:∀b o,b ∉fp->s.heap.get? b=some o->h'.get? b=some o)(hf:∀b∈fp,FpOk X pins H b):Inv X pins σ H {s with heap:=h',toks:=t'}:=by
 have nit:∀b u,H b=some u->b ∉fp:=λb u e z=>by rw[(hf b z).1]at e;cases e
 refine I.step (g':=s.gens) (d':=s.drawn) (ch:=fp) (λb hb=>?_) (λb o _ _ hc e _=>k b o hc e) (λb o _ _ hc e _=>⟨o.slots,k b o hc e⟩) (λ_ _ _ _ n=>n)
  (λb o hc e=>⟨o,k b o hc e⟩) (λ_ _ e=>e) (λ_ _ _ e=>e) (λb ps e=>⟨#[],by rw[e];simp⟩) (λm hm=>?_) (λb u e=>?_) I.bare
 ·obtain⟨f0,f1,f2,f3,f4,f5⟩:=hf b hb
  exact⟨f3,f1,f4,f5⟩
 ·obtain⟨o,es,ep,ho,r⟩:=hm
  exact⟨o,es,ep,k _ o (λz=>(hf _ z).2.1 rfl) ho,r⟩
 ·refine(I.hok b u e).stay (λc v hc q=>k c v ?_ q) (λ_ q=>q) λ_ _ q=>q
  rcases hc with z |z
  ·rw[z];exact nit b u e
  ·exact nit c _ z
end
theorem xkb{h:Heap}{o u:Obj}{b:Addr}(e:(h.push o).get? b=some u)(q:b≠h.objs.size):h.get? b=some u:=by
 rwa[Heap.get?_push_ne h b o q]at e
section
variable {X:Cx}
def Itz (K:Fg) (a b:Addr):It:=
  ⟨λi H=>∃xs ys x y,SqT K H a xs/\SqT K H b ys/\xs[i]?=some x/\ys[i]?=some y,λi H x H'=>∃p u v,x=.ref p/\H p=none/\H'=upd H p (.tup [u,v])/\(∀xs,SqT K H a xs->xs[i]?=some u)/\∀ys,SqT K H b ys->ys[i]?=some v,
   λi H=>∃xs ys,SqT K H a xs/\SqT K H b ys/\xs.length<=i⟩
theorem xo4 {P:Program} {w:World} {K:Fg} {a0:List Expr} {x1} {pos:Pos} {a b z TI TO n m:Addr} (D:ZipApart z TI TO n m a b) :
  Turn P w K (.Tuple a0 x1 pos) (Itz K a b) [z,TI,TO,n,m] z (λi h=>IsZip h z TI TO .none/\IsPair h TI (.ref n) (.ref m)/\(∃u v,IsPair h TO u v)/\h.IsTupleIter n a i/\h.IsTupleIter m b i) where
 mem:=by simp
 obj:=λi h st c g=>by
  obtain⟨l,j,⟨u,v,J⟩,G,C⟩:=st;simp only[List.mem_cons,List.not_mem_nil,or_false]at g;rcases g with rfl |rfl |rfl |rfl |rfl
  ·exact⟨_,l,λv z=>by cases z⟩
  ·exact⟨_,j,λv z=>by cases z⟩
  ·exact⟨_,J,λv z=>by cases z⟩
  ·obtain⟨o,e,c,d⟩:=G
   exact⟨o,e,λv z=>by rw[d]at z;cases z⟩
  ·obtain⟨o,e,c,d⟩:=C
   exact⟨o,e,λv z=>by rw[d]at z;cases z⟩
 keep:=λi h h' st k=>by
  obtain⟨l,j,⟨u,v,J⟩,G,C⟩:=st;exact⟨k z (by simp) _ l,k TI (by simp) _ j,⟨u,v,k TO (by simp) _ J⟩,G.at λo q=>k n (by simp) o q,C.at λo q=>k m (by simp) o q⟩
 item:=by
  intro X hP hw hK g i f s σ H E I hf st hg;subst hP hw hK;obtain⟨xs,ys,x,y,hq,r,hx,hy⟩:=hg;obtain⟨its,rv,p,hz⟩:=I.tuple hq;obtain⟨its',Y,p',a9⟩:=I.tuple r;obtain⟨u,hu,ru⟩:=rv.get hx;obtain⟨U,aa,a8⟩:=Y.get hy;obtain⟨l,j,⟨_,_,J⟩,G,C⟩:=st;have hT:s.TypeIs (.ref z) "zip":=⟨_,l,rfl⟩;unfold pyNext
  refine wpAny_bind (wpAny_attempt (wpAny_callSpecial?_slot (name:=Str.ofString "__next__") hT F.slot_zip_next
   (wpAny_call_entry F.slot_zip_next hT F.entry_zip_next
    (Zt.item_first D l j J G C p p' (x:=u) (y:=U) (by simpa using hu) (by simpa using aa) λh1 a1 a2 a3 a4 a5 a6 a7=>wpAny_pure ⟨_,rfl,wpAny_letOwnedTupleGo_zip a1 λh2 b1 b2=>?_⟩) (F.args_zip_next_1 _))))
  have ab:H s.heap.objs.size=none:=I.hok.fresh (Nat.le_refl _);have g1:(s.heap.push {cls:=.type "tuple",data:=.seq #[u,U]}).get? s.heap.objs.size=some {cls:=.type "tuple",data:=.seq #[u,U]}:=Heap.get?_push_size _ rfl
  have I1:Inv X f σ (upd H s.heap.objs.size (.tup [x,y])) {s with heap:=s.heap.push {cls:=.type "tuple",data:=.seq #[u,U]},toks:=s.toks}:=
   I.laid (λb o q=>zPO _ q) (Nat.le_refl _) ⟨by show 2<=sizeLine;decide,[u,U],.cons ru (.cons a8 .nil),⟨_,g1,rfl,_,rfl,rfl⟩⟩
  have lt:∀c∈[z,TI,TO,n,m],c≠s.heap.objs.size:=λc g=>by
   simp only[List.mem_cons,List.not_mem_nil,or_false]at g;rcases g with rfl |rfl |rfl |rfl |rfl
   ·exact Nat.ne_of_lt (Heap.lt_size l)
   ·exact Nat.ne_of_lt (Heap.lt_size j)
   ·exact Nat.ne_of_lt (Heap.lt_size J)
   ·obtain⟨o,q,_⟩:=G
    exact Nat.ne_of_lt (Heap.lt_size q)
   ·obtain⟨o,q,_⟩:=C
    exact Nat.ne_of_lt (Heap.lt_size q)
  have Z:∀c∈[z,TI,TO,n,m],FpOk X f (upd H s.heap.objs.size (.tup [x,y])) c:=λc g=>by
   refine⟨?_,(hf c g).2⟩;rw[xai (lt c g)];exact(hf c g).1
  have I2:Inv X f σ (upd H s.heap.objs.size (.tup [x,y])) {s with heap:=h2,toks:=s.toks}:=
   I1.turnedM (t':=s.toks) (λc o hb q=>by
    have M:c≠z/\c≠TI/\c≠TO/\c≠n/\c≠m:=by simpa using hb
    have q1:h1.get? c=some o:=by
     by_cases e:c=s.heap.objs.size
     ·subst e
      have q':(s.heap.push {cls:=.type "tuple",data:=.seq #[u,U]}).get? s.heap.objs.size=some o:=q;rw[g1]at q';cases q';exact a5
     ·exact a7 c o M.1 M.2.2.1 M.2.2.2.1 M.2.2.2.2 (xkb q e)
    exact(b2.2 c M.1).trans q1) Z
  refine⟨.ref s.heap.objs.size,_,I2,rfl,⟨_,x,y,rfl,ab,rfl,λzs O=>by rw[I.tuple_inj O hq];exact hx,λzs O=>by rw[I.tuple_inj O r];exact hy⟩,⟨b1,?_,⟨_,_,(b2.2 _ D.TOz).trans a2⟩,a3.at λo q=>(b2.2 _ D.i1z).trans q,a4.at λo q=>(b2.2 _ D.i2z).trans q⟩,λc g=>(Z c g).1⟩;exact(b2.2 _ D.TIz).trans (a7 _ _ D.TIz D.TITO D.TIi1 D.TIi2 j)
 done:=by
  intro X hP hw hK g i f s σ H E I hf st hg;subst hP hw hK;obtain⟨xs,ys,hq,r,hx⟩:=hg;obtain⟨its,rv,p,hz⟩:=I.tuple hq;obtain⟨its',Y,p',a9⟩:=I.tuple r;obtain⟨l,j,J,G,C⟩:=st;have hl:=rv.length
  exact Zt.pyNext_end (I.ok.hd g) D ⟨.inl l,j,J,G,C,p,p'⟩ (by simp;omega) λh' kk=>⟨rfl,I.turnedM (t':=s.toks) (λc o hb q=>by
   have M:c≠z/\c≠TI/\c≠TO/\c≠n/\c≠m:=by simpa using hb
   exact kk c o M.1 M.2.2.2.1 q) hf⟩
 self:=λ_ _ _ _ _ st h=>wpAny_pyIter_zip st.1 h
def iZip(K:Fg)(ta:TA):TI:=λσ H R=>ta σ H λvs H1=>∃a b,vs=[.ref a,.ref b]/\(∃xs,SqT K H1 a xs)/\(∃ys,SqT K H1 b ys)/\R (Itz K a b) H1
theorem xib {a b:Expr} {r:TA} {p pos:Pos} {l:List Expr} {G} {J:Pos} (hg:Gl X "zip") (hm:X.mg "zip"=none) (ha:PA X [a,b] r) (hs:starEach [a,b] X.env=[(false,eval a X.env),(false,eval b X.env)]:=by rfl) (i:starEach [b] X.env=[(false,eval b X.env)]:=by rfl) :
  PI X (.Tuple l G J) (.Call (.Name "zip" p) [a,b] [] pos) (iZip X.K r):=by
 intro g s σ H R I h;refine Call_ (xer I hg hm PyProof.Rows.boot_zip (PyProof.Rows.callWith_type1 (thn (ha pos g s σ H _ I h) λus f ⟨vs,H1,m,M,O⟩=>?_) (by rw[hs,i]) (by rw[i];rfl)));obtain⟨Y,U,e,⟨xs,hx⟩,⟨ys,hy⟩,q⟩:=O;subst e;obtain⟨u1,u2,rfl,e1,e2⟩:=M.two;cases e1;cases e2;obtain⟨its,rx,tx,a4⟩:=m.tuple hx;obtain⟨a0,ry,o,a3⟩:=m.tuple hy;have a1:Y<f.heap.objs.size:=by obtain⟨_,e,_⟩:=tx;exact Heap.lt_size e
 have a2:U<f.heap.objs.size:=by obtain⟨_,e,_⟩:=o;exact Heap.lt_size e
 have D:=PyProof.Rows.zipApart_new a1 a2;refine Zt.call_zipN tx o λh1 n C y x w Z=>wpAny_pyIter_zip n ?_;refine⟨f.heap.objs.size+4,[f.heap.objs.size+4,f.heap.objs.size+2,f.heap.objs.size+3,f.heap.objs.size,f.heap.objs.size+1],_,_,H1,rfl,m.kept (t':=f.toks) Z,xo4 D,⟨n,C,y,x,w⟩,λc u=>?_,q⟩
 have j:f.heap.objs.size<=c:=by
  simp only[List.mem_cons,List.not_mem_nil,or_false]at u;rcases u with z |z |z |z |z <;> subst z <;> first |exact Nat.le_add_right _ _ |exact Nat.le_refl _
 exact m.fpOk j (m.hok.fresh j)
theorem xkd {K:Fg} {a b:Addr} {xs ys:List V} {g:TG} {tb:TS} {D:Ends} {σ:St} {H:Hp} (hxy:xs.length=ys.length) (Pv:Nat->St->Hp->Prop) (h0:Pv 0 σ H) (hl:∀i σ H,i<=xs.length->Pv i σ H->SqT K H a xs/\SqT K H b ys)
  (hs:∀i x y σ H p,xs[i]?=some x->ys[i]?=some y->Pv i σ H->H p=none->g (.ref p) σ (upd H p (.tup [x,y])) λσ2 H2=>tb {D with nx:=Pv (i+1),ct:=Pv (i+1),bk:=D.nx} σ2 H2) (hd:∀σ H,Pv xs.length σ H->D.nx σ H) :
  ∃W:Nat->Nat->St->Hp->Prop,(∃m,W 0 m σ H)/\∀i m σ H,W i m σ H->
   ((Itz K a b).stop i H/\D.nx σ H)\/((Itz K a b).go i H/\∃N:St->Hp->Prop,(∀σ' H',N σ' H'->∃m',m'<m/\W (i+1) m' σ' H')/\∀x H',(Itz K a b).yld i H x H'->g x σ H' λσ2 H2=>tb {D with nx:=N,ct:=N,bk:=D.nx} σ2 H2):=by
 refine⟨λi m σ H=>m=xs.length-i/\i<=xs.length/\Pv i σ H,⟨xs.length,by simp,Nat.zero_le _,h0⟩,?_⟩;rintro i m σ H ⟨rfl,hi,p⟩;have q:=hl i σ H hi p;by_cases hlt:i<xs.length
 ·refine .inr ⟨⟨xs,ys,xs[i],ys[i]'(by omega),q.1,q.2,by simp[hlt],by simp[<- hxy,hlt]⟩,Pv (i+1),λσ' H' p'=>⟨xs.length-(i+1),by omega,rfl,hlt,p'⟩,λx H' y=>?_⟩
  obtain⟨pp,u,v,rfl,hp,rfl,hu,hv⟩:=y;exact hs i u v σ H pp (hu xs q.1) (hv ys q.2) p hp
 ·have e:i=xs.length:=by omega
  subst e;exact .inl ⟨⟨xs,ys,q.1,q.2,Nat.le_refl _⟩,hd σ H p⟩
end
section
variable {ix:Cap}{tt:TT}{te:TE}{g:TG}{σ:St}{H:Hp}{Q:VK}
theorem xll {K:Fg} {a b:Addr} {xs zs:List V} (j:xs.length=zs.length) (f:Nat->List V->Hp->Prop) (h0:f 0 [] H) (hn:xs.length<sizeLine) (l:∀i ys H,i<=xs.length->f i ys H->SqT K H a xs/\SqT K H b zs)
  (hs:∀i x z ys H p,xs[i]?=some x->zs[i]?=some z->i<xs.length->ys.length<=i->f i ys H->H p=none->g (.ref p) (capt n σ) (upd H p (.tup [x,z])) λh M=>Ext (capt n σ) h/\s h M λb r=>if b=true then w h r (NxtG f xs.length i ys) else NxtN f xs.length i ys r)
  (hd:∀ys H,ys.length<=xs.length->f xs.length ys H->∀D,H D=none->Q (.ref D) (upd H D (.lst ys))):xfh (Itz K a b) n g s w σ H Q:=by
 refine⟨λi m ys H=>m=xs.length-i/\i<=xs.length/\ys.length<=i/\f i ys H,⟨xs.length,by simp,Nat.zero_le _,Nat.le_refl _,h0⟩,?_⟩;rintro i m ys H ⟨rfl,hi,o,p⟩;have q:=l i ys H hi p;by_cases c:i<xs.length
 ·refine .inr ⟨⟨xs,zs,xs[i],zs[i]'(by omega),q.1,q.2,by simp[c],by simp[<- j,c]⟩,by omega,λv O y=>?_⟩
  obtain⟨C,u,v,rfl,J,rfl,I,G⟩:=y;exact hs i u v ys _ C (I xs q.1) (G zs q.2) c o p J
 ·have e:i=xs.length:=by omega
  subst e;exact .inl ⟨⟨xs,zs,q.1,q.2,Nat.le_refl _⟩,hd ys H o p⟩
end
end L2
end
section
namespace M
open PySem L2
structure Kn where
 name:Str
 rc:Bool
 parts:List (Str×Str)
def Kn.sort(k:Kn):Str:=if k.rc=true then S "rec" else S "alt"
def xd0(p:Str×Str):D:=.tup [.str p.1,.str p.2]
def xdr(ps:List (Str×Str)):D:=.tup (ps.map xd0)
def Kn.d(k:Kn):D:=.tup [.str k.name,.str k.sort,xdr k.parts]
def xdg(ks:List Kn):D:=.tup (ks.map Kn.d)
def kAt(ks:List Kn)(x:Str):Option Kn:=ks.find? λk=>decide (k.name=x)
def xt8:Option Kn->V
 |some k=>.str k.sort
 |none=>.non
def xnj:Option Kn->D
 |some k=>xdr k.parts
 |none=>.tup []
def KsAt(H:Hp)(v:V)(ks:List Kn):Prop:=RelD H v (xdg ks)/\ks.length<=100/\∀k∈ks,k.parts.length<=100
theorem KsAt.same{H a:Hp}{v:V}{ks:List Kn}(h:KsAt H v ks)(s:Same H a):KsAt a v ks:=⟨h.1.same s _,h.2⟩
abbrev En:=Str->Option D
def En.put(e:En)(x:Str)(d:D):En:=λy=>if y=x then some d else e y
def EnAt(H:Hp)(p:Addr)(m:Nat)(e:En):Prop:=
 ∃kvs,H p=some (.dK kvs)/\kvs.length<=m/\∀x,(e x=none->valV kvs (Sum.inr x)=none)/\∀d,e x=some d->∃v,valV kvs (Sum.inr x)=some v/\RelD H v d
theorem EnAt.same{H b:Hp}{p:Addr}{m:Nat}{e:En}(h:EnAt H p m e)(s:Same H b):EnAt b p m e:=by
 obtain⟨kvs,g,f,a⟩:=h;refine⟨kvs,s _ _ g,f,λx=>⟨(a x).1,λd hd=>?_⟩⟩;obtain⟨v,c,r⟩:=(a x).2 d hd;exact⟨v,c,r.same s _⟩
theorem EnAt.mono{H:Hp}{p:Addr}{m a:Nat}{e:En}(h:EnAt H p m e)(l:m<=a):EnAt H p a e:=by
 obtain⟨kvs,c,f,b⟩:=h;exact⟨kvs,c,by omega,b⟩
theorem EnAt.put {H a:Hp} {p q:Addr} {m:Nat} {e:En} {kvs:List (Key×V)} (l:H p=some (.dK kvs)) (n:kvs.length<=m) (h:∀x,(e x=none->valV kvs (Sum.inr x)=none)/\∀d,e x=some d->∃v,valV kvs (Sum.inr x)=some v/\RelD H v d)
  (s:Same H a) {x:Str} {v:V} {d:D} (g:RelD a v d) (j:a q=some (.dK (putK kvs (Sum.inr x) v))):EnAt a q (m+1) (e.put x d):=by
 refine⟨_,j,by have:=xdk kvs (Sum.inr x) v;omega,λy=>?_⟩;rw[xcz];unfold En.put;by_cases c:y=x
 ·subst c
  rw[if_pos rfl,if_pos rfl];refine⟨λz=>(by cases z),λd' f=>?_⟩;cases f;exact⟨v,rfl,g⟩
 ·have b:¬(Sum.inr y:Key)=Sum.inr x:=λz=>c (Sum.inr.inj z)
  rw[if_neg c,if_neg b];refine⟨(h y).1,λd' f=>?_⟩;obtain⟨u,i,r⟩:=(h y).2 d' f;exact⟨u,i,r.same s _⟩
def opV(s:Str)(x y:Int):Int:=
 if s=S "+" then (x+y)%4294967296 else if s=S "-" then (x-y)%4294967296 else if s=S "*" then x*y%4294967296 else if s=S "<" then (if x<y then 1 else 0) else (if x=y then 1 else 0)
def Nm(x:Int):Prop:=0<=x/\x<4294967296
abbrev tNum(n:Int):D:=.tup [.str (S "num"),.int n]
abbrev tBox(x:Str):D:=.tup [.str (S "box"),.str x]
abbrev tOpD(s:Str)(a b:D):D:=.tup [.str (S "op"),.str s,a,b]
abbrev tRec(k:Str)(es:List D):D:=.tup [.str (S "rec"),.str k,.tup es]
abbrev tGet(a:D)(f:Str):D:=.tup [.str (S "get"),a,.str f]
abbrev tTag(k t:Str)(a:D):D:=.tup [.str (S "tag"),.str k,.str t,a]
abbrev dArm(r:Str×Str×D):D:=.tup [.str r.1,.str r.2.1,r.2.2]
abbrev xq0(a:D)(rs:List (Str×Str×D)):D:=.tup [.str (S "case"),a,.tup (rs.map dArm)]
abbrev tIfD(a b c:D):D:=.tup [.str (S "if"),a,b,c]
def xls(env:En)(d v:D):Prop:=(∃n,d=tNum n/\v=.int n)\/∃x,env x=some v/\d=tBox x
def xo3(ks:List Kn)(R:En->D->D->Prop)(env:En)(d v:D):Prop:=
 (∃s a b x y,R env a (.int x)/\R env b (.int y)/\Nm x/\Nm y/\d=tOpD s a b/\v=.int (opV s x y)) ∨
 (∃k es vs,es.length<=1000/\All2 (R env) es vs/\d=tRec k es/\v=.tup [.str k,.tup vs]) ∨
 (∃a k vs f kn i,R env a (.tup [.str k,.tup vs])/\kAt ks k=some kn/\(kn.parts.map (·.1)).findIdx? (λz=>decide (z=f))=some i/\vs[i]?=some v/\d=tGet a f) ∨
 (∃k t a x,R env a x/\d=tTag k t a/\v=.tup [.str k,.str t,x]) ∨
 (∃a rs k t x y e,rs.length<=1000/\R env a (.tup [.str k,.str t,x])/\rs.find? (λr=>decide (r.1=t))=some (t,y,e)/\R (env.put y x) e v/\d=xq0 a rs) ∨
 (∃a b c x,R env a (.int x)/\R env (if x=0 then c else b) v/\d=tIfD a b c)
def Ev(ks:List Kn):Nat->En->D->D->Prop
 |0=>xls
 |n+1=>λenv d v=>xls env d v\/xo3 ks (Ev ks n) env d v
def xjf(env:En)(d:D)(k:Str):Prop:=(∃n,Nm n/\d=tNum n/\k=S "num")\/∃x,env x=some (.str k)/\d=tBox x
def xdv(kn:Kn)(f:Str):Option Str:=(kn.parts.find? λp=>decide (p.1=f)).map (·.2)
abbrev RKn:=En->D->Str->Prop
def OpKd(R:RKn):RKn:=λenv d k=>∃s a b,R env a (S "num")/\R env b (S "num")/\d=tOpD s a b/\k=S "num"
def xr6(ks:List Kn)(R:RKn):RKn:=λenv d k=>∃es kn,kAt ks k=some kn/\kn.rc=true/\All2 (λe (p:Str×Str)=>R env e p.2) es kn.parts/\d=tRec k es
def xr7(ks:List Kn)(R:RKn):RKn:=λenv d k=>∃a k1 f kn,R env a k1/\kAt ks k1=some kn/\kn.rc=true/\xdv kn f=some k/\d=tGet a f
def xr5(ks:List Kn)(R:RKn):RKn:=λenv d k=>∃t a kn k1,kAt ks k=some kn/\kn.rc=false/\xdv kn t=some k1/\R env a k1/\d=tTag k t a
def xlt (cs:Prop) (ks:List Kn) (R:RKn):RKn:=λenv d k=>cs/\∃a,∃rs:List (Str×Str×D),∃k1 kn,R env a k1/\kAt ks k1=some kn/\kn.rc=false/\rs≠[]/\rs.length=kn.parts.length/\(rs.map (·.1)).Nodup ∧
  (∀r∈rs,env r.2.1=none/\∃k2,xdv kn r.1=some k2/\R (env.put r.2.1 (.str k2)) r.2.2 k)/\d=xq0 a rs
def IfKd(R:RKn):RKn:=λenv d k=>∃a b c,R env a (S "num")/\R env b k/\R env c k/\d=tIfD a b c
def NodeKd(cs:Prop)(ks:List Kn)(R:RKn):RKn:=λenv d k=>OpKd R env d k\/xr6 ks R env d k\/xr7 ks R env d k\/xr5 ks R env d k\/xlt cs ks R env d k\/IfKd R env d k
def Kd(cs:Prop)(ks:List Kn):Nat->En->D->Str->Prop
 |0=>xjf
 |n+1=>λenv d k=>xjf env d k\/NodeKd cs ks (Kd cs ks n) env d k
theorem xce{α:Type}{p:α->Bool}{xs:List α}{i:Nat}{a:α}(h:(xs.take i).find? p=none)(c:xs[i]?=some a):(p a=true->xs.find? p=some a)/\(p a=false->(xs.take (i+1)).find? p=none):=by
 have hi:i<xs.length:=(zES c).1;have e:xs[i]=a:=(zES c).2;refine⟨λb=>?_,λb=>?_⟩
 ·have f:xs=xs.take i++a::xs.drop (i+1):=by
   rw[<- e,<- List.drop_eq_getElem_cons hi,List.take_append_drop]
  rw[f,List.find?_append,h];simp[b]
 ·rw[zTA,c,List.find?_append,h]
  simp[b]
theorem Same.new2{H:Hp}{p:Addr}(h:H p=none)(o c:HO):Same H (upd (upd H p o) p c):=λb u q=>by
 have a:=neN q h;rw[xai a,xai a];exact q
end M
end
section
namespace St
open PySem PySem.Spec PyProof.Rows
def met(val:Nat->Str)(i:Nat):List Str:=((List.range i).map val).foldl step_dedup []
theorem xfo(val:Nat->Str)(i:Nat):met val (i+1)=step_dedup (met val i) (val i):=by
 unfold met;rw[List.range_succ,zAP,List.foldl_append];rfl
theorem xn3(val:Nat->Str):∀i,(met val i).length<=i
 |0=>Nat.le_refl _
 | i+1=>by
  have a:=xn3 val i;rw[xfo];unfold step_dedup;split
  ·omega
  ·rw[zLA,List.length_singleton]
   omega
theorem xtu(l:List Str)(v k:Str):(step_dedup l v).any (· == k)=(l.any (· == k) || decide (k=v)):=by
 unfold step_dedup;split
 ·rename_i h
  by_cases e:k=v
  ·subst e
   rw[h,Bool.true_or]
  ·rw[zDF e,Bool.or_false]
 ·rw[List.any_append]
  congr 1;rw[Bool.eq_iff_iff];simp;exact eq_comm
theorem xtt(l:List Str)(v:Str):(step_dedup l v).length=if l.any (· == v) then l.length else l.length+1:=by
 unfold step_dedup;split <;> simp
theorem xms:∀{vs:List Value} {ns:List Str},StrsAre vs ns->∀(i:Nat) (v:Value),vs[i]?=some v->∃t,v=.str (ns.getD i Str.empty) t
 |_,_,.nil,i,v,h=>by simp at h
 |_,_,.cons n t r,0,v,h=>by
  simp at h;exact⟨t,h.symm⟩
 |_,_,.cons n t r,i+1,v,h=>by
  obtain⟨t',e⟩:=xms r i v (by simpa using h);exact⟨t',by simpa using e⟩
section
variable {prog:Program}{w:World}{A:Around}{R:Result->Shared->Prop}{I:Addr}{fp wr:List Addr}{G:Array GenState->Array GenState->Prop}{n:Nat}{P:Nat->Value->Prop}{St:Nat->Shared->Prop}
theorem upd_loop (W:WalksS prog w A.in1 I fp J G n P St) (S:Addr) (z:S ∉fp)
  (val:Nat->Str) (l:∀i v,P i v->∃t,v=.str (val i) t) (j:n+1<scanBound) :
  ∀(k i:Nat) (s:Shared),n-i=k->i<=n->St i s->
   s.heap.SetOf (PySem.strKind prog w) S (λk'=>(met val i).any (· == k')) (met val i).length->
   (∀a,Moved (S::J) G s a->a.heap.SetOf (PySem.strKind prog w) S (λk'=>(met val n).any (· == k')) (met val n).length->R (.ok (.ret .none)) a)->
   codeAny (model prog w) A (.builtin "set.update.loop" ⟨[.ref S,.ref I],[]⟩) R s:=by
 have y:S ∉J:=λh=>z (W.sub _ h);have c:∀b∈J,b∈S::J:=λb j=>List.mem_cons_of_mem _ j;intro k
 induction k with
 | zero=>
  intro i s hk hi f hS hR;have U:i=n:=by omega
  subst U;refine codeAny_builtin F.entry_set_update_loop ?_;rw[Around.under_plainId F.plain_set_update_loop _];show wpAny _ A.in1 (pyNext (.ref I) >>= _) _ _ s;refine wpAny_bind (W.done s _ _ f λa u=>?_);show wpAny _ A.in1 (ret Value.none) _ _ a
  exact wpAny_pure (hR a (u.mono c) (by
   obtain⟨o,es,ep,t,O,rest⟩:=hS;exact⟨o,es,ep,t,u.heap S _ y O,rest⟩))
 | succ k ih=>
  intro i s hk hi f hS hR;have x:i<n:=by omega
  refine codeAny_builtin F.entry_set_update_loop ?_;rw[Around.under_plainId F.plain_set_update_loop _];show wpAny _ A.in1 (pyNext (.ref I) >>= _) _ _ s;refine wpAny_bind (W.item i s _ _ x f λv a hP m u=>?_);obtain⟨t,rfl⟩:=l i v hP
  have a0:a.heap.SetOf (PySem.strKind prog w) S (λk'=>(met val i).any (· == k')) (met val i).length:=by
   obtain⟨o,es,ep,tb,O,rest⟩:=hS;exact⟨o,es,ep,tb,u.heap S _ y O,rest⟩
  show wpAny _ A.in1 (holding [Value.str (val i) t] (setAdd S (.str (val i) t)) >>= _) _ _ a;refine wpAny_bind (wpAny_holding ?_);unfold setAdd;refine wpAny_holding ?_;refine wpAny_bind ((PySem.strKind prog w).pyHash (k:=val i) (PySem.strKind_is _ _ _ _) ?_);have g:(met val i).length+1<scanBound:=by have:=xn3 val i;omega
  refine wpAny_setAddHashed_of (knd:=PySem.strKind prog w) (s:={a with toks:=a.toks+1}) (PySem.strKind_is _ _ _ _) rfl a0 g λh' p Z=>?_
  have Y:h'.SetOf (PySem.strKind prog w) S (λk'=>(met val (i+1)).any (· == k')) (met val (i+1)).length:=
   SetOf_congr Z (λk'=>by rw[xfo,xtu]) (by rw[xfo,xtt])
  refine wpAny_pure ⟨plainId_quiet F.plain_set_update_loop _,ih (i+1) _ (by omega) x (W.frame _ a _ _ m (Nat.le_succ _) λb j o e=>?_) Y λM r C=>?_⟩
  ·rw[p.2 b (λh:b=S=>z (by rw[<- h];exact j))];exact e
  ·refine hR M (Moved.trans W.gtrans ((u.mono c).then_heap (Nat.le_succ _) λb o j e=>?_) r) C
   rw[p.2 b (λh:b=S=>j (by rw[h];exact List.mem_cons_self))];exact e
end
section
variable {prog:Program}{w:World}{A:Around}{E:Value->Shared->Prop}{s:Shared}
set_option maxRecDepth 100000 in
set_option maxHeartbeats 3200000 in
theorem call_set_strs {l:Addr} {items:Array Value} {ns:List Str} {Q:Value->Shared->Prop}
  (hh:A.handled=none) (hl:s.heap.IsList l items) (hi:StrsAre items.toList ns) (hb:items.size+1<scanBound)
  (h:∀(h':Heap) (tk:Nat),h'.SetOf (PySem.strKind prog w) s.heap.objs.size (λk'=>(met (λi=>ns.getD i Str.empty) items.size).any (· == k')) (met (λi=>ns.getD i Str.empty) items.size).length->
   (∀b o,b<s.heap.objs.size->s.heap.get? b=some o->h'.get? b=some o)->Q (.ref s.heap.objs.size) {s with heap:=h',toks:=tk}) :
  wpAny (model prog w) A (call (.type "set") [.ref l]) Q E s:=by
 obtain⟨c,tl,hmro⟩:=F.called_set.mro;have hmade:=F.called_set.made;have hsub:=F.called_set.sub;refine wpAny_call (codeAny_of_tree ?_);show wpAny _ _ (callAny (.type "set") _) _ _ _;refine wpAny_pure ⟨Code.quiet_builtin _ (by walk_at"k"),codeAny_builtin F.entry_type_call ?_⟩;rw[Around.under_plain (weight_type_call_type "set" [.ref l] []) rfl];have h1:=F.called_set.notType;have h2:=F.called_set.canCreate;have hct:=F.typeCall_set_1 (.ref l)
 repeat (any_goals (first |assumption |wp_step))
 refine codeAny_mono (code_set_new_1 (.ref l) (E:=E) (Q₁:=λobj s₁=>∃led:Bool,obj=.ref s.heap.objs.size/\s₁={s with heap:=s.heap.push {cls:=.type "set",dict:=none,data:=.set #[] 0 (.fresh 0 0 led)}}) λled=>⟨led,rfl,rfl⟩) λr s₁ hr=>?_
 cases r with
 |error e=>exact hr
 | ok fl=>
  cases fl with
  | ret obj=>
   obtain⟨led,rfl,rfl⟩:=hr;have hS:(s.heap.push {cls:=.type "set",dict:=none,data:=.set #[] 0 (.fresh 0 0 led)}).get? s.heap.objs.size=some {cls:=.type "set",dict:=none,data:=.set #[] 0 (.fresh 0 0 led)}:=Heap.get?_push_size _ rfl;have hT:Shared.TypeIs {s with heap:=s.heap.push {cls:=.type "set",dict:=none,data:=.set #[] 0 (.fresh 0 0 led)}} (.ref s.heap.objs.size) "set":=⟨_,hS,rfl⟩;have hli:=F.called_set.init.lookup;have hbi:=F.called_set.init.bind (.ref s.heap.objs.size)
   repeat (any_goals (first |assumption |wp_step))
   refine codeAny_mono (codeAny_call_builtin (R:=wants (λr s₂=>r=.none/\∃h' tk,s₂={s with heap:=h',toks:=tk} ∧
     h'.SetOf (PySem.strKind prog w) s.heap.objs.size (λk'=>(met (λi=>ns.getD i Str.empty) items.size).any (· == k')) (met (λi=>ns.getD i Str.empty) items.size).length ∧
     (∀b o,b<s.heap.objs.size->s.heap.get? b=some o->h'.get? b=some o)) E) F.called_set.init.plain F.entry_set_init (check_set_init_1 hT ?_)) λr₂ s₂ hr₂=>?_
   ·obtain⟨ol,hol,hcl,nl,hdl⟩:=hl
    obtain⟨ocls,odict,odata,oslots⟩:=ol;simp only at hcl hdl;subst hcl;subst hdl;have hol':(s.heap.push {cls:=.type "set",dict:=none,data:=.set #[] 0 (.fresh 0 0 led)}).get? l=some {cls:=.type "list",dict:=odict,data:=.seq items nl,slots:=oslots}:=zPO _ hol;have hsls:=F.sub_list_set;have hslf:=F.sub_list_frozenset;have hne:(Value.type "list" == Value.type "dict")=false:=by decide
    have hl1:(s.heap.push {cls:=.type "set",dict:=none,data:=.set #[] 0 (.fresh 0 0 led)}).IsList l items:=⟨_,hol',rfl,nl,rfl⟩;unfold Builtin.«set.__init__» noKeywords Builtin.Frozenset.updateFrom;generalize hPI:pyIter=PI
    wp_walk
    subst hPI;refine wpAny_pyIter_list hl1 ?_;refine wpAny_bind (wpAny_runValue ?_);have hlS:l<s.heap.objs.size:=Heap.lt_size hol;have hh3:A.in1.in1.in1.handled=none:=by simp[hh]
    have hneI:l≠(s.heap.push {cls:=.type "set",dict:=none,data:=.set #[] 0 (.fresh 0 0 led)}).objs.size:=by
     rw[Heap.size_push];exact Nat.ne_of_lt (Nat.lt_succ_of_lt hlS)
    have hSf:s.heap.objs.size ∉ [(s.heap.push {cls:=.type "set",dict:=none,data:=.set #[] 0 (.fresh 0 0 led)}).objs.size,l]:=by
     rw[Heap.size_push];simp only[List.mem_cons,List.mem_singleton,List.not_mem_nil,or_false,not_or];exact⟨Nat.ne_of_lt (Nat.lt_succ_self _),Nat.ne_of_gt hlS⟩
    have hval:∀(i:Nat) (v:Value),items[i]?=some v->∃t,v=.str ((λi=>ns.getD i Str.empty) i) t:=λi v hv=>
     xms hi i v (by rw[Array.getElem?_toList];exact hv)
    refine upd_loop ((Walks.list hh3 _ l hneI items).toS) s.heap.objs.size
     hSf (λi=>ns.getD i Str.empty) hval hb (items.size-0) 0 _ (by omega) (Nat.zero_le _)
     ⟨⟨_,Heap.get?_push_size _ rfl,rfl,rfl⟩,(hl1.push _)⟩ ?hS0 ?hR
    case hS0=>
     have hget:((s.heap.push {cls:=.type "set",dict:=none,data:=.set #[] 0 (.fresh 0 0 led)}).push {cls:=.type "list_iterator",data:=.fields #[.ref l,.int 0 0]}).get? s.heap.objs.size
       = some {cls:=.type "set",dict:=none,data:=.set #[] 0 (.fresh 0 0 led)}:=zPO _ hS
     exact SetOf_congr ((setObjOf_fresh (knd:=PySem.strKind prog w) led).setOf hget (by unfold scanBound;omega)) (λ_=>rfl) rfl
    case hR=>
     intro s' hm hS';obtain⟨h',g',d',tk',os'⟩:=s';have eg:g'=s.gens:=hm.gens;have ed:d'=s.drawn:=hm.drawn;have eo:os'=s.os:=hm.os;subst eg;subst ed;subst eo;show wpAny _ _ _ _ _ _;refine wpAny_pure ?_;show wpAny _ _ (ret Value.none) _ _ _;refine wpAny_pure ⟨rfl,h',tk',rfl,hS',λb o hb e=>?_⟩;have hb1:b≠s.heap.objs.size:=Nat.ne_of_lt hb
     have hb2:b≠(s.heap.push {cls:=.type "set",dict:=none,data:=.set #[] 0 (.fresh 0 0 led)}).objs.size:=by
      rw[Heap.size_push];exact Nat.ne_of_lt (Nat.lt_succ_of_lt hb)
     exact hm.heap b o (by simp only[List.mem_cons,List.mem_singleton,List.not_mem_nil,or_false,not_or];exact⟨hb1,hb2⟩) (zPO _ (zPO _ e))
   ·cases r₂ with
    |error e=>exact hr₂
    | ok fl₂=>
     cases fl₂ with
     |ret r=>
      obtain⟨rfl,h',tk,rfl,hS',hk'⟩:=hr₂
      repeat (any_goals (first |assumption |wp_step))
      exact h _ _ hS' hk'
     |_=>exact hr₂.elim
  |_=>exact hr.elim
end
end St
end
section
namespace M
open PySem L2
mutual
def D.deep:D->Nat
 |.int _=>0
 |.str _=>0
 |.tup ds=>xej ds+1
def xej:List D->Nat
 |[]=>0
 |d::ds=>max d.deep (xej ds)
end
theorem xdf:∀{ds:List D} {d:D},d∈ds->d.deep<=xej ds
 | e::ds,d,h=>by
  show d.deep<=max e.deep (xej ds);rcases zMC h with rfl |h
  ·omega
  ·have:=xdf h
   omega
theorem xfs{n:Nat}:∀{ds:List D},(∀d∈ds,d.deep<=n)->xej ds<=n
 |[],_=>Nat.zero_le _
 |e::ds,h=>by
  show max e.deep (xej ds)<=n;have b:=h e (by simp);have a:=xfs (ds:=ds) λd hd=>h d (List.mem_cons_of_mem _ hd);omega
section
variable {X:Cx}{pins:List (Addr×Obj)}{σ:St}{H:Hp}{s:Shared}
theorem xee{vs:List V}{its:List Value}(r:Vals vs its){j:Nat}(a:j<its.toArray.size):∃x,vs[j]?=some x/\RelV x its.toArray[j]:=by
 have b:=r.length;have h:j<its.length:=by simpa using a
 obtain⟨u,e,q⟩:=r.get (i:=j) (x:=vs[j]'(by omega)) (zGA _)
 have g:its.toArray[j]=u:=by
  have:its[j]?=some its[j]:=zGA h;rw[e]at this;simpa using (Option.some.inj this).symm
 exact⟨vs[j]'(by omega),zGA _,by rw[g];exact q⟩
theorem xmk(I:Inv X pins σ H s):∀(n:Nat) (d:D) {x y:V} {u v:Value} {A:Around},d.deep<=n->RelD H x d->RelD H y d->RelV x u->RelV y v->A.units+n<cLine->SeqAt.EqAt A s u v true
 |n,.int i,x,y,u,v,A,_,hx,hy,ru,rv,_=>by
  cases hx;cases hy;obtain⟨t,rfl⟩:=ru;obtain⟨t',rfl⟩:=rv;have:=SeqAt.EqAt.int_int (A:=A) (s:=s) i t i t';rw[beq_self_eq_true]at this;exact this
 |n,.str z,x,y,u,v,A,_,hx,hy,ru,rv,_=>by
  cases hx;cases hy;obtain⟨t,rfl⟩:=ru;obtain⟨t',rfl⟩:=rv;have:=SeqAt.EqAt.str_str (A:=A) (s:=s) z t z t';rw[beq_self_eq_true]at this;exact this
 |0,.tup ds,x,y,u,v,A,h,_,_,_,_,_=>absurd h (Nat.not_succ_le_zero _)
 | n + 1,.tup ds,x,y,u,v,A,h,hx,hy,ru,rv,hA=>by
  obtain⟨a,vs,rfl,ha,rvs⟩:=hx;obtain⟨b,ws,rfl,hb,rws⟩:=hy;obtain rfl:u=.ref a:=ru;obtain rfl:v=.ref b:=rv;by_cases hab:a=b
  ·subst hab
   exact SeqAt.EqAt.same _
  ·obtain⟨its,r1,p1,_⟩:=I.tuple (SqT.of (K:=X.K) ha)
   obtain⟨its2,r2,p2,_⟩:=I.tuple (SqT.of (K:=X.K) hb);have l1:=r1.length;have l2:=r2.length;have l3:=rvs.length;have l4:=rws.length;have:=SeqAt.EqAt.of_refs hab (SeqAt.RcAt.tuples (A:=A) (e:=λ_=>true) p1 p2 (by omega) λj h1 h2=>?_)
   ·have e:((List.range (min its.toArray.size its2.toArray.size)).all (λ_=>true) && its.toArray.size == its2.toArray.size)=true:=by
     rw[show its.toArray.size=its2.toArray.size by simp only[List.size_toArray];omega];simp
    rw[e]at this;exact this
   ·obtain⟨x1,e1,q1⟩:=xee r1 h1
    obtain⟨x2,e2,q2⟩:=xee r2 h2;obtain⟨d1,f1,g1⟩:=rvs.get e1;obtain⟨d2,f2,g2⟩:=rws.get e2;rw[f1]at f2;cases f2;refine xmk I n d1 ?_ g1 g2 q1 q2 (by show A.units+1+n<cLine;omega);have:=xdf (zMG f1);have h':xej ds+1<=n+1:=h;omega
def rEqD:R2:=λx y H Q=>∃d:D,RelD H x d/\RelD H y d/\d.deep<=190/\Q (.bl true) H
theorem xta(hu:X.A.units+200<cLine):OpR X (compareOp .Eq) rEqD:=by
 intro f s σ H x y v u Q I n m h;obtain⟨d,p,o,hd,q⟩:=h
 cases d with
 |int i=>
  cases p;cases o;exact xbe f s σ H _ _ _ _ Q I n m ⟨rfl,by rw[zDT rfl];exact q⟩
 |str z=>
  cases p;cases o;exact xbe f s σ H _ _ _ _ Q I n m ⟨rfl,by rw[zDT rfl];exact q⟩
 | tup ds=>
  obtain⟨a,vs,rfl,Z,l⟩:=p;obtain⟨b,ws,rfl,Y,g⟩:=o;obtain rfl:v=.ref a:=n;obtain rfl:u=.ref b:=m;obtain⟨its,w,U,_⟩:=I.tuple (SqT.of (K:=X.K) Z);obtain⟨c,r,O,_⟩:=I.tuple (SqT.of (K:=X.K) Y);have l1:=w.length;have l2:=r.length;have l3:=l.length;have l4:=g.length;refine SeqAt.eq_tupleAt (e:=λ_=>true) U O (by omega) (λj h1 h2=>?_) ⟨.bl true,H,I,?_,q⟩
  ·obtain⟨x1,e1,M⟩:=xee w h1
   obtain⟨x2,e2,J⟩:=xee r h2;obtain⟨d1,G,g1⟩:=l.get e1;obtain⟨d2,C,g2⟩:=g.get e2;rw[G]at C;cases C;refine xmk I 190 d1 ?_ g1 g2 M J (by show X.A.units+1+190<cLine;omega);have:=xdf (zMG G);have h':xej ds+1<=190:=hd;omega
  ·have e:((List.range (min its.toArray.size c.toArray.size)).all (λ_=>true) && its.toArray.size == c.toArray.size)=true:=by
    rw[show its.toArray.size=c.toArray.size by simp only[List.size_toArray];omega];simp
   rw[e];rfl
end
def five:List Nat:=[113,120,122,118,119]
def nmA(cs:List Nat)(a:Nat)(b:Int)(k:Nat):List Nat:=cs.take a++(97+((b+5*(k:Int))%26).toNat)::cs.drop a
def nmB(cs:List Nat)(a:Nat)(b:Int)(k:Nat):List Nat:=nmA cs a b (k-k%2)++List.replicate (k%2) 113
def xje(nms:List Str):Prop:=nms.length=26/\nms.Nodup/\∀z∈nms,Name z
theorem xgb(cs:List Nat)(a:Nat)(b:Int)(k:Nat):(nmA cs a b k).length=cs.length+1:=by
 unfold nmA;rw[zLA,List.length_cons,List.length_take,List.length_drop];omega
theorem xga(cs:List Nat)(a:Nat)(b:Int)(k:Nat):(nmB cs a b k).length=cs.length+1+k%2:=by
 unfold nmB;rw[zLA,xgb,List.length_replicate]
theorem xnx{cs:List Nat}{a:Nat}{b:Int}{k j:Nat}(e:k<26)(f:j<26)(h:nmA cs a b k=nmA cs a b j):k=j:=by
 unfold nmA at h;have c:=List.append_cancel_left h;have g:=(List.cons.inj c).1;omega
theorem xrp{cs:List Nat}{a:Nat}{b:Int}{k j:Nat}(g:k<26)(i:j<26)(h:nmB cs a b k=nmB cs a b j):k=j:=by
 have e:=congrArg List.length h;rw[xga,xga]at e;have c:k%2=j%2:=by omega
 unfold nmB at h;rw[c]at h;have f:=List.append_cancel_right h;have l:=xnx (by omega) (by omega) f;omega
theorem xir{f:Nat->Str}(h:∀k j,k<26->j<26->f k=f j->k=j):((List.range 26).map f).Nodup:=by
 refine List.pairwise_map.mpr (List.Pairwise.imp_of_mem (λhi b a e=>?_) (List.pairwise_lt_range (n:=26)));have:=h _ _ (List.mem_range.mp hi) (List.mem_range.mp b) e;omega
theorem xgh:∀c∈five,xes c=true:=by decide
theorem xix(i:Int):xes (97+(i%26).toNat)=true:=by
 unfold xes;have b:0<=i%26:=Int.emod_nonneg _ (by decide);have a:i%26<26:=Int.emod_lt_of_pos _ (by decide);rw[Bool.and_eq_true,decide_eq_true_eq,decide_eq_true_eq];omega
theorem xn0{l:List Nat}(i:1<=l.length)(h:l.length<=6)(f:∀c∈l,xes c=true)(a:l.length=1\/∃c∈l,c∈five):Name (ofL l):=by
 show xn1 l=true;unfold xn1
 have ne:∀z:List Nat,z.length≠1->(∀c∈z,c ∉five)->(l != z)=true:=λz hz g=>by
  rw[bne_iff_ne];intro e;subst e;rcases a with a |⟨c,b,a⟩
  ·exact hz a
  ·exact g c b a
 rw[ne [110,117,109] (by decide) (by decide),ne [105,116] (by decide) (by decide),zDT i,zDT h,List.all_eq_true.mpr f];rfl
theorem mem_nmA{cs:List Nat}{a:Nat}{b:Int}{k c:Nat}:c∈nmA cs a b k ↔ c∈cs\/c=97+((b+5*(k:Int))%26).toNat:=by
 unfold nmA;rw[List.mem_append,List.mem_cons]
 have e:c∈cs ↔ c∈cs.take a\/c∈cs.drop a:=by
  rw[<- List.mem_append,List.take_append_drop]
 rw[e];constructor
 ·rintro(h |h |h)
  ·exact .inl (.inl h)
  ·exact .inr h
  ·exact .inl (.inr h)
 ·rintro((h |h) |h)
  ·exact .inl h
  ·exact .inr (.inr h)
  ·exact .inr (.inl h)
theorem xpp{cs:List Nat}{a:Nat}{b:Int}{k:Nat}(g:cs.length<=4)(e:∀c∈cs,c∈five):Name (ofL (nmA cs a b k)):=by
 refine xn0 (by rw[xgb];omega) (by rw[xgb];omega) (λc f=>?_) ?_
 ·rcases mem_nmA.mp f with h |h
  ·exact xgh c (e c h)
  ·rw[h];exact xix _
 ·cases cs with
  |nil=>exact .inl (by rw[xgb];rfl)
  |cons c r=>exact .inr ⟨c,mem_nmA.mpr (.inl (by simp)),e c (by simp)⟩
theorem xpo{cs:List Nat}{a:Nat}{b:Int}{k:Nat}(i:cs.length<=4)(f:∀c∈cs,c∈five):Name (ofL (nmB cs a b k)):=by
 refine xn0 (by rw[xga];omega) (by rw[xga];omega) (λc e=>?_) ?_
 ·unfold nmB at e
  rcases zMA e with e |e
  ·rcases mem_nmA.mp e with h |h
   ·exact xgh c (f c h)
   ·rw[h];exact xix _
  ·rw[(List.mem_replicate.mp e).2];decide
 ·by_cases g:k%2=0
  ·cases cs with
   |nil=>exact .inl (by rw[xga,g];rfl)
   |cons c r=>exact .inr ⟨c,by unfold nmB;exact List.mem_append_left _ (mem_nmA.mpr (.inl (by simp))),f c (by simp)⟩
  ·refine .inr ⟨113,?_,by decide⟩
   unfold nmB;exact List.mem_append_right _ (List.mem_replicate.mpr ⟨by omega,rfl⟩)
theorem nmsA{cs:List Nat}{a:Nat}{b:Int}(h:cs.length<=4)(i:∀c∈cs,c∈five):xje ((List.range 26).map λk=>ofL (nmA cs a b k)):=by
 refine⟨by simp,xir λk j f g e=>xnx f g (congrArg L e),λz hz=>?_⟩;obtain⟨k,_,rfl⟩:=zMP hz;exact xpp h i
theorem nmsB{cs:List Nat}{a:Nat}{b:Int}(h:cs.length<=4)(i:∀c∈cs,c∈five):xje ((List.range 26).map λk=>ofL (nmB cs a b k)):=by
 refine⟨by simp,xir λk j f g e=>xrp f g (congrArg L e),λz hz=>?_⟩;obtain⟨k,_,rfl⟩:=zMP hz;exact xpo h i
theorem xo8(x:Str){j:Int}(h0:0<=j)(a:j<=x.length):Txt.slice x none (some j)=ofL ((L x).take j.toNat):=by
 have e:Txt.slice x none (some j)=StrLaws.sliceText x none (some j):=rfl;rw[e,StrLaws.sliceText_to ⟨h0,by rw[show x.cps.toList.length=x.length by simp[Str.length]];exact a⟩];show ofL ((((L x).drop 0).take (j-0).toNat))=_;rw[List.drop_zero,Int.sub_zero]
theorem xlz(x:Str){j:Int}(h0:0<=j)(a:j<=x.length):Txt.slice x (some j) none=ofL ((L x).drop j.toNat):=by
 have e:Txt.slice x (some j) none=StrLaws.sliceText x (some j) none:=rfl;rw[e,StrLaws.sliceText_from ⟨h0,by rw[show x.cps.toList.length=x.length by simp[Str.length]];exact a⟩];apply xp6;show((L x).drop j.toNat).take _=(L x).drop j.toNat;refine zTL ?_;rw[List.length_drop];show(L x).length-j.toNat<=(((L x).length:Int)-j).toNat;omega
theorem xn8{i:Int}(h0:0<=i)(h:i<26):atI (S "abcdefghijklmnopqrstuvwxyz").cps.toList i=some (97+i.toNat):=by
 have all:∀k,k<26->(S "abcdefghijklmnopqrstuvwxyz").cps.toList[k]?=some (97+k):=by walk_at"k"
 have a:i=((i.toNat:Nat):Int):=by omega
 have q:=xas (all i.toNat (by omega));rw[<- a]at q;exact q
theorem xrz{i:Int}(h0:0<=i)(h:i<5):∃c∈five,atI (S "qxzvw").cps.toList i=some c:=by
 have e:(S "qxzvw").cps.toList=five:=by walk_at"k"
 rw[e];exact xlp h0 h
theorem xnz(cs:List Nat)(a ch:Nat):ofL (cs.take a)++(⟨#[ch]⟩:Str)++ofL (cs.drop a)=ofL (cs.take a++ch::cs.drop a):=by
 apply xp6;rw[xey,xey,xek,xek,xek];show cs.take a++[ch]++cs.drop a=_;simp
end M
namespace L2
open PySem PySem.Spec PyProof.Rows
theorem xrg{X:Cx}:OpR X (binaryOp .Mult) (λx y H Q=>∃i n,x=.str i/\y=.int n/\(n=0\/n=1)/\Q (.str (if n=1 then i else Str.empty)) H):=by
 intro pins s σ H x y v u Q I rx ry h;obtain⟨i,n,rfl,rfl,hn,q⟩:=h;obtain⟨t,rfl⟩:=rx;obtain⟨t',rfl⟩:=ry;refine SB.mul ?_ λt' k=>⟨.str _,H,I.tok k,⟨t',rfl⟩,?_⟩
 ·rcases hn with rfl |rfl
  ·exact⟨by decide,λh=>absurd (by decide) h,λh=>absurd (by decide) h⟩
  ·exact⟨by decide,λ_ h=>by simp at h,λ_ h=>by simp at h⟩
 ·have e:Txt.mul i n=if n=1 then i else Str.empty:=by
   rcases hn with rfl |rfl
   ·rfl
   ·unfold Txt.mul
    rw[if_neg (by decide),if_pos (by simp),if_pos rfl]
  rw[e];exact q
end L2
end
section
namespace M
open PySem L2
structure KWf(ks:List Kn):Prop where
 nd:(ks.map Kn.name).Nodup
 nm:∀k∈ks,Name k.name
 ref:∀(i:Nat) (k:Kn),ks[i]?=some k->∀p∈k.parts,p.2=S "num"\/∃j,∃k':Kn,j<i/\ks[j]?=some k'/\k'.name=p.2
 alt:∀k∈ks,k.rc=false->k.parts≠[]
 few:ks.length<=6
 pts:∀k∈ks,k.parts.length<=5
 pnd:∀k:Kn,k∈ks->(k.parts.map (λp:Str×Str=>p.1)).Nodup
 pnm:∀k:Kn,k∈ks->∀p∈k.parts,Name p.1
theorem xei{x:Str}(h:Name x):x≠S "num":=λe=>by
 rw[e]at h;exact absurd (show xn1 (S "num").cps.toList=true from h) (by walk_at"k")
theorem KWf.nil:KWf []:=⟨List.nodup_nil,(λ_ h=>nomatch h),(λi k h=>by simp at h),(λ_ h=>nomatch h),Nat.zero_le _,(λ_ h=>nomatch h),(λ_ h=>nomatch h),(λ_ h=>nomatch h)⟩
theorem xcq{α:Type}{f:α->Str}:∀{xs:List α} {i:Nat} {a:α},(xs.map f).Nodup->xs[i]?=some a->xs.find? (λz=>decide (f z=f a))=some a
 |x::xs,0,a,nd,h=>by
  simp at h;subst h;rw[List.find?_cons,zDT rfl]
 |x::xs,i+1,a,nd,h=>by
  have h':xs[i]?=some a:=by simpa using h
  rw[List.map_cons,List.nodup_cons]at nd;have b:f x≠f a:=λe=>nd.1 (by rw[e];exact List.mem_map_of_mem (zMG h'));rw[List.find?_cons,zDF b];exact xcq nd.2 h'
theorem KWf.at{ks:List Kn}(w:KWf ks){i:Nat}{k:Kn}(h:ks[i]?=some k):kAt ks k.name=some k:=xcq (f:=Kn.name) w.nd h
theorem KWf.no{ks:List Kn}{x:Str}(h:∀k∈ks,k.name≠x):kAt ks x=none:=by
 unfold kAt;rw[List.find?_eq_none];intro k a;simpa using h k a
theorem KWf.num{ks:List Kn}(w:KWf ks):kAt ks (S "num")=none:=KWf.no λk a=>xei (w.nm k a)
def KIn(ks:List Kn)(n:Nat)(x:Str):Prop:=x=S "num"\/∃j k,j<n/\ks[j]?=some k/\k.name=x
theorem KIn.mono{ks:List Kn}{n m:Nat}{x:Str}(h:KIn ks n x)(l:n<=m):KIn ks m x:=by
 rcases h with h |⟨j,k,a,h⟩
 ·exact .inl h
 ·exact .inr ⟨j,k,by omega,h⟩
theorem KIn.ap{ks more:List Kn}{n:Nat}{x:Str}(h:KIn ks n x):KIn (ks++more) n x:=by
 rcases h with h |⟨j,k,b,a,c⟩
 ·exact .inl h
 ·exact .inr ⟨j,k,b,by rw[List.getElem?_append_left (zES a).1];exact a,c⟩
theorem KIn.of{ks:List Kn}{x:Str}(h:x=S "num"\/∃k∈ks,k.name=x):KIn ks ks.length x:=by
 rcases h with h |⟨k,b,h⟩
 ·exact .inl h
 ·obtain⟨j,a,e⟩:=zMI b
  exact .inr ⟨j,k,a,by rw[<- e];exact zGA a,h⟩
theorem KWf.snoc {ks:List Kn} (w:KWf ks) {k:Kn} (o:k.name ∉ks.map Kn.name) (n:Name k.name) (m:∀p∈k.parts,KIn ks ks.length p.2) (l:k.rc=false->k.parts≠[]) (r:ks.length<6) (j:k.parts.length<=5)
  (h:(k.parts.map (·.1)).Nodup) (g:∀p∈k.parts,Name p.1):KWf (ks++[k]):=by
 have c:∀{q:Kn->Prop},(∀z∈ks,q z)->q k->∀z∈ks++[k],q z:=λa b z hz=>by
  rcases zMA hz with hz |hz
  ·exact a z hz
  ·rw[zMO hz];exact b
 refine⟨?_,c w.nm n,?_,c w.alt l,by rw[zLA,List.length_singleton];omega,c w.pts j,c w.pnd h,c w.pnm g⟩
 ·rw[zAP]
  exact xny w.nd o
 ·intro i z hz p f
  by_cases hi:i<ks.length
  ·rw[List.getElem?_append_left hi]at hz
   exact KIn.ap (w.ref i z hz p f)
  ·rw[List.getElem?_append_right (by omega)]at hz
   have e:i-ks.length=0:=by
    have:=(zES hz).1;simp at this;omega
   rw[e]at hz;simp at hz;subst hz;exact(m p f).ap.mono (by omega)
def maxD:List Int->Int
 |[]=>0
 |n::ns=>max n (maxD ns)
theorem xn4:∀{ns:List Int} {n:Int},n∈ns->n<=maxD ns
 | m::ns,n,h=>by
  show n<=max m (maxD ns);rcases zMC h with rfl |h
  ·omega
  ·have:=xn4 h
   omega
theorem xhm:∀{ns:List Int},ns≠[]->(∀n∈ns,0<=n)->maxD ns∈ns
 |[n],_,h=>by
  have h0:=h n (by simp);show max n 0∈[n];rw[Int.max_eq_left h0];simp
 |n::m::ns,_,h=>by
  have a:=xhm (ns:=m::ns) (by simp) λx b=>h x (List.mem_cons_of_mem _ b);show max n (maxD (m::ns))∈n::m::ns;rcases Int.le_total n (maxD (m::ns)) with e |e
  ·rw[Int.max_eq_right e];exact List.mem_cons_of_mem _ a
  ·rw[Int.max_eq_left e];simp
theorem xrr{ns:List Int}{m:Int}(hn:ns≠[])(h0:∀n∈ns,0<=n)(a:m∈ns)(h:∀n∈ns,n<=m):m=maxD ns:=by
 have c:=xn4 a;have b:=h _ (xhm hn h0);omega
def szF:Nat->List Kn->Str->Int
 |0,_,_=>1
 |n+1,ks,x=>match kAt ks x with
  |none=>1
  |some k=>1+(if k.rc=true then (k.parts.map λp=>szF n ks p.2).sum else maxD (k.parts.map λp=>szF n ks p.2))
theorem xfz{ks:List Kn}(e:∀k∈ks,k.parts.length<=5):∀(n:Nat) (x:Str),1<=szF n ks x/\szF n ks x<=6 ^ n
 |0,x=>by simp[szF]
 | n + 1,x=>by
  unfold szF;have u:(1:Int)<=6 ^ n:=Int.pow_pos (by decide);have w:(6:Int) ^ (n+1)=6*6 ^ n:=by rw[Int.pow_succ,Int.mul_comm]
  cases j:kAt ks x with
  |none=>simp only;omega
  | some k=>
   simp only;have c:=e k (zMF j)
   have all:∀m∈k.parts.map (λp=>szF n ks p.2),1<=m/\m<=6 ^ n:=λm b=>by
    obtain⟨p,_,rfl⟩:=zMP b;exact xfz e n p.2
   have i:(k.parts.map (λp=>szF n ks p.2)).length<=5:=by rw[zLM];exact c
   generalize k.parts.map (λp=>szF n ks p.2)=ns at all i⊢
   have hs:∀(l:List Int),(∀m∈l,1<=m/\m<=(6:Int) ^ n)->0<=l.sum/\l.sum<=l.length*6 ^ n:=by
    intro l
    induction l with
    |nil=>intro _;simp
    |cons a r g=>
     intro h;have s:=h a (by simp);have o:=g λm b=>h m (List.mem_cons_of_mem _ b);rw[List.sum_cons,List.length_cons];push_cast;rw[Int.add_mul];omega
   have b:0<=maxD ns/\maxD ns<=6 ^ n:=by
    by_cases f:ns=[]
    ·subst f;simp[maxD];omega
    ·have:=all _ (xhm f λm b=>by have:=all m b;omega)
     omega
   have s:=hs ns all;have o:(ns.length:Int)*6 ^ n<=5*6 ^ n:=Int.mul_le_mul_of_nonneg_right (by omega) (by omega);split <;> omega
def KsSeq(H:Hp)(v:V)(ks:List Kn):Prop:=∃a vs,v=.ref a/\(H a=some (.lst vs)\/H a=some (.tup vs))/\RelDs H vs (ks.map Kn.d)
theorem KsSeq.same{H b:Hp}{v:V}{ks:List Kn}(h:KsSeq H v ks)(s:Same H b):KsSeq b v ks:=by
 obtain⟨a,vs,e,f,c⟩:=h;exact⟨a,vs,e,f.imp (s _ _) (s _ _),c.same s _⟩
theorem KWf.ksAt{ks:List Kn}(w:KWf ks){H:Hp}{v:V}(h:RelD H v (xdg ks)):KsAt H v ks:=⟨h,by have:=w.few;omega,λk a=>by have:=w.pts k a;omega⟩
theorem KsAt.seq{H:Hp}{v:V}{ks:List Kn}(h:KsAt H v ks):KsSeq H v ks:=by
 obtain⟨a,vs,e,c,b⟩:=h.1;exact⟨a,vs,e,.inr c,b⟩
def xm7:Option Kn->Str
 |some k=>k.sort
 |none=>S "num"
end M
namespace L2
open PySem PySem.Spec PyProof.Rows
theorem xs1{X:Cx}{b it:Expr}{e c:TI}(g:PI X b it e)(f:PI X b it c):PI X b it (λσ H R=>e σ H R\/c σ H R):=λa s σ H R I h=>by
 rcases h with h |h
 ·exact g a s σ H R I h
 ·exact f a s σ H R I h
end L2
namespace L2
theorem xdo{σ:St}{H:Hp}{A B:Hp->Prop}(h:A H):tYes σ H (λb a=>if b=true then A a else B a):=by
 unfold tYes;show if true=true then A H else B H;rw[if_pos rfl];exact h
end L2
namespace M
open PySem L2
theorem Fed.put{f p:Addr}{H c:Hp}(h:Fed f H c)(i:H p=none)(j:p≠f)(o:HO):Fed f H (upd c p o):=by
 obtain⟨s,x,y,e⟩:=h;refine⟨λb u a g=>?_,x,y,?_⟩
 ·rw[xai (neN a i)]
  exact s b u a g
 ·rw[xai (Ne.symm j)]
  exact e
theorem lst_tups{H:Hp}{p:Addr}{us:List V}(h:H p=some (.lst us))(o:HO):∀b vs,H b=some (.tup vs)->upd H p o b=some (.tup vs):=λb vs a=>by
 rw[xai λe=>by rw[e,h]at a;cases a];exact a
theorem xla{ks:List Kn}{r:Int}(h0:0<=r)(h:r<1+(ks.length:Int)):∃x,atI ([V.str (S "num")]++(ks.map Kn.name).map V.str) r=some (.str x)/\KIn ks ks.length x:=by
 have e:[V.str (S "num")]++(ks.map Kn.name).map V.str=(S "num"::ks.map Kn.name).map V.str:=rfl;obtain⟨z,hz,b⟩:=xlp (cs:=(S "num"::ks.map Kn.name).map V.str) h0 (by rw[zLM,List.length_cons,zLM];push_cast;omega);obtain⟨y,a,rfl⟩:=zMP hz;refine⟨y,by rw[e];exact b,?_⟩;rcases zMC a with rfl |a
 ·exact .inl rfl
 ·obtain⟨k,c,rfl⟩:=zMP a
  exact KIn.of (.inr ⟨k,c,rfl⟩)
theorem xku{ys:List Str}{i:Nat}(h:i<ys.length):atI (ys.map V.str) (0+(i:Int))=some (.str ys[i]):=by
 rw[Int.zero_add];exact xas (by rw[zGM,zGA h];rfl)
theorem xtv{a:List Str}(h:a.length=26):cutV (a.map V.str) (some 8) (some 12)=((a.drop 8).take 4).map V.str:=by
 unfold cutV HT.sIx;rw[zLM,h,List.map_take,List.map_drop];rfl
theorem xuf{a:List Str}(h:xje a)(i:Nat):(((a.drop 8).take 4).take i).Nodup/\∀z∈((a.drop 8).take 4).take i,Name z:=by
 have hs:(((a.drop 8).take 4).take i).Sublist a:=((List.take_sublist _ _).trans (List.take_sublist _ _)).trans (List.drop_sublist _ _);exact⟨h.2.1.sublist hs,λz hz=>h.2.2 z (hs.subset hz)⟩
theorem xnw{a:List Str}(h:a.Nodup){i:Nat}(hi:i<a.length):a[i] ∉a.take i:=λb=>by
 obtain⟨j,c,e⟩:=zMI b;rw[List.length_take]at c;rw[List.getElem_take]at e;have:=(List.getElem_inj h).mp e;omega
def xtx(nms:List Str)(ks:List Kn):Prop:=KWf ks/\ks.length<=4/\ks.map Kn.name=nms.take ks.length/\∀k∈ks,k.parts.length<=4/\k.parts.map (·.1)=((nms.drop 8).take 4).take k.parts.length
theorem xoh{A:Around}{k:Nat}(a:Room k A):A.units+200<cLine:=by
 have:=a.un;omega
theorem KIn.look{ks:List Kn}(a:KWf ks){m:Nat}{x:Str}(h:KIn ks m x):(x=S "num"/\kAt ks x=none)\/∃j k,m=j+1/\kAt ks x=some k/\k.name=x/\k∈ks/\∀p∈k.parts,KIn ks j p.2:=by
 rcases h with rfl |⟨j,k,f,b,rfl⟩
 ·exact .inl ⟨rfl,a.num⟩
 ·refine .inr ⟨m-1,k,by omega,a.at b,rfl,zMG b,λp e=>?_⟩
  rcases a.ref j k b p e with z |⟨i,c,hi,z⟩
  ·exact .inl z
  ·exact .inr ⟨i,c,by omega,z⟩
end M
end
section
namespace L2
open PySem PySem.Spec PyProof.Rows
theorem xtj{P:Program}{w:World}{k:Key}{v:Value}(h:(xbv P w).is k v=true):RelV (kV k) v:=by
 cases k with
 |inl i=>
  have h':Value.isInt i v=true:=h;unfold Value.isInt at h';split at h' <;> simp_all [RelV,kV]
 |inr x=>
  have h':Value.isStrOf x v=true:=h;unfold Value.isStrOf at h';split at h' <;> simp_all [RelV,kV]
theorem KV.get{κ:Type}{kvs:List (κ×V)}{vs:List (κ×Value)}(r:KV kvs vs){i:Nat}{p:κ×V}{q:κ×Value}(a:kvs[i]?=some p)(b:vs[i]?=some q):p.1=q.1:=by
 unfold KV at r
 induction r generalizing i with
 |nil=>simp at a
 | cons h t c=>
  cases i with
  |zero=>
   simp at a b;subst a b;exact h.1
  |succ i=>exact c (by simpa using a) (by simpa using b)
end L2
end
section
namespace St
open PySem PySem.Spec PyProof.Rows
theorem met_nodup{ns:List Str}(nd:ns.Nodup):∀i,i<=ns.length->met (λi=>ns.getD i Str.empty) i=ns.take i
 |0,_=>rfl
 | i+1,h=>by
  rw[xfo,met_nodup nd i (by omega)];have e:ns.getD i Str.empty=ns[i]:=by simp[List.getD,zGA (show i<ns.length by omega)]
  show step_dedup (ns.take i) (ns.getD i Str.empty)=_;rw[e];unfold step_dedup;rw[if_neg,zTA,zGA (show i<ns.length by omega)]
  ·rfl
  ·intro l
   obtain⟨x,c,g⟩:=List.any_eq_true.mp l;have b:x=ns[i]:=by simpa using g
   subst b;obtain⟨j,f,a⟩:=List.getElem_of_mem c;rw[List.length_take]at f;rw[List.getElem_take]at a;have:=(List.getElem_inj nd).mp a;omega
end St
namespace L2
open PySem PySem.Spec PyProof.Rows
theorem xkv:∀{ns:List Str} {us:List Value},Vals (ns.map V.str) us->StrsAre us ns
 |[],_,h=>by cases h;exact .nil
 | x::r,_,h=>by
  cases h with
  |cons a b=>
   obtain⟨t,rfl⟩:=a;constructor;exact xkv b
def xqx(te:TE):TE:=λσ H Q=>te σ H λx H1=>∃p,∃ns:List Str,x=.ref p/\H1 p=some (.lst (ns.map V.str))/\ns.Nodup/\ns.length<=1000/\Q (.int ns.length) H1
theorem xng {X:Cx} {e:Expr} {J:TE} {p1 n Z j:Pos} (hc:X.calm=true) (C:Gl X "len") (y:X.mg "len"=none) (z:Gl X "set") (w:X.mg "set"=none) (he:PE X e J)
  (f:starEach [e] X.env=[(false,eval e X.env)]:=by rfl)
  (g:starEach [Expr.Call (.Name "set" n) [e] [] j] X.env=[(false,eval (.Call (.Name "set" n) [e] [] j) X.env)]:=by rfl) :
  PE X (.Call (.Name "len" p1) [.Call (.Name "set" n) [e] [] j] [] Z) (xqx J):=by
 intro c s σ H Q I h;refine wpAny_Call_Name_kw (xer I C y PySem.boot_len ?_ (by decide) (by decide));refine PyProof.Rows.callWith_builtin1 ?_ g rfl;rw[g];refine Calls.spliced_cons ?_;refine wpAny_Call_Name_kw (xer I z w PyProof.Rows.boot_set ?_ (by decide) (by decide))
 refine PyProof.Rows.callWith_type1 (thn ((pc he pN f) j c s σ H (λvs l=>match vs with
  |[x]=>∃p,∃ns:List Str,x=.ref p/\l p=some (.lst (ns.map V.str))/\ns.Nodup/\ns.length<=1000/\Q (.int ns.length) l
  |_=>False) I h) λus s1 ⟨vs,l,U,m,q⟩=>?_) f rfl
 match vs,m,q with
 | [x],m,q=>
  obtain⟨p,ns,rfl,hp,r,a0,q⟩:=q;obtain⟨u,rfl,Y⟩:=xfi m;cases Y;obtain⟨its,M,pl,hz⟩:=U.list (SqL.of (K:=X.K) hp);have i:ns.length=its.length:=by have:=M.length;rw[zLM]at this;exact this
  refine St.call_set_strs (ns:=ns) (I.ok.hd hc) pl.isList (by simpa using xkv M) (by show its.toArray.size+1<4096;rw[List.size_toArray];omega) λh2 tk hS hk=>Calls.spliced_nil ?_;obtain⟨o,es,ep,t,ho,G,hd,_,_,_,hf,hsz⟩:=hS
  have a:es.size=ns.length:=by
   rw[hsz];show(St.met _ _).length=_;have:its.toArray.size=ns.length:=by simp[i]
   rw[this,St.met_nodup r _ (Nat.le_refl _),List.take_length]
  refine call_len_set ho G hd hf (by rw[a];omega) ⟨.int ns.length,l,?_,⟨_,by rw[a]⟩,q⟩;exact U.kept λb u O=>hk b u (Heap.lt_size O) O
end L2
end
section
namespace M
open PySem L2
theorem xhv{ks:List Kn}{k:Kn}{x:Str}(h:kAt ks x=some k)(n:Nat):szF (n+1) ks x=1+(if k.rc=true then (k.parts.map λp=>szF n ks p.2).sum else maxD (k.parts.map λp=>szF n ks p.2)):=by
 conv=>lhs;unfold szF
 rw[h]
theorem xef {ks:List Kn} {x:Str} (h:kAt ks x=none):∀n,szF n ks x=1
  |0=>rfl
  | n + 1 => by conv => lhs;unfold szF
                rw[h]
theorem xo5{ks:List Kn}(w:KWf ks)(j:Nat):∀(x:Str),KIn ks j x->∀n,j+1<=n->szF n ks x=szF (j+1) ks x:=by
 induction j with
 |zero=>
  intro x h n hn;rcases h.look w with⟨rfl,e⟩ |⟨i,k,b,_⟩
  ·rw[xef e,xef e]
  ·cases b
 | succ j c=>
  intro x h n hn;rcases h.look w with⟨rfl,e⟩ |⟨i,k,b,e,_,_,f⟩
  ·rw[xef e,xef e]
  ·cases b
   obtain⟨m,rfl⟩:∃m,n=m+1:=⟨n-1,by omega⟩;have this:(k.parts.map λp=>szF m ks p.2)=k.parts.map λp=>szF (j+1) ks p.2:=List.map_congr_left λp a=>c p.2 (f p a) m (by omega);rw[xhv e,xhv e,this]
def sz(ks:List Kn)(x:Str):Int:=szF 7 ks x
theorem xsj{ks:List Kn}(w:KWf ks):sz ks (S "num")=1:=xef w.num _
theorem xt6{ks:List Kn}(w:KWf ks)(x:Str):1<=sz ks x:=(xfz w.pts 7 x).1
def inSz(k:Kn)(f:Str->Int):Int:=if k.rc=true then (k.parts.map λp=>f p.2).sum else maxD (k.parts.map λp=>f p.2)
theorem xgw{k:Kn}{f g:Str->Int}(h:∀p∈k.parts,f p.2=g p.2):inSz k f=inSz k g:=by
 unfold inSz;rw[List.map_congr_left (g:=λp=>g p.2) h]
theorem xt7{ks:List Kn}(w:KWf ks){i:Nat}{k:Kn}(h:ks[i]?=some k):sz ks k.name=1+inSz k (sz ks):=by
 have c:=w.few;have hi:i<ks.length:=(zES h).1;show szF 7 ks k.name=_;rw[xhv (w.at h)];show 1+inSz k (szF 6 ks)=_;rw[xgw (g:=sz ks)];intro p b;have a:KIn ks 5 p.2:=KIn.mono (n:=i) (w.ref i k h p b) (by omega);exact(xo5 w 5 p.2 a 7 (by omega)).symm
theorem xth{ks more:List Kn}{x:Str}{k:Kn}(h:kAt ks x=some k):kAt (ks++more) x=some k:=by
 unfold kAt at h⊢;rw[List.find?_append,h];rfl
theorem xqa{ks more:List Kn}(w:KWf ks)(b:KWf (ks++more)):∀(n:Nat) (x:Str),KIn ks ks.length x->szF n (ks++more) x=szF n ks x
 |0,_,_=>rfl
 |n+1,x,h=>by
  rcases h.look w with⟨rfl,e⟩ |⟨i,k,f,e,_,_,c⟩
  ·rw[xef e,xef b.num]
  ·rw[xhv e,xhv (xth e),List.map_congr_left (g:=λp=>szF n ks p.2) λp a=>xqa w b n p.2 ((c p a).mono (by omega))]
theorem xsk{ks more:List Kn}(w:KWf ks)(a:KWf (ks++more)){x:Str}(h:KIn ks ks.length x):sz (ks++more) x=sz ks x:=xqa w a 7 x h
def Fit(ks:List Kn):Prop:=∀k∈ks,sz ks k.name<=30
theorem Fit.nil:Fit []:=λ_ h=>nomatch h
theorem Fit.snoc{ks:List Kn}{k:Kn}(w:KWf ks)(a:KWf (ks++[k]))(f:Fit ks)(c:∀p∈k.parts,KIn ks ks.length p.2)(e:inSz k (sz ks)<=29):Fit (ks++[k]):=by
 intro z hz;rcases zMA hz with hz |hz
 ·rw[xsk w a (KIn.of (.inr ⟨z,hz,rfl⟩))]
  exact f z hz
 ·rw[zMO hz,xt7 a (i:=ks.length) (by simp),xgw (g:=sz ks) λp b=>xsk w a (c p b)]
  omega
end M
end
section
namespace Nt
open PySem
section
variable {prog:Program}{w:World}{A:Around}{E:Value->Shared->Prop}{s:Shared}
theorem item {e it l:Addr} {i:Nat} {items:Array Value} {x old:Value} {Q:Value->Shared->Prop}
  (he:IsEnum s.heap e it i old) (hit:s.heap.IsTupleIter it l i) (hl:s.heap.IsTuple l items) (hx:items[i]?=some x) (hne:e≠it)
  (hQ:∀h',IsEnumOut h' e it ((i:Int)+1) x s.heap.objs.size->h'.IsTupleIter it l (i+1)->
   h'.get? s.heap.objs.size=some {cls:=.type "tuple",data:=.seq #[.int i s.toks,x]}->
   (∀b o,b≠e->b≠it->s.heap.get? b=some o->h'.get? b=some o)->Q (.ref s.heap.objs.size) {s with heap:=h',toks:=s.toks+1}) :
  wpAny (model prog w) A (Builtin.«enumerate.__next__» ⟨[.ref e],[]⟩) (λfin s'=>∃v,fin=.done (.ret v)/\Q v s') E s:=by
 obtain⟨hp,g,d,tk,os⟩:=s;have hlt:e<hp.objs.size:=Heap.lt_size he;have ni:=Ne.symm hne;show wpAny _ _ (field (.ref e) 2 >>= _) _ _ _;refine wpAny_bind (wpAny_field he rfl (x:=.ref it) rfl (wpAny_bind (Zt.next_item hit hl hx λh1 t1 b1=>?_)))
 replace b1:Heap.SameBut it hp h1:=b1
 have e1:IsEnum h1 e it i old:=(b1.2 e hne).trans he;show wpAny _ _ (field (.ref e) 3 >>= _) _ _ ⟨h1,g,d,tk,os⟩;refine wpAny_bind (wpAny_field e1 rfl (x:=rawInt i) rfl ?_);show wpAny _ _ (field (.ref e) 4 >>= _) _ _ ⟨h1,g,d,tk,os⟩;refine wpAny_bind (wpAny_field e1 rfl (x:=.none) rfl ?_);show wpAny _ _ (mkInt i >>= _) _ _ ⟨h1,g,d,tk,os⟩;refine wpAny_bind (wpAny_mkInt ?_);show wpAny _ _ (setField (.ref e) 3 (rawInt ((i:Int)+1)) >>= _) _ _ ⟨h1,g,d,tk+1,os⟩;refine wpAny_bind (wpAny_setField_rec e1 (by simp) λh2 e2 b2=>?_)
 replace b2:Heap.SameBut e h1 h2:=b2
 replace e2:IsEnum h2 e it ((i:Int)+1) old:=e2
 show wpAny _ _ (setField (.ref e) 4 .none >>= _) _ _ ⟨h2,g,d,tk+1,os⟩;refine wpAny_bind (wpAny_setField_rec e2 (by simp) λh3 e3 b3=>?_)
 replace b3:Heap.SameBut e h2 h3:=b3
 replace e3:IsEnum h3 e it ((i:Int)+1) old:=e3
 show wpAny _ _ (newTuple [.int i tk,x] >>= _) _ _ ⟨h3,g,d,tk+1,os⟩;refine wpAny_bind (wpAny_newTuple ?_);have z3:h3.objs.size=hp.objs.size:=by rw[b3.1,b2.1,b1.1]
 obtain⟨h4,q4⟩:∃h4,h4=h3.push {cls:=.type "tuple",data:=.seq #[.int i tk,x]}:=⟨_,rfl⟩;have e4:IsEnum h4 e it ((i:Int)+1) old:=by rw[q4];exact zPO _ e3
 have p4:h4.get? hp.objs.size=some {cls:=.type "tuple",data:=.seq #[.int i tk,x]}:=by rw[q4,<- z3];exact Heap.get?_push_size _ rfl
 have k4:∀b o,b≠e->b≠it->hp.get? b=some o->h4.get? b=some o:=λb o n1 n2 hb=>by
  rw[q4];exact zPO _ (b3.extBut b o n1 (b2.extBut b o n1 (b1.extBut b o n2 hb)))
 have t4:h4.IsTupleIter it l (i+1):=by
  rw[q4];obtain⟨o,ho,r⟩:=(t1.extBut b2.extBut ni).extBut b3.extBut ni;exact⟨o,zPO _ ho,r⟩
 rw[<- q4,z3];show wpAny _ _ (Builtin.SmallTypes.ownedTupleIsFree (.ref e) >>= _) _ _ ⟨h4,g,d,tk+1,os⟩;clear q4 e3 b3 e2 b2 e1 b1 t1 z3 h3 h2 h1;refine wpAny_bind ?_;unfold Builtin.SmallTypes.ownedTupleIsFree;refine wpAny_bind (wpAny_field e4 rfl (x:=.none) rfl (wpAny_pure ?_));simp only[if_true];refine wpAny_bind (wpAny_rule (wpAny_bind (wpAny_field e4 rfl (x:=old) rfl ?_)));refine wpAny_bind (wpAny_setField_rec e4 (by simp) λh5 e5 b5=>?_)
 replace b5:Heap.SameBut e h4 h5:=b5
 replace e5:IsEnum h5 e it ((i:Int)+1) x:=e5
 show wpAny _ _ (Builtin.SmallTypes.ownedTupleHandOut (.ref e) (.ref hp.objs.size) >>= _) _ _ ⟨h5,g,d,tk+1,os⟩;refine wpAny_bind ?_;unfold Builtin.SmallTypes.ownedTupleHandOut;refine wpAny_bind (wpAny_setField_rec e5 (by simp) λh6 e6 b6=>?_)
 replace b6:Heap.SameBut e h5 h6:=b6
 replace e6:IsEnumOut h6 e it ((i:Int)+1) x hp.objs.size:=e6
 refine wpAny_setField_rec e6 (by simp) λh7 e7 b7=>?_
 replace b7:Heap.SameBut e h6 h7:=b7
 replace e7:IsEnumOut h7 e it ((i:Int)+1) x hp.objs.size:=e7
 have on:∀b o,b≠e->h4.get? b=some o->h7.get? b=some o:=λb o n hb=>b7.extBut b o n (b6.extBut b o n (b5.extBut b o n hb));refine wpAny_bind (wpAny_letGo (wpAny_pure ⟨_,rfl,hQ h7 e7 ?_ (on _ _ (Nat.ne_of_gt hlt) p4) λb o n1 n2 hb=>on b o n1 (k4 b o n1 n2 hb)⟩));obtain⟨o,ho,r⟩:=t4;exact⟨o,on _ _ ni ho,r⟩
theorem next_item {e it l:Addr} {i:Nat} {items:Array Value} {x old:Value} {Q:Option Value->Shared->Prop}
  (h:IsEnum s.heap e it i old) (g:s.heap.IsTupleIter it l i) (n:s.heap.IsTuple l items) (m:items[i]?=some x) (f:e≠it)
  (p:∀h',IsEnumOut h' e it ((i:Int)+1) x s.heap.objs.size->h'.IsTupleIter it l (i+1)->
   h'.get? s.heap.objs.size=some {cls:=.type "tuple",data:=.seq #[.int i s.toks,x]}->
   (∀b o,b≠e->b≠it->s.heap.get? b=some o->h'.get? b=some o)->Q (some (.ref s.heap.objs.size)) {s with heap:=h',toks:=s.toks+1}) :
  wpAny (model prog w) A (pyNext (.ref e)) Q E s:=by
 have j:s.TypeIs (.ref e) "enumerate":=⟨_,h,rfl⟩;unfold pyNext
 exact wpAny_bind (wpAny_attempt (wpAny_callSpecial?_slot (name:=Str.ofString "__next__") j F.slot_enumerate_next
  (wpAny_call_entry F.slot_enumerate_next j F.entry_enumerate_next (item h g n m f λh' a b c k=>wpAny_pure (p h' a b c k)) (F.args_enumerate_next_1 _))))
theorem next_end {e it l:Addr} {i:Nat} {items:Array Value} {old:Value} {Q:Option Value->Shared->Prop} (p:A.handled=none)
  (c:IsEnum s.heap e it i old) (a:s.heap.IsTupleIter it l i) (n:s.heap.IsTuple l items) (j:items[i]?=none)
  (u:∀h',Heap.ExtBut it s.heap h'->Q none {s with heap:=h'}):wpAny (model prog w) A (pyNext (.ref e)) Q E s:=by
 have f:s.TypeIs (.ref e) "enumerate":=⟨_,c,rfl⟩;unfold pyNext
 refine wpAny_bind (wpAny_attempt (wpAny_callSpecial?_slot (name:=Str.ofString "__next__") f F.slot_enumerate_next
  (wpAny_call_entry F.slot_enumerate_next f F.entry_enumerate_next ?_ (F.args_enumerate_next_1 _))))
 show wpAny _ _ (field (.ref e) 2 >>= _) _ _ _;refine wpAny_bind (wpAny_field c rfl (x:=.ref it) rfl (wpAny_bind (Zt.next_end p a n j λh' y h g=>?_)));obtain⟨o,m,r⟩:=g;exact wpAny_bind (wpAny_isInstance (T:="StopIteration") (b:=true) ⟨o,m,r⟩ isSubtype_stop (wpAny_pure (u _ h)))
end
theorem meets_new (l:Addr) (items:Array Value) :
  Meets (Builtin.«enumerate.__new__» ⟨[.type "enumerate",.ref l],[]⟩) (λ_ R s=>s.heap.IsTuple l items ∧
   R (.ok (.ret (.ref (s.heap.push {cls:=.type "tuple_iterator",data:=.fields #[.ref l,.int 0 0]}).objs.size)))
    {s with heap:=(s.heap.push {cls:=.type "tuple_iterator",data:=.fields #[.ref l,.int 0 0]}).push {cls:=.type "enumerate",data:=.fields #[.none,.bool false,.ref s.heap.objs.size,rawInt 0,.none,.none]}}):=
 .of_wp λprog w A R s h=>by
  obtain⟨hp,g,d,tk,os⟩:=s;obtain⟨hl,h⟩:=h;have hsub:=sub_enumerate;have hL:Heap.IsTuple (Shared.heap ⟨hp,g,d,tk,os⟩) l items:=hl;obtain⟨ol,hol,hcl,nl,hdl⟩:=id hL
  wp_walk using AutoSeq1.wpAny_loadPart' hol
  refine wpAny_stack_any λst=>wpAny_pure ?_;split
  ·rename_i c _ _ _ _ _
   cases (c == Value.type "enumerate")
   ·wp_walk using AutoSeq1.wpAny_loadPart' hol,wpAny_pyIter_tuple hL
    exact⟨_,rfl,h⟩
   ·wp_walk using AutoSeq1.wpAny_loadPart' hol,wpAny_pyIter_tuple hL
    exact⟨_,rfl,h⟩
  ·wp_walk using AutoSeq1.wpAny_loadPart' hol,wpAny_pyIter_tuple hL
   exact⟨_,rfl,h⟩
section
variable {prog:Program}{w:World}{A:Around}{E:Value->Shared->Prop}{s:Shared}
theorem call {l:Addr} {items:Array Value} {Q:Value->Shared->Prop} (e:s.heap.IsTuple l items)
  (h:∀h',IsEnum h' (s.heap.objs.size+1) s.heap.objs.size 0 .none->h'.IsTupleIter s.heap.objs.size l 0->
   (∀b o,s.heap.get? b=some o->h'.get? b=some o)->Q (.ref (s.heap.objs.size+1)) {s with heap:=h'}) :
  wpAny (model prog w) A (call (.type "enumerate") [.ref l]) Q E s:=by
 refine callType_new F.called_enumerate (by decide) (F.typeCall_enumerate_1 _) (F.newCall_enumerate_1 _) (λa=>F.args_object_init_2 a _) F.entry_enumerate_new
  (meets_new l items) ⟨e,?_⟩
 have hz:(s.heap.push {cls:=.type "tuple_iterator",data:=.fields #[.ref l,.int 0 0]}).objs.size=s.heap.objs.size+1:=Heap.size_push ..;show _/\_;rw[hz]
 have c:IsEnum ((s.heap.push {cls:=.type "tuple_iterator",data:=.fields #[.ref l,.int 0 0]}).push
   {cls:=.type "enumerate",data:=.fields #[.none,.bool false,.ref s.heap.objs.size,rawInt 0,.none,.none]}) (s.heap.objs.size+1) s.heap.objs.size 0 .none:=by
  rw[<- hz];exact Heap.get?_push_size _ rfl
 exact⟨⟨_,c,rfl⟩,h _ c ⟨_,zPO _ (Heap.get?_push_size _ rfl),rfl,rfl⟩ λb o x=>zPO _ (zPO _ x)⟩
end
end Nt
end
section
namespace L2
open PySem PySem.Spec PyProof.Rows
section
variable {X:Cx}
theorem Inv.turnedM2{a:List (Addr×Obj)}{σ:St}{H:Hp}{s:Shared}{h':Heap}{t':Nat}{h:List Addr}(I:Inv X a σ H s)(k:∀b o,b ∉h->s.heap.get? b=some o->h'.get? b=some o)(i:∀b∈h,FpOk X a H b):Inv X a σ H {s with heap:=h',toks:=t'}:=by
 have g:∀b u,H b=some u->b ∉h:=λb u e z=>by rw[(i b z).1]at e;cases e
 refine I.step (g':=s.gens) (d':=s.drawn) (ch:=h) (λb p=>?_) (λb o _ _ f e _=>k b o f e) (λb o _ _ f e _=>⟨o.slots,k b o f e⟩) (λ_ _ _ _ n=>n)
  (λb o f e=>⟨o,k b o f e⟩) (λ_ _ e=>e) (λ_ _ _ e=>e) (λb ps e=>⟨#[],by rw[e];simp⟩) (λm l=>?_) (λb u e=>?_) I.bare
 ·obtain⟨J,C,G,y,x,w⟩:=i b p
  exact⟨y,C,x,w⟩
 ·obtain⟨o,es,ep,j,r⟩:=l
  exact⟨o,es,ep,k _ o (λz=>(i _ z).2.1 rfl) j,r⟩
 ·refine(I.hok b u e).stay (λc v f q=>k c v ?_ q) (λ_ q=>q) λ_ _ q=>q
  rcases f with z |z
  ·rw[z];exact g b u e
  ·exact g c _ z
def IteT(K:Fg)(a:Addr):It:=
 ⟨λi H=>∃xs x,SqT K H a xs/\xs[i]?=some x,λi H x H'=>∃p y,x=.ref p/\H p=none/\H'=upd H p (.tup [.int (i:Nat),y])/\∀xs,SqT K H a xs->xs[i]?=some y,λi H=>∃xs,SqT K H a xs/\xs.length<=i⟩
theorem xlx{P:Program}{w:World}{K:Fg}{y:List Expr}{x1}{pos:Pos}(a e it:Addr)(m:e≠it):Turn P w K (.Tuple y x1 pos) (IteT K a) [e,it] e (λi h=>(∃old,IsEnum h e it (i:Nat) old)/\h.IsTupleIter it a i) where
 mem:=by simp
 obj:=λi h st b g=>by
  obtain⟨⟨old,j⟩,l⟩:=st;rcases zMC g with z |z
  ·subst z
   exact⟨_,j,λv z=>by cases z⟩
  ·have J:b=it:=by simpa using z
   subst J;obtain⟨o,e,c,d⟩:=l;exact⟨o,e,λv z=>by rw[d]at z;cases z⟩
 keep:=λi h h' st k=>by
  obtain⟨⟨old,j⟩,l⟩:=st;exact⟨⟨old,k e (by simp) _ j⟩,l.at λo q=>k it (by simp) o q⟩
 item:=by
  intro X hP Z hK hc i f s σ H E I G st hg;subst hP Z hK;obtain⟨xs,x,C,Y⟩:=hg;obtain⟨its,M,p,hz⟩:=I.tuple C;obtain⟨u,hu,ru⟩:=M.get Y;obtain⟨⟨old,j⟩,l⟩:=st;refine Nt.next_item j l (show s.heap.IsTuple a its.toArray from p) (x:=u) (by simpa using hu) m λh1 a1 a2 a3 a5=>⟨_,rfl,?_⟩;refine wpAny_letOwnedTupleGo_enum a1 λh2 b1 b2=>?_;have U:e<s.heap.objs.size:=Heap.lt_size j;have a0:H s.heap.objs.size=none:=I.hok.fresh (Nat.le_refl _);have g1:(s.heap.push {cls:=.type "tuple",data:=.seq #[.int (i:Nat) s.toks,u]}).get? s.heap.objs.size=some {cls:=.type "tuple",data:=.seq #[.int (i:Nat) s.toks,u]}:=Heap.get?_push_size _ rfl
  have I1:Inv X f σ (upd H s.heap.objs.size (.tup [.int (i:Nat),x])) {s with heap:=s.heap.push {cls:=.type "tuple",data:=.seq #[.int (i:Nat) s.toks,u]},toks:=s.toks+1}:=
   I.laid (λb o q=>zPO _ q) (Nat.le_refl _) ⟨by show 2<=sizeLine;decide,[.int (i:Nat) s.toks,u],.cons ⟨_,rfl⟩ (.cons ru .nil),⟨_,g1,rfl,_,rfl,rfl⟩⟩
  have n:∀b∈[e,it],FpOk X f (upd H s.heap.objs.size (.tup [.int (i:Nat),x])) b:=λb g=>by
   refine⟨?_,(G b g).2⟩
   have lb:b≠s.heap.objs.size:=by
    rcases zMC g with z |z
    ·subst z;exact Nat.ne_of_lt U
    ·have J:b=it:=by simpa using z
     subst J;obtain⟨o,q,_⟩:=l;exact Nat.ne_of_lt (Heap.lt_size q)
   rw[xai lb];exact(G b g).1
  have I2:Inv X f σ (upd H s.heap.objs.size (.tup [.int (i:Nat),x])) {s with heap:=h2,toks:=s.toks+1}:=
   I1.turnedM2 (t':=s.toks+1) (λb o g q=>by
    have O:b≠e/\b≠it:=by simpa using g
    have q1:h1.get? b=some o:=by
     by_cases z:b=s.heap.objs.size
     ·subst z
      have q':(s.heap.push {cls:=.type "tuple",data:=.seq #[.int (i:Nat) s.toks,u]}).get? s.heap.objs.size=some o:=q;rw[g1]at q';cases q';exact a3
     ·exact a5 b o O.1 O.2 (by have q2:(s.heap.push {cls:=.type "tuple",data:=.seq #[.int (i:Nat) s.toks,u]}).get? b=some o:=q;rwa[Heap.get?_push_ne _ b _ z]at q2)
    exact(b2.2 b O.1).trans q1) n
  refine⟨.ref s.heap.objs.size,_,I2,rfl,⟨_,x,rfl,a0,rfl,λys hy=>by rw[I.tuple_inj hy C];exact Y⟩,⟨⟨u,?_⟩,?_⟩,λb g=>(n b g).1⟩
  ·exact b1
  ·obtain⟨o,q,r⟩:=a2
   exact⟨o,(b2.2 it (Ne.symm m)).trans q,r⟩
 done:=by
  intro X hP Z hK hc i f s σ H E I G st hg;subst hP Z hK;obtain⟨xs,C,Y⟩:=hg;obtain⟨its,M,p,hz⟩:=I.tuple C;obtain⟨⟨old,j⟩,l⟩:=st;have hl:=M.length;obtain⟨f0,f1,f2,f3,f4,f5⟩:=G it (by simp);exact Nt.next_end (I.ok.hd hc) j l (show s.heap.IsTuple a its.toArray from p) (by simp;omega) λh' eb=>⟨rfl,I.turned (t':=s.toks) (λb o g q=>eb b o g q) f0 f1 f3 f4 f5⟩
 self:=λ_ _ _ _ _ st h=>by
  obtain⟨⟨old,j⟩,l⟩:=st;exact wpAny_pyIter_enum j h
def xto(K:Fg)(ta:TA):TI:=λσ H R=>ta σ H λvs H1=>∃a,vs=[.ref a]/\(∃xs,SqT K H1 a xs)/\R (IteT K a) H1
theorem xpf{a:Expr}{m:TA}{p pos:Pos}{i:List Expr}{o}{u:Pos}(J:Gl X "enumerate")(G:X.mg "enumerate"=none)(O:PA X [a] m)(hs:starEach [a] X.env=[(false,eval a X.env)]:=by rfl):PI X (.Tuple i o u) (.Call (.Name "enumerate" p) [a] [] pos) (xto X.K m):=by
 intro g s σ H R I h;refine Call_ (xer I J G boot_enumerate (PyProof.Rows.callWith_type1 (thn (O pos g s σ H _ I h) λus c ⟨vs,Z,f,x,y⟩=>?_) hs rfl));obtain⟨l,e,⟨xs,C⟩,q⟩:=y;subst e
 cases x with
 |cons r w=>
  cases w;obtain rfl:=r;obtain⟨its,rv,pl,hz⟩:=f.tuple C;refine Nt.call (show c.heap.IsTuple l its.toArray from pl) λh' n Y U=>wpAny_pyIter_enum n ?_;refine⟨c.heap.objs.size+1,[c.heap.objs.size+1,c.heap.objs.size],_,_,Z,rfl,f.kept (t':=c.toks) U,xlx l _ _ (Nat.succ_ne_self _),⟨⟨_,n⟩,Y⟩,λb M=>?_,q⟩;have j:b=c.heap.objs.size+1\/b=c.heap.objs.size:=by simpa using M
  rcases j with z |z <;> subst z
  ·exact f.fpOk (Nat.le_succ _) (f.hok.fresh (Nat.le_succ _))
  ·exact f.fpOk (Nat.le_refl _) (f.hok.fresh (Nat.le_refl _))
theorem xon {K:Fg} {a:Addr} {xs:List V} {g:TG} {n:TS} {D:Ends} {σ:St} {H:Hp} (b:Nat->St->Hp->Prop) (h0:b 0 σ H) (C:∀i σ H,i<=xs.length->b i σ H->SqT K H a xs)
  (hs:∀i x σ H p,xs[i]?=some x->b i σ H->H p=none->g (.ref p) σ (upd H p (.tup [.int (i:Nat),x])) λh l=>n {D with nx:=b (i+1),ct:=b (i+1),bk:=D.nx} h l) (hd:∀σ H,b xs.length σ H->D.nx σ H) :
  ∃W:Nat->Nat->St->Hp->Prop,(∃m,W 0 m σ H)/\∀i m σ H,W i m σ H->
   ((IteT K a).stop i H/\D.nx σ H)\/((IteT K a).go i H/\∃N:St->Hp->Prop,(∀j c,N j c->∃o,o<m/\W (i+1) o j c)/\∀x c,(IteT K a).yld i H x c->g x σ c λh l=>n {D with nx:=N,ct:=N,bk:=D.nx} h l):=by
 refine⟨λi m σ H=>m=xs.length-i/\i<=xs.length/\b i σ H,⟨xs.length,by simp,Nat.zero_le _,h0⟩,?_⟩;rintro i m σ H ⟨rfl,hi,p⟩;have q:=C i σ H hi p;by_cases f:i<xs.length
 ·refine .inr ⟨⟨xs,xs[i],q,by simp[f]⟩,b (i+1),λj c s=>⟨xs.length-(i+1),by omega,rfl,f,s⟩,λx c y=>?_⟩
  obtain⟨r,z,rfl,w,rfl,u⟩:=y;exact hs i z σ H r (u xs q) p w
 ·have e:i=xs.length:=by omega
  subst e;exact .inl ⟨⟨xs,q,Nat.le_refl _⟩,hd σ H p⟩
end
end L2
end
section
end
section
end
section
namespace L2
open PySem PySem.Spec PyProof.Rows
section
variable {X:Cx}{pins:List (Addr×Obj)}{σ:St}{H:Hp}{s:Shared}{C:Addr}{Q:VK}{us:List Value}{vs:List V}{CX:CXT}{k:Nat}{f:Addr}{fd:FuncData}{ps:List Str}{sp:Sp}{E:XK}
theorem xkc{h:Heap}{o u:Obj}{b:Addr}(e:(h.push o).get? b=some u)(q:b≠h.objs.size):h.get? b=some u:=by
 rwa[Heap.get?_push_ne h b o q]at e
variable {x:Str}{p pos:Pos}{e:Expr}{es:List Expr}{t:TA}
variable {o value:Expr}{fl:Str}{pos':Pos}{ta tv:TE}
end
section
variable {X:Cx}{pins:List (Addr×Obj)}{σ:St}{H:Hp}{s:Shared}{h':Heap}
theorem Inv.turnedL{t':Nat}{fp:List Addr}(I:Inv X pins σ H s)(k:∀b o,b ∉fp->s.heap.get? b=some o->h'.get? b=some o)(hf:∀b∈fp,FpOk X pins H b):Inv X pins σ H {s with heap:=h',toks:=t'}:=by
 have nit:∀b u,H b=some u->b ∉fp:=λb u e z=>by rw[(hf b z).1]at e;cases e
 refine I.step (g':=s.gens) (d':=s.drawn) (ch:=fp) (λb hb=>?_) (λb o _ _ hc e _=>k b o hc e) (λb o _ _ hc e _=>⟨o.slots,k b o hc e⟩) (λ_ _ _ _ n=>n)
  (λb o hc e=>⟨o,k b o hc e⟩) (λ_ _ e=>e) (λ_ _ _ e=>e) (λb ps e=>⟨#[],by rw[e];simp⟩) (λm hm=>?_) (λb u e=>?_) I.bare
 ·obtain⟨f0,f1,f2,f3,f4,f5⟩:=hf b hb
  exact⟨f3,f1,f4,f5⟩
 ·obtain⟨o,es,ep,ho,r⟩:=hm
  exact⟨o,es,ep,k _ o (λz=>(hf _ z).2.1 rfl) ho,r⟩
 ·refine(I.hok b u e).stay (λc v hc q=>k c v ?_ q) (λ_ q=>q) λ_ _ q=>q
  rcases hc with z |z
  ·rw[z];exact nit b u e
  ·exact nit c _ z
end
open PySem.W in
def ad(K:Frag)(x:Str):Addr:=match nsIn K mainGlobals x with |some (some (.ref C))=>C |_=>0
theorem xuu{K:Fg}{x:Str}{C:Addr}(e:PySem.W.nsIn K mainGlobals x=some (some (.ref C))):ad K x=C:=by unfold ad;rw[e]
def xtw(s:Stmt)(j:Nat):Stmt:=match s with
 |.ClassDef _ _ _ b _ _ _ _ _ _ _=>b.getD j (.Pass ⟨0,0,0,0⟩)
 |_=>.Pass ⟨0,0,0,0⟩
end L2
end
section
namespace L2
open PySem PySem.Spec PyProof.Rows M
section
variable {X:Cx}
def xqg(K:Fg):R2:=λx y H Q=>∃a b xs ys,x=.ref a/\y=.ref b/\SqT K H a xs/\SqT K H b ys/\xs.length+ys.length<=sizeLine ∧
 (xs=[]->Q (.ref b) H)/\(xs≠[]->ys=[]->Q (.ref a) H)/\(xs≠[]->ys≠[]->∀p,H p=none->Q (.ref p) (upd H p (.tup (xs++ys))))
theorem xpi:OpR X (binaryOp .Add) (xqg X.K):=by
 intro c s σ H x y v u Q I r p h;obtain⟨a,b,xs,ys,rfl,rfl,G,C,hz,Y,U,O⟩:=h;by_cases f:xs=[]
 ·cases r
  cases p;obtain⟨its,M,p1,_⟩:=I.tuple G;obtain⟨e,r2,Z,_⟩:=I.tuple C;obtain⟨⟨cls,dd,data,sl⟩,w,z,n,hd⟩:=id p1;obtain⟨⟨J,m,o,l⟩,g,j,n2,i⟩:=id Z;simp only at z hd j i;subst z hd j i
  exact concat_meets ⟨_,w,rfl⟩ ⟨_,g,rfl⟩ noFill_tuple_add seq_tuple_add PySem.F.slot_tuple_add PySem.F.entry_tuple_add (PySem.F.args_tuple_add_2 _ _)
   (tuple_addW0 a b its.toArray e.toArray n n2 dd m sl l (by rw[M.nil_iff.mpr f];rfl)) ⟨w,g,⟨.ref b,H,I,rfl,Y f⟩⟩
 ·exact xrh c s σ H _ _ v u Q I r p ⟨a,b,xs,ys,rfl,rfl,G,C,f,hz,U f,O f⟩
end
end L2
end
section
namespace PySem
open Sem (wp)
section
variable {prog:Program}{w:World}{A:Around}{E:Value->Shared->Prop}{s:Shared}
theorem xeu {a:Addr} {xs:Array Value} {k:Nat} {sl:Array (Option Value)} {name:Str} {Q:Option Value->Shared->Prop}
  (hx:s.heap.get? a=some {cls:=.type "list",dict:=none,data:=.seq xs k,slots:=sl}) (hmiss:typeLookup (.type "list") name=pure none) (hname:(["__module__","__name__","__qualname__","__doc__","__annotations__"]:List Str).contains name=false) (hA:A.handled=none)
  (h:∀h' tk,(∀b o,s.heap.get? b=some o->h'.get? b=some o)->Q none {s with heap:=h',toks:=tk}) (hsz:name.length+100<=sizeLine) :
  wpAny (model prog w) A (getAttr? (.ref a) name) Q E s:=by
 obtain⟨hp,g,d,tk,os⟩:=s;have hT:∀tk',(⟨hp,g,d,tk',os⟩:Shared).TypeIs (.ref a) "list":=λ_=>⟨_,hx,rfl⟩;have f1:=sub_AttributeError;have f3:=F.slot_list_getattribute.lookup;have f4:=F.slot_list_getattribute.bind (.ref a);have f5:=am_list_getattr_none;unfold getAttr? getAttrBy? getAttrBy
 repeat (any_goals (first |assumption |exact hT _ |((with_reducible show wpAny _ _ (call (Value.builtin "list.__getattribute__") _ _) _ _ _);refine call_meets F.slot_list_getattribute (hT _) am_entry_list_getattribute (F.args_list_getattribute_2 _ _) (meets_getattribute_miss_list a xs k sl name _ hmiss hname hsz) ⟨hx,hA,λh' tk' e hx'=>?_⟩) |wp_step))
 obtain⟨t',u',he⟩:=hx'.there;show wpAny _ _ (getattributeRaised _ _ _ _ _ _ _) _ _ _;unfold getattributeRaised
 repeat (any_goals (first |assumption |wp_step))
 all_goals first |exact h _ _ hx'.keeps |skip
end
end PySem
namespace L2
open PySem PySem.Spec PyProof.Rows
theorem xbn:plainId "dict.update.loop"=true:=by walk_at"k"
theorem xcu:entryFor table "dict.update.loop"=some Builtin.«dict.update.loop»:=entryFor_of_fast (by kernel_rfl)
section
variable {prog:Program}{w:World}{A:Around}{K:Type}[DecidableEq K]{knd:KeyKind prog w K}
def PairsAt(knd:KeyKind prog w K)(h:Heap):List Value->List (K×Value)->Prop
 |[],[]=>True
 |it::its,p::ps=>(∃a key,it=.ref a/\h.IsTuple a #[key,p.2]/\knd.is p.1 key=true)/\PairsAt knd h its ps
 |_,_=>False
theorem PairsAt.keep{h h':Heap}:∀{its:List Value} {ps:List (K×Value)},PairsAt knd h its ps->(∀a xs,h.IsTuple a xs->h'.IsTuple a xs)->PairsAt knd h' its ps
 |[],[],_,_=>trivial
 |it::its,p::ps,⟨⟨a,b,e,f,c⟩,r⟩,k=>⟨⟨a,b,e,k _ _ f,c⟩,PairsAt.keep r k⟩
 |[],_::_,h,_=>h.elim
 |_::_,[],h,_=>h.elim
theorem xfy{h:Heap}{a d:Addr}{xs:Array Value}{kvs:List (K×Value)}(g:h.IsTuple a xs)(hd:h.DictOf knd d kvs):a≠d:=λe=>by
 subst e;obtain⟨o,i,j,_⟩:=g;obtain⟨t,_,_,f,c,_⟩:=hd;have b:=c.1;have:o=t:=Option.some.inj (i.symm.trans f);subst this;rw[j]at b;exact absurd (Value.type.inj b) (by decide)
theorem xfx{h:Heap}{a I l:Addr}{i:Nat}{xs:Array Value}(f:h.IsTuple a xs)(hd:h.IsListIter I l i):a≠I:=λe=>by
 subst e;obtain⟨o,g,j,_⟩:=f;obtain⟨t,c,b,_⟩:=hd;have:o=t:=Option.some.inj (g.symm.trans c);subst this;rw[j]at b;exact absurd (Value.type.inj b) (by decide)
theorem upd_loop {R:Result->Shared->Prop} {I l d:Addr} {its:List Value} {ps:List (K×Value)} (hh:A.in1.handled=none) (a0:l≠I) (a7:l≠d) (G:I≠d) :
    ∀(k i:Nat) (s:Shared) (f:List (K×Value)),its.length-i=k->i<=its.length->s.heap.IsListIter I l i->s.heap.IsList l its.toArray->s.heap.DictOf knd d f->PairsAt knd s.heap (its.drop i) (ps.drop i)->f.length+(its.length-i)<=sizeLine->
    (∀h' tk,h'.DictOf knd d (merged f (ps.drop i))->(∀b o,b≠d->b≠I->s.heap.get? b=some o->h'.get? b=some o)->R (.ok (.ret .none)) {s with heap:=h',toks:=tk})->
    codeAny (model prog w) A (.builtin "dict.update.loop" ⟨[.ref d,.ref I,rawInt i,.none],[]⟩) R s:=by
  intro k
  induction k with
  | zero=>
    intro i s f hk hi g hl hd j hsz hR;have C:i=its.length:=by omega
    have W:=Walks.list (prog:=prog) (w:=w) (A:=A.in1) hh I l a0 its.toArray;refine codeAny_builtin xcu ?_;rw[Around.under_plainId xbn _];show wpAny _ A.in1 (pyNext (.ref I) >>= _) _ _ s
    refine wpAny_bind (W.done s _ _ (by have e:its.toArray.size = i := by simp[C]
                                        rw[e];exact⟨g,hl⟩) λh' tk c=>?_)
    show wpAny _ _ (Builtin.Dict.addKeywords d [] >>= _) _ _ _;refine wpAny_bind (wpAny_pure (wpAny_pure ?_))
    have a5:ps.drop i=[]:=by
      rw[C,List.drop_length]at j;rw[C]
      cases hq:ps.drop its.length with
      |nil=>rfl
      |cons p r=>rw[hq]at j;exact j.elim
    refine hR h' tk ?_ λb o J n e=>c b o (by simpa using n) e;rw[a5];exact hd.at λo e=>c d o (by simpa using (Ne.symm G)) e
  | succ k ih=>
    intro i s f hk hi g hl hd j hsz hR;have m:i<its.length:=by omega
    have W:=Walks.list (prog:=prog) (w:=w) (A:=A.in1) hh I l a0 its.toArray;have a8:its.drop i=its[i]::its.drop (i+1):=List.drop_eq_getElem_cons m;rw[a8]at j
    obtain⟨p,r,z⟩:∃p r,ps.drop i=p::r:=by
      cases hq:ps.drop i with
      |nil=>rw[hq]at j;exact j.elim
      |cons p r=>exact⟨p,r,rfl⟩
    have Y:ps.drop (i+1)=r:=by rw[<- List.tail_drop,z];rfl
    rw[z]at j;obtain⟨⟨a,x,ea,U,a1⟩,y⟩:=j;refine codeAny_builtin xcu ?_;rw[Around.under_plainId xbn _];show wpAny _ A.in1 (pyNext (.ref I) >>= _) _ _ s;refine wpAny_bind (W.item i s _ _ (by simpa using m) ⟨g,hl⟩ λv h' tk hP u c=>?_)
    have hv:v=.ref a:=by
      have:its[i]?=some v:=by simpa using hP
      rw[zGA m,ea]at this;exact(Option.some.inj this).symm
    subst hv;have O:h'.IsTuple a #[x,p.2]:=U.at λo e=>c a o (by simpa using xfx U g) e;have a3:h'.DictOf knd d f:=hd.at λo e=>c d o (by simpa using (Ne.symm G)) e;obtain⟨oa,Z,ab,na,a9⟩:=id O;refine wpAny_bind (wpAny_holding (wpAny_bind (wpAny_tryCatch ?_)));unfold Builtin.Dict.pairItems;refine wpAny_bind (wpAny_typeOf ⟨oa,Z,ab⟩ ?_);rw[if_pos (by decide)];refine wpAny_bind (wpAny_seqItems Z a9 (wpAny_pure ?_));show wpAny _ _ (holding [x,p.2] (dictSet d x p.2)) _ _ _;refine wpAny_holding (wpAny_dictSet_pairs a1 a3 (λh2 aa h=>?_) (by omega));have M:h2.IsListIter I l (i+1)/\h2.IsList l its.toArray:=⟨u.1.at λo e=>(h.2 I G).trans e,u.2.at λo e=>(h.2 l a7).trans e⟩;refine wpAny_pure ⟨plainId_quiet xbn _,ih (i+1) _ _ (by omega) m M.1 M.2 aa ?_ ?_ λh3 a4 a2 a6=>?_⟩
    · rw[Y]
      exact y.keep λb xs J=>by
        have h1:h'.IsTuple b xs:=J.at λo e=>c b o (by simpa using xfx J g) e;exact h1.at λo e=>(h.2 b (xfy h1 a3)).trans e
    · have:=stored_length_le f p.1 p.2
      omega
    · refine hR h3 a4 ?_ λb o J n e=>a6 b o J n ((h.2 b J).trans (c b o (by simpa using n) e))
      rw[z];rw[Y]at a2;exact a2
end
theorem xiv:typeLookup (.type "list") "keys"=pure none:=am_miss_of_fast (by kernel_rfl)
section
variable {prog:Program}{w:World}{A:Around}{E:Value->Shared->Prop}{s:Shared}{K:Type}[DecidableEq K]{knd:KeyKind prog w K}
theorem xi4 {l:Addr} {its:List Value} {n:Nat} {ps:List (K×Value)} {Q:Value->Shared->Prop} (hh:A.handled=none) (hl:s.heap.get? l=some {cls:=.type "list",data:=.seq its.toArray n}) (hp:PairsAt knd s.heap its ps) (hsz:its.length<=sizeLine)
  (h:∀h' tk,h'.DictOf knd s.heap.objs.size (merged [] ps)->(∀b o,s.heap.get? b=some o->h'.get? b=some o)->Q (.ref s.heap.objs.size) {s with heap:=h',toks:=tk}) :
  wpAny (model prog w) A (call (.type "dict") [.ref l]) Q E s:=by
 refine callType_codes (Q₁:=λobj s₁=>obj=.ref s.heap.objs.size/\s₁={s with heap:=s.heap.push {cls:=.type "dict",data:=.dict #[]}}) F.kt_called_dict (F.kt_typeCall_dict_1 _) F.entry_dict_init (kt_code_dict_new _ ⟨rfl,rfl⟩) ?_;rintro obj s₁ ⟨rfl,rfl⟩;have hnew:(s.heap.push {cls:=.type "dict",data:=.dict #[]}).DictOf knd s.heap.objs.size []:=Heap.DictOf.new s.heap;have ext0:∀b o,s.heap.get? b=some o->(s.heap.push {cls:=.type "dict",data:=.dict #[]}).get? b=some o:=λb o e=>zPO _ e;have hl0:=ext0 _ _ hl;have hT:(⟨s.heap.push {cls:=.type "dict",data:=.dict #[]},s.gens,s.drawn,s.toks,s.os⟩:Shared).TypeIs (.ref l) "list":=⟨_,hl0,rfl⟩;have hdl:l≠s.heap.objs.size:=λe=>absurd (Heap.lt_size hl) (by rw[e];exact Nat.lt_irrefl _);refine⟨hnew.typeIs,F.args_dict_init_2 _ _,?_⟩;unfold Builtin.«dict.__init__»;refine wpAny_bind ?_;unfold Builtin.Dict.selfAndRest;refine wpAny_bind (wpAny_notOrdered_dict hnew.typeIs ?_);show wpAny _ _ (pure (s.heap.objs.size,[Value.ref l])) _ _ _;refine wpAny_pure ?_;show wpAny _ _ (Builtin.Dict.updateFrom "dict.__init__" s.heap.objs.size (.ref l) [] .none) _ _ _;unfold Builtin.Dict.updateFrom;refine wpAny_bind (wpAny_typeOf hT ?_);rw[if_pos (by decide)];refine wpAny_bind (xeu (sl:=#[]) hl0 xiv (by walk_at"k") hh (λh1 tk1 k1=>?_) (by walk_at"k"));rw[if_pos (show(none:Option Value).isNone=true from rfl)];refine wpAny_bind (wpAny_rule ?_);have hl1:=k1 _ _ hl0;have hL1:h1.IsList l its.toArray:=⟨_,hl1,rfl,_,rfl⟩
 refine wpAny_bind (wpAny_pyIter_list hL1 (wpAny_pure ⟨plainId_quiet xbn _,?_⟩));have hsz1:s.heap.objs.size<h1.objs.size:=Heap.lt_size (k1 _ _ (Heap.get?_push_size _ rfl));have hlI:l<h1.objs.size:=Heap.lt_size hl1;have ext2:∀b o,h1.get? b=some o->(h1.push {cls:=.type "list_iterator",data:=.fields #[.ref l,.int 0 0]}).get? b=some o:=λb o e=>zPO _ e;refine upd_loop (knd:=knd) (A:=A.in1) (ps:=ps) (l:=l) (d:=s.heap.objs.size) (its:=its) hh (Nat.ne_of_lt hlI) hdl (Nat.ne_of_gt hsz1) its.length 0 _ [] (Nat.sub_zero _) (Nat.zero_le _) ⟨_,Heap.get?_push_size _ rfl,rfl,rfl⟩ (hL1.push _) (hnew.at λo e=>ext2 _ _ (k1 _ _ e)) (hp.keep λa xs ha=>ha.at λo e=>ext2 _ _ (k1 _ _ (ext0 _ _ e))) (by simpa using hsz) λh3 tk3 hd3 hk3=>?_;refine⟨rfl,h h3 tk3 hd3 λb o e=>hk3 b o ?_ ?_ (ext2 _ _ (k1 _ _ (ext0 _ _ e)))⟩
 ·exact λz=>absurd (Heap.lt_size e) (by rw[z];exact Nat.lt_irrefl _)
 ·exact λz=>absurd (Heap.lt_size e) (by rw[z];exact Nat.not_lt_of_gt hsz1)
end
def PairsV(H:Hp):List V->List (Key×V)->Prop
 |[],[]=>True
 |y::ys,kv::kvs=>(∃b,y=.ref b/\H b=some (.tup [kV kv.1,kv.2]))/\PairsV H ys kvs
 |_,_=>False
theorem PairsV.length{H:Hp}:∀{ys:List V} {kvs:List (Key×V)},PairsV H ys kvs->ys.length=kvs.length
 |[],[],_=>rfl
 |y::ys,kv::kvs,⟨_,r⟩=>by rw[List.length_cons,List.length_cons,PairsV.length r]
 |[],_::_,h=>h.elim
 |_::_,[],h=>h.elim
section
variable {X:Cx}
theorem xhe{a:List (Addr×Obj)}{σ:St}{H:Hp}{s:Shared}(I:Inv X a σ H s):∀{ys:List V} {its:List Value} {kvs:List (Key×V)},Vals ys its->PairsV H ys kvs->∃ps,KV kvs ps/\PairsAt (xbv X.prog X.w) s.heap its ps
 |[],_,[],r,_=>by cases r;exact⟨[],.nil,trivial⟩
 | y::ys,_,kv::kvs,r,⟨⟨b,n,m⟩,rest⟩=>by
  subst n
  cases r with
  |cons h t=>
   obtain⟨ps,l,j⟩:=xhe I t rest;obtain⟨c,g,i,_⟩:=I.tuple (SqT.of (K:=X.K) m);obtain⟨f,e,rfl,p,o⟩:=g.two;exact⟨(kv.1,e)::ps,.cons ⟨rfl,o⟩ l,⟨b,f,h,i,xj8 p⟩,j⟩
 |[],_,_::_,_,h=>h.elim
 |_::_,_,[],_,h=>h.elim
theorem xd8(hc:X.calm=true):xd1 X (.type "dict") (λxs H Q=>∃a ys,∃kvs:List (Key×V),xs=[.ref a]/\H a=some (.lst ys)/\PairsV H ys kvs/\∀p,H p=none->Q (.ref p) (upd H p (.dK (xa5 [] kvs)))):=by
 intro pins s σ H xs us Q I r h;obtain⟨a,ys,kvs,rfl,ha,hp,q⟩:=h;obtain⟨u,rfl,ru⟩:=xfi r;obtain rfl:u=.ref a:=ru;obtain⟨hz,its,n,rv,hl⟩:=(show ObjOk X.prog X.w H s.heap a (.lst ys) from I.hok a _ ha);obtain⟨ps,hk,hpa⟩:=xhe I rv hp;have hyl:=hp.length;refine xi4 (knd:=xbv X.prog X.w) (I.ok.hd hc) hl hpa (by rw[<- rv.length];exact hz) λh' tk dd' k'=>?_
 have hz':(xa5 [] kvs).length<=sizeLine:=by
  have:=xb9 kvs [];rw[List.length_nil]at this;omega
 exact⟨.ref s.heap.objs.size,_,I.laid (a:=s.heap.objs.size) (o:=.dK (xa5 [] kvs)) (t':=tk) k' (Nat.le_refl _) (xi3 hz' (beq_eq_false_iff_ne.mpr (Ne.symm (Nat.ne_of_lt I.big))) (hk.merge .nil) dd'),rfl,q _ (I.hok.fresh (Nat.le_refl _))⟩
end
end L2
end
section
namespace L2
open PySem PySem.Spec PySem.W PyProof.Rows M
theorem KV.get2{κ:Type}{kvs:List (κ×V)}{vs:List (κ×Value)}(r:KV kvs vs){i:Nat}{q:κ×Value}(a:vs[i]?=some q):∃v,kvs[i]?=some (q.1,v)/\RelV v q.2:=by
 unfold KV at r
 induction r generalizing i with
 |nil=>simp at a
 | @cons p c as bs h t b=>
  cases i with
  |zero=>
   simp at a;subst a;exact⟨p.2,by simp[<- h.1],h.2⟩
  |succ i=>exact b (by simpa using a)
end L2
end
section
namespace M
open PySem L2
inductive Vk(ks:List Kn):Str->D->Prop
 |num (i:Int) (h:Nm i):Vk ks (S "num") (.int i)
 |rc {x:Str} {k:Kn} {ws:List D} (hk:kAt ks x=some k) (hr:k.rc=true) (hl:ws.length=k.parts.length) (h:∀(i:Nat) (w:D) (p:Str×Str),ws[i]?=some w->k.parts[i]?=some p->Vk ks p.2 w):Vk ks x (.tup [.str x,.tup ws])
 |al {x:Str} {k:Kn} {p:Str×Str} {w:D} (hk:kAt ks x=some k) (hr:k.rc=false) (hp:p∈k.parts) (h:Vk ks p.2 w):Vk ks x (.tup [.str x,.str p.1,w])
theorem xp8{ks:List Kn}(b:KWf ks){x:Str}{v:D}(c:x=S "num")(h:Vk ks x v):∃i,Nm i/\v=.int i:=by
 cases h with
 |num i hi=>exact⟨i,hi,rfl⟩
 |rc a=>rw[c,b.num]at a;cases a
 |al a=>rw[c,b.num]at a;cases a
theorem xp7{ks:List Kn}(e:KWf ks){x:Str}{k:Kn}{v:D}(c:kAt ks x=some k)(f:k.rc=true)(h:Vk ks x v):∃ws,ws.length=k.parts.length/\(∀(i:Nat) w p,ws[i]?=some w->k.parts[i]?=some p->Vk ks p.2 w)/\v=.tup [.str x,.tup ws]:=by
 cases h with
 |num i hi=>rw[e.num]at c;cases c
 |rc b a g h=>
  rw[c]at b;cases b;exact⟨_,g,h,rfl⟩
 |al b a=>
  rw[c]at b;cases b;rw[f]at a;cases a
theorem xp9{ks:List Kn}(e:KWf ks){x:Str}{k:Kn}{v:D}(c:kAt ks x=some k)(f:k.rc=false)(h:Vk ks x v):∃p∈k.parts,∃w,Vk ks p.2 w/\v=.tup [.str x,.str p.1,w]:=by
 cases h with
 |num i hi=>rw[e.num]at c;cases c
 |rc b a=>
  rw[c]at b;cases b;rw[f]at a;cases a
 |@al _ _ p w b a g h=>
  rw[c]at b;cases b;exact⟨p,g,w,h,rfl⟩
theorem xg1{ks:List Kn}(a:KWf ks):∀(m:Nat) (x:Str) (v:D),KIn ks m x->Vk ks x v->v.deep<=2*m
 | 0,x,v,b,h=>by
  rcases b.look a with⟨e,_⟩ |⟨j,k,e,_⟩
  ·obtain⟨i,_,rfl⟩:=xp8 a e h
   exact Nat.zero_le _
  ·cases e
 | m + 1,x,v,b,h=>by
  rcases b.look a with⟨e,_⟩ |⟨j,k,e,c,hn,r,n⟩
  ·obtain⟨i,_,rfl⟩:=xp8 a e h
   exact Nat.zero_le _
  ·cases e
   cases o:k.rc with
   | true=>
    obtain⟨ws,s,g,rfl⟩:=xp7 a c o h
    have:xej ws<=2*m:=xfs λd hd=>by
     obtain⟨i,hi,e⟩:=zMI hd;have f:i<k.parts.length:=by omega
     exact xg1 a m _ d (n _ (List.getElem_mem f)) (g i d k.parts[i] (by rw[<- e];exact zGA hi) (zGA f))
    show max 0 (max (xej ws+1) 0)+1<=2*(m+1);omega
   |false=>
    obtain⟨p,l,w,g,rfl⟩:=xp9 a c o h;have:=xg1 a m _ w (n p l) g;show max 0 (max 0 (max w.deep 0))+1<=2*(m+1);omega
end M
end
section
end
section
end
section
end
section
end
section
end
section
end
section
end
section
end
section
namespace M
open PySem L2
def byN(j:Nat):Str:=ofL [98,121,97+j]
def NoBy(x:Str):Prop:=∀j:Nat,x≠byN j
theorem xul{l:List Nat}(h:l[0]?≠some 98\/l[1]?≠some 121):NoBy (ofL l):=λj e=>by
 have:=congrArg L e;unfold byN at this;rw[xek,xek]at this;subst this;simp at h
theorem xkf{c:Nat}(h:c∈five):c≠98/\c≠121:=by
 revert h;unfold five;simp;omega
theorem xqk{cs:List Nat}(h:∀c∈cs,c∈five)(a:Nat)(b:Int)(k:Nat)(t:List Nat)(i:∀c∈t,c∈five):NoBy (ofL (nmA cs a b k++t)):=by
 apply xul;unfold nmA
 cases g:cs.take a with
 |nil=>
  right;rw[List.nil_append,List.cons_append,List.getElem?_cons_succ];intro e;have f:=zMG e;rcases zMA f with f |f
  ·exact(xkf (h _ (List.mem_of_mem_drop f))).2 rfl
  ·exact(xkf (i _ f)).2 rfl
 |cons c r=>
  left;intro e;simp at e;have:c∈cs.take a:=by rw[g];simp
  exact(xkf (h c (List.mem_of_mem_take this))).1 e
theorem xro{cs:List Nat}{a:Nat}{b:Int}(e:∀c∈cs,c∈five):∀z∈((List.range 26).map λk=>ofL (nmA cs a b k)),NoBy z:=λz hz=>by
 obtain⟨k,_,rfl⟩:=zMP hz;have:=xqk e a b k [] (λ_ h=>nomatch h);rw[List.append_nil]at this;exact this
theorem xrm{cs:List Nat}{a:Nat}{b:Int}(f:∀c∈cs,c∈five):∀z∈((List.range 26).map λk=>ofL (nmB cs a b k)),NoBy z:=λz hz=>by
 obtain⟨k,_,rfl⟩:=zMP hz;unfold nmB;exact xqk f a b _ _ λc e=>by rw[List.eq_of_mem_replicate e];decide
def PNB(ks:List Kn):Prop:=∀k∈ks,∀p∈k.parts,NoBy p.1
end M
end
section
set_option maxHeartbeats 400000
end
section
namespace L2
open PySem PySem.Spec PyProof.Rows M
section
variable {X:Cx}{K:Fg}
theorem xan{b:Expr}(e:X.K=K){l:Expr}{a:TE}(c:PE X l a):PI X b l (iTup K a):=by subst e;exact xs0 c
theorem xcp{b:Expr}(e:X.K=K){l:Expr}{a:TE}(c:PE X l a):PI X b l (xtm K a):=by subst e;exact xq8 c
theorem xbk(a:X.K=K):xd1 X (.type "tuple") (λxs H Q=>∃p ys,xs=[.ref p]/\((SqL K H p ys/\∀l,H l=none->Q (.ref l) (upd H l (.tup ys)))\/(SqT K H p ys/\Q (.ref p) H))):=by subst a;exact xhr
theorem xp2(a:X.K=K):OpR X (binaryOp .Add) (xqg K):=by subst a;exact xpi
theorem xol(a:X.K=K):SlR X (rSlT K):=by subst a;exact xso
end
section
variable {X:Cx}
theorem va(i:Nat){x:Str}{p:Pos}{es:List Expr}{t:TA}(c:PA X es t)(e:X.N[i]?=some x:=by rfl)(b:Vis X.env.scope x:=by first |exact Or.inl rfl |exact Or.inr (Or.inl rfl) |exact Or.inr (Or.inr rfl))(hd:(x == ("__debug__":Str))=false:=by decide)(a:(x == ("__classdict__":Str))=false:=by decide):PA X (.Name x p::es) (xqz (tVar i) t):=pc (pv i e b hd a) c zsn
theorem v1(i:Nat){x:Str}{p:Pos}(c:X.N[i]?=some x:=by rfl)(b:Vis X.env.scope x:=by first |exact Or.inl rfl |exact Or.inr (Or.inl rfl) |exact Or.inr (Or.inr rfl))(hd:(x == ("__debug__":Str))=false:=by decide)(a:(x == ("__classdict__":Str))=false:=by decide):PA X [.Name x p] (xqz (tVar i) tNil):=va i pN c b hd a
theorem psn(i:Nat){x:Str}{e:Expr}{b:TE}{pos a:Pos}(h:X.N.Nodup)(g:PE X e b)(hi:X.N[i]?=some x:=by rfl)(c:Loc X.env.scope x:=by first |exact Or.inl rfl |exact Or.inr rfl)(hs:swapsWith e (some (.Name x a)) pos.line X.env=pure false:=by rfl)(f:X.fn x=true\/X.env.scope.names.lookup x=some .local:=by first |exact .inl rfl |exact .inr rfl |assumption):PS X (.Assign [.Name x a] e pos) (tAsg b (xgg i)):=xsw h hi c g hs f
theorem pgn(i:Nat){x:Str}{pos:Pos}(c:X.N.Nodup)(hi:X.N[i]?=some x:=by rfl)(a:Loc X.env.scope x:=by first |exact Or.inl rfl |exact Or.inr rfl)(b:X.fn x=true\/X.env.scope.names.lookup x=some .local:=by first |exact .inl rfl |exact .inr rfl |assumption):PG X (.Name x pos) (xgg i):=xnf c hi a b
theorem px(K:Fg){a b:Expr}{e c:TE}{pos:Pos}(g:PE X a e)(f:PE X b c)(h:X.K=K:=by rfl)(hs:xkr b:=by exact λ_ _=>rfl):PE X (.Subscript a b pos) (tOp (rIxT K) e c):=xpg (xrw h) g f hs
theorem pxl(K:Fg){a b:Expr}{e c:TE}{pos:Pos}(g:PE X a e)(f:PE X b c)(h:X.K=K:=by rfl)(hs:xkr b:=by exact λ_ _=>rfl):PE X (.Subscript a b pos) (tOp (rIxL K) e c):=xpg (xpx h) g f hs
theorem pgc(i:Nat){x:Str}{pos:Pos}(hi:X.N[i]?=some x:=by rfl)(hN:X.N.Nodup:=by exact of_decide_eq_true (by kernel_rfl))(hx:Loc X.env.scope x:=by exact Or.inl rfl)(hf:X.fn x=true\/X.env.scope.names.lookup x=some .local:=by first |exact .inl rfl |exact .inr rfl |assumption):PG X (.Name x pos) (xgg i):=xnf hN hi hx hf
end
end L2
end
section
namespace L2
open PySem PySem.Spec PyProof.Rows
open PySem.W in
def xqr(K:Frag)(x:Str)(fs:List Str):Bool:=
 plainGet K (ad K x) Str.empty && (hasDictIn K (ad K x) && (plainOver K (ad K x) && (findIn K (.ref (ad K x)) "__setattr__" == some (some (.builtin "object.__setattr__")) && (makesIn K (ad K x) && (keepIn K (.ref (ad K x)) &&
 fs.all λf=>findIn K (.ref (ad K x)) f == some none)))))
structure DTab(K:Fg)(x:Str)(fs:List Str):Prop where
 cl:Cls K (ad K x)
 ms:PySem.W.makesIn K (ad K x)=true
 kp:PySem.W.keepIn K (.ref (ad K x))=true
 no:∀f∈fs,NoAttr K (ad K x) f
theorem dtab_of{K:Fg}{x:Str}{fs:List Str}(e:xqr K x fs=true):DTab K x fs:=by
 unfold xqr at e;simp only[Bool.and_eq_true,List.all_eq_true,beq_iff_eq]at e;obtain⟨i,h,g,f,c,b,a⟩:=e;exact⟨⟨i,h,g,f⟩,c,b,a⟩
structure MethTx(K:Fg)(q:Str)(C:Addr)(m:Str)(st:Stmt)(ps:List Str)(dss:List (List Value)):Prop where
 ex:∃(f:Addr) (dV kV doc pm:Value) (an:Option Addr) (cdv ct oc:Value) (od:Option Addr) (osl:Array (Option Value)),PySem.W.findIn K (.ref C) m=some (some (.ref f))/\PySem.W.isFn K (.ref f)=true/\PySem.W.keepIn K (.ref f)=true ∧
  K.lookup f=some ⟨oc,od,.func (PySem.W.fnOf m q (xdm st) (xcw st) (xab st) dV kV doc pm an cdv ct),osl⟩/\PySem.W.codeIn K cdv q=true/\∀ds∈dss,Binds K (PySem.W.fnOf m q (xdm st) (xcw st) (xab st) dV kV doc pm an cdv ct) ps ds
theorem meth_mk {K:Fg} {x q m:Str} {C f:Addr} {st:Stmt} {ps:List Str} {r:Value} {od p:Option Addr} {o:Array (Option Value)} {kV g j e ct:Value} (a:PySem.W.nsIn K mainGlobals x=some (some (.ref C)))
  (i:PySem.W.findIn K (.ref C) m=some (some (.ref f))) (n:PySem.W.isFn K (.ref f)=true)
  (l:K.lookup f=some ⟨r,od,.func (PySem.W.fnOf m q (xdm st) (xcw st) (xab st) .none kV g j p e ct),o⟩) (c:PySem.W.codeIn K e q=true) (k:PySem.W.keepIn K (.ref f)=true)
  (b:∀(kV g j:Value) (p:Option Addr) (e ct:Value) (us:List Value),us.length=ps.length->bindArgs (PySem.W.fnOf m q (xdm st) (xcw st) (xab st) .none kV g j p e ct) ⟨us,[]⟩=pure (ps.zip us)):MethTx K q (ad K x) m st ps [[]]:=by
 rw[xuu a];exact⟨f,_,kV,g,j,p,e,ct,r,od,o,i,n,k,l,c,λds h=>by rw[zMO h];exact Binds.all (b kV g j p e ct)⟩
structure MethIs(P:Program)(w:World)(K:Fg)(mg:Str->Option Value)(base:Heap)(n:Nat)(C:Addr)(m:Str)(ps:List Str)(dss:List (List Value))(sp:Sp):Prop where
 ex:∃(f:Addr) (fd:FuncData),Meth K C m f/\FnOk P w K mg base CX0 n f fd ps sp/\∀ds∈dss,Binds K fd ps ds
section
variable {P:Program}{w:World}{K:Fg}{mg:Str->Option Value}{base:Heap}{n n':Nat}{q m:Str}{C:Addr}{st:Stmt}{ps N:List Str}{sp:Sp}{dss:List (List Value)}
theorem MethIs.of (T:MethTx K q C m st ps j) (S:FnScope N ps (xab st)) (len:∀vs H Q E,sp vs H Q E->vs.length=ps.length)
  (e:∀(f:Addr) (a:Value) (A:Around) (outer:List Env) (s:Shared) (H:Hp) (vs:List V) (Q:VK) (E:XK),Room n (A.deeper (envOfC q (xab st) s.heap.objs.size f a))->sp vs H Q E->
   ∃t,PSs (cxOf CX0 P w K r base N q (xab st) f a A outer s H E).nox (xcw st) t/\t {nx:=λ_ y=>Q .non y,rt:=Q} (xfj N vs) H):MethIs P w K r base (n+1) C m ps j sp:=by
 obtain⟨f,I,kV,x,z,J,a,ct,G,od,o,i,p,k,l,c,b⟩:=T.ex;refine⟨f,_,⟨i,p,k⟩,xtr l c S len λA outer s H vs Q E u g=>?_,b⟩;obtain⟨t,h,q⟩:=e f a A outer s H vs Q E u g;exact⟨t,h.nox,q⟩
end
section
variable {X:Cx}{n:Nat}{x m:Str}{ps:List Str}{sp:Sp}{p pos apos:Pos}{fs:List Str}{C:Addr}{dss:List (List Value)}{ds:List Value}{dvs:List V}{e o:Expr}{es:List Expr}{t:TA}{ta:TE}
theorem xnh (D:MethIs X.prog X.w X.K X.mg X.base n (ad X.K x) "__init__" ps dss sp) (M:DTab X.K x fs) (hr:Room (n+1) X.A) (hm:X.mg x=some (.ref (ad X.K x))) (hds:ds∈dss) (hd:Vals dvs ds) (ha:PA X (e::es) t) (hg:Gl X x:=by rfl) (hdb:(x == ("__debug__":Str))=false:=by decide)
  (he:starEach (e::es) X.env=(false,eval e X.env)::starEach es X.env:=by rfl) (hpl:(backTo pos (starEach es X.env)).any (·.1)=false:=by rfl):PE X (.Call (.Name x p) (e::es) [] pos) (xse (ad X.K x) sp dvs E0 t):=by
 obtain⟨f,fd,N,F,b⟩:=D.ex;exact xq9 ⟨M.ms,N.at_,N.fn,M.kp⟩ F hr hg hm (b ds hds) hd xs7 ha hdb he hpl
end
section
variable {X:Cx}
theorem Inv.reH {pins:List (Addr×Obj)} {σ:St} {H:Hp} {s:Shared} {a:Addr} {o u:HO} (I:Inv X pins σ H s) (ha:H a=some o) (n1:∀xs,o≠.tup xs) (n2:∀ps,o≠.tbl ps) (n3:∀x,o≠.own x) (nz:∀ob v,X.H₀ a≠some (.frz ob v))
  (new:ObjOk X.prog X.w (upd H a u) s.heap a u):Inv X pins σ (upd H a u) s:=by
 have hn:∀{b:Addr},H b=none->upd H a u b=none:=λ{b} e=>by
  rw[xai λz=>by rw[z,ha]at e;cases e];exact e
 have hs:∀{b:Addr} {v:HO},H b=some v->v≠o->upd H a u b=some v:=λ{b v} e ne=>by
  rw[xai λz=>by rw[z,ha]at e;exact ne (Option.some.inj e).symm];exact e
 refine⟨I.ok,I.os,I.bare,⟨I.base.keep,I.base.slot,λb ob e n hx=>hn (I.base.free b ob e n hx),I.base.there,λb xs e=>hs (I.base.tups b xs e) λz=>n1 xs z.symm,λb ob v e=>?_,λb ps e=>?_⟩,I.loc,I.cell,hn I.free,λx c e=>hn (I.freeC x c e),λp hp=>?_,λb v e=>?_,I.len⟩
 ·rw[xai λz=>by subst z;exact nz ob v e]
  exact I.base.frzs b ob v e
 ·obtain⟨more,e'⟩:=I.base.tbls b ps e
  exact⟨more,hs e' λz=>n2 _ z.symm⟩
 ·obtain⟨q1,q2,q3⟩:=I.pin p hp
  exact⟨q1,hn q2,q3⟩
 ·by_cases hb:b=a
  ·subst hb
   rw[ups]at e;cases e;exact new
  ·rw[xai hb]at e
   exact(I.hok b v e).stay (λ_ _ _ q=>q) (λc q=>hs q λz=>n3 _ z.symm) λc xs q=>hs q λz=>n1 _ z.symm
def NoFz(H0:Hp)(a:Addr):Prop:=∀ob u,H0 a≠some (.frz ob u)
theorem Inv.noFz{b:List (Addr×Obj)}{σ:St}{H:Hp}{s:Shared}{a:Addr}{kvs:List (Key×V)}(I:Inv X b σ H s)(f:H a=some (.dK kvs)):NoFz X.H₀ a:=λc u e=>by
 have:=I.base.frzs a c u e;rw[f]at this;cases this
theorem Inv.freeze{pins:List (Addr×Obj)}{σ:St}{H:Hp}{s:Shared}{a:Addr}{ob:Obj}{kvs:List (Key×V)}(I:Inv X pins σ H s)(ha:H a=some (.dK kvs))(e:s.heap.get? a=some ob):Inv X pins σ (upd H a (.frz ob (.dK kvs))) s:=by
 refine I.reH ha (λ_ z=>by cases z) (λ_ z=>by cases z) (λ_ z=>by cases z) (I.noFz ha) ⟨e,?_⟩;obtain⟨z,y,r⟩:=(show ObjOk X.prog X.w H s.heap a (.dK kvs) from I.hok a _ ha);exact⟨z,y,r⟩
theorem Inv.thaw{b:List (Addr×Obj)}{σ:St}{H:Hp}{s:Shared}{a:Addr}{c:Obj}{kvs:List (Key×V)}(I:Inv X b σ H s)(e:H a=some (.frz c (.dK kvs)))(f:NoFz X.H₀ a):Inv X b σ (upd H a (.dK kvs)) s:=by
 obtain⟨_,z,y,r⟩:=(show ObjOk X.prog X.w H s.heap a (.frz c (.dK kvs)) from I.hok a _ e);exact I.reH e (λ_ z=>by cases z) (λ_ z=>by cases z) (λ_ z=>by cases z) f ⟨z,y,r⟩
def Itd(a:Addr)(o:Obj)(kvs:List (Key×V)):It:=
 ⟨λi H=>H a=some (.frz o (.dK kvs))/\i<kvs.length,λi H x H'=>H'=H/\∃kv,kvs[i]?=some kv/\x=kV kv.1,λi H=>H a=some (.frz o (.dK kvs))/\kvs.length<=i⟩
theorem xle{P:Program}{w:World}{H:Hp}{h:Heap}{a:Addr}{o:Obj}{kvs:List (Key×V)}{es:Array DictEntry}{ep:Nat}(ok:HOk P w H h)(e:H a=some (.frz o (.dK kvs)))(hd:o.data=.dict es ep):∃vs,KV kvs vs/\h.DictAt (xbv P w) a vs ep:=by
 obtain⟨f,_,_,vs,r,i,es',g,b,c,d,q⟩:=(show ObjOk P w H h a (.frz o (.dK kvs)) from ok a _ e);rw[f]at b;cases b;rw[hd]at d;cases d;exact⟨vs,r,o,es,f,c,hd,q⟩
theorem xmp{P:Program}{w:World}{K:Fg}{tg:Expr}{a it:Addr}{o:Obj}{kvs:List (Key×V)}{es:Array DictEntry}{ep:Nat}(a0:a≠it)(hd:o.data=.dict es ep):Turn P w K tg (Itd a o kvs) [it] it (λi h=>h.IsKeyIter it a i kvs.length ep) where
 mem:=by simp
 obj:=λi h st b l=>by
  have e:b=it:=by simpa using l
  subst e;obtain⟨o,e,c,d⟩:=st;exact⟨o,e,λv z=>by rw[d]at z;cases z⟩
 keep:=λi h h' st k=>st.at λo e=>k it (by simp) o e
 item:=by
  intro X G x J hc i g s σ H E I r st y;subst G x J;obtain⟨C,hi⟩:=y;obtain⟨vs,f,dat⟩:=xle I.hok C hd;have p:=f.length;obtain⟨Z,Y,f2,U,O,M⟩:=r it (by simp);have n:i<vs.length:=by omega
  refine wpAny_pyNext_dict_item (kvs:=vs) (k:=vs[i].1) (v:=vs[i].2) (by rw[<- p];exact st) dat (by rw[zGA n]) λu h' m j sb=>?_;have I1:Inv X g σ H {s with heap:=h'}:=I.turned (t':=s.toks) (λb o l e=>(sb.2 b l).trans e) Z Y U O M;rw[<- p]at j;obtain⟨o',e,c,d⟩:=id j;have ek:=KV.get f (zGA hi) (zGA n);exact⟨u,rfl,xp1 (s:={s with heap:=h'}) e c d (by decide) ⟨kV kvs[i].1,H,I1,by rw[ek];exact xtj m,⟨rfl,_,zGA hi,rfl⟩,j,λb l=>(r b l).1⟩⟩
 done:=by
  intro X G x J hc i g s σ H E I r st y;subst G x J;obtain⟨C,hi⟩:=y;obtain⟨vs,f,dat⟩:=xle I.hok C hd;have p:=f.length;obtain⟨Z,Y,f2,U,O,M⟩:=r it (by simp);exact wpAny_pyNext_dict_end (I.ok.hd hc) (kvs:=vs) (by rw[<- p];exact st) dat (List.getElem?_eq_none (by omega)) λh' eb=>⟨rfl,I.turned (t':=s.toks) (λb o l e=>eb b o l e) Z Y U O M⟩
 self:=λ_ _ _ _ _ st h=>wpAny_pyIter_keyiter st h
def xup(H0:Hp)(td:TE):TI:=λσ H R=>td σ H λx H1=>∃a,∃kvs:List (Key×V),x=.ref a/\H1 a=some (.dK kvs)/\∀o,NoFz H0 a->R (Itd a o kvs) (upd H1 a (.frz o (.dK kvs)))
theorem xjs{tg l:Expr}{tl:TE}(hl:PE X l tl):PI X tg l (xup X.H₀ tl):=by
 intro pins s σ H R I h;refine thn (hl pins s σ H _ I h) λv s1 ⟨x,H1,I1,r1,q1⟩=>?_;obtain⟨a,kvs,e,ha,q⟩:=q1;subst e;cases r1;obtain⟨hz,hsys,vs,rel,dd⟩:=xki I1.hok ha;obtain⟨ep,dat⟩:=dd.dictAt;obtain⟨o,es,ho,hx,hdat,_⟩:=id dat;have hlen:=rel.length;refine wpAny_pyIter_dict hsys dat ?_;have I2:=I1.freeze ha ho;have hn:upd H1 a (.frz o (.dK kvs)) s1.heap.objs.size=none:=I2.hok.fresh (Nat.le_refl _);refine⟨s1.heap.objs.size,[s1.heap.objs.size],_,_,_,rfl,I2.kept (t':=s1.toks) λb o e=>zPO _ e,xmp (λz=>?_) hdat,⟨_,Heap.get?_push_size _ rfl,rfl,by rw[hlen];rfl⟩,λb hb=>?_,q o (I1.noFz ha)⟩
 ·rw[<- z,ups]at hn
  cases hn
 ·have e:b=s1.heap.objs.size:=by simpa using hb
  subst e;exact I2.fpOk (Nat.le_refl _) hn
def xty(H0:Hp)(N:St->Hp->Prop):St->Hp->Prop:=λσ H=>∃a o,∃kvs:List (Key×V),H a=some (.frz o (.dK kvs))/\NoFz H0 a/\N σ (upd H a (.dK kvs))
theorem xg9{st:Stmt}{t:TS}(h:PS X st t):PS X st (λD σ H=>t {D with nx:=xty X.H₀ D.nx} σ H):=by
 intro b s σ H D I j;refine thn (h b s σ H _ I j) λf m q=>?_
 cases f with
 |next=>
  obtain⟨c,n,l,a,o,kvs,e,i,g⟩:=q;exact⟨c,_,l.thaw e i,g⟩
 |cont=>exact q
 |brk=>exact q
 |ret v=>exact q
theorem xhp {a:Addr} {o:Obj} {kvs:List (Key×V)} {g:TG} {n:TS} {D:Ends} {σ:St} {H:Hp} (b:Nat->St->Hp->Prop) (h0:b 0 σ H) (u:∀i σ H,i<=kvs.length->b i σ H->H a=some (.frz o (.dK kvs)))
  (hs:∀i kv σ H,kvs[i]?=some kv->b i σ H->g (kV kv.1) σ H λh l=>n {D with nx:=b (i+1),ct:=b (i+1),bk:=D.nx} h l) (hd:∀σ H,b kvs.length σ H->D.nx σ H) :
  ∃W:Nat->Nat->St->Hp->Prop,(∃m,W 0 m σ H)/\∀i m σ H,W i m σ H->
   ((Itd a o kvs).stop i H/\D.nx σ H)\/((Itd a o kvs).go i H/\∃N:St->Hp->Prop,(∀j c,N j c->∃r,r<m/\W (i+1) r j c)/\∀x c,(Itd a o kvs).yld i H x c->g x σ c λh l=>n {D with nx:=N,ct:=N,bk:=D.nx} h l):=by
 refine⟨λi m σ H=>m=kvs.length-i/\i<=kvs.length/\b i σ H,⟨kvs.length,by simp,Nat.zero_le _,h0⟩,?_⟩;rintro i m σ H ⟨rfl,hi,p⟩;have q:=u i σ H hi p;by_cases f:i<kvs.length
 ·refine .inr ⟨⟨q,f⟩,b (i+1),λj c s=>⟨kvs.length-(i+1),by omega,rfl,f,s⟩,λx c y=>?_⟩
  obtain⟨e,kv,w,z⟩:=y;subst e z;exact hs i kv σ _ w p
 ·have e:i=kvs.length:=by omega
  subst e;exact .inl ⟨⟨q,Nat.le_refl _⟩,hd σ H p⟩
end
section
variable {X:Cx}
def Itm(a:Addr)(o:Obj)(kvs:List (Key×V)):It:=
 ⟨λi H=>H a=some (.frz o (.dK kvs))/\i<kvs.length,λi H x H'=>∃p kv,x=.ref p/\H p=none/\kvs[i]?=some kv/\H'=upd H p (.tup [kV kv.1,kv.2]),λi H=>H a=some (.frz o (.dK kvs))/\kvs.length<=i⟩
theorem xlw{P:Program}{w:World}{K:Fg}{r:List Expr}{x1}{pos:Pos}{a it:Addr}{o:Obj}{kvs:List (Key×V)}{es:Array DictEntry}{ep:Nat}(a0:a≠it)(hd:o.data=.dict es ep):Turn P w K (.Tuple r x1 pos) (Itm a o kvs) [it] it (λi h=>∃ok m,IsItemIter h it a i kvs.length ep ok m) where
 mem:=by simp
 obj:=λi h st b j=>by
  have e:b=it:=by simpa using j
  subst e;obtain⟨_,_,e⟩:=st;exact⟨_,e,λv z=>by cases z⟩
 keep:=λi h h' st k=>by
  obtain⟨ok,m,e⟩:=st;exact⟨ok,m,k it (by simp) _ e⟩
 item:=by
  intro X O C U hc i c s σ H E I x st J;subst O C U;obtain⟨M,hi⟩:=J;obtain⟨vs,f,dat⟩:=xle I.hok M hd;have u:=f.length;have l:i<vs.length:=by omega
  obtain⟨ok,m,st⟩:=st;rw[u]at st;refine wpAny_pyNext_items_item (kvs:=vs) (k:=vs[i].1) (v:=vs[i].2) st dat (by rw[zGA l]) λg h1 n a1 a3 a4 a5=>⟨_,rfl,?_⟩;refine wpAny_letOwnedTupleGo_items a1 λh2 b1 b2=>?_;have ek:=KV.get f (zGA hi) (zGA l);obtain⟨v,hv,rv⟩:=KV.get2 f (zGA l);have G:H s.heap.objs.size=none:=I.hok.fresh (Nat.le_refl _);have y:it<s.heap.objs.size:=Heap.lt_size st;have g1:(s.heap.push {cls:=.type "tuple",data:=.seq #[g,vs[i].2]}).get? s.heap.objs.size=some {cls:=.type "tuple",data:=.seq #[g,vs[i].2]}:=Heap.get?_push_size _ rfl
  have I1:Inv X c σ (upd H s.heap.objs.size (.tup [kV vs[i].1,v])) {s with heap:=s.heap.push {cls:=.type "tuple",data:=.seq #[g,vs[i].2]}}:=
   I.laid (t':=s.toks) (λb o q=>zPO _ q) (Nat.le_refl _) ⟨by show 2<=sizeLine;decide,[g,vs[i].2],.cons (xtj n) (.cons rv .nil),⟨_,g1,rfl,_,rfl,rfl⟩⟩
  have p:∀b∈[it],FpOk X c (upd H s.heap.objs.size (.tup [kV vs[i].1,v])) b:=λb j=>by
   refine⟨?_,(x b j).2⟩;have e:b=it:=by simpa using j
   subst e;rw[xai (Nat.ne_of_lt y)];exact(x b j).1
  have I2:Inv X c σ (upd H s.heap.objs.size (.tup [kV vs[i].1,v])) {s with heap:=h2}:=
   I1.turnedL (t':=s.toks) (λb o j q=>by
    have Z:b≠it:=by simpa using j
    have q1:h1.get? b=some o:=by
     by_cases z:b=s.heap.objs.size
     ·subst z
      have Y:(s.heap.push {cls:=.type "tuple",data:=.seq #[g,vs[i].2]}).get? s.heap.objs.size=some o:=q;rw[g1]at Y;cases Y;exact a3
     ·exact a5 b o Z (xkc q z)
    exact(b2.2 b Z).trans q1) p
  rw[<- u]at b1;exact⟨.ref s.heap.objs.size,_,I2,rfl,⟨_,_,rfl,G,hv,rfl⟩,⟨_,_,b1⟩,λb j=>(p b j).1⟩
 done:=by
  intro X O C U hc i c s σ H E I x st J;subst O C U;obtain⟨M,hi⟩:=J;obtain⟨vs,f,dat⟩:=xle I.hok M hd;have u:=f.length;obtain⟨ok,m,st⟩:=st;rw[u]at st;obtain⟨f0,f1,f2,f3,f4,f5⟩:=x it (by simp);exact wpAny_pyNext_items_end (I.ok.hd hc) (kvs:=vs) st dat (List.getElem?_eq_none (by omega)) λh' eb=>⟨rfl,I.turned (t':=s.toks) (λb o j e=>eb b o j e) f0 f1 f3 f4 f5⟩
 self:=λ_ _ _ _ _ st h=>by
  obtain⟨ok,m,st⟩:=st;exact PySem.W.kcp_self st h
def xtn(H0:Hp)(td:TE):TI:=λσ H R=>td σ H λx H1=>∃a,∃kvs:List (Key×V),x=.ref a/\H1 a=some (.dK kvs)/\∀o,NoFz H0 a->R (Itm a o kvs) (upd H1 a (.frz o (.dK kvs)))
theorem xpe {elts:List Expr} {x1} {tp:Pos} {o:Expr} {td:TE} {apos q2:Pos} (ho:PE X o td) (hbase:attributeBase o "items" X.env (eval o X.env)=eval o X.env:=by rfl) (hline:(apos.endLine == q2.line)=true:=by rfl) :
  PI X (.Tuple elts x1 tp) (.Call (.Attribute o "items" apos) [] [] q2) (xtn X.H₀ td):=by
 intro pins s σ H R I h;refine wpAny_Call_method0_late hbase hline (thn (ho pins s σ H _ I h) λv s1 ⟨x,H1,I1,r1,q1⟩=>?_);obtain⟨a,kvs,e,ha,q⟩:=q1;subst e;obtain rfl:v=.ref a:=r1;obtain⟨t1,t2,_⟩:=xtk I1 (.inl ⟨kvs,.inl ha⟩);obtain⟨z,hd,vs,rel,dd⟩:=xki I1.hok ha;have hlen:=rel.length;refine⟨"dict","dict.items",PySem.F.plainAttrs_dict,PySem.F.slot_dict_items,PySem.F.type_dict_items,t1,t2,Calls.callWith_builtin rfl (PySem.evalArgs_none ?_)⟩;refine call_meetsIn PySem.F.slot_dict_items dd.typeIs PySem.F.entry_dict_items (PySem.F.args_dict_items_1 _) (meets_dict_items (xbv X.prog X.w) a hd) ⟨⟨vs,dd⟩,?_⟩;obtain⟨ep,hat⟩:=(dd.push {cls:=.type "dict_items",data:=.fields #[.ref a]}).dictAt;obtain⟨ob,es,hob,hx,hdat,_⟩:=id hat;refine wpAny_pyIter_items (kvs:=vs) (ep:=ep) ⟨_,Heap.get?_push_size _ rfl,rfl,rfl⟩ hat ?_;have I2:Inv X pins σ H1 {s1 with heap:=s1.heap.push {cls:=.type "dict_items",data:=.fields #[.ref a]}}:=I1.kept (t':=s1.toks) λb o e=>zPO _ e;have I3:=I2.freeze ha hob;have hn:upd H1 a (.frz ob (.dK kvs)) (s1.heap.push {cls:=.type "dict_items",data:=.fields #[.ref a]}).objs.size=none:=I3.hok.fresh (Nat.le_refl _);refine⟨(s1.heap.push {cls:=.type "dict_items",data:=.fields #[.ref a]}).objs.size,[(s1.heap.push {cls:=.type "dict_items",data:=.fields #[.ref a]}).objs.size],_,_,_,rfl,I3.kept (t':=s1.toks) λb o e=>zPO _ e,xlw (λz=>?_) hdat,⟨.none,.none,?_⟩,λb hb=>?_,q ob (I1.noFz ha)⟩
 ·rw[<- z,ups]at hn
  cases hn
 ·rw[hlen]
  exact Heap.get?_push_size _ rfl
 ·have e:b=(s1.heap.push {cls:=.type "dict_items",data:=.fields #[.ref a]}).objs.size:=by simpa using hb
  subst e;exact I3.fpOk (Nat.le_refl _) hn
end
theorem ext1{σ:St}{i:Nat}{v:Option V}(h:σ[i]?=some none):Ext σ (σ.set i v):=by
 refine⟨by simp,λn b e=>?_⟩;have a:i≠n:=λz=>by subst z;rw[h]at e;cases e
 rw[List.getElem?_set_ne a];exact e
theorem xis:∀(kvs acc:List (Key×V)),((acc++kvs).map (·.1)).Nodup->xa5 acc kvs=acc++kvs
 |[],acc,_=>by show acc=_;rw[List.append_nil]
 | kv::kvs,acc,h=>by
  have hn:(acc.any λp=>decide (p.1=kv.1))=false:=by
   rw[List.any_eq_false];intro p a e;rw[zAP,List.nodup_append]at h;exact h.2.2 p.1 (List.mem_map_of_mem a) kv.1 (by simp) (of_decide_eq_true e)
  have e:putK acc kv.1 kv.2=acc++[kv]:=by
   unfold putK;rw[if_neg (by rw[hn];decide)]
  show xa5 (putK acc kv.1 kv.2) kvs=_;rw[e,xis kvs (acc++[kv]) (by rw[List.append_assoc];exact h),List.append_assoc];rfl
theorem xps{kvs:List (Key×V)}(h:(kvs.map (·.1)).Nodup):xa5 [] kvs=kvs:=xis kvs [] h
end L2
end
section
namespace M
open PySem L2
theorem xoc{ks:List Kn}{n:Nat}{env:En}{d:D}{x:Str}(h:xjf env d x):Kd True ks n env d x:=by
 cases n with
 |zero=>exact h
 |succ n=>exact .inl h
theorem xnk{k:Kn}{p:Str×Str}(nd:(k.parts.map (·.1)).Nodup)(b:p∈k.parts):xdv k p.1=some p.2:=by
 unfold xdv;obtain⟨i,hi,e⟩:=zMI b;have:=xcq (f:=λr:Str×Str=>r.1) (xs:=k.parts) (i:=i) (a:=p) nd (by rw[<- e];exact zGA hi);rw[this];rfl
theorem xf9{α β:Type}{f:α->β}:∀{l:List α},(l.map f).Nodup->∀{a b:α},a∈l->b∈l->f a=f b->a=b
 |[],_,a,_,i,_,_=>nomatch i
 | c::l,nd,a,b,i,j,e=>by
  rw[List.map_cons,List.nodup_cons]at nd;rcases zMC i with h |h <;> rcases zMC j with g |g
  ·rw[h,g]
  ·rw[h]at e
   exact absurd (by rw[e];exact List.mem_map_of_mem g) nd.1
  ·rw[g]at e
   exact absurd (by rw[<- e];exact List.mem_map_of_mem h) nd.1
  ·exact xf9 nd.2 h g e
theorem NodeKd.mono{cs:Prop}{ks:List Kn}{R n:RKn}(k:∀env d x,R env d x->n env d x){env:En}{d:D}{x:Str}(h:NodeKd cs ks R env d x):NodeKd cs ks n env d x:=by
 rcases h with⟨s,a,b,e,g,r⟩ |⟨es,i,e,g,j,r⟩ |⟨a,l,f,i,e,r⟩ |⟨t,a,i,l,e,g,j,m,r⟩ |⟨u,a,rs,l,i,e,g,j,m,z,y,w,r⟩ |⟨a,b,c,e,g,j,r⟩
 ·exact .inl ⟨s,a,b,k _ _ _ e,k _ _ _ g,r⟩
 ·exact .inr (.inl ⟨es,i,e,g,j.imp λ_ _ h=>k _ _ _ h,r⟩)
 ·exact .inr (.inr (.inl ⟨a,l,f,i,k _ _ _ e,r⟩))
 ·exact .inr (.inr (.inr (.inl ⟨t,a,i,l,e,g,j,k _ _ _ m,r⟩)))
 ·refine .inr (.inr (.inr (.inr (.inl ⟨u,a,rs,l,i,k _ _ _ e,g,j,m,z,y,λr p=>?_,r⟩))))
  obtain⟨I,o,G,C⟩:=w r p;exact⟨I,o,G,k _ _ _ C⟩
 ·exact .inr (.inr (.inr (.inr (.inr ⟨a,b,c,k _ _ _ e,k _ _ _ g,k _ _ _ j,r⟩))))
def NoMo(x:Str):Prop:=x≠S "more"
theorem xuj{l:List Nat}(h:l[0]?≠some 109\/l[1]?≠some 111):NoMo (ofL l):=λe=>by
 have:=congrArg L e;rw[xek,show L (S "more")=[109,111,114,101] by walk_at"k"]at this;subst this;simp at h
theorem xke{c:Nat}(h:c∈five):c≠109/\c≠111:=by
 revert h;unfold five;simp;omega
theorem xqj{cs:List Nat}(h:∀c∈cs,c∈five)(a:Nat)(b:Int)(k:Nat)(t:List Nat)(i:∀c∈t,c∈five):NoMo (ofL (nmA cs a b k++t)):=by
 apply xuj;unfold nmA
 cases g:cs.take a with
 |nil=>
  right;rw[List.nil_append,List.cons_append,List.getElem?_cons_succ];intro e;have f:=zMG e;rcases zMA f with f |f
  ·exact(xke (h _ (List.mem_of_mem_drop f))).2 rfl
  ·exact(xke (i _ f)).2 rfl
 |cons c r=>
  left;intro e;simp at e;have:c∈cs.take a:=by rw[g];simp
  exact(xke (h c (List.mem_of_mem_take this))).1 e
theorem xrn{cs:List Nat}{a:Nat}{b:Int}(e:∀c∈cs,c∈five):∀z∈((List.range 26).map λk=>ofL (nmA cs a b k)),NoMo z:=λz hz=>by
 obtain⟨k,_,rfl⟩:=zMP hz;have:=xqj e a b k [] (λ_ h=>nomatch h);rw[List.append_nil]at this;exact this
theorem xrl{cs:List Nat}{a:Nat}{b:Int}(f:∀c∈cs,c∈five):∀z∈((List.range 26).map λk=>ofL (nmB cs a b k)),NoMo z:=λz hz=>by
 obtain⟨k,_,rfl⟩:=zMP hz;unfold nmB;exact xqj f a b _ _ λc e=>by rw[List.eq_of_mem_replicate e];decide
end M
end
section
namespace PySem
open Sem (wp)
section
variable {prog:Program}{w:World}{A:Around}{E:Value->Shared->Prop}{s:Shared}
theorem xe6 {a:Addr} {xs:Array Value} {k:Nat} {sl:Array (Option Value)} {name:Str} {Q:Option Value->Shared->Prop}
  (hx:s.heap.get? a=some {cls:=.type "tuple",dict:=none,data:=.seq xs k,slots:=sl}) (hmiss:typeLookup (.type "tuple") name=pure none) (hname:(["__module__","__name__","__qualname__","__doc__","__annotations__"]:List Str).contains name=false) (hA:A.handled=none)
  (h:∀h' tk,(∀b o,s.heap.get? b=some o->h'.get? b=some o)->Q none {s with heap:=h',toks:=tk}) (hsz:name.length+100<=sizeLine) :
  wpAny (model prog w) A (getAttr? (.ref a) name) Q E s:=by
 obtain⟨hp,g,d,tk,os⟩:=s;have hT:∀tk',(⟨hp,g,d,tk',os⟩:Shared).TypeIs (.ref a) "tuple":=λ_=>⟨_,hx,rfl⟩;have f1:=sub_AttributeError;have f3:=F.slot_tuple_getattribute.lookup;have f4:=F.slot_tuple_getattribute.bind (.ref a);have f5:=am_tuple_getattr_none;unfold getAttr? getAttrBy? getAttrBy
 repeat (any_goals (first |assumption |exact hT _ |((with_reducible show wpAny _ _ (call (Value.builtin "tuple.__getattribute__") _ _) _ _ _);refine call_meets F.slot_tuple_getattribute (hT _) am_entry_tuple_getattribute (F.args_tuple_getattribute_2 _ _) (meets_getattribute_miss_tuple a xs k sl name _ hmiss hname hsz) ⟨hx,hA,λh' tk' e hx'=>?_⟩) |wp_step))
 obtain⟨t',u',he⟩:=hx'.there;show wpAny _ _ (getattributeRaised _ _ _ _ _ _ _) _ _ _;unfold getattributeRaised
 repeat (any_goals (first |assumption |wp_step))
 all_goals first |exact h _ _ hx'.keeps |skip
end
end PySem
namespace L2
open PySem PySem.Spec PyProof.Rows
section
variable {prog:Program}{w:World}{A:Around}{K:Type}[DecidableEq K]{knd:KeyKind prog w K}
theorem xfa{h:Heap}{a I l:Addr}{i:Nat}{xs:Array Value}(f:h.IsTuple a xs)(hd:h.IsTupleIter I l i):a≠I:=λe=>by
 subst e;obtain⟨o,g,j,_⟩:=f;obtain⟨t,c,b,_⟩:=hd;have:o=t:=Option.some.inj (g.symm.trans c);subst this;rw[j]at b;exact absurd (Value.type.inj b) (by decide)
theorem xmn {R:Result->Shared->Prop} {I l d:Addr} {its:List Value} {ps:List (K×Value)} (hh:A.in1.handled=none) (a0:l≠I) (a7:l≠d) (G:I≠d) :
    ∀(k i:Nat) (s:Shared) (f:List (K×Value)),its.length-i=k->i<=its.length->s.heap.IsTupleIter I l i->s.heap.IsTuple l its.toArray->s.heap.DictOf knd d f->PairsAt knd s.heap (its.drop i) (ps.drop i)->f.length+(its.length-i)<=sizeLine->
    (∀h' tk,h'.DictOf knd d (merged f (ps.drop i))->(∀b o,b≠d->b≠I->s.heap.get? b=some o->h'.get? b=some o)->R (.ok (.ret .none)) {s with heap:=h',toks:=tk})->
    codeAny (model prog w) A (.builtin "dict.update.loop" ⟨[.ref d,.ref I,rawInt i,.none],[]⟩) R s:=by
  intro k
  induction k with
  | zero=>
    intro i s f hk hi g hl hd j hsz hR;have C:i=its.length:=by omega
    have W:=Walks.tuple (prog:=prog) (w:=w) (A:=A.in1) hh I l a0 its.toArray;refine codeAny_builtin xcu ?_;rw[Around.under_plainId xbn _];show wpAny _ A.in1 (pyNext (.ref I) >>= _) _ _ s
    refine wpAny_bind (W.done s _ _ (by have e:its.toArray.size = i := by simp[C]
                                        rw[e];exact⟨g,hl⟩) λh' tk c=>?_)
    show wpAny _ _ (Builtin.Dict.addKeywords d [] >>= _) _ _ _;refine wpAny_bind (wpAny_pure (wpAny_pure ?_))
    have a5:ps.drop i=[]:=by
      rw[C,List.drop_length]at j;rw[C]
      cases hq:ps.drop its.length with
      |nil=>rfl
      |cons p r=>rw[hq]at j;exact j.elim
    refine hR h' tk ?_ λb o J n e=>c b o (by simpa using n) e;rw[a5];exact hd.at λo e=>c d o (by simpa using (Ne.symm G)) e
  | succ k ih=>
    intro i s f hk hi g hl hd j hsz hR;have m:i<its.length:=by omega
    have W:=Walks.tuple (prog:=prog) (w:=w) (A:=A.in1) hh I l a0 its.toArray;have a8:its.drop i=its[i]::its.drop (i+1):=List.drop_eq_getElem_cons m;rw[a8]at j
    obtain⟨p,r,z⟩:∃p r,ps.drop i=p::r:=by
      cases hq:ps.drop i with
      |nil=>rw[hq]at j;exact j.elim
      |cons p r=>exact⟨p,r,rfl⟩
    have Y:ps.drop (i+1)=r:=by rw[<- List.tail_drop,z];rfl
    rw[z]at j;obtain⟨⟨a,x,ea,U,a1⟩,y⟩:=j;refine codeAny_builtin xcu ?_;rw[Around.under_plainId xbn _];show wpAny _ A.in1 (pyNext (.ref I) >>= _) _ _ s;refine wpAny_bind (W.item i s _ _ (by simpa using m) ⟨g,hl⟩ λv h' tk hP u c=>?_)
    have hv:v=.ref a:=by
      have:its[i]?=some v:=by simpa using hP
      rw[zGA m,ea]at this;exact(Option.some.inj this).symm
    subst hv;have O:h'.IsTuple a #[x,p.2]:=U.at λo e=>c a o (by simpa using xfa U g) e;have a3:h'.DictOf knd d f:=hd.at λo e=>c d o (by simpa using (Ne.symm G)) e;obtain⟨oa,Z,ab,na,a9⟩:=id O;refine wpAny_bind (wpAny_holding (wpAny_bind (wpAny_tryCatch ?_)));unfold Builtin.Dict.pairItems;refine wpAny_bind (wpAny_typeOf ⟨oa,Z,ab⟩ ?_);rw[if_pos (by decide)];refine wpAny_bind (wpAny_seqItems Z a9 (wpAny_pure ?_));show wpAny _ _ (holding [x,p.2] (dictSet d x p.2)) _ _ _;refine wpAny_holding (wpAny_dictSet_pairs a1 a3 (λh2 aa h=>?_) (by omega));have M:h2.IsTupleIter I l (i+1)/\h2.IsTuple l its.toArray:=⟨u.1.at λo e=>(h.2 I G).trans e,u.2.at λo e=>(h.2 l a7).trans e⟩;refine wpAny_pure ⟨plainId_quiet xbn _,ih (i+1) _ _ (by omega) m M.1 M.2 aa ?_ ?_ λh3 a4 a2 a6=>?_⟩
    · rw[Y]
      exact y.keep λb xs J=>by
        have h1:h'.IsTuple b xs:=J.at λo e=>c b o (by simpa using xfa J g) e;exact h1.at λo e=>(h.2 b (xfy h1 a3)).trans e
    · have:=stored_length_le f p.1 p.2
      omega
    · refine hR h3 a4 ?_ λb o J n e=>a6 b o J n ((h.2 b J).trans (c b o (by simpa using n) e))
      rw[z];rw[Y]at a2;exact a2
end
theorem xjg:typeLookup (.type "tuple") "keys"=pure none:=am_miss_of_fast (by kernel_rfl)
section
variable {prog:Program}{w:World}{A:Around}{E:Value->Shared->Prop}{s:Shared}{K:Type}[DecidableEq K]{knd:KeyKind prog w K}
theorem xkk {l:Addr} {its:List Value} {n:Nat} {sl:Array (Option Value)} {ps:List (K×Value)} {Q:Value->Shared->Prop} (hh:A.handled=none) (hl:s.heap.get? l=some {cls:=.type "tuple",data:=.seq its.toArray n,dict:=none,slots:=sl}) (hp:PairsAt knd s.heap its ps) (hsz:its.length<=sizeLine)
  (h:∀h' tk,h'.DictOf knd s.heap.objs.size (merged [] ps)->(∀b o,s.heap.get? b=some o->h'.get? b=some o)->Q (.ref s.heap.objs.size) {s with heap:=h',toks:=tk}) :
  wpAny (model prog w) A (call (.type "dict") [.ref l]) Q E s:=by
 refine callType_codes (Q₁:=λobj s₁=>obj=.ref s.heap.objs.size/\s₁={s with heap:=s.heap.push {cls:=.type "dict",data:=.dict #[]}}) F.kt_called_dict (F.kt_typeCall_dict_1 _) F.entry_dict_init (kt_code_dict_new _ ⟨rfl,rfl⟩) ?_;rintro obj s₁ ⟨rfl,rfl⟩;have hnew:(s.heap.push {cls:=.type "dict",data:=.dict #[]}).DictOf knd s.heap.objs.size []:=Heap.DictOf.new s.heap;have ext0:∀b o,s.heap.get? b=some o->(s.heap.push {cls:=.type "dict",data:=.dict #[]}).get? b=some o:=λb o e=>zPO _ e;have hl0:=ext0 _ _ hl;have hT:(⟨s.heap.push {cls:=.type "dict",data:=.dict #[]},s.gens,s.drawn,s.toks,s.os⟩:Shared).TypeIs (.ref l) "tuple":=⟨_,hl0,rfl⟩;have hdl:l≠s.heap.objs.size:=λe=>absurd (Heap.lt_size hl) (by rw[e];exact Nat.lt_irrefl _);refine⟨hnew.typeIs,F.args_dict_init_2 _ _,?_⟩;unfold Builtin.«dict.__init__»;refine wpAny_bind ?_;unfold Builtin.Dict.selfAndRest;refine wpAny_bind (wpAny_notOrdered_dict hnew.typeIs ?_);show wpAny _ _ (pure (s.heap.objs.size,[Value.ref l])) _ _ _;refine wpAny_pure ?_;show wpAny _ _ (Builtin.Dict.updateFrom "dict.__init__" s.heap.objs.size (.ref l) [] .none) _ _ _;unfold Builtin.Dict.updateFrom;refine wpAny_bind (wpAny_typeOf hT ?_);rw[if_pos (by decide)];refine wpAny_bind (xe6 (sl:=sl) hl0 xjg (by walk_at"k") hh (λh1 tk1 k1=>?_) (by walk_at"k"));rw[if_pos (show(none:Option Value).isNone=true from rfl)];refine wpAny_bind (wpAny_rule ?_);have hl1:=k1 _ _ hl0;have hL1:h1.IsTuple l its.toArray:=⟨_,hl1,rfl,_,rfl⟩
 refine wpAny_bind (wpAny_pyIter_tuple hL1 (wpAny_pure ⟨plainId_quiet xbn _,?_⟩));have hsz1:s.heap.objs.size<h1.objs.size:=Heap.lt_size (k1 _ _ (Heap.get?_push_size _ rfl));have hlI:l<h1.objs.size:=Heap.lt_size hl1;have ext2:∀b o,h1.get? b=some o->(h1.push {cls:=.type "tuple_iterator",data:=.fields #[.ref l,.int 0 0]}).get? b=some o:=λb o e=>zPO _ e;refine xmn (knd:=knd) (A:=A.in1) (ps:=ps) (l:=l) (d:=s.heap.objs.size) (its:=its) hh (Nat.ne_of_lt hlI) hdl (Nat.ne_of_gt hsz1) its.length 0 _ [] (Nat.sub_zero _) (Nat.zero_le _) ⟨_,Heap.get?_push_size _ rfl,rfl,rfl⟩ (hL1.push _) (hnew.at λo e=>ext2 _ _ (k1 _ _ e)) (hp.keep λa xs ha=>ha.at λo e=>ext2 _ _ (k1 _ _ (ext0 _ _ e))) (by simpa using hsz) λh3 tk3 hd3 hk3=>?_;refine⟨rfl,h h3 tk3 hd3 λb o e=>hk3 b o ?_ ?_ (ext2 _ _ (k1 _ _ (ext0 _ _ e)))⟩
 ·exact λz=>absurd (Heap.lt_size e) (by rw[z];exact Nat.lt_irrefl _)
 ·exact λz=>absurd (Heap.lt_size e) (by rw[z];exact Nat.not_lt_of_gt hsz1)
end
section
variable {X:Cx}
theorem xe8(hc:X.calm=true):xd1 X (.type "dict") (λxs H Q=>∃a ys,∃kvs:List (Key×V),xs=[.ref a]/\H a=some (.tup ys)/\PairsV H ys kvs/\∀p,H p=none->Q (.ref p) (upd H p (.dK (xa5 [] kvs)))):=by
 intro pins s σ H xs us Q I r h;obtain⟨a,ys,kvs,rfl,ha,hp,q⟩:=h;obtain⟨u,rfl,ru⟩:=xfi r;obtain rfl:u=.ref a:=ru;obtain⟨hz,its,rv,⟨oc,od,dt,sl⟩,ho,h1,n,h2,h3⟩:=(show ObjOk X.prog X.w H s.heap a (.tup ys) from I.hok a _ ha);simp only at h1 h2 h3;subst h1 h2 h3;obtain⟨ps,hk,hpa⟩:=xhe I rv hp;have hyl:=hp.length;refine xkk (knd:=xbv X.prog X.w) (I.ok.hd hc) ho hpa (by rw[<- rv.length];exact hz) λh' tk dd' k'=>?_
 have hz':(xa5 [] kvs).length<=sizeLine:=by
  have:=xb9 kvs [];rw[List.length_nil]at this;omega
 exact⟨.ref s.heap.objs.size,_,I.laid (a:=s.heap.objs.size) (o:=.dK (xa5 [] kvs)) (t':=tk) k' (Nat.le_refl _) (xi3 hz' (beq_eq_false_iff_ne.mpr (Ne.symm (Nat.ne_of_lt I.big))) (hk.merge .nil) dd'),rfl,q _ (I.hok.fresh (Nat.le_refl _))⟩
end
end L2
end
section
namespace M
open PySem L2
abbrev Wy:=Str×Str×D
def wyD(y:Wy):D:=.tup [.str y.2.1,y.2.2]
def WAll(H:Hp):List (Key×V)->List Wy->Prop
 |[],[]=>True
 |kv::kvs,y::ys=>(kv.1=Sum.inr y.1/\RelD H kv.2 (wyD y))/\WAll H kvs ys
 |_,_=>False
theorem WAll.len{H:Hp}:∀{kvs:List (Key×V)} {ys:List Wy},WAll H kvs ys->kvs.length=ys.length
 |[],[],_=>rfl
 |kv::kvs,y::ys,h=>by rw[List.length_cons,List.length_cons,WAll.len h.2]
theorem WAll.tups{H a:Hp}(s:∀b us,H b=some (.tup us)->a b=some (.tup us)):∀{kvs:List (Key×V)} {ys:List Wy},WAll H kvs ys->WAll a kvs ys
 |[],[],_=>trivial
 |kv::kvs,y::ys,h=>⟨⟨h.1.1,h.1.2.tups s _⟩,WAll.tups s h.2⟩
theorem WAll.snoc{H:Hp}{kv:Key×V}{y:Wy}(h:kv.1=Sum.inr y.1/\RelD H kv.2 (wyD y)):∀{kvs:List (Key×V)} {ys:List Wy},WAll H kvs ys->WAll H (kvs++[kv]) (ys++[y])
 |[],[],_=>⟨h,trivial⟩
 |a::kvs,b::ys,g=>⟨g.1,WAll.snoc h g.2⟩
theorem WAll.get{H:Hp}:∀{kvs:List (Key×V)} {ys:List Wy},WAll H kvs ys->∀{i:Nat} {kv:Key×V},kvs[i]?=some kv->∃y,ys[i]?=some y/\kv.1=Sum.inr y.1/\RelD H kv.2 (wyD y)
 |a::kvs,y::ys,g,0,kv,e=>by
  simp at e;subst e;exact⟨y,rfl,g.1⟩
 |a::kvs,y::ys,g,i+1,kv,e=>WAll.get g.2 (by simpa using e)
def wyAt(ys:List Wy)(x:Str):Option Wy:=ys.find? λy=>decide (y.1=x)
def xc2(ys:List Wy)(x:Str):Option Str:=if x=S "num" then some (S "num") else (wyAt ys x).map λy=>y.2.1
def optV:Option Str->V
 |some x=>.str x
 |none=>.non
def WaysAt(H:Hp)(a:Addr)(ys:List Wy):Prop:=∃kvs:List (Key×V),Rd H a (.dK kvs)/\WAll H kvs ys
theorem WAll.val{H:Hp}{x:Str}:∀{kvs:List (Key×V)} {ys:List Wy},WAll H kvs ys->(wyAt ys x=none->valV kvs (Sum.inr x:Key)=none)/\∀y,wyAt ys x=some y->∃v,valV kvs (Sum.inr x:Key)=some v/\RelD H v (wyD y)
 |[],[],_=>⟨λ_=>rfl,λy e=>(by cases e)⟩
 | kv::kvs,y::ys,h=>by
  have b:=WAll.val (x:=x) h.2;unfold wyAt valV at *
  rw[List.find?_cons,List.find?_cons];by_cases c:y.1=x
  ·have a:kv.1=Sum.inr x:=by rw[h.1.1,c]
   rw[zDT c,zDT a];exact⟨λe=>(by cases e),λz e=>by cases e;exact⟨kv.2,rfl,h.1.2⟩⟩
  ·have a:¬kv.1=Sum.inr x:=λz=>c (Sum.inr.inj (h.1.1.symm.trans z))
   rw[zDF c,zDF a];exact b
theorem Rd.same{H b:Hp}{a:Addr}{u:HO}(h:Rd H a u)(s:Same H b):Rd b a u:=by
 rcases h with h |⟨o,h⟩
 ·exact .inl (s _ _ h)
 ·exact .inr ⟨o,s _ _ h⟩
theorem WaysAt.same{H c:Hp}{a:Addr}{ys:List Wy}(h:WaysAt H a ys)(s:Same H c):WaysAt c a ys:=by
 obtain⟨kvs,g,f⟩:=h;exact⟨kvs,Rd.same g s,f.tups λb us e=>s _ _ e⟩
theorem DGet.rd{H:Hp}{a:Addr}{kvs:List (Key×V)}{k:Key}(e:Rd H a (.dK kvs)):DGet H a (kV k) (valV kvs k):=.inl ⟨kvs,k,e,rfl,rfl⟩
def howD(k:Kn):D:=if k.rc=true then tRec k.name (k.parts.map λp=>tBox p.1) else .tup (k.parts.map λp=>.tup [.str p.1,tTag k.name p.1 (tBox (S "it"))])
def wyK(k:Kn):Wy:=(k.name,k.name,howD k)
theorem xhs{a:List Kn}{x:Str}:wyAt (a.map wyK) x=(kAt a x).map wyK:=by
 unfold wyAt kAt
 induction a with
 |nil=>rfl
 | cons k a b=>
  rw[List.map_cons,List.find?_cons,List.find?_cons];by_cases c:k.name=x
  ·rw[show decide ((wyK k).1=x)=true from zDT c,zDT c]
   rfl
  ·rw[show decide ((wyK k).1=x)=false from zDF c,zDF c]
   exact b
theorem xet{a:List Kn}{x:Str}(h:x=S "num"\/∃k∈a,k.name=x):xc2 (a.map wyK) x=some x:=by
 unfold xc2;by_cases c:x=S "num"
 ·rw[if_pos c,c]
 ·rw [if_neg c,xhs]
  rcases h with h |⟨k,b,e⟩
  ·exact absurd h c
  ·cases q:kAt a x with
   |none=>
    have:=List.find?_eq_none.mp q k b;simp[e]at this
   | some k'=>
    have:k'.name=x:=by
     have:=List.find?_some q;exact of_decide_eq_true this
    show some (wyK k').2.1=some x;rw[<- this];rfl
end M
end
section
namespace L2
open PySem PySem.Spec PySem.W PyProof.Rows M
def EqW(P:Program)(w:World)(A:Around)(s:Shared)(y x:Value):Prop:=∀(E:Value->Shared->Prop) (Q:Bool->Shared->Prop),Q true s->wpAny (model P w) A (eqBool y x) Q E s
theorem xqt {P:Program} {w:World} {l b:Addr} {us zs:Array Value} {n m:Nat} {J I:Option Addr} {o j:Array (Option Value)} (hz:us.size=zs.size) :
  MeetsIn P w (Builtin.«tuple.__ne__» ⟨[.ref l,.ref b],[]⟩) (λA R s=>s.heap.get? l=some {cls:=.type "tuple",dict:=J,data:=.seq us n,slots:=o}/\s.heap.get? b=some {cls:=.type "tuple",dict:=I,data:=.seq zs m,slots:=j} ∧
   (∀p∈us.toList.zip zs.toList,EqW P w A.in1 s p.1 p.2)/\R (.ok (.ret (.bool false))) s):=
 .of_wp λA R s h=>by
  obtain⟨h0,G,M,i,r⟩:=s;obtain⟨u,C,z,h⟩:=h;have O:=AutoSeq1.sub_tuple_tuple
  wp_walk using AutoSeq1.wpAny_loadPart' u,AutoSeq1.wpAny_loadPart' C,wpAny_forIn_list _ (λrest c a=>c.1=none/\a=⟨h0,G,M,i,r⟩/\∀p∈rest,p∈us.toList.zip zs.toList) _
  case turn=>
   rintro⟨y,x⟩ rest c a ⟨f,rfl,g⟩;refine wpAny_bind (z (y,x) (g _ (by simp)) _ _ ?_)
   wp_walk
   exact⟨rfl,rfl,λp e=>g p (by simp[e])⟩
  case fin=>
   rintro⟨Y,U⟩ a ⟨f,rfl,_⟩;simp only at f;subst f
   wp_walk
   exact⟨_,rfl,by simpa[Builtin.Tuple.tupleCompareSizes,bne,hz] using h⟩
  case h=>exact⟨rfl,rfl,λp e=>e⟩
section
variable {X:Cx}
theorem xlg{P:Program}{w:World}{A:Around}{s:Shared}{y x:Value}(h:SeqAt.EqAt A s y x true):EqW P w A s y x:=λE Q q=>h P w E Q q
end
end L2
end
section
namespace L2
open PySem PySem.Spec PySem.W PyProof.Rows M
open PySem.AutoSeq1 (wpAny_loadPart')
open PySem.MeetsSeq PySem.MeetsSeq2 PySem.MeetsSeq3 PySem.SeqRoads2 PySem.SeqAt
theorem xiu {P:Program} {w:World} (l b:Addr) (us zs:Array Value) (n m:Nat) (Y U:Option Addr) (G C:Array (Option Value)) (hz:us.size=zs.size) (c:Bool) (k:Nat) :
  ∀ i:Nat,us.size-i=k->MeetsIn P w (Builtin.«list.__eq__.loop» ⟨[.ref l,.ref b,rawInt i,rawInt (if c=true then 2 else 3)],[]⟩)
   (λA R s=>s.heap.get? l=some {cls:=.type "list",dict:=Y,data:=.seq us n,slots:=G}/\s.heap.get? b=some {cls:=.type "list",dict:=U,data:=.seq zs m,slots:=C} ∧
    (∀j (h1:j<us.size) (Z:j<zs.size),EqW P w A.in1 s us[j] zs[j])/\R (.ok (.ret (.bool c))) s):=by
 induction k with
 | zero=>
  intro i O A R s h;obtain⟨M,g,d,z,I⟩:=s;obtain⟨p,r,x,h⟩:=h;have f:us[((i:Nat):Int).toNat]?=none:=by simp;omega
  have e:zs[((i:Nat):Int).toNat]?=none:=by simp;omega
  cases c with
  |true=>
   simp only[if_true]
   wp_walk using wpAny_loadPart' p,wpAny_loadPart' r
   rw[f,e]
   wp_walk using wpAny_loadPart' p,wpAny_loadPart' r
   show R (.ok (.ret (.bool (us.size == zs.size)))) _;rw[hz];simpa using h
  |false=>
   simp only[Bool.false_eq_true,if_false]
   wp_walk using wpAny_loadPart' p,wpAny_loadPart' r
   rw[f,e]
   wp_walk using wpAny_loadPart' p,wpAny_loadPart' r
   show R (.ok (.ret (.bool (us.size != zs.size)))) _;rw[hz];simpa using h
 | succ k J=>
  intro i O A R s h;obtain⟨M,g,d,z,I⟩:=s;obtain⟨p,r,x,h⟩:=h;have u:i<us.size:=by omega
  have a:i<zs.size:=by omega
  have f:us[((i:Nat):Int).toNat]?=some us[i]:=by simp[u]
  have e:zs[((i:Nat):Int).toNat]?=some zs[i]:=by simp[a]
  have y:((i:Int)+1)=((i+1:Nat):Int):=by push_cast;rfl
  have o:=J (i+1) (by omega)
  cases c with
  | true=>
   simp only[if_true]at o⊢
   wp_walk using wpAny_loadPart' p,wpAny_loadPart' r
   rw[f,e];refine wpAny_bind (x i u a _ _ ?_)
   wp_walk
   rw[y]
   exact⟨plainId_quiet plain_eq_loop _,codeAny_builtin entry_eq_loop (by
    rw[Around.under_plainId plain_eq_loop _];exact o A R _ ⟨p,r,x,h⟩)⟩
  | false=>
   simp only[Bool.false_eq_true,if_false]at o⊢
   wp_walk using wpAny_loadPart' p,wpAny_loadPart' r
   rw[f,e];refine wpAny_bind (x i u a _ _ ?_)
   wp_walk
   rw[y]
   exact⟨plainId_quiet plain_eq_loop _,codeAny_builtin entry_eq_loop (by
    rw[Around.under_plainId plain_eq_loop _];exact o A R _ ⟨p,r,x,h⟩)⟩
theorem xrt {P:Program} {w:World} {l b:Addr} {us zs:Array Value} {n m:Nat} {o i:Option Addr} {c a:Array (Option Value)} (hz:us.size=zs.size) :
  MeetsIn P w (Builtin.«list.__eq__» ⟨[.ref l,.ref b],[]⟩)
   (λA R s=>s.heap.get? l=some {cls:=.type "list",dict:=o,data:=.seq us n,slots:=c}/\s.heap.get? b=some {cls:=.type "list",dict:=i,data:=.seq zs m,slots:=a} ∧
    (∀j (C:j<us.size) (z:j<zs.size),EqW P w A.in1 s us[j] zs[j])/\R (.ok (.ret (.bool true))) s):=by
 intro A R s h;obtain⟨y,g,d,u,x⟩:=s;obtain⟨e,f,r,h⟩:=h;have G:=AutoSeq1.sub_list_list;have p:¬(us.size != zs.size)=true:=by simp[hz]
 wp_walk using wpAny_loadPart' e,wpAny_loadPart' f
 exact⟨plainId_quiet plain_eq_loop _,codeAny_builtin entry_eq_loop (by
  rw[Around.under_plainId plain_eq_loop _];exact xiu l b us zs n m o i c a hz true _ 0 rfl A R _ ⟨e,f,r,h⟩)⟩
theorem xrs {P:Program} {w:World} {l b:Addr} {us zs:Array Value} {n m:Nat} {o i:Option Addr} {c a:Array (Option Value)} (hz:us.size=zs.size) :
  MeetsIn P w (Builtin.«list.__ne__» ⟨[.ref l,.ref b],[]⟩)
   (λA R s=>s.heap.get? l=some {cls:=.type "list",dict:=o,data:=.seq us n,slots:=c}/\s.heap.get? b=some {cls:=.type "list",dict:=i,data:=.seq zs m,slots:=a} ∧
    (∀j (C:j<us.size) (z:j<zs.size),EqW P w A.in1 s us[j] zs[j])/\R (.ok (.ret (.bool false))) s):=by
 intro A R s h;obtain⟨y,g,d,u,x⟩:=s;obtain⟨e,f,r,h⟩:=h;have G:=AutoSeq1.sub_list_list;have p:¬(us.size != zs.size)=true:=by simp[hz]
 wp_walk using wpAny_loadPart' e,wpAny_loadPart' f
 exact⟨plainId_quiet plain_eq_loop _,codeAny_builtin entry_eq_loop (by
  rw[Around.under_plainId plain_eq_loop _];exact xiu l b us zs n m o i c a hz false _ 0 rfl A R _ ⟨e,f,r,h⟩)⟩
theorem xqu {P:Program} {w:World} {l b:Addr} {us zs:Array Value} {n m:Nat} {J I:Option Addr} {o j:Array (Option Value)} (hz:us.size=zs.size) :
  MeetsIn P w (Builtin.«tuple.__eq__» ⟨[.ref l,.ref b],[]⟩) (λA R s=>s.heap.get? l=some {cls:=.type "tuple",dict:=J,data:=.seq us n,slots:=o}/\s.heap.get? b=some {cls:=.type "tuple",dict:=I,data:=.seq zs m,slots:=j} ∧
   (∀p∈us.toList.zip zs.toList,EqW P w A.in1 s p.1 p.2)/\R (.ok (.ret (.bool true))) s):=
 .of_wp λA R s h=>by
  obtain⟨h0,G,M,i,r⟩:=s;obtain⟨u,C,z,h⟩:=h;have O:=AutoSeq1.sub_tuple_tuple
  wp_walk using AutoSeq1.wpAny_loadPart' u,AutoSeq1.wpAny_loadPart' C,wpAny_forIn_list _ (λrest c a=>c.1=none/\a=⟨h0,G,M,i,r⟩/\∀p∈rest,p∈us.toList.zip zs.toList) _
  case turn=>
   rintro⟨y,x⟩ rest c a ⟨f,rfl,g⟩;refine wpAny_bind (z (y,x) (g _ (by simp)) _ _ ?_)
   wp_walk
   exact⟨rfl,rfl,λp e=>g p (by simp[e])⟩
  case fin=>
   rintro⟨Y,U⟩ a ⟨f,rfl,_⟩;simp only at f;subst f
   wp_walk
   exact⟨_,rfl,by simpa[Builtin.Tuple.tupleCompareSizes,hz] using h⟩
  case h=>exact⟨rfl,rfl,λp e=>e⟩
end L2
end
section
namespace L2
open PySem PySem.Spec PySem.W PyProof.Rows M
open PySem.SeqAt
abbrev opC(c:Bool):CmpOp:=if c=true then .Eq else .NotEq
def RcW(P:Program)(w:World)(A:Around)(s:Shared)(c:Bool)(y x:Value):Prop:=∀(E:Value->Shared->Prop) (Q:Value->Shared->Prop),Q (.bool c) s->wpAny (model P w) A (compareOp (opC c) y x) Q E s
theorem xop{P:Program}{w:World}{A:Around}{s:Shared}{a b:Addr}(h:RcW P w A s true (.ref a) (.ref b)):EqW P w A s (.ref a) (.ref b):=by
 by_cases e:a=b
 ·subst e
  exact xlg (EqAt.same _)
 intro E Q q;unfold eqBool;refine wpAny_holding ?_;refine wpAny_ite_split (λc=>absurd (by have:=eq_of_beq c;injection this) e) (λ_=>?_);exact wpAny_bind (h E _ (wpAny_truthy_bool q))
def EqA(H:Hp)(x y:V):Prop:=(∃d:D,RelD H x d/\RelD H y d/\d.deep<=100)\/∃a b us zs ds,x=.ref a/\y=.ref b/\H a=some (.lst us)/\H b=some (.lst zs)/\RelDs H us ds/\RelDs H zs ds/\xej ds<=100
def EqS(H:Hp):Nat->V->V->Prop
 |0,x,y=>EqA H x y
 |n+1,x,y=>EqS H n x y\/(∃a b us zs,x=.ref a/\y=.ref b/\((H a=some (.tup us)/\H b=some (.tup zs))\/(H a=some (.lst us)/\H b=some (.lst zs)))/\us.length=zs.length/\∀(i:Nat) u z,us[i]?=some u->zs[i]?=some z->EqS H n u z) ∨
  ∃a b,∃k1 k2:List (Key×V),x=.ref a/\y=.ref b/\H a=some (.dK k1)/\H b=some (.dK k2)/\k1.length=k2.length/\∀p∈k1,∃v,valV k2 p.1=some v/\EqA H p.2 v
theorem EqS.mono{H:Hp}{n:Nat}{x y:V}(h:EqS H n x y):∀m,EqS H (n+m) x y
 |0=>h
 |m+1=>.inl (EqS.mono h m)
theorem EqS.dat{H:Hp}{n:Nat}{x y:V}(h:EqA H x y):EqS H n x y:=by
 have:=EqS.mono (n:=0) h n
 rwa[Nat.zero_add]at this
section
variable {X:Cx}{pins:List (Addr×Obj)}{σ:St}{H:Hp}{s:Shared}{A:Around}
theorem xru (I:Inv X O σ H s) {a b:Addr} {us zs:List V} (ha:H a=some (.lst us)) (hb:H b=some (.lst zs)) (hl:us.length=zs.length) (U:A.units<cLine)
  (he:∀(i:Nat) u z (G C:Value),us[i]?=some u->zs[i]?=some z->RelV u G->RelV z C->EqW X.prog X.w A.in1 s G C) (c:Bool):RcW X.prog X.w A s c (.ref a) (.ref b):=by
 intro E Q q;obtain⟨p,M,o1,_⟩:=I.list (SqL.of (K:=X.K) ha);obtain⟨o,J,o2,_⟩:=I.list (SqL.of (K:=X.K) hb);have e1:=M.length;have e2:=J.length;have hi:=o1.isList;have r:=o2.isList;obtain⟨⟨cls,dd,data,sl⟩,f,Y,n,hd⟩:=id hi;obtain⟨⟨a0,a2,y,a1⟩,e,m,n2,l⟩:=id r;simp only at Y hd m l;subst Y hd m l;have g:Value.bool c≠Value.notImplemented:=λx=>nomatch x;have hz:p.toArray.size=o.toArray.size:=by simp only[List.size_toArray];omega
 have h:∀j (h1:j<p.toArray.size) (Z:j<o.toArray.size),EqW X.prog X.w A.in1 s p.toArray[j] o.toArray[j]:=λj h1 Z=>by
  obtain⟨x1,f1,g1⟩:=xee M h1;obtain⟨x2,f2,g2⟩:=xee J Z;exact he j x1 x2 _ _ f1 f2 g1 g2
 cases c with
 |true=>exact wpAny_richCompare_same_room (op:=.Eq) ⟨_,f,rfl⟩ ⟨_,e,rfl⟩ PySem.F.slot_list_eq (call_meetsIn PySem.F.slot_list_eq ⟨_,f,rfl⟩ PySem.F.entry_list_eq (PySem.F.args_list_eq_2 _ _) (xrt hz) ⟨f,e,h,g,q⟩) U
 |false=>exact wpAny_richCompare_same_room (op:=.NotEq) ⟨_,f,rfl⟩ ⟨_,e,rfl⟩ PySem.F.slot_list_ne (call_meetsIn PySem.F.slot_list_ne ⟨_,f,rfl⟩ PySem.F.entry_list_ne (PySem.F.args_list_ne_2 _ _) (xrs hz) ⟨f,e,h,g,q⟩) U
theorem xqv (I:Inv X Y σ H s) {a b:Addr} {us zs:List V} (ha:H a=some (.tup us)) (hb:H b=some (.tup zs)) (hl:us.length=zs.length) (Z:A.units<cLine)
  (he:∀(i:Nat) u z (M J:Value),us[i]?=some u->zs[i]?=some z->RelV u M->RelV z J->EqW X.prog X.w A.in1 s M J) (c:Bool):RcW X.prog X.w A s c (.ref a) (.ref b):=by
 intro E Q q;obtain⟨y,U,p1,_⟩:=I.tuple (SqT.of (K:=X.K) ha);obtain⟨r,O,p2,_⟩:=I.tuple (SqT.of (K:=X.K) hb);have e1:=U.length;have e2:=O.length;obtain⟨⟨cls,dd,data,sl⟩,g,hc,n,hd⟩:=id p1;obtain⟨⟨a0,a2,G,a1⟩,f,o,n2,m⟩:=id p2;simp only at hc hd o m;subst hc hd o m;have h:Value.bool c≠Value.notImplemented:=λx=>nomatch x;have hz:y.toArray.size=r.toArray.size:=by simp only[List.size_toArray];omega
 have l:∀p∈y.toArray.toList.zip r.toArray.toList,EqW X.prog X.w A.in1 s p.1 p.2:=λp hp=>by
  obtain⟨j,C,e⟩:=zMI hp;rw[List.length_zip]at C;have h1:j<y.toArray.size:=by simp at C⊢;omega
  have h2:j<r.toArray.size:=by simp at C⊢;omega
  obtain⟨x1,f1,g1⟩:=xee U h1;obtain⟨x2,f2,g2⟩:=xee O h2;rw[<- e,List.getElem_zip];exact he j x1 x2 _ _ f1 f2 (by simpa using g1) (by simpa using g2)
 cases c with
 |true=>exact wpAny_richCompare_same_room (op:=.Eq) ⟨_,g,rfl⟩ ⟨_,f,rfl⟩ PySem.F.slot_tuple_eq (call_meetsIn PySem.F.slot_tuple_eq ⟨_,g,rfl⟩ PySem.F.entry_tuple_eq (PySem.F.args_tuple_eq_2 _ _) (xqu hz) ⟨g,f,l,h,q⟩) Z
 |false=>exact wpAny_richCompare_same_room (op:=.NotEq) ⟨_,g,rfl⟩ ⟨_,f,rfl⟩ PySem.F.slot_tuple_ne (call_meetsIn PySem.F.slot_tuple_ne ⟨_,g,rfl⟩ PySem.F.entry_tuple_ne (PySem.F.args_tuple_ne_2 _ _) (xqt hz) ⟨g,f,l,h,q⟩) Z
theorem xqp(I:Inv X r σ H s){x y:V}{u v:Value}(h:EqA H x y)(l:RelV x u)(i:RelV y v)(hu:A.units+110<cLine):EqAt A s u v true:=by
 rcases h with⟨d,g,f,hd⟩ |⟨a,b,us,zs,ds,rfl,rfl,Y,U,n,m,hd⟩
 ·exact xmk I 100 d hd g f l i (by omega)
 ·obtain rfl:u=.ref a:=l
  obtain rfl:v=.ref b:=i;by_cases c:a=b
  ·subst c
   exact EqAt.same _
  obtain⟨O,p,G,_⟩:=I.list (SqL.of (K:=X.K) Y);obtain⟨i2,o,C,_⟩:=I.list (SqL.of (K:=X.K) U);have e1:=p.length;have e2:=o.length;have e3:=n.length;have e4:=m.length;have:=EqAt.of_refs c (RcAt.lists (A:=A) (e:=λ_=>true) G.isList C.isList (by simp only[List.size_toArray];omega) (by omega) λj g f=>?_)
  ·have e:(List.range O.toArray.size).all (λ_=>true)=true:=by simp
   rw[e]at this;exact this
  ·obtain⟨x1,f1,g1⟩:=xee p g
   obtain⟨x2,f2,Z⟩:=xee o f;obtain⟨d1,z,M⟩:=n.get f1;obtain⟨d2,w,J⟩:=m.get f2;rw[z]at w;cases w;exact xmk I 100 d1 (Nat.le_trans (xdf (zMG z)) hd) M J g1 Z (by show A.units+1+100<cLine;omega)
theorem xlk(I:Inv X i σ H s)(l:A.units+110<cLine){j:List (Key×V)}{a:List (Key×Value)}(h:KV j a):∀(ks:List (Key×V)) (us:List (Key×Value)),KV ks us->(∀p∈ks,∃v,valV j p.1=some v/\EqA H p.2 v)->KeqHits A s a us true
 |[],us,r,_=>by cases r;exact .nil
 | k::ks,us,r,hd=>by
  cases r with
  | @cons _ m _ f w n=>
   obtain⟨v,z,x⟩:=hd k (by simp);have c:=h.val k.1;rw[z]at c
   cases g:valueAt a k.1 with
   |none=>rw[g]at c;exact c.elim
   |some y=>
    rw[g]at c;obtain⟨G,C⟩:=m;obtain⟨rfl,u⟩:=w;have:=KeqHits.hit (e:=true) (b:=true) g (xqp I x u c l) (xlk I l h ks f n λp o=>hd p (List.mem_cons_of_mem _ o));exact this
theorem xts (I:Inv X o σ H s) {a b:Addr} {m n:List (Key×V)} (C:H a=some (.dK m)) (y:H b=some (.dK n)) (M:m.length=n.length) (J:A.units+111<cLine)
  (x:∀p∈m,∃v,valV n p.1=some v/\EqA H p.2 v) (c:Bool):RcW X.prog X.w A s c (.ref a) (.ref b):=by
 intro E Q q;obtain⟨z,j,vs,h,u⟩:=xki I.hok C;obtain⟨G,i,g,e,l⟩:=xki I.hok y;have U:=h.length;have O:=e.length;have f:=xlk (A:=A.in1) I (by show A.units+1+110<cLine;omega) e m vs h x;have r:(vs.length == g.length && true)=true:=by rw[show vs.length=g.length by omega];simp
 cases c with
 |true=>exact keq_eq j i u l (by omega) (λ_=>f) (by rw[r];exact q)
 |false=>exact keq_ne j i u l (by omega) (λ_=>f) (by rw[r];exact q)
theorem xr0(I:Inv X r σ H s):∀(n:Nat) {x y:V} {u v:Value} {A:Around},EqS H n x y->RelV x u->RelV y v->A.units+120+n<cLine->EqW X.prog X.w A s u v
 |0,x,y,u,v,A,h,e,c,C=>xlg (xqp I h e c (by omega))
 | n+1,x,y,u,v,A,h,e,c,C=>by
  rcases h with h |⟨a,b,us,zs,rfl,rfl,h,l,p⟩ |⟨a,b,Y,U,rfl,rfl,j,g,l,p⟩
  ·exact xr0 I n h e c (by omega)
  ·obtain rfl:u=.ref a:=e
   obtain rfl:v=.ref b:=c;have f:∀(i:Nat) u z (o m:Value),us[i]?=some u->zs[i]?=some z->RelV u o->RelV z m->EqW X.prog X.w A.in1 s o m:=λi u z o m O M J G=>xr0 I n (p i u z O M) J G (by show A.units+1+120+n<cLine;omega);rcases h with⟨j,g⟩ |⟨j,g⟩
   ·exact xop (xqv I j g l (by omega) f true)
   ·exact xop (xru I j g l (by omega) f true)
  ·obtain rfl:u=.ref a:=e
   obtain rfl:v=.ref b:=c;exact xop (xts I j g l (by omega) p true)
def rEqZ(c:Bool):R2:=λx y H Q=>EqS H 12 x y/\(∃a b,x=.ref a/\y=.ref b)/\Q (.bl c) H
theorem rcS(I:Inv X a0 σ H s)(c:Bool):∀(n:Nat) {a b:Addr} {A:Around},EqS H n (.ref a) (.ref b)->A.units+120+n<cLine->RcW X.prog X.w A s c (.ref a) (.ref b)
 | 0,a,b,A,h,hA=>by
  rcases h with⟨d,x,Z,hd⟩ |⟨a',b',us,zs,ds,j,g,f,e,p,o,hd⟩
  ·cases d with
   |int i=>exact nomatch x
   |str z=>exact nomatch x
   |tup ds=>
    obtain⟨a',us,j,f,p⟩:=x;obtain⟨b',zs,g,e,o⟩:=Z;cases j;cases g;refine xqv I f e (by rw[p.length,o.length]) (by omega) (λi u z m l J G U O=>?_) c;obtain⟨d1,C,g1⟩:=p.get J;obtain⟨d2,y,g2⟩:=o.get G;rw[C]at y;cases y;have h':xej ds+1<=100:=hd;exact xlg (xmk I 100 d1 (Nat.le_trans (xdf (zMG C)) (by omega)) g1 g2 U O (by show A.units+1+100<cLine;omega))
  ·cases j
   cases g;refine xru I f e (by rw[p.length,o.length]) (by omega) (λi u z m l J G U O=>?_) c;obtain⟨d1,C,g1⟩:=p.get J;obtain⟨d2,y,g2⟩:=o.get G;rw[C]at y;cases y;exact xlg (xmk I 100 d1 (Nat.le_trans (xdf (zMG C)) hd) g1 g2 U O (by show A.units+1+100<cLine;omega))
 | n+1,a,b,A,h,hA=>by
  rcases h with h |⟨a',b',us,zs,j,g,h,M,Y⟩ |⟨a',b',J,G,j,g,f,e,M,Y⟩
  ·exact rcS I c n h (by omega)
  ·cases j
   cases g;have r:∀(i:Nat) u z (m l:Value),us[i]?=some u->zs[i]?=some z->RelV u m->RelV z l->EqW X.prog X.w A.in1 s m l:=λi u z m l x Z h3 h4=>xr0 I n (Y i u z x Z) h3 h4 (by show A.units+1+120+n<cLine;omega);rcases h with⟨f,e⟩ |⟨f,e⟩
   ·exact xqv I f e M (by omega) r c
   ·exact xru I f e M (by omega) r c
  ·cases j
   cases g;exact xts I f e M (by omega) Y c
theorem xs8(j:X.A.units+200<cLine)(c:Bool):OpR X (compareOp (opC c)) (rEqZ c):=by
 intro e s σ H x y v u Q I g f h;obtain⟨i,⟨a,b,rfl,rfl⟩,q⟩:=h;obtain rfl:v=.ref a:=g;obtain rfl:u=.ref b:=f;exact rcS I c 12 i (by omega) _ _ ⟨.bl c,H,I,rfl,q⟩
theorem xhf(a:X.A.units+200<cLine):OpR X (compareOp .NotEq) (rEqZ false):=xs8 a false
end
end L2
end
section
namespace M
open PySem L2
inductive Row where
 |set (x:Str) (t:D)
 |send (c:Str) (t:D)
 |take (l c x:Str)
 |tell (t:D)
 |go (g:Nat)
 |cond (t:D) (g:Nat)
 |fin
def Row.hd:Row->Str
 |.set _ _=>S "set"
 |.send _ _=>S "send"
 |.take _ _ _=>S "take"
 |.tell _=>S "tell"
 |.go _=>S "go"
 |.cond _ _=>S "if"
 |.fin=>S "end"
def Row.as:Row->List D
 |.set x t=>[.str x,t]
 |.send c t=>[.str c,t]
 |.take l c x=>[.str l,.str c,.str x]
 |.tell t=>[t]
 |.go g=>[.int g]
 |.cond t g=>[t,.int g]
 |.fin=>[]
def Row.d(r:Row):D:=.tup (.str r.hd::r.as)
abbrev Chn:=Str×Str×Str×Str
def dChn(c:Chn):D:=.tup [.str c.1,.str c.2.1,.str c.2.2.1,.str c.2.2.2]
structure Hand where
 name:Str
 boxes:List (Str×Str)
 rows:List Row
def Hand.d(h:Hand):D:=.tup [.str h.name,xdr h.boxes,.tup (h.rows.map Row.d)]
structure Mak where
 kinds:List Kn
 chans:List Chn
 hands:List Hand
def Mak.d(m:Mak):D:=.tup [xdg m.kinds,.tup (m.chans.map dChn),.tup (m.hands.map Hand.d)]
def xdq(m:Mak)(x:Str):Option Hand:=m.hands.find? λh=>decide (h.name=x)
theorem Same.tups{H a:Hp}(s:Same H a):∀b vs,H b=some (.tup vs)->a b=some (.tup vs):=λb vs e=>s b _ e
theorem hdT{x y:Str}(h:x=y):decide (V.str x=V.str y)=true:=zDT (congrArg V.str h)
theorem hdF{x y:Str}(h:x≠y):decide (V.str x=V.str y)=false:=zDF λz=>h (V.str.inj z)
theorem xoj{r:Row}(h:∀l c x,r≠.take l c x):r.hd≠S "take":=by cases r <;> first |exact absurd rfl (h _ _ _) |(show S _≠S _;decide +kernel)
end M
end
section
namespace L2
open PySem PySem.Spec PyProof.Rows
section
variable {X:Cx}
theorem xkn:xd1 X (.type "dict") (λxs H Q=>∃a,xs=[V.ref a]/\H a=some (.dK [])/\∀p,H p=none->Q (.ref p) (upd H p (.dT []))):=by
 intro pins s σ H xs us Q I r h;obtain⟨a,rfl,ha,q⟩:=h;obtain⟨u,rfl,ru⟩:=xfi r;cases ru;obtain⟨z,hd,vs,rel,dd⟩:=xki I.hok ha
 have ev:vs=[]:=by
  have:=rel.length;exact List.length_eq_zero_iff.mp this.symm
 subst ev;refine kt_call_dict hd dd (by decide) λh' dd' hs=>?_;refine⟨.ref s.heap.objs.size,_,I.laid (a:=s.heap.objs.size) (o:=.dT []) (t':=s.toks) (λb q hq=>?_) (Nat.le_refl _) ⟨Nat.zero_le _,beq_eq_false_iff_ne.mpr (Ne.symm (Nat.ne_of_lt I.big)),[],.nil,?_⟩,rfl,q _ (I.hok.fresh (Nat.le_refl _))⟩
 ·exact(hs.2 b (Nat.ne_of_lt (Heap.lt_size hq))).trans (zPO _ hq)
 ·obtain⟨ob,es,ep,e2,c,d,w,n⟩:=dd'
  refine⟨ob,es,ep,e2,c,d,?_,List.nodup_nil⟩;have hp:=n.1
  cases h:es.toList with
  |nil=>rfl
  |cons x xs=>rw[h]at hp;cases hp
theorem xdt{K:Fg}{e:Expr}{f:Str}{pos:Pos}{ta:TE}(hK:X.K=K)(he:PE X e ta)(hb:attributeBase e f X.env (eval e X.env)=eval e X.env):PE X (.Attribute e f pos) (tFld K ta f):=by
 subst hK;exact xfb he hb
theorem xrf(hu:X.A.units+200<cLine):OpR X (compareOp .NotEq) (λx y H Q=>(x=.non/\y=.non/\Q (.bl false) H)\/rEqZ false x y H Q):=by
 intro pins s σ H x y v u Q I rx ry h;rcases h with⟨rfl,rfl,q⟩ |h
 ·exact xgl pins s σ H .non .non v u Q I rx ry ⟨rfl,q⟩
 ·exact xhf hu pins s σ H x y v u Q I rx ry h
end
end L2
end
section
namespace M
open PySem L2
theorem xpv{ks:List Kn}(nd:(ks.map Kn.name).Nodup){k:Kn}(b:k∈ks):kAt ks k.name=some k:=by
 obtain⟨i,hi,e⟩:=zMI b;exact xcq (f:=Kn.name) (xs:=ks) (i:=i) (a:=k) nd (by rw[<- e];exact zGA hi)
end M
end
section
local macro_rules | `(tactic| obtain $p:rcasesPatMed:=$e:term)=>`(tactic| ((refine gcut λG hG=>?_;rcases $e:term with $p:rcasesPatMed) <;> refine hG ?_))
section
namespace L2
open PySem
abbrev qaa:List Str:=["kinds","term","boxes"]
abbrev qab:List Str:=["kinds","K"]
abbrev qac:List Str:=["_law_feed_here","_law_many"]
abbrev qad:List Str:=["_law_kinds_here","_law_kind"]
abbrev qae:List Str:=["kinds","term","boxes","kind"]
abbrev qaf:List Str:=["ways","kind"]
abbrev qag:List Str:=["first","second","ways"]
abbrev qah:List Str:=["make","h"]
abbrev qai:List Str:=["kinds","ways","kind"]
abbrev qaj:List Str:=["make","h","l"]
abbrev qak:List Str:=["kinds","kind"]
abbrev qal:List Str:=["found","kind"]
abbrev qam:List Str:=["kinds","kind","name"]
abbrev qan:List Str:=["_law_feed_here"]
abbrev qao:List Str:=["_law_feed_here","_law_kinds_here"]
abbrev qap:List Str:=["kinds","ways","olds","news"]
abbrev qaq:List Str:=["first","second","ways","kind","value"]
abbrev qar:List Str:=["first","second","ways","parts","values"]
abbrev qas:List Str:=["over","c","value"]
abbrev qat:List Str:=["_law_script","_law_k"]
abbrev qau:List Str:=["_law_feed_here","_law_kinds_here","_law_boxes_here","_law_kind"]
abbrev qav:List Str:=["_law_feed_here","_law_kinds_here","_law_kind"]
abbrev qaw:List Str:=["make","c"]
abbrev qax:List Str:=["things","name"]
abbrev qay:List Str:=["names","things"]
abbrev qaz:List Str:=["x","boxes"]
abbrev qa0:List Str:=["kinds","name","sort"]
abbrev qa1:List Str:=["kinds","term","boxes","sort"]
abbrev qa2:List Str:=["boxes","x","thing"]
abbrev qa3:List Str:=["ways","parts"]
abbrev qa4:List Str:=["first","second","ways","K"]
abbrev qa5:List Str:=["first","second","K","K2"]
abbrev qa6:List Str:=["first","second","told"]
abbrev qa7:List Str:=["first","second","ways","told"]
abbrev qa8:List Str:=["sign","a","b"]
abbrev qa9:List Str:=["make","h","stand"]
abbrev qba:List Str:=["over","h","row"]
abbrev qbb:List Str:=["over","h","stand"]
abbrev qbc:List Str:=["_law_feed_here","_law_kinds_here","_law_sort","_law_names_here"]
abbrev qbd:List Str:=["_law_feed_here","_law_kinds_here","_law_channels_here","_law_h","_law_boxes_here","_law_names_here"]
abbrev qbe:List Str:=["_law_script","_law_at","_law_names_here"]
abbrev qbf:List Str:=["_law_script","_law_at","_law_kinds_here","_law_channels_here","_law_many","_law_names_here"]
abbrev qbg:List Str:=["self","first","second","told_ways","told_places"]
abbrev qbh:List Str:=["kinds","kind","arm","boxes"]
abbrev qbi:List Str:=["kinds","kind","arms"]
abbrev qbj:List Str:=["first","K","how"]
abbrev qbk:List Str:=["first","second","ways","h","l"]
abbrev qbl:List Str:=["kinds","value","f"]
abbrev qbm:List Str:=["_law_cell","_law_many"]
abbrev qbn:List Str:=["_law_feed_here","_law_names_here"]
abbrev qbo:List Str:=["_law_feed_here","_law_kinds_here","_law_names_here","_law_hands_here"]
abbrev qbp:List Str:=["_law_feed_here","_law_kinds_here","_law_channels_here","_law_h","_law_names_here"]
abbrev qbq:List Str:=["_law_feed_here","_law_over","_law_make_here"]
abbrev qbr:List Str:=["first","second","ways","h","l","way"]
end L2
namespace K54
open PySem L2 M
seal L2.PE L2.PA L2.PS L2.PSs L2.PT L2.PW L2.PI L2.PG L2.PJ L2.PTs
def top(i:Nat):Stmt:=PySem.Challenge.pw_swapstride_k54_whole_over_to_itself.main.body.getD i (.Pass ⟨0,0,0,0⟩)
abbrev s_hand_of:Stmt:=top 9
theorem xl3:FnScope qah qah (xab s_hand_of):=by walk_at"q"
abbrev s_channel_of:Stmt:=top 10
theorem xg5:FnScope qaw qaw (xab s_channel_of):=by walk_at"q"
abbrev s_named:Stmt:=top 11
theorem sc_named:FnScope ["things","name","thing"] qax (xab s_named):=by walk_at"q"
abbrev s_mark_row:Stmt:=top 12
theorem sc_mark_row:FnScope ["make","h","l","k","row"] qaj (xab s_mark_row):=by walk_at"q"
abbrev s_need_once:Stmt:=top 14
theorem xh6:FnScope qay qay (xab s_need_once):=by walk_at"q"
abbrev s_sort_of:Stmt:=top 15
theorem sc_sort_of:FnScope ["kinds","K","name","sort","parts"] qab (xab s_sort_of):=by walk_at"q"
abbrev s_parts_of:Stmt:=top 16
theorem sc_parts_of:FnScope ["kinds","K","name","sort","parts"] qab (xab s_parts_of):=by walk_at"q"
abbrev s_need_there:Stmt:=top 17
theorem sc_need_there:FnScope qak qak (xab s_need_there):=by walk_at"q"
abbrev s_kind_of:Stmt:=top 20
theorem sc_kind_of:FnScope ["kinds","term","boxes","head"] qaa (xab s_kind_of):=by walk_at"q"
abbrev s_num_kind:Stmt:=top 21
theorem xjp:FnScope ["n"] ["n"] (xab s_num_kind):=by walk_at"q"
abbrev s_box_kind:Stmt:=top 22
theorem xjr:FnScope qaz qaz (xab s_box_kind):=by walk_at"q"
abbrev s_op_kind:Stmt:=top 23
theorem xl1:FnScope qaa qaa (xab s_op_kind):=by walk_at"q"
abbrev s_rec_kind:Stmt:=top 24
theorem sc_rec_kind:FnScope ["kinds","term","boxes","name","parts","part","inner"] qaa (xab s_rec_kind):=by walk_at"q"
abbrev s_get_kind:Stmt:=top 25
theorem sc_get_kind:FnScope qae qaa (xab s_get_kind):=by walk_at"q"
abbrev s_tag_kind:Stmt:=top 26
theorem sc_tag_kind:FnScope ["kinds","term","boxes","name"] qaa (xab s_tag_kind):=by walk_at"q"
abbrev s_case_kind:Stmt:=top 27
theorem sc_case_kind:FnScope ["kinds","term","boxes","kind","arms","inner","arm"] qaa (xab s_case_kind):=by walk_at"q"
abbrev s_arm_kind:Stmt:=top 28
theorem sc_arm_kind:FnScope ["kinds","kind","arm","boxes","x"] qbh (xab s_arm_kind):=by walk_at"q"
abbrev s_if_kind:Stmt:=top 29
theorem sc_if_kind:FnScope qae qaa (xab s_if_kind):=by walk_at"q"
abbrev s_need_kind:Stmt:=top 30
theorem xh7:FnScope qae qae (xab s_need_kind):=by walk_at"q"
abbrev s_need_same:Stmt:=top 31
theorem xh5:FnScope qal qal (xab s_need_same):=by walk_at"q"
abbrev s_need_sort:Stmt:=top 32
theorem sc_need_sort:FnScope ["kinds","name","sort","found"] qa0 (xab s_need_sort):=by walk_at"q"
abbrev s_kind_of_sort:Stmt:=top 33
theorem sc_kind_of_sort:FnScope ["kinds","term","boxes","sort","kind"] qa1 (xab s_kind_of_sort):=by walk_at"q"
abbrev s_part_kind:Stmt:=top 34
theorem sc_part_kind:FnScope ["kinds","kind","name","part"] qam (xab s_part_kind):=by walk_at"q"
abbrev s_need_tags:Stmt:=top 35
theorem sc_need_tags:FnScope ["kinds","kind","arms","own","tags","tag"] qbi (xab s_need_tags):=by walk_at"q"
abbrev s_with_box:Stmt:=top 36
theorem sc_with_box:FnScope ["boxes","x","thing","more"] qa2 (xab s_with_box):=by walk_at"q"
abbrev s_nought_term:Stmt:=top 37
abbrev s_goes_to:Stmt:=top 39
theorem sc_goes_to:FnScope qaf qaf (xab s_goes_to):=by walk_at"q"
abbrev s_boxes_over:Stmt:=top 40
theorem sc_boxes_over:FnScope qa3 qa3 (xab s_boxes_over):=by walk_at"q"
abbrev s_look_ways:Stmt:=top 41
theorem sc_look_ways:FnScope qa4 qag (xab s_look_ways):=by walk_at"q"
abbrev s_look_ends:Stmt:=top 42
theorem sc_look_ends:FnScope qa5 qa5 (xab s_look_ends):=by walk_at"q"
abbrev s_look_form:Stmt:=top 43
theorem sc_look_form:FnScope ["first","K","how","right"] qbj (xab s_look_form):=by walk_at"q"
abbrev s_is_term:Stmt:=top 44
theorem xl2:FnScope ["how"] ["how"] (xab s_is_term):=by walk_at"q"
abbrev s_look_terms:Stmt:=top 45
theorem sc_look_terms:FnScope ["first","second","ways","K","K2","how","parts","part","tagged"] qa4 (xab s_look_terms):=by walk_at"q"
abbrev s_made_ways:Stmt:=top 46
theorem sc_made_ways:FnScope ["first","second","told","ways","lacking","kind","K","how"] qa6 (xab s_made_ways):=by walk_at"q"
abbrev s_how_by_rules:Stmt:=top 47
theorem sc_how_by_rules:FnScope ["kinds","ways","kind","K","terms"] qai (xab s_how_by_rules):=by walk_at"q"
abbrev s_terms_by_rules:Stmt:=top 48
theorem sc_terms_by_rules:FnScope ["kinds","ways","olds","news","own","terms","x","kind"] qap (xab s_terms_by_rules):=by walk_at"q"
abbrev s_tags_by_rules:Stmt:=top 49
theorem sc_tags_by_rules:FnScope ["kinds","ways","kind","K","theirs","tag","inner"] qai (xab s_tags_by_rules):=by walk_at"q"
abbrev s_look_place:Stmt:=top 51
abbrev s_need_mark:Stmt:=top 52
abbrev s_places_of:Stmt:=top 53
theorem sc_places_of:FnScope ["make","places","h","boxes","rows"] ["make"] (xab s_places_of):=by walk_at"q"
abbrev s_made_places:Stmt:=top 54
theorem sc_made_places:FnScope ["first","second","ways","told","places","lacking","h","l","way"] qa7 (xab s_made_places):=by walk_at"q"
abbrev s_way_by_rules:Stmt:=top 55
theorem sc_way_by_rules:FnScope ["first","second","ways","h","l","news","terms"] qbk (xab s_way_by_rules):=by walk_at"q"
abbrev s_field:Stmt:=top 57
theorem sc_field:FnScope ["kinds","value","f","names"] qbl (xab s_field):=by walk_at"q"
abbrev s_worth:Stmt:=top 59
theorem sc_worth:FnScope ["kinds","term","boxes","head","taken"] qaa (xab s_worth):=by walk_at"q"
abbrev s_op_worth:Stmt:=top 60
theorem xjo:FnScope qa8 qa8 (xab s_op_worth):=by walk_at"q"
abbrev s_case_worth:Stmt:=top 61
theorem sc_case_worth:FnScope ["kinds","term","boxes","value","arm"] qaa (xab s_case_worth):=by walk_at"q"
abbrev s_row_at:Stmt:=top 63
theorem xna:FnScope qa9 qa9 (xab s_row_at):=by walk_at"q"
abbrev s_turned:Stmt:=top 65
theorem sc_turned:FnScope ["first","second","ways","kind","value","how","parts","values","tag","it"] qaq (xab s_turned):=by walk_at"q"
abbrev s_turned_boxes:Stmt:=top 66
theorem sc_turned_boxes:FnScope ["first","second","ways","parts","values","over"] qar (xab s_turned_boxes):=by walk_at"q"
abbrev s_look_fit:Stmt:=top 69
theorem sc_look_fit:FnScope ["first","second","ways","one","other","c"] qag (xab s_look_fit):=by walk_at"q"
abbrev s_is_place:Stmt:=top 70
theorem xjq:FnScope qba qba (xab s_is_place):=by walk_at"q"
abbrev s_brought:Stmt:=top 71
theorem sc_brought:FnScope ["over","h","stand","row","way","boxes","values"] qbb (xab s_brought):=by walk_at"q"
abbrev s_letter_over:Stmt:=top 72
theorem xgk:FnScope qas qas (xab s_letter_over):=by walk_at"q"
abbrev sl_feed:Stmt:=top 74
theorem scl_feed:FnScope ["_law_script","_law_k","_law_cell"] qat (xab sl_feed):=by walk_at"q"
abbrev sl_take:Stmt:=top 75
theorem scl_take:FnScope ["_law_feed_here","_law_many","_law_digit","_law_one"] qac (xab sl_take):=by walk_at"q"
abbrev sl_names:Stmt:=top 76
theorem scl_names:FnScope ["_law_cell","_law_many","_law_letters","_law_size_here","_law_at","_law_common","_law_found"] qbm (xab sl_names):=by walk_at"q"
abbrev sl_number:Stmt:=top 77
theorem scl_number:FnScope ["_law_feed_here","_law_form"] qan (xab sl_number):=by walk_at"q"
abbrev sl_sort_of:Stmt:=top 78
theorem scl_sort_of:FnScope ["_law_kinds_here","_law_kind","_law_name","_law_sort","_law_parts_here"] qad (xab sl_sort_of):=by walk_at"q"
abbrev sl_size:Stmt:=top 79
theorem scl_size:FnScope ["_law_kinds_here","_law_kind","_law_sort","_law_parts_here","_law_sizes"] qad (xab sl_size):=by walk_at"q"
abbrev sl_parts:Stmt:=top 80
theorem scl_parts:FnScope ["_law_feed_here","_law_kinds_here","_law_sort","_law_names_here","_law_parts_here","_law_left","_law_j","_law_kind"] qbc (xab sl_parts):=by walk_at"q"
abbrev sl_kinds:Stmt:=top 81
theorem scl_kinds:FnScope ["_law_feed_here","_law_names_here","_law_kinds_here","_law_k","_law_sort"] qbn (xab sl_kinds):=by walk_at"q"
abbrev sl_new_term:Stmt:=top 82
theorem scl_new_term:FnScope ["_law_feed_here","_law_kinds_here","_law_boxes_here","_law_kind","_law_some","_law_sort","_law_parts_here","_law_t","_law_part"] qau (xab sl_new_term):=by walk_at"q"
abbrev sl_any_kind:Stmt:=top 83
theorem scl_any_kind:FnScope qao qao (xab sl_any_kind):=by walk_at"q"
abbrev sl_channels:Stmt:=top 84
theorem scl_channels:FnScope ["_law_feed_here","_law_kinds_here","_law_names_here","_law_hands_here","_law_found","_law_k","_law_ends"] qbo (xab sl_channels):=by walk_at"q"
abbrev sl_boxes:Stmt:=top 85
theorem scl_boxes:FnScope ["_law_feed_here","_law_kinds_here","_law_channels_here","_law_h","_law_names_here","_law_wants","_law_c","_law_come","_law_to","_law_kind","_law_k","_law_turn"] qbp (xab sl_boxes):=by walk_at"q"
abbrev sl_rows:Stmt:=top 86
theorem scl_rows:FnScope ["_law_feed_here","_law_kinds_here","_law_channels_here","_law_h","_law_boxes_here","_law_names_here","_law_marks","_law_into","_law_c","_law_come","_law_to","_law_kind","_law_rows_here","_law_k","_law_form","_law_x"] qbd (xab sl_rows):=by walk_at"q"
abbrev sl_make:Stmt:=top 87
theorem scl_make:FnScope ["_law_script","_law_at","_law_names_here","_law_kinds_here","_law_feed_here","_law_hands_here"] qbe (xab sl_make):=by walk_at"q"
abbrev sl_hands:Stmt:=top 88
theorem scl_hands:FnScope ["_law_script","_law_at","_law_kinds_here","_law_channels_here","_law_many","_law_names_here","_law_found","_law_k","_law_feed_here","_law_boxes_here"] qbf (xab sl_hands):=by walk_at"q"
abbrev sl_value:Stmt:=top 89
theorem scl_value:FnScope ["_law_feed_here","_law_kinds_here","_law_kind","_law_sort","_law_parts_here","_law_t","_law_part"] qav (xab sl_value):=by walk_at"q"
abbrev sl_stays:Stmt:=top 90
theorem scl_stays:FnScope ["_law_feed_here","_law_over","_law_make_here","_law_hand","_law_row","_law_boxes_here","_law_x","_law_kind","_law_due","_law_c","_law_come","_law_to","_law_value_here"] qbq (xab sl_stays):=by walk_at"q"
abbrev s_law:Stmt:=top 91
theorem sc_law:FnScope ["_law_script","_law_cell","_law_make_here","_law_over","_law_name","_law_sort","_law_parts_here","_law_at"] ["_law_script"] (xab s_law):=by walk_at"q"
abbrev s_Over_init:Stmt:=xtw (top 68) 0
theorem sc_Over_init:FnScope ["self","first","second","told_ways","told_places","ways","place","way","places"] qbg (xab s_Over_init):=by walk_at"q"
structure Tx(K:Fg)(mg:Str->Option Value):Prop where
 jA:DefTx K mg "hand_of" s_hand_of qah
 jB:DefTx K mg "channel_of" s_channel_of qaw
 jC:DefTx K mg "named" s_named qax
 jD:DefTx K mg "mark_row" s_mark_row qaj
 jE:DefTx K mg "need_once" s_need_once qay
 jF:DefTx K mg "sort_of" s_sort_of qab
 jG:DefTx K mg "parts_of" s_parts_of qab
 jH:DefTx K mg "need_there" s_need_there qak
 jI:DefTx K mg "kind_of" s_kind_of qaa
 jJ:DefTx K mg "num_kind" s_num_kind ["n"]
 jK:DefTx K mg "box_kind" s_box_kind qaz
 jL:DefTx K mg "op_kind" s_op_kind qaa
 jM:DefTx K mg "rec_kind" s_rec_kind qaa
 jN:DefTx K mg "get_kind" s_get_kind qaa
 jO:DefTx K mg "tag_kind" s_tag_kind qaa
 jP:DefTx K mg "case_kind" s_case_kind qaa
 jQ:DefTx K mg "arm_kind" s_arm_kind qbh
 jR:DefTx K mg "if_kind" s_if_kind qaa
 jS:DefTx K mg "need_kind" s_need_kind qae
 jT:DefTx K mg "need_same" s_need_same qal
 jU:DefTx K mg "need_sort" s_need_sort qa0
 jV:DefTx K mg "kind_of_sort" s_kind_of_sort qa1
 jW:DefTx K mg "part_kind" s_part_kind qam
 jX:DefTx K mg "need_tags" s_need_tags qbi
 jY:DefTx K mg "with_box" s_with_box qa2
 jZ:DefTx K mg "nought_term" s_nought_term qak
 j0:DefTx K mg "goes_to" s_goes_to qaf
 j4:DefTx K mg "boxes_over" s_boxes_over qa3
 j5:DefTx K mg "look_ways" s_look_ways qag
 j6:DefTx K mg "look_ends" s_look_ends qa5
 j7:DefTx K mg "look_form" s_look_form qbj
 j8:DefTx K mg "is_term" s_is_term ["how"]
 j9:DefTx K mg "look_terms" s_look_terms qa4
 kA:DefTx K mg "made_ways" s_made_ways qa6
 kB:DefTx K mg "how_by_rules" s_how_by_rules qai
 kC:DefTx K mg "terms_by_rules" s_terms_by_rules qap
 kD:DefTx K mg "tags_by_rules" s_tags_by_rules qai
 kE:DefTx K mg "look_place" s_look_place qbr
 kF:DefTx K mg "need_mark" s_need_mark qaj
 kG:DefTx K mg "places_of" s_places_of ["make"]
 kH:DefTx K mg "made_places" s_made_places qa7
 kI:DefTx K mg "way_by_rules" s_way_by_rules qbk
 kJ:DefTx K mg "field" s_field qbl
 kK:DefTx K mg "worth" s_worth qaa
 kL:DefTx K mg "op_worth" s_op_worth qa8
 kM:DefTx K mg "case_worth" s_case_worth qaa
 kN:DefTx K mg "row_at" s_row_at qa9
 kO:DefTx K mg "turned" s_turned qaq
 kP:DefTx K mg "turned_boxes" s_turned_boxes qar
 kQ:DefTx K mg "look_fit" s_look_fit qag
 kR:DefTx K mg "is_place" s_is_place qba
 kS:DefTx K mg "brought" s_brought qbb
 kT:DefTx K mg "letter_over" s_letter_over qas
 kU:DefTx K mg "_law_feed" sl_feed qat
 kW:DefTx K mg "_law_take" sl_take qac
 kX:DefTx K mg "_law_names" sl_names qbm
 kY:DefTx K mg "_law_number" sl_number qan
 kZ:DefTx K mg "_law_sort_of" sl_sort_of qad
 k0:DefTx K mg "_law_size" sl_size qad
 k8:DefTx K mg "_law_parts" sl_parts qbc
 k9:DefTx K mg "_law_kinds" sl_kinds qbn
 uA:DefTx K mg "_law_new_term" sl_new_term qau
 uB:DefTx K mg "_law_any_kind" sl_any_kind qao
 uC:DefTx K mg "_law_channels" sl_channels qbo
 uD:DefTx K mg "_law_boxes" sl_boxes qbp
 uE:DefTx K mg "_law_rows" sl_rows qbd
 uF:DefTx K mg "_law_make" sl_make qbe
 uG:DefTx K mg "_law_hands" sl_hands qbf
 uH:DefTx K mg "_law_value" sl_value qav
 uI:DefTx K mg "_law_stays" sl_stays qbq
 uJ:DefTx K mg "law" s_law ["_law_script"]
 uK:∃t,mg "WIDE"=some (.int 4294967296 t)
 uL:mg "dict"=none
 uM:mg "enumerate"=none
 uN:mg "int"=none
 uO:mg "isinstance"=none
 uP:mg "len"=none
 uQ:mg "list"=none
 uR:mg "max"=none
 uS:mg "min"=none
 uT:mg "range"=none
 uU:mg "set"=none
 uV:mg "str"=none
 uW:mg "sum"=none
 uX:mg "tuple"=none
 uY:mg "zip"=none
 uZ:mg "Over"=some (.ref (ad K "Over"))
 u0:DTab K "Over" ["first","second","ways","places","lacking"]
 u4:MethTx K "Over.__init__" (ad K "Over") "__init__" s_Over_init qbg [[]]
theorem fits{n:Nat}(h:n<=4000000):n<=sizeLine:=Nat.le_trans h (by decide)
theorem xa6{n:Nat}(h:n<=4000000):n<sizeLine:=Nat.lt_of_le_of_lt h (by decide)
def xkz(K:Fg):Sp:=λvs H Q _=>∃(a:Addr) (ns:List Int) (k:Int),vs=[.ref a,.int k]/\SqL K H a (ns.map V.int)/\ns.length<=63/\0<=k/\∀(r:Addr) (p q:Int),H r=none->Q (.ref r) (upd H r (.lst [.int p,.int q]))
def xdb:Sp:=λvs H Q _=>∃(a:Addr) (p q m:Int),vs=[.ref a,.int m]/\H a=some (.lst [.int p,.int q])/\0<m/\m<2 ^ 64/\∀(r:Int) (H':Hp),0<=r->r<m->Fed a H H'->Q (.int r) H'
section
variable {P:Program}{w:World}{K:Fg}{mg:Str->Option Value}{base:Heap}{n:Nat}
theorem xko{ns:List Int}{k:Int}(h0:0<=k)(h:k<(ns.length:Int)):∃v:Int,atI (ns.map V.int) k=some (.int v):=by
 have a:k.toNat<ns.length:=by omega
 have b:k=((k.toNat:Nat):Int):=by omega
 refine⟨ns[k.toNat],?_⟩;have q:atI (ns.map V.int) ((k.toNat:Nat):Int)=some (.int ns[k.toNat]):=xas (by rw[zGM,zGA a] <;> rfl);rw[<- b]at q;exact q
theorem xc4:2<=sizeLine:=by decide
theorem xhg(T:Tx K z):DefIs P w K z base (n+1) "_law_feed" qat (xkz K):=by
 refine DefIs.of T.kU scl_feed (λvs H Q E h=>?_) (λf I A outer s H vs Q E J h=>?_)
 ·obtain⟨a,ns,k,rfl,_⟩:=h
  rfl
 obtain⟨a,ns,k,rfl,O,G,C,q⟩:=h;have nd:=scl_feed.nd;have g:(ns.map V.int).length=ns.length:=zLM _
 refine⟨_,(zpn (psn 2 nd pI)
   (zpn (xax (pR xjt (pv 1) (xau (xae (K:=K) rfl) rfl T.uP PySem.boot_len (v1 0)) (nM _)) (zpo (psn 2 nd (pxl K (pv 0) (pv 1)))) pQ)
   (zpn (xax (PW.pt (xea (pR xf5 (xau (xae (K:=K) rfl) rfl T.uP PySem.boot_len (v1 0)) pI (nM _)) (xdj (pR xbe (xaz xcd (pxl K (pv 0) pI) pI) pI (nM _))))) (zpo (xad (xcg (va 2 (pc (xaz xby (xaz xcd (xaz xby (xaz xec (xaz xcd (pv 2) pI) pI) (xaz xec pI (pv 1))) pI) pI) pN xcf))))) pQ)
   (zpn (xax (PW.pt (xea (pR xuh (pv 1) (xau (xae (K:=K) rfl) rfl T.uP PySem.boot_len (v1 0)) (nM _)) (xdj (pR xf5 (xau (xae (K:=K) rfl) rfl T.uP PySem.boot_len (v1 0)) pI (nM _))))) (zpo (psn 2 nd (xaz xby (pxl K (pv 0) (xaz xcd (pv 1) (xau (xae (K:=K) rfl) rfl T.uP PySem.boot_len (v1 0)))) (xaz xec pI (pv 1))))) pQ)
   (zpo (xad (xcg (pc pI (pc (xaz xby (xaz xcd (xaz xby (xaz xec (xaz xcd (pv 2) pI) pI) (xaz xec pI (pv 1))) pI) pI) pN xcf) so)))))))),?_⟩
 have h0:0<ns.length->∃v:Int,atI (ns.map V.int) 0=some (.int v):=λh=>xko (Int.le_refl 0) (by omega);walk_at"rd";refine ite2 (λc=>?_) (λc=>?_)
 ·have o:=of_decide_eq_true c
  rw[g]at o;obtain⟨v,x⟩:=xko (ns:=ns) C o;obtain⟨y,p⟩:=h0 (by omega);walk_at"rd";refine ite2 (λj=>?_) (λj=>?_)
  ·walk_at"rd"
   refine ite2 (λu=>?_) (λu=>?_)
   ·walk_at"rd"
    exact⟨xc4,λl b=>q l _ _ b⟩
   ·walk_at"rd"
    refine ite2 (λi=>?_) (λi=>?_)
    ·have r:=of_decide_eq_true i
     rw[g]at r;omega
    ·refine iteF ?_
     walk_at"rd";exact⟨xc4,λl b=>q l _ _ b⟩
  ·have e:=of_decide_eq_false (Bool.eq_false_iff.mpr j)
   rw[g]at e;omega
 ·have o:=of_decide_eq_false (Bool.eq_false_iff.mpr c)
  rw[g]at o;walk_at"rd";refine ite2 (λj=>?_) (λj=>?_)
  ·have e:=of_decide_eq_true j
   rw[g]at e;obtain⟨y,p⟩:=h0 (by omega);walk_at"rd";refine ite2 (λu=>?_) (λu=>?_)
   ·walk_at"rd"
    exact⟨xc4,λl b=>q l _ _ b⟩
   ·walk_at"rd"
    refine ite2 (λi=>?_) (λi=>?_)
    ·walk_at"rd"
     refine ite2 (λm=>?_) (λm=>?_)
     ·obtain⟨v,x⟩:=xko (ns:=ns) (k:=k%(ns.length:Int)) (Int.emod_nonneg _ (by omega)) (Int.emod_lt_of_pos _ (by omega))
      rw[<- g]at x;have M:(0:Int)<((ns.map V.int).length:Nat):=by rw[g];omega
      walk_at"rd";exact⟨xc4,λl b=>q l _ _ b⟩
     ·walk_at"rd"
      exact⟨xc4,λl b=>q l _ _ b⟩
    ·refine iteF ?_
     walk_at"rd";exact⟨xc4,λl b=>q l _ _ b⟩
  ·refine iteF ?_
   walk_at"rd";refine ite2 (λi=>?_) (λi=>?_)
   ·walk_at"rd"
    refine ite2 (λm=>?_) (λm=>?_)
    ·have e:=of_decide_eq_false (Bool.eq_false_iff.mpr j)
     exact absurd (of_decide_eq_true m) e
    ·walk_at"rd"
     exact⟨xc4,λl b=>q l _ _ b⟩
   ·refine iteF ?_
    walk_at"rd";exact⟨xc4,λl b=>q l _ _ b⟩
theorem xc0(T:Tx K e):DefIs P w K e base (n+1) "_law_take" qac xdb:=by
 refine DefIs.of T.kW scl_take (λvs H Q E h=>?_) (λf i A outer s H vs Q E l h=>?_)
 ·obtain⟨a,p,q,m,rfl,_⟩:=h
  rfl
 obtain⟨a,p,q,m,rfl,g,b,j,k⟩:=h;have nd:=scl_take.nd;have o:SqL K H a [.int p,.int q]:=SqL.of g
 refine⟨_,(zpn (xax (pR xf5 (pxl K (pv 0) pI) pI (nM _)) (zpn (psn 2 nd (xaz xcd (pxl K (pv 0) pI) (pv 1)))
   (zpn (xeb (xaz xc7 (pxl K (pv 0) pI) (pv 1)) (xqh (pv 0) pI xk1))
   (zpo (xad (pv 2))))) pQ)
   (zpn (psn 3 nd (xaz xcd (xaz xec (pxl K (pv 0) pI) pI) pI))
   (zpn (xeb (xaz xby (xaz xcd (xaz xby (xaz xec (pv 3) pI) pI) pI) pI) (xqh (pv 0) pI xk1))
   (zpo (xad (xaz xcd (xaz xc7 (xaz xby (xaz xec (pv 3) pI) (pxl K (pv 0) pI)) pI) (pv 1))))))),?_⟩
 walk_at"rd";refine ite2 (λc=>?_) (λc=>?_)
 ·walk_at"rd"
  refine k _ _ (Int.emod_nonneg _ (by omega)) (Int.emod_lt_of_pos _ b) Fed.of
 ·walk_at"rd"
  refine(xap _ _ _ _ rfl rfl (SqL.of ups) rfl ?_);walk_at"rd";refine k _ _ (Int.emod_nonneg _ (by omega)) (Int.emod_lt_of_pos _ b) Fed.of
end
def xm0:Sp:=λvs H Q _=>∃c:Int,vs=[.int c,.int 26]/\∀(b:Addr) (H':Hp) (nms:List Str),Same H H'->H b=none->H' b=some (.lst (nms.map V.str))->xje nms->(∀z∈nms,NoBy z/\NoMo z)->Q (.ref b) H'
section
variable {P:Program}{w:World}{K:Fg}{mg:Str->Option Value}{base:Heap}{n m:Nat}
theorem xnp(T:Tx K mg):DefIs P w K mg base (n+1) "_law_names" qbm xm0:=by
 refine DefIs.of T.kX scl_names (by walk_at"l") (λf a4 A outer s H vs Q E hr h=>?_);obtain⟨c,rfl,k⟩:=h;have nd:=scl_names.nd
 refine⟨_,(zpn (psn 2 nd pS)
   (zpn (psn 3 nd (xaz xcd (pv 0) pI))
   (zpn (psn 4 nd (xaz xcd (xaz xc7 (pv 0) pI) (xaz xby (pv 3) pI)))
   (zpn (psn 5 nd (xds PySem.F.plainAttrs_str PySem.F.slot_str_join PySem.F.type_str_join xrq pS (pc (xbm ["_law_j","_law_cell"] [none,some 0] rfl (by kernel_rfl) (xcc rfl T.uT (v1 3)) (λ_ _ _ _=>(pgc 0)) (λ_ _ _ _=>xbl) (λ_ _ _ _=>(xpg xql pS (xaz xcd (xaz xby (xaz xc7 (pv 1) pI) (pv 0)) pI) (λ_ _=>rfl)))) pN xb1)))
   (zpn (psn 6 nd (xbm ["_law_k","_law_common","_law_letters","_law_at","_law_cell"] [none,some 5,some 2,some 4,some 0] rfl (by kernel_rfl) (xcc rfl T.uT (v1 1)) (λ_ _ _ _=>(pgc 0)) (λ_ _ _ _=>xbl) (λ_ _ _ _=>(xaz xe4 (xaz xe4 (xc6 xqf (pv 1) xe3 (xc9 (pv 3))) (xpg xql (pv 2) (xaz xcd (xaz xby (xaz xc7 (pv 4) pI) (xaz xec pI (pv 0))) pI) (λ_ _=>rfl))) (xc6 xqf (pv 1) (xc9 (pv 3)) xe3)))))
   (zpn (xax (pR xbe (xaz xcd (xaz xc7 (pv 0) pI) pI) pI (nM _)) (zpo (xad (pv 6))) pQ)
   (zpo (xad (xbm ["_law_k","_law_found"] [none,some 6] rfl (by kernel_rfl) (xcc rfl T.uT (v1 1)) (λ_ _ _ _=>(pgc 0)) (λ_ _ _ _=>xbl) (λ_ _ _ _=>(xaz xe4 (pxl K (pv 1) (xaz xic (pv 0) (xaz xcd (pv 0) pI))) (xaz xrg pS (xaz xcd (pv 0) pI))))))))))))),?_⟩
 have m0:0<=c%5:=Int.emod_nonneg _ (by decide);have m5:c%5<5:=Int.emod_lt_of_pos _ (by decide);refine(xah _ rfl _ _ rfl rfl ⟨(by show(0:Int)<5;decide),?_⟩);have hp:0<(c%5)+1:=by omega
 refine(xah _ rfl _ _ rfl rfl (jAEA ⟨by decide,by decide⟩ _ rfl (xaq _ _ rfl rfl (xcv _ _ rfl rfl hp ?_))));have a0:0<=c / 5%((c%5)+1):=Int.emod_nonneg _ (by omega);have a1:c / 5%((c%5)+1)<(c%5)+1:=Int.emod_lt_of_pos _ hp;refine(jAEA rfl _ rfl (xb7 _ rfl (by omega) (by omega) ?_));refine xd6 (j:=0) (λi ys I=>I=H/\∃cs:List Nat,ys=(cs.map xc5).map V.str/\∀c∈cs,c∈five) (by rfl) (jAEA rfl ([]) rfl (λ_ h=>nomatch h)) (xa6 (by omega)) ?_ ?_
 ·rintro i ys I hi Y ⟨rfl,cs,rfl,a⟩
  refine(xah _ rfl _ _ rfl rfl (jAEA ⟨by decide,by decide⟩ _ rfl (xaq _ _ rfl rfl (xcv _ _ rfl rfl (by show(0:Int)<5;decide) ?_))));obtain⟨ch,Z,a2⟩:=xrz (Int.emod_nonneg (c / 25+(0+(i:Int))) (by decide:(5:Int)≠0)) (Int.emod_lt_of_pos _ (by decide));refine(xam _ _ ch rfl rfl (by walk_at"k") a2 ?_)
  exact nxt hi Y ⟨rfl,cs++[ch],by simp[xc5],λx o=>by
   rcases zMA o with o |o
   ·exact a x o
   ·rw[zMO o];exact Z⟩
 ·rintro ys I Y ⟨rfl,cs,rfl,a⟩ D hD
  rw[zLM,zLM]at Y;refine(xam (S "") D (cs.map xc5) rfl rfl (SqL.of ups) ?_ ?_)
  ·rw[xjh,show(S "").length=0 by walk_at"k"]
   omega
  rw[xi1];have m:=Same.new hD (.lst ((cs.map xc5).map V.str));generalize upd I D (.lst ((cs.map xc5).map V.str))=H1 at m⊢;have b:(ofL cs).length=cs.length:=by rw[<- xex,xek]
  have c4:cs.length<=4:=by omega
  refine(xa9 _ rfl _ rfl (by decide) ⟨by decide,?_⟩);refine xd6 (j:=0) (λi ys G=>G=H1/\ys=((List.range i).map λk=>ofL (nmA cs (c / 5%(c%5+1)).toNat (c / 125) k)).map V.str) (by rfl) ⟨rfl,rfl⟩ (xa6 (by decide)) ?_ ?_
  ·rintro i ys G hi r ⟨rfl,rfl⟩
   have e0:(0+(i:Int))=(i:Int):=by omega
   have U:0<=(c / 125+5*(0+(i:Int)))%26:=Int.emod_nonneg _ (by decide);have O:(c / 125+5*(0+(i:Int)))%26<26:=Int.emod_lt_of_pos _ (by decide);refine(jEA _ rfl (jEA _ rfl (xa9 _ rfl _ rfl (fits (by rw[b];omega)) ?_)));refine(jEA _ rfl (xah _ rfl _ _ rfl rfl (jAEA ⟨by decide,by decide⟩ _ rfl (xcv _ _ rfl rfl (.inl ⟨by decide,by decide⟩) (xaq _ _ rfl rfl (xcv _ _ rfl rfl (by show(0:Int)<26;decide) ?_))))));refine(xam _ _ _ rfl rfl (by walk_at"k") (xn8 U O) ?_);rw[xo8 (ofL cs) a0 (by rw[b];omega)];refine(xcv _ _ rfl rfl ?_ ?_)
   ·refine fits ?_
    rw[show(ofL ((L (ofL cs)).take (c / 5%(c%5+1)).toNat)).length=(cs.take (c / 5%(c%5+1)).toNat).length by rw[<- xex,xek,xek],List.length_take];show _+1<=_;omega
   refine(jEA _ rfl (jEA _ rfl (xa9 _ rfl _ rfl (fits (by rw[b];omega)) ?_)));rw[xlz (ofL cs) a0 (by rw[b];omega),xek];refine(xcv _ _ rfl rfl ?_ ?_)
   ·refine fits ?_
    rw[Str.length_append,show(ofL (cs.take (c / 5%(c%5+1)).toNat)).length=(cs.take (c / 5%(c%5+1)).toNat).length by rw[<- xex,xek],show(ofL (cs.drop (c / 5%(c%5+1)).toNat)).length=(cs.drop (c / 5%(c%5+1)).toNat).length by rw[<- xex,xek],List.length_take,List.length_drop];show _+1+_<=_;omega
   rw[xnz];refine nxt hi r ⟨rfl,?_⟩;rw[List.range_succ,zAP,zAP,e0];rfl
  ·rintro ys G r ⟨rfl,rfl⟩ J y
   have g:=Same.new y (.lst (((List.range 26).map λk=>ofL (nmA cs (c / 5%(c%5+1)).toNat (c / 125) k)).map V.str));refine(xah _ rfl _ _ rfl rfl (jAE ⟨by decide,by decide⟩ _ (xbt _ rfl rfl (by show(0:Int)<3;decide) rfl _ rfl (ite2 (λcc=>?_) (λcc=>?_)))))
   ·exact(jEA _ rfl (k J _ _ (m.trans g) (xch m y) ups (nmsA c4 a) (λz hz=>⟨xro a z hz,xrn a z hz⟩)))
   ·refine(xa9 _ rfl _ rfl (by decide) ⟨by decide,?_⟩)
    obtain⟨C,l⟩:∃C,C=upd G J (.lst (((List.range 26).map λk=>ofL (nmA cs (c / 5%(c%5+1)).toNat (c / 125) k)).map V.str)):=⟨_,rfl⟩;have hb:C J=some (.lst (((List.range 26).map λk=>ofL (nmA cs (c / 5%(c%5+1)).toNat (c / 125) k)).map V.str)):=by rw[l];exact ups
    rw[<- l]at g;refine xd6 (j:=0) (λi ys H4=>H4=C/\ys=((List.range i).map λk=>ofL (nmB cs (c / 5%(c%5+1)).toNat (c / 125) k)).map V.str) (by rfl) ⟨l.symm,rfl⟩ (xa6 (by decide)) ?_ ?_
    ·rintro i ys H4 hi p ⟨rfl,rfl⟩
     have a3:i<26:=hi;have er:(0+(i:Int))%2=((i%2:Nat):Int):=by omega
     have es:(0+(i:Int))-(0+(i:Int))%2=((i-i%2:Nat):Int):=by omega
     refine(xbc _ rfl _ rfl _ rfl _ _ rfl rfl (jAE (by show(0:Int)<2;decide) _ (jEAA _ rfl rfl (xap J _ _ (.str (ofL (nmA cs (c / 5%(c%5+1)).toNat (c / 125) (i-i%2)))) rfl rfl (SqL.of hb) ?_ ?_))))
     ·rw[es]
      refine xas ?_;rw[zGM,zGM,List.getElem?_range (by omega)];rfl
     refine(xah _ rfl _ _ rfl rfl (jAE (by show(0:Int)<2;decide) _ (xb7 _ rfl rfl (by omega) ?_)));refine(xcv _ _ rfl rfl ?_ ?_)
     ·refine fits ?_
      rw[show(ofL (nmA cs (c / 5%(c%5+1)).toNat (c / 125) (i-i%2))).length=cs.length+1 by rw[<- xex,xek,xgb]];have:(if (0+(i:Int))%2=1 then S "q" else Str.empty).length<=1:=by split <;> decide +kernel
      show _+(if (0+(i:Int))%2=1 then S "q" else Str.empty).length<=_;omega
     refine nxt hi p ⟨rfl,?_⟩;rw[List.range_succ,zAP,zAP];congr 1;show[V.str _]=[V.str _];congr 2;apply xp6;rw[xey,xek,xek];unfold nmB;congr 1;rw[er];rcases Nat.mod_two_eq_zero_or_one i with e |e
     ·rw[e];decide +kernel
     ·rw[e];decide +kernel
    ·rintro ys H4 p ⟨rfl,rfl⟩ D4 u
     have M:=Same.new u (.lst (((List.range 26).map λk=>ofL (nmB cs (c / 5%(c%5+1)).toNat (c / 125) k)).map V.str));exact k D4 _ _ (m.trans (g.trans M)) (xch (m.trans g) u) ups (nmsB c4 a) (λz hz=>⟨xrm a z hz,xrl a z hz⟩)
def xg3:Sp:=λvs H Q _=>∃v ks x,vs=[v,.str x]/\KsSeq H v ks/\∀t pv H',Same H H'->H' t=some (.tup [.str (xm7 (kAt ks x)),pv])->RelD H' pv (xnj (kAt ks x))->Q (.ref t) H'
def xhy(m:Nat):Sp:=λvs H Q _=>∃v ks x,vs=[v,.str x]/\KsSeq H v ks/\KWf ks/\KIn ks m x/\∀H',Same H H'->Q (.int (szF (m+1) ks x)) H'
theorem xcn (T:Tx K Y):DefIs P w K Y base (n+1) "_law_sort_of" qad xg3:=by
  refine DefIs.of T.kZ scl_sort_of (by walk_at"l") (λf a0 A outer s H vs Q E hr h=>?_);obtain⟨v,ks,x,rfl,⟨a,us,rfl,J,M⟩,q⟩:=h;have nd:=scl_sort_of.nd
  refine⟨_,(zpn (xbp PassesOwn.never rfl (xs1 (xcp (K:=K) rfl (pv 0)) (xan (K:=K) rfl (pv 0))) (xa3 (K:=K) rfl rfl (xac (pgn 2 nd) (xac (pgn 3 nd) (xac (pgn 4 nd) xa2))))
      (zpo (xax (pR xbe (pv 2) (pv 1) (nM _)) (zpo (xad (xaw (va 3 (v1 4))))) pQ)))
      (zpo (xad (xaw (pc pS (pc (xaw pN) pN sT) so))))),?_⟩
  have Z:=M.length;rw[zLM]at Z
  have l:∀(i:Nat) (v:V),us[i]?=some v->(ks.take i).find? (λk=>decide (k.name=x))=none->∃k b pv,ks[i]?=some k/\v=.ref b/\H b=some (.tup [.str k.name,.str k.sort,pv])/\RelD H pv (xdr k.parts):=λi v C hn=>by
    obtain⟨d,hd,rd⟩:=M.get C;rw[zGM]at hd;obtain⟨k,g,rfl⟩:=zMS hd;obtain⟨b,ws,rfl,I,_,_,rfl,rfl,_,_,rfl,rfl,O,_,rfl,y,rfl⟩:=rd;exact(xda k b O g rfl I y)
  rcases J with u |u
  case' inl=>
    refine .inl (xa9 _ rfl a rfl ⟨_,SqL.of u⟩ ?_);refine xho (xs:=us) (λi σ j=>∃r o m,σ=[some (.ref a),some (.str x),r,o,m]/\j=H/\(ks.take i).find? (λk=>decide (k.name=x))=none) (xcx none none none rfl rfl rfl) (λi σ j _ p=>by obtain⟨_,_,_,_,rfl,_⟩:=p;exact SqL.of u) ?_ ?_
  case' inr=>
    refine .inr (xa9 _ rfl a rfl ⟨_,SqT.of u⟩ ?_);refine xck (xs:=us) (λi σ j=>∃r o m,σ=[some (.ref a),some (.str x),r,o,m]/\j=H/\(ks.take i).find? (λk=>decide (k.name=x))=none) (xcx none none none rfl rfl rfl) (λi σ j _ p=>by obtain⟨_,_,_,_,rfl,_⟩:=p;exact SqT.of u) ?_ ?_
  all_goals first
    | (rintro i v σ j C ⟨r,o,m,rfl,rfl,hn⟩
       obtain⟨k,b,pv,g,rfl,I,y⟩:=l i v C hn;refine(xao b _ rfl (SqT.of I) rfl _ _ rfl _ (xah _ rfl _ _ rfl rfl ?_));refine(xct _ rfl _ rfl rfl _ rfl (ite2 (λc=>?_) (λc=>?_)))
       · have e:k.name=x:=V.str.inj (of_decide_eq_true c)
         have e2:kAt ks x=some k:=(xce hn g).1 (zDT e);refine(xa9 _ rfl _ rfl (by walk_at"s") (λt G=>?_));have st:=Same.new G (.tup [.str k.sort,pv]);rw[e2]at q;exact q t pv _ st ups (y.same st _)
       · have e:¬k.name=x:=λz=>c (zDT (congrArg V.str z))
         exact(xcx _ _ _ rfl rfl ((xce hn g).2 (zDF e))))
    | (rintro σ j ⟨r,o,m,rfl,rfl,hn⟩
       rw[zTL (by omega)]at hn;rw[show kAt ks x=none from hn]at q;refine⟨(by walk_at"s"),λe he=>⟨(by walk_at"s"),λt G=>?_⟩⟩;have U:=Same.new he (.tup []);have st:=Same.new G (.tup [.str (S "num"),.ref e]);exact q t (.ref e) _ (U.trans st) ups (xaq e ([]) rfl (st _ _ ups) rfl))
theorem xk7 (T:Tx K mg) (G:Sp) (a:DefIs P w K mg base n "_law_sort_of" qad xg3) (g:DefIs P w K mg base n "_law_size" qad G) (M:∀j,m=j+1->G=xhy j) (hm:m<=6) :
  DefIs P w K mg base (n+1) "_law_size" qad (xhy m):=by
 refine DefIs.of T.k0 scl_size (by walk_at"l") (λf a5 A outer s H vs Q E hr h=>?_);obtain⟨v,ks,x,rfl,hk,u,a3,q⟩:=h;have nd:=scl_size.nd
 refine⟨_,(zpn (xeb (pd a hr (va 0 (v1 1))) (xa3 (K:=K) rfl rfl (xac (pgn 2 nd) (xac (pgn 3 nd) xa2))))
   (zpn (xc1 (i:=4) ["_law_name","_law_part","_law_kinds_here"] [none,none,some 0] rfl (by kernel_rfl) nd rfl (by walk_at"o") (xan (K:=K) rfl (pv 3)) (λ_ _ _ _=>(xa3 (K:=K) (n:=2) rfl rfl (xac (pgc 0) (xac (pgc 1) xa2)))) (λ_ _ _ _=>xbl) (λ_ _ _ _=>(pd g hr (va 2 (v1 1)))))
   (zpn (xax (pR xbe (pv 2) pS (nM _)) (zpo (xad (xaz xby pI (xau (xo1 rfl) rfl T.uR PyProof.Rows.boot_max (v1 4))))) pQ)
   (zpo (xad (xaz xby pI (xau (xo0 rfl) rfl T.uW PyProof.Rows.boot_sum (v1 4)))))))),?_⟩
 refine(xa8 _ rfl _ rfl v ks x rfl hk (λt pv H1 s1 ht rp=>?_));refine(xao t _ rfl (SqT.of ht) rfl _ _ rfl _ (jEAA _ rfl rfl ?_))
 have a2:∃ps:List (Str×Str),xnj (kAt ks x)=xdr ps/\ps.length<=5/\(∀p∈ps,∃j,m=j+1/\KIn ks j p.2)/\(xm7 (kAt ks x)=S "alt"->ps≠[]/\szF (m+1) ks x=1+maxD (ps.map λp=>szF m ks p.2)) ∧
   (xm7 (kAt ks x)≠S "alt"->szF (m+1) ks x=1+(ps.map λp=>szF m ks p.2).sum):=by
  cases C:kAt ks x with
  |none=>
   refine(xcy ([]) rfl (by decide) (λ_ h=>nomatch h) (λh=>absurd h (by walk_at"k")) (λ_=>?_));unfold szF;rw[C];rfl
  | some k=>
   have l:k∈ks:=zMF C
   have y:k.name=x:=by
    have:=List.find?_some C;simpa using this
   refine(xcy k.parts rfl (u.pts k l) (λp hp=>?_) (λh=>?_) (λh=>?_))
   ·rcases a3 with rfl |⟨j,k',hj,a0,e⟩
    ·exact absurd y (xei (u.nm k l))
    ·have e2:kAt ks k'.name=some k':=u.at a0
     rw[e,C]at e2;cases e2;refine(jEA (m-1) (by omega) ?_);rcases u.ref j k a0 p hp with z |⟨i,k2,hi,z⟩
     ·exact .inl z
     ·exact .inr (jEEA i k2 (by omega) z)
   ·have o:k.rc=false:=by
     cases hc:k.rc with
     |false=>rfl
     |true=>
      have:k.sort=S "alt":=h;unfold Kn.sort at this;rw[hc,if_pos rfl]at this;exact absurd this (by walk_at"k")
    refine⟨u.alt k l o,?_⟩
    conv=>lhs;unfold szF
    rw[C];show 1+(if k.rc=true then _ else _)=_;rw[if_neg (by rw[o];decide)]
   ·have o:k.rc=true:=by
     cases hc:k.rc with
     |true=>rfl
     |false=>
      refine absurd ?_ h;show k.sort=S "alt";unfold Kn.sort;rw[hc,if_neg (by decide)]
    conv=>lhs;unfold szF
    rw[C];show 1+(if k.rc=true then _ else _)=_;rw[if_pos o]
 obtain⟨ps,a4,h5,U,a1,O⟩:=a2;rw[a4]at rp;obtain⟨e,us,rfl,he,J⟩:=rp;have hl:=J.length;rw[zLM]at hl;refine(xa9 _ rfl e rfl ⟨_,SqT.of he⟩ ?_);refine xbu (xs:=us) (λi ys H'=>Same H1 H'/\ys=((ps.take i).map λp=>szF m ks p.2).map V.int) ⟨Same.refl _,rfl⟩ (xa6 (by omega)) (λi ys H' _ p=>SqT.of (p.1 _ _ he)) ?_ ?_
 ·rintro i z ys H' hz hi Z ⟨I,rfl⟩
  obtain⟨d,hd,rd⟩:=J.get hz;rw[zGM]at hd;obtain⟨p,hp,rfl⟩:=zMS hd;obtain⟨b,ws,rfl,hb,_,_,rfl,rfl,_,_,rfl,rfl,rfl⟩:=rd;obtain⟨j,rfl,hj⟩:=U p (zMG hp);have D':=M j rfl;subst D';refine(xao b _ rfl (SqT.of (I _ _ hb)) rfl _ _ rfl _ (xb7 _ rfl rfl (ext2 rfl rfl) (xdo ?_)));refine(xa8 _ rfl _ rfl _ ks p.2 rfl (hk.same (s1.trans I)) (jAA u hj (λH2 s2=>nxtG hi Z ⟨I.trans s2,?_⟩)));rw[zTA,hp];simp
 ·rintro ys H' Z ⟨I,rfl⟩ D hD
  rw[zTL (by omega)];have sD:=Same.new hD (.lst ((ps.map λp=>szF m ks p.2).map V.int));have r:=s1.trans (I.trans sD)
  have hb:∀n∈ps.map (λp=>szF m ks p.2),0<=n/\n<=1000000:=λn hn=>by
   obtain⟨p,_,rfl⟩:=zMP hn;have h1:=xfz u.pts m p.2
   have h2:(6:Int) ^ m<=6 ^ 6:=by
    rcases(show m=0\/m=1\/m=2\/m=3\/m=4\/m=5\/m=6 by omega) with h |h |h |h |h |h |h <;> subst h <;> decide
   have h3:(6:Int) ^ 6=46656:=by decide
   omega
  refine(xba _ rfl rfl _ rfl (ite2 (λc=>?_) (λc=>?_)))
  ·obtain⟨Y,ez⟩:=a1 (V.str.inj (of_decide_eq_true c))
   refine(xah _ rfl D _ rfl (SqL.of ups) ⟨(λz=>Y (List.map_eq_nil_iff.mp z)),λmx h1 h2=>(xaq _ _ rfl rfl ?_)⟩);have:=q _ r;rw[ez,<- xrr (λz=>Y (List.map_eq_nil_iff.mp z)) (λn hn=>(hb n hn).1) h1 h2]at this;exact this
  ·have ez:=O (λz=>c (zDT (congrArg V.str z)))
   refine(xah _ rfl D _ rfl (SqL.of ups) (jAA hb (by rw[zLM];omega) (xaq _ _ rfl rfl ?_)));have:=q _ r;rw[ez]at this;exact this
theorem xm8(T:Tx K a):∀m,m<=6->DefIs P w K a base (m+2) "_law_size" qad (xhy m)
 |0,h=>xk7 (n:=1) T (λ_ _ _ _=>False) (xcn T) (DefIs.none T.k0 λ_ _ _ _ h=>h) (λj e=>by cases e) h
 |m+1,h=>xk7 (n:=m+2) T (xhy m) (xcn T) (xm8 T m (by omega)) (λj e=>by cases e;rfl) h
def xji:Sp:=λvs H Q _=>∃(f l nb:Addr) (srt:Str) (p q:Int) (ws:List V) (ks:List Kn) (n4:List Str),vs=[.ref f,.ref l,.str srt,.ref nb]/\H f=some (.lst [.int p,.int q])/\H l=some (.lst ws)/\RelDs H ws (ks.map Kn.d)/\KWf ks ∧
 H nb=some (.lst (n4.map V.str))/\n4.length=4/\(srt=S "rec"\/srt=S "alt")/\l≠f/\nb≠f ∧
 ∀v ps (H':Hp),Fed f H H'->RelD H' v (xdr ps)->ps.length<=4->ps.map (·.1)=n4.take ps.length->(srt=S "alt"->ps≠[])->(∀p∈ps,KIn ks ks.length p.2)->(ps.map λp=>sz ks p.2).sum<=29->Q v H'
theorem xtl{D:Ends}{σ:St}{H:Hp}{c:Bool}{B:Prop}{i:Nat}{v x:V}(a:V->St)(f:σ.set i (some v)=a v)(e:σ=a x)(b:D.nx σ H->B)(h:∀y,(y=v\/(y=x/\c=false))->D.nx (a y) H):if c=true then tAsg (tC v) (xgg i) D σ H else B:=by
 cases c with
 |false=>exact b (by rw[e];exact h x (.inr ⟨rfl,rfl⟩))
 |true=>
  show D.nx (σ.set i (some v)) H;rw[f];exact h v (.inl rfl)
theorem and2{a:TE}{σ:St}{H:Hp}{Q:VK}{c cA:Bool}(f:Q (.bl cA) H->a σ H Q)(h:∀b:Bool,(b=true->cA=true)->Q (.bl b) H):if c=true then a σ H Q else Q (.bl false) H:=by
 cases c with
 |false=>exact h false (λe=>by cases e)
 |true=>exact f (h cA id)
theorem xlb:∀{ns:List Int},(∀n∈ns,0<=n)->maxD ns<=ns.sum/\0<=ns.sum
 |[],_=>⟨Int.le_refl _,Int.le_refl _⟩
 |n::ns,h=>by
  have c:=h n (by simp);have b:=xlb (ns:=ns) λm a=>h m (by simp[a]);rw[List.sum_cons];show max n (maxD ns)<=_/\_;omega
theorem xpz{ks:List Kn}(a:KWf ks){x:Str}{b:Bool}{ps:List (Str×Str)}(h:(ps.map λp=>sz ks p.2).sum<=29):inSz (Kn.mk x b ps) (sz ks)<=29:=by
 have:=xlb (ns:=ps.map λp=>sz ks p.2) λn hn=>by
  obtain⟨p,_,rfl⟩:=zMP hn;have:=xt6 a p.2;omega
 unfold inSz;show(if b=true then (ps.map λp=>sz ks p.2).sum else maxD (ps.map λp=>sz ks p.2))<=29;split <;> omega
theorem xno (T:Tx K mg) (a:DefIs P w K mg base n "_law_take" qac xdb) (c:DefIs P w K mg base n "_law_size" qad (xhy 6)):DefIs P w K mg base (n+1) "_law_parts" qbc xji:=by
  refine DefIs.of T.k8 scl_parts (by walk_at"l") (λf bh A outer s H vs Q E hr h=>?_);obtain⟨J,l,nb,C,p,q,ws,ks,n4,rfl,hf,hl,a4,wf,al,h4,hs,lf,nf,k⟩:=h;have nd:=scl_parts.nd
  refine⟨_,(zpn (psn 4 nd (xcg pN))
      (zpn (psn 5 nd pI)
      (zpn (xbp PassesOwn.never rfl (xcc rfl T.uT (pc (xaz xby (xaz xby (pd a hr (va 0 (pc pI pN so))) (xay xi8 rfl T.uN PyProof.Rows.boot_int (pc (xeh xbe (pv 2) pS (nM _)) pN xo6))) (xay xi8 rfl T.uN PyProof.Rows.boot_int (pc (xk6 (xeh xbe (pd a hr (va 0 (pc pI pN so))) pI (nM _)) (xk5 (xeh xbe (pv 2) pS (nM _)))) pN xmu))) pN xcf)) (pgn 6 nd)
      (zpn (psn 7 nd (pxl K (xaz xnm (xcg (pc pS pN so)) (xbm ["_law_row"] [none] rfl (by kernel_rfl) (xcp (K:=K) rfl (pv 1)) (λ_ _ _ _=>(pgc 0)) (λ_ _ _ _=>xbl) (λ_ _ _ _=>(px K (pv 0) pI)))) (pd a hr (va 0 (pc (xaz xby pI (xau (xae (K:=K) rfl) rfl T.uP PySem.boot_len (v1 1))) pN xcf)))))
      (zpn (xax (pR xf5 (pd c hr (va 1 (v1 7))) (pv 5) (nM _)) (zpo (psn 7 nd pS)) pQ)
      (zpn (psn 5 nd (xaz xic (pv 5) (pd c hr (va 1 (v1 7)))))
      (zpo (xa1 (xds PySem.F.plainAttrs_list PySem.F.slot_list_append PySem.F.type_list_append xbs (pv 4) (pc (xaw (pc (pxl K (pv 3) (pv 6)) (v1 7) ss)) pN sT))))))))
      (zpo (xad (xay (xbk (K:=K) rfl) rfl T.uX PyProof.Rows.boot_tuple (pc (xc6 xjn (pv 4) xe3 (xc9 pI)) pN ss))))))),?_⟩
  refine⟨(by walk_at"s"),λpl a8=>?_⟩;have s0:=Same.new a8 (.lst []);have M:pl≠J:=Ne.symm (neN hf a8);have a2:=wf.few;have ah:=a4.length;rw[zLM]at ah;refine(xaa _ rfl J p q 4 rfl (s0 _ _ hf) (by decide) (by decide) (λr1 H1 bb ba f1=>?_));obtain⟨p1,q1,h1⟩:=f1.2;have F1:Fed J H H1:=⟨s0.but.trans f1.1,f1.2⟩;have au:H1 pl=some (.lst []):=f1.1 _ _ ups M
  have b6:∃cA cB:Bool,decide (V.str C=V.str (S "rec"))=cA/\decide (V.str C=V.str (S "alt"))=cB/\0<=(if cA=true then (1:Int) else 0)/\0<=(if cB=true then (1:Int) else 0)/\(if cA=true then (1:Int) else 0)+(if cB=true then (1:Int) else 0)<=1/\(C=S "alt"->(if cB=true then (1:Int) else 0)=1):=by
    rcases hs with rfl |rfl
    · exact(xak true false (by walk_at"k") (by walk_at"k") (by decide) (by decide) (by decide) (λe=>absurd e (by walk_at"k")))
    · exact(xak false true (by walk_at"k") (by walk_at"k") (by decide) (by decide) (by decide) (λ_=>rfl))
  obtain⟨cA,cB,eA,eB,b4,bg,bf,b3⟩:=b6;refine(jEAA _ rfl rfl (.inr (xah cB (congrArg (λb=>[V.bl b]) eB) r1 (if cB=true then 1 else 0) rfl rfl ?_)));refine(xaa _ rfl J p1 q1 9 rfl h1 (by decide) (by decide) (λr2 H2 b9 b8 f2=>(jAEA rfl _ rfl (and2 (cA:=decide (V.str C=V.str (S "rec"))) (λz=>(jEAA _ rfl rfl z)) (λb hb=>?_)))));rw[eA]at hb
  have be:0<=(if b=true then (1:Int) else 0)/\(if b=true then (1:Int) else 0)<=(if cA=true then (1:Int) else 0):=by
    cases b with
    |false=>exact⟨Int.le_refl _,b4⟩
    |true=>rw[hb rfl];exact⟨by decide,by decide⟩
  refine .inr (xah b rfl _ (if b=true then 1 else 0) rfl rfl (xb7 _ rfl (by omega) (by omega) ?_))
  all_goals
      have F2:Fed J H H2:=F1.trans f2;have ar:H2 pl=some (.lst []):=f2.1 _ _ au M
      refine xc3 (λi σ H'=>∃us,∃ps:List (Str×Str),∃left o6 o7,σ=[some (.ref J),some (.ref l),some (.str _),some (.ref nb),some (.ref pl),some (.int left),o6,o7]/\Fed J H H'/\H' pl=some (.lst us)/\RelDs H' us (ps.map xd0)/\ps.length=i/\ps.map (·.1)=n4.take i/\(∀p∈ps,KIn ks ks.length p.2)/\(ps.map λp=>sz ks p.2).sum+left=25/\-(i:Int)<=left)
        (xat ([]) ([]) 25 none none rfl F2 ar rfl rfl (jAAA rfl (λ_ h=>nomatch h) rfl (by decide))) ?_ ?_
      · rintro i σ H3 hi ⟨us,ps,left,o6,o7,rfl,F,a6,I,g,a7,ab,aj,a9⟩
        have bd:i<4:=by omega
        obtain⟨p3,q3,h3⟩:=F.2;have aa:=F.1 l _ hl lf;have bc:=F.1 nb _ al nf;have ag:=a4.tups (xar (jEE p q hf) F) _;refine⟨(by walk_at"s"),λl1 ax=>?_⟩;have U:=Same.new ax (.lst [.str (S "num")]);refine(xa9 _ rfl l rfl ⟨_,SqL.of (U _ _ aa)⟩ ?_);refine xox (j:=0) (xs:=ws) (λi ys H'=>H'=upd H3 l1 (.lst [.str (S "num")])/\ys=((ks.take i).map Kn.name).map V.str) (by rfl) ⟨rfl,rfl⟩ (xa6 (by omega)) (λi ys H' _ p=>by obtain⟨rfl,_⟩:=p;exact SqL.of (U _ _ aa)) ?_ ?_
        · rintro i' x ys H' hx am ⟨rfl,rfl⟩
          obtain⟨d,hd,rd⟩:=(ag.same U _).get hx;rw[zGM]at hd;obtain⟨k',az,rfl⟩:=zMS hd;obtain⟨b,b7,rfl,hb,_,_,rfl,rfl,_,_,rfl,rfl,v3,_,rfl,r3,rfl⟩:=rd;have b0:i'<ws.length:=(zES hx).1;refine(xaa _ rfl b _ _ _ rfl rfl (SqT.of hb) rfl (nxt b0 am ⟨rfl,?_⟩));rw[zTA,az];simp
        rintro ys H' am ⟨rfl,rfl⟩ D2 b5;rw[zTL (by omega)];have s2:=Same.new b5 (.lst ((ks.map Kn.name).map V.str));refine(xbd l1 D2 _ _ rfl rfl (s2 _ _ ups) ups (fits (by rw[zLM,zLM];show 1+_<=_;omega)) (λl3 a0=>?_));have s3:=Same.new a0 (.lst ([.str (S "num")]++(ks.map Kn.name).map V.str));have u:=U.trans (s2.trans s3);have aq:l3≠J:=Ne.symm (neN (s2 _ _ (U _ _ h3)) a0);refine(xbr _ rfl _ rfl l _ rfl (.inl (SqL.of (u _ _ aa))) _ (jEAA _ rfl rfl ?_));refine(xap J p3 q3 _ rfl (u _ _ h3) (by omega) (by omega) (λr H4 r0 ac f4=>?_));rw[ah]at ac;obtain⟨x,hx,Z⟩:=xla r0 ac;have an:H4 l3=some (.lst ([.str (S "num")]++(ks.map Kn.name).map V.str)):=f4.1 _ _ ups aq;refine(xap l3 _ _ _ rfl rfl (SqL.of an) hx ?_);have F4:Fed J H H4:=(F.same u).trans f4;have m:=f4.1 _ _ (u _ _ a6) M;have ai:=(I.same u _).tups (xar (jEE p3 q3 (u _ _ h3)) f4) _;have aw:=F4.1 l _ hl lf;have av:=F4.1 nb _ al nf;have af:=a4.tups (xar (jEE p q hf) F4) _;have O:KsSeq H4 (.ref l) ks:=(xaq l ws rfl (.inl aw) af);refine(xa8 _ rfl _ rfl _ ks x rfl O (jAA wf (Z.mono a2) (λH5 s5=>(xah _ rfl _ _ rfl rfl (jEA _ rfl (xtl (x:=.str x) (λy=>[some (.ref J),some (.ref l),some (.str C),some (.ref nb),some (.ref pl),some (.int left),some (.int (0+(i:Int))),some y]) rfl rfl id (λy hy=>?_)))))))
        obtain⟨Y,rfl,ae,ay⟩:∃Y,y=.str Y/\KIn ks ks.length Y/\-((i:Int)+1)<=left-sz ks Y:=by
          rcases hy with rfl |⟨rfl,b1⟩
          · exact ⟨S "num", rfl, .inl rfl, by have h1:sz ks (S "num") = 1 := xsj wf
                                              omega⟩
          · refine(jEAA _ rfl Z ?_)
            have h0:¬left<sz ks x:=of_decide_eq_false b1;omega
        · refine(xav _ rfl _ rfl _ rfl _ ks (xcy Y rfl (O.same s5) wf (ae.mono a2) (λH6 s6=>(xaq _ _ rfl rfl ?_))))
          have a3:=s5.trans s6;have ak:=a3 _ _ m;have a1:i<n4.length:=by omega
          refine(xba _ rfl (.inl (jAE rfl _ (SqL.of ak))) _ rfl (xaa _ rfl nb _ _ _ rfl rfl (SqL.of (a3 _ _ av)) (xku a1) (jEAA _ rfl (by walk_at"s") (λt ht=>?_))));have G:∀o,Same H4 (upd H6 t o):=λo=>a3.trans (Same.new ht o);have a5:=I.length;rw[zLM]at a5;refine(xam pl us _ rfl rfl (G _ _ _ m) (xa6 (by omega)) ?_);refine(xat _ (ps++[(n4[i],Y)]) _ _ _ rfl (Fed.put (F4.same (G _)) a8 M _) ups ?_ (by rw[zLA,List.length_singleton,g]) (jAAA ?_ (λz hz=>?_) ?_ (by push_cast;exact ay)))
          · rw[zAP]
            refine RelDs.append ((ai.same (G _) _).tups (lst_tups (G _ _ _ m) _) _) ?_;exact(xaq _ ([]) rfl (xag t _ rfl (lst_tups (G _ _ _ m) _ _ _ ups) _ _ rfl rfl _ (jEAA _ rfl rfl rfl)) rfl)
          · rw[zAP,a7,zTA,zGA a1]
            rfl
          · rcases zMA hz with hz |hz
            · exact ab z hz
            · rw[zMO hz];exact ae
          · show((ps++[(n4[i],Y)]).map λp=>sz ks p.2).sum+(left-sz ks Y)=25
            rw[zAP,List.sum_append];simp only[List.map_cons,List.map_nil,List.sum_cons,List.sum_nil];omega
      · rintro σ H3 ⟨us,ps,left,o6,o7,rfl,F,a6,I,g,a7,ab,aj,a9⟩
        have a5:=I.length;rw[zLM]at a5;refine(jEA _ rfl (xah _ rfl pl us rfl (SqL.of a6) (λc2 b2=>?_)))
        have ao:cutV us none (some 4)=us:=by
          unfold cutV;rw[show HT.sIx us.length 0 none=0 from rfl,List.drop_zero,Nat.sub_zero];refine zTL ?_;unfold HT.sIx;simp;omega
        have U:=Same.new b2 (.lst (cutV us none (some 4)));refine(jEEA c2 _ rfl (.inl ⟨SqL.of ups,λt ht=>?_⟩));have s2:=Same.new ht (.tup (cutV us none (some 4)));refine k _ ps _ (F.same (U.trans s2)) (xaq t us rfl (by rw[ao];exact ups) (I.same (U.trans s2) _)) (by omega) (by rw[g];exact a7) ?_ ab (by omega);intro ha e;have h9:=b3 ha;rw[e]at g;simp only[List.length_nil]at g;omega
def xm4:Sp:=λvs H Q _=>∃(f nb:Addr) (p q:Int) (nms:List Str),vs=[.ref f,.ref nb]/\H f=some (.lst [.int p,.int q])/\H nb=some (.lst (nms.map V.str))/\xje nms/\nb≠f/\∀v ks (H':Hp),Fed f H H'->RelD H' v (xdg ks)->xtx nms ks->Fit ks->Q v H'
theorem xnq(T:Tx K mg)(a:DefIs P w K mg base n "_law_take" qac xdb)(g:DefIs P w K mg base n "_law_parts" qbc xji):DefIs P w K mg base (n+1) "_law_kinds" qbn xm4:=by
 refine DefIs.of T.k9 scl_kinds (by walk_at"l") (λf aq A outer s H vs Q E hr h=>?_);obtain⟨G,nb,p,q,j,rfl,hf,ag,J,nf,k⟩:=h;have nd:=scl_kinds.nd
 refine⟨_,(zpn (psn 2 nd (xcg pN))
   (zpn (xbp PassesOwn.never rfl (xcc rfl T.uT (pc (pd a hr (va 0 (pc pI pN so))) pN zsc)) (pgn 3 nd)
   (zpn (psn 4 nd (pxl K (xcg (pc pS (pc pS pN so) so)) (pd a hr (va 0 (pc pI pN so)))))
   (zpo (xa1 (xds PySem.F.plainAttrs_list PySem.F.slot_list_append PySem.F.type_list_append xbs (pv 2) (pc (xaw (pc (pxl K (pv 1) (pv 3)) (va 4 (pc (pd g hr (va 0 (va 2 (va 4 (pc (xc6 xjn (pv 1) (xc9 pI) (xc9 pI)) pN ss))))) pN zsc)) ss)) pN sT))))))
   (zpo (xad (xay (xbk (K:=K) rfl) rfl T.uX PyProof.Rows.boot_tuple (v1 2)))))),?_⟩
 refine⟨(by walk_at"s"),λl hl=>?_⟩;have s0:=Same.new hl (.lst []);have lf:l≠G:=Ne.symm (neN hf hl);have a0:=J.1;refine(xaa _ rfl G p q 5 rfl (s0 _ _ hf) (by decide) (by decide) (λr1 H1 al ak f1=>(xb7 _ rfl (by omega) (by omega) ?_)));have F1:Fed G H H1:=⟨s0.but.trans f1.1,f1.2⟩;have af:H1 l=some (.lst []):=f1.1 _ _ ups lf
 refine xc3 (λi σ H'=>∃us,∃ks:List Kn,∃o3 o4,σ=[some (.ref G),some (.ref nb),some (.ref l),o3,o4]/\Fed G H H'/\H' l=some (.lst us)/\RelDs H' us (ks.map Kn.d)/\ks.length=i/\Fit ks/\xtx j ks)
  (xbg ([]) ([]) none none rfl F1 af rfl rfl Fit.nil (jAAA KWf.nil (Nat.zero_le _) rfl (λ_ h=>nomatch h))) ?_ ?_
 ·rintro i σ H2 hi ⟨us,ks,o3,o4,rfl,F,a3,I,M,C,wf,an,ai,ah⟩
  have ao:i<4:=by omega
  have ac:=I.length;rw[zLM]at ac;obtain⟨p2,q2,h2⟩:=F.2;refine⟨(by walk_at"s"),λl1 a7=>?_⟩;have U:=Same.new a7 (.lst [.str (S "rec"),.str (S "alt")]);have aa:l1≠G:=Ne.symm (neN h2 a7);refine(xaa _ rfl G p2 q2 2 rfl (U _ _ h2) (by decide) (by decide) (λr H3 r0 am f3=>?_))
  have ab:∃b:Str,atI [V.str (S "rec"),V.str (S "alt")] r=some (.str b)/\(b=S "rec"\/b=S "alt"):=by
   rcases(show r=0\/r=1 by omega) with rfl |rfl
   ·exact(jEA (S "rec") rfl (.inl rfl))
   ·exact(jEA (S "alt") rfl (.inr rfl))
  obtain⟨b,aj,u⟩:=ab;refine(xap l1 _ _ _ rfl rfl (SqL.of (f3.1 _ _ ups aa)) aj ?_);have F3:Fed G H H3:=(F.same U).trans f3;obtain⟨p3,q3,h3⟩:=f3.2;have y:=f3.1 _ _ (U _ _ a3) lf;have Y:=(I.same U _).tups (xar (jEE p2 q2 (U _ _ h2)) f3) _;have a6:=F3.1 nb _ ag nf;have O:i<j.length:=by omega
  refine(xba _ rfl (.inl (jAE rfl _ (SqL.of y))) _ rfl (xaa _ rfl nb _ _ _ rfl rfl (SqL.of a6) (xku O) (jEA _ rfl ?_)));refine(xb0 _ rfl _ rfl _ rfl _ rfl _ rfl (xah _ rfl nb _ rfl (SqL.of a6) (λc hc=>?_)));rw[xtv a0];have sc:=Same.new hc (.lst (((j.drop 8).take 4).map V.str));have cf:c≠G:=Ne.symm (neN h3 hc);refine(xaj G l c b p3 (xbg q3 us ks ((j.drop 8).take 4) rfl (sc _ _ h3) (sc _ _ y) (Y.same sc _) wf ups (jAAA (by rw[List.length_take,List.length_drop,a0];rfl) u lf ⟨cf,λv ps H4 f4 rv h4 a2 a8 Z a5=>?_⟩)));have F4:Fed G H H4:=(F3.same sc).trans f4;have m:=f4.1 _ _ (sc _ _ y) lf;have a4:=(Y.same sc _).tups (xar (jEE p3 q3 (sc _ _ h3)) f4) _;refine⟨(by walk_at"s"),λt ht=>?_⟩;have s5:∀o,Same H4 (upd H4 t o):=λo=>Same.new ht o;refine(xam l us _ rfl rfl (s5 _ _ _ m) (xa6 (by omega)) ?_);have a9:=xuf J ps.length
  have a1:(Kn.mk j[i] (decide (b=S "rec")) ps).sort=b:=by
   unfold Kn.sort;rcases u with rfl |rfl
   ·rfl
   ·show(if decide (S "alt"=S "rec")=true then _ else _)=_
    rw[if_neg (by walk_at"k")]
  have x:ks.map Kn.name=j.take i:=by rw[ai,M]
  have w2:KWf (ks++[Kn.mk j[i] (decide (b=S "rec")) ps]):=by
   refine wf.snoc ?_ (J.2.2 _ (List.getElem_mem O)) Z ?_ (by omega) (by show ps.length<=5;omega) (by show(ps.map (·.1)).Nodup;rw[a2];exact a9.1) (λz hz=>a9.2 z.1 (by rw[<- a2];exact List.mem_map_of_mem hz))
   ·show j[i] ∉ks.map Kn.name
    rw[x];exact xnw J.2.1 O
   ·intro ae
    refine a8 ?_;rcases u with e |e
    ·exact absurd ae (by show ¬decide (b=S "rec")=false;rw[e];decide +kernel)
    ·exact e
  refine(xbg _ (ks++[Kn.mk j[i] (decide (b=S "rec")) ps]) _ _ rfl (Fed.put (F4.same (s5 _)) hl lf _) ups ?_ (by rw[zLA,List.length_singleton,M]) (C.snoc wf w2 Z (xpz wf a5)) ?_)
  ·rw[zAP]
   refine RelDs.append ((a4.same (s5 _) _).tups (lst_tups (s5 _ _ _ m) _) _) ?_;refine(xaq _ ([]) rfl (xag t _ rfl (lst_tups (s5 _ _ _ m) _ _ _ ups) _ _ rfl rfl _ (xb4 _ rfl ?_ _ _ rfl ((rv.same (s5 _) _).tups (lst_tups (s5 _ _ _ m) _) _) rfl)) rfl);show V.str b=V.str _;rw[a1]
  ·refine(jAAA w2 (by rw[zLA,List.length_singleton];omega) ?_ ?_)
   ·rw[zAP,x,zLA,List.length_singleton,M,zTA,zGA O]
    rfl
   ·intro z hz
    rcases zMA hz with hz |hz
    ·exact ah z hz
    ·rw[zMO hz]
     exact⟨h4,a2⟩
 ·rintro σ H2 ⟨us,ks,o3,o4,rfl,F,a3,I,M,C,hK⟩
  refine(jEA _ rfl (jEEA l us rfl (.inl ⟨SqL.of a3,λt ht=>?_⟩)));have U:=Same.new ht (.tup us);exact k _ ks _ (F.same U) (xaq t us rfl ups (I.same U _)) hK C
def xh1:Sp:=λvs H Q _=>∃(a:Addr) (p q:Int),vs=[.ref a]/\H a=some (.lst [.int p,.int q])/\∀(i:Int) (H':Hp),Nm i->Fed a H H'->Q (.int i) H'
theorem xde(T:Tx K x)(b:DefIs P w K x base n "_law_take" qac xdb):DefIs P w K x base (n+1) "_law_number" qan xh1:=by
 refine DefIs.of T.kY scl_number (λvs H Q E h=>?_) (λf I A outer s H vs Q E j h=>?_)
 ·obtain⟨a,p,q,rfl,_⟩:=h
  rfl
 obtain⟨a,p,q,rfl,G,k⟩:=h;have nd:=scl_number.nd;have M:(2:Int) ^ (32:Int).toNat=4294967296:=by decide
 refine⟨_,(zpn (psn 1 nd (pd b j (va 0 (pc pI pN so))))
   (zpn (xax (pR xjt (pv 1) pI (nM _)) (zpo (xad (pd b j (va 0 (pc pI pN so))))) pQ)
   (zpn (xax (pR xbe (pv 1) pI (nM _)) (zpo (xad (xaz xic (xaz xic (xaz xqi pI pI) pI) (pd b j (va 0 (pc pI pN so)))))) pQ)
   (zpo (xad (pd b j (va 0 (pc (xaz xqi pI pI) pN xcf)))))))),?_⟩
 refine(xaa _ rfl a p q 4 rfl G (by decide) (by decide) (λJ O C z l=>?_));obtain⟨o,m,r⟩:=l.2;refine(xah _ rfl _ _ rfl rfl (jEA _ rfl ?_));refine ite2 (λc=>?_) (λc=>?_)
 ·exact(xaa _ rfl a o m 6 rfl r (by decide) (by decide) (λu y e g i=>k _ _ ⟨e,by omega⟩ (l.trans i)))
 refine(xba _ rfl rfl _ rfl ?_);refine ite2 (λc=>?_) (λc=>?_)
 ·refine(xcv _ _ rfl rfl (jAA (by decide) (by decide) (by decide)) (xaq _ _ rfl rfl (xaa _ rfl a o m 6 rfl r (by decide) (by decide) (λu y e g i=>(xaq _ _ rfl rfl (k _ _ ⟨by omega,by omega⟩ (l.trans i)))))))
 ·refine(xah _ rfl _ _ rfl rfl (jAE (jAA (by decide) (by decide) (by decide)) a (xam o m _ rfl r (by omega) (by omega) (λu y e g i=>k _ _ ⟨e,by omega⟩ (l.trans i)))))
def xcr:Sp:=λvs H Q _=>∃v ks x,vs=[v,.str x]/\KsAt H v ks/\Q (xt8 (kAt ks x)) H
def xb6:Sp:=λvs H Q _=>∃v ks x,vs=[v,.str x]/\KsAt H v ks/\∀u H',Same H H'->RelD H' u (xnj (kAt ks x))->Q u H'
theorem xb8(T:Tx K y):DefIs P w K y base (n+1) "sort_of" qab xcr:=by
 refine DefIs.of T.jF sc_sort_of (by walk_at"l") (λf O A outer s H vs Q E Z h=>?_);obtain⟨v,ks,x,rfl,I,q⟩:=h;have nd:=sc_sort_of.nd
 refine⟨_,(zpn (xbp PassesOwn.never rfl (xan (K:=K) rfl (pv 0)) (xa3 (K:=K) rfl rfl (xac (pgn 2 nd) (xac (pgn 3 nd) (xac (pgn 4 nd) xa2))))
   (zpo (xax (pR xbe (pv 2) (pv 1) (nM _)) (zpo (xad (pv 3))) pQ)))
   (zpo (xad xca))),?_⟩
 obtain⟨a,us,rfl,r,u⟩:=I.1;refine(xa9 _ rfl a rfl ⟨_,SqT.of r⟩ ?_);have G:=u.length;rw[zLM]at G;refine xck (xs:=us) (λi σ j=>∃o m l,σ=[some (.ref a),some (.str x),o,m,l]/\j=H/\(ks.take i).find? (λk=>decide (k.name=x))=none) (xcx none none none rfl rfl rfl) (λi σ j _ p=>?_) ?_ ?_
 ·obtain⟨_,_,_,_,rfl,_⟩:=p
  exact SqT.of r
 ·rintro i v σ j C ⟨o,m,l,rfl,rfl,hn⟩
  obtain⟨d,hd,rd⟩:=u.get C;rw[zGM]at hd;obtain⟨k,g,rfl⟩:=zMS hd;obtain⟨b,ws,rfl,J,_,_,rfl,rfl,_,_,rfl,rfl,U,_,rfl,Y,rfl⟩:=rd;refine(xao b _ rfl (SqT.of J) rfl _ _ rfl _ (xah _ rfl _ _ rfl rfl ?_));refine(xct _ rfl _ rfl rfl _ rfl (ite2 (λc=>?_) (λc=>?_)))
  ·have e:k.name=x:=V.str.inj (of_decide_eq_true c)
   have M:kAt ks x=some k:=(xce hn g).1 (zDT e);refine(jEA _ rfl ?_);rw[M]at q;exact q
  ·have e:¬k.name=x:=λz=>c (zDT (congrArg V.str z))
   exact(xcx _ _ _ rfl rfl ((xce hn g).2 (zDF e)))
 ·rintro σ j ⟨o,m,l,rfl,rfl,hn⟩
  rw[zTL (by omega)]at hn;rw[show kAt ks x=none from hn]at q;exact q
theorem xbi(T:Tx K C):DefIs P w K C base (n+1) "parts_of" qab xb6:=by
 refine DefIs.of T.jG sc_parts_of (by walk_at"l") (λf Y A outer s H vs Q E hr h=>?_);obtain⟨v,ks,x,rfl,M,q⟩:=h;have nd:=sc_parts_of.nd
 refine⟨_,(zpn (xbp PassesOwn.never rfl (xan (K:=K) rfl (pv 0)) (xa3 (K:=K) rfl rfl (xac (pgn 2 nd) (xac (pgn 3 nd) (xac (pgn 4 nd) xa2))))
   (zpo (xax (pR xbe (pv 2) (pv 1) (nM _)) (zpo (xad (pv 4))) pQ)))
   (zpo (xad (xaw pN)))),?_⟩
 obtain⟨a,us,rfl,r,u⟩:=M.1;refine(xa9 _ rfl a rfl ⟨_,SqT.of r⟩ ?_);have J:=u.length;rw[zLM]at J;refine xck (xs:=us) (λi σ j=>∃o m l,σ=[some (.ref a),some (.str x),o,m,l]/\j=H/\(ks.take i).find? (λk=>decide (k.name=x))=none) (xcx none none none rfl rfl rfl) (λi σ j _ p=>?_) ?_ ?_
 ·obtain⟨_,_,_,_,rfl,_⟩:=p
  exact SqT.of r
 ·rintro i v σ j G ⟨o,m,l,rfl,rfl,hn⟩
  obtain⟨d,hd,rd⟩:=u.get G;rw[zGM]at hd;obtain⟨k,g,rfl⟩:=zMS hd;obtain⟨b,ws,rfl,O,_,_,rfl,rfl,_,_,rfl,rfl,Z,_,rfl,y,rfl⟩:=rd;refine(xao b _ rfl (SqT.of O) rfl _ _ rfl _ (xah _ rfl _ _ rfl rfl ?_));refine(xct _ rfl _ rfl rfl _ rfl (ite2 (λc=>?_) (λc=>?_)))
  ·have e:k.name=x:=V.str.inj (of_decide_eq_true c)
   have U:kAt ks x=some k:=(xce hn g).1 (zDT e);refine(jEA _ rfl ?_);rw[U]at q;exact q _ _ (Same.refl _) y
  ·have e:¬k.name=x:=λz=>c (zDT (congrArg V.str z))
   exact(xcx _ _ _ rfl rfl ((xce hn g).2 (zDF e)))
 ·rintro σ j ⟨o,m,l,rfl,rfl,hn⟩
  rw[zTL (by omega)]at hn;rw[show kAt ks x=none from hn]at q;exact⟨(by walk_at"s"),λp I=>q _ _ (Same.new I _) (xaq p ([]) rfl ups rfl)⟩
def bKV(bs:List (Str×Str)):List (Key×V):=bs.map λb=>(Sum.inr b.1,V.str b.2)
theorem xfn{H:Hp}:∀{us:List V} {bs:List (Str×Str)},RelDs H us (bs.map xd0)->PairsV H us (bKV bs)
 |us,[],h=>by rw[show us=[] from h];trivial
 |us,b::bs,⟨v,r,e,g,f⟩=>by
  subst e;obtain⟨a,ws,rfl,c,_,_,rfl,rfl,_,_,rfl,rfl,rfl⟩:=g;exact⟨(jEA a rfl c),xfn f⟩
theorem xgd{y:Str}:∀(bs:List (Str×Str)) (acc:List (Key×V)),(∀b∈bs,b.1≠y)->valV (xa5 acc (bKV bs)) (Sum.inr y)=valV acc (Sum.inr y)
 |[],acc,_=>rfl
 |b::bs,acc,h=>by
  show valV (xa5 (putK acc (Sum.inr b.1) (.str b.2)) (bKV bs)) (Sum.inr y)=_;rw[xgd bs _ λc a=>h c (by simp[a]),xcz,if_neg λe=>h b (by simp) (Sum.inr.inj e).symm]
theorem xfp:∀(bs:List (Str×Str)) (acc:List (Key×V)),(bs.map (·.1)).Nodup->∀p∈bs,valV (xa5 acc (bKV bs)) (Sum.inr p.1)=some (.str p.2)
 |[],acc,_,p,a=>nomatch a
 |b::bs,acc,nd,p,a=>by
  rw[List.map_cons,List.nodup_cons]at nd;show valV (xa5 (putK acc (Sum.inr b.1) (.str b.2)) (bKV bs)) (Sum.inr p.1)=_;rcases zMC a with rfl |a
  ·rw[xgd bs _ λc f e=>nd.1 (by rw[<- e];exact List.mem_map_of_mem f),xcz,if_pos rfl]
  ·exact xfp bs _ nd.2 p a
theorem xeq{H a:Hp}{c:Addr}(s:Same H a)(n:a c=none):H c=none:=by
 cases h:H c with
 |none=>rfl
 |some o=>
  rw[s _ _ h]at n;cases n
theorem xg6{H e:Hp}{c:Addr}(s:Same H e)(n:H c=none)(o:HO):Same H (upd e c o):=λb u a=>by
 rw[xai (neN a n)];exact s b u a
theorem lst_tups{H:Hp}{p:Addr}{xs:List V}(h:H p=some (.lst xs))(o:HO):∀b vs,H b=some (.tup vs)->upd H p o b=some (.tup vs):=λb vs a=>by
 rw[xai λe=>by rw[e,h]at a;cases a];exact a
theorem xli{H:Hp}{p:Addr}{kvs:List (Key×V)}(h:H p=some (.dK kvs))(o:HO):∀b vs,H b=some (.tup vs)->upd H p o b=some (.tup vs):=λb vs a=>by
 rw[xai λe=>by rw[e,h]at a;cases a];exact a
theorem xdd{k:Kn}(h:k.rc=true):k.sort=S "rec":=by unfold Kn.sort;rw[if_pos h]
theorem xdh{k:Kn}(h:k.rc=false):k.sort=S "alt":=by unfold Kn.sort;rw[if_neg (by rw[h];decide)]
theorem xq6{k:Key}{v:V}:∀{kvs:List (Key×V)},valV kvs k=none->putK kvs k v=kvs++[(k,v)]:=λ{kvs} h=>by
 unfold putK;rw[if_neg λz=>?_];obtain⟨e,a,b⟩:=List.any_eq_true.mp z;unfold valV at h;have:=List.find?_eq_none.mp (Option.map_eq_none_iff.mp h) e a;exact this b
theorem xrk{ks:List Kn}{i:Nat}{k:Kn}{G:Str->Bool}(nd:(ks.map Kn.name).Nodup)(b:ks[i]?=some k):kAt ((ks.take i).filter λk=>G k.name) k.name=none:=by
 unfold kAt;refine List.find?_eq_none.mpr λk' a=>?_;have f:=(List.mem_filter.mp a).1;obtain⟨j,g,e⟩:=zMI f;rw[List.length_take]at g;intro c;have n:k'.name=k.name:=of_decide_eq_true c;have hi:i<ks.length:=(zES b).1
 have m:(ks.map Kn.name)[j]?=some k.name:=by
  rw[zGM,zGA (by omega:j<ks.length)];rw[List.getElem_take]at e;rw[e,<- n];rfl
 have h:(ks.map Kn.name)[i]?=some k.name:=by rw[zGM,b];rfl
 have:=(List.getElem?_inj (l:=ks.map Kn.name) (i:=j) (j:=i) (by rw[zLM];omega) nd).mp (m.trans h.symm);omega
def xf2:Sp:=λvs H Q _=>∃(a:Addr) (ys:List Wy) (x:Str),vs=[.ref a,.str x]/\WaysAt H a ys/\Q (optV (xc2 ys x)) H
def xem:Sp:=λvs H Q _=>∃(kv:V) (wa:Addr) (ov nv:V) (ys:List Wy) (ps:List (Str×Str)),vs=[kv,.ref wa,ov,nv]/\WaysAt H wa ys/\RelD H ov (xdr ps)/\RelD H nv (xdr ps)/\(ps.map (·.1)).Nodup/\ps.length<=100/\(∀p∈ps,xc2 ys p.2=some p.2)/\∀u H',Same H H'->RelD H' u (.tup (ps.map λp=>tBox p.1))->Q u H'
def xkx:Sp:=λvs H Q _=>∃(kv:V) (wa:Addr) (dv:V) (ks:List Kn) (ys:List Wy) (k:Kn),vs=[kv,.ref wa,dv]/\KsAt H kv ks/\WaysAt H wa ys/\RelD H dv k.d/\kAt ks k.name=some k/\(k.parts.map (·.1)).Nodup/\k.parts.length<=100/\(∀p∈k.parts,xc2 ys p.2=some p.2) ∧
 ∀u H',Same H H'->RelD H' u (.tup (k.parts.map λp=>.tup [.str p.1,tTag k.name p.1 (tBox (S "it"))]))->Q u H'
def xsl:Sp:=λvs H Q _=>∃(kv:V) (wa:Addr) (dv:V) (ks:List Kn) (ys:List Wy) (k:Kn),vs=[kv,.ref wa,dv]/\KsAt H kv ks/\WaysAt H wa ys/\RelD H dv k.d ∧
 ((kAt ks k.name=none/\Q .non H)\/(kAt ks k.name=some k/\(k.parts.map (·.1)).Nodup/\k.parts.length<=100/\(∀p∈k.parts,xc2 ys p.2=some p.2)/\∀u H',Same H H'->RelD H' u (howD k)->Q u H'))
def xm2:Sp:=λvs H Q _=>∃(fa sa ta:Addr) (kv1 kv2:V) (r1 r2:List V) (ks ks2:List Kn) (G:Str->Bool),vs=[.ref fa,.ref sa,.ref ta]/\H fa=some (.tup (kv1::r1))/\H sa=some (.tup (kv2::r2))/\H ta=some (.dK [])/\RelD H kv1 (xdg ks)/\KWf ks/\KsAt H kv2 ks2 ∧
 (∀k∈ks,kAt ks2 k.name=if G k.name=true then some k else none)/\(∀(i:Nat) k,ks[i]?=some k->G k.name=true->∀p∈k.parts,p.2=S "num"\/∃j k',j<i/\ks[j]?=some k'/\k'.name=p.2/\G k'.name=true) ∧
 ∀r wa la kvs H',Same H H'->H r=none->H wa=none->H la=none->H' r=some (.tup [.ref wa,.ref la])->H' wa=some (.dK kvs)->WAll H' kvs ((ks.filter λk=>G k.name).map wyK)->H' la=some (.lst ((ks.filter λk=>!G k.name).map λk=>V.str k.name))->Q (.ref r) H'
theorem xco(T:Tx K r):DefIs P w K r base (n+1) "goes_to" qaf xf2:=by
 refine DefIs.of T.j0 sc_goes_to (by walk_at"l") (λf J A outer s H vs Q E C h=>?_);obtain⟨a,ys,x,rfl,⟨kvs,hd,u⟩,q⟩:=h;have nd:=sc_goes_to.nd;have l:=xdl C
 refine⟨_,(zpn (xax (pR xbe (pv 1) pS (nM _)) (zpo (xad pS)) pQ)
   (zpn (xax (xf4 (xni l (pv 1) (pv 0))) (zpo (xad (px K (xcm l (pv 0) (pv 1) (λ_ _=>rfl)) pI))) pQ)
   (zpo (xad xca)))),?_⟩
 unfold xc2 at q;refine(xba _ rfl rfl _ rfl (ite2 (λc=>?_) (λc=>?_)))
 ·have e:x=S "num":=V.str.inj (of_decide_eq_true c)
  rw[if_pos e]at q;exact q
 ·have e:¬x=S "num":=λz=>c (zDT (congrArg V.str z))
  rw[if_neg e]at q;have j:=u.val (x:=x)
  cases i:wyAt ys x with
  |none=>
   rw[i]at q;have h0:=j.1 i;refine(xbw _ rfl _ rfl a _ rfl (DGet.rd (k:=Sum.inr x) hd) _ rfl (xum (by rw[h0];rfl) ?_));exact q
  | some y=>
   rw[i]at q;obtain⟨v,m,I⟩:=j.2 y i;refine(xbw _ rfl _ rfl a _ rfl (DGet.rd (k:=Sum.inr x) hd) _ rfl (xpy (by rw[m];rfl) ?_));obtain⟨b,us,rfl,G,o,_,rfl,p,v1,_,rfl,M,rfl⟩:=I;obtain rfl:o=.str y.2.1:=p
   have g:DGet H a (.str x) (some (.ref b)):=by
    have:=DGet.rd (k:=Sum.inr x) hd;rw[m]at this;exact this
   exact(xbr _ rfl _ rfl a _ rfl g b (xam _ _ _ rfl rfl (SqT.of G) rfl q))
theorem xe5(T:Tx K mg)(a0:Sp)(e:DefIs P w K mg base n "goes_to" qaf xf2)(c:DefIs P w K mg base n "nought_term" qak a0):DefIs P w K mg base (n+1) "terms_by_rules" qap xem:=by
 refine DefIs.of T.kC sc_terms_by_rules (by walk_at"l") (λf ac A outer s H vs Q E hr h=>?_);obtain⟨kv,wa,ov,nv,ys,ps,rfl,hw,ho,hv,a8,hl,hg,q⟩:=h;have nd:=sc_terms_by_rules.nd;have hu:=xdl hr;obtain⟨oa,a1,rfl,a6,a5⟩:=ho;obtain⟨na,a2,rfl,M,J⟩:=hv;have a7:=J.length;rw[zLM]at a7
 refine⟨_,(zpn (psn 4 nd (xay (xe8 rfl) rfl T.uL PyProof.Rows.boot_dict (v1 2)))
   (zpn (psn 5 nd (xcg pN))
   (zpn (xbp PassesOwn.never rfl (xan (K:=K) rfl (pv 3)) (xa3 (K:=K) rfl rfl (xac (pgn 6 nd) (xac (pgn 7 nd) xa2)))
   (zpo (xax (xf4 (xdu hu (pv 6) (pv 4))) (zpo (xa1 (xds PySem.F.plainAttrs_list PySem.F.slot_list_append PySem.F.type_list_append xbs (pv 5) (pc (pd c hr (va 0 (v1 7))) pN zsc)))) (zpo (xax (pR xbe (pd e hr (va 1 (pc (xcm hu (pv 4) (pv 6) (λ_ _=>rfl)) pN ss))) (pv 7) (nM _)) (zpo (xa1 (xds PySem.F.plainAttrs_list PySem.F.slot_list_append PySem.F.type_list_append xbs (pv 5) (pc (xaw (pc pS (v1 6) so)) pN sT)))) (zpo (xad xca)))))))
   (zpo (xad (xay (xbk (K:=K) rfl) rfl T.uX PyProof.Rows.boot_tuple (v1 5))))))),?_⟩
 refine(xb3 _ rfl oa a1 (bKV ps) rfl a6 ⟨xfn a5,λdp a9=>?_⟩);have Z:=Same.new a9 (.dK (xa5 [] (bKV ps)));refine⟨(by walk_at"s"),λl y=>?_⟩;have Y:=Same.new y (.lst []);have a3:dp≠l:=neN ups y;refine(xa9 _ rfl na rfl ⟨_,SqT.of (Y _ _ (Z _ _ M))⟩ ?_);refine xck (xs:=a2) (λi σ r=>∃o6 o7 us,σ=[some kv,some (.ref wa),some (.ref oa),some (.ref na),some (.ref dp),some (.ref l),o6,o7]/\Same H r/\r dp=some (.dK (xa5 [] (bKV ps)))/\r l=some (.lst us)/\RelDs r us ((ps.take i).map λp=>tBox p.1)) (xam none none ([]) rfl (Z.trans Y) (Y _ _ ups) ups rfl) (λi σ r _ p=>?_) ?_ ?_
 ·obtain⟨_,_,_,_,x,_⟩:=p
  exact SqT.of (x _ _ M)
 ·rintro i v σ r hv ⟨o6,o7,us,rfl,x,hd,j,m⟩
  obtain⟨d,U,rd⟩:=(J.same x _).get hv;rw[zGM]at U;obtain⟨o,G,rfl⟩:=zMS U;obtain⟨b,ws,rfl,hb,_,_,rfl,rfl,_,_,rfl,rfl,rfl⟩:=rd;have I:=zMG G;have z:=xfp ps [] a8 o I;have O:=m.length;rw[zLM,List.length_take]at O
  have g:DGet r dp (.str o.1) (some (.str o.2)):=by
   have:=DGet.k (H:=r) (a:=dp) (k:=Sum.inr o.1) hd;rw[z]at this;exact this
  refine(xao b _ rfl (SqT.of hb) rfl _ _ rfl _ (jEAA _ rfl rfl ?_));refine(xbw _ rfl _ rfl dp _ rfl g _ rfl (iteF ?_));refine(xbc _ rfl _ rfl _ rfl dp _ rfl g (xcx wa ys o.2 rfl (hw.same x) ?_));rw[hg o I];refine(xba _ rfl rfl _ rfl (iteKT (zDT rfl) ?_));refine(xba _ rfl (.inl (jAE rfl _ (SqL.of j))) _ rfl ⟨(by walk_at"s"),λt C=>(xam l us _ rfl rfl ((Same.new C _) _ _ j) (xa6 (by omega)) ?_)⟩);have u:=Same.new C (.tup [.str (S "box"),.str o.1]);have ab:l≠t:=neN j C;have a4:dp≠l:=a3;have nl:H l=none:=xeq (Z) y;refine(xam _ _ (us++[.ref t]) rfl (xg6 (x.trans u) nl _) ?_ ups ?_)
  ·rw[xai a4]
   exact u _ _ hd
  ·have tp:=lst_tups (u _ _ j) (.lst (us++[.ref t]))
   rw[zTA,G];show RelDs _ _ ((ps.take i++[o]).map _);rw[zAP];have aa:RelDs (upd r t (.tup [.str (S "box"),.str o.1])) [.ref t] [tBox o.1]:=(xaq _ ([]) rfl (xag t _ rfl ups _ _ rfl rfl _ (jEAA _ rfl rfl rfl)) rfl);exact((m.same u _).append aa).tups tp _
 ·rintro σ r ⟨o6,o7,us,rfl,x,hd,j,m⟩
  rw[zTL (by omega)]at m;refine(jEA _ rfl (jEEA l us rfl (.inl ⟨SqL.of j,λt C=>?_⟩)));have u:=Same.new C (.tup us);exact q _ _ (x.trans u) (xaq t us rfl ups (m.same u _))
theorem xfl(T:Tx K mg)(j:DefIs P w K mg base n "goes_to" qaf xf2)(e:DefIs P w K mg base n "parts_of" qab xb6):DefIs P w K mg base (n+1) "tags_by_rules" qai xkx:=by
 refine DefIs.of T.kD sc_tags_by_rules (by walk_at"l") (λf ai A outer s H vs Q E hr h=>?_);obtain⟨kv,wa,dv,ks,ys,k,rfl,hk,hw,af,ae,ac,hl,hg,q⟩:=h;have nd:=sc_tags_by_rules.nd;have hu:=xdl hr;obtain⟨da,_,rfl,a2,_,_,rfl,rfl,_,_,rfl,rfl,ah,_,rfl,⟨pa,M,rfl,ab,Z⟩,rfl⟩:=af;have aa:=Z.length;rw[zLM]at aa
 refine⟨_,(zpn (psn 3 nd (px K (pv 2) pI))
   (zpn (psn 4 nd (xay (xe8 rfl) rfl T.uL PyProof.Rows.boot_dict (pc (pd e hr (va 0 (v1 3))) pN zsc)))
   (zpn (xbp PassesOwn.never rfl (xan (K:=K) rfl (px K (pv 2) pI)) (xa3 (K:=K) rfl rfl (xac (pgn 5 nd) (xac (pgn 6 nd) xa2)))
   (zpo (xax (PW.pt (xue (xf4 (xdu hu (pv 5) (pv 4))) (xsv (pR xgl (xcm hu (pv 4) (pv 5) (λ_ _=>rfl)) (pd j hr (va 1 (v1 6))) (nM _))))) (zpo (xad xca)) pQ)))
   (zpo (xad (xay (xbk (K:=K) rfl) rfl T.uX PyProof.Rows.boot_tuple (pc (xbm ["tag","inner","K"] [none,none,some 3] rfl (by kernel_rfl) (xan (K:=K) rfl (px K (pv 2) pI)) (λ_ _ _ _=>(xa3 (K:=K) (n:=2) rfl rfl (xac (pgc 0) (xac (pgc 1) xa2)))) (λ_ _ _ _=>xbl) (λ_ _ _ _=>(xaw (va 0 (pc (xaw (pc pS (va 2 (va 0 (pc (xaw (pc pS (pc pS pN so) so)) pN sT))) so)) pN sT))))) pN xb1))))))),?_⟩
 refine(xaa _ rfl da _ _ _ rfl rfl (SqT.of a2) rfl ?_);refine(xa8 _ rfl _ rfl kv ks k.name rfl hk (λu H1 s1 ru=>?_));rw[ae]at ru;obtain⟨ta,a4,rfl,a6,a5⟩:=ru;refine(xda ta a4 (bKV k.parts) rfl a6 (xfn a5) (λdp ag=>?_));have J:=Same.new ag (.dK (xa5 [] (bKV k.parts)));have G:=s1.trans J;have m:=G _ _ a2;have c:=G _ _ ab;have a3:upd H1 dp (.dK (xa5 [] (bKV k.parts))) dp=some (.dK (xa5 [] (bKV k.parts))):=ups;have l:=Z.same G _;have U:=hw.same G;generalize upd H1 dp (.dK (xa5 [] (bKV k.parts)))=H2 at G m c a3 l U⊢;refine(xaa _ rfl da _ _ _ rfl rfl (SqT.of m) rfl (jEAA pa rfl ⟨_,SqT.of c⟩ ?_));refine xck (xs:=M) (λi σ C=>∃o5 o6,σ=[some kv,some (.ref wa),some (.ref da),some (.str k.name),some (.ref dp),o5,o6]/\C=H2) (jEEA none none rfl rfl) (λi σ C _ p=>by obtain⟨_,_,_,rfl⟩:=p;exact SqT.of c) ?_ ?_
 ·rintro i v σ C hv ⟨o5,o6,rfl,rfl⟩
  obtain⟨d,o,rd⟩:=l.get hv;rw[zGM]at o;obtain⟨r,z,rfl⟩:=zMS o;obtain⟨b,ws,rfl,hb,_,_,rfl,rfl,_,_,rfl,rfl,rfl⟩:=rd;have a0:=zMG z;have Y:=xfp k.parts [] ac r a0
  have g:DGet C dp (.str r.1) (some (.str r.2)):=by
   have:=DGet.k (H:=C) (a:=dp) (k:=Sum.inr r.1) a3;rw[Y]at this;exact this
  refine(xao b _ rfl (SqT.of hb) rfl _ _ rfl _ (jEAA _ rfl rfl ?_));refine(xbw _ rfl _ rfl dp _ rfl g _ rfl (iteF ?_));refine(xbw _ rfl _ rfl dp _ rfl g _ rfl (xb3 _ rfl wa ys r.2 rfl U ?_));rw[hg r a0];exact(jAEA rfl _ rfl (xmi rfl (jEEA _ _ rfl rfl)))
 ·rintro σ C ⟨o5,o6,rfl,rfl⟩
  refine(xaa _ rfl da _ _ _ rfl rfl (SqT.of m) rfl (jEAA pa rfl ⟨_,SqT.of c⟩ ?_));refine xbu (xs:=M) (λi zs H3=>Same C H3/\zs.length=i/\RelDs H3 zs ((k.parts.take i).map λp=>.tup [.str p.1,tTag k.name p.1 (tBox (S "it"))])) (jAA (Same.refl _) rfl rfl) (xa6 (by omega)) (λi zs H3 _ p=>SqT.of (p.1 _ _ c)) ?_ ?_
  ·rintro i y zs H3 hy hi a1 ⟨sm,O,x⟩
   obtain⟨d,o,rd⟩:=(l.same sm _).get hy;rw[zGM]at o;obtain⟨r,z,rfl⟩:=zMS o;obtain⟨b,ws,rfl,hb,_,_,rfl,rfl,_,_,rfl,rfl,rfl⟩:=rd;refine(xao b _ rfl (SqT.of hb) rfl _ _ rfl _ (xb7 _ rfl rfl (ext2 rfl rfl) (xdo ?_)));refine(jEA _ rfl (xa9 _ rfl _ rfl (by walk_at"s") (λt1 a9=>⟨(by walk_at"s"),λt2 a8=>⟨(by walk_at"s"),λt3 a7=>?_⟩⟩)));have J:=Same.new a9 (.tup [.str (S "box"),.str (S "it")]);have y2:=Same.new a8 (.tup [.str (S "tag"),.str k.name,.str r.1,.ref t1]);have y3:=Same.new a7 (.tup [.str r.1,.ref t2]);have I:=y2.trans y3;have y:=J.trans I;refine nxtG hi a1 (jAA (sm.trans y) (by rw[zLA,List.length_singleton,O]) ?_);rw[zTA,z];show RelDs _ _ ((k.parts.take i++[r]).map _);rw[zAP];exact(x.same y _).append (xaq _ ([]) rfl (xag t3 _ rfl ups _ _ rfl rfl _ (jEAA _ rfl (xag t2 _ rfl (y3 _ _ ups) _ _ rfl rfl _ (xb4 _ rfl rfl _ _ rfl rfl (xaq _ _ rfl (xag t1 _ rfl (I _ _ ups) _ _ rfl rfl _ (jEAA _ rfl rfl rfl)) rfl))) rfl)) rfl)
  ·rintro zs H3 a1 ⟨sm,O,x⟩ D hD
   rw[zTL (by omega)]at x;have J:=Same.new hD (.lst zs);refine(jEEA D zs rfl (.inl ⟨SqL.of ups,λt ht=>?_⟩));have y2:=Same.new ht (.tup zs);have y:=J.trans y2;exact q _ _ (G.trans (sm.trans y)) (xaq t zs rfl ups (x.same y _))
theorem xf8(T:Tx K o)(g:DefIs P w K o base n "sort_of" qab xcr)(e:DefIs P w K o base n "parts_of" qab xb6)(c:DefIs P w K o base n "tags_by_rules" qai xkx)(a:DefIs P w K o base n "terms_by_rules" qap xem):DefIs P w K o base (n+1) "how_by_rules" qai xsl:=by
 refine DefIs.of T.kB sc_how_by_rules (by walk_at"l") (λf a2 A outer s H vs Q E C h=>?_);obtain⟨kv,O,dv,ks,ys,k,rfl,M,Y,x,hq⟩:=h;have nd:=sc_how_by_rules.nd;have r:=x;obtain⟨l,_,rfl,i,_,_,rfl,rfl,_,_,rfl,rfl,a0,_,rfl,J,rfl⟩:=r
 refine⟨_,(zpn (psn 3 nd (px K (pv 2) pI))
   (zpn (xax (pR xgl (pd g C (va 0 (v1 3))) (px K (pv 2) pI) (nM _)) (zpo (xad xca)) pQ)
   (zpn (xax (pR xbe (px K (pv 2) pI) pS (nM _)) (zpo (xad (pd c C (va 0 (va 1 (v1 2)))))) pQ)
   (zpn (psn 4 nd (pd a C (va 0 (va 1 (pc (px K (pv 2) pI) (pc (pd e C (va 0 (v1 3))) pN zsc) ss)))))
   (zpn (xax (pR xfd (pv 4) xca (nM _)) (zpo (xad xca)) pQ)
   (zpo (xad (xaw (pc pS (va 3 (v1 4)) so))))))))),?_⟩
 refine(xaa _ rfl l _ _ _ rfl rfl (SqT.of i) rfl ?_);refine(xa8 _ rfl _ rfl kv ks k.name rfl M ?_);rcases hq with⟨j,q⟩ |⟨j,p,Z,hg,q⟩
 ·rw[j]
  refine(xaa _ rfl l _ _ _ rfl rfl (SqT.of i) rfl (jAEA rfl _ rfl (xpy (by show(!decide (V.non=V.str k.sort))=true;rw[zDF (λz=>by cases z)];rfl) ?_)));exact q
 ·rw[j]
  refine(xaa _ rfl l _ _ _ rfl rfl (SqT.of i) rfl (jAEA rfl _ rfl (xmi rfl ?_)));unfold howD at q
  cases G:k.rc with
  |false=>
   rw[if_neg (by rw[G];decide)]at q;refine(xaa _ rfl l _ _ _ rfl rfl (SqT.of i) rfl (jAEA rfl _ rfl (iteKT (zDT (by rw[xdh G];rfl)) ?_)));exact(xav _ rfl _ rfl _ rfl kv O (xbg _ ks ys k rfl M Y x j p (jAA Z hg q)))
  |true=>
   rw[if_pos G]at q;refine(xaa _ rfl l _ _ _ rfl rfl (SqT.of i) rfl (jAEA rfl _ rfl (iteKF (zDF (by rw[xdd G];decide +kernel)) ?_)));refine(xav _ rfl _ rfl _ rfl l _ (xcb _ _ rfl rfl (SqT.of i) rfl (xa8 _ rfl _ rfl kv ks k.name rfl M (λu H1 I U=>?_))));rw[j]at U;refine(xaj kv O _ u ys (xa7 k.parts rfl (Y.same I) (J.same I _) U p (jAA Z hg (λu2 H2 s2 m=>?_))));obtain⟨b,us,rfl,hb,a1⟩:=id m;refine(xba _ rfl rfl _ rfl (iteF ?_));refine(xa9 _ rfl _ rfl (by walk_at"s") (λt ht=>?_));have y:=Same.new ht (.tup [.str (S "rec"),.str k.name,.ref b]);exact q _ _ (I.trans (s2.trans y)) (xag t _ rfl ups _ _ rfl rfl _ (xb4 _ rfl rfl _ _ rfl (m.same y _) rfl))
theorem xil(T:Tx K mg)(c:DefIs P w K mg base n "how_by_rules" qai xsl):DefIs P w K mg base (n+1) "made_ways" qa6 xm2:=by
 refine DefIs.of T.kA sc_made_ways (by walk_at"l") (λf ay A outer s H vs Q E hr h=>?_);obtain⟨fa,sa,ta,au,ab,r1,r2,ks,ks2,G,rfl,am,af,ae,ak,wf,aj,hG,ao,q⟩:=h;have nd:=sc_made_ways.nd;have hu:=xdl hr;have a8:=ak;obtain⟨ka,ac,rfl,a7,a6⟩:=a8;have ah:=a6.length;rw[zLM]at ah;have aq:=wf.few
 refine⟨_,(zpn (psn 3 nd (xay xe9 rfl T.uL PyProof.Rows.boot_dict (v1 2)))
   (zpn (psn 4 nd (xcg pN))
   (zpn (xbp PassesOwn.never rfl (xan (K:=K) rfl (px K (pv 0) pI)) (pgn 5 nd)
   (zpn (psn 6 nd (px K (pv 5) pI))
   (zpo (xax (xf4 (xdu hu (pv 6) (pv 3))) (zpn (psn 7 nd (pd c hr (pc (px K (pv 1) pI) (va 3 (v1 5)) ss)))
   (zpo (xax (pR xfd (pv 7) xca (nM _)) (zpo (xa1 (xds PySem.F.plainAttrs_list PySem.F.slot_list_append PySem.F.type_list_append xbs (pv 4) (v1 6)))) (zpo (xha hu (pv 3) (pv 6) (xaw (va 6 (v1 7))) rfl))))) pQ))))
   (zpo (xad (xaw (va 3 (v1 4)))))))),?_⟩
 refine(xah _ rfl ta ([]) rfl ae (λo U=>?_));have y1:=Same.new U (.dK []);refine⟨(by walk_at"s"),λO Y=>?_⟩;have y2:=Same.new Y (.lst []);have wl:o≠O:=neN ups Y;have a0:H O=none:=xeq y1 Y;have M:=y1.trans y2;refine(xaa _ rfl fa _ _ _ rfl rfl (SqT.of (M _ _ am)) (xas (j:=0) rfl) (jEAA ka rfl ⟨_,SqT.of (M _ _ a7)⟩ ?_))
 refine xck (xs:=ac) (λi σ J=>∃o5 o6 o7 kvs,σ=[some (.ref fa),some (.ref sa),some (.ref ta),some (.ref o),some (.ref O),o5,o6,o7]/\Same H J/\J o=some (.dK kvs)/\WAll J kvs (((ks.take i).filter λk=>G k.name).map wyK)/\J O=some (.lst (((ks.take i).filter λk=>!G k.name).map λk=>V.str k.name)))
  (xap none none none ([]) rfl M (y2 _ _ ups) trivial ups) (λi σ J _ p=>?_) ?_ ?_
 ·obtain⟨_,_,_,_,_,C,_⟩:=p
  exact SqT.of (C _ _ a7)
 ·rintro i v σ J hv ⟨o5,o6,o7,kvs,rfl,C,hw,g,l⟩
  obtain⟨d,a9,rd⟩:=(a6.same C _).get hv;rw[zGM]at a9;obtain⟨k,hk,rfl⟩:=zMS a9;have Z:=zMG hk;have aa:=rd;obtain⟨da,_,rfl,an,_,_,rfl,rfl,_,_,rfl,rfl,ar,_,rfl,aw,rfl⟩:=aa;have ag:=xrk (G:=G) wf.nd hk;have a4:valV kvs (Sum.inr k.name:Key)=none:=(g.val (x:=k.name)).1 (by rw[xhs,ag];rfl);have ax:i<ks.length:=(zES hk).1;have a5:=g.len
  have av:kvs.length<=100:=by
   have h1:=List.length_filter_le (λk:Kn=>G k.name) (ks.take i);rw[zLM]at a5;rw[List.length_take]at h1;omega
  refine(xaa _ rfl da _ _ _ rfl rfl (SqT.of an) rfl ?_)
  have g0:DGet J o (.str k.name) none:=by
   have:=DGet.k (H:=J) (a:=o) (k:=Sum.inr k.name) hw;rw[a4]at this;exact this
  refine(xbw _ rfl _ rfl o _ rfl g0 _ rfl (iteT ?_));refine(xaa _ rfl sa _ _ _ rfl rfl (SqT.of (C _ _ af)) (xas (j:=0) rfl) (xal _ rfl _ rfl ab o _ (xam ks2 _ k rfl (aj.same C) (jEA kvs (.inl hw) g) rd ?_)));have I:=hG k Z
  have tk:∀F:Kn->Bool,(ks.take (i+1)).filter F=(ks.take i).filter F++(if F k=true then [k] else []):=λF=>by
   rw[zTA,hk];show(ks.take i++[k]).filter F=_;rw[List.filter_append,List.filter_cons];cases F k <;> rfl
  cases m:G k.name with
  | false=>
   rw[m]at I;refine .inl ⟨I,?_⟩;refine(xba _ rfl rfl _ rfl (iteT ?_));refine(xba _ rfl (.inl (jAE rfl _ (SqL.of l))) _ rfl (xam O _ _ rfl rfl l (xa6 ?_) ?_))
   ·rw[zLM]
    have h1:=List.length_filter_le (λk:Kn=>!G k.name) (ks.take i);rw[List.length_take]at h1;omega
   have tp:=lst_tups l (.lst ((((ks.take i).filter λk=>!G k.name).map λk=>V.str k.name)++[.str k.name]));refine(xap _ _ _ kvs rfl (xg6 C a0 _) (by rw[xai wl];exact hw) ?_ ?_)
   ·rw[tk,if_neg (by rw[m];decide),List.append_nil]
    exact g.tups tp
   ·rw[tk,if_pos (by rw[m];rfl),zAP]
    exact ups
  | true=>
   rw[m]at I;refine .inr (jAAA I (wf.pnd k Z) (by have:=wf.pts k Z;omega) ⟨λp hp=>xet ?_,λu H1 s1 ru=>?_⟩)
   ·rcases ao i k hk m p hp with h |⟨j,k',hj,ai,e,al⟩
    ·exact .inl h
    ·refine .inr (jEA k' (List.mem_filter.mpr ⟨?_,al⟩) e)
     exact zMG (i:=j) (by rw[List.getElem?_take_of_lt hj];exact ai)
   ·obtain⟨hb,rfl⟩:∃b,u=.ref b:=by
     unfold howD at ru;split at ru <;> (obtain⟨b,_,z,_⟩:=ru;exact⟨b,z⟩)
    refine(xba _ rfl rfl _ rfl (iteF ?_));refine(xa9 _ rfl _ rfl (by walk_at"s") (λt ht=>?_));have y:=Same.new ht (.tup [.str k.name,.ref hb]);have s3:=s1.trans y;have a2:=s3 _ _ hw;refine(jEA _ rfl (xah _ rfl o _ rfl (DPut.k (k:=Sum.inr k.name) a2 (xa6 (by omega))) ?_));rw[xq6 a4];have tp:=xli a2 (.dK (kvs++[(Sum.inr k.name,.ref t)]));have a1:RelD (upd H1 t (.tup [.str k.name,.ref hb])) (.ref t) (wyD (wyK k)):=(xag t _ rfl ups _ _ rfl rfl _ (jEAA _ rfl (ru.same y _) rfl));refine(xap _ _ _ _ rfl (xg6 (C.trans s3) U _) ups ?_ ?_)
    ·rw[tk,if_pos m,zAP]
     exact((g.tups λb us e=>s3 _ _ e).snoc (kv:=(Sum.inr k.name,.ref t)) (y:=wyK k) ⟨rfl,a1⟩).tups tp
    ·rw[tk,if_neg (by rw[m];decide),List.append_nil,xai (Ne.symm wl)]
     exact s3 _ _ l
 ·rintro σ J ⟨o5,o6,o7,kvs,rfl,C,hw,g,l⟩
  rw[zTL (by omega)]at g l;refine(xa9 _ rfl _ rfl (by walk_at"s") (λr a3=>?_));have y:=Same.new a3 (.tup [.ref o,.ref O]);exact q r o O kvs _ (C.trans y) (xeq C a3) U a0 ups (y _ _ hw) (g.tups λb us e=>y _ _ e) (y _ _ l)
abbrev RW:=List Kn->En->D->D->Prop
def xdi(R:RW)(m:Nat):Sp:=λvs H Q _=>∃kv tv p ks d env val,vs=[kv,tv,.ref p]/\KsAt H kv ks/\RelD H tv d/\EnAt H p m env/\R ks env d val/\∀u H',Same H H'->RelD H' u val->Q u H'
def xhz:Sp:=λvs H Q _=>∃s x y,vs=[.str s,.int x,.int y]/\Nm x/\Nm y/\Q (.int (opV s x y)) H
theorem xjw(T:Tx K g):DefIs P w K g base (n+1) "op_worth" qa8 xhz:=by
 refine DefIs.of T.kL xjo (by walk_at"l") (λf j A outer s H vs Q E p h=>?_);obtain⟨s,x,y,rfl,i,o,q⟩:=h
 refine⟨_,(zpn (xax (pR xbe (pv 0) pS (nM _)) (zpo (xad (xaz xcd (xaz xby (pv 1) (pv 2)) (xhc T.uK)))) pQ)
   (zpn (xax (pR xbe (pv 0) pS (nM _)) (zpo (xad (xaz xcd (xaz xic (pv 1) (pv 2)) (xhc T.uK)))) pQ)
   (zpn (xax (pR xbe (pv 0) pS (nM _)) (zpo (xad (xaz xcd (xaz xec (pv 1) (pv 2)) (xhc T.uK)))) pQ)
   (zpn (xax (pR xbe (pv 0) pS (nM _)) (zpo (xad (xhb (pR xjt (pv 1) (pv 2) (nM _)) pI pI))) pQ)
   (zpo (xad (xhb (pR xbe (pv 1) (pv 2) (nM _)) pI pI))))))),?_⟩
 have pos:(0:Int)<4294967296:=by decide
 unfold opV at q;refine(xba _ rfl rfl _ rfl (ite2 (λc=>?_) (λc=>?_)))
 ·rw[if_pos (show s=S "+" from V.str.inj (of_decide_eq_true c))]at q
  exact(xbr _ rfl _ rfl _ _ rfl rfl _ (xb7 _ rfl rfl pos q))
 rw[if_neg (show ¬s=S "+" from λz=>c (zDT (congrArg V.str z)))]at q;refine(xba _ rfl rfl _ rfl (ite2 (λc=>?_) (λc=>?_)))
 ·rw[if_pos (show s=S "-" from V.str.inj (of_decide_eq_true c))]at q
  exact(xbr _ rfl _ rfl _ _ rfl rfl _ (xb7 _ rfl rfl pos q))
 rw[if_neg (show ¬s=S "-" from λz=>c (zDT (congrArg V.str z)))]at q;refine(xba _ rfl rfl _ rfl (ite2 (λc=>?_) (λc=>?_)))
 ·rw[if_pos (show s=S "*" from V.str.inj (of_decide_eq_true c))]at q
  obtain⟨m,l⟩:=i;exact(jEA _ rfl (xah _ rfl _ _ rfl rfl (jAE (.inl ⟨by omega,by omega⟩) _ (xb7 _ rfl rfl pos q))))
 rw[if_neg (show ¬s=S "*" from λz=>c (zDT (congrArg V.str z)))]at q;refine(xba _ rfl rfl _ rfl (ite2 (λc=>?_) (λc=>?_)))
 ·rw[if_pos (show s=S "<" from V.str.inj (of_decide_eq_true c))]at q
  refine(xbw _ rfl _ rfl _ _ rfl rfl _ rfl (ite2 (λe=>?_) (λe=>?_)))
  ·rw[if_pos (of_decide_eq_true e)]at q
   exact q
  ·rw[if_neg (λz=>e (zDT z))]at q
   exact q
 rw[if_neg (show ¬s=S "<" from λz=>c (zDT (congrArg V.str z)))]at q;refine(xct _ rfl _ rfl rfl _ rfl (ite2 (λe=>?_) (λe=>?_)))
 ·rw[if_pos (V.int.inj (of_decide_eq_true e))]at q
  exact q
 ·rw[if_neg (λz=>e (zDT (congrArg V.int z)))]at q
  exact q
def xf1(m:Nat):Sp:=λvs H Q _=>∃p x v d env,vs=[.ref p,.str x,v]/\EnAt H p m env/\RelD H v d/\m<=1000/\∀p' H',Same H H'->EnAt H' p' (m+1) (env.put x d)->Q (.ref p') H'
theorem xf6(T:Tx K g):DefIs P w K g base (n+1) "with_box" qa2 (xf1 m):=by
 refine DefIs.of T.jY sc_with_box (by walk_at"l") (λf u A outer s H vs Q E l h=>?_);obtain⟨p,x,v,d,env,rfl,⟨kvs,b,o,r⟩,i,z,q⟩:=h;have nd:=sc_with_box.nd;have j:=xdl l
 refine⟨_,(zpn (psn 3 nd (xay xe9 rfl T.uL PyProof.Rows.boot_dict (v1 0)))
   (zpn (xha j (pv 3) (pv 1) (pv 2) rfl)
   (zpo (xad (pv 3))))),?_⟩
 refine(xah _ rfl p kvs rfl b (λc e=>?_));have y:=Same.new e (.dK kvs);refine(xbc _ rfl _ rfl _ rfl c _ rfl (DPut.k (k:=Sum.inr x) ups (xa6 (by omega))) (jEA _ rfl ?_));have a:=Same.new2 e (.dK kvs) (.dK (putK kvs (Sum.inr x) v));exact q c _ a (EnAt.put b o r a (i.same a _) ups)
def xm5:Sp:=λvs H Q _=>∃kv vv ks k kn ws f i d,vs=[kv,vv,.str f]/\KsAt H kv ks/\RelD H vv (.tup [.str k,.tup ws])/\kAt ks k=some kn/\(kn.parts.map (·.1)).findIdx? (λz=>decide (z=f))=some i/\ws[i]?=some d/\∀u H',Same H H'->RelD H' u d->Q u H'
theorem xpm(T:Tx K Z)(a:DefIs P w K Z base n "parts_of" qab xb6):DefIs P w K Z base (n+1) "field" qbl xm5:=by
 refine DefIs.of T.kJ sc_field (by walk_at"l") (λf a4 A outer s H vs Q E hr h=>?_);obtain⟨kv,vv,ks,k,G,ws,f',i,d,rfl,hk,O,C,hi,hw,q⟩:=h;have nd:=sc_field.nd
 refine⟨_,(zpn (xc1 (i:=3) ["part"] [none] rfl (by kernel_rfl) nd rfl (by walk_at"o") (xan (K:=K) rfl (pd a hr (va 0 (pc (px K (pv 1) pI) pN ss)))) (λ_ _ _ _=>(pgc 0)) (λ_ _ _ _=>xbl) (λ_ _ _ _=>(px K (pv 0) pI)))
   (zpo (xad (px K (px K (pv 1) pI) (xds PySem.F.plainAttrs_list PySem.F.slot_list_index PySem.F.type_list_index xpr (pv 3) (v1 2)))))),?_⟩
 obtain⟨l,us,rfl,ha,_,_,rfl,rfl,vw,_,rfl,J,rfl⟩:=O;obtain⟨c,zs,rfl,hc,y⟩:=J;refine(xal _ rfl _ rfl l _ _ (xcy _ rfl rfl (SqT.of ha) rfl (xcx _ ks k rfl hk (λu H1 s1 Y=>?_))));rw[C]at Y;obtain⟨e,ps,rfl,he,z⟩:=Y;have hl:=z.length;rw[zLM]at hl;have a2:G.parts.length<=100:=hk.2.2 G (zMF C);refine(jEAA e rfl ⟨_,SqT.of he⟩ ?_);refine xdn (j:=0) (xs:=ps) (λi ys I=>I=H1/\ys=((G.parts.take i).map (·.1)).map V.str) (by rfl) ⟨rfl,rfl⟩ (xa6 (by omega)) (λi ys I _ p=>by obtain⟨rfl,_⟩:=p;exact SqT.of he) ?_ ?_
 ·rintro i x ys I hx r ⟨rfl,rfl⟩
  obtain⟨d',g,o⟩:=z.get hx;rw[zGM]at g;obtain⟨pt,U,rfl⟩:=zMS g;obtain⟨b,a0,rfl,hb,_,_,rfl,rfl,_,_,rfl,rfl,rfl⟩:=o;have hi:i<ps.length:=(zES hx).1;refine(xaa _ rfl b _ _ _ rfl rfl (SqT.of hb) rfl (nxt hi r ⟨rfl,?_⟩));rw[zTA,U];simp
 ·rintro ys I r ⟨rfl,rfl⟩ D hD
  rw[zTL (by omega)];rw[zTL (by omega)]at r;have sD:=Same.new hD (.lst ((G.parts.map (·.1)).map V.str));have m:=s1.trans sD
  have M:∃v,zs[i]?=some v/\RelD H v d:=by
   have a3:i<ws.length:=(zES hw).1;have a1:=y.length;obtain⟨d',g,o⟩:=y.get (i:=i) (v:=zs[i]) (zGA (by omega));rw[hw]at g;cases g;exact(jEA (zs[i]) (zGA (by omega)) o)
  obtain⟨v,O,rv⟩:=M;refine(xaa _ rfl l _ _ _ rfl rfl (SqT.of (m _ _ ha)) rfl ?_);refine(xba _ rfl (.inl (jAE rfl _ (SqL.of ups))) _ rfl (xap D _ f' i rfl rfl ups hi ?_));exact(xap c _ _ v rfl rfl (SqT.of (m _ _ hc)) (xas O) (q _ _ m (rv.same m _)))
def xf3(R:RW)(m:Nat):Sp:=λvs H Q _=>∃kv tv p ks env a rs k t x y e val,vs=[kv,tv,.ref p]/\KsAt H kv ks/\RelD H tv (xq0 a rs)/\EnAt H p m env/\rs.length<=1000/\R ks env a (.tup [.str k,.str t,x])/\rs.find? (λr=>decide (r.1=t))=some (t,y,e)/\R ks (env.put y x) e val ∧
 ∀u H',Same H H'->RelD H' u val->Q u H'
theorem xhk(T:Tx K mg)(R:RW)(hm:m<=1000)(o:DefIs P w K mg base n "worth" qaa (xdi R (m+1)))(C:DefIs P w K mg base n "with_box" qa2 (xf1 m)):DefIs P w K mg base (n+1) "case_worth" qaa (xf3 R m):=by
 refine DefIs.of T.kM sc_case_worth (by walk_at"l") (λf a6 A outer s H vs Q E hr h=>?_);obtain⟨kv,tv,p,ks,env,a,rs,k,t,x,y,e,val,rfl,hk,hv,he,hl,h1,hf,h2,q⟩:=h;have nd:=sc_case_worth.nd
 refine⟨_,(zpn (psn 3 nd (pd o hr (va 0 (pc (px K (pv 1) pI) (v1 2) ss))))
   (zpn (psn 4 nd (pxl K (xbm ["each","value"] [none,some 3] rfl (by kernel_rfl) (xan (K:=K) rfl (px K (pv 1) pI)) (λ_ _ _ _=>(pgc 0)) (λ_ _ _ _=>(xe2 (pR xbe (px K (pv 0) pI) (px K (pv 1) pI) (nM _)))) (λ_ _ _ _=>(pv 0))) pI))
   (zpo (xad (pd o hr (va 0 (pc (px K (pv 4) pI) (pc (pd C hr (va 2 (pc (px K (pv 4) pI) (pc (px K (pv 3) pI) pN ss) ss))) pN zsc) ss))))))),?_⟩
 obtain⟨b,us,rfl,hb,_,_,rfl,rfl,va,_,rfl,ra,vr,_,rfl,rr,rfl⟩:=hv;obtain⟨c,ws,rfl,hc,a0⟩:=rr;refine(xal _ rfl _ rfl b _ _ (xbt _ rfl rfl (SqT.of hb) rfl _ rfl ?_));refine(xaj _ _ _ ks _ (xak env _ rfl hk ra (he.mono (by omega)) h1 (λu H1 s1 r1=>?_)));obtain⟨g,zs,rfl,hg,_,_,rfl,rfl,_,_,rfl,rfl,vx,_,rfl,rx,rfl⟩:=r1;refine(xaa _ rfl b _ _ _ rfl rfl (SqT.of (s1 _ _ hb)) rfl (jEAA c rfl ⟨_,SqT.of (s1 _ _ hc)⟩ ?_));have a4:=a0.length;rw[zLM]at a4;refine xbu (xs:=ws) (λi ys H'=>H'=H1/\∃ds:List (Str×Str×D),ds=(rs.take i).filter (λr=>decide (r.1=t))/\RelDs H1 ys (ds.map dArm)) (jAEA rfl ([]) rfl rfl) (xa6 (by omega)) (λi ys H' _ p=>by obtain⟨rfl,_⟩:=p;exact SqT.of (s1 _ _ hc)) ?_ ?_
 ·rintro i z ys H' hz hi O ⟨rfl,ds,rfl,G⟩
  obtain⟨d,hd,rd⟩:=(a0.same s1 _).get hz;rw[zGM]at hd;obtain⟨r,a1,rfl⟩:=zMS hd;have a3:=rd;obtain⟨l,zs,rfl,U,_,_,rfl,rfl,_,_,rfl,rfl,_,_,rfl,re,rfl⟩:=rd;refine⟨xgi rfl,?_⟩;refine(xaa _ rfl l _ _ _ rfl rfl (SqT.of U) rfl (xaa _ rfl g _ _ _ rfl rfl (SqT.of hg) rfl (jAEA rfl _ rfl (ite2 (λcc=>?_) (λcc=>?_)))))
  ·have ee:r.1=t:=V.str.inj (of_decide_eq_true cc)
   refine(jEA _ rfl (nxtG hi O (jAEA rfl _ rfl ?_)));rw[zTA,a1,List.filter_append,zAP];refine G.append ?_;simp only[Option.toList,List.filter_cons,zDT ee,if_true,List.filter_nil,List.map_cons,List.map_nil];exact(xaq _ ([]) rfl a3 rfl)
  ·have ee:¬r.1=t:=λz=>cc (zDT (congrArg V.str z))
   refine nxtN hi O (jAEA rfl _ rfl ?_);rw[zTA,a1,List.filter_append,zAP];simp only[Option.toList,List.filter_cons,zDF ee,Bool.false_eq_true,if_false,List.filter_nil,List.map_nil,List.append_nil];exact G
 ·rintro ys H' O ⟨rfl,ds,rfl,G⟩ D hD
  rw[zTL (by omega)]at G;have hh:(rs.filter (λr=>decide (r.1=t))).head?=some (t,y,e):=by rw[List.head?_filter,hf]
  obtain⟨rest,M⟩:∃rest,rs.filter (λr=>decide (r.1=t))=(t,y,e)::rest:=by
   cases hq:rs.filter (λr=>decide (r.1=t)) with
   |nil=>rw[hq]at hh;cases hh
   |cons z zs=>rw[hq]at hh;exact⟨zs,by rw[Option.some.inj hh]⟩
  rw[M]at G;obtain⟨Y,I,rfl,r0,_⟩:=G;have Z:=Same.new hD (.lst (Y::I));refine(xap D _ 0 Y rfl rfl (SqL.of ups) (xas (j:=0) rfl) ?_);obtain⟨l,zs,rfl,U,_,_,rfl,rfl,_,_,rfl,rfl,ve,_,rfl,re,rfl⟩:=r0;have J:=s1.trans Z;have a2:SqT K (upd H' D (.lst (.ref l::I))) l [.str t,.str y,ve]:=SqT.of (Z _ _ U);refine(xal _ rfl _ rfl l _ _ (xbt _ rfl rfl a2 rfl _ rfl (xaa _ rfl l _ _ _ rfl rfl a2 rfl (xaa _ rfl g _ _ _ rfl rfl (SqT.of (Z _ _ hg)) rfl ?_))));refine(xb2 p y vx x env rfl (he.same J) (rx.same Z _) hm (λp' H2 s2 a5=>?_));exact(xaj _ _ _ ks _ (xak _ _ rfl (hk.same (J.trans s2)) (re.same (Z.trans s2) _) a5 h2 (λu H3 s3 r3=>q u H3 (J.trans (s2.trans s3)) r3)))
theorem xpl (T:Tx K mg) (R:RW) (g:DefIs P w K mg base n "worth" qaa (xdi R m)) (G:DefIs P w K mg base n "op_worth" qa8 xhz)
  (Y:DefIs P w K mg base n "field" qbl xm5) (r:DefIs P w K mg base n "case_worth" qaa (xf3 R m)) :
  DefIs P w K mg base (n+1) "worth" qaa (xdi (λks env d v=>xls env d v\/xo3 ks (R ks) env d v) m):=by
 refine DefIs.of T.kK sc_worth (by walk_at"l") (λf aa A outer s H vs Q E U h=>?_);obtain⟨kv,tv,p,ks,d,env,val,rfl,hk,O,he,hR,q⟩:=h;have nd:=sc_worth.nd;have hu:=xdl U
 refine⟨_,(zpn (psn 3 nd (px K (pv 1) pI))
   (zpn (xax (pR xbe (pv 3) pS (nM _)) (zpo (xad (px K (pv 1) pI))) pQ)
   (zpn (xax (pR xbe (pv 3) pS (nM _)) (zpo (xad (xcm hu (pv 2) (px K (pv 1) pI) (λ_ _=>rfl)))) pQ)
   (zpn (xax (pR xbe (pv 3) pS (nM _)) (zpo (xad (pd G U (pc (px K (pv 1) pI) (pc (pd g U (va 0 (pc (px K (pv 1) pI) (v1 2) ss))) (pc (pd g U (va 0 (pc (px K (pv 1) pI) (v1 2) ss))) pN zsc) zsc) ss)))) pQ)
   (zpn (xax (pR xbe (pv 3) pS (nM _)) (zpo (xad (xaw (pc (px K (pv 1) pI) (pc (xay (xbk (K:=K) rfl) rfl T.uX PyProof.Rows.boot_tuple (pc (xbm ["inner","kinds","boxes"] [none,some 0,some 2] rfl (by kernel_rfl) (xan (K:=K) rfl (px K (pv 1) pI)) (λ_ _ _ _=>(pgc 0)) (λ_ _ _ _=>xbl) (λ_ _ _ _=>(pd g U (va 1 (va 0 (v1 2)))))) pN xb1)) pN zsc) ss)))) pQ)
   (zpn (xax (pR xbe (pv 3) pS (nM _)) (zpo (xad (pd Y U (va 0 (pc (pd g U (va 0 (pc (px K (pv 1) pI) (v1 2) ss))) (pc (px K (pv 1) pI) pN ss) zsc))))) pQ)
   (zpn (xax (pR xbe (pv 3) pS (nM _)) (zpo (xad (xaw (pc (px K (pv 1) pI) (pc (px K (pv 1) pI) (pc (pd g U (va 0 (pc (px K (pv 1) pI) (v1 2) ss))) pN zsc) ss) ss)))) pQ)
   (zpn (xax (pR xbe (pv 3) pS (nM _)) (zpo (xad (pd r U (va 0 (va 1 (v1 2)))))) pQ)
   (zpn (psn 4 nd (xhb (pR xbe (pd g U (va 0 (pc (px K (pv 1) pI) (v1 2) ss))) pI (nM _)) (px K (pv 1) pI) (px K (pv 1) pI)))
   (zpo (xad (pd g U (va 0 (va 4 (v1 2))))))))))))))),?_⟩
 rcases hR with(⟨i,rfl,rfl⟩ |⟨x,hx,rfl⟩) |⟨sg,a,b,x,y,M,h2,nx,ny,rfl,rfl⟩ |⟨k,es,ws,hl,M,rfl,rfl⟩ |⟨a,k,ws,f',kn,i,M,a8,hi,hw,rfl⟩ |⟨k,t,a,x,M,rfl,rfl⟩ |⟨a,rs,k,t,x,y,e,hl,M,hf,h2,rfl⟩ |⟨a,b,c,x,M,h2,rfl⟩
 ·obtain⟨a,us,rfl,C,_,_,rfl,rfl,_,_,rfl,rfl,rfl⟩:=O
  have hS:SqT K H a [.str (S "num"),.int i]:=SqT.of C;walk_at"rd";exact q _ _ (Same.refl _) rfl
 ·obtain⟨a,us,rfl,C,_,_,rfl,rfl,_,_,rfl,rfl,rfl⟩:=O
  have hS:SqT K H a [.str (S "box"),.str x]:=SqT.of C;obtain⟨kvs,hp,hl,hh⟩:=he;obtain⟨v,O,rv⟩:=(hh x).2 _ hx;walk_at"rd";exact(xaq p v rfl (O ▸ DGet.k (k:=Sum.inr x) hp) (q _ _ (Same.refl _) rv))
 ·obtain⟨l,us,rfl,C,_,_,rfl,rfl,_,_,rfl,rfl,va,_,rfl,Z,vb,_,rfl,rb,rfl⟩:=O
  have hS:SqT K H l [.str (S "op"),.str sg,va,vb]:=SqT.of C;walk_at"rd";refine(xaj _ _ _ ks _ (xak env _ rfl hk Z he M (λu H1 o r1=>?_)));obtain rfl:u=.int x:=r1;have J:SqT K H1 l [.str (S "op"),.str sg,va,vb]:=SqT.of (o _ _ C);refine(xal _ rfl _ rfl l _ _ (xbt _ rfl rfl J rfl _ rfl ?_));refine(xaj _ _ _ ks _ (xak env _ rfl (hk.same o) (rb.same o _) (he.same o) h2 (λu H2 I r2=>?_)));obtain rfl:u=.int y:=r2;exact(xda sg x y rfl nx ny (q _ _ (o.trans I) rfl))
 ·obtain⟨l,us,rfl,C,_,_,rfl,rfl,_,_,rfl,rfl,va,_,rfl,Z,rfl⟩:=O
  obtain⟨c,a2,rfl,hc,a3⟩:=Z;have hS:SqT K H l [.str (S "rec"),.str k,.ref c]:=SqT.of C;walk_at"rd";refine⟨⟨_,SqT.of hc⟩,?_⟩;have l1:=a3.length;have l2:=M.length;refine xdn (j:=0) (xs:=a2) (λi ys H'=>Same H H'/\RelDs H' ys (ws.take i)) (by rfl) ⟨Same.refl _,rfl⟩ (xa6 (by omega)) (λi ys H' _ p=>SqT.of (p.1 _ _ hc)) ?_ ?_
  ·rintro i x ys H' hx a4 ⟨sm,a0⟩
   obtain⟨d',a9,a6⟩:=a3.get hx;obtain⟨v',a1,a5⟩:=M.get a9;have hi:i<a2.length:=(zES hx).1;refine(xav _ rfl _ rfl _ rfl _ _ (xat _ ks _ env _ rfl (hk.same sm) (a6.same sm _) (he.same sm) a5 (λu H2 I r2=>nxt hi a4 ⟨sm.trans I,?_⟩)));rw[zTA,a1];exact(a0.same I _).append (xaq u ([]) rfl r2 rfl)
  ·rintro ys H' a4 ⟨sm,a0⟩ D hD
   rw[zTL (by omega)]at a0;refine(jEEA D ys rfl (.inl ⟨SqL.of ups,λl' a7=>?_⟩));have o:=Same.new hD (.lst ys);have I:=Same.new a7 (.tup ys);refine⟨(by walk_at"s"),λt ht=>?_⟩;have s3:=Same.new ht (.tup [.str k,.ref l']);exact q _ _ (sm.trans (o.trans (I.trans s3))) (xag t _ rfl ups _ _ rfl rfl _ (jEAA _ rfl (xaq l' ys rfl (s3 _ _ ups) (a0.same (o.trans (I.trans s3)) _)) rfl))
 ·obtain⟨l,us,rfl,C,_,_,rfl,rfl,va,_,rfl,Z,_,_,rfl,rfl,rfl⟩:=O
  have hS:SqT K H l [.str (S "get"),va,.str f']:=SqT.of C;walk_at"rd";refine(xaj _ _ _ ks _ (xak env _ rfl hk Z he M (λu H1 o r1=>?_)));have J:SqT K H1 l [.str (S "get"),va,.str f']:=SqT.of (o _ _ C);refine(xaa _ rfl l _ _ _ rfl rfl J rfl ?_);exact(xaj _ _ ks k kn (xbg ws f' i val rfl (hk.same o) r1 a8 hi hw (λu H2 I r2=>q _ _ (o.trans I) r2)))
 ·obtain⟨l,us,rfl,C,_,_,rfl,rfl,_,_,rfl,rfl,_,_,rfl,rfl,va,_,rfl,Z,rfl⟩:=O
  have hS:SqT K H l [.str (S "tag"),.str k,.str t,va]:=SqT.of C;walk_at"rd";refine(xaj _ _ _ ks _ (xak env _ rfl hk Z he M (λu H1 o r1=>?_)));refine⟨(by walk_at"s"),λc hc=>?_⟩;have I:=Same.new hc (.tup [.str k,.str t,u]);exact q _ _ (o.trans I) (xag c _ rfl ups _ _ rfl rfl _ (xb4 _ rfl rfl _ _ rfl (r1.same I _) rfl))
 ·have a1:=O
  obtain⟨l,us,rfl,C,_,_,rfl,rfl,va,_,rfl,Z,vr,_,rfl,rr,rfl⟩:=O;have hS:SqT K H l [.str (S "case"),va,vr]:=SqT.of C;walk_at"rd";exact(xaj _ _ p ks env (xaj a rs k t x (xam y e val rfl hk a1 he (jAAA hl M hf ⟨h2,q⟩))))
 ·obtain⟨l,us,rfl,C,_,_,rfl,rfl,va,_,rfl,Z,vb,_,rfl,rb,vc,_,rfl,rc,rfl⟩:=O
  have hS:SqT K H l [.str (S "if"),va,vb,vc]:=SqT.of C;walk_at"rd";refine(xaj _ _ _ ks _ (xak env _ rfl hk Z he M (λu H1 o r1=>?_)));obtain rfl:u=.int x:=r1;have J:SqT K H1 l [.str (S "if"),va,vb,vc]:=SqT.of (o _ _ C);refine(jAEA rfl _ rfl (ite2 (λc'=>?_) (λc'=>?_)))
  ·have e:x=0:=V.int.inj (of_decide_eq_true c')
   rw[if_pos e]at h2;refine(xaa _ rfl l _ _ _ rfl rfl J rfl (jEA _ rfl (jEA _ rfl (jEA _ rfl ?_))));exact(xaj _ _ _ ks _ (xak env _ rfl (hk.same o) (rc.same o _) (he.same o) h2 (λu H2 I r2=>q _ _ (o.trans I) r2)))
  ·have e:¬x=0:=λz=>c' (zDT (congrArg V.int z))
   rw[if_neg e]at h2;refine(xaa _ rfl l _ _ _ rfl rfl J rfl (jEA _ rfl (jEA _ rfl (jEA _ rfl ?_))));exact(xaj _ _ _ ks _ (xak env _ rfl (hk.same o) (rb.same o _) (he.same o) h2 (λu H2 I r2=>q _ _ (o.trans I) r2)))
theorem xgo(T:Tx K a)(R:RW)(c:m<=1000)(D:DefIs P w K a base (n+1) "worth" qaa (xdi R (m+1))):DefIs P w K a base (n+3) "worth" qaa (xdi (λks env d v=>xls env d v\/xo3 ks (R ks) env d v) m):=by
 have l:DefIs P w K a base (n+1) "worth" qaa (xdi R m):=D.imp (by
  rintro vs H Q E ⟨kv,b,p,ks,d,env,val,j,i,h,g,f,e⟩;exact(xaj kv b p ks d (xak env val j i h (g.mono (by omega)) f e)))
 exact xpl T R (l.mono (by omega)) (xjw T) (xpm T (xbi T)) (xhk T R c D (xf6 T))
theorem xfm(T:Tx K b):∀n m,n+m<=1000->DefIs P w K b base (2*n+3) "worth" qaa (xdi (λks=>Ev ks n) m)
 | 0,m,h=>by
  refine(xgo (P:=P) (w:=w) (base:=base) (n:=0) (m:=m) T (λ_ _ _ _=>False) (by omega) (DefIs.none T.kK ?_)).imp ?_
  ·rintro vs H Q E ⟨_,_,_,_,_,_,_,_,_,_,_,h,_⟩
   exact h
  ·rintro vs H Q E ⟨kv,a,p,ks,d,env,k,j,i,g,f,e,c⟩
   exact(xaj kv a p ks d (xak env k j i g f (.inl e) c))
 |n+1,m,h=>xgo (n:=2*n+2) (m:=m) T (λks=>Ev ks n) (by omega) (xfm T n (m+1) (by omega))
abbrev RK:=List Kn->En->D->Str->Prop
def xbb(R:RK)(m:Nat):Sp:=λvs H Q _=>∃kv tv p ks d env k,vs=[kv,tv,.ref p]/\KsAt H kv ks/\RelD H tv d/\EnAt H p m env/\R ks env d k/\∀H',Same H H'->Q (.str k) H'
def xcl(R:RK)(m:Nat):Sp:=λvs H Q _=>∃kv tv p ks d env k,vs=[kv,tv,.ref p,.str k]/\KsAt H kv ks/\RelD H tv d/\EnAt H p m env/\R ks env d k/\∀H',Same H H'->Q .non H'
def xd2:Sp:=λvs H Q _=>∃k,vs=[.str k,.str k]/\Q .non H
def xe0:Sp:=λvs H Q _=>∃kv ks k kn,vs=[kv,.str k,.str kn.sort]/\KsAt H kv ks/\kAt ks k=some kn/\Q .non H
def xe1(R:RK)(m:Nat):Sp:=λvs H Q _=>∃kv tv p ks d env k kn,vs=[kv,tv,.ref p,.str kn.sort]/\KsAt H kv ks/\RelD H tv d/\EnAt H p m env/\R ks env d k/\kAt ks k=some kn/\∀H',Same H H'->Q (.str k) H'
def xdc:Sp:=λvs H Q _=>∃kv ks k kn f k2,vs=[kv,.str k,.str f]/\KsAt H kv ks/\kAt ks k=some kn/\xdv kn f=some k2/\∀H',Same H H'->Q (.str k2) H'
def xh0:Sp:=λvs H Q _=>∃i,vs=[.int i]/\Nm i/\Q (.str (S "num")) H
def xh2(m:Nat):Sp:=λvs H Q _=>∃x p env k,vs=[.str x,.ref p]/\EnAt H p m env/\env x=some (.str k)/\Q (.str k) H
theorem xdx(T:Tx K a):DefIs P w K a base (n+1) "need_same" qal xd2:=by
 refine DefIs.of T.jT xh5 (by walk_at"l") (λf b A outer s H vs Q E c h=>?_);obtain⟨k,rfl,q⟩:=h;refine(jEA _ (zpo (xax (pR xgl (pv 0) (pv 1) (nM _)) (zpo xbq) pQ)) ?_);refine(xct _ rfl _ rfl rfl _ rfl (xmi rfl ?_));exact q
theorem xff(T:Tx K c)(R:RK)(b:DefIs P w K c base n "kind_of" qaa (xbb R m))(a:DefIs P w K c base n "need_same" qal xd2):DefIs P w K c base (n+1) "need_kind" qae (xcl R m):=by
 refine DefIs.of T.jS xh7 (by walk_at"l") (λf r A outer s H vs Q E e h=>?_);obtain⟨kv,x,p,ks,d,env,k,rfl,j,i,l,o,q⟩:=h;refine(jEA _ (zpo (xa1 (pd a e (pc (pd b e (va 0 (va 1 (v1 2)))) (v1 3) zsc)))) ?_);refine(xav _ rfl _ rfl _ rfl _ _ (xat _ ks d env k rfl j i l o (λu g=>?_)));exact(jEA _ rfl (jEA k rfl (q u g)))
theorem xij(T:Tx K c)(a:DefIs P w K c base n "sort_of" qab xcr):DefIs P w K c base (n+1) "need_sort" qa0 xe0:=by
 refine DefIs.of T.jU sc_need_sort (by walk_at"l") (λf i A outer s H vs Q E e h=>?_);obtain⟨kv,ks,k,j,rfl,g,b,q⟩:=h;have nd:=sc_need_sort.nd
 refine⟨_,(zpn (psn 3 nd (pd a e (va 0 (v1 1))))
   (zpn (xax (pR xfd (pv 3) xca (nM _)) (zpo xbq) pQ)
   (zpo (xax (pR xgl (pv 3) (pv 2) (nM _)) (zpo xbq) pQ)))),?_⟩
 refine(xa8 _ rfl _ rfl _ ks k rfl g ?_);rw[b];refine(xba _ rfl rfl _ rfl (iteKF (zDF (λz=>by cases z)) ?_));exact(xct _ rfl _ rfl rfl _ rfl (xmi rfl q))
theorem xdy(T:Tx K c)(R:RK)(b:DefIs P w K c base n "kind_of" qaa (xbb R m))(a:DefIs P w K c base n "sort_of" qab xcr):DefIs P w K c base (n+1) "kind_of_sort" qa1 (xe1 R m):=by
 refine DefIs.of T.jV sc_kind_of_sort (by walk_at"l") (λf u A outer s H vs Q E i h=>?_);obtain⟨kv,y,p,ks,d,env,k,z,rfl,j,l,o,r,e,q⟩:=h;have nd:=sc_kind_of_sort.nd
 refine⟨_,(zpn (psn 4 nd (pd b i (va 0 (va 1 (v1 2)))))
   (zpn (xax (pR xgl (pd a i (va 0 (v1 4))) (pv 3) (nM _)) (zpo xbq) pQ)
   (zpo (xad (pv 4))))),?_⟩
 refine(xav _ rfl _ rfl _ rfl _ _ (xat _ ks d env k rfl j l o r (λx g=>?_)));refine(xa8 _ rfl _ rfl _ ks k rfl (j.same g) ?_);rw[e];exact(xba _ rfl rfl _ rfl (xmi rfl (jEA _ rfl (q x g))))
theorem xc8(T:Tx K G)(a:DefIs P w K G base n "parts_of" qab xb6):DefIs P w K G base (n+1) "part_kind" qam xdc:=by
 refine DefIs.of T.jW sc_part_kind (by walk_at"l") (λf a0 A outer s H vs Q E Z h=>?_);obtain⟨kv,ks,k,U,m,k2,rfl,hk,x,hp,q⟩:=h;have nd:=sc_part_kind.nd
 refine⟨_,(zpn (xbp PassesOwn.never rfl (xan (K:=K) rfl (pd a Z (va 0 (v1 1)))) (pgn 3 nd)
   (zpo (xax (pR xbe (px K (pv 3) pI) (pv 2) (nM _)) (zpo (xad (px K (pv 3) pI))) pQ)))
   (zpo xbq)),?_⟩
 refine(xa8 _ rfl _ rfl _ ks k rfl hk (λu H1 O C=>?_));rw[x]at C;obtain⟨e,ps,rfl,I,j⟩:=C;have hl:=j.length;rw[zLM]at hl;refine(jEAA e rfl ⟨_,SqT.of I⟩ ?_);obtain⟨pt,g,rfl⟩:=zMS hp;refine xck (xs:=ps) (λi σ o=>∃r,σ=[some kv,some (.str k),some (.str m),r]/\o=H1/\(U.parts.take i).find? (λp=>decide (p.1=m))=none) (jEAA none rfl rfl rfl) (λi σ o _ p=>?_) ?_ ?_
 ·obtain⟨_,_,rfl,_⟩:=p
  exact SqT.of I
 ·rintro i v σ o Y ⟨r,rfl,rfl,hn⟩
  obtain⟨d,hd,rd⟩:=j.get Y;rw[zGM]at hd;obtain⟨p,l,rfl⟩:=zMS hd;obtain⟨b,ws,rfl,J,_,_,rfl,rfl,_,_,rfl,rfl,rfl⟩:=rd;refine(xaa _ rfl b _ _ _ rfl rfl (SqT.of J) rfl (xba _ rfl rfl _ rfl (ite2 (λc=>?_) (λc=>?_))))
  ·have y:p.1=m:=V.str.inj (of_decide_eq_true c)
   have M:=(xce hn l).1 (zDT y);rw[g]at M;cases M;exact(xaa _ rfl b _ _ _ rfl rfl (SqT.of J) rfl (q _ O))
  ·have y:¬p.1=m:=λz=>c (zDT (congrArg V.str z))
   exact(jEAA _ rfl rfl ((xce hn l).2 (zDF y)))
 ·rintro σ o ⟨r,rfl,rfl,hn⟩
  rw[zTL (by omega),g]at hn;cases hn
theorem xjx(T:Tx K a):DefIs P w K a base (n+1) "num_kind" ["n"] xh0:=by
 refine DefIs.of T.jJ xjp (by walk_at"l") (λf c A outer s H vs Q E e h=>?_);obtain⟨i,rfl,⟨h0,b⟩,q⟩:=h
 refine⟨_,(zpn (xax (xk3 (xpb xug xjt pI (pv 0) (xhc T.uK))) (zpo xbq) pQ)
   (zpo (xad pS))),?_⟩
 refine(xah _ rfl _ _ rfl rfl (jEA _ rfl (iteKT (zDT h0) (xaq _ _ rfl rfl (jEA _ rfl ?_)))));rw[zDT b];exact q
theorem xj2(T:Tx K c):DefIs P w K c base (n+1) "box_kind" qaz (xh2 m):=by
 refine DefIs.of T.jK xjr (by walk_at"l") (λf r A outer s H vs Q E j h=>?_);obtain⟨x,p,env,k,rfl,⟨kvs,l,u,o⟩,e,q⟩:=h;have a:=xdl j
 refine⟨_,(zpn (xax (xf4 (xdu a (pv 0) (pv 1))) (zpo xbq) pQ)
   (zpo (xad (xcm a (pv 1) (pv 0) (λ_ _=>rfl))))),?_⟩
 obtain⟨v,i,b⟩:=(o x).2 _ e;obtain rfl:v=.str k:=b;have g:DGet H p (.str x) (some (.str k)):=i ▸ DGet.k (k:=Sum.inr x) l;refine(xbw _ rfl _ rfl p _ rfl g _ rfl (iteF ?_));exact(jEA _ rfl (xah _ rfl p _ rfl g q))
theorem xl6 (T:Tx K g) (R:RK) (c:DefIs P w K g base n "need_kind" qae (xcl R m)) :
  DefIs P w K g base (n+1) "op_kind" qaa (xbb (λks=>OpKd (R ks)) m):=by
 refine DefIs.of T.jL xl1 (by walk_at"l") (λf I A outer s H vs Q E i h=>?_);obtain⟨kv,O,p,ks,d,env,k,rfl,j,z,o,⟨U,a,b,G,C,rfl,rfl⟩,q⟩:=h
 refine⟨_,(zpn (xa1 (pd c i (va 0 (pc (px K (pv 1) pI) (va 2 (pc pS pN so)) ss))))
   (zpn (xa1 (pd c i (va 0 (pc (px K (pv 1) pI) (va 2 (pc pS pN so)) ss))))
   (zpo (xad pS)))),?_⟩
 obtain⟨l,us,rfl,r,_,_,rfl,rfl,_,_,rfl,rfl,va,_,rfl,y,M,_,rfl,x,rfl⟩:=z;refine(xal _ rfl _ rfl l _ _ (xbt _ rfl rfl (SqT.of r) rfl _ rfl ?_));refine(xaj _ _ _ ks _ (xak env _ rfl j y o G (λY e=>?_)));refine(xal _ rfl _ rfl l _ _ (xbt _ rfl rfl (SqT.of (e _ _ r)) rfl _ rfl ?_));exact(xaj _ _ _ ks _ (xak env _ rfl (j.same e) (x.same e _) (o.same e) C (λJ u=>q J (e.trans u))))
theorem xl9 (T:Tx K o) (R:RK) (g:DefIs P w K o base n "kind_of" qaa (xbb R m)) (e:DefIs P w K o base n "need_kind" qae (xcl R m)) :
  DefIs P w K o base (n+1) "if_kind" qaa (xbb (λks=>IfKd (R ks)) m):=by
 refine DefIs.of T.jR sc_if_kind (by walk_at"l") (λf Z A outer s H vs Q E r h=>?_);obtain⟨kv,tv,p,ks,d,env,k,rfl,u,M,x,⟨a,b,c,Y,U,O,rfl⟩,q⟩:=h;have nd:=sc_if_kind.nd
 refine⟨_,(zpn (xa1 (pd e r (va 0 (pc (px K (pv 1) pI) (va 2 (pc pS pN so)) ss))))
   (zpn (psn 3 nd (pd g r (va 0 (pc (px K (pv 1) pI) (v1 2) ss))))
   (zpn (xa1 (pd e r (va 0 (pc (px K (pv 1) pI) (va 2 (v1 3)) ss))))
   (zpo (xad (pv 3)))))),?_⟩
 obtain⟨l,us,rfl,y,_,_,rfl,rfl,va,_,rfl,J,vb,_,rfl,I,vc,_,rfl,G,rfl⟩:=M;refine(xal _ rfl _ rfl l _ _ (xbt _ rfl rfl (SqT.of y) rfl _ rfl ?_));refine(xaj _ _ _ ks _ (xak env _ rfl u J x Y (λH1 j=>?_)));refine(xal _ rfl _ rfl l _ _ (xbt _ rfl rfl (SqT.of (j _ _ y)) rfl _ rfl ?_));refine(xaj _ _ _ ks _ (xak env _ rfl (u.same j) (I.same j _) (x.same j) U (λH2 C=>?_)));have i:=j.trans C;refine(xal _ rfl _ rfl l _ _ (xbt _ rfl rfl (SqT.of (i _ _ y)) rfl _ rfl (jEA _ rfl ?_)));exact(xaj _ _ _ ks _ (xak env _ rfl (u.same i) (G.same i _) (x.same i) O (λH3 z=>(jEA _ rfl (q H3 (i.trans z))))))
theorem xj1 (T:Tx K g) (R:RK) (b:DefIs P w K g base n "kind_of_sort" qa1 (xe1 R m)) (c:DefIs P w K g base n "part_kind" qam xdc) :
  DefIs P w K g base (n+1) "get_kind" qaa (xbb (λks=>xr7 ks (R ks)) m):=by
 refine DefIs.of T.jN sc_get_kind (by walk_at"l") (λf U A outer s H vs Q E o h=>?_);obtain⟨kv,Z,p,ks,d,env,k,rfl,r,C,G,⟨a,j,O,i,M,x,J,I,rfl⟩,q⟩:=h;have nd:=sc_get_kind.nd
 refine⟨_,(zpn (psn 3 nd (pd b o (va 0 (pc (px K (pv 1) pI) (va 2 (pc pS pN so)) ss))))
   (zpo (xad (pd c o (va 0 (va 3 (pc (px K (pv 1) pI) pN ss))))))),?_⟩
 have hs:i.sort=S "rec":=by unfold Kn.sort;rw[if_pos J]
 obtain⟨l,us,rfl,u,_,_,rfl,rfl,va,_,rfl,z,_,_,rfl,rfl,rfl⟩:=C;refine(xal _ rfl _ rfl l _ _ (xbt _ rfl rfl (SqT.of u) rfl _ rfl ?_));refine(xaj _ _ _ ks _ (xam env j i (by rw[hs];rfl) r z G (jAA M x (λH1 e=>?_))));refine(xav _ rfl _ rfl _ rfl l _ (xcb _ _ rfl rfl (SqT.of (e _ _ u)) rfl ?_));exact(xaj _ ks j i O (xcy k rfl (r.same e) x I (λY y=>q Y (e.trans y))))
theorem xju (T:Tx K i) (R:RK) (c:DefIs P w K i base n "need_sort" qa0 xe0) (e:DefIs P w K i base n "need_kind" qae (xcl R m)) (b:DefIs P w K i base n "part_kind" qam xdc) :
  DefIs P w K i base (n+1) "tag_kind" qaa (xbb (λks=>xr5 ks (R ks)) m):=by
 refine DefIs.of T.jO sc_tag_kind (by walk_at"l") (λf Y A outer s H vs Q E o h=>?_);obtain⟨kv,tv,p,ks,d,env,k,rfl,r,G,I,⟨t,a,j,x,y,U,O,M,rfl⟩,q⟩:=h;have nd:=sc_tag_kind.nd
 refine⟨_,(zpn (psn 3 nd (px K (pv 1) pI))
   (zpn (xa1 (pd c o (va 0 (va 3 (pc pS pN so)))))
   (zpn (xa1 (pd e o (va 0 (pc (px K (pv 1) pI) (va 2 (pc (pd b o (va 0 (va 3 (pc (px K (pv 1) pI) pN ss)))) pN zsc)) ss))))
   (zpo (xad (pv 3)))))),?_⟩
 have hs:j.sort=S "alt":=by unfold Kn.sort;rw[if_neg (by rw[U];decide)]
 obtain⟨l,us,rfl,J,_,_,rfl,rfl,_,_,rfl,rfl,_,_,rfl,rfl,va,_,rfl,C,rfl⟩:=G;have u:SqT K H l [.str (S "tag"),.str k,.str t,va]:=SqT.of J;refine(xaa _ rfl l _ _ _ rfl rfl u rfl ?_);refine(xal _ rfl _ rfl _ ks k (xb7 j (by rw[hs];rfl) r y ?_));refine(xal _ rfl _ rfl l _ _ (xbt _ rfl rfl u rfl _ rfl (xav _ rfl _ rfl _ rfl l _ (xcb _ _ rfl rfl u rfl ?_))));refine(xaj _ ks k j t (xcy x rfl r y O (λH1 g=>?_)));exact(xaj _ _ _ ks _ (xak env x rfl (r.same g) (C.same g _) (I.same g) M (λZ z=>(jEA _ rfl (q Z (g.trans z))))))
theorem xjv (T:Tx K Y) (R:RK) (a:DefIs P w K Y base n "need_sort" qa0 xe0) (g:DefIs P w K Y base n "need_kind" qae (xcl R m)) (j:DefIs P w K Y base n "parts_of" qab xb6) :
  DefIs P w K Y base (n+1) "rec_kind" qaa (xbb (λks=>xr6 ks (R ks)) m):=by
 refine DefIs.of T.jM sc_rec_kind (by walk_at"l") (λf a6 A outer s H vs Q E hr h=>?_);obtain⟨kv,tv,p,ks,d,env,k,rfl,hk,hv,he,⟨es,kn,h1,h2,h3,rfl⟩,q⟩:=h;have nd:=sc_rec_kind.nd
 refine⟨_,(zpn (psn 3 nd (px K (pv 1) pI))
   (zpn (xa1 (pd a hr (va 0 (va 3 (pc pS pN so)))))
   (zpn (psn 4 nd (pd j hr (va 0 (v1 3))))
   (zpn (xax (pR xgl (xau (xae (K:=K) rfl) rfl T.uP PySem.boot_len (pc (px K (pv 1) pI) pN ss)) (xau (xae (K:=K) rfl) rfl T.uP PySem.boot_len (v1 4)) (nM _)) (zpo xbq) pQ)
   (zpn (xbp PassesOwn.never rfl (xib rfl T.uY (va 4 (pc (px K (pv 1) pI) pN ss))) (xa3 (K:=K) rfl rfl (xac (pgn 5 nd) (xac (pgn 6 nd) xa2)))
   (zpo (xa1 (pd g hr (va 0 (va 6 (va 2 (pc (px K (pv 5) pI) pN ss))))))))
   (zpo (xad (pv 3)))))))),?_⟩
 have hs:kn.sort=S "rec":=by unfold Kn.sort;rw[if_pos h2]
 obtain⟨l,us,rfl,ha,_,_,rfl,rfl,_,_,rfl,rfl,va,_,rfl,ra,rfl⟩:=hv;obtain⟨c,I,rfl,hc,J⟩:=ra;have hS:SqT K H l [.str (S "rec"),.str k,.ref c]:=SqT.of ha;refine(xaa _ rfl l _ _ _ rfl rfl hS rfl ?_);refine(xal _ rfl _ rfl _ ks k (xb7 kn (by rw[hs];rfl) hk h1 ?_));refine(xa8 _ rfl _ rfl _ ks k rfl hk (λu H1 G r1=>?_));rw[h1]at r1;obtain⟨e,ps,rfl,z,M⟩:=r1;have l1:=M.length;rw[zLM]at l1;have l2:=J.length;have l3:=h3.length;have U:SqT K H1 l [.str (S "rec"),.str k,.ref c]:=SqT.of (G _ _ ha);refine(xaa _ rfl l _ _ _ rfl rfl U rfl (xaq c _ rfl (.inr (SqT.of (G _ _ hc))) (xah _ rfl e _ rfl (.inr (SqT.of z)) (jAEA rfl _ rfl (xmi (by rw[show I.length=ps.length by omega]) ?_)))));refine(xal _ rfl _ rfl l _ _ (xcy _ rfl rfl U rfl (xcv e c rfl ⟨_,SqT.of z⟩ ⟨_,SqT.of (G _ _ hc)⟩ ?_)));refine xkd (xs:=ps) (ys:=I) (by omega) (λi σ Z=>∃o5 o6,σ=[some kv,some (.ref l),some (.ref p),some (.str k),some (.ref e),o5,o6]/\Same H1 Z) (jEEA none none rfl (Same.refl _)) (λi σ Z _ p=>?_) ?_ ?_
 ·obtain⟨_,_,_,C⟩:=p
  exact⟨SqT.of (C _ _ z),SqT.of ((G.trans C) _ _ hc)⟩
 ·rintro i x y σ Z pt hx hy ⟨o5,o6,rfl,C⟩ a2
  obtain⟨dp,O,a0⟩:=M.get hx;rw[zGM]at O;obtain⟨pr,a3,rfl⟩:=zMS O;obtain⟨de,a4,a1⟩:=J.get hy;obtain⟨a5,o,rR⟩:=h3.get a4;rw[a3]at o;cases o;obtain⟨b,ws,rfl,hb,_,_,rfl,rfl,_,_,rfl,rfl,rfl⟩:=a0;have sn:=Same.new a2 (.tup [.ref b,y]);have s2:=C.trans sn;refine(xao pt _ rfl (SqT.of ups) rfl _ _ rfl _ (jEAA _ rfl rfl ?_));refine(jEA _ rfl (xav _ rfl _ rfl _ rfl b _ (xcb _ _ rfl rfl (SqT.of (s2 _ _ hb)) rfl ?_)));have r:=G.trans s2;exact(xaj _ _ _ ks _ (xak env _ rfl (hk.same r) (a1.same r _) (he.same r) rR (λH2 s3=>(jEEA _ _ rfl (s2.trans s3)))))
 ·rintro σ Z ⟨o5,o6,rfl,C⟩
  exact(jEA _ rfl (q _ (G.trans C)))
theorem xl7 (T:Tx K J) (R:RK) (cs:Prop) (r:DefIs P w K J base n "num_kind" ["n"] xh0) (y:DefIs P w K J base n "box_kind" qaz (xh2 m))
  (C:DefIs P w K J base n "op_kind" qaa (xbb (λks=>OpKd (R ks)) m)) (o:DefIs P w K J base n "rec_kind" qaa (xbb (λks=>xr6 ks (R ks)) m)) (u:DefIs P w K J base n "get_kind" qaa (xbb (λks=>xr7 ks (R ks)) m))
  (j:DefIs P w K J base n "tag_kind" qaa (xbb (λks=>xr5 ks (R ks)) m)) (e:DefIs P w K J base n "case_kind" qaa (xbb (λks=>xlt cs ks (R ks)) m)) (G:DefIs P w K J base n "if_kind" qaa (xbb (λks=>IfKd (R ks)) m)) :
  DefIs P w K J base (n+1) "kind_of" qaa (xbb (λks env d k=>xjf env d k\/NodeKd cs ks (R ks) env d k) m):=by
 refine DefIs.of T.jI sc_kind_of (by walk_at"l") (λf a1 A outer s H vs Q E O h=>?_);obtain⟨kv,tv,p,ks,d,env,k,rfl,Z,M,U,hR,q⟩:=h;have nd:=sc_kind_of.nd
 refine⟨_,(zpn (psn 3 nd (px K (pv 1) pI))
   (zpn (xax (pR xbe (pv 3) pS (nM _)) (zpo (xad (pd r O (pc (px K (pv 1) pI) pN ss)))) pQ)
   (zpn (xax (pR xbe (pv 3) pS (nM _)) (zpo (xad (pd y O (pc (px K (pv 1) pI) (v1 2) ss)))) pQ)
   (zpn (xax (pR xbe (pv 3) pS (nM _)) (zpo (xad (pd C O (va 0 (va 1 (v1 2)))))) pQ)
   (zpn (xax (pR xbe (pv 3) pS (nM _)) (zpo (xad (pd o O (va 0 (va 1 (v1 2)))))) pQ)
   (zpn (xax (pR xbe (pv 3) pS (nM _)) (zpo (xad (pd u O (va 0 (va 1 (v1 2)))))) pQ)
   (zpn (xax (pR xbe (pv 3) pS (nM _)) (zpo (xad (pd j O (va 0 (va 1 (v1 2)))))) pQ)
   (zpn (xax (pR xbe (pv 3) pS (nM _)) (zpo (xad (pd e O (va 0 (va 1 (v1 2)))))) pQ)
   (zpo (xad (pd G O (va 0 (va 1 (v1 2)))))))))))))),?_⟩
 have I:=M;rcases hR with(⟨i,hi,rfl,rfl⟩ |⟨x,hx,rfl⟩) |g |g |g |g |g |g
 ·obtain⟨a,us,rfl,z,_,_,rfl,rfl,_,_,rfl,rfl,rfl⟩:=M
  have Y:SqT K H a [.str (S "num"),.int i]:=SqT.of z;walk_at"rd";exact⟨hi,q _ (Same.refl _)⟩
 ·obtain⟨a,us,rfl,z,_,_,rfl,rfl,_,_,rfl,rfl,rfl⟩:=M
  have Y:SqT K H a [.str (S "box"),.str x]:=SqT.of z;walk_at"rd";exact(jEEE x p env (xb7 k rfl U hx (q _ (Same.refl _))))
 ·obtain⟨sg,a,b,h1,h2,rfl,rfl⟩:=id g
  obtain⟨l,us,rfl,z,_,_,rfl,rfl,_,_,rfl,rfl,va,_,rfl,ra,vb,_,rfl,rb,rfl⟩:=M;have Y:SqT K H l [.str (S "op"),.str sg,va,vb]:=SqT.of z;walk_at"rd";exact(xaj _ _ _ ks _ (xak env _ rfl Z I U g q))
 ·obtain⟨es,kn,h1,h2,h3,rfl⟩:=id g
  obtain⟨l,us,rfl,z,_,_,rfl,rfl,_,_,rfl,rfl,va,_,rfl,ra,rfl⟩:=M;have Y:SqT K H l [.str (S "rec"),.str k,va]:=SqT.of z;walk_at"rd";exact(xaj _ _ _ ks _ (xak env _ rfl Z I U g q))
 ·obtain⟨a,k1,f',kn,h1,h2,h3,h4,rfl⟩:=id g
  obtain⟨l,us,rfl,z,_,_,rfl,rfl,va,_,rfl,ra,_,_,rfl,rfl,rfl⟩:=M;have Y:SqT K H l [.str (S "get"),va,.str f']:=SqT.of z;walk_at"rd";exact(xaj _ _ _ ks _ (xak env _ rfl Z I U g q))
 ·obtain⟨t,a,kn,k1,h1,h2,h3,h4,rfl⟩:=id g
  obtain⟨l,us,rfl,z,_,_,rfl,rfl,_,_,rfl,rfl,_,_,rfl,rfl,va,_,rfl,ra,rfl⟩:=M;have Y:SqT K H l [.str (S "tag"),.str k,.str t,va]:=SqT.of z;walk_at"rd";exact(xaj _ _ _ ks _ (xak env _ rfl Z I U g q))
 ·obtain⟨a0,a,rs,k1,kn,h1,h2,h3,h4,h5,h6,h7,rfl⟩:=id g
  obtain⟨l,us,rfl,z,_,_,rfl,rfl,va,_,rfl,ra,vr,_,rfl,rr,rfl⟩:=M;have Y:SqT K H l [.str (S "case"),va,vr]:=SqT.of z;walk_at"rd";exact(xaj _ _ _ ks _ (xak env _ rfl Z I U g q))
 ·obtain⟨a,b,c,h1,h2,h3,rfl⟩:=id g
  obtain⟨l,us,rfl,z,_,_,rfl,rfl,va,_,rfl,ra,vb,_,rfl,rb,vc,_,rfl,rc,rfl⟩:=M;have Y:SqT K H l [.str (S "if"),va,vb,vc]:=SqT.of z;walk_at"rd";exact(xaj _ _ _ ks _ (xak env _ rfl Z I U g q))
theorem xiz (T:Tx K b) (R:RK) (cs:Prop) (D:DefIs P w K b base (n+1) "kind_of" qaa (xbb R m)) (f:DefIs P w K b base (n+3) "case_kind" qaa (xbb (λks=>xlt cs ks (R ks)) m)) :
  DefIs P w K b base (n+4) "kind_of" qaa (xbb (λks env d k=>xjf env d k\/NodeKd cs ks (R ks) env d k) m):=by
 have same:∀k,DefIs P w K b base (k+1) "need_same" qal xd2:=λk=>xdx T;have sort:∀k,DefIs P w K b base (k+1) "sort_of" qab xcr:=λk=>xb8 T;have a:∀k,DefIs P w K b base (k+1) "parts_of" qab xb6:=λk=>xbi T;have nk:=xff T R D (same n);have ns:=xij (n:=n+1) T (sort n);have e:=xdy T R D (sort n);have c:=xc8 (n:=n+1) T (a n);exact xl7 T R cs (xjx T) (xj2 T) (xl6 T R nk) (xjv T R ns nk (a (n+1))) (xj1 T R e c) (xju T R ns nk c) f (xl9 T R (D.mono (by omega)) nk)
theorem xlc(x:Str):∀ys:List Str,inV (.str x) (ys.map V.str)=decide (x∈ys)
 |[]=>rfl
 | y::ys=>by
  show((y == x) || inV (.str x) (ys.map V.str))=_;rw[xlc x ys];by_cases h:y=x
  ·subst h;simp
  ·have h':¬x=y:=λe=>h e.symm
   simp[h,h']
theorem xdz:∀ys:List Str,(ys.map V.str).all xev=true
 |[]=>rfl
 |y::ys=>by
  show(xev (.str y) && (ys.map V.str).all xev)=true;rw[xdz ys];rfl
def KL(ks:List Kn):Prop:=∀k∈ks,k.name.length<=100
def xgr:Sp:=λvs H Q _=>∃(a:Addr) (ns:List Str) (x:Str),vs=[.ref a,.str x]/\H a=some (.lst (ns.map V.str))/\ns.Nodup/\ns.length<=1000/\Q .non H
def xgq:Sp:=λvs H Q _=>∃(kv:V) (c:Addr) (ws:List V) (ks:List Kn) (k:Str) (kn:Kn) (rs:List (Str×Str×D)),vs=[kv,.str k,.ref c]/\KsAt H kv ks/\KL ks/\kAt ks k=some kn/\H c=some (.tup ws)/\RelDs H ws (rs.map dArm)/\rs.length=kn.parts.length/\(rs.map (·.1)).Nodup/\(∀r∈rs,∃k2,xdv kn r.1=some k2)/\∀H',Same H H'->Q .non H'
def xh3(R:RK)(m:Nat):Sp:=λvs H Q _=>∃(kv av:V) (p:Addr) (ks:List Kn) (env:En) (k1:Str) (kn:Kn) (k k2:Str) (r:Str×Str×D),vs=[kv,.str k1,av,.ref p]/\KsAt H kv ks/\kAt ks k1=some kn/\RelD H av (dArm r)/\EnAt H p m env/\env r.2.1=none/\xdv kn r.1=some k2/\R ks (env.put r.2.1 (.str k2)) r.2.2 k/\m<=1000/\∀H',Same H H'->Q (.str k) H'
theorem xph{a:Kn}{f c:Str}(h:xdv a f=some c):f∈a.parts.map (·.1):=by
 unfold xdv at h;obtain⟨p,b,_⟩:=zMS h;have g:=zMF b;have e:=List.find?_some b;rw[<- of_decide_eq_true e];exact List.mem_map_of_mem g
theorem xik(T:Tx K e):DefIs P w K e base (n+1) "need_once" qay xgr:=by
 refine DefIs.of T.jE xh6 (by walk_at"l") (λf i A outer s H vs Q E j h=>?_);obtain⟨a,ns,x,rfl,c,b,g,q⟩:=h;refine(jEA _ (zpo (xax (pR xjt (xng rfl rfl T.uP rfl T.uU (pv 0)) (xau (xae (K:=K) rfl) rfl T.uP PySem.boot_len (v1 0)) (nM _)) (zpo xbq) pQ)) ?_);refine(xah _ rfl a ns rfl c (jAA b g (xah _ rfl a _ rfl (.inl (SqL.of c)) (xaq _ _ rfl rfl (jEA _ rfl (iteKF (zDF ?_) q))))));rw[zLM];omega
theorem xii(T:Tx K mg)(l:DefIs P w K mg base n "parts_of" qab xb6)(g:DefIs P w K mg base n "need_once" qay xgr):DefIs P w K mg base (n+1) "need_tags" qbi xgq:=by
 refine DefIs.of T.jX sc_need_tags (by walk_at"l") (λf ah A outer s H vs Q E hr h=>?_);obtain⟨kv,c,ws,ks,k,I,rs,rfl,hk,a8,J,hc,Z,af,a6,a4,q⟩:=h;have nd:=sc_need_tags.nd;have a1:=zMF J
 have a7:I.name=k:=by
  have:=List.find?_some J;exact of_decide_eq_true this
 have ag:k.length<=100:=by rw[<- a7];exact a8 I a1
 have a5:=hk.2.2 I a1
 refine⟨_,(zpn (xc1 (i:=3) ["part"] [none] rfl (by kernel_rfl) nd rfl (by walk_at"o") (xan (K:=K) rfl (pd l hr (va 0 (v1 1)))) (λ_ _ _ _=>(pgc 0)) (λ_ _ _ _=>xbl) (λ_ _ _ _=>(px K (pv 0) pI)))
   (zpn (xc1 (i:=4) ["arm"] [none] rfl (by kernel_rfl) nd rfl (by walk_at"o") (xan (K:=K) rfl (pv 2)) (λ_ _ _ _=>(pgc 0)) (λ_ _ _ _=>xbl) (λ_ _ _ _=>(px K (pv 0) pI)))
   (zpn (xbp PassesOwn.never rfl (xcp (K:=K) rfl (pv 4)) (pgn 5 nd)
   (zpo (xax (pR xfc (pv 5) (pv 3) (by with_unfolding_all rfl)) (zpo xbq) pQ)))
   (zpn (xa1 (pd g hr (va 4 (pc (xrb (xsz (xsx (pv 1) xsy))) pN xmt))))
   (zpo (xax (pR xjt (xau (xae (K:=K) rfl) rfl T.uP PySem.boot_len (v1 4)) (xau (xae (K:=K) rfl) rfl T.uP PySem.boot_len (v1 3)) (nM _)) (zpo xbq) pQ)))))),?_⟩
 refine(xa8 _ rfl _ rfl kv ks k rfl hk (λu H1 s1 r1=>?_));rw[J]at r1;obtain⟨e,ps,rfl,he,a0⟩:=r1;have hl:=a0.length;rw[zLM]at hl;refine(jEAA e rfl ⟨_,SqT.of he⟩ ?_);refine xdn (j:=0) (xs:=ps) (λi ys G=>G=H1/\ys=((I.parts.take i).map (·.1)).map V.str) (by rfl) ⟨rfl,rfl⟩ (xa6 (by omega)) (λi ys G _ p=>by obtain⟨rfl,_⟩:=p;exact SqT.of he) ?_ ?_
 ·rintro i x ys G Y C ⟨rfl,rfl⟩
  obtain⟨d,hd,rd⟩:=a0.get Y;rw[zGM]at hd;obtain⟨p,hp,rfl⟩:=zMS hd;obtain⟨b,wz,rfl,hb,_,_,rfl,rfl,_,_,rfl,rfl,rfl⟩:=rd;have M:i<ps.length:=(zES Y).1;refine(xaa _ rfl b _ _ _ rfl rfl (SqT.of hb) rfl (nxt M C ⟨rfl,?_⟩));rw[zTA,hp];simp
 rintro ys G C ⟨rfl,rfl⟩ D1 ae;rw[zTL (by omega)];have t1:=Same.new ae (.lst ((I.parts.map (·.1)).map V.str));have U:=s1.trans t1;have a3:=Z.length;rw[zLM]at a3;generalize ab:upd G D1 (.lst ((I.parts.map (·.1)).map V.str))=H2 at t1 U⊢;have a2:H2 D1=some (.lst ((I.parts.map (·.1)).map V.str)):=by rw[<- ab];exact ups
 refine(xa9 _ rfl c rfl ⟨_,SqT.of (U _ _ hc)⟩ ?_);refine xdn (j:=0) (xs:=ws) (λi ys G=>G=H2/\ys=((rs.take i).map (·.1)).map V.str) (by rfl) ⟨rfl,rfl⟩ (xa6 (by omega)) (λi ys G _ p=>by obtain⟨rfl,_⟩:=p;exact SqT.of (U _ _ hc)) ?_ ?_
 ·rintro i x ys H3 Y C ⟨rfl,rfl⟩
  obtain⟨d,hd,rd⟩:=(Z.same U _).get Y;rw[zGM]at hd;obtain⟨p,hp,rfl⟩:=zMS hd;obtain⟨b,wz,rfl,hb,_,_,rfl,rfl,_,_,rfl,rfl,v3,_,rfl,r3,rfl⟩:=rd;have M:i<ws.length:=(zES Y).1;refine(xaa _ rfl b _ _ _ rfl rfl (SqT.of hb) rfl (nxt M C ⟨rfl,?_⟩));rw[zTA,hp];simp
 rintro ys H3 C ⟨rfl,rfl⟩ O ac;rw[zTL (by omega)];have t2:=Same.new ac (.lst ((rs.map (·.1)).map V.str));have s3:=U.trans t2;have m:=t2 _ _ a2;generalize aa:upd H3 O (.lst ((rs.map (·.1)).map V.str))=H4 at t2 s3 m⊢;have o:H4 O=some (.lst ((rs.map (·.1)).map V.str)):=by rw[<- aa];exact ups
 refine(xa9 _ rfl O rfl ⟨_,SqL.of o⟩ ?_);refine xho (xs:=(rs.map (·.1)).map V.str) (λi σ G=>∃o5,σ=[some kv,some (.str k),some (.ref c),some (.ref D1),some (.ref O),o5]/\G=H4) (jEA none rfl rfl) (λi σ G _ p=>?_) ?_ ?_
 ·obtain⟨_,_,rfl⟩:=p
  exact SqL.of o
 ·rintro i z σ H5 hz ⟨o5,rfl,rfl⟩
  rw[zGM]at hz;obtain⟨y,hy,rfl⟩:=zMS hz;obtain⟨r,hr,rfl⟩:=zMP (zMG hy);obtain⟨k2,a9⟩:=a4 r hr;refine(jEA _ rfl (xah _ rfl D1 _ rfl (.inl (SqL.of m)) (jAA rfl (xdz _) (jEA _ rfl ?_))));rw[if_pos rfl,xlc,zDT (xph a9)];exact iteF (jEA _ rfl rfl)
 ·rintro σ H5 ⟨o5,rfl,rfl⟩
  have l1:(Str.empty++Str.ofString "arms in a case of the kind ").length=27:=by walk_at"k"
  refine(xba _ rfl (fits (by omega)) _ rfl (xcy _ rfl (fits (by omega)) (fits (by rw[Str.length_append];omega)) (fits (by rw[Str.length_append];omega)) ?_));refine(xam O (rs.map (·.1)) _ rfl o a6 (by rw[zLM];omega) ?_);refine(xah _ rfl O _ rfl (.inl (SqL.of o)) (xah _ rfl D1 _ rfl (.inl (SqL.of m)) (xaq _ _ rfl rfl (jEA _ rfl (iteKF (zDF ?_) (q _ s3))))));rw[zLM,zLM,zLM,zLM];omega
theorem xj3 (T:Tx K j) (R:RK) (e:DefIs P w K j base n "kind_of" qaa (xbb R (m+1))) (c:DefIs P w K j base n "with_box" qa2 (xf1 m)) (b:DefIs P w K j base n "part_kind" qam xdc) :
  DefIs P w K j base (n+1) "arm_kind" qbh (xh3 R m):=by
 refine DefIs.of T.jQ sc_arm_kind (by walk_at"l") (λf a1 A outer s H vs Q E l h=>?_);obtain⟨kv,av,p,ks,env,k1,kn,k,o,r,rfl,J,y,hv,M,hx,hp,hR,hm,q⟩:=h;have nd:=sc_arm_kind.nd;have hu:=xdl l
 refine⟨_,(zpn (psn 4 nd (px K (pv 2) pI))
   (zpn (xax (xf4 (xni hu (pv 4) (pv 3))) (zpo xbq) pQ)
   (zpo (xad (pd e l (va 0 (pc (px K (pv 2) pI) (pc (pd c l (va 3 (va 4 (pc (pd b l (va 0 (va 1 (pc (px K (pv 2) pI) pN ss)))) pN zsc)))) pN zsc) ss))))))),?_⟩
 obtain⟨a,us,rfl,ha,_,_,rfl,rfl,_,_,rfl,rfl,G,_,rfl,Y,rfl⟩:=hv;have C:SqT K H a [.str r.1,.str r.2.1,G]:=SqT.of ha;refine(xaa _ rfl a _ _ _ rfl rfl C rfl ?_);obtain⟨kvs,u,a0,hh⟩:=id M;have g:DGet H p (.str r.2.1) none:=(hh r.2.1).1 hx ▸ DGet.k (k:=Sum.inr r.2.1) u;refine(xbw _ rfl _ rfl p _ rfl g _ rfl (iteF ?_));refine(xal _ rfl _ rfl a _ _ (xbt _ rfl rfl C rfl _ rfl (jEA _ rfl (xav _ rfl _ rfl _ rfl a _ (xcb _ _ rfl rfl C rfl ?_)))));refine(xaj kv ks k1 kn r.1 (xcy o rfl J y hp (λH1 I=>?_)));refine(xb2 p r.2.1 (.str o) (.str o) env rfl (M.same I) rfl hm (λZ H2 U z=>?_));have i:=I.trans U;exact(xaj kv G Z ks r.2.2 (xak _ k rfl (J.same i) (Y.same i _) z hR (λH3 O=>q _ (i.trans O))))
theorem xip (T:Tx K mg) (R:RK) (hm:m<=1000) (a7:∀ks env d k,R ks env d k->KL ks) (g:DefIs P w K mg base n "kind_of_sort" qa1 (xe1 R m)) (o:DefIs P w K mg base n "need_tags" qbi xgq) (b:DefIs P w K mg base n "arm_kind" qbh (xh3 R m)) (u:DefIs P w K mg base n "need_same" qal xd2) :
  DefIs P w K mg base (n+1) "case_kind" qaa (xbb (λks=>xlt True ks (R ks)) m):=by
 refine DefIs.of T.jP sc_case_kind (by walk_at"l") (λf a9 A outer s H vs Q E G h=>?_);obtain⟨kv,tv,p,ks,d,env,k,rfl,hk,hv,he,⟨_,a,rs,k1,Y,h1,h2,h3,h4,h5,h6,h7,rfl⟩,q⟩:=h;have nd:=sc_case_kind.nd;have a5:=a7 _ _ _ _ h1
 refine⟨_,(zpn (psn 3 nd (pd g G (va 0 (pc (px K (pv 1) pI) (va 2 (pc pS pN so)) ss))))
   (zpn (psn 4 nd (px K (pv 1) pI))
   (zpn (xa1 (pd o G (va 0 (va 3 (v1 4)))))
   (zpn (psn 5 nd (pd b G (va 0 (va 3 (pc (px K (pv 4) pI) (v1 2) ss)))))
   (zpn (xbp PassesOwn.never rfl (xan (K:=K) rfl (xc6 (xol (K:=K) rfl) (pv 4) (xc9 pI) xe3)) (pgn 6 nd)
   (zpo (xa1 (pd u G (pc (pd b G (va 0 (va 3 (va 6 (v1 2))))) (v1 5) zsc)))))
   (zpo (xad (pv 5)))))))),?_⟩
 have hs:Y.sort=S "alt":=by unfold Kn.sort;rw[if_neg (by rw[h3];decide)]
 obtain⟨l,us,rfl,ha,_,_,rfl,rfl,va,_,rfl,ra,vr,_,rfl,rr,rfl⟩:=hv;obtain⟨c,ws,rfl,hc,M⟩:=rr;refine(xal _ rfl _ rfl l _ _ (xbt _ rfl rfl (SqT.of ha) rfl _ rfl ?_));refine(xaj _ _ _ ks _ (xam env k1 Y (by rw[hs];rfl) hk ra he (jAA h1 h2 (λH1 s1=>?_))));refine(xaa _ rfl l _ _ _ rfl rfl (SqT.of (s1 _ _ ha)) rfl ?_);refine(xav _ rfl _ rfl _ rfl kv c (xat ws ks k1 Y rs rfl (hk.same s1) a5 h2 (s1 _ _ hc) (jAAA (M.same s1 _) h5 h6 ⟨(λr G=>by obtain⟨_,z,e,_⟩:=h7 r G;exact⟨z,e⟩),λH2 s2=>?_⟩)));have y:=s1.trans s2
 have a3:∀(i:Nat) (I:V) (H3:Hp) (s3:Same H H3),ws[i]?=some I->∃(r:Str×Str×D) (z:Str),RelD H3 I (dArm r)/\env r.2.1=none/\xdv Y r.1=some z/\R ks (env.put r.2.1 (.str z)) r.2.2 k:=λi I H3 s3 hw=>by
  obtain⟨d0,a1,a4⟩:=M.get hw;rw[zGM]at a1;obtain⟨r,G,rfl⟩:=zMS a1;obtain⟨g1,z,g2,g3⟩:=h7 r (zMG G);exact(xcv r z (a4.same s3 _) g1 g2 g3)
 have O:=M.length;rw[zLM]at O;have a8:0<rs.length:=List.length_pos_iff.mpr h4
 cases x:ws with
 |nil=>rw[x]at O;simp at O;omega
 | cons I U=>
  refine(xav _ rfl _ rfl _ rfl c _ (xcb _ I rfl rfl (SqT.of (y _ _ hc)) (by rw[x];exact xas (j:=0) rfl) (jEA _ rfl ?_)));obtain⟨r,z,g0,g1,g2,g3⟩:=a3 0 I H2 y (by rw[x];rfl);refine(xaj kv I p ks env (xat k1 Y k z r rfl (hk.same y) h2 g0 (he.same y) (jAAA g1 g2 g3 ⟨hm,λH3 s3=>?_⟩)));have a0:=y.trans s3
  refine⟨_,rfl,_,rfl,c,ws,rfl,SqT.of (a0 _ _ hc),(by
   rw[show((1:Int))=((1:Nat):Int) from rfl,HT.sIx_nat];rw[x,List.length_cons];omega),λcp a6=>?_⟩
  have t3:=Same.new a6 (.tup (cutV ws (some 1) none));have C:=a0.trans t3
  have a2:cutV ws (some 1) none=U:=by
   unfold cutV;rw[show((1:Int))=((1:Nat):Int) from rfl,HT.sIx_nat,HT.sIx_none,x,List.length_cons];rw[show min 1 (U.length+1)=1 by omega];show List.take _ U=U;exact zTL (by omega)
  refine(jEAA cp rfl ⟨_,SqT.of ups⟩ ?_);rw[a2]at t3 C⊢;refine xck (xs:=U) (λi σ H'=>∃o6,σ=[some kv,some (.ref l),some (.ref p),some (.str k1),some (.ref c),some (.str k),o6]/\Same (upd H3 cp (.tup U)) H') (jEA none rfl (Same.refl _)) (λi σ H' _ p=>?_) ?_ ?_
  ·obtain⟨_,_,J⟩:=p
   exact SqT.of (J _ _ ups)
  ·rintro i v σ H5 hv ⟨o6,rfl,J⟩
   refine(jEA _ rfl (jEA _ rfl (jEA _ rfl (jEA _ rfl ?_))));obtain⟨r,z,g0,g1,g2,g3⟩:=a3 (i+1) v H5 (C.trans J) (by rw[x];exact hv);have Z:=C.trans J;refine(xaj kv v p ks env (xat k1 Y k z r rfl (hk.same Z) h2 g0 (he.same Z) (jAAA g1 g2 g3 ⟨hm,λH6 s6=>?_⟩)));exact(jEA _ rfl (jEA k rfl (jEA _ rfl (J.trans s6))))
  ·rintro σ H5 ⟨o6,rfl,J⟩
   exact(jEA _ rfl (q _ (C.trans J)))
theorem xrv(R:RK)(D:DefIs P w K b base n "kind_of" qaa (xbb R (m+1))):DefIs P w K b base n "kind_of" qaa (xbb R m):=D.imp λvs H Q E h=>by
 obtain⟨kv,a,p,ks,d,env,k,j,i,g,f,e,c⟩:=h;exact(xaj kv a p ks d (xak env k j i g (f.mono (by omega)) e c))
def KdL(n:Nat):RK:=λks env d k=>KL ks/\Kd True ks n env d k
theorem xn9(T:Tx K l):∀n m,n+m<=1000->DefIs P w K l base (3*n+8) "kind_of" qaa (xbb (KdL n) m)
 | 0,m,_=>by
  refine(xiz (P:=P) (w:=w) (base:=base) (n:=4) (m:=m) T (λ_ _ _ _=>False) False (DefIs.none T.jI ?_) (DefIs.none T.jP ?_)).imp ?_
  ·rintro vs H Q E ⟨_,_,_,_,_,_,_,_,_,_,_,h,_⟩
   exact h
  ·rintro vs H Q E ⟨_,_,_,_,_,_,_,_,_,_,_,⟨h,_⟩,_⟩
   exact h
  ·rintro vs H Q E ⟨kv,c,p,ks,d,env,k,j,i,g,f,a,e⟩
   exact(xaj kv c p ks d (xak env k j i g f (.inl a.2) e))
 |n+1,m,x=>by
  have b:DefIs P w K l base (3*n+8) "kind_of" qaa (xbb (KdL n) (m+1)):=xn9 T n (m+1) (by omega);have o:=xrv (KdL n) b;have u:=xdy (n:=3*n+8) T (KdL n) o (xb8 T);have r:=xc8 (P:=P) (w:=w) (base:=base) (n:=3*n+7) T (xbi T);have C:=xj3 (n:=3*n+8) T (KdL n) b (xf6 T) r;have s:=xii (P:=P) (w:=w) (base:=base) (n:=3*n+8) T (xbi T) (xik T);have z:=xip (n:=3*n+9) T (KdL n) (by omega) (λ_ _ _ _ h=>h.1) u s C (xdx T);refine(xiz (n:=3*n+7) (m:=m) T (KdL n) True o z).imp ?_;rintro vs H Q E ⟨kv,c,p,ks,d,env,k,j,i,g,f,⟨y,a⟩,e⟩;refine(xaj kv c p ks d (xak env k j i g f ?_ e));rcases a with a |a
  ·exact .inl a
  ·exact .inr (a.mono λ_ _ _ h=>⟨y,h⟩)
def envB(bs:List (Str×Str)):En:=λy=>(bs.find? λb=>decide (b.1=y)).map λb=>D.str b.2
theorem xor{bs:List (Str×Str)}(nd:(bs.map (·.1)).Nodup){p:Str×Str}(b:p∈bs):envB bs p.1=some (.str p.2):=by
 unfold envB;obtain⟨i,hi,e⟩:=zMI b;rw[xcq (f:=λr:Str×Str=>r.1) (xs:=bs) (i:=i) (a:=p) nd (by rw[<- e];exact zGA hi)];rfl
theorem xr1{H:Hp}{p:Addr}{bs:List (Str×Str)}(nd:(bs.map (·.1)).Nodup)(c:H p=some (.dK (xa5 [] (bKV bs)))):EnAt H p bs.length (envB bs):=by
 refine(jEAA _ c ?_ (λy=>⟨λe=>?_,λd e=>?_⟩))
 ·have:=xb9 (bKV bs) []
  unfold bKV at this⊢;rw[zLM]at this;simpa using this
 ·unfold envB at e
  have h:=List.find?_eq_none.mp (Option.map_eq_none_iff.mp e);rw[xgd bs [] λb a=>by simpa using h b a];rfl
 ·unfold envB at e
  obtain⟨b,a,rfl⟩:=zMS e
  have f:b.1=y:=by
   have:=List.find?_some a;exact of_decide_eq_true this
  refine(jEA (.str b.2) ?_ rfl);rw[<- f];exact xfp bs [] nd b (zMF a)
def xm6:Sp:=λvs H Q _=>∃(wa a:Addr) (us:List V) (ys:List Wy) (ps:List (Str×Str)),vs=[.ref wa,.ref a]/\WaysAt H wa ys/\(H a=some (.lst us)\/H a=some (.tup us))/\RelDs H us (ps.map xd0)/\(ps.map (·.1)).Nodup/\ps.length<=100/\(∀p∈ps,xc2 ys p.2=some p.2) ∧
 ∀dp H',Same H H'->H dp=none->EnAt H' dp ps.length (envB ps)->Q (.ref dp) H'
def xmw:Sp:=λvs H Q _=>∃(kv:V) (ks:List Kn) (x:Str) (k:Kn),vs=[kv,.str x]/\KsAt H kv ks/\kAt ks x=some k/\Q .non H
def xqd:Sp:=λvs H Q _=>∃(fa sa:Addr) (kv1 kv2:V) (r1 r2:List V) (ks ks2:List Kn) (x x2:Str) (k k2:Kn),vs=[.ref fa,.ref sa,.str x,.str x2]/\H fa=some (.tup (kv1::r1))/\H sa=some (.tup (kv2::r2))/\KsAt H kv1 ks/\KsAt H kv2 ks2/\kAt ks x=some k/\kAt ks2 x2=some k2/\Q .non H
def xqc:Sp:=λvs H Q _=>∃(fa:Addr) (kv1:V) (r1:List V) (ks:List Kn) (hv:V) (k:Kn),vs=[.ref fa,.str k.name,hv]/\H fa=some (.tup (kv1::r1))/\KsAt H kv1 ks/\kAt ks k.name=some k/\k.parts.length<=100/\(k.rc=false->k.parts≠[])/\RelD H hv (howD k)/\∀H',Same H H'->Q .non H'
theorem xhl (T:Tx K Y) (c:DefIs P w K Y base n "goes_to" qaf xf2):DefIs P w K Y base (n+1) "boxes_over" qa3 xm6:=by
  refine DefIs.of T.j4 sc_boxes_over (by walk_at"l") (λf a0 A outer s H vs Q E hr h=>?_);obtain⟨U,a,us,ys,ps,rfl,Z,l,u,O,hl,hg,q⟩:=h;have nd:=sc_boxes_over.nd;have M:=u.length;rw[zLM]at M;refine(jEA _ (zpo (xad (xay (xd8 rfl) rfl T.uL PyProof.Rows.boot_dict (pc (xbm ["x","kind","ways"] [none,none,some 0] rfl (by kernel_rfl) (xs1 (xcp (K:=K) rfl (pv 1)) (xan (K:=K) rfl (pv 1))) (λ_ _ _ _=>(xa3 (K:=K) (n:=2) rfl rfl (xac (pgc 0) (xac (pgc 1) xa2)))) (λ_ _ _ _=>(xe2 (pR xnl (pd c hr (va 2 (v1 1))) xca (nM _)))) (λ_ _ _ _=>(xaw (va 0 (pc (pd c hr (va 2 (v1 1))) pN zsc))))) pN xb1)))) ?_);rcases l with l |l
  case' inl=>
    refine .inl (xa9 _ rfl a rfl ⟨_,SqL.of l⟩ ?_);refine xe7 (xs:=us) (λi zs g=>Same H g/\zs.length=i/\RelDs g zs ((ps.take i).map xd0)) (jAA (Same.refl _) rfl rfl) (xa6 (by omega)) (λi zs g _ p=>SqL.of (p.1 _ _ l)) ?_ ?_
  case' inr=>
    refine .inr (xa9 _ rfl a rfl ⟨_,SqT.of l⟩ ?_);refine xbu (xs:=us) (λi zs g=>Same H g/\zs.length=i/\RelDs g zs ((ps.take i).map xd0)) (jAA (Same.refl _) rfl rfl) (xa6 (by omega)) (λi zs g _ p=>SqT.of (p.1 _ _ l)) ?_ ?_
  all_goals first
    | (rintro i y zs g hy hi C ⟨j,r,e⟩
       obtain⟨d,J,rd⟩:=(u.same j _).get hy;rw[zGM]at J;obtain⟨o,z,rfl⟩:=zMS J;obtain⟨b,ws,rfl,hb,_,_,rfl,rfl,_,_,rfl,rfl,rfl⟩:=rd;have G:=hg o (zMG z);refine(xao b _ rfl (SqT.of hb) rfl _ _ rfl _ (xb7 _ rfl rfl (ext2 rfl rfl) ?_));refine(xa8 _ rfl _ rfl U ys o.2 rfl (Z.same j) ?_);rw[G];refine(jAEA rfl _ rfl (iteT ?_));refine(xav _ rfl _ rfl _ rfl U ys (jEAA o.2 rfl (Z.same j) ?_));rw[G];refine⟨(by walk_at"s"),λt ht=>?_⟩;have m:=Same.new ht (.tup [.str o.1,.str o.2]);refine nxtG hi C (jAA (j.trans m) (by rw[zLA,List.length_singleton,r]) ?_);rw[zTA,z];show RelDs _ _ ((ps.take i++[o]).map _);rw[zAP];exact(e.same m _).append (xaq _ ([]) rfl (xag t _ rfl ups _ _ rfl rfl _ (jEAA _ rfl rfl rfl)) rfl))
    | (rintro zs g C ⟨j,r,e⟩ D hD
       rw[zTL (by omega)]at e;have m:=Same.new hD (.lst zs);refine(xda D zs (bKV ps) rfl ups (xfn (e.same m _)) (λdp I=>?_));have y2:=Same.new I (.dK (xa5 [] (bKV ps)));exact q dp _ (j.trans (m.trans y2)) (xeq (j.trans m) I) (xr1 O ups))
theorem xhh(T:Tx K e)(a:DefIs P w K e base n "sort_of" qab xcr):DefIs P w K e base (n+1) "need_there" qak xmw:=by
 refine DefIs.of T.jH sc_need_there (by walk_at"l") (λf j A outer s H vs Q E g h=>?_);obtain⟨kv,ks,x,k,rfl,i,b,q⟩:=h;have nd:=sc_need_there.nd;refine(jEA _ (zpo (xax (PW.pt (xea (pR xgl (pv 1) pS (nM _)) (xdj (pR xfd (pd a g (va 0 (v1 1))) xca (nM _))))) (zpo xbq) pQ)) ?_);refine(xba _ rfl rfl _ rfl (ite2 (λc=>?_) (λc=>?_)))
 ·refine(xa8 _ rfl _ rfl kv ks x rfl i ?_)
  rw[b];exact(jAEA rfl _ rfl (iteF q))
 ·exact iteF q
theorem xio(T:Tx K c)(b:DefIs P w K c base n "sort_of" qab xcr)(a:DefIs P w K c base n "need_there" qak xmw):DefIs P w K c base (n+1) "look_ends" qa5 xqd:=by
 refine DefIs.of T.j6 sc_look_ends (by walk_at"l") (λf I A outer s H vs Q E r h=>?_);obtain⟨G,y,g,e,M,J,ks,ks2,x,u,k,z,rfl,p,l,o,m,C,i,q⟩:=h;have nd:=sc_look_ends.nd
 refine⟨_,(zpn (xax (pR xfd (pd b r (pc (px K (pv 0) pI) (v1 2) ss)) xca (nM _)) (zpo xbq) pQ)
   (zpo (xa1 (pd a r (pc (px K (pv 1) pI) (v1 3) ss))))),?_⟩
 refine(xaa _ rfl G _ _ _ rfl rfl (SqT.of p) (xas (j:=0) rfl) (xb3 _ rfl g ks x rfl o ?_));rw[C];refine(jAEA rfl _ rfl (iteF ?_));exact(xaa _ rfl y _ _ _ rfl rfl (SqT.of l) (xas (j:=0) rfl) (xbh _ rfl e ks2 u z (jAAA rfl m i q)))
theorem xoo:∀ys:List Str,eqVs (ys.map V.str) (ys.map V.str)=true
 |[]=>rfl
 |y::ys=>by
  show(eqV (.str y) (.str y) && eqVs (ys.map V.str) (ys.map V.str))=true;rw[xoo ys,show eqV (V.str y) (V.str y)=true from by show decide _=true;exact zDT rfl];rfl
theorem xlr{α β:Type}{R:β->α->Prop}{f:α->β}:∀{ps:List α},(∀p∈ps,R (f p) p)->All2 R (ps.map f) ps
 |[],_=>All2.nil
 |p::ps,h=>All2.cons (h p (by simp)) (xlr λq a=>h q (by simp[a]))
theorem xmh{ks:List Kn}{k:Kn}(c:kAt ks k.name=some k)(a:k.rc=true)(nd:(k.parts.map (·.1)).Nodup):Kd True ks 8 (envB k.parts) (tRec k.name (k.parts.map λp=>tBox p.1)) k.name:=
 .inr (.inr (.inl (xcv _ k c a (xlr λp b=>xoc (.inr (jEA p.1 (xor nd b) rfl))) rfl)))
theorem xmg{ks:List Kn}{k:Kn}{p:Str×Str}(c:kAt ks k.name=some k)(a:k.rc=false)(nd:(k.parts.map (·.1)).Nodup)(b:p∈k.parts):Kd True ks 8 (envB [(S "it",p.2)]) (tTag k.name p.1 (tBox (S "it"))) k.name:=
 .inr (.inr (.inr (.inr (.inl (xap p.1 _ k p.2 c a (xnk nd b) (xoc (.inr (jEA (S "it") (xor (p:=(S "it",p.2)) (by simp) (by simp)) rfl))) rfl)))))
def xmx:Sp:=λvs H Q _=>∃(fa sa wa:Addr) (kv1 kv2:V) (r1 r2:List V) (ks ks2:List Kn) (ys:List Wy) (k:Kn),vs=[.ref fa,.ref sa,.ref wa,.str k.name]/\H fa=some (.tup (kv1::r1))/\H sa=some (.tup (kv2::r2))/\KsAt H kv1 ks/\KsAt H kv2 ks2/\KL ks2/\kAt ks k.name=some k/\kAt ks2 k.name=some k/\WaysAt H wa ys/\wyAt ys k.name=some (wyK k) ∧
 (k.parts.map (·.1)).Nodup/\k.parts.length<=100/\(∀p∈k.parts,xc2 ys p.2=some p.2)/\∀H',Same H H'->Q .non H'
def xm3:Sp:=λvs H Q _=>∃(fa sa wa:Addr) (kv1 kv2:V) (r1 r2:List V) (kvs:List (Key×V)) (ks ks2:List Kn),vs=[.ref fa,.ref sa,.ref wa]/\H fa=some (.tup (kv1::r1))/\H sa=some (.tup (kv2::r2))/\RelD H kv1 (xdg ks)/\KWf ks/\KsAt H kv2 ks2/\KL ks2/\(∀k∈ks,kAt ks2 k.name=some k)/\H wa=some (.dK kvs)/\WAll H kvs (ks.map wyK)/\∀H',Same H H'->Q (.bl true) H'
theorem xft{ks:List Kn}(nd:(ks.map Kn.name).Nodup){k:Kn}(b:k∈ks):kAt ks k.name=some k:=by
 obtain⟨i,hi,e⟩:=zMI b;exact xcq (f:=Kn.name) (xs:=ks) (i:=i) (a:=k) nd (by rw[<- e];exact zGA hi)
theorem xp3{H:Hp}{a:Addr}{kvs:List (Key×V)}(o:HO)(c:H a=some (.dK kvs)):∀b vs,H b=some (.tup vs)->upd H a o b=some (.tup vs):=xli c o
def xky:Sp:=λvs H Q _=>∃(hv:V) (k:Kn),vs=[hv]/\RelD H hv (howD k)/\(k.rc=false->k.parts≠[])/\Q (.bl k.rc) H
theorem xl8(T:Tx K O):DefIs P w K O base (n+1) "is_term" ["how"] xky:=by
 refine DefIs.of T.j8 xl2 (by walk_at"l") (λf Y A outer s H vs Q E hr h=>?_);obtain⟨hv,k,rfl,l,x,q⟩:=h;refine(jEA _ (zpo (xad (xk6 (xeh xf5 (xau (xae (K:=K) rfl) rfl T.uP PySem.boot_len (v1 0)) pI (nM _)) (xk5 (xau xkm rfl T.uO PyProof.Rows.boot_isinstance (pc (px K (pv 0) pI) (pc (xs5 T.uV PyProof.Rows.boot_str) pN zsn) ss)))))) ?_);unfold howD at l
 cases o:k.rc with
 |true=>
  rw[if_pos o]at l;rw[o]at q;obtain⟨a,_,rfl,p,I,_,rfl,M,v1,_,rfl,J,Z,_,rfl,r2,rfl⟩:=l;obtain rfl:I=.str (S "rec"):=M;refine(xah _ rfl a _ rfl (.inr (SqT.of p)) (xaq _ _ rfl rfl (jEA _ rfl (xpy (by rfl) ?_))));exact(xaa _ rfl a _ _ _ rfl rfl (SqT.of p) rfl (xb2 _ _ _ _ _ rfl (λu b=>b) (TyOf.str _) rfl q))
 | false=>
  rw[if_neg (by rw[o];decide)]at l;rw[o]at q;obtain⟨a,us,rfl,p,c⟩:=l;have e:=c.length;rw[zLM]at e
  have i:0<us.length:=by
   rw[e];exact List.length_pos_iff.mpr (x o)
  obtain⟨C,g⟩:∃C,us[0]?=some C:=⟨us[0],zGA i⟩;obtain⟨d0,m,r⟩:=c.get g;rw[zGM]at m;obtain⟨p0,U,rfl⟩:=zMS m;obtain⟨b0,G,rfl,z,_⟩:=r;have y:decide ((us.length:Int) > 0)=true:=zDT (by omega);refine(xah _ rfl a _ rfl (.inr (SqT.of p)) (xaq _ _ rfl rfl (jEA _ rfl (xpy y ?_))));exact(xaa _ rfl a _ _ _ rfl rfl (SqT.of p) (xas (j:=0) g) (xb2 _ _ _ _ _ rfl (λu b=>b) (TyOf.tup z) rfl q))
theorem xin(T:Tx K mg)(e:DefIs P w K mg base n "is_term" ["how"] xky)(l:DefIs P w K mg base n "sort_of" qab xcr)(g:DefIs P w K mg base n "parts_of" qab xb6):DefIs P w K mg base (n+1) "look_form" qbj xqc:=by
 refine DefIs.of T.j7 sc_look_form (by walk_at"l") (λf a4 A outer s H vs Q E G h=>?_);obtain⟨fa,y,r1,ks,hv,k,rfl,U,M,J,hl,I,hh,q⟩:=h;have nd:=sc_look_form.nd;have hu:=xdl G
 refine⟨_,(zpn (xax (pR xbe (pd l G (pc (px K (pv 0) pI) (v1 1) ss)) pS (nM _)) (zpo (psn 3 nd (pd e G (v1 2)))) (zpo (psn 3 nd (xk6 (xs4 (pd e G (v1 2))) (xk5 (xeh (xs9 (Nat.lt_of_succ_lt hu)) (xbm ["each"] [none] rfl (by kernel_rfl) (xan (K:=K) rfl (pv 2)) (λ_ _ _ _=>(pgc 0)) (λ_ _ _ _=>xbl) (λ_ _ _ _=>(px K (pv 0) pI))) (xbm ["part"] [none] rfl (by kernel_rfl) (xan (K:=K) rfl (pd g G (pc (px K (pv 0) pI) (v1 1) ss))) (λ_ _ _ _=>(pgc 0)) (λ_ _ _ _=>xbl) (λ_ _ _ _=>(px K (pv 0) pI))) (nM _)))))))
   (zpo (xax (xk3 (xnc (pv 3))) (zpo xbq) pQ))),?_⟩
 have O:=hh;unfold howD at hh;refine(xaa _ rfl fa _ _ _ rfl rfl (SqT.of U) (xas (j:=0) rfl) (xb3 _ rfl y ks k.name rfl M ?_));rw[J]
 cases hc:k.rc with
 |true=>
  refine(jAEA rfl _ rfl (iteKT (zDT (by show V.str k.sort=_;rw[xdd hc];rfl)) ?_));refine(xah _ rfl hv k rfl O ⟨I,?_⟩);rw[hc];exact(jEA _ rfl (jEA _ rfl (iteF (q _ (Same.refl _)))))
 | false=>
  rw[if_neg (by rw[hc];decide)]at hh;obtain⟨a,us,rfl,ha,C⟩:=hh;have a0:=C.length;rw[zLM]at a0;refine(jAEA rfl _ rfl (iteKF (zDF (by show ¬V.str k.sort=_;rw[xdh hc];decide +kernel)) ?_));refine(xah _ rfl _ k rfl O ⟨I,?_⟩);rw[hc];refine(jEA _ rfl (jEA _ rfl (iteT ?_)));refine(xa9 _ rfl a rfl ⟨_,SqT.of ha⟩ ?_);refine xdn (j:=0) (xs:=us) (λi zs o=>o=H/\zs=((k.parts.take i).map (·.1)).map V.str) (by rfl) ⟨rfl,rfl⟩ (xa6 (by omega)) (λi zs o _ p=>by obtain⟨rfl,_⟩:=p;exact SqT.of ha) ?_ ?_
  ·rintro i x zs o z m ⟨rfl,rfl⟩
   obtain⟨d,hd,rd⟩:=C.get z;rw[zGM]at hd;obtain⟨pr,r,rfl⟩:=zMS hd;obtain⟨b,_,rfl,hb,v0,_,rfl,r0,v1,_,rfl,_,rfl⟩:=rd;obtain rfl:v0=.str pr.1:=r0;have hi:i<us.length:=(zES z).1;refine(xaa _ rfl b _ _ _ rfl rfl (SqT.of hb) rfl (nxt hi m ⟨rfl,?_⟩));rw[zTA,r];simp
  rintro zs o m ⟨rfl,rfl⟩ D1 a3;rw[zTL (by omega)];have y1:=Same.new a3 (.lst ((k.parts.map (·.1)).map V.str));refine(xaa _ rfl fa _ _ _ rfl rfl (SqT.of (y1 _ _ U)) (xas (j:=0) rfl) (xb3 _ rfl y ks k.name rfl (M.same y1) (λu H2 s2 ru=>?_)));rw[J]at ru;obtain⟨c,cs,rfl,Z,Y⟩:=ru;have a1:=Y.length;rw[zLM]at a1;refine(jEAA c rfl ⟨_,SqT.of Z⟩ ?_);refine xdn (j:=0) (xs:=cs) (λi zs o=>o=H2/\zs=((k.parts.take i).map (·.1)).map V.str) (by rfl) ⟨rfl,rfl⟩ (xa6 (by omega)) (λi zs o _ p=>by obtain⟨rfl,_⟩:=p;exact SqT.of Z) ?_ ?_
  ·rintro i x zs o z m ⟨rfl,rfl⟩
   obtain⟨d,hd,rd⟩:=Y.get z;rw[zGM]at hd;obtain⟨pr,r,rfl⟩:=zMS hd;obtain⟨b,_,rfl,hb,v0,_,rfl,r0,v1,_,rfl,_,rfl⟩:=rd;obtain rfl:v0=.str pr.1:=r0;have hi:i<cs.length:=(zES z).1;refine(xaa _ rfl b _ _ _ rfl rfl (SqT.of hb) rfl (nxt hi m ⟨rfl,?_⟩));rw[zTA,r];simp
  rintro zs o m ⟨rfl,rfl⟩ D2 a2;rw[zTL (by omega)];have y2:=Same.new a2 (.lst ((k.parts.map (·.1)).map V.str));refine(xbg D1 D2 _ _ rfl rfl (SqL.of ((s2.trans y2) _ _ ups)) (SqL.of ups) (xdz _) (xdz _) ?_);rw[xoo];exact(jEA _ rfl (jEA _ rfl (iteF (q _ (y1.trans (s2.trans y2))))))
theorem xhi(T:Tx K mg)(o:DefIs P w K mg base n "sort_of" qab xcr)(m:DefIs P w K mg base n "parts_of" qab xb6)(a:DefIs P w K mg base n "boxes_over" qa3 xm6)(e:DefIs P w K mg base n "need_kind" qae (xcl (KdL 8) 100)):DefIs P w K mg base (n+1) "look_terms" qa4 xmx:=by
 refine DefIs.of T.j9 sc_look_terms (by walk_at"l") (λf ar A outer s H vs Q E J h=>?_);obtain⟨fa,sa,U,a1,a0,r1,r2,ks,ks2,ys,k,rfl,aa,a2,a7,a6,ae,a5,C,hw,ah,M,hl,hg,q⟩:=h;have nd:=sc_look_terms.nd;have hu:=xdl J;obtain⟨kvs,hd,ai⟩:=id hw;obtain⟨v,h1,h2⟩:=(ai.val (x:=k.name)).2 _ ah;obtain⟨b,_,rfl,hb,v0,_,rfl,r0,hv,_,rfl,hh,rfl⟩:=h2;obtain rfl:v0=.str k.name:=r0
 have g:DGet H U (.str k.name) (some (.ref b)):=by
  have:=DGet.rd (k:=Sum.inr k.name) hd;rw[h1]at this;exact this
 refine⟨_,(zpn (psn 4 nd (px K (xcm hu (pv 2) (pv 3) (λ_ _=>rfl)) pI))
   (zpn (psn 5 nd (px K (xcm hu (pv 2) (pv 3) (λ_ _=>rfl)) pI))
   (zpn (psn 6 nd (pd m J (pc (px K (pv 0) pI) (v1 3) ss)))
   (zpo (xax (pR xbe (pd o J (pc (px K (pv 0) pI) (v1 3) ss)) pS (nM _)) (zpo (xa1 (pd e J (pc (px K (pv 1) pI) (va 5 (pc (pd a J (va 2 (v1 6))) (v1 4) zsc)) ss)))) (zpo (xbp PassesOwn.never rfl (xib rfl T.uY (va 6 (v1 5))) (xa3 (K:=K) rfl rfl (xac (pgn 7 nd) (xac (pgn 8 nd) xa2)))
   (zpo (xa1 (pd e J (pc (px K (pv 1) pI) (pc (px K (pv 8) pI) (pc (pd a J (va 2 (pc (xcg (pc (xaw (pc pS (pc (px K (pv 7) pI) pN ss) so)) pN sT)) pN xg2))) (v1 4) zsc) ss) ss))))))))))),?_⟩
 refine(xbr _ rfl _ rfl U _ rfl g b (xam _ _ _ rfl rfl (SqT.of hb) rfl ?_));refine(xbr _ rfl _ rfl U _ rfl g b (xam _ _ _ rfl rfl (SqT.of hb) rfl ?_));refine(xaa _ rfl fa _ _ _ rfl rfl (SqT.of aa) (xas (j:=0) rfl) (xb3 _ rfl a1 ks k.name rfl a7 (λu H1 z ru=>?_)));rw[a5]at ru;obtain⟨c,cs,rfl,hc,O⟩:=ru;have ao:=O.length;rw[zLM]at ao;refine(xaa _ rfl fa _ _ _ rfl rfl (SqT.of (z _ _ aa)) (xas (j:=0) rfl) (xb3 _ rfl a1 ks k.name rfl (a7.same z) ?_));rw[a5]
 cases r:k.rc with
 |true=>
  refine(jAEA rfl _ rfl (iteKT (zDT (by show V.str k.sort=_;rw[xdd r];rfl)) ?_));refine(xaa _ rfl sa _ _ _ rfl rfl (SqT.of (z _ _ a2)) (xas (j:=0) rfl) (xav _ rfl _ rfl _ rfl U c (xam cs ys k.parts rfl (hw.same z) (.inr hc) O (jAAA M hl hg (λdp H2 G _ en=>?_)))));refine(xbh _ rfl a0 hv dp ks2 (xam (howD k) _ k.name rfl (a6.same (z.trans G)) (hh.same (z.trans G) _) (en.mono (by omega)) ⟨⟨ae,?_⟩,λH3 Z=>q _ (z.trans (G.trans Z))⟩));unfold howD;rw[if_pos r];exact xmh C r M
 | false=>
  refine(jAEA rfl _ rfl (iteKF (zDF (by show ¬V.str k.sort=_;rw[xdh r];decide +kernel)) ?_));change RelD H hv (howD k) at hh;unfold howD at hh;rw[if_neg (by rw[r];decide)]at hh;obtain⟨ha,hs,rfl,a9,a8⟩:=hh;have an:=a8.length;rw[zLM]at an;refine(jEA _ rfl (xah _ rfl c ha rfl ⟨_,SqT.of hc⟩ ⟨⟨_,SqT.of (z _ _ a9)⟩,?_⟩));refine xkd (xs:=cs) (ys:=hs) (by omega) (λi σ H'=>∃o7 o8,σ=[some (.ref fa),some (.ref sa),some (.ref U),some (.str k.name),some (.str k.name),some (.ref ha),some (.ref c),o7,o8]/\Same H1 H') (jEEA none none rfl (Same.refl _)) (λi σ H' _ p=>?_) ?_ ?_
  ·obtain⟨_,_,_,Y⟩:=p
   exact⟨SqT.of (Y _ _ hc),SqT.of ((z.trans Y) _ _ a9)⟩
  ·rintro i x y σ H' pt hx hy ⟨o7,o8,rfl,Y⟩ al
   obtain⟨dp,ab,af⟩:=O.get hx;rw[zGM]at ab;obtain⟨pr,a3,rfl⟩:=zMS ab;obtain⟨de,ac,ag⟩:=a8.get hy;rw[zGM,a3]at ac;cases ac;obtain⟨b2,_,rfl,aq,_,_,rfl,rfl,_,_,rfl,rfl,rfl⟩:=af;obtain⟨tb,_,rfl,aj,t0,_,rfl,_,t1,_,rfl,ak,rfl⟩:=ag;have a4:=zMG a3;have sn:=Same.new al (.tup [.ref b2,.ref tb]);have G:=Y.trans sn;have I:=z.trans G;refine(xao pt _ rfl (SqT.of ups) rfl _ _ rfl _ (jEAA _ rfl rfl ?_));refine(xaa _ rfl sa _ _ _ rfl rfl (SqT.of (I _ _ a2)) (xas (j:=0) rfl) (xaa _ rfl tb _ _ _ rfl rfl (SqT.of (I _ _ aj)) rfl ?_));refine(xal _ rfl _ rfl b2 _ _ (xa7 _ rfl rfl (SqT.of (G _ _ aq)) rfl (by walk_at"s") (λt ht=>⟨(by walk_at"s"),λl am=>?_⟩)));have y1:=Same.new ht (.tup [.str (S "it"),.str pr.2]);have y2:=Same.new am (.lst [.ref t]);have y:=y1.trans y2;have Z:=I.trans y;refine(xat U l _ ys ([(S "it",pr.2)]) rfl (hw.same Z) (.inl ups) (xaq _ ([]) rfl (xag t _ rfl (y2 _ _ ups) _ _ rfl rfl _ (jEAA _ rfl rfl rfl)) rfl) (by simp) (jAA (by simp) (λp hp=>?_) (λdp H4 s4 _ en=>?_)))
   ·rw[zMO hp]
    exact hg pr a4
   refine(xbh _ rfl a0 _ dp ks2 (xam _ _ k.name rfl (a6.same (Z.trans s4)) (ak.same (Z.trans s4) _) (en.mono (by simp)) ⟨⟨ae,xmg C r M a4⟩,λH5 s5=>(jEEA _ _ rfl (G.trans (y.trans (s4.trans s5))))⟩))
  ·rintro σ H' ⟨o7,o8,rfl,Y⟩
   exact q _ (z.trans Y)
theorem xim(T:Tx K mg)(G:DefIs P w K mg base n "look_ends" qa5 xqd)(C:DefIs P w K mg base n "look_form" qbj xqc)(r:DefIs P w K mg base n "look_terms" qa4 xmx):DefIs P w K mg base (n+1) "look_ways" qag xm3:=by
 refine DefIs.of T.j5 sc_look_ways (by walk_at"l") (λf ao A outer s H vs Q E hr h=>?_);obtain⟨fa,sa,m,a1,a4,r1,r2,kvs,ks,ks2,rfl,aj,af,ah,Y,ab,ak,aa,a3,ae,q⟩:=h;have nd:=sc_look_ways.nd;have hu:=xdl hr
 have Z:∀(U l:Hp) (o:Obj),Same H U->Same (upd U m (.frz o (.dK kvs))) l->∀(i:Nat) (kv:Key×V),kvs[i]?=some kv->∃(k:Kn) (b:Addr) (hv:V),k∈ks/\kv.1=Sum.inr k.name/\l b=some (.tup [.str k.name,hv])/\RelD l hv (howD k)/\DGet l m (.str k.name) (some (.ref b))/\l fa=some (.tup (a1::r1))/\l sa=some (.tup (a4::r2))/\KsAt l a1 ks/\KsAt l a4 ks2/\WaysAt l m (ks.map wyK)/\l m=some (.frz o (.dK kvs)):=by
  intro U l o sB z i kv hi;have a0:∀b vs,H b=some (.tup vs)->l b=some (.tup vs):=λb vs e=>z _ _ (xp3 (.frz o (.dK kvs)) (sB _ _ a3) b vs (sB _ _ e));have hf:=z _ _ (ups (H:=U) (a:=m) (o:=.frz o (.dK kvs)));have a2:=ae.tups a0;obtain⟨y,hy,e1,e2⟩:=a2.get hi;rw[zGM]at hy;obtain⟨k,hk,rfl⟩:=zMS hy;have c:=zMG hk;have a9:Rd l m (.dK kvs):=.inr ⟨o,hf⟩;have ac:wyAt (ks.map wyK) k.name=some (wyK k):=by rw[xhs,xft Y.nd c];rfl
  obtain⟨v,h1,h2⟩:=(a2.val (x:=k.name)).2 _ ac;obtain⟨b,_,rfl,hb,v0,_,rfl,r0,hv,_,rfl,hh,rfl⟩:=h2;obtain rfl:v0=.str k.name:=r0;refine(xam k b hv c e1 hb hh (jAAA ?_ (a0 _ _ aj) (a0 _ _ af) (jAAA (Y.ksAt (ah.tups a0 _)) ⟨ab.1.tups a0 _,ab.2⟩ (jEA kvs a9 a2) hf)));have:=DGet.rd (k:=Sum.inr k.name) a9;rw[h1]at this;exact this
 have back:∀(U l:Hp) (o:Obj),Same H U->Same (upd U m (.frz o (.dK kvs))) l->Same H (upd l m (.dK kvs)):=λU l o sB z b u hb=>by
  by_cases e:b=m
  ·subst e
   rw[a3]at hb;cases hb;exact ups
  ·rw[xai e]
   exact z _ _ (by rw[xai e];exact sB _ _ hb)
 refine⟨_,(zpn (xg9 (xbp PassesOwn.never rfl (xjs (pv 2)) (pgn 3 nd)
   (zpo (xa1 (pd G hr (va 0 (va 1 (va 3 (pc (px K (xcm hu (pv 2) (pv 3) (λ_ _=>rfl)) pI) pN ss)))))))))
   (zpn (xg9 (xbp PassesOwn.never rfl (xjs (pv 2)) (pgn 3 nd)
   (zpo (xa1 (pd C hr (va 0 (va 3 (pc (px K (xcm hu (pv 2) (pv 3) (λ_ _=>rfl)) pI) pN ss))))))))
   (zpn (xg9 (xbp PassesOwn.never rfl (xjs (pv 2)) (pgn 3 nd)
   (zpo (xa1 (pd r hr (va 0 (va 1 (va 2 (v1 3)))))))))
   (zpo (xad xl5))))),?_⟩
 refine(xah _ rfl m kvs rfl a3 (λo nz=>?_));refine xhp (λi σ l=>∃o3,σ=[some (.ref fa),some (.ref sa),some (.ref m),o3]/\Same (upd H m (.frz o (.dK kvs))) l) (jEA none rfl (Same.refl _)) (λi σ l _ p=>by obtain⟨_,_,z⟩:=p;exact z _ _ ups) ?_ ?_
 ·rintro i kv σ l hi ⟨o3,rfl,z⟩
  obtain⟨k,b,hv,c,e1,hb,hh,g,J,M,I,O,a5,hf⟩:=Z H l o (Same.refl _) z i kv hi;rw[e1];refine(xb0 _ rfl _ rfl _ rfl _ rfl _ rfl (xaq m _ rfl g (xap b _ _ _ rfl rfl (SqT.of hb) rfl ?_)));exact(xaj fa sa a1 a4 r1 (xaj r2 ks ks2 k.name k.name (xak k k rfl J M I O (jAA (xft Y.nd c) (aa k c) (jEA _ rfl z)))))
 rintro σ H1 ⟨o3,rfl,a8⟩;refine(xcx m o kvs (a8 _ _ ups) nz ?_);have sB:=back H H1 o (Same.refl _) a8;generalize upd H1 m (.dK kvs)=U at sB⊢;refine(xah _ rfl m kvs rfl (sB _ _ a3) (λo nz=>?_));refine xhp (λi σ l=>∃o3,σ=[some (.ref fa),some (.ref sa),some (.ref m),o3]/\Same (upd U m (.frz o (.dK kvs))) l) (jEA _ rfl (Same.refl _)) (λi σ l _ p=>by obtain⟨_,_,z⟩:=p;exact z _ _ ups) ?_ ?_
 ·rintro i kv σ l hi ⟨o3,rfl,z⟩
  obtain⟨k,b,hv,c,e1,hb,hh,g,J,M,I,O,a5,hf⟩:=Z U l o sB z i kv hi;rw[e1];refine(jEA _ rfl (xbc _ rfl _ rfl _ rfl m _ rfl g (xap b _ _ _ rfl rfl (SqT.of hb) rfl ?_)));exact(xaj fa a1 r1 ks hv (xa7 k rfl J I (xft Y.nd c) (by have:=Y.pts k c;omega) (jAA (Y.alt k c) hh (λal s'=>(jEA _ rfl (z.trans s'))))))
 rintro σ H2 ⟨an,rfl,a7⟩;refine(xcx m o kvs (a7 _ _ ups) nz ?_);have sC:=back U H2 o sB a7;generalize upd H2 m (.dK kvs)=HC at sC⊢;refine(xah _ rfl m kvs rfl (sC _ _ a3) (λo nz=>?_));refine xhp (λi σ l=>∃o3,σ=[some (.ref fa),some (.ref sa),some (.ref m),o3]/\Same (upd HC m (.frz o (.dK kvs))) l) (jEA _ rfl (Same.refl _)) (λi σ l _ p=>by obtain⟨_,_,z⟩:=p;exact z _ _ ups) ?_ ?_
 ·rintro i kv σ l hi ⟨o3,rfl,z⟩
  obtain⟨k,b,hv,c,e1,hb,hh,g,J,M,I,O,a5,hf⟩:=Z HC l o sC z i kv hi;rw[e1];refine(jEA _ rfl (xav _ rfl _ rfl _ rfl fa sa (xaj m a1 a4 r1 r2 (xbg ks ks2 (ks.map wyK) k rfl J M I O ak (jAAA (xft Y.nd c) (aa k c) a5 (jAAA (by rw[xhs,xft Y.nd c];rfl) (Y.pnd k c) (by have:=Y.pts k c;omega) ⟨λp hp=>xet ?_,λal s'=>(jEA _ rfl (z.trans s'))⟩))))));obtain⟨ii,ai,ee⟩:=zMI c;rcases Y.ref ii k (by rw[<- ee];exact zGA ai) p hp with h |⟨j,k',hj,ag,e⟩
  ·exact .inl h
  ·exact .inr (jEA k' (zMG ag) e)
 rintro σ H3 ⟨am,rfl,a6⟩;refine(xcx m o kvs (a6 _ _ ups) nz ?_);exact q _ (back HC H3 o sC a6)
def xeo(m:Nat):Sp:=λvs H Q _=>∃(f:Addr) (kv:V) (p q:Int) (ks:List Kn) (x:Str),vs=[.ref f,kv,.str x]/\H f=some (.lst [.int p,.int q])/\RelD H kv (xdg ks)/\KWf ks/\KIn ks m x/\∀u d H',Fed f H H'->RelD H' u d->Vk ks x d->Q u H'
theorem xid (T:Tx K mg) (a7:Sp) (g:DefIs P w K mg base n "_law_sort_of" qad xg3) (o:DefIs P w K mg base n "_law_take" qac xdb) (l:DefIs P w K mg base n "_law_number" qan xh1) (c:DefIs P w K mg base n "_law_value" qav a7) (a9:∀j,m=j+1->a7=xeo j) :
  DefIs P w K mg base (n+1) "_law_value" qav (xeo m):=by
 refine DefIs.of T.uH scl_value (by walk_at"l") (λf ao A outer s H vs Q E hr h=>?_);obtain⟨f',kv,p,q0,ks,x,rfl,hf,hk,wf,aj,q⟩:=h;have nd:=scl_value.nd
 refine⟨_,(zpn (xeb (pd g hr (va 1 (v1 2))) (xa3 (K:=K) rfl rfl (xac (pgn 3 nd) (xac (pgn 4 nd) xa2))))
   (zpn (xax (pR xbe (pv 3) pS (nM _)) (zpo (xad (pd l hr (v1 0)))) pQ)
   (zpn (xax (pR xbe (pv 3) pS (nM _)) (zpn (xeb (px K (pv 4) (pd o hr (va 0 (pc (xau (xae (K:=K) rfl) rfl T.uP PySem.boot_len (v1 4)) pN zsc)))) (xa3 (K:=K) rfl rfl (xac (pgn 5 nd) (xac (pgn 6 nd) xa2))))
   (zpo (xad (xaw (va 2 (va 5 (pc (pd c hr (va 0 (va 1 (v1 6)))) pN zsc))))))) pQ)
   (zpo (xad (xaw (va 2 (pc (xay (xbk (K:=K) rfl) rfl T.uX PyProof.Rows.boot_tuple (pc (xbm ["_law_f","_law_part","_law_feed_here","_law_kinds_here"] [none,none,some 0,some 1] rfl (by kernel_rfl) (xan (K:=K) rfl (pv 4)) (λ_ _ _ _=>(xa3 (K:=K) (n:=2) rfl rfl (xac (pgc 0) (xac (pgc 1) xa2)))) (λ_ _ _ _=>xbl) (λ_ _ _ _=>(pd c hr (va 2 (va 3 (v1 1)))))) pN xb1)) pN zsc)))))))),?_⟩
 refine(xa8 _ rfl _ rfl kv ks x rfl ((wf.ksAt hk).seq) (λt am H1 s1 ht rp=>?_));refine(xao t _ rfl (SqT.of ht) rfl _ _ rfl _ (jEAA _ rfl rfl ?_));have C:=s1 _ _ hf;have F1:Fed f' H H1:=(Fed.refl hf).same s1;rcases aj.look wf with⟨rfl,z⟩ |⟨j,k,rfl,z,hn,hm,hp⟩
 ·refine(xba _ rfl rfl _ rfl (iteKT (zDT (by rw[z];rfl)) ?_))
  refine(xb3 _ rfl f' p q0 rfl C (λr H2 af f2=>?_));exact q _ (.int r) _ (F1.trans f2) rfl (.num r af)
 ·have D':=a9 j rfl
  subst D';rw[z]at rp;obtain⟨a,us,rfl,ha,a1⟩:=rp;have hl:=a1.length;rw[zLM]at hl;have h5:=wf.pts k hm;have G:xm7 (kAt ks x)=k.sort:=by rw[z];rfl
  cases hc:k.rc with
  |false=>
   have ab:k.sort=S "alt":=xdh hc;refine(xba _ rfl rfl _ rfl (iteKF (zDF (by rw[G,ab];decide +kernel)) ?_));refine(xba _ rfl rfl _ rfl (iteKT (zDT (by rw[G,ab];rfl)) ?_));have an:k.parts.length≠0:=λe=>wf.alt k hm hc (List.length_eq_zero_iff.mp e);refine(xbc _ rfl _ rfl _ rfl a _ rfl (.inr (SqT.of ha)) (xap f' p q0 _ rfl C (by omega) (by omega) (λr H2 r0 r1 f2=>?_)));have O:=xar (jEE p q0 C) f2;obtain⟨i,rfl⟩:∃i:Nat,r=(i:Int):=⟨r.toNat,by omega⟩;have hi:i<us.length:=by omega
   have g1:atI us (i:Int)=some us[i]:=xas (zGA hi);obtain⟨d,hd,rd⟩:=a1.get (zGA hi);rw[zGM]at hd;obtain⟨U,I,rfl⟩:=zMS hd;obtain⟨b,ws,eu,hb,_,_,rfl,rfl,_,_,rfl,rfl,rfl⟩:=rd;rw[eu]at g1;have M:=zMG I;obtain⟨p2,q2,J⟩:=f2.2;have ai:=(hk.same s1 _).tups O _;refine(xbf a _ _ _ rfl rfl (SqT.of (O _ _ ha)) g1 b (xb7 _ rfl (SqT.of (O _ _ hb)) rfl (jEEA _ _ rfl (xaq _ _ rfl rfl ?_))));refine(xb0 _ rfl _ rfl _ rfl _ rfl _ rfl (xaj f' kv p2 q2 ks (xa7 U.2 rfl J ai wf (hp U M) (λu e H3 f3 ru a5=>⟨(by walk_at"s"),λt3 a2=>?_⟩))));have s4:=Same.new a2 (.tup [.str x,.str U.1,u]);exact q _ (.tup [.str x,.str U.1,e]) _ ((F1.trans (f2.trans f3)).same s4) (xag t3 _ rfl ups _ _ rfl rfl _ (xb4 _ rfl rfl _ _ rfl (ru.same s4 _) rfl)) (.al z hc M a5)
  | true=>
   have aa:k.sort=S "rec":=xdd hc;refine(xba _ rfl rfl _ rfl (iteKF (zDF (by rw[G,aa];decide +kernel)) ?_));refine(xba _ rfl rfl _ rfl (iteKF (zDF (by rw[G,aa];decide +kernel)) ?_));refine(jEA _ rfl (xa9 _ rfl a rfl ⟨_,SqT.of ha⟩ ?_));refine xbu (xs:=us) (λi ys H'=>Fed f' H1 H'/\ys.length=i/\∃ds:List D,RelDs H' ys ds/\ds.length=i/\∀(Z:Nat) w' Y,ds[Z]?=some w'->k.parts[Z]?=some Y->Vk ks Y.2 w') (jAA (Fed.refl C) rfl (jEAA ([]) rfl rfl (λZ w' Y h=>by simp at h))) (xa6 (by omega)) (λi ys H' _ Y=>SqT.of (xar (jEE p q0 C) Y.1 _ _ ha)) ?_ ?_
   ·rintro i y ys H' hy hi ac ⟨fm,ae,ds,a0,a6,a4⟩
    have tp:=xar (jEE p q0 C) fm;obtain⟨d,hd,rd⟩:=a1.get hy;rw[zGM]at hd;obtain⟨U,I,rfl⟩:=zMS hd;obtain⟨b,ws,rfl,hb,_,_,rfl,rfl,_,_,rfl,rfl,rfl⟩:=rd;obtain⟨p2,q2,J⟩:=fm.2;refine(xao b _ rfl (SqT.of (tp _ _ hb)) rfl _ _ rfl _ (xb7 _ rfl rfl (ext2 rfl rfl) (xdo ?_)));refine(xav _ rfl _ rfl _ rfl f' kv (xbd p2 q2 ks U.2 rfl J ((hk.same s1 _).tups tp _) wf (hp U (zMG I)) (λu e H3 f3 ru a5=>nxtG hi ac (jAA (fm.trans f3) (by rw[zLA,List.length_singleton,ae]) (jEAA (ds++[e]) ?_ (by rw[zLA,List.length_singleton,a6]) (λZ w' Y hw a3=>?_))))))
    ·exact(a0.tups (xar (jEE p2 q2 J) f3) _).append (xaq u ([]) rfl ru rfl)
    ·by_cases ak:Z<ds.length
     ·rw[List.getElem?_append_left ak]at hw
      exact a4 Z w' Y hw a3
     ·have ag:=(zES hw).1
      rw[zLA,List.length_singleton]at ag;have e0:Z=i:=by omega
      subst e0;rw[List.getElem?_append_right (by omega),a6,Nat.sub_self]at hw;simp at hw;subst hw;rw[I]at a3;cases a3;exact a5
   ·rintro ys H' ac ⟨fm,_,ds,a0,a6,a4⟩ D hD
    refine(jEEA D ys rfl (.inl ⟨SqL.of ups,λl' ah=>⟨(by walk_at"s"),λt3 a2=>?_⟩⟩));have s2:=Same.new hD (.lst ys);have s3:=Same.new ah (.tup ys);have s4:=Same.new a2 (.tup [.str x,.ref l']);have a8:=s2.trans (s3.trans s4);exact q _ (.tup [.str x,.tup ds]) _ ((F1.trans fm).same a8) (xag t3 _ rfl ups _ _ rfl rfl _ (jEAA _ rfl (xaq l' ys rfl (s4 _ _ ups) (a0.same a8 _)) rfl)) (.rc z hc (by omega) a4)
theorem xks(T:Tx K a):∀m,DefIs P w K a base (m+3) "_law_value" qav (xeo m)
 |0=>xid (n:=2) T (λ_ _ _ _=>False) (xcn T) (xc0 T) (xde T (xc0 T)) (DefIs.none T.uH λ_ _ _ _ h=>h) (λj e=>by cases e)
 |m+1=>xid (n:=m+3) T (xeo m) (xcn T) (xc0 T) (xde T (xc0 T)) (xks T m) (λj e=>by cases e;rfl)
theorem xaf{t u:TS}{D:Ends}{σ:St}{H:Hp}(h:∀R:St->Hp->Prop,(∀σ H,u D σ H->R σ H)->t {D with nx:=R} σ H):tSeq t u D σ H:=h (u D) λ_ _ h=>h
def spNT(m:Nat):Sp:=λvs H Q _=>∃(f bl:Addr) (kv:V) (p q:Int) (ks:List Kn) (bs:List (Str×Str)) (us:List V) (x:Str),vs=[.ref f,kv,.ref bl,.str x]/\H f=some (.lst [.int p,.int q])/\bl≠f/\H bl=some (.lst us)/\RelDs H us (bs.map xd0)/\bs.length<=5/\RelD H kv (xdg ks)/\KWf ks/\KIn ks m x/\∀u d H',Fed f H H'->RelD H' u d->Q u H'
theorem xd4{H:Hp}{us:List V}{bs:List (Str×Str)}(g:RelDs H us (bs.map xd0)){i:Nat}{v:V}(a:us[i]?=some v):∃(b:Addr) (p:Str×Str),bs[i]?=some p/\v=.ref b/\H b=some (.tup [.str p.1,.str p.2]):=by
 obtain⟨d,hd,rd⟩:=g.get a;rw[zGM]at hd;obtain⟨c,e,rfl⟩:=zMS hd;obtain⟨b,ws,rfl,f,_,_,rfl,rfl,_,_,rfl,rfl,rfl⟩:=rd;exact(xaq b c e rfl f)
theorem xfe (T:Tx K mg) (af:Sp) (l:DefIs P w K mg base n "_law_sort_of" qad xg3) (g:DefIs P w K mg base n "_law_take" qac xdb) (o:DefIs P w K mg base n "_law_number" qan xh1) (c:DefIs P w K mg base n "_law_new_term" qau af) (al:∀j,m=j+1->af=spNT j) :
  DefIs P w K mg base (n+1) "_law_new_term" qau (spNT m):=by
 refine DefIs.of T.uA scl_new_term (by walk_at"l") (λf be A outer s H vs Q E hr h=>?_);obtain⟨G,bl,kv,p,q0,ks,bs,ub,x,rfl,hf,Y,ac,a8,h5,hk,wf,az,q⟩:=h;have nd:=scl_new_term.nd;have aj:=a8.length;rw[zLM]at aj
 refine⟨_,(zpn (xc1 (i:=4) ["_law_x","_law_told","_law_kind"] [none,none,some 3] rfl (by kernel_rfl) nd rfl (by walk_at"o") (xcp (K:=K) rfl (pv 2)) (λ_ _ _ _=>(xa3 (K:=K) (n:=2) rfl rfl (xac (pgc 0) (xac (pgc 1) xa2)))) (λ_ _ _ _=>(xe2 (pR xbe (pv 1) (pv 2) (nM _)))) (λ_ _ _ _=>(pv 0)))
   (zpn (xax (PW.pt (xea (pR xf5 (xau (xae (K:=K) rfl) rfl T.uP PySem.boot_len (v1 4)) pI (nM _)) (xdj (pR xbe (pd g hr (va 0 (pc pI pN so))) pI (nM _))))) (zpo (xad (xaw (pc pS (pc (pxl K (pv 4) (pd g hr (va 0 (pc (xau (xae (K:=K) rfl) rfl T.uP PySem.boot_len (v1 4)) pN zsc)))) pN ss) so)))) pQ)
   (zpn (xeb (pd l hr (va 1 (v1 3))) (xa3 (K:=K) rfl rfl (xac (pgn 5 nd) (xac (pgn 6 nd) xa2))))
   (zpn (xax (pR xbe (pv 5) pS (nM _)) (zpo (xad (xaw (pc pS (pc (pd o hr (v1 0)) pN zsc) so)))) pQ)
   (zpn (xax (pR xbe (pv 5) pS (nM _)) (zpn (xeb (px K (pv 6) (pd g hr (va 0 (pc (xau (xae (K:=K) rfl) rfl T.uP PySem.boot_len (v1 6)) pN zsc)))) (xa3 (K:=K) rfl rfl (xac (pgn 7 nd) (xac (pgn 8 nd) xa2))))
   (zpo (xad (xaw (pc pS (va 3 (va 7 (pc (pd c hr (va 0 (va 1 (va 2 (v1 8))))) pN zsc))) so))))) pQ)
   (zpo (xad (xaw (pc pS (va 3 (pc (xay (xbk (K:=K) rfl) rfl T.uX PyProof.Rows.boot_tuple (pc (xbm ["_law_f","_law_part","_law_feed_here","_law_kinds_here","_law_boxes_here"] [none,none,some 0,some 1,some 2] rfl (by kernel_rfl) (xan (K:=K) rfl (pv 6)) (λ_ _ _ _=>(xa3 (K:=K) (n:=2) rfl rfl (xac (pgc 0) (xac (pgc 1) xa2)))) (λ_ _ _ _=>xbl) (λ_ _ _ _=>(pd c hr (va 2 (va 3 (va 4 (v1 1))))))) pN xb1)) pN zsc)) so))))))))),xaf λR1 b4=>?_⟩
 refine(xa9 _ rfl bl rfl ⟨_,SqL.of ac⟩ ?_);refine xe7 (xs:=ub) (λi ys I=>I=H/\∃xs:List Str,ys=xs.map V.str) (jAE rfl ([]) rfl) (xa6 (by omega)) (λi ys I _ p=>by rw[p.1];exact SqL.of ac) ?_ ?_
 ·rintro i y ys I hy hi z ⟨rfl,xs,rfl⟩
  obtain⟨b2,pb,bb,rfl,b0⟩:=xd4 a8 hy;refine(xao b2 _ rfl (SqT.of b0) rfl _ _ rfl _ (xb7 _ rfl rfl (ext2 rfl rfl) ?_));refine(xct _ rfl _ rfl rfl _ rfl (ite2 (λc1=>?_) (λc1=>nxtN hi z (jAE rfl xs rfl))));exact(jEA _ rfl (nxtG hi z (jAE rfl (xs++[pb.1]) (by rw[zAP];rfl))))
 rintro ys I z ⟨rfl,xs,rfl⟩ sl am;have s1:=Same.new am (.lst (xs.map V.str));have O:upd I sl (.lst (xs.map V.str)) sl=some (.lst (xs.map V.str)):=ups;have ag:sl≠G:=Ne.symm (neN hf am);have F1:=(Fed.refl hf).same s1;refine b4 _ _ (xaf λR2 b3=>?_);generalize upd I sl (.lst (xs.map V.str))=H1 at s1 O F1⊢;have av:=s1 _ _ hf
 have ai:∀H2 M J,Fed G I H2->H2 G=some (.lst [.int M,.int J])->R2 [some (.ref G),some kv,some (.ref bl),some (.str x),some (.ref sl),none,none,none,none] H2:=by
  intro H2 M J F2 U;have ae:=xar (jEE p q0 hf) F2;have au:=hk.tups ae _;have aw:=F2.1 _ _ ac Y;have ak:=a8.tups ae _;refine b3 _ _ (xaf λR3 b1=>?_);refine(xa8 _ rfl _ rfl kv ks x rfl ((wf.ksAt au).seq) (λt b8 H3 s3 ht rp=>?_));refine(xao t _ rfl (SqT.of ht) rfl _ _ rfl _ (jEAA _ rfl rfl (b1 _ _ ?_)));have C:=s3 _ _ U;have F3:Fed G I H3:=F2.same s3;rcases az.look wf with⟨rfl,a1⟩ |⟨j,k,rfl,a1,hn,hm,hp⟩
  ·refine(xba _ rfl rfl _ rfl (iteKT (zDT (by rw[a1];rfl)) ?_))
   refine(xb3 _ rfl G M J rfl C (λr H4 ba f4=>⟨(by walk_at"s"),λt4 aa=>?_⟩));have s5:=Same.new aa (.tup [.str (S "num"),.int r]);exact q _ (tNum r) _ ((F3.trans f4).same s5) (xag t4 _ rfl ups _ _ rfl rfl _ (jEAA _ rfl rfl rfl))
  ·have D':=al j rfl
   subst D';rw[a1]at rp;obtain⟨a,us,rfl,ha,a7⟩:=rp;have hl:=a7.length;rw[zLM]at hl;have bc:=wf.pts k hm;have a0:xm7 (kAt ks x)=k.sort:=by rw[a1];rfl
   have ar:=au.same s3 _;have a5:=s3 _ _ aw;have a3:=ak.same s3 _
   cases hc:k.rc with
   |false=>
    have ao:k.sort=S "alt":=xdh hc;refine(xba _ rfl rfl _ rfl (iteKF (zDF (by rw[a0,ao];decide +kernel)) ?_));refine(xba _ rfl rfl _ rfl (iteKT (zDT (by rw[a0,ao];rfl)) ?_));have bd:k.parts.length≠0:=λe=>wf.alt k hm hc (List.length_eq_zero_iff.mp e);refine(xbc _ rfl _ rfl _ rfl a _ rfl (.inr (SqT.of ha)) (xap G M J _ rfl C (by omega) (by omega) (λr H4 r0 r1 f4=>?_)));have Z:=xar (jEE M J C) f4;obtain⟨i,rfl⟩:∃i:Nat,r=(i:Int):=⟨r.toNat,by omega⟩;have hi:i<us.length:=by omega
    have g1:atI us (i:Int)=some us[i]:=xas (zGA hi);obtain⟨d,hd,rd⟩:=a7.get (zGA hi);rw[zGM]at hd;obtain⟨pr,ab,rfl⟩:=zMS hd;obtain⟨b,ws,eu,hb,_,_,rfl,rfl,_,_,rfl,rfl,rfl⟩:=rd;rw[eu]at g1;have aq:=zMG ab;obtain⟨p4,q4,a2⟩:=f4.2;refine(xbf a _ _ _ rfl rfl (SqT.of (Z _ _ ha)) g1 b (xb7 _ rfl (SqT.of (Z _ _ hb)) rfl (jEEA _ _ rfl (xaq _ _ rfl rfl ?_))));refine(xb0 _ rfl _ rfl _ rfl _ rfl _ rfl (xbh _ rfl G bl kv p4 (xat q4 ks bs ub pr.2 rfl a2 Y (f4.1 _ _ a5 Y) (a3.tups Z _) (jAAA h5 (ar.tups Z _) wf ⟨hp pr aq,λu e H5 f5 ru=>⟨(by walk_at"s"),λt6 a9=>?_⟩⟩))));have s6:=Same.new a9 (.tup [.str (S "tag"),.str x,.str pr.1,u]);exact q _ (tTag x pr.1 e) _ ((F3.trans (f4.trans f5)).same s6) (xag t6 _ rfl ups _ _ rfl rfl _ (xb4 _ rfl rfl _ _ rfl rfl (xaq _ _ rfl (ru.same s6 _) rfl)))
   | true=>
    have an:k.sort=S "rec":=xdd hc;refine(xba _ rfl rfl _ rfl (iteKF (zDF (by rw[a0,an];decide +kernel)) ?_));refine(xba _ rfl rfl _ rfl (iteKF (zDF (by rw[a0,an];decide +kernel)) ?_));refine(jEA _ rfl (xa9 _ rfl a rfl ⟨_,SqT.of ha⟩ ?_));refine xbu (xs:=us) (λi ys I=>Fed G H3 I/\∃ds:List D,RelDs I ys ds) (jAE (Fed.refl C) ([]) rfl) (xa6 (by omega)) (λi ys I _ p'=>SqT.of (xar (jEE M J C) p'.1 _ _ ha)) ?_ ?_
    ·rintro i y ys H4 hy hi z ⟨fm,ds,a6⟩
     have tp:=xar (jEE M J C) fm;obtain⟨d,hd,rd⟩:=a7.get hy;rw[zGM]at hd;obtain⟨pr,ab,rfl⟩:=zMS hd;obtain⟨b,ws,rfl,hb,_,_,rfl,rfl,_,_,rfl,rfl,rfl⟩:=rd;obtain⟨p4,q4,a2⟩:=fm.2;refine(xao b _ rfl (SqT.of (tp _ _ hb)) rfl _ _ rfl _ (xb7 _ rfl rfl (ext2 rfl rfl) (xdo ?_)));refine(jEA _ rfl (xav _ rfl _ rfl _ rfl G bl (xaj kv p4 q4 ks bs (xak ub pr.2 rfl a2 Y (fm.1 _ _ a5 Y) (a3.tups tp _) (jAAA h5 (ar.tups tp _) wf ⟨hp pr (zMG ab),λu e H5 f5 ru=>nxtG hi z (jAE (fm.trans f5) (ds++[e]) ?_)⟩)))));exact(a6.tups (xar (jEE p4 q4 a2) f5) _).append (xaq u ([]) rfl ru rfl)
    ·rintro ys H4 z ⟨fm,ds,a6⟩ D hD
     refine(jEEA D ys rfl (.inl ⟨SqL.of ups,λl' ay=>⟨(by walk_at"s"),λt6 a9=>?_⟩⟩));have s2:=Same.new hD (.lst ys);have ax:=Same.new ay (.tup ys);have s4:=Same.new a9 (.tup [.str (S "rec"),.str x,.ref l']);have ah:=s2.trans (ax.trans s4);exact q _ (tRec x ds) _ ((F3.trans fm).same ah) (xag t6 _ rfl ups _ _ rfl rfl _ (xb4 _ rfl rfl _ _ rfl (xaq l' ys rfl (s4 _ _ ups) (a6.same ah _)) rfl))
 have b9:(xs.map V.str).length=xs.length:=zLM ..;refine(xah _ rfl sl _ rfl (.inl (SqL.of O)) (xaq _ _ rfl rfl (jEA _ rfl (ite2 (λc1=>?_) (λc1=>iteF (ai H1 p q0 F1 av))))));have b5:=of_decide_eq_true c1;refine(xaa _ rfl G p q0 2 rfl av (by decide) (by decide) (λr H2 r0 r1 f2=>(jAEA rfl _ rfl (ite2 (λc2=>?_) (λc2=>?_)))))
 ·obtain⟨M,J,U⟩:=f2.2
  have a4:=f2.1 _ _ O ag;refine(xbc _ rfl _ rfl _ rfl sl _ rfl (.inl (SqL.of a4)) (xap G M J _ rfl U (by omega) (by omega) (λr' H3 b7 b6 f3=>?_)));obtain⟨i,rfl⟩:∃i:Nat,r'=(i:Int):=⟨r'.toNat,by omega⟩;have hi:i<xs.length:=by omega
  have g1:atI (xs.map V.str) (i:Int)=some (.str xs[i]):=xas (by rw[zGM,zGA hi];rfl);refine(xbd sl _ _ _ rfl rfl (SqL.of (f3.1 _ _ a4 ag)) g1 (by walk_at"s") (λt4 aa=>?_));have s5:=Same.new aa (.tup [.str (S "box"),.str xs[i]]);exact q _ (tBox xs[i]) _ ((F1.trans (f2.trans f3)).same s5) (xag t4 _ rfl ups _ _ rfl rfl _ (jEAA _ rfl rfl rfl))
 ·obtain⟨M,J,U⟩:=f2.2
  exact ai H2 M J (F1.trans f2) U
theorem xgc(T:Tx K a):∀m,DefIs P w K a base (m+3) "_law_new_term" qau (spNT m)
 |0=>xfe (n:=2) T (λ_ _ _ _=>False) (xcn T) (xc0 T) (xde T (xc0 T)) (DefIs.none T.uA λ_ _ _ _ h=>h) (λj e=>by cases e)
 |m+1=>xfe (n:=m+3) T (spNT m) (xcn T) (xc0 T) (xde T (xc0 T)) (xgc T m) (λj e=>by cases e;rfl)
def xo7:Sp:=λvs H Q _=>∃(f ka:Addr) (p q:Int) (us:List V) (ks:List Kn),vs=[.ref f,.ref ka]/\H f=some (.lst [.int p,.int q])/\H ka=some (.tup us)/\RelDs H us (ks.map Kn.d)/\ks.length<=6/\∀x H',KIn ks ks.length x->Fed f H H'->Q (.str x) H'
structure GIn(H:Hp)(f nb:Addr)(kv:V)(ks:List Kn)(nms:List Str):Prop where
 fd:∃p q:Int,H f=some (.lst [.int p,.int q])
 nl:H nb=some (.lst (nms.map V.str))
 ok:xje nms
 ne:nb≠f
 nby:∀z∈nms,NoBy z
 kd:RelD H kv (xdg ks)
 wf:KWf ks
 pb:PNB ks
theorem GIn.same{H c:Hp}{f b:Addr}{kv:V}{ks:List Kn}{a:List Str}(g:GIn H f b kv ks a)(s:Same H c):GIn c f b kv ks a:=by
 obtain⟨p,q,h⟩:=g.fd;exact⟨(jEE p q (s _ _ h)),s _ _ g.nl,g.ok,g.ne,g.nby,g.kd.same s _,g.wf,g.pb⟩
theorem GIn.fed{H c:Hp}{f b:Addr}{kv:V}{ks:List Kn}{a:List Str}(g:GIn H f b kv ks a)(s:Fed f H c):GIn c f b kv ks a:=⟨s.2,s.1 _ _ g.nl g.ne,g.ok,g.ne,g.nby,g.kd.tups (xar g.fd s) _,g.wf,g.pb⟩
theorem GIn.refl{H:Hp}{f b:Addr}{kv:V}{ks:List Kn}{a:List Str}(g:GIn H f b kv ks a):Fed f H H:=by
 obtain⟨p,q,h⟩:=g.fd;exact Fed.refl h
theorem GIn.name{H:Hp}{f b:Addr}{kv:V}{ks:List Kn}{a:List Str}(g:GIn H f b kv ks a){i:Nat}(h:i<26):∃z,a[i]?=some z/\atI (a.map V.str) (i:Int)=some (.str z):=by
 have c:=g.ok.1;exact(jEA (a[i]'(by omega)) (zGA _) (xas (by rw[zGM,zGA (by omega)];rfl)))
structure ChsOk(ks:List Kn)(nms:List Str)(hn:Nat)(cs:List Chn):Prop where
 len:cs.length<=6
 nm:cs.map (·.1)=(nms.drop 12).take cs.length
 kin:∀c∈cs,KIn ks ks.length c.2.2.2
 ends:∀c∈cs,c.2.1∈nms.take hn/\c.2.2.1∈nms.take hn
def xqe:Sp:=λvs H Q _=>∃(f nb:Addr) (kv:V) (ks:List Kn) (nms:List Str) (hn:Nat),vs=[.ref f,kv,.ref nb,.int hn]/\GIn H f nb kv ks nms/\1<=hn/\hn<=4/\∀cv cs H',Fed f H H'->RelD H' cv (.tup (cs.map dChn))->ChsOk ks nms hn cs->1<=cs.length->Q cv H'
theorem xog{a:List Str}{i hn:Nat}{z:Str}(h:a[i]?=some z)(hi:i<hn):z∈a.take hn:=zMG (i:=i) (by rw[List.getElem?_take,if_pos hi];exact h)
theorem xd7{H:Hp}{us:List V}{cs:List Chn}(g:RelDs H us (cs.map dChn)){i:Nat}{v:V}(a:us[i]?=some v):∃(b:Addr) (c:Chn),cs[i]?=some c/\v=.ref b/\H b=some (.tup [.str c.1,.str c.2.1,.str c.2.2.1,.str c.2.2.2]):=by
 obtain⟨d,hd,rd⟩:=g.get a;rw[zGM]at hd;obtain⟨c,e,rfl⟩:=zMS hd;obtain⟨b,ws,rfl,f,_,_,rfl,rfl,_,_,rfl,rfl,_,_,rfl,rfl,_,_,rfl,rfl,rfl⟩:=rd;exact(xaq b c e rfl f)
structure BsOk(ks:List Kn)(nms:List Str)(bs:List (Str×Str)):Prop where
 len:bs.length<=5
 nd:(bs.map (·.1)).Nodup
 nm:∀b∈bs,b.1∈nms
 kin:∀b∈bs,KIn ks 6 b.2
def xsn:Sp:=λvs H Q _=>∃(f nb:Addr) (kv cv:V) (ks:List Kn) (nms:List Str) (cs:List Chn) (x:Str),vs=[.ref f,kv,cv,.str x,.ref nb]/\GIn H f nb kv ks nms/\RelD H cv (.tup (cs.map dChn))/\cs.length<=6/\(∀c∈cs,KIn ks ks.length c.2.2.2)/\∀bv bs H',Fed f H H'->RelD H' bv (xdr bs)->BsOk ks nms bs->Q bv H'
theorem xif(T:Tx K mg)(a:DefIs P w K mg base n "_law_take" qac xdb):DefIs P w K mg base (n+1) "_law_any_kind" qao xo7:=by
 refine DefIs.of T.uB scl_any_kind (by walk_at"l") (λf a2 A outer s H vs Q E hr h=>?_);obtain⟨f',ka,p1,q1,us,ks,rfl,Z,e,m,a0,q⟩:=h;have nd:=scl_any_kind.nd;refine(jEA _ (zpo (xad (pxl K (xaz xnm (xcg (pc pS pN so)) (xbm ["_law_row"] [none] rfl (by kernel_rfl) (xan (K:=K) rfl (pv 1)) (λ_ _ _ _=>(pgc 0)) (λ_ _ _ _=>xbl) (λ_ _ _ _=>(px K (pv 0) pI)))) (pd a hr (va 0 (pc (xaz xby pI (xau (xae (K:=K) rfl) rfl T.uP PySem.boot_len (v1 1))) pN xcf)))))) ?_);refine⟨(by walk_at"s"),λl2 M=>?_⟩;have g:=Same.new M (.lst [.str (S "num")]);have o:=m.length;rw[zLM]at o;refine(xa9 _ rfl ka rfl ⟨_,SqT.of (g _ _ e)⟩ ?_);refine xdn (j:=0) (xs:=us) (λi ys z=>z=upd H l2 (.lst [.str (S "num")])/\ys=((ks.take i).map Kn.name).map V.str) (by rfl) ⟨rfl,rfl⟩ (xa6 (by omega)) (λi ys z _ p=>by obtain⟨rfl,_⟩:=p;exact SqT.of (g _ _ e)) ?_ ?_
 ·rintro i' x ys z y r ⟨rfl,rfl⟩
  obtain⟨d,hd,rd⟩:=(m.same g _).get y;rw[zGM]at hd;obtain⟨k',O,rfl⟩:=zMS hd;obtain⟨b,a1,rfl,hb,_,_,rfl,rfl,_,_,rfl,rfl,v3,_,rfl,r3,rfl⟩:=rd;have U:i'<us.length:=(zES y).1;refine(xaa _ rfl b _ _ _ rfl rfl (SqT.of hb) rfl (nxt U r ⟨rfl,?_⟩));rw[zTA,O];simp
 rintro ys z r ⟨rfl,rfl⟩ D2 Y;rw[zTL (by omega)];have C:=Same.new Y (.lst ((ks.map Kn.name).map V.str));refine(xbd l2 D2 _ _ rfl rfl (C _ _ ups) ups (fits (by rw[zLM,zLM];show 1+_<=_;omega)) (λl3 u=>?_));have s4:=Same.new u (.lst ([.str (S "num")]++(ks.map Kn.name).map V.str));have c:=g.trans (C.trans s4);have J:l3≠f':=Ne.symm (neN ((g.trans C) _ _ Z) u);refine(xbr _ rfl _ rfl ka _ rfl (.inr (SqT.of (c _ _ e))) _ (jEAA _ rfl rfl (xap f' p1 q1 _ rfl (c _ _ Z) (by omega) (by omega) (λr5 H5 I G f5=>?_))));obtain⟨x,y,l⟩:=xla (ks:=ks) I (by rw[<- o];exact G);exact(xap l3 _ _ _ rfl rfl (SqL.of (f5.1 _ _ ups J)) y (q x _ l (((Fed.refl Z).same c).trans f5)))
theorem xie(T:Tx K mg)(a:DefIs P w K mg base n "_law_take" qac xdb)(m:DefIs P w K mg base n "_law_any_kind" qao xo7):DefIs P w K mg base (n+1) "_law_channels" qbo xqe:=by
 refine DefIs.of T.uC scl_channels (by walk_at"l") (λf bg A outer s H vs Q E hr h=>?_);obtain⟨u,nb,kv,ks,x,hn,rfl,g,h1,h4,q⟩:=h;have nd:=scl_channels.nd
 refine⟨_,(zpn (psn 4 nd (xcg pN))
   (zpn (xbp PassesOwn.never rfl (xcc rfl T.uT (pc (xaz xby pI (pd a hr (va 0 (pc pI pN so)))) pN xcf)) (pgn 5 nd)
   (zpn (psn 6 nd (xaw (pc (pxl K (pv 2) (pd a hr (va 0 (v1 3)))) (pc (pxl K (pv 2) (pd a hr (va 0 (v1 3)))) pN ss) ss)))
   (zpo (xa1 (xds PySem.F.plainAttrs_list PySem.F.slot_list_append PySem.F.type_list_append xbs (pv 4) (pc (xaw (pc (pxl K (pv 2) (xaz xby pI (pv 5))) (pc (px K (pv 6) pI) (pc (px K (pv 6) pI) (pc (pd m hr (va 0 (v1 1))) pN zsc) ss) ss) ss)) pN sT))))))
   (zpo (xad (xay (xbk (K:=K) rfl) rfl T.uX PyProof.Rows.boot_tuple (v1 4)))))),xaf λR1 b2=>?_⟩
 refine⟨(by walk_at"s"),λl hl=>b2 _ _ (xaf λR2 b1=>?_)⟩;have s0:=Same.new hl (.lst []);have g0:=g.same s0;obtain⟨p0,q0,az⟩:=g.fd;have lf:l≠u:=Ne.symm (neN az hl);obtain⟨p1,q1,ay⟩:=g0.fd;refine(xaa _ rfl u p1 q1 5 rfl ay (by decide) (by decide) (λr1 H3 bc bb f1=>(xaq _ _ rfl rfl ?_)));have F3:Fed u H H3:=(g.refl.same s0).trans f1;have an:=f1.1 _ _ ups lf;obtain⟨N,hN,bf⟩:∃N:Nat,1+r1=(N:Int)/\N<=5:=(jEA ((1+r1).toNat) (by omega) (by omega));rw[show(λi j:Int=>V.int (i+j)) 1 r1=V.int (N:Int) from congrArg V.int hN];refine(xb7 _ rfl (by omega) (by omega) ?_)
 refine xc3 (λi σ H'=>∃us,∃cs:List Chn,∃o6 o7,σ=[some (.ref u),some kv,some (.ref nb),some (.int hn),some (.ref l),o6,o7]/\Fed u H H'/\H' l=some (.lst us)/\RelDs H' us (cs.map dChn)/\cs.length=i/\ChsOk ks x hn cs)
  (xbd ([]) ([]) none none rfl F3 an rfl rfl ⟨by decide,rfl,(λ_ h=>nomatch h),λ_ h=>nomatch h⟩) ?_ ?_
 ·rintro i σ H4 hi ⟨us,cs,o6,o7,rfl,F4,J,y,M,p⟩
  have be:i<5:=by omega
  have e0:(0+(i:Int))=(i:Int):=by omega
  have g4:=g.fed F4;obtain⟨p4,q4,ax⟩:=F4.2;have ai:=y.length;rw[zLM]at ai;refine xaf λS1 b0=>?_;refine(xav _ rfl _ rfl _ rfl u p4 (xcb q4 hn rfl ax (by omega) (by omega) (λra H5 ba b9 f5=>?_)));obtain⟨ia,rfl⟩:∃i:Nat,ra=(i:Int):=⟨ra.toNat,by omega⟩;have g5:=g4.fed f5;obtain⟨za,af,b6⟩:=g5.name (i:=ia) (by omega);refine(xap nb _ _ _ rfl rfl (SqL.of g5.nl) b6 ?_);obtain⟨p5,q5,aw⟩:=f5.2;refine(xav _ rfl _ rfl _ rfl u p5 (xcb q5 hn rfl aw (by omega) (by omega) (λrb H6 b8 b7 f6=>?_)));obtain⟨ib,rfl⟩:∃i:Nat,rb=(i:Int):=⟨rb.toNat,by omega⟩;have g6:=g5.fed f6;obtain⟨zb,ae,b5⟩:=g6.name (i:=ib) (by omega);refine(xbd nb _ _ _ rfl rfl (SqL.of g6.nl) b5 (by walk_at"s") (λte aj=>?_));have s7:=Same.new aj (.tup [.str za,.str zb]);have F6:=F4.trans (f5.trans f6);have a6:=xar g4.fd (f5.trans f6)
  have ab:∀(Z:Addr) (G C:Str) (O:Hp),Fed u H O->O l=some (.lst us)->RelDs O us (cs.map dChn)->O Z=some (.tup [.str G,.str C])->G∈x.take hn->C∈x.take hn->S1 [some (.ref u),some kv,some (.ref nb),some (.int hn),some (.ref l),some (.int (0+(i:Int))),some (.ref Z)] O:=λZ G C O F8 a3 a0 a2 ah ag=>by
   refine b0 _ _ ?_;have g8:=g.fed F8;obtain⟨U,ac,b4⟩:=g8.name (i:=12+i) (by omega)
   have a5:atI (x.map V.str) (12+(0+(i:Int)))=some (.str U):=by
    rw[e0];exact b4
   refine(jEAA _ rfl (.inl (jAE rfl _ (SqL.of a3))) ?_);refine(xbr _ rfl _ rfl _ _ rfl rfl nb (xam _ _ _ rfl rfl (SqL.of g8.nl) a5 ?_));refine(xaa _ rfl Z _ _ _ rfl rfl (SqT.of a2) rfl (xaa _ rfl Z _ _ _ rfl rfl (SqT.of a2) rfl ?_));obtain⟨p8,q8,av⟩:=F8.2;obtain⟨ka,aa,b3,ar,aq⟩:=id g8.kd;subst b3;have a4:=g.wf.few;refine(xal _ rfl _ rfl u ka p8 (xam q8 aa ks rfl av ar aq ⟨a4,λkx H9 ao f9=>⟨(by walk_at"s"),λt ht=>?_⟩⟩));have st:=Same.new ht (.tup [.str U,.str G,.str C,.str kx]);have I:=f9.1 _ _ a3 lf;have a7:=xar g8.fd f9;refine(xam l us _ rfl rfl (st _ _ I) (xa6 (by omega)) ?_);have bd:l≠t:=neN I ht;have ak:H l=none:=hl;refine(xbd (us++[.ref t]) (cs++[(U,G,C,kx)]) _ _ rfl ?_ ups ?_ (by rw[zLA,List.length_singleton,M]) ?_)
   ·refine⟨λb o e hb=>?_,?_⟩
    ·rw[xai (neN e ak)]
     exact st _ _ ((F8.trans f9).1 b o e hb)
    ·obtain⟨p9,q9,au⟩:=f9.2
     exact(jEE p9 q9 (by rw[xai (Ne.symm lf)];exact st _ _ au))
   ·have Y:∀b vs,upd H9 t (.tup [.str U,.str G,.str C,.str kx]) b=some (.tup vs)->upd (upd H9 t (.tup [.str U,.str G,.str C,.str kx])) l (.lst (us++[.ref t])) b=some (.tup vs):=λb vs e=>by
     rw[xai λz=>by rw[z,st _ _ I]at e;cases e];exact e
    rw[zAP];refine(((a0.tups a7 _).same st _).tups Y _).append (xaq (.ref t) ([]) rfl (xag t _ rfl (Y _ _ ups) _ _ rfl rfl _ (xb4 _ rfl rfl _ _ rfl rfl (xaq _ _ rfl rfl rfl))) rfl)
   ·refine⟨by rw[zLA,List.length_singleton];omega,?_,λc r=>?_,λc r=>?_⟩
    ·rw[zAP,zLA,List.length_singleton,p.nm,zTA,List.getElem?_drop,M,ac]
     rfl
    ·rcases zMA r with r |r
     ·exact p.kin c r
     ·rw[zMO r];exact ao
    ·rcases zMA r with r |r
     ·exact p.ends c r
     ·rw[zMO r];exact⟨ah,ag⟩
  have F7:=F6.same s7;have am:=(f5.trans f6).1 _ _ J lf;have al:=s7 _ _ am;have a1:=(y.tups a6 _).same s7 _;have a9:=xog af (by omega:ia<hn);have a8:=xog ae (by omega:ib<hn);exact ab te za zb _ F7 al a1 ups a9 a8
 ·rintro σ H4 ⟨us,cs,o6,o7,rfl,F4,J,y,M,p⟩
  refine b1 _ _ ?_;refine(jEA _ rfl (jEEA l us rfl (.inl ⟨SqL.of J,λt ht=>?_⟩)));have st:=Same.new ht (.tup us);exact q _ cs _ (F4.same st) (xaq t us rfl ups (y.same st _)) p (by omega)
theorem xns(T:Tx K mg)(a:DefIs P w K mg base n "_law_take" qac xdb)(m:DefIs P w K mg base n "_law_any_kind" qao xo7):DefIs P w K mg base (n+1) "_law_boxes" qbp xsn:=by
 refine DefIs.of T.uD scl_boxes (by walk_at"l") (λf b3 A outer s H vs Q E hr h=>?_);obtain⟨U,nb,kv,cv,ks,a8,cs,x,rfl,g,aj,h6,ak,q⟩:=h;have nd:=scl_boxes.nd
 refine⟨_,(zpn (psn 5 nd (xcg pN))
   (zpn (xbp PassesOwn.never rfl (xan (K:=K) rfl (pv 2)) (xa3 (K:=K) rfl rfl (xac (pgn 6 nd) (xac (pgn 7 nd) (xac (pgn 8 nd) (xac (pgn 9 nd) xa2)))))
   (zpo (xax (PW.pt (xea (pR xbe (pv 8) (pv 3) (nM _)) (xdj (pR xfc (pv 9) (pv 5) (by with_unfolding_all rfl))))) (zpo (xa1 (xds PySem.F.plainAttrs_list PySem.F.slot_list_append PySem.F.type_list_append xbs (pv 5) (v1 9)))) pQ)))
   (zpn (xbp PassesOwn.never rfl (xcc rfl T.uT (pc (pd a hr (va 0 (pc pI pN so))) pN zsc)) (pgn 10 nd)
   (zpo (xa1 (xds PySem.F.plainAttrs_list PySem.F.slot_list_append PySem.F.type_list_append xbs (pv 5) (pc (pd m hr (va 0 (v1 1))) pN zsc)))))
   (zpn (psn 11 nd (xaz xc7 (pd a hr (va 0 (pc pI pN so))) pI))
   (zpo (xad (xay (xbk (K:=K) rfl) rfl T.uX PyProof.Rows.boot_tuple (pc (xbm ["_law_k","_law_names_here","_law_wants","_law_turn"] [none,some 4,some 5,some 11] rfl (by kernel_rfl) (xcc rfl T.uT (pc (xau (xi6 rfl) rfl T.uS PyProof.Rows.boot_min (pc pI (pc (xau (xae (K:=K) rfl) rfl T.uP PySem.boot_len (v1 5)) pN zsc) so)) pN zsc)) (λ_ _ _ _=>(pgc 0)) (λ_ _ _ _=>xbl) (λ_ _ _ _=>(xaw (pc (pxl K (pv 1) (xaz xby pI (xaz xcd (xaz xby (pv 0) (pv 3)) pI))) (pc (pxl K (pv 2) (pv 0)) pN ss) ss)))) pN xb1)))))))),xaf λR1 ao=>?_⟩
 refine⟨(by walk_at"s"),λl M=>ao _ _ (xaf λR2 an=>?_)⟩;have s0:=Same.new M (.lst []);obtain⟨p0,q0,a4⟩:=g.fd;have lf:l≠U:=Ne.symm (neN a4 M);have ay:nb≠l:=neN g.nl M;obtain⟨ca,us,rfl,a5,hR⟩:=aj;have aa:=hR.length;rw[zLM]at aa;have O:=g.wf.few;refine(xa9 _ rfl ca rfl ⟨_,SqT.of (s0 _ _ a5)⟩ ?_);have ar:∀{C:Hp} {xs:List Str} (k:Str),SameBut l H C->C l=some (.lst (xs.map V.str))->SameBut l H (upd C l (.lst ((xs++[k]).map V.str))):=λk s _=>s.trans (SameBut.upd _ _ _)
 refine xck (xs:=us) (λi σ C=>∃(xs:List Str) (o6 o7 o8 o9:Option V),σ=[some (.ref U),some kv,some (.ref ca),some (.str x),some (.ref nb),some (.ref l),o6,o7,o8,o9,none,none]/\SameBut l H C/\C l=some (.lst (xs.map V.str))/\(∀k∈xs,KIn ks ks.length k)/\xs.length<=i)
  (xb2 ([]) none none none none rfl s0.but ups (λ_ h=>nomatch h) (Nat.zero_le _)) (λi σ C _ p=>?_) ?_ ?_
 ·obtain⟨_,_,_,_,_,_,I,_⟩:=p
  exact SqT.of (I _ _ a5 (neN a5 M))
 ·rintro i v σ H1 hv ⟨xs,o6,o7,o8,o9,rfl,I,r,J,a0⟩
  obtain⟨b,c,hc,rfl,u⟩:=xd7 hR hv;have hi:i<us.length:=(zES hv).1;refine(xao b _ rfl (SqT.of (I _ _ u (neN u M))) rfl _ _ rfl _ (jEA _ rfl (jEEA _ _ rfl (xaq _ _ rfl rfl ?_))));refine(xct _ rfl _ rfl rfl _ rfl (ite2 (λc1=>?_) (λc1=>iteF (xb2 xs _ _ _ _ rfl I r J (by omega)))));refine(jEA _ rfl (xah _ rfl l _ rfl (.inl (SqL.of r)) (jAA rfl (xdz xs) (jEA _ rfl (ite2 (λc2=>?_) (λc2=>(xb2 xs _ _ _ _ rfl I r J (by omega))))))));refine(xba _ rfl (.inl (jAE rfl _ (SqL.of r))) _ rfl (xam l _ _ rfl rfl r (xa6 (by rw[zLM];omega)) ?_));refine(xb2 (xs++[c.2.2.2]) _ _ _ _ rfl (I.trans (SameBut.upd _ _ _)) (by rw[ups,zAP];rfl) (λk a2=>?_) (by rw[zLA,List.length_singleton];omega));rcases zMA a2 with h |h
  ·exact J k h
  ·rw[zMO h];exact ak c (zMG hc)
 rintro σ H1 ⟨xs,o6,o7,o8,o9,rfl,I,r,J,a0⟩;refine an _ _ (xaf λR3 am=>?_);have F1:Fed U H H1:=(jAE (λb o e _=>I b o e (neN e M)) p0 ⟨q0,I _ _ a4 (neN a4 M)⟩);have g1:=g.fed F1;obtain⟨p1,q1,ai⟩:=F1.2;refine(xaa _ rfl U p1 q1 3 rfl ai (by decide) (by decide) (λr1 H2 ax aw f2=>(xb7 _ rfl (by omega) (by omega) ?_)))
 refine xc3 (λi σ C=>∃(xs:List Str) (Y:Option V),σ=[some (.ref U),some kv,some (.ref ca),some (.str x),some (.ref nb),some (.ref l),o6,o7,o8,o9,Y,none]/\Fed U H C/\C l=some (.lst (xs.map V.str))/\(∀k∈xs,KIn ks ks.length k)/\xs.length<=6+i)
  (xcb xs none rfl (F1.trans f2) (f2.1 _ _ r lf) J (by omega)) ?_ ?_
 ·rintro i σ H3 hi ⟨xs,Y,rfl,F3,r,J,a0⟩
  have g3:=g.fed F3;obtain⟨p3,q3,a3⟩:=F3.2;obtain⟨ka,a9,aq,ag,af⟩:=id g3.kd;subst aq;refine(xba _ rfl (.inl (jAE rfl _ (SqL.of r))) _ rfl (xbh _ rfl U ka p3 q3 (xak a9 ks rfl a3 ag af O (λkx H4 ae f4=>?_))));have y:=f4.1 _ _ r lf;refine(xam l _ _ rfl rfl y (xa6 (by rw[zLM];omega)) ?_);have F4:=F3.trans f4;refine(xcb (xs++[kx]) _ rfl ?_ (by rw[ups,zAP];rfl) (λk a2=>?_) (by rw[zLA,List.length_singleton];omega))
  ·refine⟨λb o e u=>by rw[xai (neN e M)];exact F4.1 b o e u,?_⟩
   obtain⟨p4,q4,ah⟩:=F4.2;exact(jEE p4 q4 (by rw[xai (Ne.symm lf)];exact ah))
  ·rcases zMA a2 with h |h
   ·exact J k h
   ·rw[zMO h];exact ae
 rintro σ H3 ⟨xs,Y,rfl,F3,r,J,a0⟩;refine am _ _ (xaf λR4 al=>?_);obtain⟨p3,q3,a3⟩:=F3.2;refine(xaa _ rfl U p3 q3 4 rfl a3 (by decide) (by decide) (λr4 H4 av au f4=>(xcv _ _ rfl rfl ⟨by decide,by decide⟩ (al _ _ ?_))));have F4:=F3.trans f4;have g4:=g.fed F4;have y:=f4.1 _ _ r lf;have xl:(xs.map V.str).length=xs.length:=zLM _;refine(xah _ rfl l _ rfl (.inl (SqL.of y)) (jEEA _ _ rfl ?_))
 obtain⟨N,hN,b2,b1⟩:∃N:Nat,(if ((xs.map V.str).length:Int)<5 then ((xs.map V.str).length:Int) else 5)=(N:Int)/\N<=5/\N<=xs.length:=by
  rw[xl];refine(jEAA ((if (xs.length:Int)<5 then (xs.length:Int) else 5).toNat) ?_ ?_ ?_) <;> split <;> omega
 rw[hN];refine(xb7 _ rfl (by omega) (by omega) ?_);have tn:0<=r4 / 2/\r4 / 2<=1:=by omega
 obtain⟨tt,ab⟩:∃t:Nat,r4 / 2=(t:Int):=⟨(r4 / 2).toNat,by omega⟩;have ix:∀i:Nat,(18+((0+(i:Int))+r4 / 2)%6)=((18+(i+tt)%6:Nat):Int):=λi=>by rw[ab];omega
 refine xd6 (j:=0) (λi ys C=>Same H4 C/\∃bs:List (Str×Str),RelDs C ys (bs.map xd0)/\bs.length=i/\(∀(j:Nat) b,bs[j]?=some b->a8[18+(j+tt)%6]?=some b.1)/\∀b∈bs,KIn ks 6 b.2) (by rfl) (jAEA (Same.refl _) ([]) rfl (jAA rfl (λj b h=>by simp at h) (λ_ h=>nomatch h))) (xa6 (by omega)) ?_ ?_
 ·rintro i ys H5 hi a7 ⟨s5,bs,Z,a6,G,a1⟩
  have g5:=g4.same s5;obtain⟨z,hz,az⟩:=g5.name (i:=18+(i+tt)%6) (by omega);have hx:i<xs.length:=by omega
  refine(xbc _ rfl _ rfl _ rfl _ _ rfl rfl (xcv _ _ rfl rfl (by show(0:Int)<6;decide) (xaq _ _ rfl rfl (xap nb _ _ _ rfl rfl (SqL.of g5.nl) (by rw[ix];exact az) ?_))));refine(xal _ rfl _ rfl l _ _ (xa7 (.str xs[i]) rfl rfl (SqL.of (s5 _ _ y)) ?_ (by walk_at"s") (λt ht=>nxt hi a7 ?_)))
  ·rw[show(0+(i:Int))=(i:Int) by omega]
   exact xas (by rw[zGM,zGA hx];rfl)
  have st:=Same.new ht (.tup [.str z,.str xs[i]]);refine(jAEA (s5.trans st) (bs++[(z,xs[i])]) ?_ (jAA (by rw[zLA,List.length_singleton,a6]) (λj b u=>?_) (λb u=>?_)))
  ·rw[zAP]
   exact(Z.same st _).append (xaq (.ref t) ([]) rfl (xag t _ rfl ups _ _ rfl rfl _ (jEAA _ rfl rfl rfl)) rfl)
  ·by_cases hj:j<bs.length
   ·rw[List.getElem?_append_left hj]at u
    exact G j b u
   ·have ac:=(zES u).1
    rw[zLA,List.length_singleton]at ac;have e0:j=i:=by omega
    subst e0;rw[List.getElem?_append_right (by omega),a6,Nat.sub_self]at u;simp at u;subst u;exact hz
  ·rcases zMA u with h |h
   ·exact a1 b h
   ·rw[zMO h]
    exact(J _ (List.getElem_mem hx)).mono O
 ·rintro ys H5 a7 ⟨s5,bs,Z,a6,G,a1⟩ D hD
  have sD:=Same.new hD (.lst ys);refine(jEEA D ys rfl (.inl ⟨SqL.of ups,λt ht=>?_⟩));have st:=Same.new ht (.tup ys);have sA:=sD.trans st;refine q _ bs _ (F4.same (s5.trans sA)) (xaq t ys rfl ups (Z.same sA _)) ⟨by omega,?_,λb u=>?_,a1⟩
  ·refine List.pairwise_iff_getElem.mpr λi j hi hj b0 e=>?_
   rw[zLM]at hi hj;rw[List.getElem_map,List.getElem_map]at e;have h1:=G i _ (zGA hi);have h2:=G j _ (zGA hj);rw[e]at h1;obtain⟨k1,e1⟩:=zES h1;obtain⟨k2,e2⟩:=zES h2;have:=(List.getElem_inj (h₀:=k1) (h₁:=k2) g.ok.2.1).mp (e1.trans e2.symm);omega
  ·obtain⟨j,hj,e⟩:=zMI u
   have:=G j b (by rw[<- e];exact zGA hj);exact zMG this
def xa0:Row->Option Str
 |.take l _ _=>some l
 |_=>none
structure RowsW(rs:List Row):Prop where
 len:rs.length<=8
 pos:0<rs.length
 nd:(rs.filterMap xa0).Nodup
structure DI(H:Hp)(f:Addr)(kv cv bv:V)(ks:List Kn)(cs:List Chn)(bs:List (Str×Str)):Prop where
 fd:∃p q:Int,H f=some (.lst [.int p,.int q])
 kd:RelD H kv (xdg ks)
 wf:KWf ks
 cd:RelD H cv (.tup (cs.map dChn))
 c6:cs.length<=6
 bd:RelD H bv (xdr bs)
 b5:bs.length<=5
 bk:∀b∈bs,KIn ks 6 b.2
theorem DI.fed{H c:Hp}{f:Addr}{kv a b:V}{ks:List Kn}{cs:List Chn}{bs:List (Str×Str)}(d:DI H f kv a b ks cs bs)(s:Fed f H c):DI c f kv a b ks cs bs:=⟨s.2,d.kd.tups (xar d.fd s) _,d.wf,d.cd.tups (xar d.fd s) _,d.c6,d.bd.tups (xar d.fd s) _,d.b5,d.bk⟩
def xq2:Sp:=λvs H Q _=>∃(f nb:Addr) (kv cv bv:V) (ks:List Kn) (cs:List Chn) (bs:List (Str×Str)) (x:Str) (nms:List Str),vs=[.ref f,kv,cv,.str x,bv,.ref nb]/\DI H f kv cv bv ks cs bs/\H nb=some (.lst (nms.map V.str))/\xje nms/\nb≠f/\∀rv rs H',Fed f H H'->RelD H' rv (.tup (rs.map Row.d))->RowsW rs->Q rv H'
theorem xr3{a:List Str}(h:a.length=26):cutV (a.map V.str) (some 20) (some 26)=((a.drop 20).take 6).map V.str:=by
 unfold cutV HT.sIx;rw[zLM,h,List.map_take,List.map_drop];rfl
theorem xhq{f l:Addr}{H a:Hp}{o:HO}(F:Fed f H a)(g:H l=none)(c:l≠f):Fed f H (upd a l o):=by
 obtain⟨i,p,q,h⟩:=F;exact(jAE (λb u e n=>by rw[xai (neN e g)];exact i b u e n) p ⟨q,by rw[xai (Ne.symm c)];exact h⟩)
theorem xt9{k n:Nat}(h:k<n):seqIndex? (k:Int) n=some k:=by
 unfold seqIndex?;have:¬(k:Int)<0:=by omega
 simp only[if_neg this];simp[h]
theorem xqn:∀(l:List Str) (i:Nat),(l.map V.str).eraseIdx i=(l.eraseIdx i).map V.str
 |[],i=>rfl
 |a::l,0=>rfl
 |a::l,i+1=>by
  rw[List.map_cons,List.eraseIdx_cons_succ,List.eraseIdx_cons_succ,List.map_cons,xqn l i]
def TupAt(H:Hp)(w:V):Prop:=∃(b:Addr) (c y:Str),w=.ref b/\H b=some (.tup [.str c,.str y])
theorem TupAt.tups{H a:Hp}{w:V}(h:TupAt H w)(s:∀b vs,H b=some (.tup vs)->a b=some (.tup vs)):TupAt a w:=by
 obtain⟨b,c,y,e,f⟩:=h;exact(xpw b c y e (s _ _ f))
theorem xgt:∀(l:List Str) (i:Nat) (h:i<l.length),List.Perm (l[i]::l.eraseIdx i) l
 |a::l,0,_=>List.Perm.refl _
 |a::l,i+1,h=>by
  have:=xgt l i (by simpa using h);exact(List.Perm.swap ..).trans (List.Perm.cons a this)
theorem xqm{tc:TT}{t u:TS}{D:Ends}{σ:St}{H:Hp}(hu:u D σ H)(h:∀R:Bool->Hp->Prop,(∀H1,t D σ H1->R true H1)->R false H->tc σ H R):tIfS tc t u D σ H:=h (λb H1=>if b=true then t D σ H1 else u D σ H1) (λH1 ht=>by rw[if_pos rfl];exact ht) (by rw[if_neg (by decide)];exact hu)
theorem xss{R:Bool->Hp->Prop}{H:Hp}{c:Prop}[Decidable c](a:decide c=true->R true H)(b:R false H):R (decide c) H:=by
 cases h:decide c with
 |true=>exact a h
 |false=>exact b
theorem xn5{A a:List Str}{i:Nat}(h:i<a.length)(nd:(A++a).Nodup):((A++[a[i]])++a.eraseIdx i).Nodup:=by
 rw[List.append_assoc];refine(List.Perm.nodup_iff ?_).mpr nd;exact List.Perm.append_left _ (xgt a i h)
theorem xpj(T:Tx K mg)(a:DefIs P w K mg base n "_law_take" qac xdb)(a1:DefIs P w K mg base n "_law_number" qan xh1)(o:DefIs P w K mg base n "_law_new_term" qau (spNT 6)):DefIs P w K mg base (n+1) "_law_rows" qbd xq2:=by
 refine DefIs.of T.uE scl_rows (by walk_at"l") (λf et A outer s H vs Q E hr h=>?_);obtain⟨G,nb,kv,cv,bv,ks,cs,bs,x,dm,rfl,d,dy,cr,eo,q⟩:=h;have nd:=scl_rows.nd;have c6:=d.c6;have b5:=d.b5;have ec:=cr.1
 refine⟨_,(zpn (psn 6 nd (xay xfg rfl T.uQ PyProof.Rows.boot_list (pc (xc6 xjn (pv 5) (xc9 pI) (xc9 pI)) pN ss)))
   (zpn (psn 7 nd (xcg pN))
   (zpn (xbp PassesOwn.never rfl (xan (K:=K) rfl (pv 2)) (xa3 (K:=K) rfl rfl (xac (pgn 8 nd) (xac (pgn 9 nd) (xac (pgn 10 nd) (xac (pgn 11 nd) xa2)))))
   (zpo (psn 7 nd (xaz xnm (pv 7) (xbm ["_law_x","_law_told","_law_c","_law_to","_law_h","_law_kind"] [none,none,some 8,some 10,some 3,some 11] rfl (by kernel_rfl) (xan (K:=K) rfl (pv 4)) (λ_ _ _ _=>(xa3 (K:=K) (n:=2) rfl rfl (xac (pgc 0) (xac (pgc 1) xa2)))) (λ_ _ _ _=>(xe2 (PW.pt (xea (pR xbe (pv 3) (pv 4) (nM _)) (xdj (pR xbe (pv 1) (pv 5) (nM _))))))) (λ_ _ _ _=>(xaw (va 2 (v1 0)))))))))
   (zpn (psn 12 nd (xcg pN))
   (zpn (xbp PassesOwn.never rfl (xcc rfl T.uT (pc (pd a hr (va 0 (pc pI pN so))) pN zsc)) (pgn 13 nd)
   (zpn (psn 14 nd (pd a hr (va 0 (pc pI pN so))))
   (zpo (xax (pR xbe (pv 14) pI (nM _)) (zpo (xa1 (xds PySem.F.plainAttrs_list PySem.F.slot_list_append PySem.F.type_list_append xbs (pv 12) (pc (pxl K (xcg (pc (xaw (pc pS pN so)) (pc (xaw (pc pS (pc (pd a hr (va 0 (pc (xaz xby (pv 13) pI) pN xcf))) pN zsc) so)) pN sT) sT)) (pd a hr (va 0 (pc pI pN so)))) pN ss)))) (zpo (xax (PW.pt (xea (pR xjt (pv 14) pI (nM _)) (xdj (pR xf5 (xau (xae (K:=K) rfl) rfl T.uP PySem.boot_len (v1 4)) pI (nM _))))) (zpn (xeb (px K (pv 4) (pd a hr (va 0 (pc (xau (xae (K:=K) rfl) rfl T.uP PySem.boot_len (v1 4)) pN zsc)))) (xa3 (K:=K) rfl rfl (xac (pgn 15 nd) (xac (pgn 11 nd) xa2))))
   (zpo (xa1 (xds PySem.F.plainAttrs_list PySem.F.slot_list_append PySem.F.type_list_append xbs (pv 12) (pc (xaw (pc pS (va 15 (pc (pd o hr (va 0 (va 1 (pc (xay xfg rfl T.uQ PyProof.Rows.boot_list (v1 4)) (v1 11) zsc)))) pN zsc)) so)) pN sT))))) (zpo (xax (PW.pt (xea (pR xf5 (pv 14) pI (nM _)) (xea (pR xf5 (xau (xae (K:=K) rfl) rfl T.uP PySem.boot_len (v1 7)) pI (nM _)) (xdj (pR xf5 (xau (xae (K:=K) rfl) rfl T.uP PySem.boot_len (v1 6)) pI (nM _)))))) (zpn (xeb (pxl K (pv 7) (pd a hr (va 0 (pc (xau (xae (K:=K) rfl) rfl T.uP PySem.boot_len (v1 7)) pN zsc)))) (xa3 (K:=K) rfl rfl (xac (pgn 8 nd) (xac (pgn 15 nd) xa2))))
   (zpo (xa1 (xds PySem.F.plainAttrs_list PySem.F.slot_list_append PySem.F.type_list_append xbs (pv 12) (pc (xaw (pc pS (pc (xds PySem.F.plainAttrs_list PySem.F.slot_list_pop PySem.F.type_list_pop xpq (pv 6) (pc (pd a hr (va 0 (pc (xau (xae (K:=K) rfl) rfl T.uP PySem.boot_len (v1 6)) pN zsc))) pN zsc)) (va 8 (v1 15)) zsc) so)) pN sT))))) (zpo (xa1 (xds PySem.F.plainAttrs_list PySem.F.slot_list_append PySem.F.type_list_append xbs (pv 12) (pc (xaw (pc pS (pc (xaw (pc pS (pc (pd a1 hr (v1 0)) pN zsc) so)) pN sT) so)) pN sT))))))))))))
   (zpo (xad (xaz (xp2 (K:=K) rfl) (xay (xbk (K:=K) rfl) rfl T.uX PyProof.Rows.boot_tuple (v1 12)) (xaw (pc (xaw (pc pS pN so)) pN sT)))))))))),xaf λR1 e9=>?_⟩
 obtain⟨p0,q0,bc⟩:=d.fd;refine(xbc _ rfl _ rfl _ rfl nb _ rfl (SqL.of dy) (λc0 d5=>?_));rw[xr3 ec];obtain⟨I,av⟩:∃I,(dm.drop 20).take 6=I:=⟨_,rfl⟩;have dz:I.Nodup:=by rw[<- av];exact(cr.2.1.sublist (List.drop_sublist _ _)).sublist (List.take_sublist _ _)
 have cx:I.length<=6:=by rw[<- av];exact List.length_take_le ..
 rw[av];have bw:=Same.new d5 (.lst (I.map V.str));refine(xaq c0 _ rfl (.inl (SqL.of ups)) (λml ax=>e9 _ _ (xaf λR2 e8=>?_)));have cg:=Same.new ax (.lst (I.map V.str));have cm:H ml=none:=xch bw ax;have s0:=bw.trans cg;have aw:upd (upd H c0 (.lst (I.map V.str))) ml (.lst (I.map V.str)) ml=some (.lst (I.map V.str)):=ups;generalize upd (upd H c0 (.lst (I.map V.str))) ml (.lst (I.map V.str))=H0 at s0 aw⊢;have ag:ml≠G:=Ne.symm (neN bc cm);refine⟨(by walk_at"s"),λl0 c5=>e8 _ _ (xaf λR3 e7=>?_)⟩;have bu:=Same.new c5 (.lst []);obtain⟨ca,uc,rfl,d3,d8⟩:=d.cd;obtain⟨ba,ub,rfl,c8,hB⟩:=d.bd;have du:=d8.length;have e2:=hB.length;rw[zLM]at du e2;refine(xa9 _ rfl ca rfl ⟨_,SqT.of (bu _ _ (s0 _ _ d3))⟩ ?_)
 refine xck (xs:=uc) (λi σ U=>∃(l:Addr) (ws:List V) (o8 o9 af m:Option V),σ=[some (.ref G),some kv,some (.ref ca),some (.str x),some (.ref ba),some (.ref nb),some (.ref ml),some (.ref l),o8,o9,af,m,none,none,none,none]/\Same H0 U/\H0 l=none/\U l=some (.lst ws)/\(∀w∈ws,TupAt U w)/\ws.length<=5*i)
  (xaj l0 ([]) none none none (xa7 none rfl bu c5 ups (λ_ h=>nomatch h) (Nat.zero_le _))) (λi σ U _ p=>?_) ?_ ?_
 ·obtain⟨_,_,_,_,_,_,_,sm,_⟩:=p
  exact SqT.of (sm _ _ (s0 _ _ d3))
 ·rintro i v σ H1 hv ⟨l,ws,o8,o9,af,m,rfl,sm,hl,e1,d7,dt⟩
  obtain⟨b,c,hc,rfl,hb⟩:=xd7 d8 hv;have hi:i<uc.length:=(zES hv).1;have a9:=s0.trans sm;refine(xao b _ rfl (SqT.of (a9 _ _ hb)) rfl _ _ rfl _ (jEA _ rfl (jEEA _ _ rfl (xaq _ _ rfl rfl ?_))));refine(jEA _ rfl (xa9 _ rfl ba rfl ⟨_,SqT.of (a9 _ _ c8)⟩ ?_));refine xbu (xs:=ub) (λj ys U=>Same H1 U/\(∀w∈ys,TupAt U w)/\ys.length<=j) (jAA (Same.refl _) (λ_ h=>nomatch h) (Nat.le_refl _)) (xa6 (by omega)) (λj ys U _ p=>SqT.of ((a9.trans p.1) _ _ c8)) ?_ ?_
  ·rintro j y ys H2 hy hj b9 ⟨s2,al,ds⟩
   obtain⟨b2,pb,cq,rfl,e3⟩:=xd4 hB hy;refine(xao b2 _ rfl (SqT.of ((a9.trans s2) _ _ e3)) rfl _ _ rfl _ (xb7 _ rfl rfl (ext2 rfl rfl) ?_));refine(xct _ rfl _ rfl rfl _ rfl (ite2 (λc1=>?_) (λc1=>iteF (nxtN hj b9 (jAA s2 al (by omega))))));refine(xct _ rfl _ rfl rfl _ rfl (ite2 (λc2=>?_) (λc2=>nxtN hj b9 (jAA s2 al (by omega)))));refine(xa9 _ rfl _ rfl (by walk_at"s") (λt ht=>nxtG hj b9 ?_));have st:=Same.new ht (.tup [.str c.1,.str pb.1]);refine(jAA (s2.trans st) (λw Y=>?_) (by rw[zLA,List.length_singleton];omega));rcases zMA Y with Y |Y
   ·exact(al w Y).tups (Same.tups st)
   ·rw[zMO Y]
    exact(xpw t c.1 pb.1 rfl ups)
  ·rintro ys H2 b9 ⟨s2,al,ds⟩ D hD
   have sD:=Same.new hD (.lst ys);have bx:=s2.trans sD;refine(xbd l D ws ys rfl rfl (bx _ _ e1) ups (fits (by omega)) (λl2 cz=>?_));have sl:=Same.new cz (.lst (ws++ys));have ci:=bx.trans sl;refine(xaj l2 (ws++ys) _ _ _ (xa7 _ rfl (sm.trans ci) (xch (sm.trans bx) cz) ups (λw Y=>?_) (by rw[zLA];omega)));rcases zMA Y with Y |Y
   ·exact(d7 w Y).tups (Same.tups ci)
   ·exact(al w Y).tups (Same.tups (sD.trans sl))
 rintro σ H1 ⟨il,ws,o8,o9,af,m,rfl,sm,ay,bq,cb,dt⟩;refine e7 _ _ (xaf λR4 e6=>?_);have dr:H il=none:=xch s0 ay;have dq:il≠ml:=λz=>by rw[z,aw]at ay;cases ay
 have ak:il≠G:=Ne.symm (neN bc dr);have a9:=s0.trans sm;have bm:=sm _ _ aw;clear bw cg bu c5 ax d5;refine⟨(by walk_at"s"),λM a5=>e6 _ _ (xaf λR5 e5=>?_)⟩;have sr:=Same.new a5 (.lst []);have cl:H M=none:=xch a9 a5;have aa:M≠G:=Ne.symm (neN bc cl);have ck:M≠ml:=λz=>by rw[z,bm]at a5;cases a5
 have di:M≠il:=λz=>by rw[z,bq]at a5;cases a5
 have cj:=a9.trans sr;have bg:upd H1 M (.lst []) M=some (.lst []):=ups;have bj:=sr _ _ bm;have bp:=sr _ _ bq;have b3:∀w∈ws,TupAt (upd H1 M (.lst [])) w:=λw Y=>(cb w Y).tups (Same.tups sr);generalize upd H1 M (.lst [])=H2 at cj bg bj bp b3⊢;have F2:Fed G H H2:=(Fed.refl bc).same cj;obtain⟨p2,q2,d2⟩:=F2.2;refine(xaa _ rfl G p2 q2 8 rfl d2 (by decide) (by decide) (λrm H3 ei eh f3=>(xb7 _ rfl (by omega) (by omega) ?_)));have df:=xar (jEE p2 q2 d2) f3
 refine xc3 (λi σ U=>∃us,∃(rs:List Row) (J:List Str) (o8 m ai a3 a2:Option V),σ=[some (.ref G),some kv,some (.ref ca),some (.str x),some (.ref ba),some (.ref nb),some (.ref ml),some (.ref il),o8,o9,af,m,some (.ref M),ai,a3,a2]/\Fed G H U/\U M=some (.lst us)/\RelDs U us (rs.map Row.d)/\rs.length=i/\U ml=some (.lst (J.map V.str))/\(rs.filterMap xa0++J).Nodup/\J.length<=6/\U il=some (.lst ws)/\∀w∈ws,TupAt U w)
  (xaj ([]) ([]) I o8 m (xam none none none rfl (F2.trans f3) (f3.1 _ _ bg aa) rfl (jAAA rfl (f3.1 _ _ bj ag) dz (jAA cx (f3.1 _ _ bp ak) (λw Y=>(b3 w Y).tups df))))) ?_ ?_
 ·rintro i σ H4 hi ⟨us,rs,J,o8,m,ai,a3,a2,rfl,F4,au,am,be,bi,b8,a6,bo,b1⟩
  have d4:=d.fed F4;obtain⟨p4,q4,d1⟩:=F4.2;have an:=am.length;rw[zLM]at an;have d6:=xar d.fd F4 _ _ c8;have ea:=hB.tups (xar d.fd F4) _
  have put:∀{H5:Hp} {u:V} {r:Row} {aj:List Str} (o8 m a3 a2:Option V),Fed G H H5->H5 M=some (.lst us)->RelDs H5 us (rs.map Row.d)->RelD H5 u r.d->H5 ml=some (.lst (aj.map V.str))->((rs++[r]).filterMap xa0++aj).Nodup->aj.length<=6->H5 il=some (.lst ws)->(∀w∈ws,TupAt H5 w)->
    (λi σ U=>∃us,∃(rs:List Row) (J:List Str) (o8 m ai a3 a2:Option V),σ=[some (.ref G),some kv,some (.ref ca),some (.str x),some (.ref ba),some (.ref nb),some (.ref ml),some (.ref il),o8,o9,af,m,some (.ref M),ai,a3,a2]/\Fed G H U/\U M=some (.lst us)/\RelDs U us (rs.map Row.d)/\rs.length=i/\U ml=some (.lst (J.map V.str))/\(rs.filterMap xa0++J).Nodup/\J.length<=6/\U il=some (.lst ws)/\∀w∈ws,TupAt U w) (i+1) [some (.ref G),some kv,some (.ref ca),some (.str x),some (.ref ba),some (.ref nb),some (.ref ml),some (.ref il),o8,o9,af,m,some (.ref M),some (.int (0+(i:Int))),a3,a2] (upd H5 M (.lst (us++[u]))):=λ{H5 u r aj} o8 m a3 a2 F5 C ae hu a7 cw e0 Z a0=>by
   have tp:∀b vs,H5 b=some (.tup vs)->upd H5 M (.lst (us++[u])) b=some (.tup vs):=λb vs e=>by
    rw[xai λz=>by rw[z,C]at e;cases e];exact e
   refine(xaj (us++[u]) (rs++[r]) aj o8 m (xam _ a3 a2 rfl (xhq F5 cl aa) ups ?_ (jAAA (by rw[zLA,List.length_singleton,be]) (by rw[xai (Ne.symm ck)];exact a7) cw (jAA e0 (by rw[xai (Ne.symm di)];exact Z) (λw Y=>(a0 w Y).tups tp)))));rw[zAP];exact(ae.tups tp _).append (xaq u ([]) rfl (hu.tups tp _) rfl)
  have b7:∀{r:Row},xa0 r=none->((rs++[r]).filterMap xa0++J).Nodup:=λ{r} e=>by
   rw[List.filterMap_append,List.filterMap_cons,e,List.filterMap_nil,List.append_nil];exact b8
  refine xaf λS1 e4=>?_;refine(xaa _ rfl G p4 q4 16 rfl d1 (by decide) (by decide) (λfm H5 es er f5=>e4 _ _ ?_));have b4:=xar (jEE p4 q4 d1) f5;have F5:=F4.trans f5;have C:=f5.1 _ _ au aa;have ae:=am.tups b4 _;have a7:=f5.1 _ _ bi ag;have Z:=f5.1 _ _ bo ak;have a0:∀w∈ws,TupAt H5 w:=λw Y=>(b1 w Y).tups b4;obtain⟨p5,q5,a4⟩:=f5.2
  have go:∀{H6:Hp} {u:V} {r:Row} (o8 m a3 a2:Option V),Fed G H5 H6->RelD H6 u r.d->xa0 r=none->(λU=>∃(db:List V),db=us/\U M=some (.lst us)/\us.length<sizeLine) H6/\Fed G H H6/\RelDs H6 us (rs.map Row.d)/\H6 ml=some (.lst (J.map V.str))/\H6 il=some (.lst ws)/\∀w∈ws,TupAt H6 w:=λ{H6 u r} _ _ _ _ O hu e=>by
   have a8:=xar (jEE p5 q5 a4) O;exact(jAAA (jEAA us rfl (O.1 _ _ C aa) (xa6 (by omega))) (F5.trans O) (ae.tups a8 _) (jAA (O.1 _ _ a7 ag) (O.1 _ _ Z ak) (λw Y=>(a0 w Y).tups a8)))
  refine(xba _ rfl rfl _ rfl (ite2 (λc1=>?_) (λc1=>?_)))
  ·
   refine(jEAA _ rfl (.inl (jAE rfl _ (SqL.of C))) ?_);refine⟨(by walk_at"s"),λt1 aq=>?_⟩;have s1:=Same.new aq (.tup [.str (S "end")]);refine(xbr _ rfl _ rfl _ _ rfl rfl G (xam p5 q5 _ rfl (s1 _ _ a4) (by omega) (by omega) (λg H6 g0 g1 O=>⟨(by walk_at"s"),λt2 ao=>⟨(by walk_at"s"),λll cy=>?_⟩⟩)));obtain⟨gn,rfl⟩:∃i:Nat,g=(i:Int):=⟨g.toNat,by omega⟩;have s2:=Same.new ao (.tup [.str (S "go"),.int gn]);have s3:=Same.new cy (.lst [.ref t1,.ref t2]);have da:Fed G H5 _:=(((Fed.refl a4).same s1).trans O).same (s2.trans s3);obtain⟨p7,q7,d0⟩:=da.2
   have dn:ll≠G:=by
    obtain⟨p6,q6,h6⟩:=O.2;exact Ne.symm (neN (s2 _ _ h6) cy)
   refine(xaa _ rfl G p7 q7 2 rfl d0 (by decide) (by decide) (λr2 H7 em el f7=>?_));have ac:=da.trans f7;have cp:H6 t1=some (.tup [.str (S "end")]):=xar (jEE p5 q5 (s1 _ _ a4)) O _ _ ups;have ce:=xar (jEE p7 q7 d0) f7;have ee:=ce _ _ ((s2.trans s3) _ _ cp);have ed:=ce _ _ (s3 _ _ ups);have bn:=f7.1 _ _ ups dn;have dl:r2=0\/r2=1:=by omega
   rcases dl with rfl |rfl
   ·have hu:RelD H7 (.ref t1) (Row.fin).d:=(xaq t1 _ rfl ee (xaq _ _ rfl rfl rfl))
    obtain⟨⟨_,_,k1,k2⟩,k3,k4,k5,k6,k7⟩:=go (r:=.fin) none none none none ac hu rfl;exact(xbf ll _ _ (.ref t1) rfl rfl (SqL.of bn) rfl M (xcb us _ rfl rfl k1 k2 (put (r:=.fin) _ _ _ _ k3 k1 k4 hu k5 (b7 rfl) a6 k6 k7)))
   ·have hu:RelD H7 (.ref t2) (Row.go gn).d:=(xag t2 _ rfl ed _ _ rfl rfl _ (jEAA _ rfl rfl rfl))
    obtain⟨⟨_,_,k1,k2⟩,k3,k4,k5,k6,k7⟩:=go (r:=.go gn) none none none none ac hu rfl;exact(xbf ll _ _ (.ref t2) rfl rfl (SqL.of bn) rfl M (xcb us _ rfl rfl k1 k2 (put (r:=.go gn) _ _ _ _ k3 k1 k4 hu k5 (b7 rfl) a6 k6 k7)))
  ·refine xqm (xqm ?_ λR hT hF=>?_) λR hT hF=>?_
   ·
    refine(jEAA _ rfl (.inl (jAE rfl _ (SqL.of C))) ?_);refine(xb3 _ rfl G p5 q5 rfl a4 (λr H6 ep O=>⟨(by walk_at"s"),λt1 aq=>⟨(by walk_at"s"),λt2 ao=>?_⟩⟩));have s1:=Same.new aq (.tup [.str (S "num"),.int r]);have s2:=Same.new ao (.tup [.str (S "tell"),.ref t1]);have hu:RelD (upd (upd H6 t1 (.tup [.str (S "num"),.int r])) t2 (.tup [.str (S "tell"),.ref t1])) (.ref t2) (Row.tell (tNum r)).d:=(xag t2 _ rfl ups _ _ rfl rfl _ (jEAA _ rfl (xag t1 _ rfl (s2 _ _ ups) _ _ rfl rfl _ (jEAA _ rfl rfl rfl)) rfl));obtain⟨⟨_,_,k1,k2⟩,k3,k4,k5,k6,k7⟩:=go (r:=.tell (tNum r)) none none none none (O.same (s1.trans s2)) hu rfl;exact(xam M us _ rfl rfl k1 k2 (put (r:=.tell (tNum r)) _ _ _ _ k3 k1 k4 hu k5 (b7 rfl) a6 k6 k7))
   ·
    have cu:(J.map V.str).length=J.length:=zLM ..;refine(xah _ rfl _ _ rfl rfl (jEA _ rfl (ite2 (λc2=>?_) (λc2=>hF))));refine(xah _ rfl il _ rfl (.inl (SqL.of Z)) (xaq _ _ rfl rfl (jEA _ rfl (ite2 (λc3=>?_) (λc3=>hF)))));refine(xah _ rfl ml _ rfl (.inl (SqL.of a7)) (xaq _ _ rfl rfl (jEA _ rfl (xss (λc4=>hT _ ?_) hF))));have dx:=of_decide_eq_true c3;have eq:=of_decide_eq_true c4;refine xaf λS2 cc=>?_;refine(xbc _ rfl _ rfl _ rfl il _ rfl (.inl (SqL.of Z)) (xap G p5 q5 _ rfl a4 (by omega) (by omega) (λr5 H6 dk dj O=>?_)));obtain⟨i5,rfl⟩:∃i:Nat,r5=(i:Int):=⟨r5.toNat,by omega⟩;have az:i5<ws.length:=by omega
    have a8:=xar (jEE p5 q5 a4) O;obtain⟨b6,ah,y6,eb,c9⟩:=(a0 _ (List.getElem_mem az)).tups a8;refine(xbf il _ _ (.ref b6) rfl rfl (SqL.of (O.1 _ _ Z ak)) (xas (by rw[zGA az,eb])) b6 (xb7 _ rfl (SqT.of c9) rfl (jEEA _ _ rfl (xaq _ _ rfl rfl (cc _ _ ?_)))));have ar:=O.1 _ _ C aa;have ab:=O.1 _ _ a7 ag;obtain⟨p6,q6,bb⟩:=O.2;refine(jEAA _ rfl (.inl (jAE rfl _ (SqL.of ar))) ?_);refine(jEAA _ rfl (.inl (jAE rfl _ (SqL.of ab))) ?_);refine(xbr _ rfl _ rfl ml _ rfl (.inl (SqL.of ab)) G (xam p6 q6 _ rfl bb (by omega) (by omega) (λr7 H7 ek ej f7=>?_)));obtain⟨i7,rfl⟩:∃i:Nat,r7=(i:Int):=⟨r7.toNat,by omega⟩;have c7:i7<J.length:=by omega
    have bh:=f7.1 _ _ ab ag;refine(xat ml _ (i7:Int) i7 (.str J[i7]) rfl rfl bh (by omega) (by omega) (jAA (xt9 (by rw[cu];exact c7)) (by rw[zGM,zGA c7];rfl) ?_));refine(xa9 _ rfl _ rfl (by walk_at"s") (λt ht=>?_));rw[xqn]at *
    have st:=Same.new ht (.tup [.str (S "take"),.str J[i7],.str ah,.str y6]);have ac:=O.trans f7;have de:=xar (jEE p5 q5 a4) ac
    have dc:∀b vs,H7 b=some (.tup vs)->upd H7 ml (.lst ((J.eraseIdx i7).map V.str)) b=some (.tup vs):=λb vs e=>by
     rw[xai λz=>by rw[z,bh]at e;cases e];exact e
    have cf:∀b vs,H5 b=some (.tup vs)->upd (upd H7 ml (.lst ((J.eraseIdx i7).map V.str))) t (.tup [.str (S "take"),.str J[i7],.str ah,.str y6]) b=some (.tup vs):=λb vs e=>st _ _ (dc _ _ (de _ _ e));have bf:upd (upd H7 ml (.lst ((J.eraseIdx i7).map V.str))) t (.tup [.str (S "take"),.str J[i7],.str ah,.str y6]) M=some (.lst us):=st _ _ (by rw[xai ck];exact ac.1 _ _ C aa);have hu:RelD (upd (upd H7 ml (.lst ((J.eraseIdx i7).map V.str))) t (.tup [.str (S "take"),.str J[i7],.str ah,.str y6])) (.ref t) (Row.take J[i7] ah y6).d:=(xag t _ rfl ups _ _ rfl rfl _ (xb4 _ rfl rfl _ _ rfl rfl (xaq _ _ rfl rfl rfl)));refine(xam M us _ rfl rfl bf (xa6 (by omega)) (put (r:=.take J[i7] ah y6) _ _ _ _ ((xhq (F5.trans ac) cm ag).same st) bf (ae.tups cf _) hu (st _ _ ups) ?_ (by rw[List.length_eraseIdx];split <;> omega) (st _ _ (by rw[xai dq];exact ac.1 _ _ Z ak)) λw Y=>(a0 w Y).tups cf));rw[List.filterMap_append];exact xn5 c7 b8
   ·
    refine(xah _ rfl _ _ rfl rfl (jEA _ rfl (ite2 (λc2=>?_) (λc2=>hF))));have b0:=b4 _ _ d6;refine(xah _ rfl ba _ rfl (.inr (SqT.of b0)) (xaq _ _ rfl rfl (jEA _ rfl (xss (λc3=>hT _ ?_) hF))));have dx:=of_decide_eq_true c3;refine xaf λS2 cc=>?_;refine(xbc _ rfl _ rfl _ rfl ba _ rfl (.inr (SqT.of b0)) (xap G p5 q5 _ rfl a4 (by omega) (by omega) (λr5 H6 dk dj O=>?_)));obtain⟨i5,rfl⟩:∃i:Nat,r5=(i:Int):=⟨r5.toNat,by omega⟩;have az:i5<ub.length:=by omega
    have a8:=xar (jEE p5 q5 a4) O;have d9:=(ea.tups b4 _).tups a8 _;obtain⟨b6,pb,cq,eb,c9⟩:=xd4 d9 (zGA az);have bt:=a8 _ _ b0;refine(xbf ba _ _ (.ref b6) rfl rfl (SqT.of bt) (xas (by rw[zGA az,eb])) b6 (xb7 _ rfl (SqT.of c9) rfl (jEEA _ _ rfl (xaq _ _ rfl rfl (cc _ _ ?_)))));have ar:=O.1 _ _ C aa;obtain⟨p6,q6,bb⟩:=O.2;refine(jEAA _ rfl (.inl (jAE rfl _ (SqL.of ar))) ?_);refine(jEA _ rfl (xbc _ rfl _ rfl _ rfl ba _ rfl (.inr (SqT.of bt)) (λbl br=>?_)));have sb:=Same.new br (.lst ub);have eg:bl≠G:=Ne.symm (neN bb br);refine(xbh _ rfl G bl kv p6 (xat q6 ks bs ub pb.2 rfl (sb _ _ bb) eg ups (d9.same sb _) (jAAA b5 (((d4.fed f5).fed O).kd.same sb _) d.wf ⟨d.bk pb (zMG cq),λu dd H7 f7 dv=>⟨(by walk_at"s"),λt ht=>?_⟩⟩)));have st:=Same.new ht (.tup [.str (S "set"),.str pb.1,u]);have ef:Fed G H5 _:=((O.same sb).trans f7).same st;have hu:RelD (upd H7 t (.tup [.str (S "set"),.str pb.1,u])) (.ref t) (Row.set pb.1 dd).d:=(xag t _ rfl ups _ _ rfl rfl _ (xb4 _ rfl rfl _ _ rfl (dv.same st _) rfl));obtain⟨⟨_,_,k1,k2⟩,k3,k4,k5,k6,k7⟩:=go (r:=.set pb.1 dd) none none none none ef hu rfl;exact(xam M us _ rfl rfl k1 k2 (put (r:=.set pb.1 dd) _ _ _ _ k3 k1 k4 hu k5 (b7 rfl) a6 k6 k7))
 ·rintro σ H4 ⟨us,rs,J,o8,m,ai,a3,a2,rfl,F4,au,am,be,bi,b8,a6,bo,b1⟩
  refine e5 _ _ ?_;refine(jEA _ rfl (jEEA M us rfl (.inl ⟨SqL.of au,λtr dw=>?_⟩)));have dg:=Same.new dw (.tup us);refine⟨(by walk_at"s"),λt1 aq=>⟨(by walk_at"s"),λt2 ao=>?_⟩⟩;have s1:=Same.new aq (.tup [.str (S "end")]);have s2:=Same.new ao (.tup [.ref t1]);have an:=am.length;rw[zLM]at an;have hv:RelD (upd (upd (upd H4 tr (.tup us)) t1 (.tup [.str (S "end")])) t2 (.tup [.ref t1])) (.ref t1) (Row.fin).d:=(xaq t1 _ rfl (s2 _ _ ups) (xaq _ _ rfl rfl rfl));have dh:=dg.trans (s1.trans s2)
  have fin:∀{tl:Addr} {H7:Hp},Same (upd (upd (upd H4 tr (.tup us)) t1 (.tup [.str (S "end")])) t2 (.tup [.ref t1])) H7->H7 tl=some (.tup (us++[.ref t1]))->Q (.ref tl) H7:=λ{tl H7} s7 bz=>by
   have ch:=dh.trans s7;refine q (.ref tl) (rs++[.fin]) H7 (F4.same ch) (xaq tl _ rfl bz ?_) ⟨by rw[zLA,List.length_singleton];omega,by rw[zLA,List.length_singleton];omega,?_⟩
   ·rw[zAP]
    exact(am.same ch _).append (xaq (.ref t1) ([]) rfl (hv.same s7 _) rfl)
   ·rw[List.filterMap_append]
    show(_++[]).Nodup;rw[List.append_nil];exact(List.nodup_append.mp b8).1
  have co:=(s1.trans s2) _ _ (show upd H4 tr (.tup us) tr=_ from ups);refine(xbg tr t2 _ _ rfl rfl (SqT.of co) (SqT.of ups) (fits (by rw[List.length_singleton];omega)) (λe=>?_) ⟨(λ_ e=>nomatch e),λ_ _ tl bz=>?_⟩)
  ·exact fin (Same.refl _) (by rw[ups,e];rfl)
  ·exact fin (Same.new bz _) ups
structure NIn(H:Hp)(nb:Addr)(nms:List Str):Prop where
 nl:H nb=some (.lst (nms.map V.str))
 ok:xje nms
 nby:∀z∈nms,NoBy z
theorem NIn.same{H c:Hp}{b:Addr}{a:List Str}(g:NIn H b a)(s:Same H c):NIn c b a:=⟨s _ _ g.nl,g.ok,g.nby⟩
theorem NIn.name{H:Hp}{b:Addr}{a:List Str}(g:NIn H b a){i:Nat}(h:i<26):∃z,a[i]?=some z/\atI (a.map V.str) (i:Int)=some (.str z):=by
 have c:=g.ok.1;exact(jEA (a[i]'(by omega)) (zGA _) (xas (by rw[zGM,zGA (by omega)];rfl)))
structure HandW(ks:List Kn)(h:Hand):Prop where
 nd:(h.boxes.map (·.1)).Nodup
 few:h.boxes.length<=5
 kin:∀b∈h.boxes,KIn ks 6 b.2
 rw:RowsW h.rows
structure MakW(m:Mak):Prop where
 wf:KWf m.kinds
 cnd:(m.chans.map (·.1)).Nodup
 cfew:m.chans.length<=6
 ckin:∀c∈m.chans,KIn m.kinds 6 c.2.2.2
 hnd:(m.hands.map Hand.name).Nodup
 hfew:m.hands.length<=4
 hok:∀h∈m.hands,HandW m.kinds h
def xjm(K:Fg):Sp:=λvs H Q _=>∃(a nb:Addr) (ns:List Int) (at_ many:Nat) (kv cv:V) (ks:List Kn) (cs:List Chn) (nms:List Str),vs=[.ref a,.int at_,kv,cv,.int many,.ref nb]/\SqL K H a (ns.map V.int)/\ns.length<=63/\NIn H nb nms/\RelD H kv (xdg ks)/\KWf ks/\PNB ks/\RelD H cv (.tup (cs.map dChn))/\ChsOk ks nms many cs/\1<=many/\many<=4 ∧
 ∀v mk H',Same H H'->RelD H' v mk.d->MakW mk->mk.hands.map Hand.name=nms.take many->mk.chans=cs->Q v H'
def xm1(K:Fg):Sp:=λvs H Q _=>∃(a nb:Addr) (ns:List Int) (at_:Nat) (nms:List Str),vs=[.ref a,.int at_,.ref nb]/\SqL K H a (ns.map V.int)/\ns.length<=63/\NIn H nb nms ∧
 ∀v mk H',Same H H'->RelD H' v mk.d->MakW mk->mk.hands≠[]->mk.chans≠[]->Q v H'
theorem xrx{ks:List Kn}{a:List Str}{bs:List (Str×Str)}{rs:List Row}{x:Str}(b:BsOk ks a bs)(r:RowsW rs):HandW ks ⟨x,bs,rs⟩:=⟨b.nd,b.len,b.kin,r⟩
theorem xnr(T:Tx K mg)(p:DefIs P w K mg base n "_law_feed" qat (xkz K))(j:DefIs P w K mg base n "_law_boxes" qbp xsn)(m:DefIs P w K mg base n "_law_rows" qbd xq2):DefIs P w K mg base (n+1) "_law_hands" qbf (xjm K):=by
 refine DefIs.of T.uG scl_hands (by walk_at"l") (λf ar A outer s H vs Q E hr h=>?_);obtain⟨a,M,ns,an,many,kv,cv,ks,cs,x,rfl,hS,al,g,hk,wf,pb,hc,u,h1,h4,q⟩:=h;have nd:=scl_hands.nd;have aq:=g.ok.1
 refine⟨_,(zpn (psn 6 nd (xcg pN))
   (zpn (xbp PassesOwn.never rfl (xcc rfl T.uT (v1 4)) (pgn 7 nd)
   (zpn (psn 8 nd (pd p hr (va 0 (pc (xaz xby (pv 1) (pv 7)) pN xcf))))
   (zpn (psn 9 nd (pd j hr (va 8 (va 2 (va 3 (pc (pxl K (pv 5) (pv 7)) (v1 5) ss))))))
   (zpo (xa1 (xds PySem.F.plainAttrs_list PySem.F.slot_list_append PySem.F.type_list_append xbs (pv 6) (pc (xaw (pc (pxl K (pv 5) (pv 7)) (va 9 (pc (pd m hr (va 8 (va 2 (va 3 (pc (pxl K (pv 5) (pv 7)) (va 9 (v1 5)) ss))))) pN zsc)) ss)) pN sT)))))))
   (zpo (xad (xaw (va 2 (va 3 (pc (xay (xbk (K:=K) rfl) rfl T.uX PyProof.Rows.boot_tuple (v1 6)) pN zsc)))))))),xaf λR1 ak=>?_⟩
 refine⟨(by walk_at"s"),λl hl=>ak _ _ (xaf λR2 aj=>?_)⟩;have s0:=Same.new hl (.lst []);refine(xa9 _ rfl _ rfl (by omega) ⟨by omega,?_⟩)
 refine xc3 (λi σ H'=>∃us,∃(hs:List Hand) (o7 o8 o9:Option V),σ=[some (.ref a),some (.int an),some kv,some cv,some (.int many),some (.ref M),some (.ref l),o7,o8,o9]/\Same H H'/\H' l=some (.lst us)/\RelDs H' us (hs.map Hand.d)/\hs.length=i/\hs.map Hand.name=x.take i/\∀h∈hs,HandW ks h)
  (xat ([]) ([]) none none none rfl s0 ups rfl rfl ⟨rfl,λ_ h=>nomatch h⟩) ?_ ?_
 ·rintro i σ H1 hi ⟨us,hs,o7,o8,o9,rfl,s1,I,G,a5,J,U⟩
  have ao:i<4:=by omega
  have e0:(0+(i:Int))=(i:Int):=by omega
  have a9:=G.length;rw[zLM]at a9;refine xaf λS1 ai=>?_;refine(xbc _ rfl _ rfl _ rfl _ _ rfl rfl (xam a ns _ rfl (s1.seq hS) al (by omega) (λr p1 q1 nr=>ai _ _ (xaf λS2 ah=>?_))));have sr:=Same.new nr (.lst [.int p1,.int q1]);obtain⟨H2,Z⟩:∃H2,H2=upd H1 r (.lst [.int p1,.int q1]):=⟨_,rfl⟩;have ae:H2 r=some (.lst [.int p1,.int q1]):=by rw[Z];exact ups
  rw[<- Z]at sr⊢;clear Z;have C:=s1.trans sr;have g2:=g.same C;have a2:M≠r:=neN (g.same s1).nl nr;have lr:l≠r:=neN I nr;obtain⟨z,hz,az⟩:=g2.name (i:=i) (by omega);have a0:atI (x.map V.str) (0+(i:Int))=some (.str z):=by rw[e0];exact az
  have G2:GIn H2 r M kv ks x:=⟨(jEE p1 q1 ae),g2.nl,g.ok,a2,g.nby,hk.same C _,wf,pb⟩;refine(xb0 _ rfl _ rfl _ rfl _ rfl _ rfl (xbf M _ _ _ rfl rfl (SqL.of g2.nl) a0 _ (jAE rfl r (xaj M kv cv ks x (xak cs z rfl G2 (hc.same C _) u.len u.kin (λbv bs H3 f3 a6 Y=>ah _ _ ?_))))));have G3:=G2.fed f3;have a7:=xar G2.fd f3;have a4:=f3.1 _ _ (sr _ _ I) lr;have d3:DI H3 r kv cv bv ks cs bs:=⟨G3.fd,G3.kd,wf,(hc.same C _).tups a7 _,u.len,a6,Y.len,Y.kin⟩;refine(jEAA _ rfl (.inl (jAE rfl _ (SqL.of a4))) ?_);refine(xal _ rfl _ rfl M _ _ (xbt _ rfl rfl (SqL.of G3.nl) a0 _ rfl ?_));refine(xb0 _ rfl _ rfl _ rfl _ rfl _ rfl (xbf M _ _ _ rfl rfl (SqL.of G3.nl) a0 _ (jAEA rfl _ rfl (xaj r M kv cv bv (xat ks cs bs z x rfl d3 G3.nl g.ok a2 (λrv rs H4 f4 ab ac=>⟨(by walk_at"s"),λt ht=>?_⟩))))));have st:=Same.new ht (.tup [.str z,bv,rv]);have am:=f3.trans f4;have a3:=f4.1 _ _ a4 lr;have a8:Same H1 H4:=Fed.back nr sr am;refine(xam l us _ rfl rfl (st _ _ a3) (xa6 (by omega)) ?_);have a1:=a8.trans st
  have y:∀b vs,upd H4 t (.tup [.str z,bv,rv]) b=some (.tup vs)->upd (upd H4 t (.tup [.str z,bv,rv])) l (.lst (us++[.ref t])) b=some (.tup vs):=λb vs e=>by
   rw[xai λz=>by rw[z,st _ _ a3]at e;cases e];exact e
  refine(xat (us++[.ref t]) (hs++[⟨z,bs,rs⟩]) _ _ _ rfl (λb o e=>?_) ups ?_ (by rw[zLA,List.length_singleton,a5]) ⟨?_,λh hh=>?_⟩)
  ·rw[xai (neN e hl)]
   exact a1 _ _ (s1 _ _ e)
  ·rw[zAP]
   refine((G.same a1 _).tups y _).append (xaq (.ref t) ([]) rfl ?_ rfl);exact(xag t _ rfl (y _ _ ups) _ _ rfl rfl _ (xb4 _ rfl (((a6.tups (xar G3.fd f4) _).same st _).tups y _) _ _ rfl ((ab.same st _).tups y _) rfl))
  ·rw[zAP,J,zTA,hz]
   rfl
  ·rcases zMA hh with h' | h'
   ·exact U h h'
   ·rw[zMO h']
    exact xrx Y ac
 ·rintro σ H1 ⟨us,hs,o7,o8,o9,rfl,s1,I,G,a5,J,U⟩
  refine aj _ _ ?_;refine(xav _ rfl _ rfl _ rfl l us ⟨rfl,.inl ⟨SqL.of I,λt ht=>⟨(by walk_at"s"),λt2 aa=>?_⟩⟩⟩);have st:=Same.new ht (.tup us);have O:=Same.new aa (.tup [kv,cv,.ref t]);have sA:=s1.trans (st.trans O)
  have af:(cs.map (·.1)).Nodup:=by
   rw[u.nm];exact(g.ok.2.1.sublist (List.drop_sublist _ _)).sublist (List.take_sublist _ _)
  refine q _ ⟨ks,cs,hs⟩ _ sA (xag t2 _ rfl ups _ _ rfl (hk.same sA _) _ (xb4 _ rfl (hc.same sA _) _ _ rfl (xaq t us rfl (O _ _ ups) (G.same (st.trans O) _)) rfl)) ⟨wf,af,u.len,λc ag=>(u.kin c ag).mono wf.few,?_,by show hs.length<=4;omega,U⟩ ?_ rfl
  ·show(hs.map Hand.name).Nodup
   rw[J];exact g.ok.2.1.sublist (List.take_sublist _ _)
  ·exact J
theorem xpk(T:Tx K U)(b:DefIs P w K U base n "_law_feed" qat (xkz K))(m:DefIs P w K U base n "_law_take" qac xdb)(i:DefIs P w K U base n "_law_kinds" qbn xm4)(c:DefIs P w K U base n "_law_channels" qbo xqe)(l:DefIs P w K U base n "_law_hands" qbf (xjm K)):DefIs P w K U base (n+1) "_law_make" qbe (xm1 K):=by
 refine DefIs.of T.uF scl_make (by walk_at"l") (λf am A outer s H vs Q E Y h=>?_);obtain⟨a,y,ns,o,u,rfl,hS,M,g,q⟩:=h;have nd:=scl_make.nd
 refine⟨_,(zpn (psn 3 nd (pd i Y (pc (pd b Y (va 0 (v1 1))) (v1 2) zsc)))
   (zpn (psn 4 nd (pd b Y (va 0 (pc (xaz xby (pv 1) pI) pN xcf))))
   (zpn (psn 5 nd (xaz xby pI (pd m Y (va 4 (pc pI pN so)))))
   (zpo (xad (pd l Y (va 0 (pc (xaz xby (pv 1) pI) (va 3 (pc (pd c Y (va 4 (va 3 (va 2 (v1 5))))) (va 5 (v1 2)) zsc)) xcf)))))))),xaf λR1 ah=>?_⟩
 refine(xa8 _ rfl _ rfl a ns o rfl hS (jAA M (by omega) (λr p1 q1 nr=>?_)));have sr:=Same.new nr (.lst [.int p1,.int q1]);have g1:=g.same sr;have a8:y≠r:=neN g.nl nr;refine(xbh _ rfl r y p1 q1 (xa7 u rfl ups g1.nl g.ok a8 (λkv ks H1 f1 a3 ab ai=>ah _ _ (xaf λR2 ag=>?_))));have O:Same H H1:=Fed.back nr sr f1;obtain⟨wf,h4,al,aa⟩:=ab
 have pb:PNB ks:=λk hk p hp j=>by
  have hm:p.1∈u:=by
   have h9:=(aa k hk).2;have a7:p.1∈k.parts.map (·.1):=List.mem_map_of_mem hp;rw[h9]at a7;exact List.mem_of_mem_drop (List.mem_of_mem_take (List.mem_of_mem_take a7))
  exact g.nby _ hm j
 refine(xbr _ rfl _ rfl _ _ rfl rfl a (xcb ns _ rfl (O.seq hS) M (by omega) (λr2 p2 q2 x=>ag _ _ (xaf λR3 af=>?_))));have G:=Same.new x (.lst [.int p2,.int q2]);have g2:=(g.same O).same G;have a0:y≠r2:=neN (g.same O).nl x;refine(xaa _ rfl r2 p2 q2 4 rfl ups (by decide) (by decide) (λhm H3 ak aj f3=>(xaq _ _ rfl rfl ?_)));obtain⟨many,J,C,z⟩:∃many:Nat,1+hm=(many:Int)/\1<=many/\many<=4:=(jEAA ((1+hm).toNat) (by omega) (by omega) (by omega))
 suffices a1:R3 [some (.ref a),some (.int o),some (.ref y),some kv,some (.ref r2),some (.int (many:Int))] H3 by
  rw[<- J]at a1;exact a1
 refine af _ _ ?_;have I:Same H1 H3:=Fed.back x G f3;have g3:=(g.same O).same I;have s3:=O.trans I;have a9:=f3.2;have G3:GIn H3 r2 y kv ks u:=⟨a9,g3.nl,g.ok,a0,g.nby,a3.same I _,wf,pb⟩;refine(xbw _ rfl _ rfl _ _ rfl rfl _ rfl (jEA _ rfl (xav _ rfl _ rfl _ rfl r2 y (xap kv ks u many rfl G3 C z (λcv cs H4 f4 ac a5 a6=>?_)))));have Z:Same H1 H4:=Fed.back x G (f3.trans f4);have s4:=O.trans Z;refine(xal _ rfl _ rfl a y ns (xaj (o+2) many kv cv ks (xak cs u ?_ (s4.seq hS) M (g.same s4) (a3.same Z _) (jAAA wf pb ac (jAAA a5 C z (λv mk H5 s5 hv a2 a4 ae=>q v mk H5 (s4.trans s5) hv a2 (λe=>?_) λe=>by rw[ae]at e;rw[e]at a6;exact absurd a6 (by decide)))))))
 ·show[V.ref a,V.int ((o:Int)+2),kv,cv,V.int many,V.ref y]=_
  rw[show((o:Int)+2)=((o+2:Nat):Int) by omega]
 ·rw[e]at a4
  have:=congrArg List.length a4;rw[List.length_take,g.ok.1]at this;simp at this;omega
def dPr(q:Str×D):D:=.tup [.str q.1,q.2]
def vKV(bs:List (Str×V)):List (Key×V):=bs.map λb=>(Sum.inr b.1,b.2)
def envP(ds:List (Str×D)):En:=λy=>(ds.find? λq=>decide (q.1=y)).map λq=>q.2
def NV(H:Hp):List (Str×V)->List (Str×D)->Prop
 |[],[]=>True
 |b::bs,q::ds=>(b.1=q.1/\RelD H b.2 q.2)/\NV H bs ds
 |_,_=>False
theorem xez{y:Str}:∀(bs:List (Str×V)) (acc:List (Key×V)),(∀b∈bs,b.1≠y)->valV (xa5 acc (vKV bs)) (Sum.inr y)=valV acc (Sum.inr y)
 |[],acc,_=>rfl
 |b::bs,acc,h=>by
  show valV (xa5 (putK acc (Sum.inr b.1) b.2) (vKV bs)) (Sum.inr y)=_;rw[xez bs _ λc a=>h c (by simp[a]),xcz,if_neg λe=>h b (by simp) (Sum.inr.inj e).symm]
theorem xfu:∀(bs:List (Str×V)) (acc:List (Key×V)),(bs.map (·.1)).Nodup->∀p∈bs,valV (xa5 acc (vKV bs)) (Sum.inr p.1)=some p.2
 |[],acc,_,p,a=>nomatch a
 |b::bs,acc,nd,p,a=>by
  rw[List.map_cons,List.nodup_cons]at nd;show valV (xa5 (putK acc (Sum.inr b.1) b.2) (vKV bs)) (Sum.inr p.1)=_;rcases zMC a with rfl |a
  ·rw[xez bs _ λc f e=>nd.1 (by rw[<- e];exact List.mem_map_of_mem f),xcz,if_pos rfl]
  ·exact xfu bs _ nd.2 p a
theorem NV.names{H:Hp}:∀{bs:List (Str×V)} {ds:List (Str×D)},NV H bs ds->bs.map (·.1)=ds.map (·.1)
 |[],[],_=>rfl
 |b::bs,q::ds,h=>by rw[List.map_cons,List.map_cons,h.1.1,NV.names h.2]
theorem NV.of{H:Hp}:∀{bs:List (Str×V)} {ds:List (Str×D)},NV H bs ds->∀q∈ds,∃b∈bs,b.1=q.1/\RelD H b.2 q.2
 |[],[],_,q,a=>nomatch a
 | b::bs,g::ds,h,q,a=>by
  rcases zMC a with rfl |a
  ·exact(jEA b (by simp) h.1)
  ·obtain⟨c,f,e⟩:=NV.of h.2 q a
   exact(jEA c (by simp[f]) e)
theorem NV.tups{H a:Hp}(s:∀b us,H b=some (.tup us)->a b=some (.tup us)):∀{bs:List (Str×V)} {ds:List (Str×D)},NV H bs ds->NV a bs ds
 |[],[],_=>trivial
 |b::bs,q::ds,h=>⟨⟨h.1.1,h.1.2.tups s _⟩,NV.tups s h.2⟩
theorem xep{H:Hp}:∀{us:List V} {ds:List (Str×D)},RelDs H us (ds.map dPr)->∃bs,PairsV H us (vKV bs)/\NV H bs ds
 |us,[],h=>by rw[show us=[] from h];exact(jEA ([]) trivial trivial)
 |us,q::ds,⟨v,r,e,j,i⟩=>by
  subst e;obtain⟨a,ws,rfl,g,b,_,rfl,f,v1,_,rfl,c,rfl⟩:=j;obtain rfl:b=.str q.1:=f;obtain⟨bs,m,l⟩:=xep i;exact⟨(q.1,v1)::bs,⟨⟨a,rfl,g⟩,m⟩,⟨rfl,c⟩,l⟩
theorem xkg{ds:List (Str×D)}(nd:(ds.map (·.1)).Nodup){q:Str×D}(b:q∈ds):envP ds q.1=some q.2:=by
 unfold envP;obtain⟨i,hi,e⟩:=zMI b;rw[xcq (f:=λr:Str×D=>r.1) (xs:=ds) (i:=i) (a:=q) nd (by rw[<- e];exact zGA hi)];rfl
theorem xnv{H:Hp}{bs:List (Str×V)}{ds:List (Str×D)}(h:NV H bs ds)(nd:(ds.map (·.1)).Nodup){q:Str×D}(a:q∈ds):∃v,valV (xa5 [] (vKV bs)) (Sum.inr q.1:Key)=some v/\RelD H v q.2:=by
 obtain⟨b,c,f,e⟩:=h.of q a;refine(jEA b.2 ?_ e);rw[<- f];exact xfu bs [] (by rw[h.names];exact nd) b c
theorem xui{H:Hp}{dp:Addr}{bs:List (Str×V)}{ds:List (Str×D)}(h:NV H bs ds)(nd:(ds.map (·.1)).Nodup)(f:H dp=some (.dK (xa5 [] (vKV bs)))):EnAt H dp ds.length (envP ds):=by
 refine(jEAA _ f ?_ (λy=>⟨λe=>?_,λd e=>?_⟩))
 ·have a:=xb9 (vKV bs) []
  have j:=congrArg List.length h.names;rw[zLM,zLM]at j;unfold vKV at a⊢;rw[zLM]at a;simp at a;omega
 ·unfold envP at e
  have h':=List.find?_eq_none.mp (Option.map_eq_none_iff.mp e);rw[xez bs [] λb i z=>?_]
  ·rfl
  ·have g:b.1∈ds.map (·.1):=by rw[<- h.names];exact List.mem_map_of_mem i
   obtain⟨q,c,l⟩:=zMP g;exact absurd (zDT (l.trans z)) (h' q c)
 ·unfold envP at e
  obtain⟨q,c,rfl⟩:=zMS e
  have a:q.1=y:=by
   have:=List.find?_some c;exact of_decide_eq_true this
  rw[<- a];exact xnv h nd (zMF c)
structure TC(H:Hp)(fa sa wa:Addr)(kv1 kv2:V)(r1 r2:List V)(ks ks2:List Kn):Prop where
 f:H fa=some (.tup (kv1::r1))
 s:H sa=some (.tup (kv2::r2))
 k1:RelD H kv1 (xdg ks)
 wf:KWf ks
 k2:KsAt H kv2 ks2
 w:WaysAt H wa (ks.map wyK)
theorem TC.same{H l:Hp}{j e c:Addr}{b a:V}{i g:List V}{ks ks2:List Kn}(h:TC H j e c b a i g ks ks2)(y:Same H l):TC l j e c b a i g ks ks2:=⟨y _ _ h.f,y _ _ h.s,h.k1.same y _,h.wf,h.k2.same y,h.w.same y⟩
def spTd(m:Nat):Sp:=λvs H Q _=>∃(fa sa wa:Addr) (kv1 kv2:V) (r1 r2:List V) (ks ks2:List Kn) (x:Str) (v:V) (d:D),vs=[.ref fa,.ref sa,.ref wa,.str x,v]/\TC H fa sa wa kv1 kv2 r1 r2 ks ks2/\KIn ks m x/\RelD H v d/\Vk ks x d/\∀u H',Same H H'->RelD H' u d->Q u H'
def spTB(m:Nat):Sp:=λvs H Q _=>∃(fa sa wa:Addr) (kv1 kv2:V) (r1 r2:List V) (ks ks2:List Kn) (pa da:Addr) (us:List V) (es:List ((Str×Str)×D)) (kvs:List (Key×V)),vs=[.ref fa,.ref sa,.ref wa,.ref pa,.ref da]/\TC H fa sa wa kv1 kv2 r1 r2 ks ks2/\H pa=some (.tup us)/\RelDs H us (es.map λe=>xd0 e.1)/\(es.map λe=>e.1.1).Nodup/\es.length<=100 ∧
 (∀e∈es,KIn ks m e.1.2/\Vk ks e.1.2 e.2)/\H da=some (.dK kvs)/\(∀e∈es,∃v,valV kvs (Sum.inr e.1.1:Key)=some v/\RelD H v e.2)/\∀dp H',Same H H'->EnAt H' dp es.length (envP (es.map λe=>(e.1.1,e.2)))->Q (.ref dp) H'
theorem xka{ks:List Kn}(a:KWf ks){m:Nat}{x:Str}(h:KIn ks m x):xc2 (ks.map wyK) x=some x:=by
 refine xet ?_;rcases h.look a with⟨rfl,_⟩ |⟨j,k,rfl,_,hn,b,_⟩
 ·exact .inl rfl
 ·exact .inr (jEA k b hn)
theorem xlq{α β γ:Type}{R:γ->β->Prop}{f:α->γ}:∀{ps:List α} {ws:List β},ps.length=ws.length->(∀e∈ps.zip ws,R (f e.1) e.2)->All2 R (ps.map f) ws
 |[],[],_,_=>All2.nil
 |p::ps,v::ws,a,h=>All2.cons (h (p,v) (by simp)) (xlq (by simpa using a) λe b=>h e (by simp[b]))
theorem xg0{α β:Type}:∀{ps:List α} {ws:List β},ps.length=ws.length->(ps.zip ws).map (·.1)=ps
 |[],[],_=>rfl
 |p::ps,v::ws,a=>by
  rw[List.zip_cons_cons,List.map_cons,xg0 (by simpa using a)]
theorem xr8{α β:Type}{ps:List α}{ws:List β}{e:α×β}(a:e∈ps.zip ws):∃i:Nat,ps[i]?=some e.1/\ws[i]?=some e.2:=by
 obtain⟨i,hi,c⟩:=zMI a;have b:=List.getElem?_zip_eq_some.mp (show(ps.zip ws)[i]?=some e by rw[<- c];exact zGA hi);exact⟨i,b⟩
theorem xdw(T:Tx K mg)(c:DefIs P w K mg base n "goes_to" qaf xf2)(j:DefIs P w K mg base n "turned" qaq (spTd m)):DefIs P w K mg base (n+1) "turned_boxes" qar (spTB m):=by
 refine DefIs.of T.kP sc_turned_boxes (by walk_at"l") (λf a9 A outer s H vs Q E hr h=>?_);obtain⟨fa,sa,wa,a1,a0,r1,r2,ks,ks2,pa,da,us,es,kvs,rfl,tc,Y,G,a5,hl,I,a7,U,q⟩:=h;have nd:=sc_turned_boxes.nd;have hu:=xdl hr;have a4:=G.length;rw[zLM]at a4
 refine⟨_,(zpn (xc1 (i:=5) ["part","ways"] [none,some 2] rfl (by kernel_rfl) nd rfl (by walk_at"o") (xan (K:=K) rfl (pv 3)) (λ_ _ _ _=>(pgc 0)) (λ_ _ _ _=>(xe2 (pR xnl (pd c hr (va 1 (pc (px K (pv 0) pI) pN ss))) xca (nM _)))) (λ_ _ _ _=>(pv 0)))
   (zpo (xad (xay (xd8 rfl) rfl T.uL PyProof.Rows.boot_dict (pc (xbm ["x","kind","first","second","ways","values"] [none,none,some 0,some 1,some 2,some 4] rfl (by kernel_rfl) (xcp (K:=K) rfl (pv 5)) (λ_ _ _ _=>(xa3 (K:=K) (n:=2) rfl rfl (xac (pgc 0) (xac (pgc 1) xa2)))) (λ_ _ _ _=>xbl) (λ_ _ _ _=>(xaw (va 0 (pc (pd j hr (va 2 (va 3 (va 4 (va 1 (pc (xcm hu (pv 5) (pv 0) (λ_ _=>rfl)) pN ss)))))) pN zsc))))) pN xb1))))),?_⟩
 refine(xa9 _ rfl pa rfl ⟨_,SqT.of Y⟩ ?_);refine xbu (xs:=us) (λi zs Z=>Z=H/\zs=us.take i) ⟨rfl,rfl⟩ (xa6 (by omega)) (λi zs Z _ p=>by obtain⟨rfl,_⟩:=p;exact SqT.of Y) ?_ ?_
 ·rintro i y zs Z hy hi l ⟨rfl,rfl⟩
  obtain⟨d,o,rd⟩:=G.get hy;rw[zGM]at o;obtain⟨e,he,rfl⟩:=zMS o;obtain⟨b,ws,rfl,hb,_,_,rfl,rfl,_,_,rfl,rfl,rfl⟩:=rd;refine⟨xgi rfl,?_⟩;refine(xal _ rfl _ rfl b _ _ (xcy _ rfl rfl (SqT.of hb) rfl (xcx wa _ e.1.2 rfl tc.w ?_)));rw[xka tc.wf (I e (zMG he)).1];refine(jAEA rfl _ rfl (iteT ?_));refine(jEA _ rfl (nxtG hi l ⟨rfl,?_⟩));rw[zTA,hy];rfl
 rintro zs Z l ⟨rfl,rfl⟩ L hL;rw[zTL (Nat.le_refl _)];have y0:=Same.new hL (.lst us);have a8:=tc.same y0;refine(xa9 _ rfl L rfl ⟨_,SqL.of ups⟩ ?_);refine xe7 (xs:=us) (λi zs C=>Same (upd Z L (.lst us)) C/\zs.length=i/\RelDs C zs ((es.take i).map λe=>dPr (e.1.1,e.2))) (jAA (Same.refl _) rfl rfl) (xa6 (by omega)) (λi zs C _ p=>SqL.of (p.1 _ _ ups)) ?_ ?_
 ·rintro i y zs C hy hi l ⟨sm,O,z⟩
  have r:=y0.trans sm;obtain⟨d,o,rd⟩:=(G.same r _).get hy;rw[zGM]at o;obtain⟨e,he,rfl⟩:=zMS o;have J:=zMG he;obtain⟨b,ws,rfl,hb,_,_,rfl,rfl,_,_,rfl,rfl,rfl⟩:=rd;obtain⟨v,a3,a2⟩:=U e J
  have g:DGet C da (.str e.1.1) (some v):=by
   have:=DGet.k (H:=C) (a:=da) (k:=Sum.inr e.1.1) (r _ _ a7);rw[a3]at this;exact this
  refine(xao b _ rfl (SqT.of hb) rfl _ _ rfl _ (xb7 _ rfl rfl (ext2 rfl rfl) (xdo ?_)));refine(xb0 _ rfl _ rfl _ rfl _ rfl _ rfl (jEA _ rfl (xah _ rfl da _ rfl g ?_)));refine(xaj fa sa wa a1 a0 (xaj r1 r2 ks ks2 e.1.2 (xak v e.2 rfl (tc.same r) ((I e J).1) (a2.same r _) ((I e J).2) (λu H5 s5 ru=>⟨(by walk_at"s"),λt ht=>?_⟩))));have y6:=Same.new ht (.tup [.str e.1.1,u]);refine nxtG hi l (jAA (sm.trans (s5.trans y6)) (by rw[zLA,List.length_singleton,O]) ?_);rw[zTA,he];show RelDs _ _ ((es.take i++[e]).map _);rw[zAP];exact((z.same s5 _).same y6 _).append (xaq _ ([]) rfl (xag t _ rfl ups _ _ rfl rfl _ (jEAA _ rfl (ru.same y6 _) rfl)) rfl)
 ·rintro zs C l ⟨sm,O,z⟩ D hD
  rw[zTL (by omega)]at z;have y1:=Same.new hD (.lst zs);have M:RelDs C zs ((es.map λe=>(e.1.1,e.2)).map dPr):=by rw[List.map_map];exact z
  obtain⟨bs,hp,hn⟩:=xep (M.same y1 _);refine(xda D zs (vKV bs) rfl ups hp (λdp a6=>?_));have y2:=Same.new a6 (.dK (xa5 [] (vKV bs)));have en:=xui (hn.tups λb us e=>y2 _ _ e) (by rw[List.map_map];exact a5) ups;rw[zLM]at en;exact q dp _ (y0.trans (sm.trans (y1.trans y2))) en
theorem xig(T:Tx K mg)(ak:Sp)(I:DefIs P w K mg base n "sort_of" qab xcr)(C:DefIs P w K mg base n "parts_of" qab xb6)(o:DefIs P w K mg base n "part_kind" qam xdc)(r:DefIs P w K mg base n "worth" qaa (xdi (λks=>Ev ks 8) 100))(l:DefIs P w K mg base n "turned_boxes" qar ak)(aw:∀j,m=j+1->ak=spTB j):DefIs P w K mg base (n+1) "turned" qaq (spTd m):=by
 refine DefIs.of T.kO sc_turned (by walk_at"l") (λf br A outer s H vs Q E hr h=>?_);obtain⟨fa,sa,wa,a0,a4,r1,r2,ks,ks2,x,v,d,rfl,tc,bf,hv,aq,q⟩:=h;have nd:=sc_turned.nd;have hu:=xdl hr;have wf:=tc.wf
 refine⟨_,(zpn (xax (pR xbe (pv 3) pS (nM _)) (zpo (xad (pv 4))) pQ)
   (zpn (psn 5 nd (px K (xcm hu (pv 2) (pv 3) (λ_ _=>rfl)) pI))
   (zpn (psn 6 nd (pd C hr (pc (px K (pv 0) pI) (v1 3) ss)))
   (zpn (xax (pR xbe (pd I hr (pc (px K (pv 0) pI) (v1 3) ss)) pS (nM _)) (zpn (psn 7 nd (xay (xd8 rfl) rfl T.uL PyProof.Rows.boot_dict (pc (xbm ["part","each"] [none,none] rfl (by kernel_rfl) (xib rfl T.uY (va 6 (pc (px K (pv 4) pI) pN ss))) (λ_ _ _ _=>(xa3 (K:=K) (n:=2) rfl rfl (xac (pgc 0) (xac (pgc 1) xa2)))) (λ_ _ _ _=>xbl) (λ_ _ _ _=>(xaw (pc (px K (pv 0) pI) (v1 1) ss)))) pN xb1)))
   (zpo (xad (pd r hr (pc (px K (pv 1) pI) (va 5 (pc (pd l hr (va 0 (va 1 (va 2 (va 6 (v1 7)))))) pN zsc)) ss))))) pQ)
   (zpn (psn 8 nd (px K (pv 4) pI))
   (zpn (psn 9 nd (xaw (pc pS (pc (pd o hr (pc (px K (pv 0) pI) (va 3 (v1 8)) ss)) pN zsc) so)))
   (zpo (xad (pd r hr (pc (px K (pv 1) pI) (pc (xcm hu (xay (xe8 rfl) rfl T.uL PyProof.Rows.boot_dict (v1 5)) (pv 8) (λ_ _=>rfl)) (pc (pd l hr (va 0 (va 1 (va 2 (pc (xaw (v1 9)) (pc (xrc (xpc pS (px K (pv 4) pI) xq7) rfl rfl (λz=>by cases z) (by decide)) pN xf0) sT))))) pN zsc) ss) ss)))))))))),?_⟩
 rcases bf.look wf with⟨rfl,G⟩ |⟨j,k,rfl,G,hn,hm,hp⟩
 ·refine(xba _ rfl rfl _ rfl (iteKT (zDT rfl) ?_))
  exact(jEA _ rfl (q _ _ (Same.refl _) hv))
 ·have D':=aw j rfl
  subst D';subst hn;refine(xba _ rfl rfl _ rfl (iteKF (zDF λz=>xei (wf.nm k hm) (V.str.inj z)) ?_));obtain⟨kvs,hd,b9⟩:=id tc.w;obtain⟨v',h1,h2⟩:=(b9.val (x:=k.name)).2 (wyK k) (by rw[xhs,G];rfl);obtain⟨b,_,rfl,hb,v0,_,rfl,r0,ar,_,rfl,hh,rfl⟩:=h2;obtain rfl:v0=.str k.name:=r0;change RelD H ar (howD k) at hh
  have g:DGet H wa (.str k.name) (some (.ref b)):=by
   have:=DGet.rd (k:=Sum.inr k.name) hd;rw[h1]at this;exact this
  have a6:=wf.pnd k hm;have h5:=wf.pts k hm;refine(xbr _ rfl _ rfl wa _ rfl g b (xam _ _ _ rfl rfl (SqT.of hb) rfl ?_));refine(xaa _ rfl fa _ _ _ rfl rfl (SqT.of tc.f) (xas (j:=0) rfl) (xb3 _ rfl a0 ks k.name rfl (wf.ksAt tc.k1) (λu H1 s1 ru=>?_)));rw[G]at ru;obtain⟨c,cs,rfl,hc,ah⟩:=ru;have bm:=ah.length;rw[zLM]at bm;have a3:=tc.same s1;refine(xaa _ rfl fa _ _ _ rfl rfl (SqT.of a3.f) (xas (j:=0) rfl) (xb3 _ rfl a0 ks k.name rfl (wf.ksAt a3.k1) ?_));rw[G]
  cases U:k.rc with
  | true=>
   obtain⟨ws,J,b8,rfl⟩:=xp7 wf G U aq;obtain⟨a,_,rfl,ha,v0,_,rfl,r0,v1,_,rfl,⟨a1,us,rfl,b5,au⟩,rfl⟩:=hv;have bq:=au.length;refine(jAEA rfl _ rfl (iteKT (zDT (by show V.str k.sort=_;rw[xdd U];rfl)) ?_));refine(xal _ rfl _ rfl a _ _ (xcy _ rfl rfl (SqT.of (s1 _ _ ha)) rfl (xcv c a1 rfl ⟨_,SqT.of hc⟩ ⟨_,SqT.of (s1 _ _ b5)⟩ ?_)));refine xll (xs:=cs) (zs:=us) (by omega) (λi zs H'=>Same H1 H'/\zs.length=i/\RelDs H' zs (((k.parts.zip ws).take i).map λe=>dPr (e.1.1,e.2))) (jAA (Same.refl _) rfl rfl) (xa6 (by omega)) (λi zs H' _ p=>⟨SqT.of (p.1 _ _ hc),SqT.of (p.1 _ _ (s1 _ _ b5))⟩) ?_ ?_
   ·rintro i y z zs H' pp hy hz hi ay ⟨sm,an,a5⟩ be
    obtain⟨d1,b3,rd⟩:=ah.get hy;rw[zGM]at b3;obtain⟨pr,bd,rfl⟩:=zMS b3;obtain⟨b2,_,rfl,bn,_,_,rfl,rfl,_,_,rfl,rfl,rfl⟩:=rd;obtain⟨e,he,re⟩:=au.get hz;have sp:=Same.new be (.tup [.ref b2,z]);have s3:=sm.trans sp;refine(xao pp _ rfl (SqT.of ups) rfl _ _ rfl _ (xb7 _ rfl rfl (ext2 rfl rfl) (xdo ?_)));refine(xaa _ rfl b2 _ _ _ rfl rfl (SqT.of (s3 _ _ bn)) rfl (jEAA _ rfl (by walk_at"s") (λt ht=>?_)));have y6:=Same.new ht (.tup [.str pr.1,z]);refine nxtG hi ay (jAA (s3.trans y6) (by rw[zLA,List.length_singleton,an]) ?_);rw[zTA,show(k.parts.zip ws)[i]?=some (pr,e) from List.getElem?_zip_eq_some.mpr ⟨bd,he⟩];show RelDs _ _ (((k.parts.zip ws).take i++[(pr,e)]).map _);rw[zAP];exact((a5.same sp _).same y6 _).append (xaq _ ([]) rfl (xag t _ rfl ups _ _ rfl rfl _ (jEAA _ rfl (re.same (s1.trans (s3.trans y6)) _) rfl)) rfl)
   ·rintro zs H' ay ⟨sm,an,a5⟩ LD hD
    have bp:(k.parts.zip ws).length=k.parts.length:=by rw[List.length_zip];omega
    rw[zTL (by omega)]at a5;have y1:=Same.new hD (.lst zs);have am:RelDs H' zs (((k.parts.zip ws).map λe=>(e.1.1,e.2)).map dPr):=by rw[List.map_map];exact a5
    have a8:(((k.parts.zip ws).map λe=>(e.1.1,e.2)).map (·.1)).Nodup:=by
     rw[List.map_map];have:(k.parts.zip ws).map ((λq:Str×D=>q.1) ∘ λe=>(e.1.1,e.2))=((k.parts.zip ws).map (·.1)).map (·.1):=by rw[List.map_map];rfl
     rw[this,xg0 J.symm];exact a6
    obtain⟨bs,ae,af⟩:=xep (am.same y1 _);refine(xda LD zs (vKV bs) rfl ups ae (λdp bl=>?_));have y2:=Same.new bl (.dK (xa5 [] (vKV bs)));have a7:=af.tups λb us e=>y2 _ _ e;have s4:=sm.trans (y1.trans y2);have Y:=s1.trans s4;have a2:=tc.same Y;have b4:=s4 _ _ hc;have aa:=ah.same s4 _;have a9:upd (upd H' LD (.lst zs)) dp (.dK (xa5 [] (vKV bs))) dp=some (.dK (xa5 [] (vKV bs))):=ups;generalize upd (upd H' LD (.lst zs)) dp (.dK (xa5 [] (vKV bs)))=H4 at s4 Y a2 b4 aa a9 a7⊢;refine(xaa _ rfl sa _ _ _ rfl rfl (SqT.of a2.s) (xas (j:=0) rfl) (xb0 _ rfl _ rfl _ rfl _ rfl _ rfl (jEA _ rfl ?_)));refine(xaj fa sa wa a0 a4 (xaj r1 r2 ks ks2 c (xbg dp cs (k.parts.zip ws) _ rfl a2 b4 ?_ ?_ (by omega) (jAAA (λe he=>?_) a9 (λe he=>?_) (λai H5 s5 en=>?_)))))
    ·have:(k.parts.zip ws).map (λe=>xd0 e.1)=((k.parts.zip ws).map (·.1)).map xd0:=by rw[List.map_map];rfl
     rw[this,xg0 J.symm];exact aa
    ·have:(k.parts.zip ws).map (λe=>e.1.1)=((k.parts.zip ws).map (·.1)).map (·.1):=by rw[List.map_map];rfl
     rw[this,xg0 J.symm];exact a6
    ·obtain⟨i,az,bg⟩:=xr8 he
     exact⟨hp e.1 (zMG az),b8 i _ _ bg az⟩
    ·exact xnv (q:=(e.1.1,e.2)) a7 a8 (List.mem_map_of_mem (f:=λe:(Str×Str)×D=>(e.1.1,e.2)) he)
    have M:=Y.trans s5;refine(xaj a4 ar ai ks2 (howD k) (xak _ _ rfl (a2.k2.same s5) (hh.same M _) (en.mono (by omega)) ?_ (λu H6 s6 ru=>q u _ (M.trans s6) ru)));unfold howD;rw[if_pos U];refine .inr (.inr (.inl (xda _ _ _ (by rw[zLM];omega) (xlq J.symm λe he=>?_) rfl rfl)));exact .inl (.inr (jEA e.1.1 (xkg (q:=(e.1.1,e.2)) a8 (List.mem_map_of_mem (f:=λe:(Str×Str)×D=>(e.1.1,e.2)) he)) rfl))
  | false=>
   obtain⟨O,ac,d0,ao,rfl⟩:=xp9 wf G U aq;obtain⟨a,_,rfl,ha,v0,_,rfl,r0,v1,_,rfl,b7,v2,_,rfl,b6,rfl⟩:=hv;obtain rfl:v1=.str O.1:=b7;refine(jAEA rfl _ rfl (iteKF (zDF (by show ¬V.str k.sort=_;rw[xdh U];decide +kernel)) ?_));refine(xaa _ rfl a _ _ _ rfl rfl (SqT.of (s1 _ _ ha)) rfl ?_);refine(xaa _ rfl fa _ _ _ rfl rfl (SqT.of a3.f) (xas (j:=0) rfl) (xal _ rfl _ rfl a0 ks k.name (xam k O.1 O.2 rfl (wf.ksAt a3.k1) G (xnk a6 ac) (λH2 s2=>⟨(by walk_at"s"),λt ht=>?_⟩))));have y1:=Same.new ht (.tup [.str (Str.ofString "it"),.str O.2]);have Z:=s1.trans (s2.trans y1);have aj:=tc.same Z;have av:upd H2 t (.tup [.str (Str.ofString "it"),.str O.2]) t=some (.tup [.str (Str.ofString "it"),.str O.2]):=ups;generalize upd H2 t (.tup [.str (Str.ofString "it"),.str O.2])=H3 at Z aj av⊢;have ag:=hh.same Z _;unfold howD at ag;rw[if_neg (by rw[U];decide)]at ag;obtain⟨bo,hs,rfl,bi,bh⟩:=ag;have b0:RelDs H3 hs ((k.parts.map λp=>(p.1,tTag k.name p.1 (tBox (S "it")))).map dPr):=by rw[List.map_map];exact bh
   have ax:((k.parts.map λp=>(p.1,tTag k.name p.1 (tBox (S "it")))).map (·.1)).Nodup:=by rw[List.map_map];exact a6
   obtain⟨bs,ae,af⟩:=xep b0;refine(xaa _ rfl sa _ _ _ rfl rfl (SqT.of aj.s) (xas (j:=0) rfl) (xb3 _ rfl bo hs (vKV bs) rfl bi ⟨ae,λdq bj=>?_⟩));have y2:=Same.new bj (.dK (xa5 [] (vKV bs)));obtain⟨tv,bb,ba⟩:=xnv (q:=(O.1,tTag k.name O.1 (tBox (S "it")))) af ax (List.mem_map_of_mem (f:=λp:Str×Str=>(p.1,tTag k.name p.1 (tBox (S "it")))) ac)
   have gq:DGet (upd H3 dq (.dK (xa5 [] (vKV bs)))) dq (.str O.1) (some tv):=by
    have:=DGet.k (H:=upd H3 dq (.dK (xa5 [] (vKV bs)))) (a:=dq) (k:=Sum.inr O.1) ups;rw[bb]at this;exact this
   refine(xah _ rfl dq _ rfl gq (jEA _ rfl (jEA _ rfl (xa9 _ rfl _ rfl (by walk_at"s") (λt4 bc=>λdv b1=>?_)))));have y3:=Same.new bc (.tup [.ref t]);have y4:=Same.new b1 (.dK []);have Y:=Z.trans (y2.trans y3);refine(xaa _ rfl a _ _ _ rfl rfl (SqT.of (y4 _ _ (Y _ _ ha))) rfl (jAEA ups ([(Sum.inr (S "it"),v2)]) rfl ⟨by simp,?_⟩));rw[xfv];have y5:=Same.new b1 (.dK (xa5 [] [(Sum.inr (S "it"),v2)]));have ab:=y2.trans (y3.trans y5);have M:=Z.trans ab;refine(xaj fa sa wa a0 a4 (xaj r1 r2 ks ks2 t4 (xbg dv ([.ref t]) ([((S "it",O.2),d0)]) _ rfl (tc.same M) (y5 _ _ ups) (xaq _ ([]) rfl (xag t _ rfl (ab _ _ av) _ _ rfl rfl _ (jEAA _ rfl rfl rfl)) rfl) (by simp) (by simp) (jAAA (λe he=>?_) ups (λe he=>?_) (λai H6 s6 en=>?_)))))
   ·rw[zMO he]
    exact⟨hp O ac,ao⟩
   ·rw[zMO he]
    refine(jEA v2 ?_ (b6.same M _));exact xfu [(S "it",v2)] [] (by simp) (S "it",v2) (by simp)
   have al:=M.trans s6;refine(xaj a4 tv ai ks2 _ (xak _ _ rfl ((tc.same al).k2) (ba.same (ab.trans s6) _) (en.mono (by simp)) ?_ (λu H7 s7 ru=>q u _ (al.trans s7) ru)));refine .inr (.inr (.inr (.inr (.inl (jEEE _ _ _ (jEAA d0 (.inl (.inr (jEA (S "it") ?_ rfl))) rfl rfl))))));exact xkg (ds:=[(S "it",d0)]) (q:=(S "it",d0)) (by simp) (by simp)
theorem xfw(T:Tx K a):∀m,DefIs P w K a base (2*m+45) "turned" qaq (spTd m)
 |0=>xig (n:=44) T (λ_ _ _ _=>False) (xb8 T) (xbi T) (xc8 T (xbi T)) ((xfm T 8 100 (by omega)).mono (by omega)) (DefIs.none T.kP λ_ _ _ _ h=>h) (λj e=>by cases e)
 |m+1=>xig (n:=2*m+46) T (spTB m) (xb8 T) (xbi T) (xc8 T (xbi T)) ((xfm T 8 100 (by omega)).mono (by omega)) (xdw (n:=2*m+45) T (xco T) (xfw T m)) (λj e=>by cases e;rfl)
def xjk:Sp:=λvs H Q _=>∃(tv:V) (x:Str) (hs:List (Str×List D)) (hd:Str×List D),vs=[tv,.str x]/\RelD H tv (.tup (hs.map λe=>.tup (.str e.1::e.2)))/\hs.find? (λh=>decide (h.1=x))=some hd/\∀u,RelD H u (.tup (.str hd.1::hd.2))->Q u H
def xd3:Sp:=λvs H Q _=>∃(mv:V) (x:Str) (mk:Mak) (hd:Hand),vs=[mv,.str x]/\RelD H mv mk.d/\xdq mk x=some hd/\∀u,RelD H u hd.d->Q u H
def xk0:Sp:=λvs H Q _=>∃(mv:V) (x:Str) (mk:Mak) (c:Chn),vs=[mv,.str x]/\RelD H mv mk.d/\mk.chans.find? (λc=>decide (c.1=x))=some c/\∀u,RelD H u (dChn c)->Q u H
def ixV:Option Nat->V
 |some k=>.int (k:Nat)
 |none=>.non
def xdp(rs:List Row)(l:Str):Option Nat:=rs.findIdx? λr=>decide (xa0 r=some l)
def xen:Sp:=λvs H Q _=>∃(mv:V) (x l:Str) (mk:Mak) (hd:Hand),vs=[mv,.str x,.str l]/\RelD H mv mk.d/\xdq mk x=some hd/\hd.rows.length<=100/\∀H',Same H H'->Q (ixV (xdp hd.rows l)) H'
def xbx(mk:Mak):List (Str×Str):=mk.hands.flatMap λh=>(h.rows.filterMap xa0).map λl=>(h.name,l)
def xgp:Sp:=λvs H Q _=>∃(mv:V) (mk:Mak),vs=[mv]/\RelD H mv mk.d/\MakW mk/\∀l us H',Same H H'->H l=none->H' l=some (.lst us)->RelDs H' us ((xbx mk).map xd0)->Q (.ref l) H'
def wayD(l:Str)(hd:Hand):D:=.tup [.str l,.tup (hd.boxes.map λb=>.tup [.str b.1,tBox b.1])]
def xmv:Sp:=λvs H Q _=>∃(mv:V) (wa:Addr) (x l:Str) (ys:List Wy) (mk:Mak) (hd:Hand) (k:Nat),vs=[mv,mv,.ref wa,.str x,.str l]/\RelD H mv mk.d/\MakW mk/\xdq mk x=some hd/\xdp hd.rows l=some k/\WaysAt H wa ys/\(∀p∈hd.boxes,xc2 ys p.2=some p.2)/\∀u H',Same H H'->RelD H' u (wayD l hd)->Q u H'
structure PlaceAt(H:Hp)(kvs:List (List Key×V))(mk:Mak)(ps:List (Str×Str)):Prop where
 at_:∀p∈ps,∃v hd,valV kvs [Sum.inr p.1,Sum.inr p.2]=some v/\xdq mk p.1=some hd/\RelD H v (wayD p.2 hd)
def xjl:Sp:=λvs H Q _=>∃(mv:V) (wa ta:Addr) (ys:List Wy) (mk:Mak),vs=[mv,mv,.ref wa,.ref ta]/\RelD H mv mk.d/\MakW mk/\H ta=some (.dK [])/\WaysAt H wa ys/\(∀h∈mk.hands,∀p∈h.boxes,xc2 ys p.2=some p.2) ∧
 ∀r pa la kvs H',Same H H'->H' r=some (.tup [.ref pa,.ref la])->H' pa=some (.dT kvs)->PlaceAt H' kvs mk (xbx mk)->H' la=some (.lst [])->Q (.ref r) H'
theorem xld{b:Mak}(c:MakW b){hd:Hand}(a:hd∈b.hands):xdq b hd.name=some hd:=by
 unfold xdq
 cases e:b.hands.find? λh=>decide (h.name=hd.name) with
 |none=>exact absurd (zDT rfl) (List.find?_eq_none.mp e hd a)
 |some g=>
  have f:=of_decide_eq_true (List.find?_some (p:=λh:Hand=>decide (h.name=hd.name)) e);rw[xf9 c.hnd (zMF e) a f]
theorem xhn{a:Mak}{x:Str}{hd:Hand}(h:xdq a x=some hd):hd∈a.hands/\hd.name=x:=⟨zMF h,by
 have:=List.find?_some h;exact of_decide_eq_true this⟩
theorem hd_d{H:Hp}{u:V}{hd:Hand}(h:RelD H u hd.d):∃a c b,u=.ref a/\H a=some (.tup [.str hd.name,c,b])/\RelD H c (xdr hd.boxes)/\RelD H b (.tup (hd.rows.map Row.d)):=by
 obtain⟨a,us,e,f,_,_,rfl,rfl,c,_,rfl,i,b,_,rfl,g,rfl⟩:=h;exact(xda a c b e f i g)
theorem mk_d{H:Hp}{u:V}{b:Mak}(h:RelD H u b.d):∃a kv f c,u=.ref a/\H a=some (.tup [kv,f,c])/\RelD H kv (xdg b.kinds)/\RelD H f (.tup (b.chans.map dChn))/\RelD H c (.tup (b.hands.map Hand.d)):=by
 obtain⟨a,us,e,g,kv,_,rfl,h0,f,_,rfl,j,c,_,rfl,i,rfl⟩:=h;exact(xap a kv f c e g h0 j i)
theorem xnb{H:Hp}{u:V}{r:Row}(h:RelD H u r.d):∃a us,u=.ref a/\H a=some (.tup (.str r.hd::us))/\RelDs H us r.as:=by
 obtain⟨a,us,e,c,_,b,rfl,rfl,f⟩:=h;exact(xaq a b e c f)
theorem xlf{α β:Type}{f:α->β}{p:β->Bool}{l:List α}{a:α}(h:l.find? (λa=>p (f a))=some a):(l.map f).find? p=some (f a):=by
 rw[List.find?_map];exact congrArg (Option.map f) h
theorem mark_none{rs:List Row}{l:Str}:xdp rs l=none ↔ ∀r∈rs,xa0 r≠some l:=by
 unfold xdp;rw[List.findIdx?_eq_none_iff];exact⟨(λh r a e=>by have:=h r a;rw[zDT e]at this;cases this),λh r a=>zDF (h r a)⟩
theorem xit{rs:List Row}{l:Str}{i:Nat}{r:Row}(hn:xdp (rs.take i) l=none)(c:rs[i]?=some r):(xa0 r=some l->xdp rs l=some i)/\(xa0 r≠some l->xdp (rs.take (i+1)) l=none):=by
 have h0:=mark_none.mp hn;obtain⟨hi,e⟩:=zES c;refine⟨λh=>?_,λh=>mark_none.mpr λf a=>?_⟩
 ·unfold xdp
  rw[List.findIdx?_eq_some_iff_getElem];refine(jEA hi (by rw[e];exact zDT h) (λj g=>?_));have:=h0 rs[j] (zMG (i:=j) (by rw[List.getElem?_take,if_pos g,zGA]));rw[zDF this];decide
 ·rw[zTA,c]at a
  rcases zMA a with b |b
  ·exact h0 f b
  ·rw[zMO b];exact h
theorem xn6{rs:List Row}(nd:(rs.filterMap xa0).Nodup){l:Str}{i:Nat}{r:Row}(b:rs[i]?=some r)(c:xa0 r=some l):xdp rs l=some i:=by
 refine(xit (mark_none.mpr λf a e=>?_) b).1 c;obtain⟨hi,g⟩:=zES b
 have hs:rs=rs.take i++r::rs.drop (i+1):=by
  rw[<- g,<- List.drop_eq_getElem_cons,List.take_append_drop]
 rw[hs,List.filterMap_append,List.filterMap_cons,c]at nd;exact(List.nodup_append.mp nd).2.2 l (List.mem_filterMap.mpr (jEA f a e)) l (List.mem_cons_self ..) rfl
def hE(h:Hand):Str×List D:=(h.name,[xdr h.boxes,.tup (h.rows.map Row.d)])
def cE(c:Chn):Str×List D:=(c.1,[.str c.2.1,.str c.2.2.1,.str c.2.2.2])
theorem xk8(T:Tx K M):DefIs P w K M base (n+1) "named" qax xjk:=by
 refine DefIs.of T.jC sc_named (by walk_at"l") (λf Z A outer s H vs Q E hr h=>?_);obtain⟨tv,x,hs,hd,rfl,U,y,q⟩:=h;have nd:=sc_named.nd
 refine⟨_,(zpn (xbp PassesOwn.never rfl (xan (K:=K) rfl (pv 0)) (pgn 2 nd)
   (zpo (xax (pR xbe (px K (pv 2) pI) (pv 1) (nM _)) (zpo (xad (pv 2))) pQ)))
   (zpo (xad xca))),?_⟩
 obtain⟨a,us,rfl,C,G⟩:=U;refine(xa9 _ rfl a rfl ⟨_,SqT.of C⟩ ?_);have u:=G.length;rw[zLM]at u;refine xck (xs:=us) (λi σ m=>∃r,σ=[some (.ref a),some (.str x),r]/\m=H/\(hs.take i).find? (λh=>decide (h.1=x))=none) (jEAA none rfl rfl rfl) (λi σ m _ p=>?_) ?_ ?_
 ·obtain⟨_,_,rfl,_⟩:=p
  exact SqT.of C
 ·rintro i v σ m O ⟨r,rfl,rfl,hn⟩
  obtain⟨d,l,rd⟩:=G.get O;rw[zGM]at l;obtain⟨h',g,rfl⟩:=zMS l;have o:=rd;obtain⟨b,ws,rfl,Y,_,J,rfl,rfl,_⟩:=rd;refine(xaa _ rfl b _ _ _ rfl rfl (SqT.of Y) (xas (j:=0) rfl) (xba _ rfl rfl _ rfl (ite2 (λc=>?_) (λc=>?_))))
  ·have e:h'.1=x:=V.str.inj (of_decide_eq_true c)
   have I:=(xce hn g).1 (zDT e);rw[y]at I;cases I;exact(jEA _ rfl (q _ o))
  ·have e:¬h'.1=x:=λz=>c (zDT (congrArg V.str z))
   exact(jEAA _ rfl rfl ((xce hn g).2 (zDF e)))
 ·rintro σ m ⟨r,rfl,rfl,hn⟩
  rw[u,zTL (Nat.le_refl _),y]at hn;cases hn
theorem xma(T:Tx K c)(b:DefIs P w K c base n "named" qax xjk):DefIs P w K c base (n+1) "hand_of" qah xd3:=by
 refine DefIs.of T.jA xl3 (by walk_at"l") (λf r A outer s H vs Q E i h=>?_);obtain⟨u,x,e,hd,rfl,j,l,q⟩:=h;refine(jEA _ (zpo (xad (pd b i (pc (px K (pv 0) pI) (v1 1) ss)))) ?_);obtain⟨a,kv,y,g,rfl,m,_,_,o⟩:=mk_d j;refine(xaa _ rfl a _ _ _ rfl rfl (SqT.of m) rfl (xbh _ rfl g x (e.hands.map hE) (hE hd) (jAAA rfl ?_ (xlf (f:=hE) (p:=λh:Str×List D=>decide (h.1=x)) l) q)));rw[List.map_map];exact o
theorem xhj(T:Tx K e)(b:DefIs P w K e base n "named" qax xjk):DefIs P w K e base (n+1) "channel_of" qaw xk0:=by
 refine DefIs.of T.jB xg5 (by walk_at"l") (λf u A outer s H vs Q E i h=>?_);obtain⟨y,x,g,c,rfl,j,l,q⟩:=h;refine(jEA _ (zpo (xad (pd b i (pc (px K (pv 0) pI) (v1 1) ss)))) ?_);obtain⟨a,kv,r,z,rfl,m,_,o,_⟩:=mk_d j;refine(xaa _ rfl a _ _ _ rfl rfl (SqT.of m) rfl (xbh _ rfl r x (g.chans.map cE) (cE c) (jAAA rfl ?_ (xlf (f:=cE) (p:=λh:Str×List D=>decide (h.1=x)) l) q)));rw[List.map_map];exact o
theorem xjy(T:Tx K mg)(g:DefIs P w K mg base n "hand_of" qah xd3):DefIs P w K mg base (n+1) "mark_row" qaj xen:=by
 refine DefIs.of T.jD sc_mark_row (by walk_at"l") (λf a1 A outer s H vs Q E hr h=>?_);obtain⟨J,x,l,mk,hd,rfl,hm,hf,a0,q⟩:=h;have nd:=sc_mark_row.nd
 refine⟨_,(zpn (xbp PassesOwn.never rfl (xpf rfl T.uM (pc (px K (pd g hr (va 0 (v1 1))) pI) pN ss)) (xa3 (K:=K) rfl rfl (xac (pgn 3 nd) (xac (pgn 4 nd) xa2)))
   (zpo (xax (PW.pt (xea (pR xbe (px K (pv 4) pI) pS (nM _)) (xdj (pR xbe (px K (pv 4) pI) (pv 2) (nM _))))) (zpo (xad (pv 3))) pQ)))
   (zpo (xad xca))),?_⟩
 refine(xal _ rfl _ rfl J x mk (xb7 hd rfl hm hf (λu hu=>?_)));obtain⟨a,bv,rv,rfl,ha,_,h2⟩:=hd_d hu;obtain⟨ra,us,rfl,G,hR⟩:=h2;have hl:=hR.length;rw[zLM]at hl;refine(xbf a _ _ _ rfl rfl (SqT.of ha) rfl ra (jAA rfl ⟨_,SqT.of G⟩ ?_));refine xon (xs:=us) (λi σ m=>∃C z,σ=[some J,some (.str x),some (.str l),C,z]/\Same H m/\xdp (hd.rows.take i) l=none) (xaq none none rfl (Same.refl _) (by rw[List.take_zero];rfl)) (λi σ m _ p=>?_) ?_ ?_
 ·obtain⟨_,_,_,o,_⟩:=p
  exact SqT.of (o _ _ G)
 ·rintro i v σ m p hv ⟨C,z,rfl,o,hn⟩ hp
  have sp:=Same.new hp (.tup [.int (i:Nat),v]);obtain⟨d,I,rd⟩:=hR.get hv;rw[zGM]at I;obtain⟨r,U,rfl⟩:=zMS I;obtain⟨b,ws,rfl,hb,O⟩:=xnb rd;have M:=o.trans sp;have Y:SqT K (upd m p (.tup [.int (i:Nat),.ref b])) b (.str r.hd::ws):=SqT.of (M _ _ hb);have h0:atI (V.str r.hd::ws) 0=some (.str r.hd):=xas (j:=0) rfl;refine(xao p _ rfl (SqT.of ups) rfl _ _ rfl _ (jEAA _ rfl rfl ?_));have ms:=xit hn U;have next:xa0 r≠some l->∃C z,[some J,some (V.str x),some (.str l),some (.int (i:Nat)),some (.ref b)]=[some J,some (.str x),some (.str l),C,z]/\Same H (upd m p (.tup [.int (i:Nat),.ref b]))/\xdp (hd.rows.take (i+1)) l=none:=λh=>(xaq _ _ rfl M (ms.2 h))
  cases r with
  | take l' c y=>
   obtain⟨_,_,rfl,rfl,_,_,rfl,rfl,_,_,rfl,rfl,rfl⟩:=O;refine(xaa _ rfl b _ _ _ rfl rfl Y h0 (jAEA rfl _ rfl (iteKT (hdT rfl) ?_)));refine(xaa _ rfl b _ _ _ rfl rfl Y rfl (xba _ rfl rfl _ rfl (ite2 (λZ=>?_) (λZ=>?_))))
   ·have e:l'=l:=V.str.inj (of_decide_eq_true Z)
    subst e;have:=q _ M;rw[ms.1 rfl]at this;exact(jEA _ rfl this)
   ·exact next λe=>Z (zDT (congrArg V.str (Option.some.inj e)))
  |_=>exact(xaa _ rfl b _ _ _ rfl rfl Y h0 (jAEA rfl _ rfl (iteKF (hdF (xoj (by intro _ _ _ e;cases e))) (iteF (next (by intro e;cases e))))))
 ·rintro σ m ⟨C,z,rfl,o,hn⟩
  rw[hl,zTL (Nat.le_refl _)]at hn;have:=q _ o;rw[hn]at this;exact this
theorem xih(T:Tx K mg):DefIs P w K mg base (n+1) "places_of" ["make"] xgp:=by
 refine DefIs.of T.kG sc_places_of (by walk_at"l") (λf ai A outer s H vs Q E hr h=>?_);obtain⟨mv,g,rfl,hm,M,q⟩:=h;have nd:=sc_places_of.nd;have h4:=M.hfew
 refine⟨_,(zpn (psn 1 nd (xcg pN))
   (zpn (xbp PassesOwn.never rfl (xan (K:=K) rfl (px K (pv 0) pI)) (xa3 (K:=K) rfl rfl (xac (pgn 2 nd) (xac (pgn 3 nd) (xac (pgn 4 nd) xa2))))
   (zpo (xa1 (xds PySem.F.plainAttrs_list PySem.F.slot_list_extend PySem.F.type_list_extend xn2 (pv 1) (pc (xbm ["row","h"] [none,some 2] rfl (by kernel_rfl) (xan (K:=K) rfl (pv 4)) (λ_ _ _ _=>(pgc 0)) (λ_ _ _ _=>(xe2 (pR xbe (px K (pv 0) pI) pS (nM _)))) (λ_ _ _ _=>(xaw (va 1 (pc (px K (pv 0) pI) pN ss))))) pN xb1)))))
   (zpo (xad (pv 1))))),xaf λR1 ag=>?_⟩
 refine⟨(by walk_at"s"),λl hl=>ag _ _ (xaf λR2 af=>?_)⟩;have s0:=Same.new hl (.lst []);obtain⟨a,kv,cv,hv,rfl,ha,_,_,h2⟩:=mk_d hm;obtain⟨ae,uh,rfl,U,hR⟩:=h2;have ab:=hR.length;rw[zLM]at ab;refine(xaa _ rfl a _ _ _ rfl rfl (SqT.of (s0 _ _ ha)) rfl (jEAA ae rfl ⟨_,SqT.of (s0 _ _ U)⟩ ?_))
 have few:∀i,(xbx ⟨g.kinds,g.chans,g.hands.take i⟩).length<=8*i:=λi=>by
  unfold xbx
  induction i with
  |zero=>exact Nat.le_refl _
  | succ i ih=>
   show((g.hands.take (i+1)).flatMap _).length<=_;rw[zTA,List.flatMap_append,zLA];have ah:((g.hands.take i).flatMap λh=>(h.rows.filterMap xa0).map λl=>(h.name,l)).length<=8*i:=ih
   cases e:g.hands[i]? with
   |none=>show _+([]:List (Str×Str)).length<=_;rw[List.length_nil];omega
   |some h=>
    have h8:=(M.hok h (zMG e)).rw.len;have hf:=List.length_filterMap_le xa0 h.rows;show _+((h.rows.filterMap xa0).map (λl=>(h.name,l))++[]).length<=_;rw[List.append_nil,zLM];omega
 refine xck (xs:=uh) (λi σ I=>∃us,∃(o2 o3 o4:Option V),σ=[some (.ref a),some (.ref l),o2,o3,o4]/\SameBut l H I/\I l=some (.lst us)/\RelDs I us ((xbx ⟨g.kinds,g.chans,g.hands.take i⟩).map xd0)) (jEEE ([]) none none (xb7 none rfl s0.but ups (by rw[List.take_zero];rfl))) (λi σ I _ p=>?_) ?_ ?_
 ·obtain⟨_,_,_,_,_,Z,_⟩:=p
  exact SqT.of (Z _ _ U (neN U hl))
 ·rintro i v σ H1 hv ⟨us,o2,o3,o4,rfl,Z,C,u⟩
  have hi:i<uh.length:=(zES hv).1;have x:∀b vs,H b=some (.tup vs)->H1 b=some (.tup vs):=λb vs e=>Z _ _ e (neN e hl);obtain⟨d,a4,rd⟩:=hR.get hv;rw[zGM]at a4;obtain⟨h,hh,rfl⟩:=zMS a4;obtain⟨b,bv,rv,rfl,hb,_,a9⟩:=hd_d rd;obtain⟨ra,ur,rfl,a1,a5⟩:=a9;have a2:=a5.length;rw[zLM]at a2;have hw:=M.hok h (zMG hh);have h8:=hw.rw.len;refine(xao b _ rfl (SqT.of (x _ _ hb)) rfl _ _ rfl _ (xah _ rfl _ _ rfl rfl ?_));refine(jEAA _ rfl (.inl (jAE rfl _ (SqL.of C))) ?_);refine(xa9 _ rfl ra rfl ⟨_,SqT.of (x _ _ a1)⟩ ?_);refine xbu (xs:=ur) (λj ys I=>Same H1 I/\RelDs I ys ((((h.rows.take j).filterMap xa0).map λl=>(h.name,l)).map xd0)) ⟨Same.refl _,by rw[List.take_zero];rfl⟩ (xa6 (by omega)) (λj ys I _ p=>SqT.of (p.1 _ _ (x _ _ a1))) ?_ ?_
  ·rintro j y ys H2 hy hj O ⟨s2,m⟩
   obtain⟨d',G,a6⟩:=a5.get hy;rw[zGM]at G;obtain⟨r,aa,rfl⟩:=zMS G;obtain⟨b2,ws,rfl,ac,a7⟩:=xnb a6;have Y:SqT K H2 b2 (.str r.hd::ws):=SqT.of (s2 _ _ (x _ _ ac));have h0:atI (V.str r.hd::ws) 0=some (.str r.hd):=xas (j:=0) rfl
   have et:(h.rows.take (j+1)).filterMap xa0=(h.rows.take j).filterMap xa0++(match xa0 r with |some l=>[l] |none=>[]):=by
    rw[zTA,aa,List.filterMap_append];show _++[r].filterMap xa0=_;rw[List.filterMap_cons];cases xa0 r <;> rfl
   refine⟨ext1 rfl,?_⟩
   cases r with
   |take l' c y'=>
    obtain⟨_,_,rfl,rfl,_,_,rfl,rfl,_,_,rfl,rfl,rfl⟩:=a7;refine(xaa _ rfl b2 _ _ _ rfl rfl Y h0 (jAEA rfl _ rfl (iteKT (hdT rfl) ?_)));refine(xal _ rfl _ rfl b2 _ _ (xa7 _ rfl rfl Y rfl (by walk_at"s") (λt ht=>nxtG hj O ?_)));have st:=Same.new ht (.tup [.str h.name,.str l']);refine⟨s2.trans st,?_⟩;rw[et,zAP,zAP];exact(m.same st _).append (xaq _ _ rfl (xag t _ rfl ups _ _ rfl rfl _ (jEAA _ rfl rfl rfl)) rfl)
   |_=>
    refine(xaa _ rfl b2 _ _ _ rfl rfl Y h0 (jAEA rfl _ rfl (iteKF (hdF (xoj (by intro _ _ _ e;cases e))) (nxtN hj O ⟨s2,?_⟩))));rw[et];show RelDs H2 ys (((_++[]).map _).map _);rw[List.append_nil];exact m
  ·rintro ys H2 O ⟨s2,m⟩ D hD
   rw[a2,zTL (Nat.le_refl _)]at m;have sD:=Same.new hD (.lst ys);have J:=s2.trans sD;have a3:=J _ _ C;have a8:=u.length;rw[zLM]at a8;have hf:=few i;refine(xbd l D us ys rfl rfl a3 ups (fits (by omega)) ?_)
   have a0:∀b vs,upd H2 D (.lst ys) b=some (.tup vs)->upd (upd H2 D (.lst ys)) l (.lst (us++ys)) b=some (.tup vs):=λb vs e=>by
    rw[xai λz=>by rw[z,a3]at e;cases e];exact e
   refine(jEEE (us++ys) _ _ (xb7 _ rfl (λb o e nb=>by rw[xai nb];exact J _ _ (Z b o e nb)) ups ?_))
   have ep:xbx ⟨g.kinds,g.chans,g.hands.take (i+1)⟩=xbx ⟨g.kinds,g.chans,g.hands.take i⟩++(h.rows.filterMap xa0).map λl=>(h.name,l):=by
    unfold xbx;show(g.hands.take (i+1)).flatMap _=_;rw[zTA,hh,List.flatMap_append];show _++((h.rows.filterMap xa0).map (λl=>(h.name,l))++[])=_;rw[List.append_nil]
   rw[ep,zAP];exact((u.same J _).tups a0 _).append ((m.same sD _).tups a0 _)
 ·rintro σ H1 ⟨us,o2,o3,o4,rfl,Z,C,u⟩
  rw[zTL (show g.hands.length<=uh.length by omega)]at u;exact af _ _ (jEA _ rfl (q l us H1 (λb o e=>Z b o e (neN e hl)) hl C u))
theorem xf7(T:Tx K Z)(j:DefIs P w K Z base n "mark_row" qaj xen)(g:DefIs P w K Z base n "hand_of" qah xd3)(c:DefIs P w K Z base n "terms_by_rules" qap xem):DefIs P w K Z base (n+1) "way_by_rules" qbk xmv:=by
 refine DefIs.of T.kI sc_way_by_rules (by walk_at"l") (λf ao A outer s H vs Q E hr h=>?_);obtain⟨mv,wa,x,l,ys,mk,hd,k,rfl,hm,a0,hf,hk,hw,ab,q⟩:=h;have nd:=sc_way_by_rules.nd;obtain⟨aa,an⟩:=xhn hf;have r:=a0.hok hd aa;have h8:=r.rw.len;have h5:=r.few
 refine⟨_,(zpn (xax (pR xfd (pd j hr (va 1 (va 3 (v1 4)))) xca (nM _)) (zpo (xad xca)) pQ)
   (zpn (psn 5 nd (px K (pd g hr (va 1 (v1 3))) pI))
   (zpn (psn 6 nd (pd c hr (pc (px K (pv 1) pI) (va 2 (pc (px K (pd g hr (va 0 (v1 3))) pI) (v1 5) ss)) ss)))
   (zpn (xax (pR xfd (pv 6) xca (nM _)) (zpo (xad xca)) pQ)
   (zpo (xad (xaw (va 4 (pc (xay (xbk (K:=K) rfl) rfl T.uX PyProof.Rows.boot_tuple (pc (xbm ["new","term"] [none,none] rfl (by kernel_rfl) (xib rfl T.uY (va 5 (v1 6))) (λ_ _ _ _=>(xa3 (K:=K) (n:=2) rfl rfl (xac (pgc 0) (xac (pgc 1) xa2)))) (λ_ _ _ _=>xbl) (λ_ _ _ _=>(xaw (pc (px K (pv 0) pI) (v1 1) ss)))) pN xb1)) pN zsc))))))))),xaf λR1 aj=>?_⟩
 refine(xav _ rfl _ rfl _ rfl mv x (xam l mk hd rfl hm hf (by omega) (λH1 s1=>?_)));rw[hk];refine(jAEA rfl _ rfl (iteKF (zDF λz=>nomatch z) (aj _ _ (xaf λR2 ai=>?_))));have C:=hm.same s1 _;refine(xal _ rfl _ rfl mv x mk (xb7 hd rfl C hf (λu hu=>?_)));obtain⟨a,bv,rv,rfl,ha,O,_⟩:=hd_d hu;refine(xap a _ _ _ rfl rfl (SqT.of ha) rfl (ai _ _ (xaf λR3 ah=>?_)));obtain⟨ma,kv,cv,hv,rfl,a7,_,_,_⟩:=mk_d C;refine(xaa _ rfl ma _ _ _ rfl rfl (SqT.of a7) rfl (xav _ rfl _ rfl _ rfl _ x (xcv mk hd rfl C hf (λu2 a1=>?_))));obtain⟨a2,al,am,rfl,af,M,_⟩:=hd_d a1;refine(xbf a2 _ _ _ rfl rfl (SqT.of af) rfl _ (jAE rfl kv (xat wa al bv ys hd.boxes rfl (hw.same s1) M O r.nd (jAA (by omega) ab (λtv H2 s2 a3=>ah _ _ (xaf λR4 ag=>?_))))));obtain⟨ta,ut,rfl,G,U⟩:=a3;refine(xba _ rfl rfl _ rfl (iteKF (zDF λz=>nomatch z) (ag _ _ ?_)));obtain⟨ba,ub,rfl,ac,hB⟩:=O;have o:=s2 _ _ ac;have ak:=hB.same s2 _;have a8:=U.length;have a9:=hB.length;rw[zLM]at a8 a9;refine(xbc _ rfl _ rfl _ rfl ba ta rfl ⟨_,SqT.of o⟩ ⟨⟨_,SqT.of G⟩,?_⟩);refine xll (xs:=ub) (zs:=ut) (by omega) (λi zs Y=>Same H2 Y/\RelDs Y zs ((hd.boxes.take i).map λb=>.tup [.str b.1,tBox b.1])) ⟨Same.refl _,by rw[List.take_zero];rfl⟩ (xa6 (by omega)) (λi zs Y _ p=>⟨SqT.of (p.1 _ _ o),SqT.of (p.1 _ _ G)⟩) ?_ ?_
 ·rintro i y z zs Y pp hy hz hi J ⟨sm,m⟩ a6
  obtain⟨b2,pb,I,rfl,ae⟩:=xd4 ak hy;obtain⟨e,he,re⟩:=U.get hz;rw[zGM,I]at he;cases he;have sp:=Same.new a6 (.tup [.ref b2,z]);have s3:=sm.trans sp;refine(xao pp _ rfl (SqT.of ups) rfl _ _ rfl _ (xb7 _ rfl rfl (ext2 rfl rfl) (xdo ?_)));refine(xaa _ rfl b2 _ _ _ rfl rfl (SqT.of (s3 _ _ ae)) rfl (jEAA _ rfl (by walk_at"s") (λt ht=>nxtG hi J ?_)));have y6:=Same.new ht (.tup [.str pb.1,z]);refine⟨s3.trans y6,?_⟩;rw[zTA,I,zAP];exact(m.same (sp.trans y6) _).append (xaq _ _ rfl (xag t _ rfl ups _ _ rfl rfl _ (jEAA _ rfl (re.same (s3.trans y6) _) rfl)) rfl)
 ·rintro zs Y J ⟨sm,m⟩ D hD
  rw[zTL (by omega)]at m;refine(jEEA D zs rfl (.inl ⟨SqL.of ups,λt1 a5=>⟨(by walk_at"s"),λt2 a4=>?_⟩⟩));have y1:=Same.new hD (.lst zs);have y2:=Same.new a5 (.tup zs);have y3:=Same.new a4 (.tup [.str l,.ref t1]);have yA:=y1.trans (y2.trans y3);exact q _ _ (s1.trans (s2.trans (sm.trans yA))) (xag t2 _ rfl ups _ _ rfl rfl _ (jEAA _ rfl (xaq t1 zs rfl (y3 _ _ ups) (m.same yA _)) rfl))
theorem xj6{c:Mak}(a:MakW c){p:Str×Str}(h:p∈xbx c):∃hd k,xdq c p.1=some hd/\xdp hd.rows p.2=some k:=by
 obtain⟨hd,b,g⟩:=List.mem_flatMap.mp h;obtain⟨l,j,rfl⟩:=zMP g;obtain⟨r,f,e⟩:=List.mem_filterMap.mp j;obtain⟨i,hi⟩:=List.getElem?_of_mem f;exact(jEEA hd i (xld a b) (xn6 (a.hok hd b).rw.nd hi e))
theorem xgm(T:Tx K mg)(m:DefIs P w K mg base n "places_of" ["make"] xgp)(a:DefIs P w K mg base n "way_by_rules" qbk xmv):DefIs P w K mg base (n+1) "made_places" qa7 xjl:=by
 refine DefIs.of T.kH sc_made_places (by walk_at"l") (λf b2 A outer s H vs Q E hr h=>?_);obtain⟨mv,wa,ta,ys,x,rfl,hm,I,ag,hw,aq,q⟩:=h;have nd:=sc_made_places.nd;have hu:=xdl hr
 refine⟨_,(zpn (psn 4 nd (xay xkn rfl T.uL PyProof.Rows.boot_dict (v1 3)))
   (zpn (psn 5 nd (xcg pN))
   (zpn (xbp PassesOwn.never rfl (xcp (K:=K) rfl (pd m hr (v1 0))) (xa3 (K:=K) rfl rfl (xac (pgn 6 nd) (xac (pgn 7 nd) xa2)))
   (zpo (xax (xf4 (xdu hu (xaw (va 6 (v1 7))) (pv 4))) (zpn (psn 8 nd (pd a hr (va 0 (va 1 (va 2 (va 6 (v1 7)))))))
   (zpo (xax (pR xfd (pv 8) xca (nM _)) (zpo (xa1 (xds PySem.F.plainAttrs_list PySem.F.slot_list_append PySem.F.type_list_append xbs (pv 5) (pc (xaw (va 6 (v1 7))) pN sT)))) (zpo (xha hu (pv 4) (xaw (va 6 (v1 7))) (pv 8) rfl))))) pQ)))
   (zpo (xad (xaw (va 4 (v1 5)))))))),xaf λR1 ax=>?_⟩
 refine(xa9 _ rfl ta rfl ag (λpa U=>ax _ _ (xaf λR2 aw=>?_)));have s1:=Same.new U (.dT []);refine⟨(by walk_at"s"),λla a0=>aw _ _ (xaf λR3 av=>?_)⟩;have s2:=Same.new a0 (.lst []);have a2:=s1.trans s2;refine(xah _ rfl mv x rfl (hm.same a2 _) ⟨I,λpl us H3 s3 az J a4=>?_⟩);have C:=a2.trans s3;have M:=s3 _ _ (s2 _ _ (show upd H pa (.dT []) pa=some (.dT []) from ups));have aa:=s3 _ _ (show upd (upd H pa (.dT [])) la (.lst []) la=some (.lst []) from ups);have ac:la≠pa:=λz=>by rw[z,ups]at a0;cases a0
 have ab:pl≠pa:=λz=>by rw[z]at J;rw[M]at J;cases J
 have af:=a4.length;rw[zLM]at af
 have few:(xbx x).length<=100:=by
  have h4:=I.hfew;unfold xbx
  have:∀hs:List Hand,(∀h∈hs,h∈x.hands)->(hs.flatMap λh=>(h.rows.filterMap xa0).map λl=>(h.name,l)).length<=8*hs.length:=λhs=>by
   induction hs with
   |nil=>intro _;exact Nat.le_refl _
   |cons h hs ih=>
    intro hh;have h8:=(I.hok h (hh h (by simp))).rw.len;have hf:=List.length_filterMap_le xa0 h.rows;have:=ih λz hz=>hh z (List.mem_cons_of_mem _ hz);rw[List.flatMap_cons,zLA,zLM,List.length_cons];omega
  have:=this x.hands λ_ h=>h;omega
 refine(jEAA pl rfl ⟨_,SqL.of J⟩ ?_);refine xho (xs:=us) (λi σ H'=>∃(kvs:List (List Key×V)) (o6 o7 o8:Option V),σ=[some mv,some mv,some (.ref wa),some (.ref ta),some (.ref pa),some (.ref la),o6,o7,o8]/\(∀b o,H3 b=some o->b≠pa->H' b=some o)/\H' pa=some (.dT kvs)/\kvs.length<=i/\PlaceAt H' kvs x ((xbx x).take i)/\∀g:Str×Str,valV kvs [Sum.inr g.1,Sum.inr g.2]≠none->g∈(xbx x).take i) (xbd ([]) none none none rfl (λ_ _ e _=>e) M (Nat.le_refl _) ⟨λp hp=>by rw[List.take_zero]at hp;cases hp⟩ (λg h=>absurd rfl h)) (λi σ H' _ p=>by obtain⟨_,_,_,_,_,k,_⟩:=p;exact SqL.of (k _ _ J ab)) ?_ ?_
 ·rintro i v σ H4 hv ⟨kvs,o6,o7,o8,rfl,Y,c,ao,G,only⟩
  have hi:=(zES hv).1;obtain⟨b,p,hp,rfl,hb⟩:=xd4 a4 hv;have Z:∀b vs,H3 b=some (.tup vs)->H4 b=some (.tup vs):=λb vs e=>Y _ _ e λz=>by rw[z,M]at e;cases e
  have al:=zMG hp;obtain⟨hd,k,hf,am⟩:=xj6 I al;have et:(xbx x).take (i+1)=(xbx x).take i++[p]:=by rw[zTA,hp];rfl
  have an:=(hm.same C _).tups Z _;refine(xao b _ rfl (SqT.of (Z _ _ hb)) rfl _ _ rfl _ (jEAA _ rfl rfl ?_));refine(xa9 _ rfl _ rfl (by walk_at"s") (λt1 ai=>?_));have O:=Same.new ai (.tup [.str p.1,.str p.2]);have a7:upd H4 t1 (.tup [.str p.1,.str p.2]) t1=some (.tup (([Sum.inr p.1,Sum.inr p.2]:List Key).map kV)):=ups;refine(xah _ rfl pa (valV kvs [Sum.inr p.1,Sum.inr p.2]) rfl (DGet.t (O _ _ c) a7) ?_);have keep:∀{H':Hp},Same H4 H'->(∀b o,H3 b=some o->b≠pa->H' b=some o):=λs b o e n=>s _ _ (Y b o e n)
  cases a3:valV kvs [Sum.inr p.1,Sum.inr p.2] with
  | some v0=>
   refine(jEA _ rfl (iteF ?_));have a8:p∈(xbx x).take i:=only p (by rw[a3];exact λz=>nomatch z);refine(xbd kvs _ _ _ rfl (keep O) (O _ _ c) (by omega) ⟨λg j=>?_⟩ (λg h=>by rw[et];exact List.mem_append_left _ (only g h)))
   have a9:g∈(xbx x).take i:=by
    rw[et]at j;rcases zMA j with h |h
    ·exact h
    ·rw[zMO h];exact a8
   obtain⟨v,hd,h1,h2,h3⟩:=G.at_ g a9;exact(xaq v hd h1 h2 (h3.same O _))
  | none=>
   refine(jEA _ rfl (iteT (xaf λS1 au=>?_)));refine(xb0 _ rfl _ rfl _ rfl _ rfl _ rfl (xaj mv wa p.1 p.2 ys (xam x hd k rfl (an.same O _) I hf (jAAA am ?_ (aq hd (xhn hf).1) (λu H5 s5 a5=>au _ _ ?_)))))
   ·obtain⟨kw,aj,ae⟩:=hw
    refine(jEA kw ?_ (ae.tups λb us e=>O _ _ (Z _ _ (C _ _ e))));rcases aj with h |⟨o,h⟩
    ·exact .inl (O _ _ (Y _ _ (C _ _ h) (neN h U)))
    ·exact .inr ⟨o,O _ _ (Y _ _ (C _ _ h) (neN h U))⟩
   obtain⟨ua,ay,rfl,b1,b0⟩:=id a5;refine(xba _ rfl rfl _ rfl (iteKF (zDF λz=>nomatch z) ?_));refine(jEA _ rfl (jEA _ rfl (xa9 _ rfl _ rfl (by walk_at"s") (λt2 ah=>?_))));have y2:=Same.new ah (.tup [.str p.1,.str p.2]);have yA:=O.trans (s5.trans y2);have a6:upd H5 t2 (.tup [.str p.1,.str p.2]) t2=some (.tup (([Sum.inr p.1,Sum.inr p.2]:List Key).map kV)):=ups;refine(xaq pa _ rfl (DPut.t (yA _ _ c) a6 (xa6 (by omega))) ?_)
   have a1:∀b vs,upd H5 t2 (.tup [.str p.1,.str p.2]) b=some (.tup vs)->upd (upd H5 t2 (.tup [.str p.1,.str p.2])) pa (.dT (putK kvs [Sum.inr p.1,Sum.inr p.2] (.ref ua))) b=some (.tup vs):=λb vs e=>by
    rw[xai λz=>by rw[z,yA _ _ c]at e;cases e];exact e
   refine(xbd _ _ _ _ rfl (λb o e nb=>by rw[xai nb];exact yA _ _ (Y b o e nb)) ups ?_ ⟨λg j=>?_⟩ (λg h=>?_))
   ·have:∀(k:List Key) (v:V),(putK kvs k v).length<=kvs.length+1:=λk v=>by
     unfold putK;split
     ·rw[zLM];omega
     ·rw[zLA,List.length_singleton];omega
    have:=this [Sum.inr p.1,Sum.inr p.2] (.ref ua);omega
   ·rw[xcz]
    by_cases e:([Sum.inr g.1,Sum.inr g.2]:List Key)=[Sum.inr p.1,Sum.inr p.2]
    ·have e1:g=p:=by
      injection e with e1 e2;injection e2 with e2 _;exact Prod.ext (Sum.inr.inj e1) (Sum.inr.inj e2)
     subst e1;rw[if_pos rfl];exact(xaq _ hd rfl hf ((a5.same y2 _).tups a1 _))
    ·rw[if_neg e]
     rw[et]at j;rcases zMA j with j |j
     ·obtain⟨v,ar,h1,h2,h3⟩:=G.at_ g j
      exact(xaq v ar h1 h2 ((h3.same yA _).tups a1 _))
     ·exact absurd (by rw[zMO j]) e
   ·rw[xcz]at h
    rw[et];by_cases e:([Sum.inr g.1,Sum.inr g.2]:List Key)=[Sum.inr p.1,Sum.inr p.2]
    ·have e1:g=p:=by
      injection e with e1 e2;injection e2 with e2 _;exact Prod.ext (Sum.inr.inj e1) (Sum.inr.inj e2)
     rw[e1];exact List.mem_append_right _ (List.mem_singleton.mpr rfl)
    ·rw[if_neg e]at h
     exact List.mem_append_left _ (only g h)
 ·rintro σ H4 ⟨kvs,o6,o7,o8,rfl,Y,c,ao,G,only⟩
  rw[zTL (show(xbx x).length<=us.length by omega)]at G;refine av _ _ (xa9 _ rfl _ rfl (by walk_at"s") (λr ak=>?_));have y:=Same.new ak (.tup [.ref pa,.ref la]);refine q r pa la kvs _ (λb o e=>y _ _ (Y b o (C _ _ e) (neN e U))) ups (y _ _ c) ⟨λp hp=>?_⟩ (y _ _ (Y _ _ aa ac));obtain⟨v,hd,h1,h2,h3⟩:=G.at_ p hp;exact(xaq v hd h1 h2 (h3.same y _))
def xsm:Sp:=λvs H Q _=>∃(mv:V) (wa:Addr) (ys:List Wy) (mk:Mak),vs=[mv,mv,.ref wa]/\RelD H mv mk.d/\MakW mk/\WaysAt H wa ys/\(∀c∈mk.chans,xc2 ys c.2.2.2=some c.2.2.2)/\∀H',Same H H'->Q .non H'
structure OvAt(K:Fg)(H:Hp)(x:Addr)(mv:V)(mk:Mak)(wa:Addr):Prop where
 md:RelD H mv mk.d
 mok:MakW mk
 ways:WaysAt H wa (mk.kinds.map wyK)
 ob:∃dx fs pa lk l1 l2 kvp,H x=some (.ins (ad K "Over") dx fs)/\fs.lookup (Str.ofString "first")=some mv/\fs.lookup (Str.ofString "second")=some mv/\fs.lookup (Str.ofString "ways")=some (.ref wa)/\fs.lookup (Str.ofString "places")=some (.ref pa)/\fs.lookup (Str.ofString "lacking")=some (.ref lk)/\H pa=some (.dT kvp)/\PlaceAt H kvp mk (xbx mk)/\H lk=some (.tup [.ref l1,.ref l2])/\H l1=some (.lst [])/\H l2=some (.lst [])
def xjj(K:Fg):Sp:=λvs H Q _=>∃(x dx tw tp:Addr) (mv:V) (mk:Mak),vs=[.ref x,mv,mv,.ref tw,.ref tp]/\H x=some (.ins (ad K "Over") dx [])/\RelD H mv mk.d/\MakW mk/\H tw=some (.dK [])/\H tp=some (.dK [])/\∀wa H',SameBut x H H'->OvAt K H' x mv mk wa->Q .non H'
theorem PlaceAt.tups{H c:Hp}{kvs:List (List Key×V)}{a:Mak}{ps:List (Str×Str)}(h:PlaceAt H kvs a ps)(s:∀b vs,H b=some (.tup vs)->c b=some (.tup vs)):PlaceAt c kvs a ps:=⟨λp e=>by
 obtain⟨v,hd,i,g,f⟩:=h.at_ p e;exact(xaq v hd i g (f.tups s _))⟩
theorem OvAt.same{K:Fg}{H j:Hp}{x:Addr}{h:V}{i:Mak}{g:Addr}(o:OvAt K H x h i g)(s:Same H j):OvAt K j x h i g:=by
 obtain⟨J,fs,pa,l,n,m,a,I,G,C,z,y,w,u,r,p,f,c⟩:=o.ob;exact⟨o.md.same s _,o.mok,o.ways.same s,(xaj J fs pa l n (xak m a (s _ _ I) G C z y (jAAA w (s _ _ u) (r.tups λb vs e=>s _ _ e) (jAA (s _ _ p) (s _ _ f) (s _ _ c)))))⟩
theorem xg8{H:Hp}:∀(l:List Str),RelDs H (l.map V.str) (l.map D.str)
 |[]=>rfl
 |i::l=>(xaq _ _ rfl rfl (xg8 l))
theorem xmr(l:List Str):xej (l.map D.str)<=100:=xfs λd hd=>by
 obtain⟨i,_,rfl⟩:=zMP hd;show D.deep (.str _)<=100;unfold D.deep;decide
theorem iteN{p:Prop}[Decidable p]{A B:Prop}(a:p)(h:B):if (!decide p)=true then A else B:=by
 rw[zDT a];exact h
def chn3(c:Chn):D:=.tup [.str c.1,.str c.2.1,.str c.2.2.1]
theorem xoz(cs:List Chn):xej (cs.map chn3)<=100:=xfs λd hd=>by
 obtain⟨c,_,rfl⟩:=zMP hd;unfold chn3;simp only[D.deep,xej];decide
theorem xjz(T:Tx K mg)(o:DefIs P w K mg base n "goes_to" qaf xf2):DefIs P w K mg base (n+1) "look_fit" qag xsm:=by
 refine DefIs.of T.kQ sc_look_fit (by walk_at"l") (λf ay A outer s H vs Q E hr h=>?_);obtain⟨mv,wa,ys,G,rfl,hm,aa,hw,aj,q⟩:=h;have nd:=sc_look_fit.nd;have hu:=xdl hr;have ab:=xoh hr;have h4:=aa.hfew;have h6:=aa.cfew
 refine⟨_,(zpn (xax (pR (xhf ab) (xbm ["hand"] [none] rfl (by kernel_rfl) (xan (K:=K) rfl (px K (pv 0) pI)) (λ_ _ _ _=>(pgc 0)) (λ_ _ _ _=>xbl) (λ_ _ _ _=>(px K (pv 0) pI))) (xbm ["hand"] [none] rfl (by kernel_rfl) (xan (K:=K) rfl (px K (pv 1) pI)) (λ_ _ _ _=>(pgc 0)) (λ_ _ _ _=>xbl) (λ_ _ _ _=>(px K (pv 0) pI))) (nM _)) (zpo xbq) pQ)
   (zpn (xax (pR (xhf ab) (xbm ["channel"] [none] rfl (by kernel_rfl) (xan (K:=K) rfl (px K (pv 0) pI)) (λ_ _ _ _=>(pgc 0)) (λ_ _ _ _=>xbl) (λ_ _ _ _=>(xc6 (xol (K:=K) rfl) (pv 0) xe3 (xc9 pI)))) (xbm ["channel"] [none] rfl (by kernel_rfl) (xan (K:=K) rfl (px K (pv 1) pI)) (λ_ _ _ _=>(pgc 0)) (λ_ _ _ _=>xbl) (λ_ _ _ _=>(xc6 (xol (K:=K) rfl) (pv 0) xe3 (xc9 pI)))) (nM _)) (zpo xbq) pQ)
   (zpo (xbp PassesOwn.never rfl (xib rfl T.uY (pc (px K (pv 0) pI) (pc (px K (pv 1) pI) pN ss) ss)) (xa3 (K:=K) rfl rfl (xac (pgn 3 nd) (xac (pgn 4 nd) xa2)))
   (zpo (xax (pR xgl (pd o hr (va 2 (pc (px K (pv 3) pI) pN ss))) (px K (pv 4) pI) (nM _)) (zpn (psn 5 nd (px K (pv 3) pI))
   (zpo xbq)) pQ)))))),xaf λR1 al=>?_⟩
 obtain⟨a,kv,cv,hv,rfl,ha,_,h1,h2⟩:=mk_d hm;obtain⟨ae,uh,rfl,Y,hR⟩:=h2;obtain⟨ca,uc,rfl,l,Z⟩:=h1;have ac:=hR.length;have ai:=Z.length;rw[zLM]at ac ai
 have a9:∀{i:Nat} {y:V},uh[i]?=some y->∃(b:Addr) (z:Str) (ws:List V),(G.hands.map Hand.name)[i]?=some z/\y=.ref b/\H b=some (.tup (.str z::ws)):=λ{i y} I=>by
  obtain⟨d,hd,rd⟩:=hR.get I;rw[zGM]at hd;obtain⟨h,hh,rfl⟩:=zMS hd;obtain⟨b,bv,rv,e,J,_,_⟩:=hd_d rd;exact(xcx b h.name _ (by rw[zGM,hh];rfl) e J)
 have ax:(G.hands.map Hand.name).length=uh.length:=by rw[zLM,ac]
 refine(xaa _ rfl a _ _ _ rfl rfl (SqT.of ha) rfl (jEAA ae rfl ⟨_,SqT.of Y⟩ ?_));refine xbu (xs:=uh) (λi ys H'=>H'=H/\ys=((G.hands.map Hand.name).take i).map V.str) ⟨rfl,by rw[List.take_zero];rfl⟩ (xa6 (by omega)) (λi ys H' _ p=>by rw[p.1];exact SqT.of Y) ?_ ?_
 ·rintro i y ys H' I hi m ⟨rfl,rfl⟩
  obtain⟨b,z,ws,hz,rfl,J⟩:=a9 I;refine⟨ext1 rfl,xdo (xaa _ rfl b _ _ _ rfl rfl (SqT.of J) (xas (j:=0) rfl) (nxtG hi m ⟨rfl,?_⟩))⟩;rw[zTA,hz,zAP];rfl
 rintro aw H' au ⟨rfl,rfl⟩ D1 ag;rw[zTL (by omega)];have s1:=Same.new ag (.lst ((G.hands.map Hand.name).map V.str));have O:upd H' D1 (.lst ((G.hands.map Hand.name).map V.str)) D1=some (.lst ((G.hands.map Hand.name).map V.str)):=ups;generalize upd H' D1 (.lst ((G.hands.map Hand.name).map V.str))=H1 at s1 O⊢;refine(xaa _ rfl a _ _ _ rfl rfl (SqT.of (s1 _ _ ha)) rfl (jEAA ae rfl ⟨_,SqT.of (s1 _ _ Y)⟩ ?_));refine xbu (xs:=uh) (λi ys H'=>H'=H1/\ys=((G.hands.map Hand.name).take i).map V.str) ⟨rfl,by rw[List.take_zero];rfl⟩ (xa6 (by omega)) (λi ys H' _ p=>by rw[p.1];exact SqT.of (s1 _ _ Y)) ?_ ?_
 ·rintro i y ys ah I hi m ⟨rfl,rfl⟩
  obtain⟨b,z,ws,hz,rfl,J⟩:=a9 I;refine⟨ext1 rfl,xdo (xaa _ rfl b _ _ _ rfl rfl (SqT.of (s1 _ _ J)) (xas (j:=0) rfl) (nxtG hi m ⟨rfl,?_⟩))⟩;rw[zTA,hz,zAP];rfl
 rintro av ah ar ⟨rfl,rfl⟩ D2 af;rw[zTL (by omega)];have s2:=Same.new af (.lst ((G.hands.map Hand.name).map V.str));refine(jAA (EqS.dat (.inr (xat D1 D2 _ _ _ rfl rfl (s2 _ _ O) ups (xg8 _) ⟨xg8 _,xmr _⟩))) (jEEA _ _ rfl rfl) (jEA _ rfl (iteF (al _ _ (xaf λR2 ak=>?_)))));have C:=s1.trans s2;generalize upd ah D2 (.lst ((G.hands.map Hand.name).map V.str))=H2 at C⊢;clear s1 s2 af ag O;have a3:∀(z1 z2 z3 z4:Str),cutV [V.str z1,.str z2,.str z3,.str z4] none (some 3)=[.str z1,.str z2,.str z3]:=λ_ _ _ _=>rfl;refine(xaa _ rfl a _ _ _ rfl rfl (SqT.of (C _ _ ha)) rfl (jEAA ca rfl ⟨_,SqT.of (C _ _ l)⟩ ?_));refine xbu (xs:=uc) (λi ys r=>Same H2 r/\RelDs r ys ((G.chans.take i).map chn3)) ⟨Same.refl _,by rw[List.take_zero];rfl⟩ (xa6 (by omega)) (λi ys r _ p=>SqT.of (p.1 _ _ (C _ _ l))) ?_ ?_
 ·rintro i y ys r I hi m ⟨u,a5⟩
  obtain⟨b,c,hc,rfl,J⟩:=xd7 Z I;refine⟨ext1 rfl,xdo ?_⟩;refine(jEA _ rfl (xah _ rfl b _ rfl (SqT.of (u _ _ (C _ _ J))) ⟨(by show ¬(HT.sIx 4 0 none=0/\HT.sIx 4 4 (some 3)=4);decide),λt ht=>nxtG hi m ?_⟩));rw[a3];have st:=Same.new ht (.tup [.str c.1,.str c.2.1,.str c.2.2.1]);refine⟨u.trans st,?_⟩;rw[zTA,hc,zAP];exact(a5.same st _).append (xaq _ _ rfl (xag t _ rfl ups _ _ rfl rfl _ (xb4 _ rfl rfl _ _ rfl rfl rfl)) rfl)
 rintro U H3 aq ⟨s3,a1⟩ D3 an;rw[zTL (by omega)]at a1;have a8:=Same.new an (.lst U);have x:=C.trans (s3.trans a8);have a2:upd H3 D3 (.lst U) D3=some (.lst U):=ups;have M:=a1.same a8 _;generalize upd H3 D3 (.lst U)=H4 at x a2 M⊢;refine(xaa _ rfl a _ _ _ rfl rfl (SqT.of (x _ _ ha)) rfl (jEAA ca rfl ⟨_,SqT.of (x _ _ l)⟩ ?_));refine xbu (xs:=uc) (λi ys r=>Same H4 r/\RelDs r ys ((G.chans.take i).map chn3)) ⟨Same.refl _,by rw[List.take_zero];rfl⟩ (xa6 (by omega)) (λi ys r _ p=>SqT.of (p.1 _ _ (x _ _ l))) ?_ ?_
 ·rintro i y ys r I hi m ⟨u,a5⟩
  obtain⟨b,c,hc,rfl,J⟩:=xd7 Z I;refine⟨ext1 rfl,xdo ?_⟩;refine(jEA _ rfl (xah _ rfl b _ rfl (SqT.of (u _ _ (x _ _ J))) ⟨(by show ¬(HT.sIx 4 0 none=0/\HT.sIx 4 4 (some 3)=4);decide),λt ht=>nxtG hi m ?_⟩));rw[a3];have st:=Same.new ht (.tup [.str c.1,.str c.2.1,.str c.2.2.1]);refine⟨u.trans st,?_⟩;rw[zTA,hc,zAP];exact(a5.same st _).append (xaq _ _ rfl (xag t _ rfl ups _ _ rfl rfl _ (xb4 _ rfl rfl _ _ rfl rfl rfl)) rfl)
 rintro a6 H5 ao ⟨s5,a0⟩ D5 am;rw[zTL (by omega)]at a0;have a7:=Same.new am (.lst a6);have a4:=s5.trans a7;have g:=x.trans a4;refine(jAA (EqS.dat (.inr (xat D3 D5 _ _ _ rfl rfl (a4 _ _ a2) ups (M.same a4 _) ⟨a0.same a7 _,xoz _⟩))) (jEEA _ _ rfl rfl) (jEA _ rfl (iteF (ak _ _ ?_))));generalize upd H5 D5 (.lst a6)=H6 at g⊢;refine(xaa _ rfl a _ _ _ rfl rfl (SqT.of (g _ _ ha)) rfl (xaa _ rfl a _ _ _ rfl rfl (SqT.of (g _ _ ha)) rfl (xcv ca ca rfl ⟨_,SqT.of (g _ _ l)⟩ ⟨_,SqT.of (g _ _ l)⟩ ?_)));refine xkd (xs:=uc) (ys:=uc) rfl (λi σ r=>∃o3 o4,σ=[some (.ref a),some (.ref a),some (.ref wa),o3,o4,none]/\Same H6 r) (jEEA none none rfl (Same.refl _)) (λi σ r _ p=>by obtain⟨_,_,_,u⟩:=p;exact⟨SqT.of (u _ _ (g _ _ l)),SqT.of (u _ _ (g _ _ l))⟩) ?_ ?_
 ·rintro i y z σ r p I hz ⟨o3,o4,rfl,u⟩ hp
  rw[I]at hz;cases hz;obtain⟨b,c,hc,rfl,J⟩:=xd7 Z I;have sp:=Same.new hp (.tup [.ref b,.ref b]);have sA:=g.trans (u.trans sp);refine(xao p _ rfl (SqT.of ups) rfl _ _ rfl _ (jEAA _ rfl rfl ?_));refine(xal _ rfl _ rfl b _ _ (xcy _ rfl rfl (SqT.of (sA _ _ J)) rfl (xcx wa ys c.2.2.2 rfl (hw.same sA) ?_)));rw[aj c (zMG hc)];exact(xaa _ rfl b _ _ _ rfl rfl (SqT.of (sA _ _ J)) rfl (jAEA rfl _ rfl (iteN (by rfl) (jEEA _ _ rfl (u.trans sp)))))
 ·rintro σ r ⟨o3,o4,rfl,u⟩
  exact q _ (g.trans u)
theorem xiq(T:Tx K mg)(ai:Sp)(y:DefIs P w K mg base n "made_ways" qa6 xm2)(G:DefIs P w K mg base n "look_ways" qag xm3)(I:DefIs P w K mg base n "look_fit" qag xsm)(r:DefIs P w K mg base n "look_place" qbr ai)(a:DefIs P w K mg base n "made_places" qa7 xjl):MethIs P w K mg base (n+1) (ad K "Over") "__init__" qbg [[]] (xjj K):=by
 refine MethIs.of T.u4 sc_Over_init (λvs H Q E h=>?_) (λf bb A outer s H vs Q E hr h=>?_)
 ·obtain⟨_,_,_,_,_,_,rfl,_⟩:=h
  rfl
 obtain⟨x,dx,tw,tp,mv,g,rfl,hx,hm,J,al,a9,q⟩:=h;have nd:=sc_Over_init.nd;have cl:=T.u0.cl;have no:=T.u0.no;have wf:=J.wf;have few:=wf.few;obtain⟨ma,kv,cv,hv,rfl,a4,hk,_,_⟩:=mk_d hm
 have kl:∀k∈g.kinds,k.name.length<=100:=λk hk=>by
  have h2:=(wf.nm k hk).le;rw[Array.length_toList]at h2;exact Nat.le_trans h2 (by decide)
 have U:∀k∈g.kinds,kAt g.kinds k.name=some k:=λk hk=>xpv wf.nd hk
 refine⟨_,(zpn (psn 5 nd (pd y hr (va 1 (va 2 (v1 3)))))
   (zpn (xa1 (pd G hr (va 1 (va 2 (pc (px K (pv 5) pI) pN ss)))))
   (zpn (xa1 (pd I hr (va 1 (va 2 (pc (px K (pv 5) pI) pN ss)))))
   (zpn (xg9 (xbp PassesOwn.never rfl (xpe (pv 4)) (xa3 (K:=K) rfl rfl (xac (pgn 6 nd) (xac (pgn 7 nd) xa2)))
   (zpo (xa1 (pd r hr (va 1 (va 2 (pc (px K (pv 5) pI) (pc (px K (pv 6) pI) (pc (px K (pv 6) pI) (v1 7) ss) ss) ss))))))))
   (zpn (psn 8 nd (pd a hr (va 1 (va 2 (pc (px K (pv 5) pI) (v1 4) ss)))))
   (zpn (xh9 (pv 0) (pv 1) rfl)
   (zpn (xh9 (pv 0) (pv 2) rfl)
   (zpn (xh9 (pv 0) (px K (pv 5) pI) rfl)
   (zpn (xh9 (pv 0) (px K (pv 8) pI) rfl)
   (zpo (xh9 (pv 0) (xaw (pc (px K (pv 5) pI) (pc (px K (pv 8) pI) pN ss) ss)) rfl))))))))))),xaf λR1 b1=>?_⟩
 refine(xav _ rfl _ rfl _ rfl ma ma (xaj tw kv kv _ _ (xam g.kinds g.kinds (λ_=>true) rfl a4 a4 al (jAAA hk wf (wf.ksAt hk) (jAA (λk aq=>?_) (λi k hi _ p hp=>?_) (λrr wa la kvs H1 s1 b9 b8 ba a3 a8 ak ao=>b1 _ _ (xaf λR2 b0=>?_)))))))
 ·rw[if_pos rfl];exact U k aq
 ·rcases wf.ref i k hi p hp with h |⟨j,k',h1,h2,h3⟩
  ·exact .inl h
  ·exact .inr (xcv j k' h1 h2 h3 rfl)
 have b5:g.kinds.filter (λ_=>true)=g.kinds:=List.filter_eq_self.mpr λ_ _=>rfl;have b6:g.kinds.filter (λ_=>!true)=[]:=List.filter_eq_nil_iff.mpr λ_ _ h=>by cases h
 have Y:WAll H1 kvs (g.kinds.map wyK):=by
  have:=ak;rw[show(g.kinds.filter λk=>(λ_=>true) k.name)=g.kinds from b5]at this;exact this
 have ag:H1 la=some (.lst []):=by
  have:=ao;rw[show(g.kinds.filter λk=>!(λ_=>true) k.name)=[] from b6]at this;exact this
 refine(xav _ rfl _ rfl _ rfl rr _ (xcb _ _ rfl rfl (SqT.of a3) rfl (xaj ma ma wa kv kv (xat _ _ kvs g.kinds g.kinds rfl (s1 _ _ a4) (s1 _ _ a4) (hk.same s1 _) wf (jAAA (wf.ksAt (hk.same s1 _)) kl U (jAA a8 Y (λH2 s2=>b0 _ _ (xaf λR3 az=>?_))))))));have aa:=s1.trans s2;have M:WaysAt H2 wa (g.kinds.map wyK):=(jEA kvs (.inl (s2 _ _ a8)) (Y.tups λb us e=>s2 _ _ e));have b2:∀c∈g.chans,xc2 (g.kinds.map wyK) c.2.2.2=some c.2.2.2:=λc hc=>xka wf (J.ckin c hc);have b3:∀h∈g.hands,∀p∈h.boxes,xc2 (g.kinds.map wyK) p.2=some p.2:=λh hh p hp=>xka wf ((J.hok h hh).kin p hp);refine(xav _ rfl _ rfl _ rfl rr _ (xcb _ _ rfl rfl (SqT.of (s2 _ _ a3)) rfl (xbd _ wa _ g rfl (hm.same aa _) J M b2 (λH3 s3=>az _ _ (xaf λR4 ay=>?_)))));have O:=aa.trans s3;refine(xah _ rfl tp ([]) rfl (O _ _ a9) (λo nz=>?_));have b7:R4=R4:=rfl;refine(jEA (λi m σ H'=>i=0/\σ=[some (.ref x),some (.ref ma),some (.ref ma),some (.ref tw),some (.ref tp),some (.ref rr),none,none,none]/\H'=upd H3 tp (.frz o (.dK []))) (jEAA 0 rfl rfl rfl) ?_);rintro i m' σ H' ⟨rfl,rfl,rfl⟩;refine .inl ⟨⟨ups,Nat.le_refl _⟩,?_⟩;refine(xcx tp o ([]) ups nz ?_);rw[xfv]
 have e3:upd H3 tp (.dK [])=H3:=by
  funext b
  by_cases e:b=tp
  ·rw[e,ups];exact(O _ _ a9).symm
  ·rw[xai e]
 rw[e3];refine ay _ _ (xaf λR5 ax=>?_);have a0:=s2.trans s3;refine(xav _ rfl _ rfl _ rfl rr _ (xcb _ _ rfl rfl (SqT.of (a0 _ _ a3)) rfl (xbh _ rfl _ wa tp _ (xa7 g rfl (hm.same O _) J (O _ _ a9) (M.same s3) ⟨b3,λpr pa a2 aj H4 s4 ac an am af=>ax _ _ (xaf λR6 aw=>?_)⟩))));have a1:=O.trans s4;have a7:=a1 _ _ hx;have a6:=(a0.trans s4) _ _ a3;have ae:=(a0.trans s4) _ _ ag;refine(xal _ rfl _ rfl x _ _ (xa7 _ rfl a7 cl (no _ (by simp)) (by decide) (aw _ _ (xaf λR7 av=>?_))));refine(xal _ rfl _ rfl x _ _ (xa7 _ rfl ups cl (no _ (by simp)) (Nat.lt_of_le_of_lt (xbj _ _ _) (by decide)) (av _ _ (xaf λR8 au=>?_))));rw[xfv]
 have b4:∀(o:HO) b u,H4 b=some u->(∀C d f,u≠.ins C d f)->upd H4 x o b=some u:=λo b u e n=>by
  rw[xai λz=>by rw[z,a7]at e;exact n _ _ _ (Option.some.inj e).symm];exact e
 have nT:∀{vs:List V} C d f,HO.tup vs≠.ins C d f:=λC d f e=>by cases e
 refine(xaa _ rfl rr _ _ _ rfl rfl (SqT.of (b4 _ _ _ a6 nT)) rfl (xaa _ rfl x _ _ _ rfl ups cl (no _ (by simp)) ⟨Nat.lt_of_le_of_lt (Nat.le_trans (xbj _ _ _) (Nat.succ_le_succ (xbj _ _ _))) (by decide),au _ _ (xaf λR9 ar=>?_)⟩));rw[xfv];refine(xaa _ rfl pr _ _ _ rfl rfl (SqT.of (b4 _ _ _ ac nT)) rfl (xaa _ rfl x _ _ _ rfl ups cl (no _ (by simp)) ⟨Nat.lt_of_le_of_lt (Nat.le_trans (xbj _ _ _) (Nat.succ_le_succ (Nat.le_trans (xbj _ _ _) (Nat.succ_le_succ (xbj _ _ _))))) (by decide),ar _ _ ?_⟩));rw[xfv];refine(xaa _ rfl rr _ _ _ rfl rfl (SqT.of (b4 _ _ _ a6 nT)) rfl (xaa _ rfl pr _ _ _ rfl rfl (SqT.of (b4 _ _ _ ac nT)) rfl ⟨(by walk_at"s"),λlk a5=>?_⟩));have sL:=Same.new a5 (.tup [.ref la,.ref a2]);refine(xaa _ rfl x _ _ _ rfl (sL _ _ ups) cl (no _ (by simp)) ⟨Nat.lt_of_le_of_lt (Nat.le_trans (xbj _ _ _) (Nat.succ_le_succ (Nat.le_trans (xbj _ _ _) (Nat.succ_le_succ (Nat.le_trans (xbj _ _ _) (Nat.succ_le_succ (xbj _ _ _))))))) (by decide),?_⟩)
 have ab:lk≠x:=λz=>by
  rw[z,ups]at a5;cases a5
 have Z:H4 lk=none:=by
  have e:=a5;rw[xai ab]at e;exact e
 have bA:∀(o:HO) b u,H4 b=some u->(∀C d f,u≠.ins C d f)->∀o',upd (upd (upd H4 x o) lk (.tup [.ref la,.ref a2])) x o' b=some u:=λo b u e n o'=>by
  have nb:b≠x:=λz=>by rw[z,a7]at e;exact n _ _ _ (Option.some.inj e).symm
  rw[xai nb,xai (λz=>by rw[z,Z]at e;cases e),xai nb];exact e
 have bT:∀(o o':HO) b vs,H4 b=some (.tup vs)->upd (upd (upd H4 x o) lk (.tup [.ref la,.ref a2])) x o' b=some (.tup vs):=λo o' b vs e=>bA o b _ e nT o';have ah:=a0.trans s4;refine q wa _ (λb u e nb=>?_) ⟨(hm.same a1 _).tups (bT _ _) _,J,(jEA kvs (.inl (bA _ _ _ (ah _ _ a8) (λ_ _ _ e=>by cases e) _)) (Y.tups λb us e=>bT _ _ _ _ (ah _ _ e))),(xaj dx _ pa lk la (xak a2 aj ups ?_ ?_ ?_ ?_ (jAAA ?_ (bA _ _ _ an (λ_ _ _ e=>by cases e) _) (am.tups λb vs e=>bT _ _ _ _ e) (jAA ?_ (bA _ _ _ ae (λ_ _ _ e=>by cases e) _) (bA _ _ _ af (λ_ _ _ e=>by cases e) _)))))⟩
 ·rw[xai nb,xai (λz=>by rw[z]at e;rw[a1 _ _ e]at Z;cases Z),xai nb]
  exact a1 _ _ e
 ·rw[xa4,if_neg (by walk_at"k"),xa4,if_neg (by walk_at"k"),xa4,if_neg (by walk_at"k"),xa4,if_neg (by walk_at"k"),xa4,if_pos rfl]
 ·rw[xa4,if_neg (by walk_at"k"),xa4,if_neg (by walk_at"k"),xa4,if_neg (by walk_at"k"),xa4,if_pos rfl]
 ·rw[xa4,if_neg (by walk_at"k"),xa4,if_neg (by walk_at"k"),xa4,if_pos rfl]
 ·rw[xa4,if_neg (by walk_at"k"),xa4,if_pos rfl]
 ·rw[xa4,if_pos rfl]
 ·rw[xai ab,ups]
def xmz:Sp:=λvs H Q _=>∃(mv:V) (x:Str) (st:Addr) (k:Nat) (dv:V) (mk:Mak) (hd:Hand) (r:Row),vs=[mv,.str x,.ref st]/\RelD H mv mk.d/\xdq mk x=some hd/\H st=some (.tup [.int k,dv])/\hd.rows[k]?=some r/\∀u,RelD H u r.d->Q u H
def xqb(K:Fg):Sp:=λvs H Q _=>∃(o:Addr) (x:Str) (rv mv:V) (mk:Mak) (wa:Addr) (hd:Hand) (k:Nat) (r:Row),vs=[.ref o,.str x,rv]/\OvAt K H o mv mk wa/\xdq mk x=some hd/\hd.rows[k]?=some r/\RelD H rv r.d/\∀H',Same H H'->Q (.bl (xa0 r).isSome) H'
def spBr(K:Fg):Sp:=λvs H Q _=>∃(o:Addr) (x:Str) (st:Addr) (mv:V) (mk:Mak) (wa:Addr) (hd:Hand) (k:Nat) (r:Row) (da:Addr) (kvs:List (Key×V)) (es:List ((Str×Str)×D)),vs=[.ref o,.str x,.ref st]/\OvAt K H o mv mk wa/\xdq mk x=some hd/\hd.rows[k]?=some r/\H st=some (.tup [.int k,.ref da])/\H da=some (.dK kvs)/\(es.map λe=>e.1)=hd.boxes/\(∀e∈es,Vk mk.kinds e.1.2 e.2)/\(∀e∈es,∃v,valV kvs (Sum.inr e.1.1:Key)=some v/\RelD H v e.2) ∧
 ((xa0 r=none->∀H',Same H H'->Q .non H')/\(∀l,xa0 r=some l->∀t dp kv2 H',Same H H'->H' t=some (.tup [.int k,.ref dp])->H' dp=some (.dK kv2)->kv2.length=es.length->(∀p∈kv2,∃e∈es,p.1=Sum.inr e.1.1/\RelD H' p.2 e.2)->Q (.ref t) H'))
def spLO(K:Fg):Sp:=λvs H Q _=>∃(o:Addr) (x:Str) (v mv:V) (mk:Mak) (wa:Addr) (c:Chn) (d:D),vs=[.ref o,.str x,v]/\OvAt K H o mv mk wa/\mk.chans.find? (λc=>decide (c.1=x))=some c/\RelD H v d/\Vk mk.kinds c.2.2.2 d/\∀u H',Same H H'->RelD H' u d->Q u H'
theorem RelDs.nth{H:Hp}{vs:List V}{ds:List D}(h:RelDs H vs ds){i:Nat}{d:D}(e:ds[i]?=some d):∃v,vs[i]?=some v/\RelD H v d:=by
 have c:=h.length;obtain⟨hi,_⟩:=zES e;have a:vs[i]?=some (vs[i]'(by omega)):=zGA _;obtain⟨d',b,r⟩:=h.get a;rw[e]at b;cases b;exact(jEA _ a r)
theorem xg7{r:Row}{l:Str}(h:xa0 r=some l):r.hd=S "take"/\∃ds,r.as=.str l::ds:=by
 cases r with
 |take a c x=>cases h;exact(jAE rfl _ rfl)
 |_=>cases h
theorem xh8{r:Row}(h:xa0 r=none):r.hd≠S "take":=by
 cases r with
 |take a c x=>cases h
 |set _ _=>exact(by walk_at"k":S "set"≠S "take")
 |send _ _=>exact(by walk_at"k":S "send"≠S "take")
 |tell _=>exact(by walk_at"k":S "tell"≠S "take")
 |go _=>exact(by walk_at"k":S "go"≠S "take")
 |cond _ _=>exact(by walk_at"k":S "if"≠S "take")
 |fin=>exact(by walk_at"k":S "end"≠S "take")
theorem xk4{b:Mak}{x:Str}{hd:Hand}{k:Nat}{r:Row}{l:Str}(e:xdq b x=some hd)(c:hd.rows[k]?=some r)(h:xa0 r=some l):(x,l)∈xbx b:=by
 obtain⟨a,rfl⟩:=xhn e;exact List.mem_flatMap.mpr (jEA hd a (List.mem_map.mpr (jEA l (List.mem_filterMap.mpr (jEA r (zMG c) h)) rfl)))
theorem NV.fro{H:Hp}:∀{bs:List (Str×V)} {ds:List (Str×D)},NV H bs ds->∀b∈bs,∃q∈ds,b.1=q.1/\RelD H b.2 q.2
 |[],[],_,q,a=>nomatch a
 | b::bs,f::ds,h,q,a=>by
  rcases zMC a with rfl |a
  ·exact(jEA f (by simp) h.1)
  ·obtain⟨c,g,e⟩:=NV.fro h.2 q a
   exact(jEA c (by simp[g]) e)
theorem xsa{bs:List (Str×V)}(h:(bs.map (·.1)).Nodup):xa5 [] (vKV bs)=vKV bs:=xps (by
 unfold vKV;rw[List.map_map];exact List.pairwise_map.mpr ((List.pairwise_map.mp h).imp λh z=>h (Sum.inr.inj z)))
theorem xnt(T:Tx K j)(b:DefIs P w K j base n "hand_of" qah xd3):DefIs P w K j base (n+1) "row_at" qa9 xmz:=by
 refine DefIs.of T.kN xna (by walk_at"l") (λf O A outer s H vs Q E z h=>?_);obtain⟨m,x,st,k,U,o,hd,r,rfl,C,I,c,G,q⟩:=h;refine(jEA _ (zpo (xad (px K (px K (pd b z (va 0 (v1 1))) pI) (px K (pv 2) pI)))) ?_);refine(xal _ rfl _ rfl m x o (xb7 hd rfl C I (λu y=>?_)));obtain⟨a,Y,g,rfl,J,_,l,us,rfl,e,M⟩:=hd_d y;obtain⟨v,p,g⟩:=RelDs.nth M (i:=k) (by rw[zGM,G];rfl);refine(xbf a _ _ _ rfl rfl (SqT.of J) rfl _ (jAE rfl st (xam _ _ _ rfl rfl (SqT.of c) rfl (xap l _ _ _ rfl rfl (SqT.of e) (xas p) (q _ g)))))
theorem xj0(T:Tx K G):DefIs P w K G base (n+1) "is_place" qba (xqb K):=by
 refine DefIs.of T.kR xjq (by walk_at"l") (λf a1 A outer s H vs Q E O h=>?_);obtain⟨o,x,rv,mv,mk,wa,hd,k,r,rfl,C,Z,Y,i,q⟩:=h;have J:=xdl O;obtain⟨dx,fs,pa,lk,l1,l2,I,U,f1,f2,f3,f4,f5,m,e,_⟩:=C.ob;have cl:=T.u0.cl;have no:=T.u0.no;obtain⟨a,us,rfl,p,b⟩:=xnb i;refine(jEA _ (zpo (xad (xk6 (xeh xbe (px K (pv 2) pI) pS (nM _)) (xk5 (xs6 (xni J (xaw (va 1 (pc (px K (pv 2) pI) pN ss))) (xfb (pv 0) rfl))))))) ?_);refine(xaa _ rfl a _ _ _ rfl rfl (SqT.of p) (xas (j:=0) rfl) (jAEA rfl _ rfl ?_))
 cases c:xa0 r with
 |none=>
  rw[c]at q;refine iteKF (zDF λz=>xh8 c (V.str.inj z)) (q _ (Same.refl _))
 |some l=>
  rw[c]at q;obtain⟨e1,ds,e2⟩:=xg7 c;rw[e2]at b;obtain⟨_,u,rfl,rfl,_⟩:=b;refine iteKT (zDT (congrArg V.str e1)) ?_;refine(xal _ rfl _ rfl a _ _ (xa7 _ rfl rfl (SqT.of p) (xas (j:=1) rfl) (by walk_at"s") (λt M=>?_)));have y:=Same.new M (.tup [.str x,.str l]);have g:upd H t (.tup [.str x,.str l]) t=some (.tup (([Sum.inr x,Sum.inr l]:List Key).map kV)):=ups;obtain⟨v,a0,h1,_,_⟩:=e.at_ (x,l) (xk4 Z Y c);refine(xbh _ rfl o _ _ _ (xa7 _ rfl (y _ _ U) cl (no _ (by simp)) f4 (xaq pa _ rfl (DGet.t (y _ _ m) g) ?_)));rw[h1];exact q _ y
theorem xmb(T:Tx K mg)(J:DefIs P w K mg base n "row_at" qa9 xmz)(z:DefIs P w K mg base n "hand_of" qah xd3)(g:DefIs P w K mg base n "mark_row" qaj xen)(m:DefIs P w K mg base n "is_place" qba (xqb K))(c:DefIs P w K mg base n "turned_boxes" qar (spTB 6))(M:DefIs P w K mg base n "worth" qaa (xdi (λks=>Ev ks 8) 100)):DefIs P w K mg base (n+1) "brought" qbb (spBr K):=by
 refine DefIs.of T.kS sc_brought (by walk_at"l") (λf bi A outer s H vs Q E hr h=>?_);obtain⟨o,x,st,mv,mk,wa,hd,k,r,da,kvs,es,rfl,ov,hf,hk,ak,b1,I,aq,af,q1,q2⟩:=h;have nd:=sc_brought.nd;have hu:=xdl hr;obtain⟨dx,fs,pa,lk,l1,l2,be,ho,f1,f2,f3,f4,f5,av,ao,_⟩:=ov.ob;have cl:=T.u0.cl;have no:=T.u0.no;have a9:=ov.mok;have wf:=a9.wf;obtain⟨ax,bg⟩:=xhn hf;have C:=a9.hok hd ax;have h5:=C.few;have bh:es.length=hd.boxes.length:=by rw[<- I,zLM]
 refine⟨_,(zpn (psn 3 nd (pd J hr (pc (xdt (K:=K) rfl (pv 0) rfl) (va 1 (v1 2)) xb5)))
   (zpn (xax (xk3 (xnc (pd m hr (va 0 (va 1 (v1 3)))))) (zpo (xad xca)) pQ)
   (zpn (psn 4 nd (xcm hu (xdt (K:=K) rfl (pv 0) rfl) (xaw (va 1 (pc (px K (pv 3) pI) pN ss))) (λ_ _=>rfl)))
   (zpn (psn 5 nd (pd c hr (pc (xdt (K:=K) rfl (pv 0) rfl) (pc (xdt (K:=K) rfl (pv 0) rfl) (pc (xdt (K:=K) rfl (pv 0) rfl) (pc (px K (pd z hr (pc (xdt (K:=K) rfl (pv 0) rfl) (v1 1) xb5)) pI) (pc (px K (pv 2) pI) pN ss) ss) xb5) xb5) xb5)))
   (zpn (psn 6 nd (xay (xd8 rfl) rfl T.uL PyProof.Rows.boot_dict (pc (xbm ["x","term","boxes","over"] [none,none,some 5,some 0] rfl (by kernel_rfl) (xan (K:=K) rfl (px K (pv 4) pI)) (λ_ _ _ _=>(xa3 (K:=K) (n:=2) rfl rfl (xac (pgc 0) (xac (pgc 1) xa2)))) (λ_ _ _ _=>xbl) (λ_ _ _ _=>(xaw (va 0 (pc (pd M hr (pc (px K (xdt (K:=K) rfl (pv 3) rfl) pI) (va 1 (v1 2)) ss)) pN zsc))))) pN xb1)))
   (zpo (xad (xaw (pc (pd g hr (pc (xdt (K:=K) rfl (pv 0) rfl) (va 1 (pc (px K (pv 4) pI) pN ss)) xb5)) (v1 6) zsc))))))))),xaf λR1 b9=>?_⟩
 refine(xbh _ rfl o _ _ _ (xa7 _ rfl ho cl (no _ (by simp)) f1 (xal _ rfl _ rfl mv x st (xat k (.ref da) mk hd r rfl ov.md hf ak hk (λrv al=>b9 _ _ (xaf λR2 b8=>?_))))));refine(xav _ rfl _ rfl _ rfl o x (xaj rv mv mk wa hd (xak k r rfl ov hf hk al (λH1 s1=>?_))))
 cases hm:xa0 r with
 |none=>exact(jEA _ rfl (iteT (q1 hm _ s1)))
 | some l=>
  refine(jEA _ rfl (iteF (b8 _ _ (xaf λR3 b7=>?_))));obtain⟨e1,ds,e2⟩:=xg7 hm;obtain⟨a,us,rfl,ha,ag⟩:=xnb (al.same s1 _);rw[e2]at ag;obtain⟨_,bc,rfl,rfl,_⟩:=ag;refine(xbh _ rfl o _ _ _ (xa7 _ rfl (s1 _ _ ho) cl (no _ (by simp)) f4 ?_));refine(xal _ rfl _ rfl a _ _ (xa7 _ rfl rfl (SqT.of ha) (xas (j:=1) rfl) (by walk_at"s") (λt ht=>?_)));have y:=Same.new ht (.tup [.str x,.str l]);have aj:upd H1 t (.tup [.str x,.str l]) t=some (.tup (([Sum.inr x,Sum.inr l]:List Key).map kV)):=ups;obtain⟨v,a6,g1,g2,g3⟩:=ao.at_ (x,l) (xk4 hf hk hm);rw[hf]at g2;cases g2;have gg:=DGet.t (y _ _ (s1 _ _ av)) aj;rw[g1]at gg;have s2:=s1.trans y;generalize upd H1 t (.tup [.str x,.str l])=H2 at gg s2⊢;clear y ht aj;refine(xaq pa v rfl gg (b7 _ _ (xaf λR4 b6=>?_)));have wv:=g3.same s2 _;obtain⟨a7,_,rfl,ae,_,_,rfl,rfl,tv,_,rfl,ar,rfl⟩:=wv;have U:=ov.same s2;have G:=s2 _ _ ho;obtain⟨ma,kv,cv,bf,rfl,a4,a5,_,_⟩:=mk_d U.md;refine(xbh _ rfl o _ _ _ (xa7 _ rfl G cl (no _ (by simp)) f1 (xbh _ rfl o _ _ _ (xa7 _ rfl G cl (no _ (by simp)) f2 (xbh _ rfl o _ _ _ (xa7 _ rfl G cl (no _ (by simp)) f3 ?_))))));refine(xbh _ rfl o _ _ _ (xa7 _ rfl G cl (no _ (by simp)) f1 (xbh _ rfl _ x mk hd (jAAA rfl U.md hf (λu hu=>?_)))));obtain⟨b4,bv,bd,rfl,ay,b2,_⟩:=hd_d hu;obtain⟨ba,ub,rfl,b3,hB⟩:=b2;refine(xbf b4 _ _ _ rfl rfl (SqT.of ay) rfl _ (jAE rfl st (xam _ _ _ rfl rfl (SqT.of (s2 _ _ ak)) rfl ?_)))
  refine(xaj ma ma wa kv kv (xaj _ _ mk.kinds mk.kinds ba (xbg da ub es kvs rfl ⟨a4,a4,a5,wf,wf.ksAt a5,U.ways⟩ b3 ?_ ?_ (by omega) (jAAA (λe Z=>⟨C.kin e.1 (by rw[<- I];exact List.mem_map_of_mem Z),aq e Z⟩) (s2 _ _ b1) (λe Z=>?_) (λdp H3 s3 en=>b6 _ _ (xaf λR5 b5=>?_))))))
  ·have e:(es.map λe=>xd0 e.1)=hd.boxes.map xd0:=by
    rw[<- I,List.map_map];rfl
   rw[e];exact hB
  ·have:=C.nd
   rw[<- I,List.map_map]at this;exact this
  ·obtain⟨v,h1,h2⟩:=af e Z
   exact(jEA v h1 (h2.same s2 _))
  have ac:=s3 _ _ ae;have ah:=ar.same s3 _;obtain⟨ta,ut,rfl,ai,hT⟩:=ah;have au:=hT.length;rw[zLM]at au
  have a0:((es.map λe=>(e.1.1,e.2)).map (·.1)).Nodup:=by
   have:=C.nd;rw[<- I,List.map_map]at this;rw[List.map_map];exact this
  refine(xaa _ rfl a7 _ _ _ rfl rfl (SqT.of ac) rfl (jEAA ta rfl ⟨_,SqT.of ai⟩ ?_));refine xbu (xs:=ut) (λi zs H4=>Same H3 H4/\zs.length=i/\RelDs H4 zs ((es.take i).map λe=>dPr (e.1.1,e.2))) (jAA (Same.refl _) rfl rfl) (xa6 (by omega)) (λi zs H4 _ p=>SqT.of (p.1 _ _ ai)) ?_ ?_
  ·rintro i y zs H4 hy hi am ⟨sm,ab,Y⟩
   obtain⟨d,a6,rd⟩:=(hT.same sm _).get hy;rw[<- I,List.map_map,zGM]at a6;obtain⟨e,Z,rfl⟩:=zMS a6;have az:=zMG Z;obtain⟨b,ws,rfl,hb,_,_,rfl,rfl,tm,_,rfl,an,rfl⟩:=rd;have a2:=s3.trans sm;refine(xao b _ rfl (SqT.of hb) rfl _ _ rfl _ (xb7 _ rfl rfl (ext2 rfl rfl) (xdo ?_)));refine(xal _ rfl _ rfl o _ _ (xak _ _ rfl (a2 _ _ G) cl (no _ (by simp)) f2 (xbf ma _ _ _ rfl rfl (SqT.of (a2 _ _ a4)) rfl _ (jAEA rfl _ rfl ?_))));have bb:=en.same sm;refine(xaj kv tm dp mk.kinds _ (xak _ e.2 rfl (wf.ksAt (a5.same a2 _)) an ?_ (.inl (.inr (jEA e.1.1 (xkg a0 (q:=(e.1.1,e.2)) (List.mem_map.mpr (jEA e az rfl))) rfl))) (λu H5 s5 ru=>⟨(by walk_at"s"),λt ht=>?_⟩)))
   ·obtain⟨kvs,z1,z2,z3⟩:=bb
    exact(jEAA kvs z1 (by omega) z3)
   have y6:=Same.new ht (.tup [.str e.1.1,u]);refine nxtG hi am (jAA (sm.trans (s5.trans y6)) (by rw[zLA,List.length_singleton,ab]) ?_);rw[zTA,Z];show RelDs _ _ ((es.take i++[e]).map _);rw[zAP];exact((Y.same s5 _).same y6 _).append (xaq _ ([]) rfl (xag t _ rfl ups _ _ rfl rfl _ (jEAA _ rfl (ru.same y6 _) rfl)) rfl)
  rintro zs H4 am ⟨sm,ab,Y⟩ D hD;rw[zTL (by omega)]at Y;have y1:=Same.new hD (.lst zs);have aa:RelDs H4 zs ((es.map λe=>(e.1.1,e.2)).map dPr):=by rw[List.map_map];exact Y
  obtain⟨bs,hp,hn⟩:=xep (aa.same y1 _);refine(xda D zs (vKV bs) rfl ups hp (λdq b0=>b5 _ _ ?_));have y2:=Same.new b0 (.dK (xa5 [] (vKV bs)));have aw:(bs.map (·.1)).Nodup:=by rw[hn.names];exact a0
  have a3:=hn.tups λb us e=>y2 _ _ e;have a1:upd (upd H4 D (.lst zs)) dq (.dK (xa5 [] (vKV bs))) dq=some (.dK (vKV bs)):=by rw[ups,xsa aw]
  have a8:=sm.trans (y1.trans y2);generalize upd (upd H4 D (.lst zs)) dq (.dK (xa5 [] (vKV bs)))=H5 at a3 a1 a8⊢;have O:=s3.trans a8;have s5:=s2.trans O;have h8:=C.rw.len;refine(xbh _ rfl o _ _ _ (xa7 _ rfl (O _ _ G) cl (no _ (by simp)) f2 (xal _ rfl _ rfl a7 _ _ (xcy _ rfl rfl (SqT.of (O _ _ ae)) rfl (xb2 _ x l mk hd rfl (U.md.same O _) hf (by omega) (λH6 s6=>?_))))));rw[xn6 C.rw.nd hk hm];refine(jEAA _ rfl (by walk_at"s") (λt ht=>?_));have y6:=Same.new ht (.tup [.int (k:Nat),.ref dq]);refine q2 l hm t dq (vKV bs) _ (s5.trans (s6.trans y6)) ups (y6 _ _ (s6 _ _ a1)) ?_ λp hp=>?_
  ·have h2:=congrArg List.length a3.names
   rw[zLM,zLM,zLM]at h2;unfold vKV;rw[zLM];exact h2
  ·obtain⟨b,hb,rfl⟩:=zMP hp
   obtain⟨qq,hq,e1,e2⟩:=a3.fro b hb;obtain⟨e,Z,rfl⟩:=zMP hq;exact(jEAA e Z (congrArg Sum.inr e1) ((e2.same s6 _).same y6 _))
theorem xgn(T:Tx K r)(a:DefIs P w K r base n "channel_of" qaw xk0)(e:DefIs P w K r base n "turned" qaq (spTd 6)):DefIs P w K r base (n+1) "letter_over" qas (spLO K):=by
 refine DefIs.of T.kT xgk (by walk_at"l") (λf a1 A outer s H vs Q E G h=>?_);obtain⟨o,x,v,mv,p,O,c,d,rfl,g,J,hv,y,q⟩:=h;obtain⟨dx,fs,pa,lk,l1,l2,Y,l,M,f2,f3,f4,f5,a0,U,_⟩:=g.ob;have m:=T.u0.cl;have no:=T.u0.no;have i:=g.mok;have z:=i.wf;obtain⟨C,kv,cv,Z,rfl,j,I,_,_⟩:=mk_d g.md;refine(jEA _ (zpo (xad (pd e G (pc (xfb (pv 0) rfl) (pc (xfb (pv 0) rfl) (pc (xfb (pv 0) rfl) (pc (px K (pd a G (pc (xfb (pv 0) rfl) (v1 1) xb5)) pI) (v1 2) ss) xb5) xb5) xb5)))) ?_);refine(xbh _ rfl o _ _ _ (xa7 _ rfl l m (no _ (by simp)) M (xbh _ rfl o _ _ _ (xa7 _ rfl l m (no _ (by simp)) f2 (xbh _ rfl o _ _ _ (xa7 _ rfl l m (no _ (by simp)) f3 ?_))))));refine(xbh _ rfl o _ _ _ (xa7 _ rfl l m (no _ (by simp)) M (xbh _ rfl _ x p c (jAAA rfl g.md J (λu hu=>?_)))));obtain⟨b,ws,rfl,hb,_,_,rfl,rfl,_,_,rfl,rfl,_,_,rfl,rfl,_,_,rfl,rfl,rfl⟩:=hu;refine(xbf b _ _ _ rfl rfl (SqT.of hb) rfl _ (jAE rfl C (xaj C O kv kv _ (xaj _ p.kinds p.kinds c.2.2.2 v (xa7 d rfl ⟨j,j,I,z,z.ksAt I,g.ways⟩ (i.ckin c (zMF J)) hv y q)))))
def xmy(K:Fg):Sp:=λvs H Q _=>∃(r o:Addr) (p q:Int) (mv:V) (mk:Mak) (wa:Addr),vs=[.ref r,.ref o,mv]/\H r=some (.lst [.int p,.int q])/\OvAt K H o mv mk wa/\mk.hands≠[]/\mk.chans≠[]/\∀H',Fed r H H'->Q (.bl true) H'
theorem OvAt.keep{K:Fg}{H l:Hp}{x:Addr}{n:V}{r:Mak}{m:Addr}(o:OvAt K H x n r m)(k:∀b u,H b=some u->(∀p q:Int,u≠.lst [.int p,.int q])->l b=some u):OvAt K l x n r m:=by
 obtain⟨dx,fs,pa,s,y,w,c,Z,Y,U,O,M,J,I,G,C,j,i⟩:=o.ob;have a:∀b vs,H b=some (.tup vs)->l b=some (.tup vs):=λb vs e=>k _ _ e λ_ _ z=>nomatch z;refine⟨o.md.tups a _,o.mok,?_,(xaj dx fs pa s y (xak w c (k _ _ Z (λ_ _ z=>nomatch z)) Y U O M (jAAA J (k _ _ I (λ_ _ z=>nomatch z)) (G.tups a) (jAA (a _ _ C) (k _ _ j (λ_ _ z=>nomatch z)) (k _ _ i (λ_ _ z=>nomatch z))))))⟩;obtain⟨kw,g,f⟩:=o.ways;refine(jEA kw ?_ (f.tups a));rcases g with h |⟨o,h⟩
 ·exact .inl (k _ _ h λ_ _ z=>nomatch z)
 ·exact .inr ⟨o,k _ _ h λ_ _ z=>nomatch z⟩
theorem xfr{r:Addr}{H a:Hp}(c:∃p q:Int,H r=some (.lst [.int p,.int q]))(f:Fed r H a):∀b u,H b=some u->(∀p q:Int,u≠.lst [.int p,.int q])->a b=some u:=λb u e n=>f.1 b u e λz=>by
 obtain⟨p,q,h⟩:=c;rw[z,h]at e;exact n p q (Option.some.inj e).symm
theorem xnn(T:Tx K mg)(a:DefIs P w K mg base n "_law_take" qac xdb)(g:DefIs P w K mg base n "_law_value" qav (xeo 6))(M:DefIs P w K mg base n "brought" qbb (spBr K))(x:DefIs P w K mg base n "letter_over" qas (spLO K)):DefIs P w K mg base (n+1) "_law_stays" qbq (xmy K):=by
 refine DefIs.of T.uI scl_stays (by walk_at"l") (λf d6 A outer s H vs Q E hr h=>?_);obtain⟨r,o,p,q0,mv,mk,wa,rfl,J,ov,c0,cne,q⟩:=h;have nd:=scl_stays.nd;have hu:=xdl hr;have av:=xoh hr;have C:=ov.mok;have wf:=C.wf;have h4:=C.hfew;have h6:=C.cfew;have co:0<mk.hands.length:=List.length_pos_iff.mpr c0;have cr:0<mk.chans.length:=List.length_pos_iff.mpr cne;have few:=wf.few;obtain⟨ma,kv,cv,hv,rfl,a1,b3,c7,c6⟩:=mk_d ov.md;obtain⟨ha,uh,rfl,b6,hR⟩:=c6;obtain⟨ca,uc,rfl,b8,bc⟩:=c7;have c1:=hR.length;have c4:=bc.length;rw[zLM]at c1 c4
 refine⟨_,(zpn (psn 3 nd (px K (px K (pv 2) pI) (pd a hr (va 0 (pc (xau (xae (K:=K) rfl) rfl T.uP PySem.boot_len (pc (px K (pv 2) pI) pN ss)) pN zsc)))))
   (zpn (psn 4 nd (pd a hr (va 0 (pc (xau (xae (K:=K) rfl) rfl T.uP PySem.boot_len (pc (px K (pv 3) pI) pN ss)) pN zsc))))
   (zpn (psn 5 nd xhd)
   (zpn (xbp PassesOwn.never rfl (xan (K:=K) rfl (px K (pv 3) pI)) (xa3 (K:=K) rfl rfl (xac (pgn 6 nd) (xac (pgn 7 nd) xa2)))
   (zpo (xha hu (pv 5) (pv 6) (pd g hr (va 0 (pc (px K (pv 2) pI) (v1 7) ss))) rfl)))
   (zpn (psn 8 nd xca)
   (zpn (xax (pR xbe (px K (px K (px K (pv 3) pI) (pv 4)) pI) pS (nM _)) (zpo (psn 8 nd (xaw (va 4 (pc (xay xe9 rfl T.uL PyProof.Rows.boot_dict (v1 5)) pN zsc))))) pQ)
   (zpn (xax (pR (xrf av) (pd M hr (va 1 (pc (px K (pv 3) pI) (pc (xaw (va 4 (v1 5))) pN sT) ss))) (pv 8) (nM _)) (zpo (xad xl5)) pQ)
   (zpn (xeb (px K (px K (pv 2) pI) (pd a hr (va 0 (pc (xau (xae (K:=K) rfl) rfl T.uP PySem.boot_len (pc (px K (pv 2) pI) pN ss)) pN zsc)))) (xa3 (K:=K) rfl rfl (xac (pgn 9 nd) (xac (pgn 10 nd) (xac (pgn 11 nd) (xac (pgn 7 nd) xa2))))))
   (zpn (psn 12 nd (pd g hr (va 0 (pc (px K (pv 2) pI) (v1 7) ss))))
   (zpo (xad (xeh (xta av) (pd x hr (va 1 (va 9 (v1 12)))) (pv 12) (nM _))))))))))))),xaf λR1 cm=>?_⟩
 refine(xaa _ rfl ma _ _ _ rfl rfl (SqT.of a1) rfl (xal _ rfl _ rfl ma _ _ (xcy _ rfl rfl (SqT.of a1) rfl (xaq ha _ rfl (.inr (SqT.of b6)) (xap r p q0 _ rfl J (by omega) (by omega) (λt1 H1 d0 cz f1=>?_))))));have d2:=xfr (jEE p q0 J) f1;have a8:∀b vs,H b=some (.tup vs)->H1 b=some (.tup vs):=xar (jEE p q0 J) f1;obtain⟨j1,rfl⟩:∃j:Nat,t1=(j:Int):=⟨t1.toNat,by omega⟩;obtain⟨hd,b5⟩:∃hd,mk.hands[j1]?=some hd:=⟨mk.hands[j1]'(by omega),zGA _⟩;obtain⟨u1,bp,bi⟩:=RelDs.nth hR (i:=j1) (by rw[zGM,b5];rfl);refine(xap ha _ _ _ rfl rfl (SqT.of (a8 _ _ b6)) (xas bp) (cm _ _ (xaf λR2 cl=>?_)));have b4:=zMG b5;have hf:=xld C b4;have a0:=C.hok hd b4;have h8:=a0.rw.len;have d4:=a0.rw.pos;have h5:=a0.few;obtain⟨hb,bv,rv,rfl,aa,c9,bt⟩:=hd_d (bi.tups a8 _);obtain⟨ba,ub,rfl,b9,hB⟩:=c9;obtain⟨ra,ur,rfl,aw,bb⟩:=bt;have c5:=hB.length;have c3:=bb.length;rw[zLM]at c5 c3;obtain⟨p1,q1,az⟩:=f1.2;refine(xal _ rfl _ rfl hb _ _ (xcy _ rfl rfl (SqT.of aa) rfl (xaq ra _ rfl (.inr (SqT.of aw)) (xap r p1 q1 _ rfl az (by omega) (by omega) (λt2 H2 cy cx f2=>cl _ _ (xaf λR3 ck=>?_))))));have bn:∀b vs,H1 b=some (.tup vs)->H2 b=some (.tup vs):=xar (jEE p1 q1 az) f2;obtain⟨j2,rfl⟩:∃j:Nat,t2=(j:Int):=⟨t2.toNat,by omega⟩;obtain⟨Y,af⟩:∃Y,hd.rows[j2]?=some Y:=⟨hd.rows[j2]'(by omega),zGA _⟩;have an:=f1.trans f2;obtain⟨p2,q2,bw⟩:=an.2;refine λI a4=>ck _ _ (xaf λR4 cj=>?_);have y3:=Same.new a4 (.dK [])
 have Z:∀b vs,H1 b=some (.tup vs)->upd H2 I (.dK []) b=some (.tup vs):=λb vs e=>y3 _ _ (bn _ _ e);have dr:I≠r:=λz=>by rw[z,bw]at a4;cases a4
 have ai:H I=none:=by
  cases e:H I with
  |none=>rfl
  |some u=>rw[an.1 _ _ e dr]at a4;cases a4
 have bf:Fed r H (upd H2 I (.dK [])):=xhq an ai dr;have ak:upd H2 I (.dK []) I=some (.dK []):=ups;generalize upd H2 I (.dK [])=H3 at Z bf ak⊢;clear y3;refine(xaa _ rfl hb _ _ _ rfl rfl (SqT.of (Z _ _ aa)) rfl (jEAA ba rfl ⟨_,SqT.of (Z _ _ b9)⟩ ?_))
 refine xck (xs:=ub) (λi σ H'=>∃(kvs:List (Key×V)) (es:List ((Str×Str)×D)) (o6 o7:Option V),σ=[some (.ref r),some (.ref o),some (.ref ma),some (.ref hb),some (.int j2),some (.ref I),o6,o7,none,none,none,none,none]/\Fed r H H'/\(∀b vs,H3 b=some (.tup vs)->H' b=some (.tup vs))/\H' I=some (.dK kvs)/\es.map (·.1)=hd.boxes.take i/\kvs.length=i/\(∀y:Str,valV kvs (Sum.inr y:Key)≠none->y∈(hd.boxes.take i).map (·.1))/\(∀e∈es,∃v,valV kvs (Sum.inr e.1.1:Key)=some v/\RelD H' v e.2)/\∀e∈es,Vk mk.kinds e.1.2 e.2)
  (xbg ([]) ([]) none none rfl bf (λ_ _ e=>e) ak rfl rfl (jAA (λy h=>absurd rfl h) (λ_ h=>nomatch h) (λ_ h=>nomatch h))) (λi σ H' _ p=>by obtain⟨_,_,_,_,_,_,k,_⟩:=p;exact SqT.of (k _ _ (Z _ _ b9))) ?_ ?_
 ·rintro i v σ H4 hv ⟨kvs,es,o6,o7,rfl,f4,a7,U,a2,b2,only,G,a9⟩
  have hi:=(zES hv).1;obtain⟨b,pb,b0,rfl,cc⟩:=xd4 hB hv;have m:∀b vs,H1 b=some (.tup vs)->H4 b=some (.tup vs):=λb vs e=>a7 _ _ (Z _ _ e);have a3:∀b vs,H b=some (.tup vs)->H4 b=some (.tup vs):=λb vs e=>m _ _ (a8 _ _ e);have bz:=zMG b0;obtain⟨p4,q4,ay⟩:=f4.2;refine(xao b _ rfl (SqT.of (m _ _ cc)) rfl _ _ rfl _ (jEAA _ rfl rfl ?_));refine(xal _ rfl _ rfl ma _ _ (xbt _ rfl rfl (SqT.of (a3 _ _ a1)) rfl _ rfl (xaj r kv p4 q4 mk.kinds (xa7 pb.2 rfl ay (b3.tups a3 _) wf (a0.kin pb bz) (λu d H5 f5 ru aq=>?_)))));have ao:∀b vs,H4 b=some (.tup vs)->H5 b=some (.tup vs):=xar (jEE p4 q4 ay) f5;have aj:=f5.1 _ _ U dr
  have al:∀b vs,H5 b=some (.tup vs)->upd H5 I (.dK (putK kvs (Sum.inr pb.1) u)) b=some (.tup vs):=λb vs e=>by
   rw[xai λz=>by rw[z,aj]at e;cases e];exact e
  have et:hd.boxes.take (i+1)=hd.boxes.take i++[pb]:=by rw[zTA,b0];rfl
  have ag:valV kvs (Sum.inr pb.1:Key)=none:=by
   cases e:valV kvs (Sum.inr pb.1:Key) with
   |none=>rfl
   |some z=>
    have h1:=only pb.1 (by rw[e];exact λz=>nomatch z);have h2:=a0.nd;have hs:hd.boxes=hd.boxes.take (i+1)++hd.boxes.drop (i+1):=(List.take_append_drop ..).symm;rw[hs,et,zAP,zAP]at h2;have h3:=(List.nodup_append.mp (List.nodup_append.mp h2).1).2.2 pb.1 h1 pb.1 (by simp);exact absurd rfl h3
  refine(jEA _ rfl (xah _ rfl I _ rfl (DPut.k (k:=Sum.inr pb.1) aj (xa6 (by omega))) ?_));refine(xbg _ (es++[(pb,d)]) _ _ rfl (xhq (f4.trans f5) ai dr) (λb vs e=>al _ _ (ao _ _ (a7 _ _ e))) ups ?_ ?_ (jAA (λy hy=>?_) (λe he=>?_) (λe he=>?_)))
  ·rw[zAP,a2,et]
   rfl
  ·rw[xpa _ ag,zLA,List.length_singleton,b2]
  ·rw[xcz]at hy
   rw[et,zAP];by_cases e:(Sum.inr y:Key)=Sum.inr pb.1
   ·exact List.mem_append_right _ (by rw[Sum.inr.inj e];simp)
   ·rw[if_neg e]at hy
    exact List.mem_append_left _ (only y hy)
  ·rw[xcz]
   by_cases ee:(Sum.inr e.1.1:Key)=Sum.inr pb.1
   ·rw[if_pos ee]
    rcases zMA he with h |h
    ·exfalso
     obtain⟨v',h1,_⟩:=G e h;rw[ee,ag]at h1;cases h1
    ·rw[zMO h]
     exact(jEA _ rfl (ru.tups al _))
   ·rw[if_neg ee]
    rcases zMA he with h |h
    ·obtain⟨v',h1,h2⟩:=G e h
     exact(jEA v' h1 ((h2.tups ao _).tups al _))
    ·exact absurd (by rw[zMO h]) ee
  ·rcases zMA he with h |h
   ·exact a9 e h
   ·rw[zMO h]
    exact aq
 ·rintro σ H4 ⟨kvs,es,o6,o7,rfl,f4,a7,U,a2,b2,only,G,a9⟩
  rw[zTL (show hd.boxes.length<=ub.length by omega)]at a2 only;have d5:es.length=hd.boxes.length:=by rw[<- a2,zLM]
  have m:∀b vs,H1 b=some (.tup vs)->H4 b=some (.tup vs):=λb vs e=>a7 _ _ (Z _ _ e);have a3:∀b vs,H b=some (.tup vs)->H4 b=some (.tup vs):=λb vs e=>m _ _ (a8 _ _ e);have bj:=ov.keep (xfr (jEE p q0 J) f4);refine cj _ _ (xaf λR5 ci=>?_);refine ci _ _ (xaf λR6 ch=>?_)
  have rest:∀(dv:V) (H5:Hp),Same H4 H5->((xa0 Y=none/\dv=.non)\/∃l t dq,xa0 Y=some l/\dv=.ref t/\H5 t=some (.tup [.int j2,.ref dq])/\H5 dq=some (.dK kvs))->R6 [some (.ref r),some (.ref o),some (.ref ma),some (.ref hb),some (.int j2),some (.ref I),o6,o7,some dv,none,none,none,none] H5:=λdv H5 s5 ah=>ch _ _ (xaf λR7 cg=>by
   have ac:∀H6,Same H5 H6->R7 [some (.ref r),some (.ref o),some (.ref ma),some (.ref hb),some (.int j2),some (.ref I),o6,o7,some dv,none,none,none,none] H6:=λH6 s6=>cg _ _ (xaf λR8 cf=>by
    have f6:Fed r H H6:=f4.same (s5.trans s6);have d1:=xfr (jEE p q0 J) f6;have a6:∀b vs,H b=some (.tup vs)->H6 b=some (.tup vs):=xar (jEE p q0 J) f6;obtain⟨p6,q6,ax⟩:=f6.2;refine(xaa _ rfl ma _ _ _ rfl rfl (SqT.of (a6 _ _ a1)) rfl (xal _ rfl _ rfl ma _ _ (xcy _ rfl rfl (SqT.of (a6 _ _ a1)) rfl (xaq ca _ rfl (.inr (SqT.of (a6 _ _ b8))) (xap r p6 q6 _ rfl ax (by omega) (by omega) (λt3 H7 cw cu f7=>?_))))));have bm:∀b vs,H6 b=some (.tup vs)->H7 b=some (.tup vs):=xar (jEE p6 q6 ax) f7;obtain⟨j3,rfl⟩:∃j:Nat,t3=(j:Int):=⟨t3.toNat,by omega⟩;obtain⟨u3,au⟩:∃u,uc[j3]?=some u:=⟨uc[j3]'(by omega),zGA _⟩;obtain⟨b,c,hc,rfl,cb⟩:=xd7 bc au;have ab:=zMG hc
    have c8:mk.chans.find? (λc'=>decide (c'.1=c.1))=some c:=by
     cases e:mk.chans.find? λc'=>decide (c'.1=c.1) with
     |none=>exact absurd (zDT rfl) (List.find?_eq_none.mp e c ab)
     |some c2=>
      have h1:=of_decide_eq_true (List.find?_some (p:=λc':Chn=>decide (c'.1=c.1)) e);rw[xf9 C.cnd (zMF e) ab h1]
    have O:∀b vs,H b=some (.tup vs)->H7 b=some (.tup vs):=λb vs e=>bm _ _ (a6 _ _ e);refine(xbf ca _ _ _ rfl rfl (SqT.of (O _ _ b8)) (xas au) b (xb7 _ rfl (SqT.of (O _ _ cb)) rfl (jEEA _ _ rfl (jEEA _ _ rfl (jEEA _ _ rfl (xaq _ _ rfl rfl (cf _ _ (xaf λR9 ce=>?_))))))));have be:=f6.trans f7;obtain⟨p7,q7,bu⟩:=be.2;refine(xal _ rfl _ rfl ma _ _ (xbt _ rfl rfl (SqT.of (O _ _ a1)) rfl _ rfl (xaj r kv p7 q7 mk.kinds (xa7 c.2.2.2 rfl bu (b3.tups O _) wf (C.ckin c ab) (λu d H8 f8 ru ae=>ce _ _ ?_)))));have bd:=be.trans f8;have b7:=xg1 wf 6 _ _ (C.ckin c ab) ae;refine(xav _ rfl _ rfl _ rfl o c.1 (xaj u _ mk wa c (xa7 d rfl (ov.keep (xfr (jEE p q0 J) bd)) c8 ru ae (λu2 H9 s9 bh=>?_))));exact(xa9 _ rfl d bh (ru.same s9 _) ⟨by omega,q _ (bd.same s9)⟩))
   refine(xal _ rfl _ rfl hb _ _ (xbt _ rfl rfl (SqT.of (s5 _ _ (m _ _ aa))) rfl _ rfl (jEAA _ rfl (by walk_at"s") (λst br=>?_))));have y5:=Same.new br (.tup [.int j2,.ref I]);have s6:=s5.trans y5;refine(xaj o hd.name st _ mk (xaj wa hd j2 Y I (xak kvs es rfl (bj.same s6) hf af ups (jAAA (s6 _ _ U) a2 a9 (jAA (λe he=>?_) (λhm H7 s7=>?_) (λl hm t dp bl H7 s7 ht b7 cp b1=>?_))))))
   ·obtain⟨v',h1,h2⟩:=G e he
    exact(jEA v' h1 (h2.same s6 _))
   ·refine(jEA _ rfl (.inl (jAA rfl ?_ (jEA _ rfl (iteF (ac _ (y5.trans s7)))))))
    rcases ah with⟨_,h⟩ |⟨l,_,_,h,_⟩
    ·exact h
    ·rw[hm]at h;cases h
   ·rcases ah with⟨h,_⟩ |⟨l',t',dq,h,rfl,bq,am⟩
    ·rw[hm]at h;cases h
    have a5:=y5.trans s7;refine(jEA _ rfl (.inr (jAA (.inr (.inl (xap t t' _ _ rfl rfl (.inl ⟨ht,a5 _ _ bq⟩) rfl (λi u z hu hz=>?_)))) (jEEA _ _ rfl rfl) (jEA _ rfl (iteF (ac _ a5))))))
    match i with
    |0=>
     cases hu;cases hz;exact EqS.dat (.inl (jEAA (.int j2) rfl rfl (by unfold D.deep;decide)))
    |1=>
     cases hu;cases hz;refine .inr (.inr (xbd dp dq bl kvs rfl rfl b7 (a5 _ _ am) (by omega) (λpp bx=>?_)));obtain⟨e,he,e1,e2⟩:=b1 pp bx;obtain⟨v',g1,g2⟩:=G e he;have cq:=xg1 wf 6 _ _ (a0.kin e.1 (by rw[<- a2];exact List.mem_map_of_mem he)) (a9 e he);exact(jEA v' (by rw[e1];exact g1) (.inl (jEAA e.2 e2 (g2.same (s5.trans a5) _) (by omega))))
    |j+2=>cases hu)
  obtain⟨vr,bo,bg⟩:=RelDs.nth bb (i:=j2) (by rw[zGM,af];rfl);obtain⟨ar,us,rfl,cd,d3⟩:=xnb (bg.tups m _);refine(xaa _ rfl hb _ _ _ rfl rfl (SqT.of (m _ _ aa)) rfl (xaa _ rfl ra _ _ _ rfl rfl (SqT.of (m _ _ aw)) (xas bo) (xbd ar _ _ _ rfl rfl (SqT.of cd) (xas (j:=0) rfl) rfl (jEA _ rfl ?_))))
  cases hm:xa0 Y with
  |none=>exact iteKF (zDF λz=>xh8 hm (V.str.inj z)) (rest .non H4 (Same.refl _) (.inl ⟨hm,rfl⟩))
  |some l=>
   refine iteKT (zDT (congrArg V.str (xg7 hm).1)) ?_;refine(jEA _ rfl (xah _ rfl I kvs rfl U (λdq am=>⟨(by walk_at"s"),λt ht=>?_⟩)));have z1:=Same.new am (.dK kvs);have z2:=Same.new ht (.tup [.int j2,.ref dq]);exact rest _ _ (z1.trans z2) (.inr (xda l t dq hm rfl ups (z2 _ _ ups)))
def spLaw(K:Fg):Sp:=λvs H Q _=>∃(a:Addr) (ns:List Int),vs=[.ref a]/\SqL K H a (ns.map V.int)/\ns.length<=63/\∀H',Q (.bl true) H'
theorem xrj{a h:Hp}{C x f:Addr}(g:a x=none)(c:a f=none)(s:SameBut x (upd (upd a f (.own x)) x (.ins C f [])) h):Same a h:=λb o e=>s b o (by
 rw[xai (neN e g),xai (neN e c)];exact e) (neN e g)
theorem xtb(T:Tx K J)(e:DefIs P w K J base (n+1) "_law_names" qbm xm0)(g:DefIs P w K J base (n+1) "_law_make" qbe (xm1 K))(l:DefIs P w K J base (n+1) "_law_feed" qat (xkz K))(m:MethIs P w K J base n (ad K "Over") "__init__" qbg [[]] (xjj K))(o:DefIs P w K J base (n+1) "goes_to" qaf xf2)(c:DefIs P w K J base (n+1) "_law_stays" qbq (xmy K)):DefIs P w K J base (n+2) "law" ["_law_script"] (spLaw K):=by
 refine DefIs.of T.uJ sc_law (by walk_at"l") (λf b5 A outer s H vs Q E G h=>?_);obtain⟨a,ns,rfl,hS,a3,k⟩:=h;have nd:=sc_law.nd;have hu:=xdl G;have a9:=xoh G
 refine⟨_,(zpn (psn 1 nd pI)
   (zpn (xax (pR xf5 (xau (xae (K:=K) rfl) rfl T.uP PySem.boot_len (v1 0)) pI (nM _)) (zpo (psn 1 nd (pxl K (pv 0) pI))) pQ)
   (zpn (psn 2 nd (pd g G (va 0 (pc pI (pc (pd e G (pc (xaz xc7 (pv 1) pI) (pc pI pN so) xcf)) pN zsc) so))))
   (zpn (psn 3 nd (xnh (ds:=[]) (dvs:=[]) m T.u0 G T.uZ (by simp) .nil (va 2 (va 2 (pc xhd (pc xhd pN xf0) xf0)))))
   (zpn (xax (pR (xhf a9) (xfb (pv 3) rfl) (xaw (pc (xcg pN) (pc (xcg pN) pN xg2) xg2)) (nM _)) (zpo (xad xl5)) pQ)
   (zpn (xbp PassesOwn.never rfl (xan (K:=K) rfl (px K (pv 2) pI)) (xa3 (K:=K) rfl rfl (xac (pgn 4 nd) (xac (pgn 5 nd) (xac (pgn 6 nd) xa2))))
   (zpo (xax (pR xgl (pd o G (pc (xfb (pv 3) rfl) (v1 4) xb5)) (pv 4) (nM _)) (zpo (xad xl5)) pQ)))
   (zpn (xbp PassesOwn.never rfl (xne rfl T.uT (pc pI (pc (xau (xo2 rfl) rfl T.uR PyProof.Rows.boot_max (pc pI (pc (xau (xi6 rfl) rfl T.uS PyProof.Rows.boot_min (pc pI (pc (xau (xae (K:=K) rfl) rfl T.uP PySem.boot_len (v1 0)) pN zsc) so)) pN zsc) so)) pN zsc) so)) (pgn 7 nd)
   (zpo (xax (xk3 (xnc (pd c G (pc (pd l G (va 0 (v1 7))) (va 3 (v1 2)) zsc)))) (zpo (xad xl5)) pQ)))
   (zpo (xad xl5))))))))),xaf λR1 az=>?_⟩
 refine az _ _ (xaf λR2 ay=>?_)
 have K1:∀y:Int,R2 [some (.ref a),some (.int y),none,none,none,none,none,none] H:=λy=>ay _ _ (xaf λR3 ax=>by
  refine(jEA _ rfl (xah _ rfl _ _ rfl rfl (jAEA ⟨by decide,by decide⟩ _ rfl (λb H1 a6 s1 b3 hb ac aq=>?_))));refine(xb2 a b ns 1 a6 rfl (s1.seq hS) a3 ⟨hb,ac,λz hz=>(aq z hz).1⟩ (λmv mk H2 s2 md Y ae cne=>ax _ _ (xaf λR4 aw=>?_)));have a5:=s1.trans s2;refine(jEA _ rfl (jEA _ rfl (λtw aa=>λtp ab=>λx dx hx M ne=>?_)));have yw:=Same.new aa (.dK []);have yp:=Same.new ab (.dK []);have a7:=hx;have a2:=M;have yx:Same (upd (upd H2 tw (.dK [])) tp (.dK [])) (upd (upd (upd (upd H2 tw (.dK [])) tp (.dK [])) dx (.own x)) x (.ins (ad K "Over") dx [])):=(Same.new M _).trans (Same.new (by rw[xai (Ne.symm ne)];exact hx) _);refine(xaj x dx tw tp mv (xa7 mk rfl ups (md.same (yw.trans (yp.trans yx)) _) Y (yx _ _ (yp _ _ ups)) ⟨yx _ _ ups,λwa H3 U ov=>⟨rfl,aw _ _ (xaf λR5 av=>?_)⟩⟩));have a4:Same H H3:=a5.trans (yw.trans (yp.trans (xrj hx M U)));clear yx U a7 a2;have cl:=T.u0.cl;have no:=T.u0.no;obtain⟨b4,fs,pa,lk,l1,l2,b1,ho,f1,f2,f3,f4,f5,b2,b0,ag,ai,ah⟩:=ov.ob;have wf:=Y.wf;have few:=wf.few;refine(xbh _ rfl x _ _ _ (xa7 _ rfl ho cl (no _ (by simp)) f5 ⟨(by walk_at"s"),λe1 an=>⟨(by walk_at"s"),λe2 am=>⟨(by walk_at"s"),λt ht=>?_⟩⟩⟩));have z1:=Same.new an (.lst []);have z2:=Same.new am (.lst []);have z3:=Same.new ht (.tup [.ref e1,.ref e2]);have O:=z1.trans (z2.trans z3);refine(jAA (.inr (.inl (xap lk t _ _ rfl rfl (.inl ⟨O _ _ ag,ups⟩) rfl (λi u z hu hz=>?_)))) (jEEA _ _ rfl rfl) (jEA _ rfl (iteF (av _ _ (xaf λR6 au=>?_)))))
  ·match i with
   |0=>
    cases hu;cases hz;exact EqS.dat (.inr (xat l1 e1 ([]) ([]) ([]) rfl rfl (O _ _ ai) (z3 _ _ (z2 _ _ ups)) rfl ⟨rfl,Nat.zero_le _⟩))
   |1=>
    cases hu;cases hz;exact EqS.dat (.inr (xat l2 e2 ([]) ([]) ([]) rfl rfl (O _ _ ah) (z3 _ _ ups) rfl ⟨rfl,Nat.zero_le _⟩))
   |j+2=>cases hu
  have C:=ov.same O;have I:=a4.trans O;have Z:=O _ _ ho;generalize upd (upd (upd H3 e1 (.lst [])) e2 (.lst [])) t (.tup [.ref e1,.ref e2])=H4 at C I Z⊢;obtain⟨ma,kv,cv,hv,rfl,af,al,_,_⟩:=mk_d C.md;obtain⟨ka,ku,rfl,a1,a0⟩:=al;have aj:=a0.length;rw[zLM]at aj;refine(xaa _ rfl ma _ _ _ rfl rfl (SqT.of af) rfl (jEAA ka rfl ⟨_,SqT.of a1⟩ ?_));refine xck (xs:=ku) (λi σ H'=>∃o4 o5 o6,σ=[some (.ref a),some (.int y),some (.ref ma),some (.ref x),o4,o5,o6,none]/\H'=H4) (xpw none none none rfl rfl) (λi σ H' _ p=>by obtain⟨_,_,_,_,rfl⟩:=p;exact SqT.of a1) ?_ ?_
  ·rintro i v σ H' a8 ⟨o4,o5,o6,rfl,rfl⟩
   obtain⟨d,hd,rd⟩:=a0.get a8;rw[zGM]at hd;obtain⟨kk,ak,rfl⟩:=zMS hd;obtain⟨da,_,rfl,ao,_,_,rfl,rfl,_,_,rfl,rfl,v3,_,rfl,r3,rfl⟩:=rd;refine(xao da _ rfl (SqT.of ao) rfl _ _ rfl _ (xah _ rfl _ _ rfl rfl ?_));refine(xbh _ rfl x _ _ _ (xa7 _ rfl Z cl (no _ (by simp)) f3 (xb3 _ rfl wa (mk.kinds.map wyK) kk.name rfl C.ways ?_)));rw[xet (.inr (jEA kk (zMG ak) rfl))];exact(xba _ rfl rfl _ rfl (iteN (by rfl) (xpw _ _ _ rfl rfl)))
  rintro σ H' ⟨o4,o5,o6,rfl,rfl⟩;refine au _ _ (xaf λR7 ar=>?_);refine(xah _ rfl a _ rfl (.inl (I.seq hS)) (jEEA _ _ rfl (jEEA _ _ rfl (xaq _ _ rfl (jAAA (by decide) (by decide) (by split <;> split <;> omega) (by split <;> split <;> omega)) ?_))));refine xc3 (λi σ HX=>∃o7,σ=[some (.ref a),some (.int y),some (.ref ma),some (.ref x),o4,o5,o6,o7]/\Same H' HX) (jEA none rfl (Same.refl _)) ?_ ?_
  ·rintro i σ HX hi ⟨o7,rfl,sX⟩
   refine(xa8 _ rfl _ rfl a ns _ rfl ((I.trans sX).seq hS) (jAA a3 (by omega) (λr p q nr=>?_)));have sr:=Same.new nr (.lst [.int p,.int q]);refine(xal _ rfl _ rfl r x p (xbd q _ mk wa rfl ups (C.same (sX.trans sr)) ae cne (λHY fY=>(jEA _ rfl (iteF (jEA _ rfl ?_))))));exact sX.trans (Fed.back nr sr fY)
  ·rintro σ HX ⟨o7,rfl,sX⟩
   exact ar _ _ (k HX))
 refine(xah _ rfl a _ rfl (.inl hS) (xaq _ _ rfl rfl (jEA _ rfl (ite2 (λc1=>?_) (λc1=>K1 0)))))
 cases ns with
 |nil=>exact absurd (of_decide_eq_true c1) (by decide)
 |cons n0 ns=>exact(xaa _ rfl a _ _ _ rfl rfl hS (xas (j:=0) rfl) (K1 n0))
theorem law_is(T:Tx K b):DefIs P w K b base 100 "law" ["_law_script"] (spLaw K):=by
 have take:∀k,DefIs P w K b base (k+1) "_law_take" qac xdb:=λk=>xc0 T;have p:∀k,DefIs P w K b base (k+2) "_law_number" qan xh1:=λk=>xde T (take k);have i:DefIs P w K b base 30 "_law_parts" qbc xji:=xno T (take 28) ((xm8 T 6 (by omega)).mono (by omega));have g:∀k,DefIs P w K b base (k+2) "_law_any_kind" qao xo7:=λk=>xif T (take k);have f:∀k,DefIs P w K b base (k+2) "terms_by_rules" qap xem:=λk=>xe5 (n:=k+1) T (λ_ _ _ _=>False) (xco T) (DefIs.none T.jZ λ_ _ _ _ h=>h);have made:DefIs P w K b base 97 "made_ways" qa6 xm2:=xil (n:=96) T (xf8 (n:=95) T (xb8 T) (xbi T) (xfl (n:=94) T (xco T) (xbi T)) (f 93));have nk:DefIs P w K b base 95 "need_kind" qae (xcl (KdL 8) 100):=xff (n:=94) T (KdL 8) ((xn9 T 8 100 (by omega)).mono (by omega)) (xdx T);have look:DefIs P w K b base 97 "look_ways" qag xm3:=xim (n:=96) T (xio (n:=95) T (xb8 T) (xhh (n:=94) T (xb8 T))) (xin (n:=95) T (xl8 T) (xb8 T) (xbi T)) (xhi (n:=95) T (xb8 T) (xbi T) (xhl (n:=94) T (xco T)) nk);have a:∀k,DefIs P w K b base (k+2) "hand_of" qah xd3:=λk=>xma (n:=k+1) T (xk8 T);have e:∀k,DefIs P w K b base (k+3) "mark_row" qaj xen:=λk=>xjy (n:=k+2) T (a k);have j:DefIs P w K b base 97 "made_places" qa7 xjl:=xgm (n:=96) T (xih T) (xf7 (n:=95) T (e 92) (a 93) (f 93));have init:MethIs P w K b base 98 (ad K "Over") "__init__" qbg [[]] (xjj K):=xiq (n:=97) T (λ_ _ _ _=>False) made look (xjz (n:=96) T (xco T)) (DefIs.none T.kE λ_ _ _ _ h=>h) j
 have r:DefIs P w K b base 60 "turned_boxes" qar (spTB 6):=xdw (n:=59) T (xco T) ((xfw T 6).mono (by omega));have u:DefIs P w K b base 98 "brought" qbb (spBr K):=xmb (n:=97) T (xnt (n:=96) T (a 94)) (a 95) (e 94) (xj0 T) (r.mono (by omega)) ((xfm T 8 100 (by omega)).mono (by omega));have s:DefIs P w K b base 98 "letter_over" qas (spLO K):=xgn (n:=97) T (xhj (n:=96) T (xk8 T)) ((xfw T 6).mono (by omega));have o:DefIs P w K b base 82 "_law_rows" qbd xq2:=xpj (n:=81) T (take 80) (p 79) ((xgc T 6).mono (by omega));have m:DefIs P w K b base 83 "_law_hands" qbf (xjm K):=xnr (n:=82) T (xhg T) (xns (n:=81) T (take 80) (g 79)) o;have make:DefIs P w K b base 84 "_law_make" qbe (xm1 K):=xpk (n:=83) T (xhg T) (take 82) ((xnq T (take 29) i).mono (by omega)) (xie (n:=82) T (take 81) (g 80)) m;exact xtb (n:=98) T (xnp T) (make.mono (by omega)) (xhg T) init (xco T) (xnn (n:=98) T (take 97) ((xks T 6).mono (by omega)) u s)
end
end K54
end
end
namespace PySem.W.Fast
theorem tw5837410990890765927:0=0:=rfl
theorem tw17074354239127960275:0=0:=rfl
theorem tw12316599636940908536:0=0:=rfl
theorem tw2192710598361632814:0=0:=rfl
theorem tw11974188038030815420:0=0:=rfl
theorem tw11196346779399629723:0=0:=rfl
theorem tw5735583855064694450:0=0:=rfl
theorem tw31202816572432697:0=0:=rfl
theorem tw8925343829868399797:0=0:=rfl
theorem tw12332925014372669163:0=0:=rfl
theorem tw528857437959424704:0=0:=rfl
theorem tw3330891562524614016:0=0:=rfl
theorem tw7162514203271795489:0=0:=rfl
theorem tw4684645985365102168:0=0:=rfl
theorem tw1193359668674794687:0=0:=rfl
theorem tw6060113537650749510:0=0:=rfl
theorem tw2070083089672939632:0=0:=rfl
theorem tw9960004852016485316:0=0:=rfl
theorem tw7820499267621964583:0=0:=rfl
theorem tw13875072837852384593:0=0:=rfl
theorem tw2857386623235547641:0=0:=rfl
theorem tw10154916710883154885:0=0:=rfl
theorem tw10726954698926091309:0=0:=rfl
theorem tw13979472600386427014:0=0:=rfl
theorem tw5327025216889774284:0=0:=rfl
theorem tw17274894844990791642:0=0:=rfl
theorem tw4057003069507222277:0=0:=rfl
theorem tw11085751392015835257:0=0:=rfl
theorem tw8999932795275373697:0=0:=rfl
theorem tw8530519666705449472:0=0:=rfl
theorem tw6394215522024251179:0=0:=rfl
theorem tw13459228723561902001:0=0:=rfl
theorem tw908025916622555459:0=0:=rfl
theorem tw2418145636701710743:0=0:=rfl
theorem tw9542063260019469824:0=0:=rfl
theorem tw18425576078836679381:0=0:=rfl
theorem tw5465379420072372626:0=0:=rfl
theorem tw17748818185263925016:0=0:=rfl
theorem tw6016872882284507087:0=0:=rfl
theorem tw16132698937825319953:0=0:=rfl
theorem tw8856699298098962475:0=0:=rfl
theorem tw10581454992868382388:0=0:=rfl
theorem tw9266947856342577910:0=0:=rfl
theorem tw14903209835114033846:0=0:=rfl
theorem tw12097593328317671488:0=0:=rfl
theorem tw3074075877181690789:0=0:=rfl
theorem tw14705136287392112:0=0:=rfl
theorem tw4506086777914039264:0=0:=rfl
theorem tw6180174783695682348:0=0:=rfl
theorem tw16412892124151855680:0=0:=rfl
theorem tw8491726052486492513:0=0:=rfl
theorem tw14732053236996840659:0=0:=rfl
theorem tw12093376315338066701:0=0:=rfl
theorem tw16106830223936724590:0=0:=rfl
theorem tw15489339706845283823:0=0:=rfl
theorem tw6977457775276593227:0=0:=rfl
theorem tw6267546536017497541:0=0:=rfl
theorem tw4386188490505211334:0=0:=rfl
theorem tw14657547219899076073:0=0:=rfl
theorem tw17573603204095932499:0=0:=rfl
theorem tw16171940771969360547:0=0:=rfl
theorem tw8800214324100870655:0=0:=rfl
theorem tw2583638984749984888:0=0:=rfl
theorem tw13282958130081992382:0=0:=rfl
theorem tw5365292428796885167:0=0:=rfl
theorem tw15318352316760245297:0=0:=rfl
theorem tw4506801699802682426:0=0:=rfl
theorem tw1317783118894714370:0=0:=rfl
theorem tw16458466395439301622:0=0:=rfl
theorem tw11198939617901737223:0=0:=rfl
theorem tw1932719549446639925:0=0:=rfl
theorem tw16799663061669788746:0=0:=rfl
theorem tw10765779781612534022:0=0:=rfl
theorem tw14245119823397188767:0=0:=rfl
theorem tw17316400068814666688:0=0:=rfl
theorem tw2204556811315396372:0=0:=rfl
theorem tw11207629619524606225:0=0:=rfl
theorem tw17110221466617623212:0=0:=rfl
theorem tw627245633701504081:0=0:=rfl
theorem tw18366161092392749738:0=0:=rfl
theorem tw9038058834412100657:0=0:=rfl
theorem tw13180850805296337633:0=0:=rfl
theorem tw16144827462580482711:0=0:=rfl
theorem tw5092980047042428479:0=0:=rfl
theorem tw1636044943626512991:0=0:=rfl
theorem tw6949603209785987028:0=0:=rfl
theorem tw8871819996399735148:0=0:=rfl
theorem tw13155972598531269936:0=0:=rfl
theorem tw952410909619552689:0=0:=rfl
theorem tw2063391602804662297:0=0:=rfl
theorem tw1926141203250550741:0=0:=rfl
theorem tw10446776990652742536:0=0:=rfl
theorem tw727178862260585576:0=0:=rfl
theorem tw5506834849608745244:0=0:=rfl
theorem tw4444330254082707134:0=0:=rfl
theorem tw8651439259351887688:0=0:=rfl
theorem tw17444641106553329503:0=0:=rfl
theorem tw4704314870224876792:0=0:=rfl
theorem tw2869760794083731458:0=0:=rfl
theorem tw10848928637802729020:0=0:=rfl
theorem tw9730516298895183692:0=0:=rfl
theorem tw2400230214114205168:0=0:=rfl
theorem tw3612771960584920775:0=0:=rfl
theorem tw8732763859124579620:0=0:=rfl
theorem tw14479615892045169181:0=0:=rfl
theorem tw14138418730544871105:0=0:=rfl
theorem tw1490715742027080123:0=0:=rfl
theorem tw16805641960980189043:0=0:=rfl
theorem tw13657173490929181758:0=0:=rfl
theorem tw8883457056920235566:0=0:=rfl
theorem tw5112281261263801478:0=0:=rfl
theorem tw11670416562960945155:0=0:=rfl
theorem tw6017931880944197184:0=0:=rfl
theorem tw14336899991035063391:0=0:=rfl
theorem tw11234458031486918707:0=0:=rfl
theorem tw12433341921056387638:0=0:=rfl
theorem tw3644422144385837610:0=0:=rfl
theorem tw10621072573385070645:0=0:=rfl
theorem tw15459212051610773613:0=0:=rfl
theorem tw16188112502871684629:0=0:=rfl
theorem tw9556809839353144053:0=0:=rfl
theorem tw6914421918429832637:0=0:=rfl
theorem tw14945498020921568188:0=0:=rfl
theorem tw18070538895655556876:0=0:=rfl
theorem tw9202254298782446222:0=0:=rfl
theorem tw8381551044562483520:0=0:=rfl
theorem tw2631017290340718010:0=0:=rfl
theorem tw15745226213055135783:0=0:=rfl
theorem tw12957322593361111978:0=0:=rfl
theorem tw15314833853850705936:0=0:=rfl
theorem tw6742022753979478195:0=0:=rfl
theorem tw2977971710711567462:0=0:=rfl
theorem tw14220147657441566223:0=0:=rfl
theorem tw1605943709756019400:0=0:=rfl
theorem tw2519276283177702206:0=0:=rfl
theorem tw15110214086379654794:0=0:=rfl
theorem tw11780193804396415431:0=0:=rfl
theorem tw7253562275558021170:0=0:=rfl
theorem tw5646408872352497557:0=0:=rfl
theorem tw16850514466993884624:0=0:=rfl
theorem tw1303853693268600783:0=0:=rfl
theorem tw11765801713685659043:0=0:=rfl
theorem tw17481748206756868737:0=0:=rfl
theorem tw16689572510558340256:0=0:=rfl
theorem tw288067566081626483:0=0:=rfl
theorem tw15387736342863433089:0=0:=rfl
theorem tw13622838664110259792:0=0:=rfl
theorem tw11417486279567080269:0=0:=rfl
theorem tw15106909456577031401:0=0:=rfl
theorem tw16977725595152506519:0=0:=rfl
theorem tw4727315518934420933:0=0:=rfl
theorem tw17891990799054579358:0=0:=rfl
theorem tw11178058210872220751:0=0:=rfl
theorem tw17110179498485906377:0=0:=rfl
theorem tw9826893330754508023:0=0:=rfl
theorem tw6134291452237290063:0=0:=rfl
theorem tw6031878033943646356:0=0:=rfl
theorem tw3714937540315569487:0=0:=rfl
theorem tw5048428537079306323:0=0:=rfl
theorem tw13309039408204245323:0=0:=rfl
theorem tw2443011816323044028:0=0:=rfl
theorem tw11234771340654336843:0=0:=rfl
theorem tw8446699203839615971:0=0:=rfl
theorem tw15010493429951246073:0=0:=rfl
theorem tw2124763227964602495:0=0:=rfl
theorem tw3387922334782272058:0=0:=rfl
theorem tw17559017245393125460:0=0:=rfl
theorem tw14398823519581619267:0=0:=rfl
theorem tw11837448694645090463:0=0:=rfl
theorem tw15706650812620989029:0=0:=rfl
theorem tw3145245324521209081:0=0:=rfl
theorem tw13828469002477703148:0=0:=rfl
theorem tw7192290757645022340:0=0:=rfl
theorem tw17021759809229691850:0=0:=rfl
theorem tw13906302247926626262:0=0:=rfl
theorem tw12643871373825836256:0=0:=rfl
theorem tw17042425030593128612:0=0:=rfl
theorem tw7818727198119279517:0=0:=rfl
theorem tw3977694100138724948:0=0:=rfl
theorem tw7459300747486839789:0=0:=rfl
theorem tw2474633342853819462:0=0:=rfl
theorem tw17530427021196344872:0=0:=rfl
theorem tw8611365868251610523:0=0:=rfl
theorem tw1676046368510709134:0=0:=rfl
theorem tw7640696331950414019:0=0:=rfl
theorem tw15771429153977374780:0=0:=rfl
theorem tw8796032718955519827:0=0:=rfl
theorem tw7227610568029886303:0=0:=rfl
theorem tw11655955563885702169:0=0:=rfl
theorem tw2012789192050323197:0=0:=rfl
theorem tw2693149166124562726:0=0:=rfl
theorem tw6892337056791840367:0=0:=rfl
theorem tw6199046731723629823:0=0:=rfl
theorem tw15494494944678440579:0=0:=rfl
theorem tw1525943330973025132:0=0:=rfl
theorem tw13293088113399669947:0=0:=rfl
theorem tw5990482082865576341:0=0:=rfl
theorem tw9411961653131352845:0=0:=rfl
theorem tw10136353540272710446:0=0:=rfl
theorem tw16111913485962877337:0=0:=rfl
theorem tw11721388922519190427:0=0:=rfl
theorem tw17119037894461001509:0=0:=rfl
theorem tw15924222582518657711:0=0:=rfl
theorem tw13966710756575556775:0=0:=rfl
theorem tw8799661273090639056:0=0:=rfl
theorem tw11506070981612675472:0=0:=rfl
theorem tw4789006113066748867:0=0:=rfl
theorem tw18239316323124585831:0=0:=rfl
theorem tw17265773874323819678:0=0:=rfl
theorem tw2586260322222233676:0=0:=rfl
theorem tw6807829758967921058:0=0:=rfl
theorem tw1916076801178778825:0=0:=rfl
theorem tw1473179287525145188:0=0:=rfl
theorem tw748760886408497104:0=0:=rfl
theorem tw10145156454376774517:0=0:=rfl
theorem tw13331825364302739730:0=0:=rfl
theorem tw14743691147914276318:0=0:=rfl
theorem tw1124088811597114018:0=0:=rfl
theorem tw8554366190785903246:0=0:=rfl
theorem tw15437151775121740451:0=0:=rfl
theorem tw13669697703779042688:0=0:=rfl
theorem tw18244050472015278951:0=0:=rfl
theorem tw14120963569943006254:0=0:=rfl
theorem tw14047419896269227834:0=0:=rfl
theorem tw624244388875699614:0=0:=rfl
theorem tw4290189851189882825:0=0:=rfl
theorem tw12034510369007810961:0=0:=rfl
theorem tw3545339113119266241:0=0:=rfl
theorem tw9181744629693623274:0=0:=rfl
theorem tw15963988361625896499:0=0:=rfl
theorem tw16532838059421815959:0=0:=rfl
theorem tw10372605495318764840:0=0:=rfl
theorem tw1384100430309722826:0=0:=rfl
theorem tw2518795049176421810:0=0:=rfl
theorem tw3582503069270859625:0=0:=rfl
theorem tw4989543523502713420:0=0:=rfl
theorem tw10613577044966164286:0=0:=rfl
theorem tw373698633253764665:0=0:=rfl
theorem tw6709188922676050474:0=0:=rfl
theorem tw4775190947425435203:0=0:=rfl
theorem tw1527136191510252145:0=0:=rfl
theorem tw5394465681161989242:0=0:=rfl
theorem tw6511773088948960702:0=0:=rfl
theorem tw12456172499352976859:0=0:=rfl
theorem tw5009229913646489720:0=0:=rfl
theorem tw11821437108716439853:0=0:=rfl
theorem tw15502862289882133901:0=0:=rfl
theorem tw12986761470968133446:0=0:=rfl
theorem tw14802236443842512084:0=0:=rfl
theorem tw18034060486031164341:0=0:=rfl
theorem tw10157694130324198543:0=0:=rfl
theorem tw11643555437481702766:0=0:=rfl
theorem tw5079629298701624746:0=0:=rfl
theorem tw983417684357097874:0=0:=rfl
theorem tw10774863051395061077:0=0:=rfl
theorem tw13501679242617797043:0=0:=rfl
theorem tw6955070699659009194:0=0:=rfl
theorem tw2163147913202878481:0=0:=rfl
theorem tw2464119854166006488:0=0:=rfl
theorem tw12213725723539264425:0=0:=rfl
theorem tw17471378426523259463:0=0:=rfl
theorem tw6299413857757679954:0=0:=rfl
theorem tw9531797033281035380:0=0:=rfl
theorem tw259078689312550983:0=0:=rfl
theorem tw5806885653586193174:0=0:=rfl
theorem tw7435832281137550781:0=0:=rfl
theorem tw14548997401560159896:0=0:=rfl
theorem tw12049518908573810711:0=0:=rfl
theorem tw253184531044175968:0=0:=rfl
theorem tw17568502349954554365:0=0:=rfl
theorem tw3479748035411451548:0=0:=rfl
theorem tw10390991449328236017:0=0:=rfl
theorem tw9863288467632779085:0=0:=rfl
theorem tw5761576537537145293:0=0:=rfl
theorem tw10461422736302259255:0=0:=rfl
theorem tw12243001417917835615:0=0:=rfl
theorem tw7936260814296814784:0=0:=rfl
theorem tw691049018355583763:0=0:=rfl
theorem tw887594165235706598:0=0:=rfl
theorem tw18095323572256435251:0=0:=rfl
theorem tw1739130696396576360:0=0:=rfl
theorem tw523395908181773823:0=0:=rfl
theorem tw5427929792864161841:0=0:=rfl
theorem tw4011600153934228138:0=0:=rfl
theorem tw3767578102504501170:0=0:=rfl
theorem tw7341663242981843641:0=0:=rfl
theorem tw16966869534617286273:0=0:=rfl
theorem tw4475703274971061764:0=0:=rfl
theorem tw2132682536661226021:0=0:=rfl
theorem tw13431769444515315406:0=0:=rfl
theorem tw13550297572359437138:0=0:=rfl
theorem tw6992825073094828734:0=0:=rfl
theorem tw12385011950038656554:0=0:=rfl
theorem tw11947610584735004323:0=0:=rfl
theorem tw15554886809336607138:0=0:=rfl
theorem tw14114953269798812676:0=0:=rfl
theorem tw11307254918691225040:0=0:=rfl
theorem tw4532820455586688648:0=0:=rfl
theorem tw10653861221137551970:0=0:=rfl
theorem tw8060923199449557432:0=0:=rfl
theorem tw10619666515904099104:0=0:=rfl
theorem tw7358084938341627086:0=0:=rfl
theorem tw12823589793637854425:0=0:=rfl
theorem tw8953857922811872797:0=0:=rfl
theorem tw16150011480613717850:0=0:=rfl
theorem tw16197200813782397707:0=0:=rfl
theorem tw15964223319084517872:0=0:=rfl
theorem tw14560935818074691146:0=0:=rfl
theorem tw7577225375016959453:0=0:=rfl
theorem tw13075590274943208494:0=0:=rfl
theorem tw14354042260356830169:0=0:=rfl
theorem tw5957887168821656508:0=0:=rfl
theorem tw5441198597967882608:0=0:=rfl
theorem tw2142339114963731754:0=0:=rfl
theorem tw9217778817700951599:0=0:=rfl
theorem tw5198162529604116638:0=0:=rfl
theorem tw12551244497853531825:0=0:=rfl
theorem tw14678732848747842604:0=0:=rfl
theorem tw7854871487170351373:0=0:=rfl
theorem tw14043772793125550124:0=0:=rfl
theorem tw13901886636985700333:0=0:=rfl
theorem tw3586552434355767623:0=0:=rfl
theorem tw5233141717729547862:0=0:=rfl
theorem tw16734722344152298824:0=0:=rfl
theorem tw18013550170798406556:0=0:=rfl
theorem tw6441720305379719971:0=0:=rfl
theorem tw8728584943502877419:0=0:=rfl
theorem tw5256449846366349800:0=0:=rfl
theorem tw5186692423530152935:0=0:=rfl
theorem tw2822655710202018116:0=0:=rfl
theorem tw17804819052982269505:0=0:=rfl
theorem tw16213114343971564022:0=0:=rfl
theorem tw9139674088728203317:0=0:=rfl
theorem tw16638667239122410597:0=0:=rfl
theorem tw11768664308093219874:0=0:=rfl
theorem tw2161889344610029963:0=0:=rfl
theorem tw7195379011258988383:0=0:=rfl
theorem tw12588607202021360808:0=0:=rfl
theorem tw15425433948890658985:0=0:=rfl
theorem tw4942627969049069182:0=0:=rfl
theorem tw11665418009999030275:0=0:=rfl
theorem tw656651838439245957:0=0:=rfl
theorem tw1322508675378525958:0=0:=rfl
theorem tw4014884726926176930:0=0:=rfl
theorem tw14832342291546629697:0=0:=rfl
theorem tw10162663589193784165:0=0:=rfl
theorem tw17647120422252695867:0=0:=rfl
theorem tw10694298168957090558:0=0:=rfl
theorem tw5465692480593201405:0=0:=rfl
theorem tw17066682087506802616:0=0:=rfl
theorem tw15540814818595663734:0=0:=rfl
theorem tw10012608306796495991:0=0:=rfl
theorem tw6362698946471468049:0=0:=rfl
theorem tw13226045112027411050:0=0:=rfl
theorem tw6043429390480911507:0=0:=rfl
theorem tw5036198905318867987:0=0:=rfl
theorem tw10950552065046413539:0=0:=rfl
theorem tw7036637088423270183:0=0:=rfl
theorem tw10602012115127205493:0=0:=rfl
theorem tw605518441634518988:0=0:=rfl
theorem tw11281361928177295830:0=0:=rfl
theorem tw13518936776071037413:0=0:=rfl
theorem tw14771928924566401235:0=0:=rfl
theorem tw14290618651586850441:0=0:=rfl
end PySem.W.Fast
open PySem PySem.W PyProof.Rows
set_option maxRecDepth 100000 in
set_option maxHeartbeats 0 in
theorem PySem.Challenge.cw_swapstride_k54_whole_over_to_itself_holds : PySem.Challenge.rw_swapstride_k54_whole_over_to_itself.Holds := by
 w_on;o_law;k_head;(case hw=>w_witness2)
 k_fill
 refine L2.walk_of (l:=PySem.Challenge.rw_swapstride_k54_whole_over_to_itself) (n:=63) (k:=100) (x:="_law_script") (CX:=λ_=>L2.CX0) (sp:=λ_=>K54.spLaw _) rfl (by decide) rfl ⟨rfl,by decide,by decide⟩ (λw h Y=>PySem.W.kIn_of Y) ?F (λ_ _ a ns hl _ hS=>⟨a,ns,rfl,hS,hl,λ_=>rfl⟩) λ_ _ _ _ _ z=>z
 case F=>
  intro w mg fa h KX G hmg
  have jA:L2.DefTx (L2.KOf KX) mg "hand_of" K54.s_hand_of L2.qah:=by
   walk_at"d"
  have jB:L2.DefTx (L2.KOf KX) mg "channel_of" K54.s_channel_of L2.qaw:=by
   walk_at"d"
  have jC:L2.DefTx (L2.KOf KX) mg "named" K54.s_named L2.qax:=by
   walk_at"d"
  have jD:L2.DefTx (L2.KOf KX) mg "mark_row" K54.s_mark_row L2.qaj:=by
   walk_at"d"
  have jE:L2.DefTx (L2.KOf KX) mg "need_once" K54.s_need_once L2.qay:=by
   walk_at"d"
  have jF:L2.DefTx (L2.KOf KX) mg "sort_of" K54.s_sort_of L2.qab:=by
   walk_at"d"
  have jG:L2.DefTx (L2.KOf KX) mg "parts_of" K54.s_parts_of L2.qab:=by
   walk_at"d"
  have jH:L2.DefTx (L2.KOf KX) mg "need_there" K54.s_need_there L2.qak:=by
   walk_at"d"
  have jI:L2.DefTx (L2.KOf KX) mg "kind_of" K54.s_kind_of L2.qaa:=by
   walk_at"d"
  have jJ:L2.DefTx (L2.KOf KX) mg "num_kind" K54.s_num_kind ["n"]:=by
   walk_at"d"
  have jK:L2.DefTx (L2.KOf KX) mg "box_kind" K54.s_box_kind L2.qaz:=by
   walk_at"d"
  have jL:L2.DefTx (L2.KOf KX) mg "op_kind" K54.s_op_kind L2.qaa:=by
   walk_at"d"
  have jM:L2.DefTx (L2.KOf KX) mg "rec_kind" K54.s_rec_kind L2.qaa:=by
   walk_at"d"
  have jN:L2.DefTx (L2.KOf KX) mg "get_kind" K54.s_get_kind L2.qaa:=by
   walk_at"d"
  have jO:L2.DefTx (L2.KOf KX) mg "tag_kind" K54.s_tag_kind L2.qaa:=by
   walk_at"d"
  have jP:L2.DefTx (L2.KOf KX) mg "case_kind" K54.s_case_kind L2.qaa:=by
   walk_at"d"
  have jQ:L2.DefTx (L2.KOf KX) mg "arm_kind" K54.s_arm_kind L2.qbh:=by
   walk_at"d"
  have jR:L2.DefTx (L2.KOf KX) mg "if_kind" K54.s_if_kind L2.qaa:=by
   walk_at"d"
  have jS:L2.DefTx (L2.KOf KX) mg "need_kind" K54.s_need_kind L2.qae:=by
   walk_at"d"
  have jT:L2.DefTx (L2.KOf KX) mg "need_same" K54.s_need_same L2.qal:=by
   walk_at"d"
  have jU:L2.DefTx (L2.KOf KX) mg "need_sort" K54.s_need_sort L2.qa0:=by
   walk_at"d"
  have jV:L2.DefTx (L2.KOf KX) mg "kind_of_sort" K54.s_kind_of_sort L2.qa1:=by
   walk_at"d"
  have jW:L2.DefTx (L2.KOf KX) mg "part_kind" K54.s_part_kind L2.qam:=by
   walk_at"d"
  have jX:L2.DefTx (L2.KOf KX) mg "need_tags" K54.s_need_tags L2.qbi:=by
   walk_at"d"
  have jY:L2.DefTx (L2.KOf KX) mg "with_box" K54.s_with_box L2.qa2:=by
   walk_at"d"
  have jZ:L2.DefTx (L2.KOf KX) mg "nought_term" K54.s_nought_term L2.qak:=by
   walk_at"d"
  have j0:L2.DefTx (L2.KOf KX) mg "goes_to" K54.s_goes_to L2.qaf:=by
   walk_at"d"
  have j4:L2.DefTx (L2.KOf KX) mg "boxes_over" K54.s_boxes_over L2.qa3:=by
   walk_at"d"
  have j5:L2.DefTx (L2.KOf KX) mg "look_ways" K54.s_look_ways L2.qag:=by
   walk_at"d"
  have j6:L2.DefTx (L2.KOf KX) mg "look_ends" K54.s_look_ends L2.qa5:=by
   walk_at"d"
  have j7:L2.DefTx (L2.KOf KX) mg "look_form" K54.s_look_form L2.qbj:=by
   walk_at"d"
  have j8:L2.DefTx (L2.KOf KX) mg "is_term" K54.s_is_term ["how"]:=by
   walk_at"d"
  have j9:L2.DefTx (L2.KOf KX) mg "look_terms" K54.s_look_terms L2.qa4:=by
   walk_at"d"
  have kA:L2.DefTx (L2.KOf KX) mg "made_ways" K54.s_made_ways L2.qa6:=by
   walk_at"d"
  have kB:L2.DefTx (L2.KOf KX) mg "how_by_rules" K54.s_how_by_rules L2.qai:=by
   walk_at"d"
  have kC:L2.DefTx (L2.KOf KX) mg "terms_by_rules" K54.s_terms_by_rules L2.qap:=by
   walk_at"d"
  have kD:L2.DefTx (L2.KOf KX) mg "tags_by_rules" K54.s_tags_by_rules L2.qai:=by
   walk_at"d"
  have kE:L2.DefTx (L2.KOf KX) mg "look_place" K54.s_look_place L2.qbr:=by
   walk_at"d"
  have kF:L2.DefTx (L2.KOf KX) mg "need_mark" K54.s_need_mark L2.qaj:=by
   walk_at"d"
  have kG:L2.DefTx (L2.KOf KX) mg "places_of" K54.s_places_of ["make"]:=by
   walk_at"d"
  have kH:L2.DefTx (L2.KOf KX) mg "made_places" K54.s_made_places L2.qa7:=by
   walk_at"d"
  have kI:L2.DefTx (L2.KOf KX) mg "way_by_rules" K54.s_way_by_rules L2.qbk:=by
   walk_at"d"
  have kJ:L2.DefTx (L2.KOf KX) mg "field" K54.s_field L2.qbl:=by
   walk_at"d"
  have kK:L2.DefTx (L2.KOf KX) mg "worth" K54.s_worth L2.qaa:=by
   walk_at"d"
  have kL:L2.DefTx (L2.KOf KX) mg "op_worth" K54.s_op_worth L2.qa8:=by
   walk_at"d"
  have kM:L2.DefTx (L2.KOf KX) mg "case_worth" K54.s_case_worth L2.qaa:=by
   walk_at"d"
  have kN:L2.DefTx (L2.KOf KX) mg "row_at" K54.s_row_at L2.qa9:=by
   walk_at"d"
  have kO:L2.DefTx (L2.KOf KX) mg "turned" K54.s_turned L2.qaq:=by
   walk_at"d"
  have kP:L2.DefTx (L2.KOf KX) mg "turned_boxes" K54.s_turned_boxes L2.qar:=by
   walk_at"d"
  have kQ:L2.DefTx (L2.KOf KX) mg "look_fit" K54.s_look_fit L2.qag:=by
   walk_at"d"
  have kR:L2.DefTx (L2.KOf KX) mg "is_place" K54.s_is_place L2.qba:=by
   walk_at"d"
  have kS:L2.DefTx (L2.KOf KX) mg "brought" K54.s_brought L2.qbb:=by
   walk_at"d"
  have kT:L2.DefTx (L2.KOf KX) mg "letter_over" K54.s_letter_over L2.qas:=by
   walk_at"d"
  have kU:L2.DefTx (L2.KOf KX) mg "_law_feed" K54.sl_feed L2.qat:=by
   walk_at"d"
  have kW:L2.DefTx (L2.KOf KX) mg "_law_take" K54.sl_take L2.qac:=by
   walk_at"d"
  have kX:L2.DefTx (L2.KOf KX) mg "_law_names" K54.sl_names L2.qbm:=by
   walk_at"d"
  have kY:L2.DefTx (L2.KOf KX) mg "_law_number" K54.sl_number L2.qan:=by
   walk_at"d"
  have kZ:L2.DefTx (L2.KOf KX) mg "_law_sort_of" K54.sl_sort_of L2.qad:=by
   walk_at"d"
  have k0:L2.DefTx (L2.KOf KX) mg "_law_size" K54.sl_size L2.qad:=by
   walk_at"d"
  have k8:L2.DefTx (L2.KOf KX) mg "_law_parts" K54.sl_parts L2.qbc:=by
   walk_at"d"
  have k9:L2.DefTx (L2.KOf KX) mg "_law_kinds" K54.sl_kinds L2.qbn:=by
   walk_at"d"
  have uA:L2.DefTx (L2.KOf KX) mg "_law_new_term" K54.sl_new_term L2.qau:=by
   walk_at"d"
  have uB:L2.DefTx (L2.KOf KX) mg "_law_any_kind" K54.sl_any_kind L2.qao:=by
   walk_at"d"
  have uC:L2.DefTx (L2.KOf KX) mg "_law_channels" K54.sl_channels L2.qbo:=by
   walk_at"d"
  have uD:L2.DefTx (L2.KOf KX) mg "_law_boxes" K54.sl_boxes L2.qbp:=by
   walk_at"d"
  have uE:L2.DefTx (L2.KOf KX) mg "_law_rows" K54.sl_rows L2.qbd:=by
   walk_at"d"
  have uF:L2.DefTx (L2.KOf KX) mg "_law_make" K54.sl_make L2.qbe:=by
   walk_at"d"
  have uG:L2.DefTx (L2.KOf KX) mg "_law_hands" K54.sl_hands L2.qbf:=by
   walk_at"d"
  have uH:L2.DefTx (L2.KOf KX) mg "_law_value" K54.sl_value L2.qav:=by
   walk_at"d"
  have uI:L2.DefTx (L2.KOf KX) mg "_law_stays" K54.sl_stays L2.qbq:=by
   walk_at"d"
  have uJ:L2.DefTx (L2.KOf KX) mg "law" K54.s_law ["_law_script"]:=by
   walk_at"d"
  have uK:∃t,mg "WIDE"=some (.int 4294967296 t):=by
   refine' L2.gint_mk KX G ?a
   (case a=>k_is)
  have uL:mg "dict"=none:=by
   refine' PySem.W.mg_none_of KX G ?a
   (case a=>k_is)
  have uM:mg "enumerate"=none:=by
   refine' PySem.W.mg_none_of KX G ?a
   (case a=>k_is)
  have uN:mg "int"=none:=by
   refine' PySem.W.mg_none_of KX G ?a
   (case a=>k_is)
  have uO:mg "isinstance"=none:=by
   refine' PySem.W.mg_none_of KX G ?a
   (case a=>k_is)
  have uP:mg "len"=none:=by
   refine' PySem.W.mg_none_of KX G ?a
   (case a=>k_is)
  have uQ:mg "list"=none:=by
   refine' PySem.W.mg_none_of KX G ?a
   (case a=>k_is)
  have uR:mg "max"=none:=by
   refine' PySem.W.mg_none_of KX G ?a
   (case a=>k_is)
  have uS:mg "min"=none:=by
   refine' PySem.W.mg_none_of KX G ?a
   (case a=>k_is)
  have uT:mg "range"=none:=by
   refine' PySem.W.mg_none_of KX G ?a
   (case a=>k_is)
  have uU:mg "set"=none:=by
   refine' PySem.W.mg_none_of KX G ?a
   (case a=>k_is)
  have uV:mg "str"=none:=by
   refine' PySem.W.mg_none_of KX G ?a
   (case a=>k_is)
  have uW:mg "sum"=none:=by
   refine' PySem.W.mg_none_of KX G ?a
   (case a=>k_is)
  have uX:mg "tuple"=none:=by
   refine' PySem.W.mg_none_of KX G ?a
   (case a=>k_is)
  have uY:mg "zip"=none:=by
   refine' PySem.W.mg_none_of KX G ?a
   (case a=>k_is)
  have uZ:mg "Over"=some (.ref (L2.ad (L2.KOf KX) "Over")):=by
   refine' PySem.W.mg_of KX G ?a
   (case a=>kernel_rfl)
  have u0:L2.DTab (L2.KOf KX) "Over" ["first","second","ways","places","lacking"]:=by
   refine' L2.dtab_of ?a
   (case a=>kernel_rfl)
  have u4:L2.MethTx (L2.KOf KX) "Over.__init__" (L2.ad (L2.KOf KX) "Over") "__init__" K54.s_Over_init L2.qbg [[]]:=by
   dsimp only[L2.KOf];refine' L2.meth_mk ?a ?i ?n ?l ?c ?k ?b
   (case a=>k_is);(case i=>k_is);(case n=>k_is);(case l=>k_is);(case c=>k_is);(case k=>k_is)
   (case b=>exact λ_ _ _ _ _ _ us hl=>match us,hl with |[_,_,_,_,_],_=>rfl)
  have T:K54.Tx (L2.KOf KX) mg:=⟨jA,jB,jC,jD,jE,jF,jG,jH,jI,jJ,jK,jL,jM,jN,jO,jP,jQ,jR,jS,jT,jU,jV,jW,jX,jY,jZ,j0,j4,j5,j6,j7,j8,j9,kA,kB,kC,kD,kE,kF,kG,kH,kI,kJ,kK,kL,kM,kN,kO,kP,kQ,kR,kS,kT,kU,kW,kX,kY,kZ,k0,k8,k9,uA,uB,uC,uD,uE,uF,uG,uH,uI,uJ,uK,uL,uM,uN,uO,uP,uQ,uR,uS,uT,uU,uV,uW,uX,uY,uZ,u0,u4⟩;exact L2.law_top uJ hmg λbase=>K54.law_is T
