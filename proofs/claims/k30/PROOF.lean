import PyProof.Rows.All
import Wide.All
import OpenK.AllK
import Wide.FinOn
import Lean
import PyProof.EqAt
import PyProof.EqKinds
import PyProof.TupleCall
import PyProof.ZipIter
import PyProof.ListNew
import PyProof.TupleIter
import PyProof.WalksMore
import KE.KIntText
import PyProof.Rows.EqBoolInt
import PyProof.Rows.ZipGen
import PySem.Str
import PyProof.StrLawsTight
import PyProof.StrLawsIdx
import PyProof.StrLawsIn
import PyProof.Rows.SetFrom
import KE.KDictSum
import PyProof.Rows.SortWalk
import PyProof.NeKinds
import KE.KDictList
import KE.KRevIter
import PyProof.EnumMake
import PyProof.Rows.EnumRows
import PyProof.ExcInit
import PyProof.InstStoreFacts
import PyProof.ExcArgsOwn
import PyProof.ExcAttrAll.ValueError
import PyProof.ExcBaseAll.ValueError
import PyProof.ConsumeWalk
import PyProof.AttrMissHeap
import KE.KItemsList
import KE.KEqDict
import PyProof.StationsW
import PyProof.RulesAs
import PyProof.NsDelKeeps
import PyProof.ListMulRoad
import PyProof.FactsAll.tuple
import OpenK.KMore
import PyProof.DictWalks
import KE.KPairComp
import PyProof.AutoListH
import PySem.Challenge.RW_swapstride_k30_whole_kinds_stay
set_option Elab.async false
set_option linter.all false
set_option maxRecDepth 100000
set_option maxHeartbeats 4000000
abbrev Fg:=PySem.W.Frag
local macro_rules | `(tactic| walk_at"o")=>`(tactic| first |exact Or.inl rfl |exact Or.inr rfl)
local macro_rules | `(tactic| walk_at"q")=>`(tactic| exact⟨rfl,rfl,rfl,by decide +kernel,rfl,by decide +kernel,by decide +kernel⟩)
local macro_rules | `(tactic| walk_at"k")=>`(tactic| decide +kernel)
local macro_rules | `(tactic| walk_at"c")=>`(tactic| ((case a=>k_is);(case l=>k_is);(case c=>k_is);(case k=>k_is)))
set_option hygiene false in
local macro_rules | `(tactic| walk_at"d")=>`(tactic| (dsimp only[L2.KOf];refine' L2.deftx_mk KX G ?a ?l ?c ?k ?b;(case a=>k_is);(case l=>k_is);(case c=>k_is);(case k=>k_is);(case b=>(intro _ _ _ _ _ _ us hl;first |(obtain⟨_,rfl⟩:=L2.ln1 hl;rfl) |(obtain⟨_,_,rfl⟩:=L2.ln2 hl;rfl) |(obtain⟨_,_,_,rfl⟩:=L2.ln3 hl;rfl) |(obtain⟨_,_,_,_,rfl⟩:=L2.ln4 hl;rfl) |(obtain⟨_,_,_,_,_,rfl⟩:=L2.ln5 hl;rfl) |(obtain⟨_,_,_,_,_,_,rfl⟩:=L2.ln6 hl;rfl) |(obtain⟨_,_,_,_,_,_,_,rfl⟩:=L2.ln7 hl;rfl)))))
set_option hygiene false in
local macro_rules | `(tactic| walk_at"i")=>`(tactic| first |intro f cdv A outer s H vs Q E hr h |intro vs H Q E h)
local macro_rules | `(tactic| walk_at"s")=>`(tactic| first |(show 2 ≤ PySem.sizeLine;decide) |(show 3 ≤ PySem.sizeLine;decide) |(show 1 ≤ PySem.sizeLine;decide) |(show 0 ≤ PySem.sizeLine;decide) |(show 4 ≤ PySem.sizeLine;decide) |(show 5 ≤ PySem.sizeLine;decide) |(show 6 ≤ PySem.sizeLine;decide) |(show 8 ≤ PySem.sizeLine;decide))
theorem zGA{α:Type _}{l:List α}{i:Nat}(h:i<l.length):l[i]?=some l[i]:=List.getElem?_eq_getElem h
theorem zMS{α β:Type _}{f:α→β}{x:Option α}{b:β}(h:x.map f=some b):∃a,x=some a∧f a=b:=Option.map_eq_some_iff.mp h
theorem zLM{α β:Type _}{as:List α}(f:α→β):(as.map f).length=as.length:=List.length_map f
theorem zGM{α β:Type _}{f:α→β}{l:List α}{i:Nat}:(l.map f)[i]?=l[i]?.map f:=List.getElem?_map
theorem zES{α:Type _}{l:List α}{i:Nat}{a:α}(h:l[i]?=some a):∃h:i<l.length,l[i]=a:=List.getElem?_eq_some_iff.mp h
theorem zMG{α:Type _}{l:List α}{i:Nat}{a:α}(e:l[i]?=some a):a∈l:=List.mem_of_getElem? e
theorem zTL{α:Type _}{i:Nat}{l:List α}(h:l.length ≤ i):l.take i=l:=List.take_of_length_le h
theorem zMA{α:Type _}{a:α}{s t:List α}(h:a∈s++t):a∈s∨a∈t:=List.mem_append.mp h
theorem zMO{α:Type _}{a b:α}(h:a∈[b]):a=b:=List.mem_singleton.mp h
theorem zDT{p:Prop}[Decidable p](h:p):decide p=true:=decide_eq_true h
theorem zDF{p:Prop}[Decidable p](h:¬p):decide p=false:=decide_eq_false h
local macro_rules | `(tactic| walk_at"l")=>`(tactic| (intro vs H Q E h;(repeat (rcases h with⟨_,h⟩)) <;> (subst_vars;rfl)))
local macro_rules | `(tactic| walk_at"rd1")=>`(tactic| first
 |refine⟨_,rfl,?_⟩
 |refine⟨_,_,rfl,rfl,?_⟩
 |refine⟨_,_,_,_,rfl,rfl,(by assumption),(by first |rfl |assumption),?_⟩
 |refine⟨_,_,rfl,.inl (by assumption),?_⟩
 |refine⟨(by first |exact .inr ⟨by decide,by decide⟩ |exact .inl ⟨by decide,by decide⟩ |exact⟨by decide,by decide,by decide⟩ |exact⟨by decide,by decide⟩ |exact⟨by assumption,by assumption⟩ |(show(0:Int)<_;first |decide |assumption)),?_⟩
 |refine⟨rfl,?_⟩)
local macro_rules | `(tactic| walk_at"rd")=>`(tactic| repeat walk_at"rd1")
local macro_rules | `(tactic| walk_at"rd1")=>`(tactic| first
 |refine⟨_,rfl,?_⟩
 |refine⟨_,_,rfl,rfl,?_⟩
 |refine⟨_,_,_,_,rfl,rfl,(by assumption),(by first |rfl |assumption),?_⟩
 |refine⟨rfl,?_⟩
 |refine M.iteKF (by walk_at"k") ?_
 |refine M.iteKT (by walk_at"k") ?_)
section
open PySem
theorem zPO{h:Heap}{a:Addr}{u:Obj}(o:Obj)(e:h.get? a=some u):(h.push o).get? a=some u:=Heap.get?_push_of_some o e
theorem zLA{α:Type _}{as bs:List α}:(as++bs).length=as.length+bs.length:=List.length_append
theorem zMF{α:Type _}{p:α→Bool}{a:α}{l:List α}(h:l.find? p=some a):a∈l:=List.mem_of_find?_eq_some h
theorem zTA{α:Type _}{l:List α}{i:Nat}:l.take (i+1)=l.take i++l[i]?.toList:=List.take_add_one
theorem zMI{α:Type _}{a:α}{l:List α}(h:a∈l):∃(i:Nat) (h:i<l.length),l[i]=a:=List.mem_iff_getElem.mp h
theorem zMC{α:Type _}{a b:α}{l:List α}(h:a∈b::l):a=b∨a∈l:=List.mem_cons.mp h
theorem zMP{α β:Type _}{b:β}{f:α→β}{l:List α}(h:b∈l.map f):∃a,a∈l∧f a=b:=List.mem_map.mp h
theorem zAP{α β:Type _}{f:α→β}{as bs:List α}:(as++bs).map f=as.map f++bs.map f:=List.map_append
end
namespace L2
theorem ln1{α:Type}{l:List α}(h:l.length=1):∃a,l=[a]:=match l,h with |[a],_=>⟨a,rfl⟩
theorem ln2{α:Type}{l:List α}(h:l.length=2):∃a b,l=[a,b]:=match l,h with |[a,b],_=>⟨a,b,rfl⟩
theorem ln3{α:Type}{l:List α}(h:l.length=3):∃a b c,l=[a,b,c]:=match l,h with |[a,b,c],_=>⟨a,b,c,rfl⟩
theorem ln4{α:Type}{l:List α}(h:l.length=4):∃a b c d,l=[a,b,c,d]:=match l,h with |[a,b,c,d],_=>⟨a,b,c,d,rfl⟩
theorem ln5{α:Type}{l:List α}(h:l.length=5):∃a b c d e,l=[a,b,c,d,e]:=match l,h with |[a,b,c,d,e],_=>⟨a,b,c,d,e,rfl⟩
theorem ln6{α:Type}{l:List α}(h:l.length=6):∃a b c d e f,l=[a,b,c,d,e,f]:=match l,h with |[a,b,c,d,e,f],_=>⟨a,b,c,d,e,f,rfl⟩
theorem ln7{α:Type}{l:List α}(h:l.length=7):∃a b c d e f g,l=[a,b,c,d,e,f,g]:=match l,h with |[a,b,c,d,e,f,g],_=>⟨a,b,c,d,e,f,g,rfl⟩
end L2
section
theorem gcut{A:Prop}(h:∀G:Prop,(A->G)->G):A:=h A id
theorem jAA{p:Prop}{q:Prop}{F:Prop}(H0:p)(H1:q)(k:F):p/\q/\F:=⟨H0,H1,k⟩
theorem jAAA{p:Prop}{q:Prop}{r:Prop}{F:Prop}(H0:p)(H1:q)(H2:r)(k:F):p/\q/\r/\F:=⟨H0,H1,H2,k⟩
theorem jAE{p:Prop}{a:Sort _}{F:a->Prop}(H0:p)(u:a)(k:F u):p/\∃u,F u:=⟨H0,u,k⟩
theorem jAEA{p:Prop}{a:Sort _}{q:a->Prop}{F:a->Prop}(H0:p)(u:a)(H1:q u)(k:F u):p/\∃u,q u/\F u:=⟨H0,u,H1,k⟩
theorem jEA{a:Sort _}{p:a->Prop}{F:a->Prop}(u:a)(H0:p u)(k:F u):∃u,p u/\F u:=⟨u,H0,k⟩
theorem jEAA{a:Sort _}{p:a->Prop}{q:a->Prop}{F:a->Prop}(u:a)(H0:p u)(H1:q u)(k:F u):∃u,p u/\q u/\F u:=⟨u,H0,H1,k⟩
theorem xbx{a:Sort _}{p:a->Prop}{q:a->Prop}{r:a->Prop}{F:a->Prop}(u:a)(H0:p u)(H1:q u)(H2:r u)(k:F u):∃u,p u/\q u/\r u/\F u:=⟨u,H0,H1,H2,k⟩
theorem xbw{a:Sort _}{p:a->Prop}{q:a->Prop}{r:a->Prop}{i:a->Prop}{F:a->Prop}(u:a)(H0:p u)(H1:q u)(H2:r u)(H3:i u)(k:F u):∃u,p u/\q u/\r u/\i u/\F u:=⟨u,H0,H1,H2,H3,k⟩
theorem xcv{a:Sort _}{p:a->Prop}{q:a->Prop}{r:a->Prop}{i:a->Prop}{j:a->Prop}{F:a->Prop}(u:a)(H0:p u)(H1:q u)(H2:r u)(H3:i u)(H4:j u)(k:F u):∃u,p u/\q u/\r u/\i u/\j u/\F u:=⟨u,H0,H1,H2,H3,H4,k⟩
theorem xau{a:Sort _}{p:a->Prop}{q:a->Prop}{r:a->Prop}{i:a->Prop}{b:Sort _}{j:a->b->Prop}{F:a->b->Prop}(u:a)(H0:p u)(H1:q u)(H2:r u)(H3:i u)(v:b)(H4:j u v)(k:F u v):∃u,p u/\q u/\r u/\i u/\∃v,j u v/\F u v:=⟨u,H0,H1,H2,H3,v,H4,k⟩
theorem xao{a:Sort _}{p:a->Prop}{q:a->Prop}{b:Sort _}{r:a->b->Prop}{F:a->b->Prop}(u:a)(H0:p u)(H1:q u)(v:b)(H2:r u v)(k:F u v):∃u,p u/\q u/\∃v,r u v/\F u v:=⟨u,H0,H1,v,H2,k⟩
theorem xbj{a:Sort _}{p:a->Prop}{q:a->Prop}{b:Sort _}{c:Sort _}{r:a->b->c->Prop}{i:a->b->c->Prop}{F:a->b->c->Prop}(u:a)(H0:p u)(H1:q u)(v:b)(w:c)(H2:r u v w)(H3:i u v w)(k:F u v w):∃u,p u/\q u/\∃v,∃w,r u v w/\i u v w/\F u v w:=⟨u,H0,H1,v,w,H2,H3,k⟩
theorem xba{a:Sort _}{p:a->Prop}{b:Sort _}{q:a->b->Prop}{r:a->b->Prop}{F:a->b->Prop}(u:a)(H0:p u)(v:b)(H1:q u v)(H2:r u v)(k:F u v):∃u,p u/\∃v,q u v/\r u v/\F u v:=⟨u,H0,v,H1,H2,k⟩
theorem xcg{a:Sort _}{p:a->Prop}{b:Sort _}{q:a->b->Prop}{r:a->b->Prop}{c:Sort _}{i:a->b->c->Prop}{F:a->b->c->Prop}(u:a)(H0:p u)(v:b)(H1:q u v)(H2:r u v)(w:c)(H3:i u v w)(k:F u v w):∃u,p u/\∃v,q u v/\r u v/\∃w,i u v w/\F u v w:=⟨u,H0,v,H1,H2,w,H3,k⟩
theorem xbz{a:Sort _}{p:a->Prop}{b:Sort _}{q:a->b->Prop}{c:Sort _}{r:a->b->c->Prop}{d:Sort _}{i:a->b->c->d->Prop}{e:Sort _}{F:a->b->c->d->e->Prop}(u:a)(H0:p u)(v:b)(H1:q u v)(w:c)(H2:r u v w)(x:d)(H3:i u v w x)(y:e)(k:F u v w x y):∃u,p u/\∃v,q u v/\∃w,r u v w/\∃x,i u v w x/\∃y,F u v w x y:=⟨u,H0,v,H1,w,H2,x,H3,y,k⟩
theorem xa3{a:Sort _}{p:a->Prop}{b:Sort _}{q:a->b->Prop}{c:Sort _}{r:a->b->c->Prop}{d:Sort _}{i:a->b->c->d->Prop}{e:Sort _}{j:a->b->c->d->e->Prop}{F:a->b->c->d->e->Prop}(u:a)(H0:p u)(v:b)(H1:q u v)(w:c)(H2:r u v w)(x:d)(H3:i u v w x)(y:e)(H4:j u v w x y)(k:F u v w x y):∃u,p u/\∃v,q u v/\∃w,r u v w/\∃x,i u v w x/\∃y,j u v w x y/\F u v w x y:=⟨u,H0,v,H1,w,H2,x,H3,y,H4,k⟩
theorem xbf{a:Sort _}{p:a->Prop}{b:Sort _}{q:a->b->Prop}{c:Sort _}{r:a->b->c->Prop}{d:Sort _}{e:Sort _}{F:a->b->c->d->e->Prop}(u:a)(H0:p u)(v:b)(H1:q u v)(w:c)(H2:r u v w)(x:d)(y:e)(k:F u v w x y):∃u,p u/\∃v,q u v/\∃w,r u v w/\∃x,∃y,F u v w x y:=⟨u,H0,v,H1,w,H2,x,y,k⟩
theorem xa9{a:Sort _}{p:a->Prop}{b:Sort _}{q:a->b->Prop}{c:Sort _}{r:a->b->c->Prop}{d:Sort _}{e:Sort _}{i:a->b->c->d->e->Prop}{j:a->b->c->d->e->Prop}{F:a->b->c->d->e->Prop}(u:a)(H0:p u)(v:b)(H1:q u v)(w:c)(H2:r u v w)(x:d)(y:e)(H3:i u v w x y)(H4:j u v w x y)(k:F u v w x y):∃u,p u/\∃v,q u v/\∃w,r u v w/\∃x,∃y,i u v w x y/\j u v w x y/\F u v w x y:=⟨u,H0,v,H1,w,H2,x,y,H3,H4,k⟩
theorem xbo{a:Sort _}{p:a->Prop}{b:Sort _}{q:a->b->Prop}{c:Sort _}{d:Sort _}{r:a->b->c->d->Prop}{i:a->b->c->d->Prop}{e:Sort _}{F:a->b->c->d->e->Prop}(u:a)(H0:p u)(v:b)(H1:q u v)(w:c)(x:d)(H2:r u v w x)(H3:i u v w x)(y:e)(k:F u v w x y):∃u,p u/\∃v,q u v/\∃w,∃x,r u v w x/\i u v w x/\∃y,F u v w x y:=⟨u,H0,v,H1,w,x,H2,H3,y,k⟩
theorem xcb{a:Sort _}{p:a->Prop}{b:Sort _}{q:a->b->Prop}{c:Sort _}{d:Sort _}{r:a->b->c->d->Prop}{i:a->b->c->d->Prop}{e:Sort _}{j:a->b->c->d->e->Prop}{F:a->b->c->d->e->Prop}(u:a)(H0:p u)(v:b)(H1:q u v)(w:c)(x:d)(H2:r u v w x)(H3:i u v w x)(y:e)(H4:j u v w x y)(k:F u v w x y):∃u,p u/\∃v,q u v/\∃w,∃x,r u v w x/\i u v w x/\∃y,j u v w x y/\F u v w x y:=⟨u,H0,v,H1,w,x,H2,H3,y,H4,k⟩
theorem xah{a:Sort _}{p:a->Prop}{b:Sort _}{q:a->b->Prop}{c:Sort _}{d:Sort _}{e:Sort _}{F:a->b->c->d->e->Prop}(u:a)(H0:p u)(v:b)(H1:q u v)(w:c)(x:d)(y:e)(k:F u v w x y):∃u,p u/\∃v,q u v/\∃w,∃x,∃y,F u v w x y:=⟨u,H0,v,H1,w,x,y,k⟩
theorem xay{a:Sort _}{p:a->Prop}{b:Sort _}{q:a->b->Prop}{c:Sort _}{d:Sort _}{e:Sort _}{r:a->b->c->d->e->Prop}{i:a->b->c->d->e->Prop}{F:a->b->c->d->e->Prop}(u:a)(H0:p u)(v:b)(H1:q u v)(w:c)(x:d)(y:e)(H2:r u v w x y)(H3:i u v w x y)(k:F u v w x y):∃u,p u/\∃v,q u v/\∃w,∃x,∃y,r u v w x y/\i u v w x y/\F u v w x y:=⟨u,H0,v,H1,w,x,y,H2,H3,k⟩
theorem xcs{a:Sort _}{p:a->Prop}{b:Sort _}{c:Sort _}{q:a->b->c->Prop}{r:a->b->c->Prop}{F:a->b->c->Prop}(u:a)(H0:p u)(v:b)(w:c)(H1:q u v w)(H2:r u v w)(k:F u v w):∃u,p u/\∃v,∃w,q u v w/\r u v w/\F u v w:=⟨u,H0,v,w,H1,H2,k⟩
theorem xa8{a:Sort _}{p:a->Prop}{b:Sort _}{c:Sort _}{q:a->b->c->Prop}{r:a->b->c->Prop}{i:a->b->c->Prop}{F:a->b->c->Prop}(u:a)(H0:p u)(v:b)(w:c)(H1:q u v w)(H2:r u v w)(H3:i u v w)(k:F u v w):∃u,p u/\∃v,∃w,q u v w/\r u v w/\i u v w/\F u v w:=⟨u,H0,v,w,H1,H2,H3,k⟩
theorem xa2{a:Sort _}{p:a->Prop}{b:Sort _}{c:Sort _}{q:a->b->c->Prop}{r:a->b->c->Prop}{d:Sort _}{i:a->b->c->d->Prop}{F:a->b->c->d->Prop}(u:a)(H0:p u)(v:b)(w:c)(H1:q u v w)(H2:r u v w)(x:d)(H3:i u v w x)(k:F u v w x):∃u,p u/\∃v,∃w,q u v w/\r u v w/\∃x,i u v w x/\F u v w x:=⟨u,H0,v,w,H1,H2,x,H3,k⟩
theorem xbs{a:Sort _}{p:a->Prop}{b:Sort _}{c:Sort _}{q:a->b->c->Prop}{r:a->b->c->Prop}{d:Sort _}{e:Sort _}{i:a->b->c->d->e->Prop}{j:a->b->c->d->e->Prop}{F:a->b->c->d->e->Prop}(u:a)(H0:p u)(v:b)(w:c)(H1:q u v w)(H2:r u v w)(x:d)(y:e)(H3:i u v w x y)(H4:j u v w x y)(k:F u v w x y):∃u,p u/\∃v,∃w,q u v w/\r u v w/\∃x,∃y,i u v w x y/\j u v w x y/\F u v w x y:=⟨u,H0,v,w,H1,H2,x,y,H3,H4,k⟩
theorem xa1{a:Sort _}{p:a->Prop}{b:Sort _}{c:Sort _}{d:Sort _}{e:Sort _}{F:a->b->c->d->e->Prop}(u:a)(H0:p u)(v:b)(w:c)(x:d)(y:e)(k:F u v w x y):∃u,p u/\∃v,∃w,∃x,∃y,F u v w x y:=⟨u,H0,v,w,x,y,k⟩
theorem xaa{a:Sort _}{p:a->Prop}{b:Sort _}{c:Sort _}{d:Sort _}{e:Sort _}{q:a->b->c->d->e->Prop}{r:a->b->c->d->e->Prop}{i:a->b->c->d->e->Prop}{j:a->b->c->d->e->Prop}{F:a->b->c->d->e->Prop}(u:a)(H0:p u)(v:b)(w:c)(x:d)(y:e)(H1:q u v w x y)(H2:r u v w x y)(H3:i u v w x y)(H4:j u v w x y)(k:F u v w x y):∃u,p u/\∃v,∃w,∃x,∃y,q u v w x y/\r u v w x y/\i u v w x y/\j u v w x y/\F u v w x y:=⟨u,H0,v,w,x,y,H1,H2,H3,H4,k⟩
theorem jEE{a:Sort _}{b:Sort _}{F:a->b->Prop}(u:a)(v:b)(k:F u v):∃u,∃v,F u v:=⟨u,v,k⟩
theorem jEEA{a:Sort _}{b:Sort _}{p:a->b->Prop}{F:a->b->Prop}(u:a)(v:b)(H0:p u v)(k:F u v):∃u,∃v,p u v/\F u v:=⟨u,v,H0,k⟩
theorem xat{a:Sort _}{b:Sort _}{p:a->b->Prop}{q:a->b->Prop}{F:a->b->Prop}(u:a)(v:b)(H0:p u v)(H1:q u v)(k:F u v):∃u,∃v,p u v/\q u v/\F u v:=⟨u,v,H0,H1,k⟩
theorem xb0{a:Sort _}{b:Sort _}{p:a->b->Prop}{q:a->b->Prop}{r:a->b->Prop}{F:a->b->Prop}(u:a)(v:b)(H0:p u v)(H1:q u v)(H2:r u v)(k:F u v):∃u,∃v,p u v/\q u v/\r u v/\F u v:=⟨u,v,H0,H1,H2,k⟩
theorem xbk{a:Sort _}{b:Sort _}{p:a->b->Prop}{q:a->b->Prop}{r:a->b->Prop}{i:a->b->Prop}{F:a->b->Prop}(u:a)(v:b)(H0:p u v)(H1:q u v)(H2:r u v)(H3:i u v)(k:F u v):∃u,∃v,p u v/\q u v/\r u v/\i u v/\F u v:=⟨u,v,H0,H1,H2,H3,k⟩
theorem xas{a:Sort _}{b:Sort _}{p:a->b->Prop}{q:a->b->Prop}{r:a->b->Prop}{i:a->b->Prop}{j:a->b->Prop}{F:a->b->Prop}(u:a)(v:b)(H0:p u v)(H1:q u v)(H2:r u v)(H3:i u v)(H4:j u v)(k:F u v):∃u,∃v,p u v/\q u v/\r u v/\i u v/\j u v/\F u v:=⟨u,v,H0,H1,H2,H3,H4,k⟩
theorem xax{a:Sort _}{b:Sort _}{p:a->b->Prop}{q:a->b->Prop}{r:a->b->Prop}{c:Sort _}{d:Sort _}{i:a->b->c->d->Prop}{e:Sort _}{F:a->b->c->d->e->Prop}(u:a)(v:b)(H0:p u v)(H1:q u v)(H2:r u v)(w:c)(x:d)(H3:i u v w x)(y:e)(k:F u v w x y):∃u,∃v,p u v/\q u v/\r u v/\∃w,∃x,i u v w x/\∃y,F u v w x y:=⟨u,v,H0,H1,H2,w,x,H3,y,k⟩
theorem xan{a:Sort _}{b:Sort _}{p:a->b->Prop}{q:a->b->Prop}{c:Sort _}{d:Sort _}{r:a->b->c->d->Prop}{i:a->b->c->d->Prop}{e:Sort _}{F:a->b->c->d->e->Prop}(u:a)(v:b)(H0:p u v)(H1:q u v)(w:c)(x:d)(H2:r u v w x)(H3:i u v w x)(y:e)(k:F u v w x y):∃u,∃v,p u v/\q u v/\∃w,∃x,r u v w x/\i u v w x/\∃y,F u v w x y:=⟨u,v,H0,H1,w,x,H2,H3,y,k⟩
theorem jEEE{a:Sort _}{b:Sort _}{c:Sort _}{F:a->b->c->Prop}(u:a)(v:b)(w:c)(k:F u v w):∃u,∃v,∃w,F u v w:=⟨u,v,w,k⟩
theorem xc2{a:Sort _}{b:Sort _}{c:Sort _}{p:a->b->c->Prop}{q:a->b->c->Prop}{F:a->b->c->Prop}(u:a)(v:b)(w:c)(H0:p u v w)(H1:q u v w)(k:F u v w):∃u,∃v,∃w,p u v w/\q u v w/\F u v w:=⟨u,v,w,H0,H1,k⟩
theorem xdw{a:Sort _}{b:Sort _}{c:Sort _}{p:a->b->c->Prop}{q:a->b->c->Prop}{r:a->b->c->Prop}{F:a->b->c->Prop}(u:a)(v:b)(w:c)(H0:p u v w)(H1:q u v w)(H2:r u v w)(k:F u v w):∃u,∃v,∃w,p u v w/\q u v w/\r u v w/\F u v w:=⟨u,v,w,H0,H1,H2,k⟩
theorem xaq{a:Sort _}{b:Sort _}{c:Sort _}{p:a->b->c->Prop}{q:a->b->c->Prop}{r:a->b->c->Prop}{i:a->b->c->Prop}{F:a->b->c->Prop}(u:a)(v:b)(w:c)(H0:p u v w)(H1:q u v w)(H2:r u v w)(H3:i u v w)(k:F u v w):∃u,∃v,∃w,p u v w/\q u v w/\r u v w/\i u v w/\F u v w:=⟨u,v,w,H0,H1,H2,H3,k⟩
theorem xap{a:Sort _}{b:Sort _}{c:Sort _}{d:Sort _}{p:a->b->c->d->Prop}{q:a->b->c->d->Prop}{r:a->b->c->d->Prop}{i:a->b->c->d->Prop}{F:a->b->c->d->Prop}(u:a)(v:b)(w:c)(x:d)(H0:p u v w x)(H1:q u v w x)(H2:r u v w x)(H3:i u v w x)(k:F u v w x):∃u,∃v,∃w,∃x,p u v w x/\q u v w x/\r u v w x/\i u v w x/\F u v w x:=⟨u,v,w,x,H0,H1,H2,H3,k⟩
theorem xbg{a:Sort _}{b:Sort _}{c:Sort _}{d:Sort _}{p:a->b->c->d->Prop}{q:a->b->c->d->Prop}{r:a->b->c->d->Prop}{i:a->b->c->d->Prop}{j:a->b->c->d->Prop}{F:a->b->c->d->Prop}(u:a)(v:b)(w:c)(x:d)(H0:p u v w x)(H1:q u v w x)(H2:r u v w x)(H3:i u v w x)(H4:j u v w x)(k:F u v w x):∃u,∃v,∃w,∃x,p u v w x/\q u v w x/\r u v w x/\i u v w x/\j u v w x/\F u v w x:=⟨u,v,w,x,H0,H1,H2,H3,H4,k⟩
theorem xca{a:Sort _}{b:Sort _}{c:Sort _}{d:Sort _}{p:a->b->c->d->Prop}{q:a->b->c->d->Prop}{r:a->b->c->d->Prop}{i:a->b->c->d->Prop}{j:a->b->c->d->Prop}{g:a->b->c->d->Prop}{F:a->b->c->d->Prop}(u:a)(v:b)(w:c)(x:d)(H0:p u v w x)(H1:q u v w x)(H2:r u v w x)(H3:i u v w x)(H4:j u v w x)(H5:g u v w x)(k:F u v w x):∃u,∃v,∃w,∃x,p u v w x/\q u v w x/\r u v w x/\i u v w x/\j u v w x/\g u v w x/\F u v w x:=⟨u,v,w,x,H0,H1,H2,H3,H4,H5,k⟩
theorem xbu{a:Sort _}{b:Sort _}{c:Sort _}{d:Sort _}{p:a->b->c->d->Prop}{q:a->b->c->d->Prop}{r:a->b->c->d->Prop}{i:a->b->c->d->Prop}{e:Sort _}{F:a->b->c->d->e->Prop}(u:a)(v:b)(w:c)(x:d)(H0:p u v w x)(H1:q u v w x)(H2:r u v w x)(H3:i u v w x)(y:e)(k:F u v w x y):∃u,∃v,∃w,∃x,p u v w x/\q u v w x/\r u v w x/\i u v w x/\∃y,F u v w x y:=⟨u,v,w,x,H0,H1,H2,H3,y,k⟩
theorem xav{a:Sort _}{b:Sort _}{c:Sort _}{d:Sort _}{e:Sort _}{F:a->b->c->d->e->Prop}(u:a)(v:b)(w:c)(x:d)(y:e)(k:F u v w x y):∃u,∃v,∃w,∃x,∃y,F u v w x y:=⟨u,v,w,x,y,k⟩
theorem xck{a:Sort _}{b:Sort _}{c:Sort _}{d:Sort _}{e:Sort _}{p:a->b->c->d->e->Prop}{q:a->b->c->d->e->Prop}{r:a->b->c->d->e->Prop}{i:a->b->c->d->e->Prop}{F:a->b->c->d->e->Prop}(u:a)(v:b)(w:c)(x:d)(y:e)(H0:p u v w x y)(H1:q u v w x y)(H2:r u v w x y)(H3:i u v w x y)(k:F u v w x y):∃u,∃v,∃w,∃x,∃y,p u v w x y/\q u v w x y/\r u v w x y/\i u v w x y/\F u v w x y:=⟨u,v,w,x,y,H0,H1,H2,H3,k⟩
theorem xag{a:Sort _}{b:Sort _}{c:Sort _}{d:Sort _}{e:Sort _}{p:a->b->c->d->e->Prop}{q:a->b->c->d->e->Prop}{r:a->b->c->d->e->Prop}{i:a->b->c->d->e->Prop}{j:a->b->c->d->e->Prop}{F:a->b->c->d->e->Prop}(u:a)(v:b)(w:c)(x:d)(y:e)(H0:p u v w x y)(H1:q u v w x y)(H2:r u v w x y)(H3:i u v w x y)(H4:j u v w x y)(k:F u v w x y):∃u,∃v,∃w,∃x,∃y,p u v w x y/\q u v w x y/\r u v w x y/\i u v w x y/\j u v w x y/\F u v w x y:=⟨u,v,w,x,y,H0,H1,H2,H3,H4,k⟩
end
section
namespace L2
open PySem PySem.Spec PyProof.Rows
abbrev Key:=Sum Int Str
def xl9:Key->Value->Bool
 |.inl k,v=>Value.isInt k v
 |.inr x,v=>Value.isStrOf x v
def keyH(w:World):Key->Int
 |.inl k=>hashInt k
 |.inr x=>hashStr w x
theorem xb2:∀{k:Key} {v:Value},xl9 k v=true->(∃i t,k=Sum.inl i/\v=Value.int i t)\/(∃x t,k=Sum.inr x/\v=Value.str x t)
 |.inl i,v,h=>by
  obtain⟨t,e⟩:=Value.isInt_shape (k:=i) (v:=v) h;exact .inl ⟨i,t,rfl,e⟩
 |.inr x,v,h=>by
  obtain⟨t,e⟩:=Value.isStrOf_shape (x:=x) (v:=v) h;exact .inr ⟨x,t,rfl,e⟩
theorem xoa(i:Int)(t:Tok):xl9 (.inl i) (.int i t)=true:=by simp[xl9,Value.isInt]
theorem xn9(x:Str)(t:Tok):xl9 (.inr x) (.str x t)=true:=by simp[xl9,Value.isStrOf]
theorem xuf(a b:Int):decide ((Sum.inl a:Key)=Sum.inl b)=(a == b):=by
 by_cases e:a=b
 ·subst e;simp
 ·have h:¬(Sum.inl a:Key)=Sum.inl b:=λq=>e (Sum.inl.inj q)
  rw[zDF h];exact(beq_eq_false_iff_ne.mpr e).symm
theorem xuc(a b:Str):decide ((Sum.inr a:Key)=Sum.inr b)=decide (a=b):=by
 by_cases e:a=b
 ·subst e;simp
 ·have h:¬(Sum.inr a:Key)=Sum.inr b:=λq=>e (Sum.inr.inj q)
  rw[zDF h,zDF e]
theorem xue(a:Int)(b:Str):decide ((Sum.inl a:Key)=Sum.inr b)=false:=zDF (λq=>nomatch q)
theorem xud(a:Str)(b:Int):decide ((Sum.inr a:Key)=Sum.inl b)=false:=zDF (λq=>nomatch q)
def xby(prog:Program)(w:World):PySem.KeyKind prog w Key where
 is:=xl9
 hash:=keyH w
 inj:=λv a b ha hb=>by
  rcases xb2 ha with⟨i,t,rfl,rfl⟩ |⟨x,t,rfl,rfl⟩
  ·rcases xb2 hb with⟨j,u,rfl,e⟩ |⟨y,u,rfl,e⟩
   ·injection e with e1 _;rw[e1]
   ·exact nomatch e
  ·rcases xb2 hb with⟨j,u,rfl,e⟩ |⟨y,u,rfl,e⟩
   ·exact nomatch e
   ·injection e with e1 _;rw[e1]
 byValue:=λk v h=>by
  rcases xb2 h with⟨i,t,rfl,rfl⟩ |⟨x,t,rfl,rfl⟩ <;> rfl
 pyHash:=λhv h=>by
  rcases xb2 hv with⟨i,t,rfl,rfl⟩ |⟨x,t,rfl,rfl⟩
  ·exact wpAny_pyHash_int h
  ·exact wpAny_pyHash_str h
 eqBool:=λhu hv h=>by
  rcases xb2 hu with⟨i,t,rfl,rfl⟩ |⟨x,t,rfl,rfl⟩
  ·rcases xb2 hv with⟨j,u,rfl,rfl⟩ |⟨y,u,rfl,rfl⟩
   ·rw[xuf]at h;exact wpAny_eqBool_int h
   ·rw[xue]at h;exact SeqAt.EqAt.int_str i t y u _ _ _ _ h
  ·rcases xb2 hv with⟨j,u,rfl,rfl⟩ |⟨y,u,rfl,rfl⟩
   ·rw[xud]at h;exact SeqAt.EqAt.str_int x t j u _ _ _ _ h
   ·rw[xuc]at h;exact wpAny_eqBool_str h
 «strs»:=λk x t v h=>by
  rcases xb2 h with⟨i,u,rfl,e⟩ |⟨y,u,rfl,e⟩
  ·exact nomatch e
  ·injection e with e1 _
   subst e1;cases v <;> rfl
theorem xj2(prog:Program)(w:World)(i:Int)(t:Tok):(xby prog w).is (.inl i) (.int i t)=true:=xoa i t
theorem xj1(prog:Program)(w:World)(x:Str)(t:Tok):(xby prog w).is (.inr x) (.str x t)=true:=xn9 x t
inductive V where
 |non |bl (b:Bool) |int (i:Int) |str (x:Str) |byt (b:Array UInt8) |flt (b:UInt64) |ref (a:Addr) |ty (n:String)
 deriving DecidableEq
def RelV:V->Value->Prop
 |.non,u=>u=Value.none
 |.bl b,u=>u=Value.bool b
 |.int i,u=>∃t,u=Value.int i t
 |.str x,u=>∃t,u=Value.str x t
 |.byt b,u=>∃t,u=Value.bytes b t
 |.flt b,u=>∃t,u=Value.float b t
 |.ref a,u=>u=Value.ref a
 |.ty n,u=>u=Value.type n
abbrev Vals:List V->List Value->Prop:=Paired RelV
theorem Vals.length{xs:List V}{us:List Value}(r:Vals xs us):xs.length=us.length:=Paired.length r
theorem Vals.get:∀{xs:List V} {us:List Value} {i:Nat} {x:V},Vals xs us->xs[i]?=some x->∃u,us[i]?=some u/\RelV x u
 |_,_,_,_,.nil,e=>by simp at e
 |_,_,0,_,.cons r _,e=>by simp at e;subst e;exact⟨_,rfl,r⟩
 |_,_,i+1,x,.cons _ t,e=>by
  obtain⟨u,h1,h2⟩:=Vals.get (i:=i) (x:=x) t (by simpa using e);exact⟨u,by simpa using h1,h2⟩
theorem Vals.set{x:V}{u:Value}(r:RelV x u):∀{xs:List V} {us:List Value} (i:Nat),Vals xs us->Vals (xs.set i x) (us.set i u)
 |_,_,_,.nil=>.nil
 |_,_,0,.cons _ t=>.cons r t
 |_,_,i+1,.cons q t=>.cons q (Vals.set r i t)
theorem Vals.append:∀{xs ys:List V} {us ws:List Value},Vals xs us->Vals ys ws->Vals (xs++ys) (us++ws)
 |_,_,_,_,.nil,s=>s
 |_,_,_,_,.cons r t,s=>.cons r (Vals.append t s)
theorem Vals.take:∀{xs:List V} {us:List Value} (n:Nat),Vals xs us->Vals (xs.take n) (us.take n)
 |_,_,0,_=>.nil
 |_,_,_+1,.nil=>.nil
 |_,_,n+1,.cons r t=>.cons r (Vals.take n t)
theorem Vals.drop:∀{xs:List V} {us:List Value} (n:Nat),Vals xs us->Vals (xs.drop n) (us.drop n)
 |_,_,0,r=>r
 |_,_,_+1,.nil=>.nil
 |_,_,n+1,.cons _ t=>Vals.drop n t
def RelO:Option V->Option Value->Prop
 |some v,some u=>RelV v u
 |none,none=>True
 |_,_=>False
def KV{κ:Type}:List (κ×V)->List (κ×Value)->Prop:=Paired λ(p:κ×V) (q:κ×Value)=>p.1=q.1/\RelV p.2 q.2
def kV:Key->V
 |.inl i=>.int i
 |.inr x=>.str x
inductive HO where
 |lst (xs:List V)
 |tup (xs:List V)
 |dK (kvs:List (Key×V)) |dT (kvs:List (List Key×V))
 |set (S:Int->Bool) (n:Nat)
 |ins (C dx:Addr) (fs:List (Str×V))
 |own (x:Addr)
 |xd (fs:List (Str×V))
 |met (f x:Addr)
 |rng (lo hi:Int)
 |frz (o:Obj) (u:HO)
 |tbl (ps:Array Value)
 |ext (φ:Heap->Prop)
abbrev Hp:=Addr->Option HO
def upd(H:Hp)(a:Addr)(o:HO):Hp:=λb=>if b=a then some o else H b
theorem ups{H:Hp}{a:Addr}{o:HO}:upd H a o a=some o:=by unfold upd;rw[if_pos rfl]
theorem xaw{H:Hp}{a b:Addr}{o:HO}(h:b≠a):upd H a o b=H b:=by unfold upd;rw[if_neg h]
theorem xvu{H:Hp}{a b:Addr}{o u:HO}(h:H a=some o)(h':H b=some u)(d:o≠u):a≠b:=by
 intro e;subst e;rw[h]at h';exact d (Option.some.inj h')
theorem neN{H:Hp}{a b:Addr}{o:HO}(h:H a=some o)(h':H b=none):a≠b:=by
 intro e;subst e;rw[h]at h';cases h'
section
variable (P:Program)(w:World)
def ObjOk(H:Hp)(h:Heap)(a:Addr):HO->Prop
 |.lst xs=>xs.length<=sizeLine/\∃(its:List Value) (n:Nat),Vals xs its/\h.get? a=some {cls:=.type "list",data:=.seq its.toArray n}
 |.tup xs=>xs.length<=sizeLine/\∃its:List Value,Vals xs its/\∃o,h.get? a=some o/\o.cls=.type "tuple"/\∃n,o.data=.seq its.toArray n/\o.dict=none
 |.dK kvs=>kvs.length<=sizeLine/\(a == sysModules)=false/\∃vs,KV kvs vs/\h.DictOf (xby P w) a vs
 | .dT kvs=>kvs.length<=sizeLine/\(a == sysModules)=false/\∃xs:List (List Key×Addr×Value),
   Paired (λ(p:List Key×V) (q:List Key×Addr×Value)=>p.1=q.1/\H q.2.1=some (.tup (p.1.map kV))/\RelV p.2 q.2.2) kvs xs ∧
   ∃o es ep,h.get? a=some o/\o.ExactDict/\o.data=.dict es ep/\es.toList=xs.map (entryOfKey (tupleKind (xby P w)))/\(xs.map (·.1)).Nodup
 |.set S n=>h.SetOf (intKind P w) a S n
 | .ins C dx fs=>H dx=some (.own a)/\fs.length<=1000/\dx≠a/\h.get? a=some (PySem.W.instObj C dx) ∧
   ∃mA,h.Ns1 dx mA/\(∀f,RelO (fs.lookup f) (mA f))/\PySem.Within mA (fs.map (·.1))
 |.own _=>∃o,h.get? a=some o
 |.xd fs=>∃mA,h.Ns1 a mA/\∀f,RelO (fs.lookup f) (mA f)
 |.rng lo hi=>∃t u v,h.get? a=some {cls:=.type "range",data:=.fields #[.int lo t,.int hi u,.int 1 v]}
 |.frz o u=>h.get? a=some o/\ObjOk H h a u
 |.tbl ps=>h.get? a=some {cls:=.none,data:=.fields ps}
 |.met f x=>h.get? a=some (PySem.W.methodObj (.ref f) (.ref x))
 |.ext φ=>φ h/\(∃o,h.get? a=some o)/\∀h1 h2:Heap,φ h1->(∀o,h1.get? a=some o->h2.get? a=some o)->φ h2
def HOk(H:Hp)(h:Heap):Prop:=∀a o,H a=some o->ObjOk P w H h a o
end
section
variable {P:Program}{w:World}{H H':Hp}{h h':Heap}{a:Addr}{o:HO}
theorem ObjOk.lt(x:ObjOk P w H h a o):a<h.objs.size:=by
 cases o with
 |lst xs=>obtain⟨_,_,_,_,e⟩:=x;exact Heap.lt_size e
 |tup xs=>obtain⟨_,_,_,_,e,_⟩:=x;exact Heap.lt_size e
 |dK kvs=>obtain⟨_,_,_,_,o,_,_,e,_⟩:=x;exact Heap.lt_size e
 |dT kvs=>obtain⟨_,_,_,_,o,_,_,e,_⟩:=x;exact Heap.lt_size e
 |set S n=>obtain⟨o,_,_,_,e,_⟩:=x;exact Heap.lt_size e
 |ins C dx fs=>obtain⟨_,_,_,e,_⟩:=x;exact Heap.lt_size e
 |own y=>obtain⟨_,e⟩:=x;exact Heap.lt_size e
 |xd fs=>obtain⟨_,⟨_,_,_,e,_⟩,_⟩:=x;exact Heap.lt_size e
 |rng lo hi=>obtain⟨_,_,_,e⟩:=x;exact Heap.lt_size e
 |frz b u=>obtain⟨e,_⟩:=x;exact Heap.lt_size e
 |tbl ps=>exact Heap.lt_size (show h.get? a=some _ from x)
 |met f y=>exact Heap.lt_size (show h.get? a=some _ from x)
 |ext φ=>obtain⟨_,⟨_,e⟩,_⟩:=x;exact Heap.lt_size e
theorem Paired.mapP{α β:Type}{F G:α->β->Prop}:∀{e:List α} {c:List β},Paired F e c->(∀a b,F a b->G a b)->Paired G e c
 |_,_,.nil,_=>.nil
 |_,_,.cons r t,f=>.cons (f _ _ r) (Paired.mapP t f)
theorem ObjOk.stay (x:ObjOk P w H h a o) (k:∀b u,(b=a\/H b=some (.own a))->h.get? b=some u->h'.get? b=some u)
  (ho:∀b,H b=some (.own a)->H' b=some (.own a)) (ht:∀b xs,H b=some (.tup xs)->H' b=some (.tup xs)):ObjOk P w H' h' a o:=by
 induction o with
 |lst xs=>obtain⟨z,its,n,r,e⟩:=x;exact⟨z,its,n,r,k _ _ (.inl rfl) e⟩
 |tup xs=>obtain⟨z,its,r,ob,e,c⟩:=x;exact⟨z,its,r,ob,k _ _ (.inl rfl) e,c⟩
 |dK kvs=>obtain⟨z,y,vs,r,ob,es,ep,e,c⟩:=x;exact⟨z,y,vs,r,ob,es,ep,k _ _ (.inl rfl) e,c⟩
 |dT kvs=>
  obtain⟨z,y,xs,r,ob,es,ep,e,c⟩:=x;exact⟨z,y,xs,Paired.mapP r λp q z=>⟨z.1,ht _ _ z.2.1,z.2.2⟩,ob,es,ep,k _ _ (.inl rfl) e,c⟩
 |set S n=>obtain⟨ob,es,ep,t,e,c⟩:=x;exact⟨ob,es,ep,t,k _ _ (.inl rfl) e,c⟩
 |ins C dx fs=>
  obtain⟨d,z,ne,e,mA,⟨od,es,ep,e2,c⟩,r⟩:=x;exact⟨ho _ d,z,ne,k _ _ (.inl rfl) e,mA,⟨od,es,ep,k _ _ (.inr d) e2,c⟩,r⟩
 |own y=>obtain⟨ob,e⟩:=x;exact⟨ob,k _ _ (.inl rfl) e⟩
 |xd fs=>obtain⟨mA,⟨od,es,ep,e,c⟩,r⟩:=x;exact⟨mA,⟨od,es,ep,k _ _ (.inl rfl) e,c⟩,r⟩
 |rng lo hi=>obtain⟨t,u,v,e⟩:=x;exact⟨t,u,v,k _ _ (.inl rfl) e⟩
 |frz ob u ih=>obtain⟨e,q⟩:=x;exact⟨k _ _ (.inl rfl) e,ih q⟩
 |tbl ps=>
  have e:h.get? a=some {cls:=.none,data:=.fields ps}:=x;show h'.get? a=some {cls:=.none,data:=.fields ps};exact k a _ (.inl rfl) e
 |met f y=>
  have e:h.get? a=some (PySem.W.methodObj (.ref f) (.ref y)):=x;show h'.get? a=some (PySem.W.methodObj (.ref f) (.ref y));exact k a _ (.inl rfl) e
 |ext φ=>obtain⟨p,⟨o,e⟩,st⟩:=x;exact⟨st _ _ p λo q=>k _ _ (.inl rfl) q,⟨o,k _ _ (.inl rfl) e⟩,st⟩
theorem HOk.lt(x:HOk P w H h)(e:H a=some o):a<h.objs.size:=(x a o e).lt
theorem HOk.fresh(x:HOk P w H h)(e:h.objs.size<=a):H a=none:=by
 cases q:H a with
 |none=>rfl
 |some u=>exact absurd (Nat.lt_of_lt_of_le (x.lt q) e) (Nat.lt_irrefl _)
theorem HOk.kept(x:HOk P w H h)(k:∀b u,h.get? b=some u->h'.get? b=some u):HOk P w H h':=λa o e=>
 (x a o e).stay (λb u _ q=>k b u q) (λ_ q=>q) λ_ _ q=>q
theorem HOk.laid(x:HOk P w H h)(k:∀b u,h.get? b=some u->h'.get? b=some u)(hp:h.objs.size<=a)(new:ObjOk P w (upd H a o) h' a o):HOk P w (upd H a o) h':=λb u e=>by
 have hn:=x.fresh hp;by_cases hb:b=a
 ·subst hb;rw[ups]at e;cases e;exact new
 ·rw[xaw hb]at e
  exact(x b u e).stay (λc v _ q=>k c v q) (λc q=>by rw[xaw (neN q hn)];exact q) λc xs q=>by rw[xaw (neN q hn)];exact q
end
def Rd(H:Hp)(a:Addr)(u:HO):Prop:=H a=some u\/∃o,H a=some (.frz o u)
theorem Rd.ok{P:Program}{w:World}{H:Hp}{h:Heap}{a:Addr}{u:HO}(r:Rd H a u)(x:HOk P w H h):ObjOk P w H h a u:=by
 rcases r with r |⟨o,r⟩
 ·exact x a u r
 ·obtain⟨_,q⟩:=x a _ r
  exact q
def Mut:Option HO->Prop
 |some (.lst _)=>True
 |some (.dK _)=>True
 |some (.dT _)=>True
 |some (.set _ _)=>True
 |some (.ins _ _ _)=>True
 |some (.ext _)=>True
 |_=>False
section
variable {P:Program}{w:World}{H:Hp}{h h':Heap}{x e:Addr}{o':HO}
theorem HOk.write (ok:HOk P w H h) (mu:Mut (H x)) (he:e=x\/H e=some (.own x)) (k:∀b u,b≠e->h.get? b=some u->h'.get? b=some u) (heo:∃u,h'.get? e=some u)
  (new:ObjOk P w (upd H x o') h' x o'):HOk P w (upd H x o') h':=λb u q=>by
 have nown:∀c y,H c=some (.own y)->c≠x:=λc y r z=>by subst z;rw[r]at mu;exact mu
 have ntup:∀c xs,H c=some (.tup xs)->c≠x:=λc xs r z=>by subst z;rw[r]at mu;exact mu
 by_cases hb:b=x
 ·subst hb;rw[ups]at q;cases q;exact new
 ·rw[xaw hb]at q
  by_cases hbe:b=e
  ·have q':H b=some (.own x):=by
    rcases he with z |z
    ·exact absurd (hbe.trans z) hb
    ·rw[hbe];exact z
   rw[q]at q';cases q';obtain⟨v,hv⟩:=heo;exact⟨v,by rw[hbe];exact hv⟩
  ·refine(ok b u q).stay (λc v hc r=>k c v ?_ r) (λc r=>by rw[xaw (nown c b r)];exact r) λc xs r=>by rw[xaw (ntup c xs r)];exact r
   rcases hc with rfl |hc
   ·exact hbe
   ·rintro rfl
    rcases he with z |z
    ·exact nown c b hc z
    ·rw[hc]at z;cases z;exact hb rfl
end
structure Un(fs ex:List Addr)(H H':Hp)(h h':Heap):Prop where
 keep:∀b o,h.get? b=some o->H b=none->b ∉fs->b ∉ex->h'.get? b=some o
 slot:∀b o,h.get? b=some o->H b=none->b∈fs->b ∉ex->∃sl,h'.get? b=some {o with slots:=sl}
 free:∀b o,h.get? b=some o->H b=none->b ∉ex->H' b=none
 there:∀b o,h.get? b=some o->b ∉ex->∃o',h'.get? b=some o'
 tups:∀b xs,H b=some (.tup xs)->H' b=some (.tup xs)
 frzs:∀b o u,H b=some (.frz o u)->H' b=some (.frz o u)
 tbls:∀b ps,H b=some (.tbl ps)->∃more,H' b=some (.tbl (ps++more))
section
variable {fs fs' ex ex':List Addr}{H H1 H2:Hp}{h h1 h2 h':Heap}{a x e:Addr}{o:HO}
theorem Un.any(u:Un fs ex H H1 h h1){b:Addr}{a:Obj}(q:h.get? b=some a)(n:H b=none)(c:b ∉ex):∃sl,h1.get? b=some {a with slots:=sl}:=by
 by_cases e:b∈fs
 ·exact u.slot b a q n e c
 ·exact⟨a.slots,u.keep b a q n e c⟩
theorem Un.kept(k:∀b u,h.get? b=some u->h'.get? b=some u):Un fs ex H H h h':=
 ⟨λb a q _ _ _=>k b a q,λb a q _ _ _=>⟨a.slots,k b a q⟩,λ_ _ _ n _=>n,λb a q _=>⟨a,k b a q⟩,λ_ _ q=>q,λ_ _ _ q=>q,λ_ ps q=>⟨#[],by rw[q];simp⟩⟩
theorem Un.refl:Un fs ex H H h h:=Un.kept λ_ _ q=>q
theorem Un.laid(k:∀b u,h.get? b=some u->h'.get? b=some u)(c:h.objs.size<=a)(hn:H a=none):Un fs ex H (upd H a o) h h' where
 keep:=λb u q _ _ _=>k b u q
 slot:=λb u q _ _ _=>⟨u.slots,k b u q⟩
 free:=λb u q n _=>by rw[xaw (Nat.ne_of_lt (Nat.lt_of_lt_of_le (Heap.lt_size q) c))];exact n
 there:=λb u q _=>⟨u,k b u q⟩
 tups:=λb xs q=>by rw[xaw (neN q hn)];exact q
 frzs:=λb u xs q=>by rw[xaw (neN q hn)];exact q
 tbls:=λb ps q=>⟨#[],by rw[xaw (neN q hn),q];simp⟩
theorem Un.write(c:Mut (H x))(l:e=x\/H e=some (.own x))(k:∀b u,b≠e->h.get? b=some u->h'.get? b=some u)(g:∃u,h'.get? e=some u):Un fs ex H (upd H x o) h h':=by
 have i:∀b,H b=none->b≠x:=λb n z=>by subst z;rw[n]at c;exact c
 have j:∀b,H b=none->b≠e:=λb n z=>by
  subst z;rcases l with r |r
  ·exact i b n r
  ·rw[n]at r;cases r
 have f:∀b u,H b=some u->¬Mut (some u)->b≠x:=λb u q nm z=>by subst z;rw[q]at c;exact nm c
 refine⟨λb u q n _ _=>k b u (j b n) q,λb u q n _ _=>⟨u.slots,k b u (j b n) q⟩,λb u q n _=>by rw[xaw (i b n)];exact n,λb u q _=>?_,
  λb xs q=>by rw[xaw (f b _ q λz=>z)];exact q,λb u xs q=>by rw[xaw (f b _ q λz=>z)];exact q,λb ps q=>⟨#[],by rw[xaw (f b _ q λz=>z),q];simp⟩⟩
 by_cases a:b=e
 ·subst a;exact g
 ·exact⟨u,k b u a q⟩
end
def trk(h:Heap)(H:Hp):List Addr:=(List.range h.objs.size).filter λa=>(H a).isSome
def hidT(h:Heap)(H:Hp):Heap:=PySem.W.hideAll h (trk h H)
theorem xoh(h:Heap)(H:Hp):(hidT h H).objs.size=h.objs.size:=PySem.W.hideAll_size _ _
theorem xp1{h:Heap}{H:Hp}{b:Addr}{o:Obj}(e:h.get? b=some o)(n:H b=none):(hidT h H).get? b=some o:=
 PySem.W.hideAll_get _ e λa=>by
  have q:(H b).isSome=true:=(List.mem_filter.mp a).2;rw[n]at q;simp at q
theorem xr3{h:Heap}{H:Hp}{b:Addr}{o:Obj}(e:(hidT h H).get? b=some o):h.get? b=some o/\H b=none:=by
 have a:h.get? b=some o:=PySem.W.of_hideAll (trk h H) e;refine⟨a,?_⟩
 cases q:H b with
 |none=>rfl
 |some x=>
  have c:b∈trk h H:=List.mem_filter.mpr ⟨List.mem_range.mpr (Heap.lt_size a),by simp[q]⟩;have z:(hidT h H).get? b=none:=PySem.W.hideAll_none (trk h H) c;rw[z]at e;cases e
structure Mod(K:Fg)(mg:Str->Option Value)(base:Heap):Prop where
 kin:K.In base
 glob:base.Ns mainGlobals mg
 blt:∃mb,base.Ns builtinsNs mb/\∀x:Str,x≠"__name__"->mb x=bootBuiltins x
 nolimit:base.NoLimit
structure Cx where
 prog:Program
 w:World
 K:Fg
 mg:Str->Option Value
 base:Heap
 A:Around
 N:List Str
 s₀:Shared
 H₀:Hp
 env:Env
 outer:List Env
 stack:List Env
 ex:List Addr
 fn:Str->Bool
 calm:Bool
 pn:List (Addr×Obj)
 xe:Value->Shared->Prop
def frs(l:List Env):List Addr:=l.filterMap (·.frame)
abbrev Cx.fs(X:Cx):List Addr:=frs X.outer
def Vis(sc:Scope)(x:Str):Prop:=sc.names.lookup x=some .local\/sc.names.lookup x=some .cell\/sc.names.lookup x=some .free
def Loc(sc:Scope)(x:Str):Prop:=sc.names.lookup x=some .local\/sc.names.lookup x=some .cell
def Look(env:Env)(h:Heap)(m:Str->Option Value)(x:Str)(u:Value):Prop:=
 (env.kindOf x=some .local/\m x=some u)\/((env.kindOf x=some .cell\/env.kindOf x=some .free)/\∃c,env.cells.lookup x=some c/\h.IsCell c (some u))
structure Cx.Ok(X:Cx):Prop where
 mod:Mod X.K X.mg X.base
 kind:X.env.scope.kind=.function
 glob:X.env.globals=mainGlobals
 blt:X.env.builtins=builtinsNs
 above:X.s₀.heap.objs.size<=X.env.locals
 inj:∀x y c,X.env.cells.lookup x=some c->X.env.cells.lookup y=some c->x=y
 has:∀x,(X.env.kindOf x=some .cell\/X.env.kindOf x=some .free)->∃c,X.env.cells.lookup x=some c
 cab:∀x c,X.fn x=true->X.env.cells.lookup x=some c->X.s₀.heap.objs.size<=c
 hd:X.calm=true->X.A.handled=none
 frames:X.A.frames=some X.stack
 stk:X.stack=X.outer\/(X.stack=X.env::X.outer/\X.env.frame=some X.env.locals)
 exf:∀b∈X.ex,b≠X.env.locals/\∀x c,X.env.cells.lookup x=some c->c≠b
 bs:∀b o,X.base.get? b=some o->X.s₀.heap.get? b=some o/\X.H₀ b=none
 bsz:X.base.objs.size<=X.s₀.heap.objs.size
 noex:∀b o,X.base.get? b=some o->b ∉X.ex
 exfs:∀b∈X.ex,b ∉X.fs
 funs:X.s₀.heap.FunFrames X.base X.outer
 frf:∀b∈X.fs,X.H₀ b=none
structure Inv(X:Cx)(pins:List (Addr×Obj))(σ:List (Option V))(H:Hp)(s:Shared):Prop where
 ok:X.Ok
 os:s.os=X.s₀.os
 bare:AllBare s.gens
 base:Un X.fs X.ex X.H₀ H X.s₀.heap s.heap
 loc:∃m,s.heap.Ns X.env.locals m/\∀(i:Nat) (x:Str) (v:V),X.N[i]?=some x->σ[i]?=some (some v)->Vis X.env.scope x->∃u,RelV v u/\Look X.env s.heap m x u
 cell:∀x c,X.env.cells.lookup x=some c->∃v,s.heap.IsCell c v
 free:H X.env.locals=none
 freeC:∀x c,X.env.cells.lookup x=some c->H c=none
 pin:∀p∈X.pn++pins,s.heap.get? p.1=some p.2/\H p.1=none/\p.1≠X.env.locals/\p.1 ∉X.fs/\∀v,p.2.data≠.cell v
 hok:HOk X.prog X.w H s.heap
 len:σ.length=X.N.length
section
variable {X:Cx}{pins:List (Addr×Obj)}{σ:List (Option V)}{H H':Hp}{s:Shared}{h':Heap}
theorem Cx.Ok.nofr(ok:X.Ok){b:Addr}{o:Obj}(e:X.base.get? b=some o):b ∉X.fs:=λa=>by
 have:=(ok.funs.mem a).1;rw[e]at this;cases this
theorem Inv.bs(I:Inv X pins σ H s):∀b o,X.base.get? b=some o->s.heap.get? b=some o/\H b=none:=λb o e=>
 ⟨I.base.keep b o (I.ok.bs b o e).1 (I.ok.bs b o e).2 (I.ok.nofr e) (I.ok.noex b o e),I.base.free b o (I.ok.bs b o e).1 (I.ok.bs b o e).2 (I.ok.noex b o e)⟩
theorem Inv.bk(I:Inv X pins σ H s):∀b o,X.base.get? b=some o->s.heap.get? b=some o:=λb o e=>(I.bs b o e).1
theorem Inv.mod(I:Inv X pins σ H s):Mod X.K X.mg X.base:=I.ok.mod
theorem Inv.kIn(I:Inv X pins σ H s):X.K.In s.heap:=I.ok.mod.kin.keeps I.bk
theorem Inv.lt(I:Inv X pins σ H s):X.env.locals<s.heap.objs.size:=let ⟨_,hn,_⟩:=I.loc;hn.lt
theorem Inv.sz(I:Inv X pins σ H s):X.s₀.heap.objs.size<=s.heap.objs.size:=Nat.le_trans I.ok.above (Nat.le_of_lt I.lt)
theorem Inv.nofs(I:Inv X pins σ H s){a:Addr}(h:s.heap.objs.size<=a):a ∉X.fs:=λc=>by
 obtain⟨_,o,b,_⟩:=I.ok.funs.mem c;exact absurd (Nat.lt_of_lt_of_le (Heap.lt_size b) (Nat.le_trans I.sz h)) (Nat.lt_irrefl _)
theorem Inv.cne(I:Inv X pins σ H s):∀x c,X.env.cells.lookup x=some c->c≠X.env.locals:=λx c e z=>by
 obtain⟨v,o,f,hd⟩:=I.cell x c e;obtain⟨m,⟨o',es,ep,a,b,_⟩,_⟩:=I.loc;rw[z,a]at f;cases f;rw[b]at hd;cases hd
theorem Inv.funs(I:Inv X pins σ H s):s.heap.FunFrames X.base X.outer:=by
 have all:∀(l:List Env),(∀b∈frs l,b∈X.fs)->X.s₀.heap.FunFrames X.base l->s.heap.FunFrames X.base l:=by
  intro l
  induction l with
  |nil=>intro _ _;trivial
  |cons env r g=>
   intro hs j;obtain⟨m,⟨L,o,a,hn,i,hd⟩,h⟩:=j;have f:L∈X.fs:=hs L (by unfold frs;rw[List.filterMap_cons,a];exact List.mem_cons_self);obtain⟨sl,e⟩:=I.base.slot L o i (I.ok.frf L f) f λz=>I.ok.exfs L z f;exact⟨m,⟨L,_,a,hn,e,hd⟩,g (λb c=>hs b (by unfold frs;rw[List.filterMap_cons,a];exact List.mem_cons_of_mem _ c)) h⟩
 exact all X.outer (λ_ c=>c) I.ok.funs
theorem Inv.stack(I:Inv X pins σ H s):s.heap.FunFrames X.base X.stack:=by
 rcases I.ok.stk with e |⟨e,hf⟩
 ·rw[e];exact I.funs
 ·rw[e]
  obtain⟨m,hn,_⟩:=I.loc;refine .cons (by rw[I.ok.kind];decide) hf hn ?_ I.funs;exact Heap.get?_none_of_le (Nat.le_trans I.ok.bsz I.ok.above)
theorem Inv.stkSub(I:Inv X pins σ H s):∀b∈frs X.stack,b∈X.env.locals::X.fs:=λb a=>by
 rcases I.ok.stk with e |⟨e,c⟩
 ·rw[e]at a;exact List.mem_cons_of_mem _ a
 ·rw[e]at a
  unfold frs at a;rw[List.filterMap_cons,c]at a;exact a
theorem Inv.stkFree(I:Inv X pins σ H s):∀b∈frs X.stack,H b=none:=λb a=>by
 rcases zMC (I.stkSub b a) with e |a
 ·rw[e];exact I.free
 ·obtain⟨_,o,c,_⟩:=I.ok.funs.mem a
  exact I.base.free b o c (I.ok.frf b a) λz=>I.ok.exfs b z a
theorem Inv.step {g':Array GenState} {t':Nat} {d':Drawn} {ch:List Addr} (I:Inv X pins σ H s)
  (hch:∀b∈ch,(b∈X.ex\/X.s₀.heap.objs.size<=b)/\b≠X.env.locals/\(∀x c,X.env.cells.lookup x=some c->c≠b)/\∀p∈X.pn++pins,p.1≠b)
  (keep:∀b o,b≠X.env.locals->b ∉X.fs->b ∉ch->s.heap.get? b=some o->H b=none->h'.get? b=some o)
  (slot:∀b o,b≠X.env.locals->b∈X.fs->b ∉ch->s.heap.get? b=some o->H b=none->∃sl,h'.get? b=some {o with slots:=sl}) (free:∀b o,b ∉ch->s.heap.get? b=some o->H b=none->H' b=none)
  (there:∀b o,b ∉ch->s.heap.get? b=some o->∃o',h'.get? b=some o')
  (tups:∀b xs,H b=some (.tup xs)->H' b=some (.tup xs)) (frzs:∀b o u,H b=some (.frz o u)->H' b=some (.frz o u)) (tbls:∀b ps,H b=some (.tbl ps)->∃more,H' b=some (.tbl (ps++more)))
  (ns:∀m,s.heap.Ns X.env.locals m->h'.Ns X.env.locals m) (hok:HOk X.prog X.w H' h') (hg:AllBare g') :
  Inv X pins σ H' {s with heap:=h',gens:=g',drawn:=d',toks:=t'}:=by
 have neL:∀b o,X.s₀.heap.get? b=some o->b≠X.env.locals:=λb o e=>Nat.ne_of_lt (Nat.lt_of_lt_of_le (Heap.lt_size e) I.ok.above)
 have neC:∀b o,X.s₀.heap.get? b=some o->b ∉X.ex->b ∉ch:=λb o e hx hb=>by
  rcases(hch b hb).1 with z |z
  ·exact hx z
  ·exact absurd (Nat.lt_of_lt_of_le (Heap.lt_size e) z) (Nat.lt_irrefl _)
 have cellK:∀x c,X.env.cells.lookup x=some c->∀v,s.heap.IsCell c v->h'.IsCell c v:=λx c e v ⟨o,ho,hd⟩=>by
  have nch:c ∉ch:=λz=>(hch c z).2.2.1 x c e rfl;by_cases hc:c∈X.fs
  ·obtain⟨sl,q⟩:=slot c o (I.cne x c e) hc nch ho (I.freeC x c e)
   exact⟨_,q,hd⟩
  ·exact⟨o,keep c o (I.cne x c e) hc nch ho (I.freeC x c e),hd⟩
 refine⟨I.ok,I.os,hg,⟨λb o e n hb hx=>?_,λb o e n hb hx=>?_,λb o e n hx=>?_,λb o e hx=>?_,λb xs e=>tups b xs (I.base.tups b xs e),λb o xs e=>frzs b o xs (I.base.frzs b o xs e),λb ps e=>?_⟩,?_,λx c e=>?_,?_,λx c e=>?_,λp hp=>?_,hok,I.len⟩
 ·exact keep b o (neL b o e) hb (neC b o e hx) (I.base.keep b o e n hb hx) (I.base.free b o e n hx)
 ·obtain⟨sl,e1⟩:=I.base.slot b o e n hb hx
  obtain⟨sl',e2⟩:=slot b _ (neL b o e) hb (neC b o e hx) e1 (I.base.free b o e n hx);exact⟨sl',e2⟩
 ·obtain⟨o',e1⟩:=I.base.there b o e hx
  exact free b o' (neC b o e hx) e1 (I.base.free b o e n hx)
 ·obtain⟨o',e1⟩:=I.base.there b o e hx
  exact there b o' (neC b o e hx) e1
 ·obtain⟨m1,e1⟩:=I.base.tbls b ps e
  obtain⟨m2,e2⟩:=tbls b _ e1;exact⟨m1++m2,by rw[e2,Array.append_assoc]⟩
 ·obtain⟨m,hn,hl⟩:=I.loc
  refine⟨m,ns m hn,λi x v e1 e2 e3=>?_⟩;obtain⟨u,r,l⟩:=hl i x v e1 e2 e3;refine⟨u,r,?_⟩;rcases l with l |⟨k,c,e,z⟩
  ·exact .inl l
  ·exact .inr ⟨k,c,e,cellK x c e _ z⟩
 ·obtain⟨v,z⟩:=I.cell x c e
  exact⟨v,cellK x c e v z⟩
 ·obtain⟨m,⟨o,_,_,ho,_⟩,_⟩:=I.loc
  exact free _ o (λz=>(hch _ z).2.1 rfl) ho I.free
 ·obtain⟨v,o,ho,hd⟩:=I.cell x c e
  exact free c o (λz=>(hch c z).2.2.1 x c e rfl) ho (I.freeC x c e)
 ·obtain⟨e,n,ne,nf,d⟩:=I.pin p hp
  have nch:p.1 ∉ch:=λz=>(hch p.1 z).2.2.2 p hp rfl;exact⟨keep p.1 p.2 ne nf nch e n,free p.1 p.2 nch e n,ne,nf,d⟩
theorem Inv.un{t':Nat}(I:Inv X pins σ H s)(u:Un X.fs [] H H' s.heap h')(hok:HOk X.prog X.w H' h'):Inv X pins σ H' {s with heap:=h',toks:=t'}:=by
 obtain⟨m,⟨o,es,ep,ho,r⟩,_⟩:=id I.loc;obtain⟨sl,hL⟩:=u.any ho I.free (by simp)
 exact I.step (g':=s.gens) (d':=s.drawn) (ch:=[]) (λ_ z=>nomatch z) (λb o _ hb _ e n=>u.keep b o e n hb (by simp)) (λb o _ hb _ e n=>u.slot b o e n hb (by simp)) (λb o _ e n=>u.free b o e n (by simp)) (λb o _ e=>u.there b o e (by simp)) u.tups u.frzs u.tbls (λm' hm=>by
  obtain⟨o',es',ep',ho',r'⟩:=hm;rw[ho]at ho';cases ho';exact⟨_,es',ep',hL,r'⟩) hok I.bare
theorem Inv.call {g':Array GenState} {t':Nat} {d':Drawn} {ch:List Addr} (I:Inv X pins σ H s) (u:Un (frs X.stack) ch H H' s.heap h') (hok:HOk X.prog X.w H' h') (hg:AllBare g')
  (hch:∀b∈ch,(b∈X.ex\/X.s₀.heap.objs.size<=b)/\b≠X.env.locals/\(∀x c,X.env.cells.lookup x=some c->c≠b)/\∀p∈X.pn++pins,p.1≠b) :
  Inv X pins σ H' {s with heap:=h',gens:=g',drawn:=d',toks:=t'}:=by
 obtain⟨m,⟨o,es,ep,ho,r⟩,_⟩:=id I.loc;obtain⟨sl,hL⟩:=u.any ho I.free λz=>(hch _ z).2.1 rfl
 exact I.step (ch:=ch) hch (λb o hL hb hc e n=>u.keep b o e n (λz=>(zMC (I.stkSub b z)).elim hL hb) hc) (λb o _ _ hc e n=>u.any e n hc) (λb o hc e n=>u.free b o e n hc) (λb o hc e=>u.there b o e hc) u.tups u.frzs u.tbls (λm' hm=>by
  obtain⟨o',es',ep',ho',r'⟩:=hm;rw[ho]at ho';cases ho';exact⟨_,es',ep',hL,r'⟩) hok hg
theorem Inv.turned {t':Nat} {it:Addr} (I:Inv X pins σ H s) (k:∀b o,b≠it->s.heap.get? b=some o->h'.get? b=some o) (hn:H it=none) (hL:it≠X.env.locals)
  (h1:it∈X.ex\/X.s₀.heap.objs.size<=it) (h2:∀x c,X.env.cells.lookup x=some c->c≠it) (h3:∀p∈X.pn++pins,p.1≠it):Inv X pins σ H {s with heap:=h',toks:=t'}:=by
 have nit:∀b u,H b=some u->b≠it:=λb u e z=>by rw[z,hn]at e;cases e
 refine I.step (g':=s.gens) (d':=s.drawn) (ch:=[it]) (λb hb=>?_) (λb o _ _ hc e _=>k b o (λz=>hc (by simp[z])) e) (λb o _ _ hc e _=>⟨o.slots,k b o (λz=>hc (by simp[z])) e⟩) (λ_ _ _ _ n=>n)
  (λb o hc e=>⟨o,k b o (λz=>hc (by simp[z])) e⟩) (λ_ _ e=>e) (λ_ _ _ e=>e) (λb ps e=>⟨#[],by rw[e];simp⟩) (λm hm=>?_) (λb u e=>?_) I.bare
 ·have e:b=it:=by simpa using hb
  subst e;exact⟨h1,hL,h2,h3⟩
 ·obtain⟨o,es,ep,ho,r⟩:=hm
  exact⟨o,es,ep,k _ o (Ne.symm hL) ho,r⟩
 ·refine(I.hok b u e).stay (λc v hc q=>k c v ?_ q) (λ_ q=>q) λ_ _ q=>q
  rcases hc with z |z
  ·rw[z];exact nit b u e
  ·exact nit c _ z
theorem Inv.tok(I:Inv X pins σ H s)(t:Nat):Inv X pins σ H {s with toks:=t}:=I.un (h':=s.heap) (t':=t) Un.refl I.hok
theorem Inv.kept{t':Nat}(I:Inv X pins σ H s)(k:∀b u,s.heap.get? b=some u->h'.get? b=some u):Inv X pins σ H {s with heap:=h',toks:=t'}:=I.un (Un.kept k) (I.hok.kept k)
theorem Inv.laid {a:Addr} {o:HO} {t':Nat} (I:Inv X pins σ H s) (k:∀b u,s.heap.get? b=some u->h'.get? b=some u) (hp:s.heap.objs.size<=a) (new:ObjOk X.prog X.w (upd H a o) h' a o) :
  Inv X pins σ (upd H a o) {s with heap:=h',toks:=t'}:=I.un (Un.laid k hp (I.hok.fresh hp)) (I.hok.laid k hp new)
theorem Inv.write {x e:Addr} {o:HO} {t':Nat} (I:Inv X pins σ H s) (mu:Mut (H x)) (he:e=x\/H e=some (.own x)) (k:∀b u,b≠e->s.heap.get? b=some u->h'.get? b=some u) (heo:∃u,h'.get? e=some u)
  (new:ObjOk X.prog X.w (upd H x o) h' x o):Inv X pins σ (upd H x o) {s with heap:=h',toks:=t'}:=I.un (Un.write mu he k heo) (I.hok.write mu he k heo new)
theorem Inv.weak{σ':List (Option V)}(I:Inv X pins σ H s)(hl:σ'.length=σ.length)(w:∀(i:Nat) v,σ'[i]?=some (some v)->σ[i]?=some (some v)):Inv X pins σ' H s:=
 ⟨I.ok,I.os,I.bare,I.base,let ⟨m,hn,hl'⟩:=I.loc;⟨m,hn,λi x v e1 e2 e3=>hl' i x v e1 (w i v e2) e3⟩,I.cell,I.free,I.freeC,I.pin,I.hok,hl.trans I.len⟩
theorem Inv.pins_of{a:List (Addr×Obj)}(I:Inv X pins σ H s)(h:∀p∈a,s.heap.get? p.1=some p.2/\H p.1=none/\p.1≠X.env.locals/\p.1 ∉X.fs/\∀v,p.2.data≠.cell v):Inv X a σ H s:=
 ⟨I.ok,I.os,I.bare,I.base,I.loc,I.cell,I.free,I.freeC,λp b=>(zMA b).elim (λz=>I.pin p (List.mem_append_left _ z)) (h p),I.hok,I.len⟩
theorem xk7{N:List Str}(c:N.Nodup){i j:Nat}{x:Str}(a:N[i]?=some x)(b:N[j]?=some x):i=j:=by
 obtain⟨h1,f⟩:=zES a;obtain⟨h2,e⟩:=zES b;exact(List.getElem_inj c).mp (f.trans e.symm)
theorem xhr {M:Model} {A:Around} {E:Value->Shared->Prop} {i:Nat} {x:Str} {v:V} {u:Value} {Q:Unit->Shared->Prop} (I:Inv X pins σ H s) (hN:X.N.Nodup) (hi:X.N[i]?=some x) (hx:Loc X.env.scope x) (r:RelV v u)
  (h:∀s',Inv X pins (σ.set i (some v)) H s'->(∃a,Heap.SameBut a s.heap s'.heap/\(a=X.env.locals\/X.env.cells.lookup x=some a))->Q () s') (hf:X.fn x=true\/X.env.scope.names.lookup x=some .local:=by first |exact .inl rfl |exact .inr rfl |assumption):wpAny M A (storeName X.env x u) Q E s:=by
 obtain⟨m,hn,hl⟩:=id I.loc;have hcls:(X.env.scope.kind == .class || (X.env.scope.kind == .module && X.env.locals != X.env.globals))=false:=by rw[I.ok.kind];rfl
 have hiσ:i<σ.length:=by rw[I.len];exact(zES hi).1
 have cne:=I.cne
 have tracked:∀{a:Addr} {h':Heap},(∃o,s.heap.get? a=some o/\H a=none)->Heap.SameBut a s.heap h'->HOk X.prog X.w H h':=λ{a h'} ha hs b ob e=>by
  obtain⟨_,_,hfree⟩:=ha;refine(I.hok b ob e).stay (λc w' hc q=>(hs.2 c ?_).trans q) (λ_ q=>q) λ_ _ q=>q;rintro rfl;rcases hc with rfl |hc
  ·rw[hfree]at e;cases e
  ·rw[hfree]at hc;cases hc
 rcases hx with hk |hk
 ·refine wpAny_storeName_local hk hn (λh' hn' hs=>?_) hcls
  obtain⟨oL,_,_,hoL,_⟩:=id hn;refine h _ ⟨I.ok,I.os,I.bare,⟨λb o e n hb hx=>?_,λb o e n hb hx=>?_,I.base.free,λb o e hx=>?_,I.base.tups,I.base.frzs,I.base.tbls⟩,⟨_,hn',λj y v' e1 e2 e3=>?_⟩,λy c e=>?_,I.free,I.freeC,λp hp=>?_,tracked ⟨oL,hoL,I.free⟩ hs,by simpa using I.len⟩ ⟨_,hs,.inl rfl⟩
  ·exact(hs.2 b (Nat.ne_of_lt (Nat.lt_of_lt_of_le (Heap.lt_size e) I.ok.above))).trans (I.base.keep b o e n hb hx)
  ·obtain⟨sl,e1⟩:=I.base.slot b o e n hb hx
   exact⟨sl,(hs.2 b (Nat.ne_of_lt (Nat.lt_of_lt_of_le (Heap.lt_size e) I.ok.above))).trans e1⟩
  ·obtain⟨o',e1⟩:=I.base.there b o e hx
   exact⟨o',(hs.2 b (Nat.ne_of_lt (Nat.lt_of_lt_of_le (Heap.lt_size e) I.ok.above))).trans e1⟩
  ·by_cases hj:j=i
   ·subst hj
    rw[hi]at e1;cases e1;rw[List.getElem?_set_self hiσ]at e2;cases e2;exact⟨u,r,.inl ⟨hk,by simp⟩⟩
   ·rw[List.getElem?_set_ne (Ne.symm hj)]at e2
    obtain⟨u',r',q⟩:=hl j y v' e1 e2 e3;refine⟨u',r',?_⟩;rcases q with⟨k,e⟩ |⟨k,c,e,z⟩
    ·refine .inl ⟨k,?_⟩
     have:y≠x:=λe=>hj (xk7 hN e1 (e ▸ hi));simp[this,e]
    ·exact .inr ⟨k,c,e,z.sameBut hs (cne y c e)⟩
  ·obtain⟨w',z⟩:=I.cell y c e
   exact⟨w',z.sameBut hs (cne y c e)⟩
  ·obtain⟨e,n,ne,nf,d⟩:=I.pin p hp
   exact⟨(hs.2 p.1 ne).trans e,n,ne,nf,d⟩
 ·have hfn:X.fn x=true:=by
   rcases hf with z |z
   ·exact z
   ·rw[z]at hk;cases hk
  obtain⟨c,hc⟩:=I.ok.has x (.inl hk);obtain⟨w',z⟩:=I.cell x c hc;refine wpAny_storeName_cell I.ok.kind hk hc z (λh' hc' hs=>?_);obtain⟨oc,hoc,hocd⟩:=id z;refine h {s with heap:=h'} ⟨I.ok,I.os,I.bare,⟨λb o e n hb hx=>?_,λb o e n hb hx=>?_,I.base.free,λb o e hx=>?_,I.base.tups,I.base.frzs,I.base.tbls⟩,⟨m,hn.sameBut hs (Ne.symm (cne x c hc)),λj y v' e1 e2 e3=>?_⟩,λy c' e=>?_,I.free,I.freeC,λp hp=>?_,tracked ⟨oc,hoc,I.freeC x c hc⟩ hs,by simpa using I.len⟩ ⟨c,hs,.inr hc⟩
  ·exact(hs.2 b (Nat.ne_of_lt (Nat.lt_of_lt_of_le (Heap.lt_size e) (I.ok.cab x c hfn hc)))).trans (I.base.keep b o e n hb hx)
  ·obtain⟨sl,e1⟩:=I.base.slot b o e n hb hx
   exact⟨sl,(hs.2 b (Nat.ne_of_lt (Nat.lt_of_lt_of_le (Heap.lt_size e) (I.ok.cab x c hfn hc)))).trans e1⟩
  ·obtain⟨o',e1⟩:=I.base.there b o e hx
   exact⟨o',(hs.2 b (Nat.ne_of_lt (Nat.lt_of_lt_of_le (Heap.lt_size e) (I.ok.cab x c hfn hc)))).trans e1⟩
  ·by_cases hj:j=i
   ·subst hj
    rw[hi]at e1;cases e1;rw[List.getElem?_set_self hiσ]at e2;cases e2;exact⟨u,r,.inr ⟨.inl hk,c,hc,hc'⟩⟩
   ·rw[List.getElem?_set_ne (Ne.symm hj)]at e2
    obtain⟨u',r',q⟩:=hl j y v' e1 e2 e3;refine⟨u',r',?_⟩;rcases q with q |⟨k,c',e,z'⟩
    ·exact .inl q
    ·refine .inr ⟨k,c',e,z'.sameBut hs ?_⟩
     rintro rfl;exact hj (xk7 hN e1 (I.ok.inj _ _ _ e hc ▸ hi))
  ·by_cases hcc:c'=c
   ·subst hcc;exact⟨_,hc'⟩
   ·obtain⟨w2,z2⟩:=I.cell y c' e
    exact⟨w2,z2.sameBut hs hcc⟩
  ·obtain⟨e,n,ne,nf,d⟩:=I.pin p hp
   refine⟨(hs.2 p.1 ?_).trans e,n,ne,nf,d⟩;intro q;rw[q,hoc]at e;have q':oc=p.2:=Option.some.inj e;exact d w' (by rw[<- q'];exact hocd)
theorem xkq {M:Model} {A:Around} {E:Value->Shared->Prop} {i:Nat} {x:Str} {v:V} {u:Value} {Q:Unit->Shared->Prop} (I:Inv X pins σ H s) (c:X.N.Nodup) (hi:X.N[i]?=some x) (a:Loc X.env.scope x) (r:RelV v u)
  (h:∀s',Inv X pins (σ.set i (some v)) H s'->Q () s') (b:X.fn x=true\/X.env.scope.names.lookup x=some .local:=by first |exact .inl rfl |exact .inr rfl |assumption):wpAny M A (storeName X.env x u) Q E s:=
 xhr I c hi a r (λs' e _=>h s' e) b
theorem Inv.call' {s':Shared} {ch:List Addr} (I:Inv X pins σ H s) (ho:s'.os=s.os) (u:Un (frs X.stack) ch H H' s.heap s'.heap) (hok:HOk X.prog X.w H' s'.heap) (hg:AllBare s'.gens)
  (hch:∀b∈ch,(b∈X.ex\/X.s₀.heap.objs.size<=b)/\b≠X.env.locals/\(∀x c,X.env.cells.lookup x=some c->c≠b)/\∀p∈X.pn++pins,p.1≠b):Inv X pins σ H' s':=by
 obtain⟨h',g',d',t',o'⟩:=s';have e:o'=s.os:=ho;subst e;exact I.call (g':=g') (t':=t') (d':=d') u hok hg hch
end
abbrev XK:=Value->Option Addr->Hp->Prop
abbrev St:=List (Option V)
abbrev VK:=V->Hp->Prop
abbrev TE:=St->Hp->VK->Prop
abbrev TT:=St->Hp->(Bool->Hp->Prop)->Prop
abbrev TA:=St->Hp->(List V->Hp->Prop)->Prop
structure Ends where
 nx:St->Hp->Prop
 rt:VK
 bk:St->Hp->Prop:=λ_ _=>False
 ct:St->Hp->Prop:=λ_ _=>False
abbrev TS:=Ends->St->Hp->Prop
def EP(X:Cx)(pins:List (Addr×Obj))(σ:St)(Q:VK)(u:Value)(s':Shared):Prop:=∃v H',Inv X pins σ H' s'/\RelV v u/\Q v H'
def TP(X:Cx)(pins:List (Addr×Obj))(σ:St)(Q:Bool->Hp->Prop)(b:Bool)(s':Shared):Prop:=∃H',Inv X pins σ H' s'/\Q b H'
def AP(X:Cx)(pins:List (Addr×Obj))(σ:St)(Q:List V->Hp->Prop)(us:List Value)(s':Shared):Prop:=∃vs H',Inv X pins σ H' s'/\Vals vs us/\Q vs H'
def SP(X:Cx)(pins:List (Addr×Obj))(D:Ends)(f:Flow)(s':Shared):Prop:=
 match f with
 |.next=>∃σ' H',Inv X pins σ' H' s'/\D.nx σ' H'
 |.brk=>∃σ' H',Inv X pins σ' H' s'/\D.bk σ' H'
 |.cont=>∃σ' H',Inv X pins σ' H' s'/\D.ct σ' H'
 |.ret u=>∃v σ' H',Inv X pins σ' H' s'/\RelV v u/\D.rt v H'
def PE(X:Cx)(e:Expr)(t:TE):Prop:=
 ∀(pins:List (Addr×Obj)) (s:Shared) (σ:St) (H:Hp) (Q:VK),Inv X pins σ H s->t σ H Q->wpAny (model X.prog X.w) X.A (eval e X.env) (EP X pins σ Q) X.xe s
def PT(X:Cx)(e:Expr)(t:TT):Prop:=
 ∀(pins:List (Addr×Obj)) (s:Shared) (σ:St) (H:Hp) (Q:Bool->Hp->Prop),Inv X pins σ H s->t σ H Q->wpAny (model X.prog X.w) X.A (isTrue e X.env (eval e X.env)) (TP X pins σ Q) X.xe s
def PW(X:Cx)(e:Expr)(t:TT):Prop:=
 ∀(whole:Sem Value) (pins:List (Addr×Obj)) (s:Shared) (σ:St) (H:Hp) (Q:Bool->Hp->Prop),Inv X pins σ H s->t σ H Q->wpAny (model X.prog X.w) X.A (isTrue e X.env whole) (TP X pins σ Q) X.xe s
theorem PW.pt{X:Cx}{e:Expr}{t:TT}(h:PW X e t):PT X e t:=h _
def PA(X:Cx)(es:List Expr)(t:TA):Prop:=
 ∀(pos:Pos) (pins:List (Addr×Obj)) (s:Shared) (σ:St) (H:Hp) (Q:List V->Hp->Prop),Inv X pins σ H s->t σ H Q->wpAny (model X.prog X.w) X.A (spliced (backTo pos (starEach es X.env))) (AP X pins σ Q) X.xe s
def PS(X:Cx)(st:Stmt)(t:TS):Prop:=
 ∀(pins:List (Addr×Obj)) (s:Shared) (σ:St) (H:Hp) (D:Ends),Inv X pins σ H s->t D σ H->wpAny (model X.prog X.w) X.A (exec st X.env) (SP X pins D) X.xe s
def PSs(X:Cx)(st:List Stmt)(t:TS):Prop:=
 ∀(pins:List (Addr×Obj)) (s:Shared) (σ:St) (H:Hp) (D:Ends),Inv X pins σ H s->t D σ H->wpAny (model X.prog X.w) X.A (execs st X.env) (SP X pins D) X.xe s
theorem thn{α:Type}{t:Sem α}{Q Q':α->Shared->Prop}{M:Model}{A:Around}{E:Value->Shared->Prop}{s:Shared}(h:wpAny M A t Q E s)(hQ:∀a s,Q a s->Q' a s):wpAny M A t Q' E s:=wpAny_mono h hQ λ_ _ x=>x
section
variable {X:Cx}
def tVar(i:Nat):TE:=λσ H Q=>∃v,σ[i]?=some (some v)/\Q v H
def tC(v:V):TE:=λ_ H Q=>Q v H
theorem xt2{i:Nat}{x:Str}{pos:Pos}(p:X.N[i]?=some x)(j:Vis X.env.scope x)(hd:(x == ("__debug__":Str))=false:=by decide)(f:(x == ("__classdict__":Str))=false:=by decide):PE X (.Name x pos) (tVar i):=by
 intro pins s σ H Q I h;obtain⟨v,e,h⟩:=h;obtain⟨m,hn,o⟩:=I.loc;obtain⟨u,r,l⟩:=o i x v p e j;have fin:EP X pins σ Q u s:=⟨v,H,I,r,h⟩;rcases l with⟨b,n⟩ |⟨b,c,g,a⟩
 ·exact wpAny_Name (wpAny_loadName_local I.ok.kind b hn n fin) hd
 ·rcases b with b |b
  ·exact wpAny_Name (wpAny_loadName_cell I.ok.kind b g a fin) hd
  ·exact wpAny_Name (wpAny_loadName_free I.ok.kind b g a fin f) hd
theorem pI{i j pos}:PE X (.Constant (.int i) j pos) (tC (.int i)):=λ_ _ _ H _ I h=>wpAny_Constant_int ⟨.int i,H,I.tok _,⟨_,rfl⟩,h⟩
theorem xeq{b j pos}:PE X (.Constant (.bool b) j pos) (tC (.bl b)):=λ_ _ _ H _ I h=>Constant_bool ⟨.bl b,H,I,rfl,h⟩
theorem xgo{j pos}:PE X (.Constant .none j pos) (tC .non):=λ_ _ _ H _ I h=>Constant_none ⟨.non,H,I,rfl,h⟩
theorem pS{x j pos}:PE X (.Constant (.str x) j pos) (tC (.str x)):=λ_ _ _ H _ I h=>Calls.Constant_str ⟨.str x,H,I.tok _,⟨_,rfl⟩,h⟩
def Gl(X:Cx)(x:Str):Prop:=X.env.kindOf x=some .globalImplicit
theorem xn6 {E:Value->Shared->Prop} {pins:List (Addr×Obj)} {s:Shared} {σ:St} {H:Hp} {x:Str} {u:Value} {pos:Pos} {Q:Value->Shared->Prop} (I:Inv X pins σ H s) (b:Gl X x) (a:X.mg x=some u) (h:Q u s)
  (hd:(x == ("__debug__":Str))=false:=by decide):wpAny (model X.prog X.w) X.A (eval (.Name x pos) X.env) Q E s:=
 Calls.Name_function_global I.ok.kind b (Calls.loadGlobal_global (by rw[I.ok.glob];exact I.mod.glob.keeps I.bk) a h) hd
theorem xfb {E:Value->Shared->Prop} {pins:List (Addr×Obj)} {s:Shared} {σ:St} {H:Hp} {x:Str} {u:Value} {pos:Pos} {Q:Value->Shared->Prop} (I:Inv X pins σ H s) (c:Gl X x) (b:X.mg x=none) (a:bootBuiltins x=some u) (h:Q u s)
  (hn:x≠"__name__":=by decide) (hd:(x == ("__debug__":Str))=false:=by decide):wpAny (model X.prog X.w) X.A (eval (.Name x pos) X.env) Q E s:=by
 obtain⟨e,h1,h2⟩:=I.mod.blt;exact Calls.Name_function_global I.ok.kind c (Calls.loadGlobal_builtin (by rw[I.ok.glob];exact I.mod.glob.keeps I.bk) b (by rw[I.ok.blt];exact h1.keeps I.bk) ((h2 x hn).trans a) h) hd
theorem xru{x:Str}{v:V}{u:Value}{pos:Pos}(hg:Gl X x)(hm:X.mg x=some u)(r:RelV v u)(hd:(x == ("__debug__":Str))=false:=by decide):PE X (.Name x pos) (tC v):=
 λ_ _ _ H _ I h=>xn6 I hg hm ⟨v,H,I,r,h⟩ hd
theorem xrx{x:Str}{v:V}{u:Value}{pos:Pos}(c:Gl X x)(b:X.mg x=none)(a:bootBuiltins x=some u)(r:RelV v u)(hn:x≠"__name__":=by decide)(hd:(x == ("__debug__":Str))=false:=by decide):PE X (.Name x pos) (tC v):=
 λ_ _ _ H _ I h=>xfb I c b a ⟨v,H,I,r,h⟩ hn hd
variable {a b:Expr}{ta tb:TE}{pos:Pos}
def PC(X:Cx)(op:CmpOp)(a b:Expr)(t:TE):Prop:=
 ∀(pins:List (Addr×Obj)) (s:Shared) (σ:St) (H:Hp) (Q:VK),Inv X pins σ H s->t σ H Q->
  wpAny (model X.prog X.w) X.A (eval a X.env) (λv s₁=>wpAny (model X.prog X.w) X.A (eval b X.env) (λu s₂=>wpAny (model X.prog X.w) X.A (compareOp op v u) (EP X pins σ Q) X.xe s₂) X.xe s₁) X.xe s
def tB(t:TE):TT:=λσ H Q=>t σ H λx H1=>∃c,x=.bl c/\Q c H1
theorem xkw{op:CmpOp}{t:TE}(h:PC X op a b t)(h1:behindInMarks op b=false:=by first |exact nobehind _ (by decide) (by decide) |rfl):PT X (.Compare a [op] [b] pos) (tB t):=by
 intro pins s σ H Q I g;refine wpAny_isTrue_Compare1 (thn (h pins s σ H _ I g) λv m h1=>thn h1 λu l h2=>thn h2 λc j ⟨x,H1,i,e,f⟩=>?_) h1;obtain⟨d,rfl,q⟩:=f;cases e;exact wpAny_truthy_bool ⟨H1,i,q⟩
theorem xne{e:Expr}{t:TE}(h:PE X e t)(he:∀whole,isTrue e X.env whole=(do let v <- whole;standAt e.pos;holding [v] (truthy v)):=by intro _;rfl):PT X e (tB t):=by
 intro pins s σ H Q I hw;refine isTrue_plain (thn (h pins s σ H _ I hw) λv s1 ⟨x,H1,I1,r1,q1⟩=>?_) (he _);obtain⟨d,rfl,q⟩:=q1;cases r1;exact wpAny_truthy_bool ⟨H1,I1,q⟩
variable {tA tB':TT}{rest:List Expr}
def tAnd(t u:TT):TT:=λσ H Q=>t σ H λc H1=>if c=true then u σ H1 Q else Q false H1
def tOr(t u:TT):TT:=λσ H Q=>t σ H λc H1=>if c=true then Q true H1 else u σ H1 Q
def tNot(t:TT):TT:=λσ H Q=>t σ H λc H1=>Q (!c) H1
theorem xcp(b:PT X a tA):PW X (.BoolOp .And [a] pos) tA:=by
 intro f pins s σ H Q I h;refine isTrue_and (thn (b pins s σ H Q I h) λc g e=>?_)
 cases c with
 |true=>exact isTrue_and_nil e
 |false=>exact e
theorem xgm(b:PT X a tA):PW X (.BoolOp .Or [a] pos) tA:=by
 intro f pins s σ H Q I h;refine isTrue_or (thn (b pins s σ H Q I h) λc g e=>?_)
 cases c with
 |false=>exact isTrue_or_nil e
 |true=>exact e
theorem xc1(l:PT X a tA)(j:PW X (.BoolOp .And (b::rest) pos) tB'):PW X (.BoolOp .And (a::b::rest) pos) (tAnd tA tB'):=by
 intro g pins s σ H Q I h;refine isTrue_and (thn (l pins s σ H _ I h) λc i ⟨H1,f,e⟩=>?_)
 cases c with
 |true=>exact j g pins i σ H1 Q f e
 |false=>exact⟨H1,f,e⟩
theorem xjo(l:PT X a tA)(j:PW X (.BoolOp .Or (b::rest) pos) tB'):PW X (.BoolOp .Or (a::b::rest) pos) (tOr tA tB'):=by
 intro g pins s σ H Q I h;refine isTrue_or (thn (l pins s σ H _ I h) λc i ⟨H1,f,e⟩=>?_)
 cases c with
 |true=>exact⟨H1,f,e⟩
 |false=>exact j g pins i σ H1 Q f e
theorem xh4(b:PT X a tA):PT X (.UnaryOp .Not a pos) (tNot tA):=by
 intro pins s σ H Q I h;exact isTrue_not (b pins s σ H (λc H1=>Q (!c) H1) I h)
def xvg(ta tb:TE):TE:=λσ H Q=>ta σ H λx H1=>∃c,x=.bl c/\if c=true then tb σ H1 Q else Q (.bl false) H1
def xvb(ta:TE):TE:=λσ H Q=>ta σ H λx H1=>∃c,x=.bl c/\Q (.bl (!c)) H1
theorem xqr{op}{t:TE}(h:PE X a t):PE X (.BoolOp op [a] pos) t:=λpins s σ H Q I b=>BoolOp_one (h pins s σ H Q I b)
theorem xni(l:PE X a ta)(j:PE X (.BoolOp .And (b::rest) pos) tb):PE X (.BoolOp .And (a::b::rest) pos) (xvg ta tb):=by
 intro pins s σ H Q I h;refine BoolOp_and (thn (l pins s σ H _ I h) λv g ⟨x,H1,f,i,e⟩=>?_);obtain⟨c,rfl,e⟩:=e;cases i;refine wpAny_truthy_bool ?_
 cases c with
 |true=>exact j pins g σ H1 Q f e
 |false=>exact⟨.bl false,H1,f,rfl,e⟩
theorem xt3(f:PE X a ta):PE X (.UnaryOp .Not a pos) (xvb ta):=by
 intro pins s σ H Q I h;refine UnaryOp_ (thn (f pins s σ H _ I h) λv i ⟨x,H1,g,e,b⟩=>?_);obtain⟨c,rfl,b⟩:=b;cases e;exact not_of (wpAny_truthy_bool ⟨.bl (!c),H1,g,rfl,b⟩)
def tIf(t:TT)(ta tb:TE):TE:=λσ H Q=>t σ H λc H1=>if c=true then ta σ H1 Q else tb σ H1 Q
theorem xg7{c:Expr}(i:PT X c tA)(l:PE X a ta)(j:PE X b tb):PE X (.IfExp c a b pos) (tIf tA ta tb):=by
 intro pins s σ H Q I h;refine wpAny_IfExp (thn (i pins s σ H _ I h) λd e ⟨H1,g,f⟩=>?_)
 cases d with
 |true=>exact l pins e σ H1 Q g f
 |false=>exact j pins e σ H1 Q g f
end
def SqL(K:Fg)(H:Hp)(a:Addr)(xs:List V):Prop:=
 Rd H a (.lst xs) ∨
  ∃(o:Obj) (its:Array Value) (n:Nat),K.lookup a=some o/\o.cls=.type "list"/\o.dict=none/\o.data=.seq its n/\its.size<=sizeLine/\Vals xs its.toList
def SqT(K:Fg)(H:Hp)(a:Addr)(xs:List V):Prop:=
 Rd H a (.tup xs) ∨
  ∃(o:Obj) (its:Array Value) (n:Nat),K.lookup a=some o/\o.cls=.type "tuple"/\o.data=.seq its n/\its.size<=sizeLine/\Vals xs its.toList
def absV:Value->Option V
 |.none=>some .non
 |.bool b=>some (.bl b)
 |.int i _=>some (.int i)
 |.str x _=>some (.str x)
 |.bytes b _=>some (.byt b)
 |.float b _=>some (.flt b)
 |.ref a=>some (.ref a)
 |.type n=>some (.ty n)
 |_=>none
theorem RelV.abs{x:V}{u:Value}(r:RelV x u):absV u=some x:=by
 cases x with
 |non=>cases r;rfl
 |bl _=>cases r;rfl
 |int _=>obtain⟨t,rfl⟩:=r;rfl
 |str _=>obtain⟨t,rfl⟩:=r;rfl
 |byt _=>obtain⟨t,rfl⟩:=r;rfl
 |flt _=>obtain⟨t,rfl⟩:=r;rfl
 |ref _=>cases r;rfl
 |ty _=>cases r;rfl
theorem RelV.inj{x y:V}{u:Value}(r:RelV x u)(q:RelV y u):x=y:=Option.some.inj (r.abs.symm.trans q.abs)
theorem Vals.inj:∀{xs ys:List V} {us:List Value},Vals xs us->Vals ys us->xs=ys
 |_,_,_,.nil,.nil=>rfl
 |_,_,_,.cons r t,.cons a t'=>by rw[r.inj a,Vals.inj t t']
section
variable {X:Cx}{pins:List (Addr×Obj)}{σ:St}{H:Hp}{s:Shared}{a:Addr}{xs ys:List V}
theorem SqL.of{K:Fg}(h:H a=some (.lst xs)):SqL K H a xs:=.inl (.inl h)
theorem SqT.of{K:Fg}(h:H a=some (.tup xs)):SqT K H a xs:=.inl (.inl h)
theorem Inv.list(I:Inv X pins σ H s)(h:SqL X.K H a xs):∃its:List Value,Vals xs its/\PlainL s.heap a its.toArray/\xs.length<=sizeLine:=by
 rcases h with h |⟨o,its,n,b,c,hd,hs,hz,r⟩
 ·obtain⟨z,its,n,r,e⟩:=h.ok I.hok
  exact⟨its,r,⟨_,n,e,rfl,rfl,rfl⟩,z⟩
 ·refine⟨its.toList,r,⟨o,n,I.kIn a o b,c,hd,by simpa using hs⟩,?_⟩
  have e:=r.length;simp only[Array.length_toList]at e;omega
theorem Inv.tuple(I:Inv X pins σ H s)(h:SqT X.K H a xs):∃its:List Value,Vals xs its/\IsTup s.heap a its.toArray/\xs.length<=sizeLine:=by
 rcases h with h |⟨o,its,n,b,f,hs,hz,r⟩
 ·obtain⟨z,its,r,o,e,c,n,d,_⟩:=h.ok I.hok
  exact⟨its,r,⟨o,e,c,n,d⟩,z⟩
 ·refine⟨its.toList,r,⟨o,I.kIn a o b,f,n,by simpa using hs⟩,?_⟩
  have e:=r.length;simp only[Array.length_toList]at e;omega
theorem Inv.list_inj(I:Inv X pins σ H s)(h:SqL X.K H a xs)(h':SqL X.K H a ys):xs=ys:=by
 obtain⟨its,r,⟨o,n,e,_,_,d⟩,_⟩:=I.list h;obtain⟨its',c,⟨o',g,b,_,_,d'⟩,_⟩:=I.list h';rw[e]at b;cases b;rw[d]at d';injection d' with f _;have:its=its':=by simpa using congrArg Array.toList f
 subst this;exact r.inj c
theorem Inv.tuple_inj(I:Inv X pins σ H s)(h:SqT X.K H a xs)(h':SqT X.K H a ys):xs=ys:=by
 obtain⟨its,r,⟨o,e,_,n,d⟩,_⟩:=I.tuple h;obtain⟨its',c,⟨o',b,_,g,d'⟩,_⟩:=I.tuple h';rw[e]at b;cases b;rw[d]at d';injection d' with f _;have:its=its':=by simpa using congrArg Array.toList f
 subst this;exact r.inj c
end
abbrev Cx.wish(X:Cx)(E:Value->Shared->Prop):Cx:={X with xe:=E}
abbrev Cx.nox(X:Cx):Cx:=X.wish λ_ _=>False
theorem Cx.Ok.wish{X:Cx}(ok:X.Ok)(E:Value->Shared->Prop):(X.wish E).Ok:=
 ⟨ok.mod,ok.kind,ok.glob,ok.blt,ok.above,ok.inj,ok.has,ok.cab,ok.hd,ok.frames,ok.stk,ok.exf,ok.bs,ok.bsz,ok.noex,ok.exfs,ok.funs,ok.frf⟩
theorem Cx.Ok.unwish{X:Cx}{E:Value->Shared->Prop}(ok:(X.wish E).Ok):X.Ok:=
 ⟨ok.mod,ok.kind,ok.glob,ok.blt,ok.above,ok.inj,ok.has,ok.cab,ok.hd,ok.frames,ok.stk,ok.exf,ok.bs,ok.bsz,ok.noex,ok.exfs,ok.funs,ok.frf⟩
section
variable {X:Cx}{pins:List (Addr×Obj)}{σ:St}{H:Hp}{s:Shared}{E:Value->Shared->Prop}
theorem Inv.wish(I:Inv X pins σ H s)(E:Value->Shared->Prop):Inv (X.wish E) pins σ H s:=⟨I.ok.wish E,I.os,I.bare,I.base,I.loc,I.cell,I.free,I.freeC,I.pin,I.hok,I.len⟩
theorem Inv.unwish(I:Inv (X.wish E) pins σ H s):Inv X pins σ H s:=⟨I.ok.unwish,I.os,I.bare,I.base,I.loc,I.cell,I.free,I.freeC,I.pin,I.hok,I.len⟩
theorem SP.unwish{D:Ends}{f:Flow}{s':Shared}(h:SP (X.wish E) pins D f s'):SP X pins D f s':=by
 cases f with
 |next=>obtain⟨a,H',I,q⟩:=h;exact⟨a,H',I.unwish,q⟩
 |brk=>obtain⟨a,H',I,q⟩:=h;exact⟨a,H',I.unwish,q⟩
 |cont=>obtain⟨a,H',I,q⟩:=h;exact⟨a,H',I.unwish,q⟩
 |ret u=>obtain⟨v,a,H',I,r,q⟩:=h;exact⟨v,a,H',I.unwish,r,q⟩
theorem PSs.nox{st:List Stmt}{t:TS}(h:PSs X.nox st t):PSs X st t:=λpins s σ H D I a=>
 wpAny_mono (h pins s σ H D (I.wish _) a) (λ_ _ q=>q.unwish) λ_ _ z=>False.elim z
end
section
variable {X:Cx}{st:Stmt}{rest:List Stmt}{t u:TS}{e:Expr}{te:TE}{pos:Pos}
def xvc:TS:=λD σ H=>D.nx σ H
def tSeq(t u:TS):TS:=λD σ H=>t {D with nx:=u D} σ H
theorem pQ:PSs X [] xvc:=λ_ _ σ H _ I h=>wpAny_execs_nil ⟨σ,H,I,h⟩
theorem zpn(h1:PS X st t)(h2:PSs X rest u):PSs X (st::rest) (tSeq t u):=by
 intro pins s σ H D I h;refine wpAny_execs_cons (thn (h1 pins s σ H {D with nx:=u D} I h) λf b q=>?_)
 cases f with
 |next=>
  obtain⟨a,H',c,q⟩:=q;exact h2 pins b a H' D c q
 |ret v=>exact q
 |brk=>exact q
 |cont=>exact q
theorem zpo(h1:PS X st t):PSs X [st] t:=by
 intro pins s σ H D I h;refine wpAny_execs_cons (thn (h1 pins s σ H D I h) λf a q=>?_)
 cases f with
 |next=>exact wpAny_execs_nil q
 |ret v=>exact q
 |brk=>exact q
 |cont=>exact q
theorem Inv.quiet{pins:List (Addr×Obj)}{σ:St}{H:Hp}{s:Shared}(I:Inv X pins σ H s):interactive X.env=false:=by simp[interactive,I.ok.kind]
def xvd(te:TE):TS:=λD σ H=>te σ H λ_ H1=>D.nx σ H1
theorem xaz(b:PE X e te)(hs:swapsWith e none pos.line X.env=pure false:=by rfl):PS X (.Expr e pos) (xvd te):=by
 intro pins s σ H D I h;exact wpAny_Expr_any (thn (b pins s σ H _ I h) λv f ⟨x,H1,c,g,a⟩=>⟨σ,H1,c,a⟩) I.quiet hs
def tRet(te:TE):TS:=λD σ H=>te σ H D.rt
theorem xaf(c:PE X e te):PS X (.Return (some e) pos) (tRet te):=by
 intro pins s σ H D I h;exact wpAny_Return_some (thn (c pins s σ H _ I h) λv g ⟨x,H1,f,a,b⟩=>⟨x,σ,H1,f,a,b⟩)
def tIfS(c:TT)(t u:TS):TS:=λD σ H=>c σ H λb H1=>if b=true then t D σ H1 else u D σ H1
theorem xar{c:Expr}{a b:List Stmt}{tc:TT}(i:PT X c tc)(l:PSs X a t)(j:PSs X b u):PS X (.If c a b pos) (tIfS tc t u):=by
 intro pins s σ H D I h;refine wpAny_If (thn (i pins s σ H _ I h) λd e ⟨H1,g,f⟩=>?_)
 cases d with
 |true=>exact l pins e σ H1 D g f
 |false=>exact j pins e σ H1 D g f
def xtd:TS:=λ_ _ _=>False
theorem xbh:PS X st xtd:=λ_ _ _ _ _ _ h=>h.elim
end
abbrev TG:=V->St->Hp->(St->Hp->Prop)->Prop
abbrev TGs:=List V->St->Hp->(St->Hp->Prop)->Prop
def PG(X:Cx)(target:Expr)(t:TG):Prop:=
 ∀(pins:List (Addr×Obj)) (s:Shared) (σ:St) (H:Hp) (v:V) (u:Value) (Q:St->Hp->Prop),Inv X pins σ H s->RelV v u->t v σ H Q->
  wpAny (model X.prog X.w) X.A (assign target X.env u) (λ_ s'=>∃σ' H',Inv X pins σ' H' s'/\Q σ' H') X.xe s
def PGs(X:Cx)(ts:List Expr)(t:TGs):Prop:=
 ∀(pins:List (Addr×Obj)) (s:Shared) (σ:St) (H:Hp) (vs:List V) (us:List Value) (Q:St->Hp->Prop),Inv X pins σ H s->Vals vs us->t vs σ H Q->
  wpAny (model X.prog X.w) X.A (assignInOrder ((assignEach ts X.env).map (·.2)) us) (λ_ s'=>∃σ' H',Inv X pins σ' H' s'/\Q σ' H') X.xe s
abbrev TSet:=V->V->V->Hp->(Hp->Prop)->Prop
def PSet(X:Cx)(t:TSet):Prop:=
 ∀(pins:List (Addr×Obj)) (s:Shared) (σ:St) (H:Hp) (o i v:V) (ov iv u:Value) (Q:Hp->Prop),Inv X pins σ H s->RelV o ov->RelV i iv->RelV v u->t o i v H Q->
  wpAny (model X.prog X.w) X.A (setItem ov iv u) (λ_ s'=>∃H',Inv X pins σ H' s'/\Q H') X.xe s
section
variable {X:Cx}{pos:Pos}
def xf5(i:Nat):TG:=λv σ H Q=>Q (σ.set i (some v)) H
theorem xng{i:Nat}{x:Str}(c:X.N.Nodup)(hi:X.N[i]?=some x)(a:Loc X.env.scope x)(b:X.fn x=true\/X.env.scope.names.lookup x=some .local:=by first |exact .inl rfl |exact .inr rfl |assumption):PG X (.Name x pos) (xf5 i):=by
 intro pins s σ H v u Q I r h;exact wpAny_assign_Name (xkq I c hi a r (λs' e=>⟨_,H,e,h⟩) b)
def gNil:TGs:=λvs σ H Q=>vs=[]/\Q σ H
def xv3(t:TG)(u:TGs):TGs:=λvs σ H Q=>∃v r,vs=v::r/\t v σ H λσ' H'=>u r σ' H' Q
theorem xbb:PGs X [] gNil:=by
 intro pins s σ H vs us Q I r h;obtain⟨e,h⟩:=h;subst e;cases r;exact assignInOrder_nil ⟨σ,H,I,h⟩
theorem xae {e:Expr} {es:List Expr} {t:TG} {u:TGs} (h1:PG X e t) (h2:PGs X es u)
  (hs:(assignEach (e::es) X.env).map (·.2)=assign e X.env::(assignEach es X.env).map (·.2):=by rfl):PGs X (e::es) (xv3 t u):=by
 intro pins s σ H vs us Q I r h;obtain⟨v,j,g,h⟩:=h;subst g
 cases r with
 |cons r c=>
  rw[hs];refine assignInOrder_cons (thn (h1 pins s σ H _ _ _ I r h) λ_ b ⟨a,H1,i,f⟩=>?_);exact h2 pins b a H1 _ _ Q i c f
def gTup(K:Fg)(n:Nat)(t:TGs):TG:=λv σ H Q=>∃a xs,v=.ref a/\SqT K H a xs/\xs.length=n/\t xs σ H Q
theorem xt1 {es:List Expr} {k:Nat} {t:TGs} {n:Nat} (p:X.calm=true) (h:PGs X es t)
  (hn:(assignEach es X.env).length=n:=by rfl) (f:(assignEach es X.env).findIdx? (·.1)=none:=by rfl):PG X (.Tuple es k pos) (gTup X.K n t):=by
 intro pins s σ H v u Q I r c;obtain⟨a,xs,w,l,m,c⟩:=c;subst w;cases r;obtain⟨its,g,j,hz⟩:=I.tuple l;refine assign_Tuple_tuple (I.ok.hd p) j (by simp[hn,<- m,g.length]) f λh' i=>?_;have x:Inv X pins σ H {s with heap:=h'}:=I.kept (t':=s.toks) λb o e=>i b o (Nat.ne_of_lt (Heap.lt_size e)) e;exact h pins _ σ H xs _ Q x (by simpa using g) c
def gSub(to ti:TE)(t:TSet):TG:=λv σ H Q=>to σ H λo H1=>ti σ H1 λi H2=>t o i v H2 λH3=>Q σ H3
theorem xqq {o i:Expr} {to c:TE} {t:TSet} (p:PE X o to) (hi:PE X i c) (hs:PSet X t)
  (w:∀v,assign (.Subscript o i pos) X.env v=(do
   let a <- holding [v] (eval o X.env)
   let b <- holding [v,a] (eval i X.env)
   standAt pos
   holding [v,a,b] (setItem a b v)
   release [v,a,b] []):=by intro _;rfl):PG X (.Subscript o i pos) (gSub to c t):=by
 intro pins s σ H v u Q I r h;rw[w];refine wpAny_bind (wpAny_holding (thn (p pins s σ H _ I h) λa f ⟨x,H1,G,j,n⟩=>?_));refine wpAny_bind (wpAny_holding (thn (hi pins f σ H1 _ G n) λb e ⟨y,H2,C,g,m⟩=>?_));refine wpAny_bind (wpAny_standAt (wpAny_bind (wpAny_holding (thn (hs pins e σ H2 x y v a b u _ C j g r m) λ_ M ⟨J,z,l⟩=>?_))));exact wpAny_release ⟨σ,J,z,l⟩
def tAsg(te:TE)(g:TG):TS:=λD σ H=>te σ H λx H1=>g x σ H1 D.nx
theorem xc6 {tg e:Expr} {te:TE} {g:TG} (j:PE X e te) (i:PG X tg g) (hs:swapsWithSole [tg] e pos.line X.env=pure false:=by rfl) (f:swappedStores [tg] e X.env=pure none:=by rfl)
  (h1:(assignEach [tg] X.env).map (·.2)=[assign tg X.env]:=by rfl):PS X (.Assign [tg] e pos) (tAsg te g):=by
 intro pins s σ H D I h;refine wpAny_Assign_stores (thn (j pins s σ H _ I h) λv a ⟨x,H1,l,b,c⟩=>?_) hs f;rw[h1];exact thn (i pins a σ H1 x v _ l b c) λ_ m q=>q
theorem xty {i:Nat} {x:Str} {e:Expr} {te:TE} {pos':Pos} (hN:X.N.Nodup) (hi:X.N[i]?=some x) (hx:Loc X.env.scope x) (he:PE X e te) (hs:swapsWith e (some (.Name x pos')) pos.line X.env=pure false:=by rfl) (hf:X.fn x=true\/X.env.scope.names.lookup x=some .local:=by first |exact .inl rfl |exact .inr rfl |assumption) :
  PS X (.Assign [.Name x pos'] e pos) (tAsg te (xf5 i)):=by
 intro pins s σ H D I h;refine wpAny_Assign_Name (thn (he pins s σ H _ I h) λv s1 ⟨y,H1,I1,r1,q1⟩=>?_) hs;exact xkq I1 hN hi hx r1 (λs2 I2=>⟨_,H1,I2,q1⟩) hf
end
structure It where
 go:Nat->Hp->Prop
 yld:Nat->Hp->V->Hp->Prop
 stop:Nat->Hp->Prop
def FpOk(X:Cx)(pins:List (Addr×Obj))(H:Hp)(b:Addr):Prop:=
 H b=none/\b≠X.env.locals/\b ∉X.fs/\(b∈X.ex\/X.s₀.heap.objs.size<=b)/\(∀x c,X.env.cells.lookup x=some c->c≠b)/\∀p∈X.pn++pins,p.1≠b
theorem Inv.fpOk{X:Cx}{pins:List (Addr×Obj)}{σ:St}{H H':Hp}{s:Shared}{b:Addr}(I:Inv X pins σ H s)(a:s.heap.objs.size<=b)(hn:H' b=none):FpOk X pins H' b:=by
 refine⟨hn,Nat.ne_of_gt (Nat.lt_of_lt_of_le I.lt a),I.nofs a,.inr (Nat.le_trans I.sz a),λx c e z=>?_,λp f z=>?_⟩
 ·obtain⟨v,q⟩:=I.cell x c e
  exact absurd (Nat.lt_of_lt_of_le q.lt (by rw[z];exact a)) (Nat.lt_irrefl _)
 ·exact absurd (Nat.lt_of_lt_of_le (Heap.lt_size (I.pin p f).1) (by rw[z];exact a)) (Nat.lt_irrefl _)
structure Turn(P:Program)(w:World)(K:Fg)(tg:Expr)(J:It)(fp:List Addr)(it:Addr)(tn:Nat->Heap->Prop):Prop where
 mem:it∈fp
 obj:∀i h,tn i h->∀b∈fp,∃o,h.get? b=some o/\∀v,o.data≠.cell v
 keep:∀i h h',tn i h->(∀b∈fp,∀o,h.get? b=some o->h'.get? b=some o)->tn i h'
 item:∀(X:Cx),X.prog=P->X.w=w->X.K=K->X.calm=true->∀(i:Nat) (pins:List (Addr×Obj)) (s:Shared) (σ:St) (H:Hp) (E:Value->Shared->Prop),Inv X pins σ H s->(∀b∈fp,FpOk X pins H b)->tn i s.heap->J.go i H->
  wpAny (model P w) X.A (pyNext (.ref it)) (λr s1=>∃u,r=some u ∧
   wpAny (model P w) X.A (letOwnedTupleGo tg (.ref it) u) (λ_ s2=>∃x H',Inv X pins σ H' s2/\RelV x u/\J.yld i H x H'/\tn (i+1) s2.heap/\∀b∈fp,H' b=none) E s1) E s
 done:∀(X:Cx),X.prog=P->X.w=w->X.K=K->X.calm=true->∀(i:Nat) (pins:List (Addr×Obj)) (s:Shared) (σ:St) (H:Hp) (E:Value->Shared->Prop),Inv X pins σ H s->(∀b∈fp,FpOk X pins H b)->tn i s.heap->J.stop i H->
  wpAny (model P w) X.A (pyNext (.ref it)) (λr s1=>r=none/\Inv X pins σ H s1) E s
 self:∀(A:Around) (i:Nat) (s:Shared) (Q:Value->Shared->Prop) (E:Value->Shared->Prop),tn i s.heap->Q (.ref it) s->wpAny (model P w) A (pyIter (.ref it)) Q E s
abbrev TI:=St->Hp->(It->Hp->Prop)->Prop
def PIE(X:Cx)(pins:List (Addr×Obj))(σ:St)(tg:Expr)(R:It->Hp->Prop)(itv:Value)(s2:Shared):Prop:=
 ∃(it:Addr) (fp:List Addr) (tn:Nat->Heap->Prop) (J:It) (H':Hp),itv=.ref it/\Inv X pins σ H' s2/\Turn X.prog X.w X.K tg J fp it tn/\tn 0 s2.heap/\(∀b∈fp,FpOk X pins H' b)/\R J H'
def PI(X:Cx)(tg iter:Expr)(wi:TI):Prop:=
 ∀(pins:List (Addr×Obj)) (s:Shared) (σ:St) (H:Hp) (R:It->Hp->Prop),Inv X pins σ H s->wi σ H R->
  wpAny (model X.prog X.w) X.A (eval iter X.env) (λv s1=>wpAny (model X.prog X.w) X.A (pyIter v) (PIE X pins σ tg R) X.xe s1) X.xe s
theorem xp3 {M:Model} {A:Around} {E:Value->Shared->Prop} {s:Shared} {tg:Expr} {it:Addr} {u:Value} {o:Obj} {n:String} {vs:Array Value} {Q:Unit->Shared->Prop} (ho:s.heap.get? it=some o) (hc:o.cls=.type n) (hd:o.data=.fields vs)
    (hn:["enumerate","zip","dict_itemiterator","dict_reverseitemiterator","odict_iterator","itertools.zip_longest","itertools.pairwise"].contains n=false) (hQ:Q () s):wpAny M A (letOwnedTupleGo tg (.ref it) u) Q E s:=by
  unfold letOwnedTupleGo
  cases tg <;> first
    |exact wpAny_pure hQ
    |(cases u <;> first
        |exact wpAny_pure hQ
        | (refine wpAny_bind (wpAny_load ho ?_)
           rw[hc,hd];show wpAny M A (if (["enumerate","zip","dict_itemiterator","dict_reverseitemiterator","odict_iterator","itertools.zip_longest","itertools.pairwise"].contains n && vs[0]? == some (rawInt _))=true then _ else _) Q E s;rw[if_neg (by intro h;rw[hn,Bool.false_and]at h;cases h)];exact wpAny_pure hQ))
def Itl(K:Fg)(a:Addr):It:=
 ⟨λi H=>∃xs x,SqL K H a xs/\xs[i]?=some x,λi H x H'=>H'=H/\∀xs,SqL K H a xs->xs[i]?=some x,λi H=>∃xs,SqL K H a xs/\xs.length<=i⟩
def Itt(K:Fg)(a:Addr):It:=
 ⟨λi H=>∃xs x,SqT K H a xs/\xs[i]?=some x,λi H x H'=>H'=H/\∀xs,SqT K H a xs->xs[i]?=some x,λi H=>∃xs,SqT K H a xs/\xs.length<=i⟩
def Itr(lo:Int)(n:Nat):It:=⟨λi _=>i<n,λi H x H'=>H'=H/\x=.int (lo+i),λi _=>n<=i⟩
theorem xmp{P:Program}{w:World}{K:Fg}{tg:Expr}(a it:Addr):Turn P w K tg (Itl K a) [it] it (λi h=>h.IsListIter it a i) where
 mem:=by simp
 obj:=λi h st b f=>by
  have e:b=it:=by simpa using f
  subst e;obtain⟨o,e,c,d⟩:=st;exact⟨o,e,λv z=>by rw[d]at z;cases z⟩
 keep:=λi h h' st k=>st.at λo e=>k it (by simp) o e
 item:=by
  intro X C r G Z i pins s σ H E I l st y;subst C r G;obtain⟨xs,x,j,n⟩:=y;obtain⟨its,m,p,hz⟩:=I.list j;obtain⟨u,hu,ru⟩:=m.get n;obtain⟨Y,U,f2,O,M,J⟩:=l it (by simp);refine wpAny_pyNext_list_item st p.isList (x:=u) (by simpa using hu) λh' g sb=>?_;have I1:Inv X pins σ H {s with heap:=h'}:=I.turned (t':=s.toks) (λb o f e=>(sb.2 b f).trans e) Y U O M J;obtain⟨o,e,c,d⟩:=id g;exact⟨u,rfl,xp3 (s:={s with heap:=h'}) e c d (by decide) ⟨x,H,I1,ru,⟨rfl,λys hy=>by rw[I.list_inj hy j];exact n⟩,g,λb f=>(l b f).1⟩⟩
 done:=by
  intro X C r G Z i pins s σ H E I l st y;subst C r G;obtain⟨xs,j,n⟩:=y;obtain⟨its,m,p,hz⟩:=I.list j;obtain⟨Y,U,f2,O,M,J⟩:=l it (by simp);have hl:=m.length;exact wpAny_pyNext_list_end (I.ok.hd Z) st p.isList (by simp;omega) λh' eb=>⟨rfl,I.turned (t':=s.toks) (λb o f e=>eb b o f e) Y U O M J⟩
 self:=λ_ _ _ _ _ st h=>wpAny_pyIter_listiter st h
theorem xlp{P:Program}{w:World}{K:Fg}{tg:Expr}(a it:Addr):Turn P w K tg (Itt K a) [it] it (λi h=>h.IsTupleIter it a i) where
 mem:=by simp
 obj:=λi h st b f=>by
  have e:b=it:=by simpa using f
  subst e;obtain⟨o,e,c,d⟩:=st;exact⟨o,e,λv z=>by rw[d]at z;cases z⟩
 keep:=λi h h' st k=>st.at λo e=>k it (by simp) o e
 item:=by
  intro X C r G Z i pins s σ H E I l st y;subst C r G;obtain⟨xs,x,j,n⟩:=y;obtain⟨its,m,p,hz⟩:=I.tuple j;obtain⟨u,hu,ru⟩:=m.get n;obtain⟨Y,U,f2,O,M,J⟩:=l it (by simp);refine wpAny_pyNext_tuple_item st (show s.heap.IsTuple a its.toArray from p) (x:=u) (by simpa using hu) λh' g sb=>?_;have I1:Inv X pins σ H {s with heap:=h'}:=I.turned (t':=s.toks) (λb o f e=>(sb.2 b f).trans e) Y U O M J;obtain⟨o,e,c,d⟩:=id g;exact⟨u,rfl,xp3 (s:={s with heap:=h'}) e c d (by decide) ⟨x,H,I1,ru,⟨rfl,λys hy=>by rw[I.tuple_inj hy j];exact n⟩,g,λb f=>(l b f).1⟩⟩
 done:=by
  intro X C r G Z i pins s σ H E I l st y;subst C r G;obtain⟨xs,j,n⟩:=y;obtain⟨its,m,p,hz⟩:=I.tuple j;obtain⟨Y,U,f2,O,M,J⟩:=l it (by simp);have hl:=m.length;exact wpAny_pyNext_tuple_end (I.ok.hd Z) st (show s.heap.IsTuple a its.toArray from p) (by simp;omega) λh' eb=>⟨rfl,I.turned (t':=s.toks) (λb o f e=>eb b o f e) Y U O M J⟩
 self:=λ_ _ _ _ _ st h=>wpAny_pyIter_tupleiter st h
theorem xlq{P:Program}{w:World}{K:Fg}{tg:Expr}(it:Addr)(lo:Int)(n:Nat):Turn P w K tg (Itr lo n) [it] it (λi h=>IsRangeIter h it (lo+(i:Nat)*1) ((n:Int)-(i:Nat)) 1) where
 mem:=by simp
 obj:=λi h st b a=>by
  have e:b=it:=by simpa using a
  subst e
  exact⟨_,st,λv z=>by
   have G:Data.fields _=Data.cell v:=z;cases G⟩
 keep:=λi h h' st k=>k it (by simp) _ st
 item:=by
  intro X m g p l i pins s σ H E I f st j;subst m g p;obtain⟨C,y,O,x,u,r⟩:=f it (by simp);have W:=Walks.range (prog:=X.prog) (w:=X.w) (I.ok.hd l) it lo 1 n;refine W.item i s _ _ j st λv h' tk M c J=>?_;obtain⟨t,rfl⟩:=M;have Y:Inv X pins σ H {s with heap:=h',toks:=tk}:=I.turned (λb o a e=>J b o (by simpa using a) e) C y x u r;refine⟨_,rfl,xp3 (s:={s with heap:=h',toks:=tk}) (n:="range_iterator") c rfl rfl (by decide) ⟨.int (lo+i),H,Y,⟨t,?_⟩,⟨rfl,rfl⟩,c,λb a=>(f b a).1⟩⟩;rw[Int.mul_one]
 done:=by
  intro X m g p l i pins s σ H E I f st j;subst m g p;obtain⟨C,y,O,x,u,r⟩:=f it (by simp);exact wpAny_pyNext_range_end (I.ok.hd l) st (by have:n<=i:=j;omega) λh' U=>⟨rfl,I.turned (t':=s.toks) (λb o a e=>U b o a e) C y x u r⟩
 self:=λ_ _ _ _ _ st h=>wpAny_pyIter_rangeiter st h
section
variable {X:Cx}{tg:Expr}
def xuk(K:Fg)(tl:TE):TI:=λσ H R=>tl σ H λx H1=>∃a,x=.ref a/\(∃xs,SqL K H1 a xs)/\R (Itl K a) H1
def iTup(K:Fg)(tl:TE):TI:=λσ H R=>tl σ H λx H1=>∃a,x=.ref a/\(∃xs,SqT K H1 a xs)/\R (Itt K a) H1
theorem xrr{l:Expr}{tl:TE}(m:PE X l tl):PI X tg l (xuk X.K tl):=by
 intro pins s σ H R I h;refine thn (m pins s σ H _ I h) λv c ⟨x,H1,f,g,i⟩=>?_;obtain⟨a,e,⟨xs,j⟩,q⟩:=i;subst e;cases g;obtain⟨its,r,p,hz⟩:=f.list j;refine wpAny_pyIter_list p.isList ?_;refine⟨c.heap.objs.size,[c.heap.objs.size],_,_,H1,rfl,f.kept (t':=c.toks) λb o e=>zPO _ e,xmp a _,⟨_,Heap.get?_push_size _ rfl,rfl,rfl⟩,λb n=>?_,q⟩;have e:b=c.heap.objs.size:=by simpa using n
 subst e;exact f.fpOk (Nat.le_refl _) (f.hok.fresh (Nat.le_refl _))
theorem xtz{l:Expr}{tl:TE}(m:PE X l tl):PI X tg l (iTup X.K tl):=by
 intro pins s σ H R I h;refine thn (m pins s σ H _ I h) λv c ⟨x,H1,f,g,i⟩=>?_;obtain⟨a,e,⟨xs,j⟩,q⟩:=i;subst e;cases g;obtain⟨its,r,p,hz⟩:=f.tuple j;refine wpAny_pyIter_tuple (show c.heap.IsTuple a its.toArray from p) ?_;refine⟨c.heap.objs.size,[c.heap.objs.size],_,_,H1,rfl,f.kept (t':=c.toks) λb o e=>zPO _ e,xlp a _,⟨_,Heap.get?_push_size _ rfl,rfl,rfl⟩,λb n=>?_,q⟩;have e:b=c.heap.objs.size:=by simpa using n
 subst e;exact f.fpOk (Nat.le_refl _) (f.hok.fresh (Nat.le_refl _))
theorem xo8 {pins:List (Addr×Obj)} {σ:St} {H:Hp} {s:Shared} {R:It->Hp->Prop} {E:Value->Shared->Prop} {lo hi:Int} {t u v:Tok} {tk:Nat} (I:Inv X pins σ H s) (h1:-(2 ^ 62)<=lo) (h2:lo<2 ^ 62) (h3:-(2 ^ 62)<=hi) (h4:hi<2 ^ 62)
  (q:R (Itr lo (hi-lo).toNat) H):wpAny (model X.prog X.w) X.A (pyIter (.ref s.heap.objs.size)) (PIE X pins σ tg R) E {s with heap:=s.heap.push {cls:=.type "range",data:=.fields #[.int lo t,.int hi u,.int 1 v]},toks:=tk}:=by
 refine wpAny_pyIter_range (IsRange.new ..) (small_one h1 h2 h3 h4) ?_;have I1:Inv X pins σ H {s with heap:=s.heap.push {cls:=.type "range",data:=.fields #[.int lo t,.int hi u,.int 1 v]},toks:=tk}:=I.kept λb o e=>zPO _ e
 refine⟨(s.heap.push {cls:=.type "range",data:=.fields #[.int lo t,.int hi u,.int 1 v]}).objs.size,[(s.heap.push {cls:=.type "range",data:=.fields #[.int lo t,.int hi u,.int 1 v]}).objs.size],_,_,H,rfl,
  I1.kept (t':=tk) λb o e=>zPO _ e,xlq _ lo (hi-lo).toNat,?_,λb hb=>?_,q⟩
 ·have e1:lo+((0:Nat):Int)*1=lo:=by simp
  have e2:(((hi-lo).toNat:Nat):Int)-((0:Nat):Int)=Builtin.Range.rangeSize lo hi 1:=by rw[rangeSize_one];split <;> omega
  show IsRangeIter _ _ (lo+((0:Nat):Int)*1) ((((hi-lo).toNat:Nat):Int)-((0:Nat):Int)) 1;rw[e1,e2];exact Heap.get?_push_size _ rfl
 ·have e:b=(s.heap.push {cls:=.type "range",data:=.fields #[.int lo t,.int hi u,.int 1 v]}).objs.size:=by simpa using hb
  subst e;exact I1.fpOk (Nat.le_refl _) (I1.hok.fresh (Nat.le_refl _))
def xvz(ta:TA):TI:=λσ H R=>ta σ H λvs H1=>∃j:Int,vs=[.int j]/\-(2 ^ 62)<=j/\j<2 ^ 62/\R (Itr 0 j.toNat) H1
theorem xb4{a:Expr}{ta:TA}{p pos:Pos}(l:Gl X "range")(i:X.mg "range"=none)(m:PA X [a] ta)(hs:starEach [a] X.env=[(false,eval a X.env)]:=by rfl):PI X tg (.Call (.Name "range" p) [a] [] pos) (xvz ta):=by
 intro pins s σ H R I h;refine Call_ (xfb I l i boot_range (PyProof.Rows.callWith_type1 (thn (m pos pins s σ H _ I h) λus o ⟨vs,H1,n,f,b⟩=>?_) hs rfl));obtain⟨j,e,b,g,q⟩:=b;subst e
 cases f with
 |cons r c=>
  cases c;obtain⟨t,rfl⟩:=r;exact call_range_1 (xo8 n (by omega) (by omega) b g (by simpa using q))
def tFor(wi:TI)(g:TG)(tb:TS):TS:=λD σ H=>wi σ H λJ H1=>∃W:Nat->Nat->St->Hp->Prop,(∃m,W 0 m σ H1)/\∀i m σ H,W i m σ H->
 (J.stop i H/\D.nx σ H)\/(J.go i H/\∃N:St->Hp->Prop,(∀σ' H',N σ' H'->∃m',m'<m/\W (i+1) m' σ' H')/\∀x H',J.yld i H x H'->g x σ H' λσ2 H2=>tb {D with nx:=N,ct:=N,bk:=D.nx} σ2 H2)
def xh5(fp:List Addr)(h:Heap):List (Addr×Obj):=fp.filterMap λb=>(h.get? b).map λo=>(b,o)
theorem xd3{a:List Addr}{h:Heap}{b:Addr}{o:Obj}(c:b∈a)(e:h.get? b=some o):(b,o)∈xh5 a h:=List.mem_filterMap.mpr ⟨b,c,by rw[e];rfl⟩
theorem xnu{a:List Addr}{h:Heap}{p:Addr×Obj}(c:p∈xh5 a h):p.1∈a/\h.get? p.1=some p.2:=by
 obtain⟨b,f,e⟩:=List.mem_filterMap.mp c
 cases q:h.get? b with
 |none=>rw[q]at e;cases e
 |some o=>
  rw[q]at e;have g:(b,o)=p:=Option.some.inj e;subst g;exact⟨f,q⟩
theorem Inv.pinned{pins:List (Addr×Obj)}{σ:St}{H:Hp}{s:Shared}{a:List Addr}(I:Inv X pins σ H s)(i:∀b∈a,FpOk X pins H b)(h:∀b∈a,∃o,s.heap.get? b=some o/\∀v,o.data≠.cell v):Inv X (pins++xh5 a s.heap) σ H s:=
 I.pins_of λp g=>(zMA g).elim (λz=>I.pin p (List.mem_append_right _ z)) λz=>by
  obtain⟨c,e⟩:=xnu z;obtain⟨m,l,j,_⟩:=i p.1 c;obtain⟨o,f,d⟩:=h p.1 c;rw[e]at f;cases f;exact⟨e,m,l,j,d⟩
theorem Inv.unpinned{pins pl:List (Addr×Obj)}{σ:St}{H:Hp}{s:Shared}(I:Inv X (pins++pl) σ H s):Inv X pins σ H s:=I.pins_of λp a=>I.pin p (List.mem_append_right _ (List.mem_append_left _ a))
theorem xbt {j:Expr} {G:List Stmt} {wi:TI} {g:TG} {tb:TS} {pos:Pos} (hp:PassesOwn (model X.prog X.w) X.A X.env X.xe) (hc:X.calm=true) (hi:PI X tg j wi) (hg:PG X tg g) (l:PSs X G tb)
  (hs:∀x,foldedSetIterable j X.env x=pure x:=by intro _;rfl):PS X (.For tg j G [] pos) (tFor wi g tb):=by
 intro pins s σ H D I h;refine wpAny_For (thn (hi pins s σ H _ I h) λv s1 h1=>thn h1 λa5 s2 h2=>?_) hs;obtain⟨it,fp,tn,J,H2,e,I2,T,a2,f2,W,⟨m0,w0⟩,Y⟩:=h2;subst e;have c:∀{H':Hp},(∀b∈fp,H' b=none)->∀b∈fp,FpOk X pins H' b:=λhn b l=>⟨hn b l,(f2 b l).2⟩;refine codeAny_forLoop_any (λn s'=>∃i U H',Inv X pins U H' s'/\tn i s'.heap/\(∀b∈fp,H' b=none)/\W i n U H') ?_ m0 ⟨0,σ,H2,I2,a2,λb l=>(f2 b l).1,w0⟩;rintro n s3 ⟨i,O,H3,I3,a0,a1,w3⟩;rcases Y i n O H3 w3 with⟨Z,qn⟩ |⟨go,N,hN,step⟩
 ·refine wpAny_passesOwn hp (thn (T.done X rfl rfl rfl hc i pins s3 O H3 X.xe I3 (c a1) a0 Z) λr s4 ⟨hr,I4⟩=>?_)
  subst hr;exact wpAny_execs_nil ⟨O,H3,I4,qn⟩
 ·refine wpAny_passesOwn hp (thn (T.item X rfl rfl rfl hc i pins s3 O H3 X.xe I3 (c a1) a0 go) λr s4 ⟨u,hr,h4⟩=>?_)
  subst hr;refine wpAny_passesOwn hp (thn h4 λ_ s5 ⟨x,H5,I5,r5,y5,M,a3⟩=>?_);have a4:=I5.pinned (c a3) (T.obj _ _ M);refine wpAny_passesOwn hp (thn (hg _ s5 O H5 x u _ a4 r5 (step x H5 y5)) λ_ s6 ⟨σ6,H6,I6,q6⟩=>?_);refine wpAny_passesOwn hp (thn (l _ s6 σ6 H6 _ I6 q6) λf s7 C=>?_)
  have p:∀{a:St} {z:Hp},Inv X (pins++xh5 fp s5.heap) a z s7->N a z->∃m,m<n/\∃i U H',Inv X pins U H' s7/\tn i s7.heap/\(∀b∈fp,H' b=none)/\W i m U H':=λ{a z} y n7=>by
   obtain⟨m',hm,w7⟩:=hN a z n7;refine⟨m',hm,i+1,a,z,y.unpinned,T.keep _ _ _ M λb l o e=>(y.pin (b,o) (List.mem_append_right _ (List.mem_append_right _ (xd3 l e)))).1,λb l=>?_,w7⟩;obtain⟨o,e,d⟩:=T.obj _ _ M b l;exact(y.pin (b,o) (List.mem_append_right _ (List.mem_append_right _ (xd3 l e)))).2.1
  cases f with
  |next=>obtain⟨a,z,y,n7⟩:=C;exact p y n7
  |cont=>obtain⟨a,z,y,n7⟩:=C;exact p y n7
  |brk=>obtain⟨a,z,y,C⟩:=C;exact⟨a,z,y.unpinned,C⟩
  |ret v=>obtain⟨x7,a,z,y,r7,C⟩:=C;exact⟨x7,a,z,y.unpinned,r7,C⟩
end
theorem xfk {K:Fg} {a:Addr} {xs:List V} {g:TG} {tb:TS} {D:Ends} {σ:St} {H:Hp} (Pv:Nat->St->Hp->Prop) (h0:Pv 0 σ H) (hl:∀i σ H,i<=xs.length->Pv i σ H->SqL K H a xs)
  (hs:∀i x σ H,xs[i]?=some x->Pv i σ H->g x σ H λσ2 H2=>tb {D with nx:=Pv (i+1),ct:=Pv (i+1),bk:=D.nx} σ2 H2) (hd:∀σ H,Pv xs.length σ H->D.nx σ H) :
  ∃W:Nat->Nat->St->Hp->Prop,(∃m,W 0 m σ H)/\∀i m σ H,W i m σ H->
   ((Itl K a).stop i H/\D.nx σ H)\/((Itl K a).go i H/\∃N:St->Hp->Prop,(∀σ' H',N σ' H'->∃m',m'<m/\W (i+1) m' σ' H')/\∀x H',(Itl K a).yld i H x H'->g x σ H' λσ2 H2=>tb {D with nx:=N,ct:=N,bk:=D.nx} σ2 H2):=by
 refine⟨λi m σ H=>m=xs.length-i/\i<=xs.length/\Pv i σ H,⟨xs.length,by simp,Nat.zero_le _,h0⟩,?_⟩;rintro i m σ H ⟨rfl,hi,p⟩;have q:=hl i σ H hi p;by_cases hlt:i<xs.length
 ·refine .inr ⟨⟨xs,xs[i],q,by simp[hlt]⟩,Pv (i+1),λσ' H' p'=>⟨xs.length-(i+1),by omega,rfl,hlt,p'⟩,λx H' y=>?_⟩
  obtain⟨e,y⟩:=y;subst e;exact hs i x σ _ (y xs q) p
 ·have e:i=xs.length:=by omega
  subst e;exact .inl ⟨⟨xs,q,Nat.le_refl _⟩,hd σ H p⟩
theorem xb3 {K:Fg} {a:Addr} {xs:List V} {g:TG} {tb:TS} {D:Ends} {σ:St} {H:Hp} (b:Nat->St->Hp->Prop) (h0:b 0 σ H) (n:∀i σ H,i<=xs.length->b i σ H->SqT K H a xs)
  (hs:∀i x σ H,xs[i]?=some x->b i σ H->g x σ H λf H2=>tb {D with nx:=b (i+1),ct:=b (i+1),bk:=D.nx} f H2) (hd:∀σ H,b xs.length σ H->D.nx σ H) :
  ∃W:Nat->Nat->St->Hp->Prop,(∃m,W 0 m σ H)/\∀i m σ H,W i m σ H->
   ((Itt K a).stop i H/\D.nx σ H)\/((Itt K a).go i H/\∃N:St->Hp->Prop,(∀h H',N h H'->∃j,j<m/\W (i+1) j h H')/\∀x H',(Itt K a).yld i H x H'->g x σ H' λf H2=>tb {D with nx:=N,ct:=N,bk:=D.nx} f H2):=by
 refine⟨λi m σ H=>m=xs.length-i/\i<=xs.length/\b i σ H,⟨xs.length,by simp,Nat.zero_le _,h0⟩,?_⟩;rintro i m σ H ⟨rfl,hi,p⟩;have q:=n i σ H hi p;by_cases c:i<xs.length
 ·refine .inr ⟨⟨xs,xs[i],q,by simp[c]⟩,b (i+1),λh H' l=>⟨xs.length-(i+1),by omega,rfl,c,l⟩,λx H' y=>?_⟩
  obtain⟨e,y⟩:=y;subst e;exact hs i x σ _ (y xs q) p
 ·have e:i=xs.length:=by omega
  subst e;exact .inl ⟨⟨xs,q,Nat.le_refl _⟩,hd σ H p⟩
theorem xc3 {lo:Int} {n:Nat} {g:TG} {tb:TS} {D:Ends} {σ:St} {H:Hp} (b:Nat->St->Hp->Prop) (h0:b 0 σ H)
  (hs:∀i σ H,i<n->b i σ H->g (.int (lo+i)) σ H λc H2=>tb {D with nx:=b (i+1),ct:=b (i+1),bk:=D.nx} c H2) (hd:∀σ H,b n σ H->D.nx σ H) :
  ∃W:Nat->Nat->St->Hp->Prop,(∃m,W 0 m σ H)/\∀i m σ H,W i m σ H->
   ((Itr lo n).stop i H/\D.nx σ H)\/((Itr lo n).go i H/\∃N:St->Hp->Prop,(∀f H',N f H'->∃h,h<m/\W (i+1) h f H')/\∀x H',(Itr lo n).yld i H x H'->g x σ H' λc H2=>tb {D with nx:=N,ct:=N,bk:=D.nx} c H2):=by
 refine⟨λi m σ H=>m=n-i/\i<=n/\b i σ H,⟨n,by simp,Nat.zero_le _,h0⟩,?_⟩;rintro i m σ H ⟨rfl,hi,p⟩;by_cases a:i<n
 ·refine .inr ⟨a,b (i+1),λf H' j=>⟨n-(i+1),by omega,rfl,a,j⟩,λx H' y=>?_⟩
  obtain⟨e,y⟩:=y;subst e y;exact hs i σ _ a p
 ·have e:i=n:=by omega
  subst e;exact .inl ⟨Nat.le_refl _,hd σ H p⟩
abbrev R2:=V->V->Hp->VK->Prop
def OpR(X:Cx)(f:Value->Value->Sem Value)(r:R2):Prop:=
 ∀(pins:List (Addr×Obj)) (s:Shared) (σ:St) (H:Hp) (x y:V) (v u:Value) (Q:VK),Inv X pins σ H s->RelV x v->RelV y u->r x y H Q->
  wpAny (model X.prog X.w) X.A (f v u) (EP X pins σ Q) X.xe s
def UnR(X:Cx)(f:Value->Sem Value)(r:V->Hp->VK->Prop):Prop:=
 ∀(pins:List (Addr×Obj)) (s:Shared) (σ:St) (H:Hp) (x:V) (v:Value) (Q:VK),Inv X pins σ H s->RelV x v->r x H Q->
  wpAny (model X.prog X.w) X.A (f v) (EP X pins σ Q) X.xe s
def xdy(X:Cx)(f:Value)(r:List V->Hp->VK->Prop):Prop:=
 ∀(pins:List (Addr×Obj)) (s:Shared) (σ:St) (H:Hp) (xs:List V) (us:List Value) (Q:VK),Inv X pins σ H s->Vals xs us->r xs H Q->
  wpAny (model X.prog X.w) X.A (call f us) (EP X pins σ Q) X.xe s
def tOp(r:R2)(ta tb:TE):TE:=λσ H Q=>ta σ H λx H1=>tb σ H1 λy H2=>r x y H2 Q
def tUn(r:V->Hp->VK->Prop)(ta:TE):TE:=λσ H Q=>ta σ H λx H1=>r x H1 Q
def rI(C:Int->Int->Prop)(g:Int->Int->V):R2:=λx y H Q=>∃i j,x=.int i/\y=.int j/\C i j/\Q (g i j) H
def rI0(g:Int->Int->V):R2:=λx y H Q=>∃i j,x=.int i/\y=.int j/\Q (g i j) H
def rU(g:Int->V):V->Hp->VK->Prop:=λx H Q=>∃i,x=.int i/\Q (g i) H
section
variable {X:Cx}{a b c:Expr}{ta tb tc:TE}{pos:Pos}
theorem binT (r:PE X a ta) (p:PE X b tb) {pins:List (Addr×Obj)} {s:Shared} {σ:St} {H:Hp} {R:V->V->Hp->Prop} (I:Inv X pins σ H s)
  (h:ta σ H λx H1=>tb σ H1 λy H2=>R x y H2) {Q:Value->Shared->Prop} {f:Value->Value->Sem Value}
  (o:∀v u c x y H2,Inv X pins σ H2 c->RelV x v->RelV y u->R x y H2->wpAny (model X.prog X.w) X.A (f v u) Q X.xe c) :
  wpAny (model X.prog X.w) X.A (eval a X.env) (λv g=>wpAny (model X.prog X.w) X.A (eval b X.env) (λu e=>wpAny (model X.prog X.w) X.A (f v u) Q X.xe e) X.xe g) X.xe s:=by
 refine thn (r pins s σ H _ I h) λv i ⟨x,H1,C,l,n⟩=>?_;refine thn (p pins i σ H1 _ C n) λu c ⟨y,H2,z,j,m⟩=>?_;exact o v u c x y H2 z l j m
theorem xam{op:Operator}{r:R2}(g:OpR X (binaryOp op) r)(j:PE X a ta)(i:PE X b tb):PE X (.BinOp a op b pos) (tOp r ta tb):=by
 intro pins s σ H Q I h;exact wpAny_BinOp (binT j i I h λv u c x y H2 l f e q=>g pins c σ H2 x y v u Q l f e q)
theorem xvr{op:UnaryOp}{r:V->Hp->VK->Prop}(f:UnR X (unaryOp op) r)(g:PE X a ta):PE X (.UnaryOp op a pos) (tUn r ta):=by
 intro pins s σ H Q I h;exact UnaryOp_ (thn (g pins s σ H _ I h) λv b ⟨x,H1,i,c,e⟩=>f pins b σ H1 x v Q i c e)
theorem opI {f:Value->Value->Sem Value} {C:Int->Int->Prop} {g:Int->Int->Int}
  (a:∀(i j:Int) (t u:Tok) (s:Shared) (Q:Value->Shared->Prop) (E:Value->Shared->Prop),C i j->Q (.int (g i j) s.toks) {s with toks:=s.toks+1}->wpAny (model X.prog X.w) X.A (f (.int i t) (.int j u)) Q E s) :
  OpR X f (rI C λi j=>.int (g i j)):=by
 intro pins s σ H x y v u Q I c b h;obtain⟨i,j,rfl,rfl,e,q⟩:=h;obtain⟨t,rfl⟩:=c;obtain⟨t',rfl⟩:=b;exact a i j t t' s _ _ e ⟨.int (g i j),H,I.tok _,⟨_,rfl⟩,q⟩
theorem opI0 {f:Value->Value->Sem Value} {g:Int->Int->Int}
  (a:∀(i j:Int) (t u:Tok) (s:Shared) (Q:Value->Shared->Prop) (E:Value->Shared->Prop),Q (.int (g i j) s.toks) {s with toks:=s.toks+1}->wpAny (model X.prog X.w) X.A (f (.int i t) (.int j u)) Q E s) :
  OpR X f (rI0 λi j=>.int (g i j)):=by
 intro pins s σ H x y v u Q I c b h;obtain⟨i,j,rfl,rfl,q⟩:=h;obtain⟨t,rfl⟩:=c;obtain⟨t',rfl⟩:=b;exact a i j t t' s _ _ ⟨.int (g i j),H,I.tok _,⟨_,rfl⟩,q⟩
theorem opB0 {f:Value->Value->Sem Value} {g:Int->Int->Bool}
  (a:∀(i j:Int) (t u:Tok) (s:Shared) (Q:Value->Shared->Prop) (E:Value->Shared->Prop),Q (.bool (g i j)) s->wpAny (model X.prog X.w) X.A (f (.int i t) (.int j u)) Q E s) :
  OpR X f (rI0 λi j=>.bl (g i j)):=by
 intro pins s σ H x y v u Q I c b h;obtain⟨i,j,rfl,rfl,q⟩:=h;obtain⟨t,rfl⟩:=c;obtain⟨t',rfl⟩:=b;exact a i j t t' s _ _ ⟨.bl (g i j),H,I,rfl,q⟩
def CPow(i j:Int):Prop:=0<=j/\j<=1000000/\i.natAbs<2 ^ 64
def CMul(i j:Int):Prop:=(-(2 ^ 64)<i/\i<2 ^ 64)\/(-(2 ^ 64)<j/\j<2 ^ 64)
theorem CMul.ok{i j:Int}(h:CMul i j):IntMulOk i j:=by
 rcases h with⟨h1,h2⟩ |⟨h1,h2⟩
 ·exact .of_left (intBits_le_64 h1 h2)
 ·exact .of_right (intBits_le_64 h1 h2)
theorem xbe:OpR X (binaryOp .Add) (rI0 λi j=>.int (i+j)):=opI0 λ_ _ _ _ _ _ _ q=>add_int q
theorem xci:OpR X (binaryOp .Sub) (rI0 λi j=>.int (i-j)):=opI0 λ_ _ _ _ _ _ _ q=>sub_int q
theorem xdf:OpR X (binaryOp .Mult) (rI CMul λi j=>.int (i*j)):=opI λ_ _ _ _ _ _ _ a q=>mul_int q a.ok
theorem xcd:OpR X (binaryOp .Mod) (rI (λ_ j=>0<j) λi j=>.int (i%j)):=opI λi j _ _ _ _ _ hc q=>by
 have h1:(0:Int)<j:=hc;exact mod_int' (by omega) (by rw[Int.fmod_eq_emod_of_nonneg i (by omega)];exact q)
theorem xnj:OpR X (binaryOp .Pow) (rI CPow λi j=>.int (i ^ j.toNat)):=opI λ_ _ _ _ _ _ _ a q=>pow_int_small a.1 a.2.1 a.2.2 q
theorem unI {f:Value->Sem Value} {g:Int->Int}
  (a:∀(i:Int) (t:Tok) (s:Shared) (Q:Value->Shared->Prop) (E:Value->Shared->Prop),Q (.int (g i) s.toks) {s with toks:=s.toks+1}->wpAny (model X.prog X.w) X.A (f (.int i t)) Q E s) :
  UnR X f (rU λi=>.int (g i)):=by
 intro pins s σ H x v Q I b h;obtain⟨i,rfl,q⟩:=h;obtain⟨t,rfl⟩:=b;exact a i t s _ _ ⟨.int (g i),H,I.tok _,⟨_,rfl⟩,q⟩
theorem xsz:UnR X (unaryOp .USub) (rU λi=>.int (-i)):=unI λ_ _ _ _ _ q=>neg_int q
end
def scal:V->V->Bool
 |.non,.non=>true |.non,.int _=>true |.int _,.non=>true |.non,.bl _=>true |.bl _,.non=>true |.non,.str _=>true |.str _,.non=>true
 |.int _,.int _=>true |.bl _,.bl _=>true |.str _,.str _=>true |.byt _,.byt _=>true
 |.int _,.str _=>true |.str _,.int _=>true |.bl _,.str _=>true |.str _,.bl _=>true
 |_,_=>false
def rEq:R2:=λx y H Q=>scal x y=true/\Q (.bl (decide (x=y))) H
def rNe:R2:=λx y H Q=>scal x y=true/\Q (.bl (!decide (x=y))) H
theorem xop{i j:Int}:decide (V.int i=V.int j)=(i == j):=by
 rw[Bool.eq_iff_iff];simp
theorem xq4{i j:Bool}:decide (V.bl i=V.bl j)=(i == j):=by
 rw[Bool.eq_iff_iff];simp
theorem xoo{i j:Str}:decide (V.str i=V.str j)=(i == j):=by
 rw[Bool.eq_iff_iff];simp
theorem xoq{i j:Array UInt8}:decide (V.byt i=V.byt j)=(i.toList == j.toList):=by
 rw[Bool.eq_iff_iff];cases i;cases j;simp
section
variable {X:Cx}{a b c:Expr}{ta tb tc:TE}{pos:Pos}
theorem xbm{pins:List (Addr×Obj)}{σ:St}{H:Hp}{s:Shared}{Q:VK}{k k':Bool}(I:Inv X pins σ H s)(q:Q (.bl k) H)(e:k=k'):EP X pins σ Q (.bool k') s:=by
 subst e;exact⟨.bl k,H,I,rfl,q⟩
theorem xa0:OpR X (compareOp .Eq) rEq:=by
 intro pins s σ H x y v u Q I b a h;obtain⟨hs,q⟩:=h
 cases x with
 |non=>
  cases b
  cases y with
  |non=>cases a;exact PySem.EqNone.eq_none_none (xbm I q (by simp))
  |bl j=>cases a;exact PySem.EqNone.eq_none_bool (xbm I q (by simp))
  |int j=>obtain⟨t',rfl⟩:=a;exact PySem.EqNone.eq_none_int (xbm I q (by simp))
  |str j=>obtain⟨t',rfl⟩:=a;exact PySem.EqNone.eq_none_str (xbm I q (by simp))
  |_=>exact absurd (show false=true from hs) Bool.false_ne_true
 |bl i=>
  cases b
  cases y with
  |non=>cases a;exact PySem.EqNone.eq_bool_none (xbm I q (by simp))
  |bl j=>cases a;exact eq_bool (xbm I q xq4)
  |str j=>obtain⟨t',rfl⟩:=a;exact PySem.EqMixed.eq_bool_str (xbm I q (by simp))
  |_=>exact absurd (show false=true from hs) Bool.false_ne_true
 |int i=>
  obtain⟨t,rfl⟩:=b
  cases y with
  |non=>cases a;exact PySem.EqNone.eq_int_none (xbm I q (by simp))
  |int j=>obtain⟨t',rfl⟩:=a;exact eq_int (xbm I q xop)
  |str j=>obtain⟨t',rfl⟩:=a;exact PySem.EqMixed.eq_int_str (xbm I q (by simp))
  |_=>exact absurd (show false=true from hs) Bool.false_ne_true
 |str i=>
  obtain⟨t,rfl⟩:=b
  cases y with
  |non=>cases a;exact PySem.EqNone.eq_str_none (xbm I q (by simp))
  |bl j=>cases a;exact PySem.EqMixed.eq_str_bool (xbm I q (by simp))
  |int j=>obtain⟨t',rfl⟩:=a;exact PySem.EqMixed.eq_str_int (xbm I q (by simp))
  |str j=>obtain⟨t',rfl⟩:=a;exact eq_str (xbm I q xoo)
  |_=>exact absurd (show false=true from hs) Bool.false_ne_true
 |byt i=>
  obtain⟨t,rfl⟩:=b
  cases y with
  |byt j=>obtain⟨t',rfl⟩:=a;exact PySem.W.eq_bytes (xbm I q xoq)
  |_=>exact absurd (show false=true from hs) Bool.false_ne_true
 |_=>cases y <;> exact absurd (show false=true from hs) Bool.false_ne_true
theorem xe1:OpR X (compareOp .NotEq) rNe:=by
 intro pins s σ H x y v u Q I b a h;obtain⟨hs,q⟩:=h
 cases x with
 |non=>
  cases b
  cases y with
  |non=>cases a;exact PySem.EqNone.ne_none_none (xbm I q (by simp))
  |bl j=>cases a;exact PySem.EqNone.ne_none_bool (xbm I q (by simp))
  |int j=>obtain⟨t',rfl⟩:=a;exact PySem.EqNone.ne_none_int (xbm I q (by simp))
  |str j=>obtain⟨t',rfl⟩:=a;exact PySem.EqNone.ne_none_str (xbm I q (by simp))
  |_=>exact absurd (show false=true from hs) Bool.false_ne_true
 |bl i=>
  cases b
  cases y with
  |non=>cases a;exact PySem.EqNone.ne_bool_none (xbm I q (by simp))
  |bl j=>cases a;exact ne_bool (xbm I q (congrArg not xq4))
  |str j=>obtain⟨t',rfl⟩:=a;exact PySem.EqMixed.ne_bool_str (xbm I q (by simp))
  |_=>exact absurd (show false=true from hs) Bool.false_ne_true
 |int i=>
  obtain⟨t,rfl⟩:=b
  cases y with
  |non=>cases a;exact PySem.EqNone.ne_int_none (xbm I q (by simp))
  |int j=>obtain⟨t',rfl⟩:=a;exact ne_int (xbm I q (congrArg not xop))
  |str j=>obtain⟨t',rfl⟩:=a;exact PySem.EqMixed.ne_int_str (xbm I q (by simp))
  |_=>exact absurd (show false=true from hs) Bool.false_ne_true
 |str i=>
  obtain⟨t,rfl⟩:=b
  cases y with
  |non=>cases a;exact PySem.EqNone.ne_str_none (xbm I q (by simp))
  |bl j=>cases a;exact PySem.EqMixed.ne_str_bool (xbm I q (by simp))
  |int j=>obtain⟨t',rfl⟩:=a;exact PySem.EqMixed.ne_str_int (xbm I q (by simp))
  |str j=>obtain⟨t',rfl⟩:=a;exact ne_str (xbm I q (congrArg not xoo))
  |_=>exact absurd (show false=true from hs) Bool.false_ne_true
 |byt i=>
  obtain⟨t,rfl⟩:=b
  cases y with
  |byt j=>obtain⟨t',rfl⟩:=a;exact PySem.W.ne_bytes (xbm I q (congrArg not xoq))
  |_=>exact absurd (show false=true from hs) Bool.false_ne_true
 |_=>cases y <;> exact absurd (show false=true from hs) Bool.false_ne_true
theorem xee:OpR X (compareOp .Lt) (rI0 λi j=>.bl (decide (i<j))):=opB0 λ_ _ _ _ _ _ _ q=>lt_int q
theorem xrz:OpR X (compareOp .LtE) (rI0 λi j=>.bl (decide (i<=j))):=opB0 λ_ _ _ _ _ _ _ q=>le_int q
theorem xdt:OpR X (compareOp .Gt) (rI0 λi j=>.bl (decide (j<i))):=opB0 λ_ _ _ _ _ _ _ q=>gt_int q
theorem xr0:OpR X (compareOp .GtE) (rI0 λi j=>.bl (decide (j<=i))):=opB0 λ_ _ _ _ _ _ _ q=>ge_int q
theorem xk3:OpR X (compareOp .Is) (λx y H Q=>y=.non/\Q (.bl (decide (x=.non))) H):=by
 intro pins s σ H x y v u Q I rx ry h;obtain⟨rfl,q⟩:=h;cases ry;refine is_none_gen (xbm I q ?_)
 cases x <;> first
  |(cases rx;rfl)
  |(obtain⟨t,rfl⟩:=rx;rfl)
theorem nM(b:Expr){op:CmpOp}(h:op≠.In:=by decide)(h2:op≠.NotIn:=by decide):behindInMarks op b=false:=by
 have c:(op == CmpOp.In)=false:=by cases op <;> first |rfl |exact absurd rfl h
 have a:(op == CmpOp.NotIn)=false:=by cases op <;> first |rfl |exact absurd rfl h2
 cases b <;> simp[behindInMarks,c,a]
theorem xfv{op:CmpOp}{r:R2}(ho:OpR X (compareOp op) r)(ha:PE X a ta)(hb:PE X b tb)(hm:behindInMarks op b=false):PE X (.Compare a [op] [b] pos) (tOp r ta tb):=by
 intro pins s σ H Q I h;exact wpAny_Compare1 (binT ha hb I h λv u s2 x y H2 I2 rx ry q=>ho pins s2 σ H2 x y v u Q I2 rx ry q) hm
def xtc(t:TE):TT:=λσ H Q=>t σ H λx H'=>∃k,x=.bl k/\Q k H'
theorem pR{op:CmpOp}{r:R2}(p:OpR X (compareOp op) r)(G:PE X a ta)(C:PE X b tb)(w:behindInMarks op b=false):PT X (.Compare a [op] [b] pos) (xtc (tOp r ta tb)):=by
 intro pins s σ H Q I h
 refine wpAny_isTrue_Compare1 (thn (G pins s σ H _ I h) λv g ⟨x,H1,O,l,o⟩=>thn (C pins g σ H1 _ O o) λu f ⟨y,H2,M,j,n⟩=>
  thn (p pins f σ H2 x y v u _ M l j n) λc Y ⟨z,U,J,i,k,e,m⟩=>?_) w
 subst e;cases i;exact wpAny_truthy_bool ⟨U,J,m⟩
def xqj(r r':R2)(ta tb tc:TE):TE:=λσ H Q=>ta σ H λx H1=>tb σ H1 λy H2=>r x y H2 λz H3=>∃k,z=.bl k ∧
 (if k=true then tc σ H3 λw' H4=>r' y w' H4 Q else Q (.bl false) H3)
theorem xpg {op f:CmpOp} {r j:R2} (ho:OpR X (compareOp op) r) (g:OpR X (compareOp f) j) (ha:PE X a ta) (hb:PE X b tb) (hc:PE X c tc)
  (hm:lastMarks [op,f] [b,c]=false:=by with_unfolding_all rfl):PE X (.Compare a [op,f] [b,c] pos) (xqj r j ta tb tc):=by
 intro pins s σ H Q I h
 refine Compare_chain (thn (ha pins s σ H _ I h) λv J ⟨x,H1,I1,U,q1⟩=>chain_link (thn (hb pins J σ H1 _ I1 q1) λu G ⟨y,H2,I2,i,Z⟩=>
  thn (ho pins G σ H2 x y v u _ I2 U i Z) λd C ⟨z,n,m,O,k,e,l⟩=>?_)) hm
 subst e;cases O;refine wpAny_truthy_bool ?_
 cases k with
 |false=>exact ite_ff ⟨.bl false,n,m,rfl,l⟩
 |true=>exact ite_tt (chain_last (thn (hc pins C σ n _ m l) λp w ⟨o,H4,I4,M,Y⟩=>g pins w σ H4 y o u p Q I4 i M Y))
theorem xkx {op f:CmpOp} {r j:R2} (ho:OpR X (compareOp op) r) (g:OpR X (compareOp f) j) (ha:PE X a ta) (hb:PE X b tb) (hc:PE X c tc)
  (hm:lastMarks [op,f] [b,c]=false:=by with_unfolding_all rfl):PT X (.Compare a [op,f] [b,c] pos) (xtc (xqj r j ta tb tc)):=by
 intro pins s σ H Q I h
 refine isTrue_chain (thn (ha pins s σ H _ I h) λv J ⟨x,H1,I1,Y,q1⟩=>test_link (thn (hb pins J σ H1 _ I1 q1) λu G ⟨y,H2,I2,i,q2⟩=>
  thn (ho pins G σ H2 x y v u _ I2 Y i q2) λd C ⟨z,n,m,U,k,e,l⟩=>?_)) hm
 subst e;cases U;refine wpAny_truthy_bool ?_
 cases k with
 |false=>
  obtain⟨k',e',q'⟩:=l;cases e';exact ite_ff ⟨n,m,q'⟩
 |true=>
  refine ite_tt (test_last (thn (hc pins C σ n _ m l) λp w ⟨o,H4,I4,O,q4⟩=>thn (g pins w σ H4 y o u p _ I4 i O q4) λd' s5 ⟨z2,H5,I5,M,k2,e2,Z⟩=>?_));subst e2;cases M;exact wpAny_truthy_bool ⟨H5,I5,Z⟩
theorem xin:(sizeLine:Nat)<2 ^ 63:=by rw[sizeLine_eq];decide
theorem xd2:OpR X (binaryOp .Add) (λx y H Q=>∃i j,x=.str i/\y=.str j/\i.length+j.length<=sizeLine/\Q (.str (i++j)) H):=by
 intro pins s σ H x y v u Q I b a h;obtain⟨i,j,rfl,rfl,hz,q⟩:=h;obtain⟨t,rfl⟩:=b;obtain⟨t',rfl⟩:=a;exact add_str (λt' tk=>⟨.str (i++j),H,I.tok _,⟨_,rfl⟩,q⟩) hz
theorem xex{x:V}{us:List Value}(r:Vals [x] us):∃u,us=[u]/\RelV x u:=by
 cases r with
 |cons b a=>cases a;exact⟨_,rfl,b⟩
theorem xu5{x y:V}{us:List Value}(r:Vals [x,y] us):∃u a,us=[u,a]/\RelV x u/\RelV y a:=by
 cases r with
 |cons f e=>
  cases e with
  |cons c b=>cases b;exact⟨_,_,rfl,f,c⟩
theorem xov(b:X.calm=true):xdy X (.builtin "min") (λxs H Q=>∃i j,xs=[.int i,.int j]/\Q (.int (if j<i then j else i)) H):=by
 intro pins s σ H xs us Q I r h;obtain⟨i,j,rfl,q⟩:=h;obtain⟨u,c,rfl,⟨t,rfl⟩,⟨t',rfl⟩⟩:=xu5 r;refine min_two_ints (I.ok.hd b) λh' tk k=>⟨_,H,I.kept k,?_,q⟩;by_cases a:j<i
 ·rw[if_pos a,if_pos a];exact⟨_,rfl⟩
 ·rw[if_neg a,if_neg a];exact⟨_,rfl⟩
theorem xi2:xdy X (.type "int") (λxs H Q=>(∃i,xs=[.int i]/\Q (.int i) H)\/∃k,xs=[.bl k]/\Q (.int (if k then 1 else 0)) H):=by
 intro pins s σ H xs us Q I r h;rcases h with⟨i,rfl,q⟩ |⟨k,rfl,q⟩
 ·obtain⟨u,rfl,t,rfl⟩:=xex r
  exact call_int_int ⟨.int i,H,I,⟨_,rfl⟩,q⟩
 ·obtain⟨u,rfl,a⟩:=xex r
  cases a;exact call_int_bool ⟨.int (if k then 1 else 0),H,I.tok _,⟨_,rfl⟩,q⟩
end
structure ObjM(h:Heap)(x dx C:Addr)(mA:Str->Option Value):Prop where
 obj:h.get? x=some (PySem.W.instObj C dx)
 ns:h.Ns1 dx mA
 ne:dx≠x
theorem xn4{h:Heap}{dx:Addr}{mA:Str->Option Value}(n:h.Ns1 dx mA):∃od,h.get? dx=some od/\∀name,PySem.W.lookIn name od=some (mA name):=by
 obtain⟨o,es,ep,f,hd,i,_,g⟩:=n;refine⟨o,f,λname=>?_⟩;have e:=g name;unfold nsFind findBy at e;rw[<- Array.find?_toList]at e;unfold PySem.W.lookIn;rw[hd];dsimp only;split
 ·rename_i y q
  rw[q]at e;exact congrArg some e
 ·rename_i q
  rw[q]at e
  have a:es.toList.any (·.refKey)=false:=by
   rw[List.any_eq_false];intro y c;obtain⟨z,t,b⟩:=i y (Array.mem_toList_iff.mp c);simp[DictEntry.refKey,b]
  have j:¬es.toList.any (·.refKey)=true:=by rw[a];exact Bool.false_ne_true
  rw[if_neg j];exact congrArg some e
theorem ObjM.look{h:Heap}{x dx C:Addr}{mA:Str->Option Value}(I:ObjM h x dx C mA):∃od,PySem.W.InstAt h x (PySem.W.instObj C dx) C (some od)/\∀name,PySem.W.lookIn name od=some (mA name):=
 let ⟨od,a,b⟩:=xn4 I.ns
 ⟨od,⟨I.obj,rfl,rfl,a⟩,b⟩
theorem RelO.some_of{v:V}{o:Option Value}(r:RelO (some v) o):∃u,o=some u/\RelV v u:=by
 cases o with
 |none=>exact(show False from r).elim
 |some u=>exact⟨u,rfl,r⟩
section
variable {P:Program}{w:World}{H H':Hp}{h h':Heap}{a C dx:Addr}{fs fs':List (Str×V)}
theorem xsd(b:HOk P w H h)(e:H a=some (.ins C dx fs)):∃mA,ObjM h a dx C mA/\(∀f,RelO (fs.lookup f) (mA f))/\PySem.Within mA (fs.map (·.1))/\fs.length<=1000/\H dx=some (.own a):=by
 obtain⟨d,z,ne,c,mA,n,r,q⟩:=(show ObjOk P w H h a (.ins C dx fs) from b a _ e);exact⟨mA,⟨c,n,ne⟩,r,q,z,d⟩
end
structure Cls(K:Fg)(C:Addr):Prop where
 pg:PySem.W.plainGet K C Str.empty=true
 hd:PySem.W.hasDictIn K C=true
 po:PySem.W.plainOver K C=true
 sa:PySem.W.findIn K (.ref C) "__setattr__"=some (some (.builtin "object.__setattr__"))
theorem Cls.get{K:Fg}{C:Addr}(c:Cls K C)(f:Str):PySem.W.plainGet K C f=true:=c.pg
section
variable {X:Cx}{pins:List (Addr×Obj)}{σ:St}{H:Hp}{s:Shared}{A:Around}{E:Value->Shared->Prop}{Q:Value->Shared->Prop}{c:Value}{b:Bool}
inductive TyOf(K:Fg)(H:Hp):V->Value->Prop where
 |non:TyOf K H .non (.type "NoneType")
 |bl (x:Bool):TyOf K H (.bl x) (.type "bool")
 |int (i:Int):TyOf K H (.int i) (.type "int")
 |str (x:Str):TyOf K H (.str x) (.type "str")
 |flt (x:UInt64):TyOf K H (.flt x) (.type "float")
 |lst {a:Addr} {xs:List V} (e:H a=some (.lst xs)):TyOf K H (.ref a) (.type "list")
 |frz {a:Addr} {o:Obj} {xs:List V} (e:H a=some (.frz o (.lst xs))):TyOf K H (.ref a) (.type "list")
 |tup {a:Addr} {xs:List V} (e:H a=some (.tup xs)):TyOf K H (.ref a) (.type "tuple")
 |dK {a:Addr} {kvs:List (Key×V)} (e:H a=some (.dK kvs)):TyOf K H (.ref a) (.type "dict")
 |dT {a:Addr} {kvs:List (List Key×V)} (e:H a=some (.dT kvs)):TyOf K H (.ref a) (.type "dict")
 | ins {a C dx:Addr} {fs:List (Str×V)} (e:H a=some (.ins C dx fs)) (cl:Cls K C) (ha:PySem.W.findIn K (.ref C) "__class__"=some (some (.builtin "object.__class__")))
   (hn:PySem.W.specialIn K (.builtin "object.__class__") "__get__"=some (some (.builtin "getset_descriptor.__get__"))) (htk:PySem.W.takesIn K (.builtin "object.__class__")=some true)
   (hm:PySem.W.mroIn K C (.type "object")=some true):TyOf K H (.ref a) (.ref C)
theorem xoe {x:V} {u t:Value} (I:Inv X pins σ H s) (rx:RelV x u) (ty:TyOf X.K H x t) (e:PySem.W.kitOne X.K t c=some b) (h:∀tk,Q (.bool b) {s with toks:=tk}) :
  wpAny (model X.prog X.w) A (call (.builtin "isinstance") [u,c]) Q E s:=by
 cases ty with
 |non=>cases (show u=Value.none from rx);exact PySem.W.kia_one PySem.W.kitx_none I.kIn True.intro e (λz=>nomatch z) h
 |bl y=>cases (show u=Value.bool y from rx);exact PySem.W.kia_one PySem.W.kitx_bool I.kIn True.intro e (λz=>nomatch z) h
 |int i=>obtain⟨t,q⟩:=(show ∃t,u=Value.int i t from rx);cases q;exact PySem.W.kia_one PySem.W.kitx_int I.kIn True.intro e (λz=>nomatch z) h
 |str y=>obtain⟨t,q⟩:=(show ∃t,u=Value.str y t from rx);cases q;exact PySem.W.kia_one PySem.W.kitx_str I.kIn True.intro e (λz=>nomatch z) h
 |flt y=>obtain⟨t,q⟩:=(show ∃t,u=Value.float y t from rx);cases q;exact PySem.W.kia_one PySem.W.kitx_float I.kIn True.intro e (λz=>nomatch z) h
 |@lst a xs ea=>
  cases (show u=Value.ref a from rx);obtain⟨_,_,n,_,h1⟩:=(show ObjOk X.prog X.w H s.heap a (.lst xs) from I.hok a _ ea);exact PySem.W.kia_one PySem.W.kitx_list I.kIn ⟨_,h1,rfl⟩ e (λz=>nomatch z) h
 |@frz a ob xs ea=>
  cases (show u=Value.ref a from rx);obtain⟨_,_,_,n,_,h1⟩:=(show ObjOk X.prog X.w H s.heap a (.frz ob (.lst xs)) from I.hok a _ ea);exact PySem.W.kia_one PySem.W.kitx_list I.kIn ⟨_,h1,rfl⟩ e (λz=>nomatch z) h
 |@tup a xs ea=>
  cases (show u=Value.ref a from rx);obtain⟨_,_,_,p⟩:=(show ObjOk X.prog X.w H s.heap a (.tup xs) from I.hok a _ ea);obtain⟨o,h1,h2,_⟩:=p;exact PySem.W.kia_one PySem.W.kitx_tuple I.kIn ⟨o,h1,h2⟩ e (λz=>nomatch z) h
 |@dK a kvs ea=>
  cases (show u=Value.ref a from rx);obtain⟨_,_,vs,_,p⟩:=(show ObjOk X.prog X.w H s.heap a (.dK kvs) from I.hok a _ ea);obtain⟨o,es,ep,h1,h2,_⟩:=p;exact PySem.W.kia_one PySem.W.kitx_dict I.kIn ⟨o,h1,h2.1⟩ e (λz=>nomatch z) h
 |@dT a kvs ea=>
  cases (show u=Value.ref a from rx);obtain⟨_,_,xs,_,o,es,ep,h1,h2,_⟩:=(show ObjOk X.prog X.w H s.heap a (.dT kvs) from I.hok a _ ea);exact PySem.W.kia_one PySem.W.kitx_dict I.kIn ⟨o,h1,h2.1⟩ e (λz=>nomatch z) h
 |@ins a C dx fs ea cl ha hn htk hm=>
  cases (show u=Value.ref a from rx);obtain⟨mA,O,_⟩:=xsd I.hok ea;obtain⟨od,J,_⟩:=O.look;exact PySem.W.kia_one (PySem.W.kitx_own (cl.get _) cl.hd ha hn htk hm) I.kIn J e (λz=>nomatch z) h
end
structure Room(k:Nat)(A:Around):Prop where
 hd:(A.handled,A.guards)=(none,some [])
 dp:A.depth+3*k+5<recursionLimit
 un:A.units+16*k+200<cLine
theorem Room.mono{j k:Nat}{A:Around}(r:Room k A)(h:j<=k):Room j A:=⟨r.hd,by have:=r.dp;omega,by have:=r.un;omega⟩
theorem Room.deeper{k:Nat}{A:Around}(r:Room (k+1) A)(env:Env):Room k (A.deeper env):=
 ⟨r.hd,by have:=r.dp;show A.depth+1+3*k+5<_;omega,by have:=r.un;show A.units+3+16*k+200<_;omega⟩
theorem Room.depth{k:Nat}{A:Around}(r:Room k A):A.depth<recursionLimit:=by have:=r.dp;omega
theorem Room.units{k:Nat}{A:Around}(r:Room k A):A.units+64<cLine:=by have:=r.un;omega
def tNil:TA:=λ_ H Q=>Q [] H
def xrd(ta:TE)(tr:TA):TA:=λσ H Q=>ta σ H λx H1=>tr σ H1 λxs H2=>Q (x::xs) H2
section
variable {X:Cx}{e:Expr}{es:List Expr}{te:TE}{t:TA}{pos:Pos}
theorem pN:PA X [] tNil:=λ_ _ _ _ H Q I h=>Calls.spliced_nil ⟨[],H,I,.nil,h⟩
theorem pc(j:PE X e te)(i:PA X es t)(hs:starEach (e::es) X.env=(false,eval e X.env)::starEach es X.env:=by rfl):PA X (e::es) (xrd te t):=by
 intro pos pins s σ H Q I h;rw[hs];show wpAny _ _ (spliced ((false,eval e X.env)::backTo pos (starEach es X.env))) _ _ s;refine Calls.spliced_cons (thn (j pins s σ H _ I h) λu a ⟨x,H1,m,c,g⟩=>?_);exact thn (i pos pins a σ H1 _ m g) λus n ⟨xs,H2,l,b,f⟩=>⟨x::xs,H2,l,.cons c b,f⟩
def tTup(t:TA):TE:=λσ H Q=>t σ H λxs H1=>xs.length<=sizeLine/\∀p,H1 p=none->Q (.ref p) (upd H1 p (.tup xs))
def tLst(t:TA):TE:=λσ H Q=>t σ H λxs H1=>xs.length<=sizeLine/\∀p,H1 p=none->Q (.ref p) (upd H1 p (.lst xs))
theorem xa6{f}(h:PA X es t):PE X (.Tuple es f pos) (tTup t):=by
 intro pins s σ H Q I g;refine wpAny_Tuple_spliced (thn (h pos pins s σ H _ I g) λus a ⟨xs,H1,c,r,z,q⟩=>⟨by rw[<- r.length];exact z,?_⟩);have i:H1 a.heap.objs.size=none:=c.hok.fresh (Nat.le_refl _);refine⟨.ref a.heap.objs.size,upd H1 a.heap.objs.size (.tup xs),c.laid (t':=a.toks) (λb u e=>zPO _ e) (Nat.le_refl _) ?_,rfl,q _ i⟩;exact⟨z,us,r,⟨_,Heap.get?_push_size _ rfl,rfl,_,rfl,rfl⟩⟩
theorem xcy(h:PA X es t):PE X (.List es pos) (tLst t):=by
 intro pins s σ H Q I f;refine wpAny_List_spliced (thn (h pos pins s σ H _ I f) λus a ⟨xs,H1,c,r,z,q⟩=>⟨by rw[<- r.length];exact z,?_⟩);have g:H1 a.heap.objs.size=none:=c.hok.fresh (Nat.le_refl _);refine⟨.ref a.heap.objs.size,upd H1 a.heap.objs.size (.lst xs),c.laid (t':=a.toks) (λb u e=>zPO _ e) (Nat.le_refl _) ?_,rfl,q _ g⟩;exact⟨z,us,0,r,Heap.get?_push_size _ rfl⟩
end
abbrev Sp:=List V->Hp->VK->XK->Prop
abbrev CXT:=List Env->Hp->Shared->XK->Value->Shared->Prop
structure Env0(P:Program)(w:World)(K:Fg)(mg:Str->Option Value)(base:Heap)(A:Around)(outer:List Env)(s:Shared)(H:Hp):Prop where
 frames:A.frames=some outer
 mod:Mod K mg base
 bs:∀b o,base.get? b=some o->s.heap.get? b=some o/\H b=none
 bsz:base.objs.size<=s.heap.objs.size
 funs:s.heap.FunFrames base outer
 frf:∀b∈frs outer,H b=none
 hok:HOk P w H s.heap
 bare:AllBare s.gens
def CE(outer:List Env)(P:Program)(w:World)(H:Hp)(s:Shared)(Q:VK)(u:Value)(s':Shared):Prop:=
 ∃v H',s'.os=s.os/\AllBare s'.gens/\Un (frs outer) [] H H' s.heap s'.heap/\HOk P w H' s'.heap/\RelV v u/\Q v H'
def CR(CX:CXT)(outer:List Env)(P:Program)(w:World)(H:Hp)(s:Shared)(Q:VK)(E:XK)(r:Result)(s':Shared):Prop:=
 match r with
 |.ok (.ret u)=>CE outer P w H s Q u s'
 |.ok _=>False
 |.error e=>CX outer H s E e s'
structure FnOk(P:Program)(w:World)(K:Fg)(mg:Str->Option Value)(base:Heap)(CX:CXT)(k:Nat)(f:Addr)(fd:FuncData)(ps:List Str)(sp:Sp):Prop where
 len:∀vs H Q E,sp vs H Q E->vs.length=ps.length
 run:∀(A:Around) (outer:List Env) (s:Shared) (H:Hp) (args:Args) (us:List Value) (vs:List V) (Q:VK) (E:XK),Room k A->Env0 P w K mg base A outer s H->BindsTo s fd args (ps.zip us)->Vals vs us->sp vs H Q E->
  codeAny (model P w) A (.call (.ref f) args) (CR CX outer P w H s Q E) s
theorem FnOk.mono {P:Program} {w:World} {K:Fg} {mg:Str->Option Value} {base:Heap} {CX:CXT} {j k:Nat} {f:Addr} {fd:FuncData} {ps:List Str} {sp:Sp} (F:FnOk P w K mg base CX j f fd ps sp) (h:j<=k) :
  FnOk P w K mg base CX k f fd ps sp:=⟨F.len,λA outer s H args us vs Q E a=>F.run A outer s H args us vs Q E (a.mono h)⟩
theorem FnOk.imp {P:Program} {w:World} {K:Fg} {mg:Str->Option Value} {base:Heap} {CX:CXT} {k:Nat} {f:Addr} {fd:FuncData} {ps:List Str} {sp sp':Sp} (F:FnOk P w K mg base CX k f fd ps sp)
  (h:∀vs H Q E,sp' vs H Q E->sp vs H Q E):FnOk P w K mg base CX k f fd ps sp':=
 ⟨λvs H Q E q=>F.len vs H Q E (h _ _ _ _ q),λA outer s H args us vs Q E hr he hb hv hs=>F.run A outer s H args us vs Q E hr he hb hv (h _ _ _ _ hs)⟩
section
variable {X:Cx}{pins:List (Addr×Obj)}{σ:St}{H:Hp}{s s':Shared}
theorem Inv.env0(I:Inv X pins σ H s):Env0 X.prog X.w X.K X.mg X.base X.A X.stack s H:=
 ⟨I.ok.frames,I.ok.mod,I.bs,Nat.le_trans I.ok.bsz I.sz,I.stack,I.stkFree,I.hok,I.bare⟩
theorem Inv.after{Q:VK}{u:Value}(I:Inv X pins σ H s)(h:CE X.stack X.prog X.w H s Q u s'):EP X pins σ Q u s':=by
 obtain⟨v,H',os,bare,un,hok,r,q⟩:=h;obtain⟨hh,g,d,t,os'⟩:=s';obtain rfl:os'=s.os:=os;exact⟨v,H',I.call (h':=hh) (g':=g) (d':=d) (t':=t) (ch:=[]) un hok bare (λb z=>absurd z (by simp)),r,q⟩
end
def xtg(sp:Sp)(dvs:List V)(E:XK)(t:TA):TE:=λσ H Q=>t σ H λvs H1=>sp (vs++dvs) H1 Q E
def Binds(K:Fg)(fd:FuncData)(ps:List Str)(ds:List Value):Prop:=
 ∀(s:Shared) (us:List Value),K.In s.heap->(us++ds).length=ps.length->BindsTo s fd ⟨us,[]⟩ (ps.zip (us++ds))
theorem Binds.all{K:Fg}{fd:FuncData}{ps:List Str}(h:∀us:List Value,us.length=ps.length->bindArgs fd ⟨us,[]⟩=pure (ps.zip us)):Binds K fd ps []:=λs us _ hl=>by
 rw[List.append_nil]at hl⊢;exact .of_eq (h us hl)
def xow(CX:CXT)(X:Cx)(E:XK):Prop:=∀(pins:List (Addr×Obj)) (σ:St) (H:Hp) (s:Shared) (e:Value) (s':Shared),Inv X pins σ H s->CX X.stack H s E e s'->X.xe e s'
section
variable {X:Cx}{CX:CXT}{k:Nat}{f C:Addr}{fd:FuncData}{ps:List Str}{sp:Sp}{dvs:List V}{ds:List Value}{E:XK}{x m:Str}{p pos apos:Pos}{e o:Expr}{es:List Expr}{ta:TE}{t:TA}
theorem xtu {pins:List (Addr×Obj)} {σ:St} {H:Hp} {s:Shared} {Q:VK} {us:List Value} {vs:List V} (F:FnOk X.prog X.w X.K X.mg X.base CX k f fd ps sp) (hr:Room k X.A) (hb:Binds X.K fd ps ds) (hd:Vals dvs ds) (hx:xow CX X E)
  (I:Inv X pins σ H s) (r:Vals vs us) (h:sp (vs++dvs) H Q E):wpAny (model X.prog X.w) X.A (call (.ref f) us) (EP X pins σ Q) X.xe s:=by
 have r2:Vals (vs++dvs) (us++ds):=r.append hd;have hl:(us++ds).length=ps.length:=by rw[<- r2.length];exact F.len _ _ _ _ h
 refine wpAny_call (codeAny_mono (F.run X.A X.stack s H ⟨us,[]⟩ (us++ds) (vs++dvs) Q E hr I.env0 (hb s us I.kIn hl) r2 h) λr s' hq=>?_)
 cases r with
 |error e=>exact hx pins σ H s e s' I hq
 |ok fl=>
  cases fl with
  |ret u=>exact I.after hq
  |next=>exact False.elim hq
  |brk=>exact False.elim hq
  |cont=>exact False.elim hq
theorem xrw (F:FnOk X.prog X.w X.K X.mg X.base CX k f fd ps sp) (i:Room k X.A) (m:Gl X x) (j:X.mg x=some (.ref f)) (l:PySem.W.keepIn X.K (.ref f)=true) (o:Binds X.K fd ps ds) (hd:Vals dvs ds) (g:xow CX X E)
  (u:PA X (e::es) t) (b:(x == ("__debug__":Str))=false:=by decide) (n:starEach (e::es) X.env=(false,eval e X.env)::starEach es X.env:=by rfl) (a:(backTo pos (starEach es X.env)).any (·.1)=false:=by rfl) :
  PE X (.Call (.Name x p) (e::es) [] pos) (xtg sp dvs E t):=by
 intro pins s σ H Q I h;refine wpAny_Call_Name_kw (xn6 I m j ?_ b);refine PySem.W.callWith_K (h₀:=X.base) I.ok.mod.kin l (thn (u pos pins s σ H _ I h) λus y ⟨vs,H1,c,r,q⟩=>⟨c.kIn,?_⟩) n a;exact xtu F i o hd g c r q
end
structure FnScope(N P:List Str)(sc:Scope):Prop where
 kind:sc.kind=.function
 co:sc.isCoroutine=false
 gen:sc.isGenerator=false
 nd:N.Nodup
 pre:N.take P.length=P
 par:∀x∈P,sc.names.lookup x=some .local\/sc.names.lookup x=some .cell
 nofree:∀y∈sc.names,y.2≠.free
theorem xi3{a:Str->Option NameKind}{x:Str}:∀{binds:List (Str×Value)} {m:Str->Option Value},(∀v,(x,v) ∉binds)->bindL a binds m x=m x
 |[],_,_=>rfl
 | (n,v)::r,m,h=>by
  unfold bindL;rw[xi3 λw b=>h w (List.mem_cons_of_mem _ b)];split
  ·have:x≠n:=by rintro rfl;exact h v List.mem_cons_self
   simp[this]
  ·rfl
theorem xi5{a:Str->Option NameKind}{x:Str}:∀{binds:List (Str×Value)} {m:Str->Option Value},(∀v,(x,v) ∉binds)->bindC a binds m x=m x
 |[],_,_=>rfl
 | (n,v)::r,m,h=>by
  unfold bindC;rw[xi5 λw b=>h w (List.mem_cons_of_mem _ b)];split
  ·rfl
  ·have:x≠n:=by rintro rfl;exact h v List.mem_cons_self
   simp[this]
theorem xi4 {a:Str->Option NameKind} {x:Str} {v:Value}:∀{P:List Str} {vs:List Value} {i:Nat} {m:Str->Option Value},P.Nodup->P[i]?=some x->vs[i]?=some v->a x=some .local->
  bindL a (P.zip vs) m x=some v
 |[],_,_,_,_,h,_,_=>by simp at h
 |_::_,[],_,_,_,_,h,_=>by simp at h
 |p::P,w::vs,0,m,nd,h1,h2,b=>by
  simp at h1 h2;subst h1;subst h2;show bindL a ((p,w)::P.zip vs) m p=_;unfold bindL;rw[xi3 λv c=>(List.nodup_cons.mp nd).1 (List.of_mem_zip c).1,if_pos b];simp
 |p::P,w::vs,i+1,m,nd,h1,h2,b=>by
  show bindL a ((p,w)::P.zip vs) m x=_;unfold bindL;exact xi4 (i:=i) (List.nodup_cons.mp nd).2 (by simpa using h1) (by simpa using h2) b
theorem xi6 {a:Str->Option NameKind} {x:Str} {v:Value}:∀{P:List Str} {vs:List Value} {i:Nat} {m:Str->Option Value},P.Nodup->P[i]?=some x->vs[i]?=some v->a x≠some .local->
  bindC a (P.zip vs) m x=some v
 |[],_,_,_,_,h,_,_=>by simp at h
 |_::_,[],_,_,_,_,h,_=>by simp at h
 |p::P,w::vs,0,m,nd,h1,h2,b=>by
  simp at h1 h2;subst h1;subst h2;show bindC a ((p,w)::P.zip vs) m p=_;unfold bindC;rw[xi5 λv c=>(List.nodup_cons.mp nd).1 (List.of_mem_zip c).1,if_neg b];simp
 |p::P,w::vs,i+1,m,nd,h1,h2,b=>by
  show bindC a ((p,w)::P.zip vs) m x=_;unfold bindC;exact xi6 (i:=i) (List.nodup_cons.mp nd).2 (by simpa using h1) (by simpa using h2) b
def xfo(N:List Str)(vs:List V):St:=vs.map some++List.replicate (N.length-vs.length) none
def cxOf(CX:CXT)(P:Program)(w:World)(K:Fg)(mg:Str->Option Value)(base:Heap)(N:List Str)(qual:Str)(scope:Scope)(f:Addr)(cd:Value)(A:Around)(outer:List Env)(s:Shared)(H:Hp)(E:XK):Cx where
 prog:=P
 w:=w
 K:=K
 mg:=mg
 base:=base
 A:=A.deeper (envOfC qual scope s.heap.objs.size f cd)
 N:=N
 s₀:=s
 H₀:=H
 env:=envOfC qual scope s.heap.objs.size f cd
 outer:=outer
 stack:=envOfC qual scope s.heap.objs.size f cd::outer
 ex:=[]
 calm:=true
 fn:=λ_=>true
 pn:=[]
 xe:=λe s'=>wpAny (model P w) (A.deeper (envOfC qual scope s.heap.objs.size f cd)) (leaving (envOfC qual scope s.heap.objs.size f cd) e) (λ_ s''=>CX outer H s E e s'') (λe' s''=>CX outer H s E e' s'') s'
theorem xli{a:Scope}{n:Nat}{x:Str}(h:a.names.lookup x=some .cell):∃c,(cellsFrom n a.names []).lookup x=some c:=by
 have q:=PySem.W.cellsFrom_some a.names n [] (.inl h);exact Option.isSome_iff_exists.mp q
theorem xof {CX:CXT} {P:Program} {w:World} {K:Fg} {mg:Str->Option Value} {base:Heap} {N ps:List Str} {j:Str} {g:Scope} {f:Addr} {I:Value} {A:Around} {outer:List Env} {s J:Shared} {H:Hp} {E:XK} {us:List Value} {vs:List V}
  (S:FnScope N ps g) (hd:A.handled=none) (l:Env0 P w K mg base A outer s H) (hl:vs.length=ps.length) (r:Vals vs us)
  (x:InCallC s s.heap.objs.size (bindL (envOfC j g s.heap.objs.size f I).kindOf (ps.zip us) λ_=>none) (cellsFrom (s.heap.objs.size+1) g.names []) (bindC (envOfC j g s.heap.objs.size f I).kindOf (ps.zip us) λ_=>none) J) :
  Inv (cxOf CX P w K mg base N j g f I A outer s H E) [] (xfo N vs) H J:=by
 have Y:ps.length<=N.length:=by have:=congrArg List.length S.pre;rw[List.length_take]at this;omega
 obtain⟨h1,tk,rfl,O⟩:=x.done;have m:∀b:Addr,b ∉(cxOf CX P w K mg base N j g f I A outer s H E).ex:=λb z=>absurd (show b∈([]:List Addr) from z) (by simp)
 refine⟨⟨l.mod,S.kind,rfl,rfl,Nat.le_refl _,λy z c h1 h2=>?_,λy o=>?_,λy c _ h=>?_,λ_=>hd,Around.frames_deeper l.frames,.inr ⟨rfl,rfl⟩,λb z=>absurd z (m b),l.bs,l.bsz,λb _ _=>m b,λb z=>absurd z (m b),l.funs,l.frf⟩,
  rfl,l.bare,Un.kept O,⟨_,x.toInCall.ns,λi y v h1 h2 h3=>?_⟩,λy c h=>⟨_,x.cell y c h⟩,l.hok.fresh (Nat.le_refl _),λy c h=>?_,λp G=>absurd (show p∈([]:List (Addr×Obj)) from G) (by simp),l.hok.kept O,?_⟩
 ·exact name_of_addr x.apart (PySem.mem_of_lookup h1) (PySem.mem_of_lookup h2)
 ·have o:g.names.lookup y=some .cell\/g.names.lookup y=some .free:=o
  rcases o with o |o
  ·exact xli o
  ·exact absurd rfl (S.nofree _ (PySem.mem_of_lookup o))
 ·exact Nat.le_of_lt (x.above y c (PySem.mem_of_lookup h))
 ·have hi:i<vs.length:=by
   unfold xfo at h2;by_cases hi:i<vs.length
   ·exact hi
   ·rw[List.getElem?_append_right (by simpa using hi)]at h2
    rw[List.getElem?_replicate]at h2;split at h2 <;> cases h2
  have Z:vs[i]?=some v:=by
   unfold xfo at h2;rw[List.getElem?_append_left (by simpa using hi),zGM]at h2
   cases e:vs[i]? with
   |none=>rw[e]at h2;cases h2
   |some a=>rw[e]at h2;cases h2;rfl
  obtain⟨u,M,U⟩:=r.get Z
  have G:ps[i]?=some y:=by
   rw[<- S.pre,List.getElem?_take_of_lt (by omega)];exact h1
  have C:ps.Nodup:=by rw[<- S.pre];exact S.nd.sublist (List.take_sublist _ _)
  refine⟨u,U,?_⟩;rcases S.par y (zMG G) with k |k
  ·exact .inl ⟨k,xi4 C G M k⟩
  ·obtain⟨c,e⟩:=xli (n:=s.heap.objs.size+1) k
   refine .inr ⟨.inl k,c,e,?_⟩;have q:=x.cell y c e;rw[xi6 C G M (by show g.names.lookup y≠_;rw[k];decide)]at q;exact q
 ·exact l.hok.fresh (Nat.le_of_lt (x.above y c (PySem.mem_of_lookup h)))
 ·unfold xfo
  show _=N.length;rw[zLA,zLM,List.length_replicate];omega
theorem xv4 {CX:CXT} {P:Program} {w:World} {K:Fg} {mg:Str->Option Value} {base:Heap} {k:Nat} {f:Addr} {name qual:Str} {params:Arguments} {body:List Stmt} {scope:Scope} {dV kV doc pm cdv ct oc:Value} {an od:Option Addr}
  {osl:Array (Option Value)} {N ps:List Str} {sp:Sp} (lk:K.lookup f=some ⟨oc,od,.func (PySem.W.fnOf name qual params body scope dV kV doc pm an cdv ct),osl⟩) (hcd:PySem.W.codeIn K cdv qual=true) (S:FnScope N ps scope)
  (len:∀vs H Q E,sp vs H Q E->vs.length=ps.length)
  (hbody:∀(A:Around) (outer:List Env) (s:Shared) (H:Hp) (vs:List V) (Q:VK) (E:XK),Room k (A.deeper (envOfC qual scope s.heap.objs.size f cdv))->sp vs H Q E->
   ∃t,PSs (cxOf CX P w K mg base N qual scope f cdv A outer s H E) body t/\t {nx:=λ_ H'=>Q .non H',rt:=Q} (xfo N vs) H) :
  FnOk P w K mg base CX (k+1) f (PySem.W.fnOf name qual params body scope dV kV doc pm an cdv ct) ps sp:=by
 refine⟨len,λA outer s H args us vs Q E hr e0 hb r hsp=>?_⟩;have hl:=len _ _ _ _ hsp;have KX:K.In s.heap:=e0.mod.kin.keeps λb o e=>(e0.bs b o e).1;have lim:s.heap.NoLimit:=e0.mod.nolimit.keeps λb o e=>(e0.bs b o e).1
 have hkind:∀y∈ps.zip us,scope.names.lookup y.1=some .local\/(scope.names.lookup y.1=some .cell/\((cellsFrom (s.heap.objs.size+1) scope.names []).lookup y.1).isSome=true):=λ⟨n,v⟩ hy=>by
  rcases S.par n (List.of_mem_zip hy).1 with q |q
  ·exact .inl q
  ·exact .inr ⟨q,PySem.W.cellsFrom_some _ _ _ (.inl q)⟩
 refine codeAny_call_function hr.depth (KX _ _ lk) rfl S.co S.gen rfl (PySem.W.codeRec_of KX hcd) (hb _ _ _ _ ?_);refine wpAny_newFunctionEnv_cells S.kind hkind λenv he s1 x=>?_;subst he;refine⟨lim.keeps x.toInCall.keep,codeAny_func ?_⟩;obtain⟨t,ht,hq⟩:=hbody A outer s H vs Q E (hr.deeper _) hsp;have I:Inv (cxOf CX P w K mg base N qual scope f cdv A outer s H E) [] (xfo N vs) H s1:=xof S (Prod.mk.inj hr.hd).1 e0 hl r x;refine wpAny_mono (ht [] s1 (xfo N vs) H _ I hq) (λfl s' hs=>?_) λe s' hs=>hs
 have fin:∀{σ':St} {H':Hp} {v:V} {u:Value},Inv (cxOf CX P w K mg base N qual scope f cdv A outer s H E) [] σ' H' s'->RelV v u->Q v H'->CE outer P w H s Q u s':=
  λ{σ' H' v u} J rv q=>⟨v,H',J.os,J.bare,J.base,J.hok,rv,q⟩
 cases fl with
 |ret u=>
  obtain⟨v,σ',H',J,rv,q⟩:=hs;exact fin J rv q
 |next=>
  obtain⟨σ',H',J,q⟩:=hs;exact fin (v:=V.non) (u:=Value.none) J rfl q
 |brk=>
  obtain⟨_,_,_,q⟩:=hs;exact False.elim q
 |cont=>
  obtain⟨_,_,_,q⟩:=hs;exact False.elim q
section
variable {X:Cx}{x:Str}{p pos:Pos}{e:Expr}{es:List Expr}{t:TA}{id T:String}{r:List V->Hp->VK->Prop}
def tCB(r:List V->Hp->VK->Prop)(t:TA):TE:=λσ H Q=>t σ H λvs H1=>r vs H1 Q
theorem xai (hc:xdy X (.builtin id) r) (hg:Gl X x) (hm:X.mg x=none) (hv:bootBuiltins x=some (.builtin id)) (ha:PA X (e::es) t) (hn:x≠"__name__":=by decide) (hdb:(x == ("__debug__":Str))=false:=by decide)
  (he:starEach (e::es) X.env=(false,eval e X.env)::starEach es X.env:=by rfl) (hpl:(backTo pos (starEach es X.env)).any (·.1)=false:=by rfl):PE X (.Call (.Name x p) (e::es) [] pos) (tCB r t):=by
 intro pins s σ H Q I h;refine wpAny_Call_Name_kw (xfb I hg hm hv ?_ hn hdb);exact PyProof.Rows.callWith_builtin1 (thn (ha pos pins s σ H _ I h) λus s1 ⟨vs,H1,I1,r1,q1⟩=>hc pins s1 σ H1 vs us Q I1 r1 q1) he hpl
theorem xa7 (hc:xdy X (.type T) r) (hg:Gl X x) (hm:X.mg x=none) (hv:bootBuiltins x=some (.type T)) (ha:PA X (e::es) t) (hn:x≠"__name__":=by decide) (hdb:(x == ("__debug__":Str))=false:=by decide)
  (he:starEach (e::es) X.env=(false,eval e X.env)::starEach es X.env:=by rfl) (hpl:(backTo pos (starEach es X.env)).any (·.1)=false:=by rfl):PE X (.Call (.Name x p) (e::es) [] pos) (tCB r t):=by
 intro pins s σ H Q I h;refine wpAny_Call_Name_kw (xfb I hg hm hv ?_ hn hdb);exact PyProof.Rows.callWith_type1 (thn (ha pos pins s σ H _ I h) λus s1 ⟨vs,H1,I1,r1,q1⟩=>hc pins s1 σ H1 vs us Q I1 r1 q1) he hpl
end
end L2
namespace HT
open PySem PyProof.Rows
section
variable {prog:Program}{w:World}{A:Around}{E:Value->Shared->Prop}{s:Shared}
theorem cat_tup {t b:Addr} {vs ws:List Value} {Q:Value->Shared->Prop} (ht:IsTup s.heap t vs.toArray) (hb:IsTup s.heap b ws.toArray) (hv:vs≠[])
  (h1:ws=[]->Q (.ref t) s) (h2:ws≠[]->Q (.ref s.heap.objs.size) {s with heap:=s.heap.push {cls:=.type "tuple",data:=.seq (vs++ws).toArray}})
  (hsz:vs.length+ws.length<=sizeLine):wpAny (model prog w) A (binaryOp .Add (.ref t) (.ref b)) Q E s:=by
 obtain⟨⟨cls,dd,data,sl⟩,ho,hc,n,hd⟩:=id ht;obtain⟨⟨cls2,dd2,data2,sl2⟩,ho2,hc2,n2,hd2⟩:=id hb;simp only at hc hd hc2 hd2;subst hc hd hc2 hd2;have e:vs.toArray++ws.toArray=(vs++ws).toArray:=by simp
 by_cases hw:ws=[]
 ·exact concat_meets ⟨_,ho,rfl⟩ ⟨_,ho2,rfl⟩ noFill_tuple_add seq_tuple_add PySem.F.slot_tuple_add PySem.F.entry_tuple_add (PySem.F.args_tuple_add_2 _ _)
   (tuple_addW1 t b vs.toArray ws.toArray n n2 dd dd2 sl sl2 (by simpa using hv) (by simp[hw])) ⟨ho,ho2,h1 hw⟩
 ·refine concat_meets ⟨_,ho,rfl⟩ ⟨_,ho2,rfl⟩ noFill_tuple_add seq_tuple_add PySem.F.slot_tuple_add PySem.F.entry_tuple_add (PySem.F.args_tuple_add_2 _ _)
   (tuple_addW2 t b vs.toArray ws.toArray n n2 dd dd2 sl sl2 (by simpa using hv) (by simpa using hw) (by rw[List.size_toArray,List.size_toArray];exact hsz)) ⟨ho,ho2,?_⟩
  rw[e];exact h2 hw
def sIx(n d:Nat):Option Int->Nat
 |none=>d
 |some v=>if v<0 then (v+(n:Int)).toNat else min v.toNat n
theorem sIx_none(n d:Nat):sIx n d none=d:=rfl
theorem sIx_nat(n d k:Nat):sIx n d (some (k:Int))=min k n:=by
 show(if (k:Int)<0 then ((k:Int)+(n:Int)).toNat else min (k:Int).toNat n)=min k n;rw[if_neg (by omega),Int.toNat_natCast]
theorem xtt(n d:Nat)(hd:d<=n)(o:Option Int):sIx n d o<=n:=by
 cases o with
 |none=>exact hd
 |some v=>
  show(if v<0 then (v+(n:Int)).toNat else min v.toNat n)<=n;by_cases a:v<0
  ·rw[if_pos a];omega
  ·rw[if_neg a];exact Nat.min_le_right _ _
theorem xou(v:Int)(n d:Nat):(if v<0 then max (v+(n:Int)) 0 else min v (n:Int))=((sIx n d (some v):Nat):Int):=by
 show(if v<0 then max (v+(n:Int)) 0 else min v (n:Int))=(((if v<0 then (v+(n:Int)).toNat else min v.toNat n):Nat):Int);by_cases a:v<0
 ·simp only[if_pos a];omega
 ·simp only[if_neg a];omega
theorem xmh(lo hi:Option Int)(n:Nat):Builtin.Slice.sliceAdjust lo hi 1 (n:Int)=(((sIx n 0 lo:Nat):Int),((sIx n n hi:Nat):Int)):=by
 have h1:¬((1:Int)<0):=by omega
 unfold Builtin.Slice.sliceAdjust;simp only[h1,if_false];refine Prod.ext ?_ ?_
 ·cases lo with
  |none=>rfl
  |some v=>exact xou v n 0
 ·cases hi with
  |none=>rfl
  |some v=>exact xou v n n
theorem xlx(i j:Nat):Builtin.Slice.slicePlaces (i:Int) (j:Int) 1=j-i:=by
 unfold Builtin.Slice.slicePlaces;have h1:(1:Int) > 0:=by omega
 simp only[h1,if_true,Int.ediv_one];split <;> omega
theorem xgk{v:Value}{o:Option Int}{Q:Option Int->Shared->Prop}(p:IsPart v o)(h:Q o s):wpAny (model prog w) A (Builtin.Slice.slicePartIndex v) Q E s:=by
 cases p with
 |none=>exact slicePart_none h
 |int i t=>exact slicePart_int h
theorem xfd {sl:Addr} {e c:Value} {lo hi:Option Int} {n:Nat} {Q:Int×Int×Nat->Shared->Prop} (hs:s.heap.IsSliceOf sl e c .none) (pl:IsPart e lo) (f:IsPart c hi)
  (h:Q (((sIx n 0 lo:Nat):Int),1,sIx n n hi-sIx n 0 lo) s):wpAny (model prog w) A (Builtin.Slice.sliceApplied (.ref sl) (pure (n:Int))) Q E s:=by
 obtain⟨i,a,g,b⟩:=id hs;unfold Builtin.Slice.sliceApplied Builtin.Slice.sliceFields;refine wpAny_bind (wpAny_bind (wpAny_field a b (x:=e) rfl (wpAny_bind (wpAny_field a b (x:=c) rfl (wpAny_bind (wpAny_field a b (x:=.none) rfl (wpAny_pure ?_)))))));refine wpAny_bind (slicePart_none ?_);show wpAny _ _ (if ((1:Int) == 0)=true then _ else _) _ _ s;rw[if_neg (by decide)];refine wpAny_bind (xgk pl (wpAny_bind (xgk f (wpAny_bind (wpAny_pure ?_)))));show wpAny _ _ (match Builtin.Slice.sliceAdjust lo hi 1 (n:Int) with |(lo,hi)=>pure (lo,(1:Int),Builtin.Slice.slicePlaces lo hi 1)) _ _ s;rw[xmh lo hi n];show wpAny _ _ (pure (((sIx n 0 lo:Nat):Int),(1:Int),Builtin.Slice.slicePlaces ((sIx n 0 lo:Nat):Int) ((sIx n n hi:Nat):Int) 1)) _ _ s;rw[xlx];exact wpAny_pure h
theorem xpd(xs:Array Value)(i k:Nat):((List.range k).filterMap λ(m:Nat)=>xs[((i:Int)+(m:Int)*1).toNat]?).toArray=((xs.toList.drop i).take k).toArray:=by
 have e:(λ(m:Nat)=>xs[((i:Int)+(m:Int)*1).toNat]?)=λm=>xs[i+m]?:=by
  funext m
  have:((i:Int)+(m:Int)*1).toNat=i+m:=by omega
  rw[this]
 rw[e];have:=pick_run xs i k;rw[List.filterMap_map]at this;have a:((λx=>xs[x]?) ∘ λx=>i+x)=λm=>xs[i+m]?:=rfl;rw[a]at this;rw[this]
theorem getItem_tuple_cut {t sl:Addr} {items:Array Value} {j i:Value} {lo hi:Option Int} {Q:Value->Shared->Prop} (b:IsTup s.heap t items) (hs:s.heap.IsSliceOf sl j i .none) (pl:IsPart j lo) (l:IsPart i hi)
  (o:¬(sIx items.size 0 lo=0/\sIx items.size items.size hi=items.size))
  (h:Q (.ref s.heap.objs.size) {s with heap:=s.heap.push {cls:=.type "tuple",data:=.seq ((items.toList.drop (sIx items.size 0 lo)).take (sIx items.size items.size hi-sIx items.size 0 lo)).toArray}})
  (hsz:items.size<=sizeLine):wpAny (model prog w) A (getItem (.ref t) (.ref sl)) Q E s:=by
 have a:sizeOk (.seq ((items.toList.drop (sIx items.size 0 lo)).take (sIx items.size items.size hi-sIx items.size 0 lo)).toArray):=by
  show((items.toList.drop (sIx items.size 0 lo)).take (sIx items.size items.size hi-sIx items.size 0 lo)).toArray.size<=sizeLine;rw[List.size_toArray,List.length_take,List.length_drop,Array.length_toList];omega
 have x:sIx items.size items.size hi<=items.size:=xtt _ _ (Nat.le_refl _) hi;obtain⟨n,c,f,p⟩:=id hs;have g:s.TypeIs (.ref sl) "slice":=⟨n,c,f⟩;unfold getItem
 try with_reducible refine wpAny_holding ?_
 first |refine wpAny_bind (wpAny_pure ?_) |skip
 refine wpAny_bind (wpAny_sequenceKey b.typeIs (by decide) ?_)
 refine wpAny_bind (wpAny_callSpecial?_slot (name:=Str.ofString "__getitem__") b.typeIs PyProof.Rows.slot_tuple_getitem
  (wpAny_call_entry PyProof.Rows.slot_tuple_getitem b.typeIs entry_tuple_getitem ?_ (args_tuple_getitem _ _)))
 show wpAny _ _ (Builtin.Tuple.tupleItemsOf (.ref t) >>= _) _ _ s;refine wpAny_bind (tupleItemsOf_ b ?_);refine wpAny_bind (wpAny_typeOf g ?_);rw[if_pos (by decide)];refine wpAny_bind (xfd hs pl l ?_)
 have e:¬((((sIx items.size 0 lo:Nat):Int) == 0 && (1:Int) == 1 && (sIx items.size items.size hi-sIx items.size 0 lo) == items.size)=true):=by
  intro q;rw[Bool.and_eq_true,Bool.and_eq_true]at q;have u:((sIx items.size 0 lo:Nat):Int)=0:=eq_of_beq q.1.1;have r:sIx items.size items.size hi-sIx items.size 0 lo=items.size:=eq_of_beq q.2;exact o ⟨by omega,by omega⟩
 show wpAny _ _ (if (((sIx items.size 0 lo:Nat):Int) == 0 && (1:Int) == 1 && (sIx items.size items.size hi-sIx items.size 0 lo) == items.size)=true then _ else _) _ _ s;rw[if_neg e,xpd]
 first
  |exact wpAny_bind (m:=Builtin.Tuple.tupleExact _) (wpAny_newObj_type (wpAny_pure ⟨_,rfl,wpAny_pure h⟩) a)
  |exact wpAny_bind (m:=Builtin.Tuple.tupleExact _) (wpAny_newObj_type (wpAny_bind (wpAny_pure (wpAny_pure ⟨_,rfl,wpAny_pure h⟩))) a)
  |exact wpAny_bind (wpAny_bind (m:=Builtin.Tuple.tupleExact _) (wpAny_newObj_type (wpAny_pure (wpAny_pure ⟨_,rfl,wpAny_pure h⟩)) a))
  |exact wpAny_bind (wpAny_bind (m:=Builtin.Tuple.tupleExact _) (wpAny_newObj_type (wpAny_pure ⟨_,rfl,wpAny_pure h⟩) a))
end
end HT
namespace L2
open PySem PySem.Spec PyProof.Rows
abbrev TO:=St->Hp->(Option Int->Hp->Prop)->Prop
def PO(X:Cx)(e:Option Expr)(t:TO):Prop:=
 ∀(pins:List (Addr×Obj)) (s:Shared) (σ:St) (H:Hp) (Q:Option Int->Hp->Prop),Inv X pins σ H s->t σ H Q->
  wpAny (model X.prog X.w) X.A (evalPart e X.env) (λu s'=>∃o H',Inv X pins σ H' s'/\IsPart u o/\Q o H') X.xe s
def xra:TO:=λ_ H Q=>Q none H
def xva(t:TE):TO:=λσ H Q=>t σ H λx H1=>∃i,x=.int i/\Q (some i) H1
theorem xgq{ns:List Int}:∀{us:List Value},Vals (ns.map V.int) us->IntsAre us ns:=by
 induction ns with
 |nil=>intro us r;rw[List.map_nil]at r;cases r;exact .nil
 | cons n ns c=>
  intro us r;rw[List.map_cons]at r
  cases r with
  |cons b a=>
   obtain⟨t,e⟩:=b;subst e;exact .cons n t (c a)
section
variable {X:Cx}{e:Expr}{te:TE}{lo hi:Option Expr}{tl th:TO}{pos p2:Pos}
theorem xg6:PO X none xra:=by
 intro pins s σ H Q I h;rw[evalPart_none];exact wpAny_pure ⟨none,H,I,.none,h⟩
theorem xdq(h:PE X e te):PO X (some e) (xva te):=by
 intro pins s σ H Q I c;rw[evalPart_some];refine thn (h pins s σ H _ I c) λu g ⟨x,H1,f,a,b⟩=>?_;obtain⟨i,rfl,q⟩:=b;obtain⟨t,rfl⟩:=a;exact⟨some i,H1,f,.int i t,q⟩
def SlR(X:Cx)(r:V->Option Int->Option Int->Hp->VK->Prop):Prop:=
 ∀(pins:List (Addr×Obj)) (s:Shared) (σ:St) (H:Hp) (x:V) (v vl vu:Value) (lo hi:Option Int) (sl:Addr) (Q:VK),Inv X pins σ H s->RelV x v->s.heap.IsSliceOf sl vl vu .none->IsPart vl lo->IsPart vu hi->r x lo hi H Q->
  ∃T id,typeLookup (.type T) "__getitem__"=pure (some (.builtin id))/\s.TypeIs v T/\wpAny (model X.prog X.w) X.A (getItem v (.ref sl)) (EP X pins σ Q) X.xe s
def tSl(r:V->Option Int->Option Int->Hp->VK->Prop)(te:TE)(tl th:TO):TE:=λσ H Q=>te σ H λx H1=>tl σ H1 λl H2=>th σ H2 λu H3=>r x l u H3 Q
theorem xd1{r:V->Option Int->Option Int->Hp->VK->Prop}(hr:SlR X r)(he:PE X e te)(hl:PO X lo tl)(hu:PO X hi th):PE X (.Subscript e (.Slice lo hi none p2) pos) (tSl r te tl th):=by
 intro pins s σ H Q I h;refine Subscript_ (thn (he pins s σ H _ I h) λv s1 ⟨x,H1,I1,r1,q1⟩=>?_);refine wpAny_Slice (thn (hl pins s1 σ H1 _ I1 q1) λvl s2 ⟨l,H2,I2,pl,q2⟩=>thn (hu pins s2 σ H2 _ I2 q2) λvu s3 ⟨u,H3,I3,pu,q3⟩=>?_);rw[evalPart_none];refine wpAny_pure ?_;have I4:Inv X pins σ H3 {s3 with heap:=s3.heap.push {cls:=.type "slice",data:=.fields #[vl,vu,.none]}}:=I3.kept (t':=s3.toks) λb ob q=>zPO _ q;obtain⟨T,id,hT,ht,hg⟩:=hr pins {s3 with heap:=s3.heap.push {cls:=.type "slice",data:=.fields #[vl,vu,.none]}} σ H3 x v vl vu l u s3.heap.objs.size Q I4 r1 (Heap.IsSliceOf.new ..) pl pu q3;show wpAny (model X.prog X.w) X.A (subscriptTail e (.Slice lo hi none p2) v (.ref s3.heap.objs.size)) (EP X pins σ Q) X.xe {s3 with heap:=s3.heap.push {cls:=.type "slice",data:=.fields #[vl,vu,.none]}};exact tail_any (ops:=[.ref s3.heap.objs.size,v]) ht hT hg (by with_unfolding_all rfl)
def cutV(xs:List V)(lo hi:Option Int):List V:=(xs.drop (HT.sIx xs.length 0 lo)).take (HT.sIx xs.length xs.length hi-HT.sIx xs.length 0 lo)
theorem xga(xs:List V)(lo hi:Option Int):(cutV xs lo hi).length<=xs.length:=by
 unfold cutV;rw[List.length_take,List.length_drop];omega
def rSlT(K:Fg):V->Option Int->Option Int->Hp->VK->Prop:=λx lo hi H Q=>∃a xs,x=.ref a/\SqT K H a xs ∧
 ¬(HT.sIx xs.length 0 lo=0/\HT.sIx xs.length xs.length hi=xs.length)/\∀p,H p=none->Q (.ref p) (upd H p (.tup (cutV xs lo hi)))
theorem xtr:SlR X (rSlT X.K):=by
 intro pins s σ H x v m l lo hi sl Q I f hs pl g h;obtain⟨a,xs,rfl,i,j,q⟩:=h;cases f;obtain⟨its,r,e,hz⟩:=I.tuple i;have c:its.toArray.size=xs.length:=by rw[List.size_toArray];exact r.length.symm
 refine⟨"tuple",_,PyProof.Rows.slot_tuple_getitem.lookup,e.typeIs,?_⟩;refine HT.getItem_tuple_cut e hs pl g (by rw[c];exact j) ?_ (by rw[c];exact hz);rw[c];refine⟨.ref s.heap.objs.size,_,I.laid (t':=s.toks) (o:=.tup (cutV xs lo hi)) (λb n q=>zPO _ q) (Nat.le_refl _) ?_,rfl,q _ (I.hok.fresh (Nat.le_refl _))⟩;exact⟨Nat.le_trans (xga xs lo hi) hz,_,(r.drop (HT.sIx xs.length 0 lo)).take (HT.sIx xs.length xs.length hi-HT.sIx xs.length 0 lo),_,Heap.get?_push_size _ rfl,rfl,_,rfl,rfl⟩
def xvq(K:Fg):R2:=λx y H Q=>∃a b xs ys,x=.ref a/\y=.ref b/\SqT K H a xs/\SqT K H b ys/\xs≠[]/\xs.length+ys.length<=sizeLine ∧
 (ys=[]->Q (.ref a) H)/\(ys≠[]->∀p,H p=none->Q (.ref p) (upd H p (.tup (xs++ys))))
theorem Vals.nil_iff{xs:List V}{us:List Value}(r:Vals xs us):us=[] ↔ xs=[]:=by
 cases r with
 |nil=>simp
 |cons _ _=>simp
theorem xr1:OpR X (binaryOp .Add) (xvq X.K):=by
 intro pins s σ H x y v u Q I i g h;obtain⟨a,b,xs,ys,rfl,rfl,r,p,n,hz,l,j⟩:=h;cases i;cases g;obtain⟨its,e,m,_⟩:=I.tuple r;obtain⟨f,c,p2,_⟩:=I.tuple p;refine HT.cat_tup m p2 (λz=>n (e.nil_iff.mp z)) (λz=>⟨.ref a,H,I,rfl,l (c.nil_iff.mp z)⟩) (λz=>?_) (by rw[<- e.length,<- c.length];exact hz);refine⟨.ref s.heap.objs.size,_,I.laid (t':=s.toks) (o:=.tup (xs++ys)) (λb C q=>zPO _ q) (Nat.le_refl _) ?_,rfl,j (λw=>z (c.nil_iff.mpr w)) _ (I.hok.fresh (Nat.le_refl _))⟩;exact⟨by rw[zLA];exact hz,_,e.append c,_,Heap.get?_push_size _ rfl,rfl,_,rfl,rfl⟩
end
def ixN(n:Nat)(i:Int):Option Nat:=if 0<=i then (if i<n then some i.toNat else none) else if -(n:Int)<=i then some (i+n).toNat else none
def atI{α:Type}(xs:List α)(i:Int):Option α:=(ixN xs.length i).bind λj=>xs[j]?
theorem xod{n:Nat}{i:Int}{j:Nat}(h:ixN n i=some j):seqIndex? i n=some j/\j<n/\-(n:Int)<=i/\i<n:=by
 unfold ixN at h;by_cases h0:0<=i
 ·rw[if_pos h0]at h
  by_cases h1:i<n
  ·rw[if_pos h1]at h
   have e:i.toNat=j:=Option.some.inj h;exact⟨by rw[seqIndex_of h0 h1,e],by omega,by omega,h1⟩
  ·rw[if_neg h1]at h;cases h
 ·rw[if_neg h0]at h
  by_cases h1:-(n:Int)<=i
  ·rw[if_pos h1]at h
   have e:(i+n).toNat=j:=Option.some.inj h;exact⟨by rw[seqIndex_neg (by omega) h1,e],by omega,h1,by omega⟩
  ·rw[if_neg h1]at h;cases h
theorem xki{α:Type}{xs:List α}{i:Int}{v:α}(h:atI xs i=some v):∃j,seqIndex? i xs.length=some j/\xs[j]?=some v/\j<xs.length/\-(xs.length:Int)<=i/\i<xs.length:=by
 unfold atI at h
 cases e:ixN xs.length i with
 |none=>rw[e]at h;cases h
 |some j=>
  rw[e]at h;obtain⟨h1,h2,b,a⟩:=xod e;exact⟨j,h1,h,h2,b,a⟩
theorem xak{α:Type}{xs:List α}{j:Nat}{v:α}(h:xs[j]?=some v):atI xs (j:Int)=some v:=by
 have a:j<xs.length:=(zES h).1
 have e:ixN xs.length (j:Int)=some j:=by
  unfold ixN;rw[if_pos (by omega),if_pos (by omega)];simp
 unfold atI;rw[e];exact h
theorem xqd{α:Type}(xs:List α)(v:α):atI (xs++[v]) (-1)=some v:=by
 have a:(xs++[v]).length=xs.length+1:=by simp
 have e:ixN (xs++[v]).length (-1)=some xs.length:=by
  unfold ixN;rw[a,if_neg (by decide),if_pos (by omega)];congr 1;omega
 unfold atI;rw[e];show(xs++[v])[xs.length]?=some v;simp
def xkj(b:Expr):Prop:=∀o i,subscripted b false o i=operate [o,i] (getItem o i)
def IxR(X:Cx)(r:R2):Prop:=
 ∀(value slice:Expr) (pins:List (Addr×Obj)) (s:Shared) (σ:St) (H:Hp) (x y:V) (v u:Value) (Q:VK),Inv X pins σ H s->RelV x v->RelV y u->r x y H Q->
  subscripted slice false v u=operate [v,u] (getItem v u)->wpAny (model X.prog X.w) X.A (subscriptTail value slice v u) (EP X pins σ Q) X.xe s
def MtR(X:Cx)(id:String)(r:V->List V->Hp->VK->Prop):Prop:=
 ∀(pins:List (Addr×Obj)) (s:Shared) (σ:St) (H:Hp) (x:V) (xs:List V) (v:Value) (us:List Value) (Q:VK),Inv X pins σ H s->RelV x v->Vals xs us->r x xs H Q->
  wpAny (model X.prog X.w) X.A (call (.builtin id) (v::us)) (EP X pins σ Q) X.xe s
section
variable {X:Cx}{a b:Expr}{ta tb:TE}{pos:Pos}
theorem xly{r:R2}(hr:IxR X r)(ha:PE X a ta)(hb:PE X b tb)(hs:xkj b):PE X (.Subscript a b pos) (tOp r ta tb):=by
 intro pins s σ H Q I h;exact Subscript_ (binT ha hb I h λv u s2 x y H2 I2 rx ry q=>hr a b pins s2 σ H2 x y v u Q I2 rx ry q (hs _ _))
def rIxL(K:Fg):R2:=λx y H Q=>∃p xs i v,x=.ref p/\y=.int i/\SqL K H p xs/\atI xs i=some v/\Q v H
def rIxT(K:Fg):R2:=λx y H Q=>∃p xs i v,x=.ref p/\y=.int i/\SqT K H p xs/\atI xs i=some v/\Q v H
def rIxS:R2:=λx y H Q=>∃z i c,x=.str z/\y=.int i/\z.length<=sizeLine/\atI z.cps.toList i=some c/\Q (.str ⟨#[c]⟩) H
theorem iL:IxR X (rIxL X.K):=by
 intro value a pins s σ H x y v u Q I g f h hs;obtain⟨p,xs,i,z,rfl,rfl,l,n,q⟩:=h;cases g;obtain⟨t,rfl⟩:=f;obtain⟨its,r,pl,hz⟩:=I.list l;obtain⟨j,h1,h2,G,C,o⟩:=xki n;obtain⟨w,e,b⟩:=r.get h2;have m:=r.length;have hn:=xin;have fin:EP X pins σ Q w s:=⟨z,H,I,b,q⟩;by_cases h0:0<=i
 ·have c:i.toNat=j:=by
   rw[seqIndex_of h0 o]at h1;exact Option.some.inj h1
  exact item_listR pl.isList h0 (by omega) (by rw[c];simpa using e) fin hs
 ·have c:(i+(its.toArray.size:Int)).toNat=j:=by
   rw[seqIndex_neg (by omega) C]at h1;rw[List.size_toArray,<- m];exact Option.some.inj h1
  exact subscriptTail_builtinR (x:=w) pl.isList.typeIs slot_list_getitem.lookup
   (wpAny_getItem_list_neg (Q:=λr s'=>r=w/\EP X pins σ Q r s') pl.isList (by omega) (by rw[List.size_toArray] <;> omega) (by omega) (by rw[c];simpa using e) ⟨rfl,fin⟩) hs
theorem xui:IxR X (rIxT X.K):=by
 intro value a pins s σ H x y v u Q I e c h hs;obtain⟨p,xs,i,z,rfl,rfl,f,l,q⟩:=h;cases e;obtain⟨t,rfl⟩:=c;obtain⟨its,r,pl,hz⟩:=I.tuple f;obtain⟨j,h1,h2,C,o,n⟩:=xki l;obtain⟨w,m,b⟩:=r.get h2;have g:=r.length;have hn:=xin;have fin:EP X pins σ Q w s:=⟨z,H,I,b,q⟩
 exact subscriptTail_builtinR (x:=w) pl.typeIs slot_tuple_getitem.lookup
  (getItem_tuple (j:=j) (Q:=λr s'=>r=w/\EP X pins σ Q r s') pl (by omega) (by omega) (by rw[List.size_toArray,<- g];exact h1) (by simpa using m) ⟨rfl,fin⟩) hs
theorem xla:IxR X rIxS:=by
 intro value a pins s σ H x y v u Q I e b h hs;obtain⟨z,i,c,rfl,rfl,hz,g,q⟩:=h;obtain⟨t,rfl⟩:=e;obtain⟨t',rfl⟩:=b;obtain⟨j,h1,h2,p,m,l⟩:=xki g;have f:z.cps.toList.length=z.length:=by simp[Str.length]
 rw[f]at h1 m l;have hn:=xin
 exact tail_any (typeIs_str s z t) slot_str_getitem.lookup (getItem_str (c:=c) (by
  have o:decide (i < -(2 ^ 63:Int))=false:=zDF (by omega);have n:decide (i ≥ 2 ^ 63)=false:=zDF (by omega);rw[o,n,Bool.or_false]) (by rw[h1];simpa using h2) ⟨.str ⟨#[c]⟩,H,I.tok _,⟨_,rfl⟩,q⟩) hs
theorem xl8(its:List Value)(n j:Nat)(u:Value):Obj.mapSeq (·.setIfInBounds j u) {cls:=.type "list",data:=.seq its.toArray n}={cls:=.type "list",data:=.seq (its.set j u).toArray n}:=by
 simp[Obj.mapSeq]
theorem Inv.lst {pins:List (Addr×Obj)} {σ:St} {H:Hp} {s:Shared} {p:Addr} {xs:List V} (I:Inv X pins σ H s) (h:H p=some (.lst xs)) :
  ∃(its:List Value) (n:Nat),Vals xs its/\s.heap.get? p=some {cls:=.type "list",data:=.seq its.toArray n}/\xs.length<=sizeLine:=by
 obtain⟨z,its,n,r,e⟩:=I.hok p _ h;exact⟨its,n,r,e,z⟩
theorem Inv.lstUpd {pins:List (Addr×Obj)} {σ:St} {H:Hp} {s:Shared} {p:Addr} {xs ys:List V} {its its':List Value} {n n':Nat} {f:Obj->Obj} (I:Inv X pins σ H s) (h:H p=some (.lst xs))
  (ho:s.heap.get? p=some {cls:=.type "list",data:=.seq its.toArray n}) (hf:f {cls:=.type "list",data:=.seq its.toArray n}={cls:=.type "list",data:=.seq its'.toArray n'}) (r:Vals ys its') (hz:ys.length<=sizeLine) (t:Nat) :
  Inv X pins σ (upd H p (.lst ys)) {s with heap:=s.heap.update p f,toks:=t}:=by
 have e:(s.heap.update p f).get? p=some {cls:=.type "list",data:=.seq its'.toArray n'}:=by
  rw[Heap.get?_update_self f ho (by rw[hf] <;> rfl),hf]
 refine I.write (x:=p) (e:=p) (by rw[h];trivial) (.inl rfl) (λb u hb q=>(Heap.get?_update_other _ _ (Ne.symm hb)).trans q) ⟨_,e⟩ ?_;exact⟨hz,its',n',r,e⟩
def xvo:V->V->V->Hp->(Hp->Prop)->Prop:=λo i v H Q=>∃p xs k j,o=.ref p/\i=.int k/\H p=some (.lst xs)/\ixN xs.length k=some j/\Q (upd H p (.lst (xs.set j v)))
theorem xku:PSet X xvo:=by
 intro pins s σ H o i v z C u Q I w x m h;obtain⟨p,xs,k,j,rfl,rfl,e,y,q⟩:=h;cases w;obtain⟨t,rfl⟩:=x;obtain⟨its,n,r,a,hz⟩:=I.lst e;obtain⟨h1,h2,g,f⟩:=xod y;have b:=r.length;have hn:=xin
 have l:Inv X pins σ (upd H p (.lst (xs.set j v))) {s with heap:=s.heap.update p (Obj.mapSeq (·.setIfInBounds j u))}:=
  I.lstUpd e a (xl8 its n j u) (r.set m j) (by rw[List.length_set];exact hz) s.toks
 by_cases h0:0<=k
 ·have c:k.toNat=j:=by
   rw[seqIndex_of h0 f]at h1;exact Option.some.inj h1
  exact PySem.W.ki_setAt a h0 (by omega) (by rw[List.size_toArray,<- b];exact f) (by rw[c];exact⟨_,l,q⟩)
 ·have c:(k+(its.toArray.size:Int)).toNat=j:=by
   rw[seqIndex_neg (by omega) g]at h1;rw[List.size_toArray,<- b];exact Option.some.inj h1
  exact PySem.W.ki_setBack a (by omega) (by rw[List.size_toArray,<- b];exact g) (by omega) (by rw[c];exact⟨_,l,q⟩)
theorem xhz(lo hi:Option Int)(n:Nat):(sliceBounds lo hi none n).1=((HT.sIx n 0 lo:Nat):Int)/\(sliceBounds lo hi none n).2.1=((HT.sIx n n hi:Nat):Int)/\(sliceBounds lo hi none n).2.2=1:=by
 refine⟨?_,?_,rfl⟩
 ·cases lo with
  |none=>simp[sliceBounds,HT.sIx]
  |some i=>
   simp only[sliceBounds,HT.sIx,Option.getD_none,show(1:Int) > 0 by decide,if_true];by_cases h:i<0
   ·simp only[h,if_true] <;> omega
   ·simp only[h,if_false] <;> omega
 ·cases hi with
  |none=>simp[sliceBounds,HT.sIx]
  |some i=>
   simp only[sliceBounds,HT.sIx,Option.getD_none,show(1:Int) > 0 by decide,if_true];by_cases h:i<0
   ·simp only[h,if_true] <;> omega
   ·simp only[h,if_false] <;> omega
theorem xg4(its:List Value)(lo hi:Option Int):slicePick its.toArray lo hi none=((its.drop (HT.sIx its.length 0 lo)).take (HT.sIx its.length its.length hi-HT.sIx its.length 0 lo)).toArray:=by
 obtain⟨h1,h2,a⟩:=xhz lo hi its.toArray.size;unfold slicePick;rw[h1,h2,a];simp only[sliceRange_one,pick_run,List.size_toArray] <;> rfl
def rSlL(K:Fg):V->Option Int->Option Int->Hp->VK->Prop:=λx lo hi H Q=>∃a xs,x=.ref a/\SqL K H a xs/\∀p,H p=none->Q (.ref p) (upd H p (.lst (cutV xs lo hi)))
theorem xjh:SlR X (rSlL X.K):=by
 intro pins s σ H x v l j lo hi sl Q I f hs pl g h;obtain⟨a,xs,rfl,i,q⟩:=h;cases f;obtain⟨its,r,e,hz⟩:=I.list i;have c:=r.length;refine⟨"list",_,slot_list_getitem.lookup,e.isList.typeIs,?_⟩;refine wpAny_getItem_list_slice e.isList hs pl g .none (by simp) ?_ (by rw[List.size_toArray] <;> omega);rw[xg4,<- c];refine⟨.ref s.heap.objs.size,_,I.laid (t':=s.toks) (o:=.lst (cutV xs lo hi)) (λb m q=>zPO _ q) (Nat.le_refl _) ?_,rfl,q _ (I.hok.fresh (Nat.le_refl _))⟩;exact⟨Nat.le_trans (xga xs lo hi) hz,_,0,(r.drop (HT.sIx xs.length 0 lo)).take (HT.sIx xs.length xs.length hi-HT.sIx xs.length 0 lo),Heap.get?_push_size _ rfl⟩
def xfe:V->Bool
 |.non=>true
 |.bl _=>true
 |.int _=>true
 |.str _=>true
 |_=>false
def eqV:V->V->Bool
 |.non,.non=>true
 |.bl a,.bl b=>a == b
 |.bl a,.int b=>(if a then 1 else 0) == b
 |.int a,.bl b=>a == (if b then 1 else 0)
 |.int a,.int b=>a == b
 |.str a,.str b=>a == b
 |_,_=>false
theorem xuw{A:Around}{s:Shared}{y x:V}{u v:Value}(e:RelV y u)(c:RelV x v)(g:xfe y=true)(f:xfe x=true):SeqAt.EqAt A s u v (eqV y x):=by
 cases y with
 |non=>
  cases e
  cases x with
  |non=>cases c;exact SeqAt.EqAt.same _
  |bl b=>cases c;exact SeqAt.EqAt.none_bool b
  |int b=>obtain⟨t,rfl⟩:=c;exact SeqAt.EqAt.none_int b t
  |str b=>obtain⟨t,rfl⟩:=c;exact SeqAt.EqAt.none_str b t
  |_=>exact absurd (show false=true from f) Bool.false_ne_true
 |bl a=>
  cases e
  cases x with
  |non=>cases c;exact SeqAt.EqAt.bool_none a
  |bl b=>cases c;exact SeqAt.EqAt.bool_bool a b
  |int b=>obtain⟨t,rfl⟩:=c;exact SeqAt.EqAt.bool_int a b t
  |str b=>obtain⟨t,rfl⟩:=c;exact SeqAt.EqAt.bool_str a b t
  |_=>exact absurd (show false=true from f) Bool.false_ne_true
 |int a=>
  obtain⟨t',rfl⟩:=e
  cases x with
  |non=>cases c;exact SeqAt.EqAt.int_none a t'
  |bl b=>cases c;exact SeqAt.EqAt.int_bool a t' b
  |int b=>obtain⟨t,rfl⟩:=c;exact SeqAt.EqAt.int_int a t' b t
  |str b=>obtain⟨t,rfl⟩:=c;exact SeqAt.EqAt.int_str a t' b t
  |_=>exact absurd (show false=true from f) Bool.false_ne_true
 |str a=>
  obtain⟨t',rfl⟩:=e
  cases x with
  |non=>cases c;exact SeqAt.EqAt.str_none a t'
  |bl b=>cases c;exact SeqAt.EqAt.str_bool a t' b
  |int b=>obtain⟨t,rfl⟩:=c;exact SeqAt.EqAt.str_int a t' b t
  |str b=>obtain⟨t,rfl⟩:=c;exact SeqAt.EqAt.str_str a t' b t
  |_=>exact absurd (show false=true from f) Bool.false_ne_true
 |_=>exact absurd (show false=true from g) Bool.false_ne_true
def eqU(x:V)(u:Value):Bool:=match u with
 |.none=>eqV .non x
 |.bool b=>eqV (.bl b) x
 |.int i _=>eqV (.int i) x
 |.str z _=>eqV (.str z) x
 |_=>false
theorem xom{x y:V}{u:Value}(r:RelV y u)(f:xfe y=true):eqU x u=eqV y x:=by
 cases y with
 |non=>cases r;rfl
 |bl b=>cases r;rfl
 |int i=>obtain⟨t,rfl⟩:=r;rfl
 |str z=>obtain⟨t,rfl⟩:=r;rfl
 |_=>exact absurd (show false=true from f) Bool.false_ne_true
theorem xgc{x:V}:∀{xs:List V} {us:List Value},Vals xs us->xs.all xfe=true->us.any (eqU x)=xs.any λy=>eqV y x
 |_,_,.nil,_=>rfl
 |y::xs,u::us,.cons r t,f=>by
  rw[List.all_cons,Bool.and_eq_true]at f;rw[List.any_cons,List.any_cons,xom r f.1,xgc t f.2]
theorem xd4{A:Around}{s:Shared}{x:V}{v:Value}(b:RelV x v)(c:xfe x=true):∀{xs:List V} {us:List Value},Vals xs us->xs.all xfe=true->∀u∈us,SeqAt.EqAt A s u v (eqU x u)
 |_,_,.nil,_=>λu a=>by cases a
 |y::xs,u::us,.cons r t,f=>λe a=>by
  rw[List.all_cons,Bool.and_eq_true]at f;rcases zMC a with rfl |a
  ·rw[xom r f.1];exact xuw r b f.1 c
  ·exact xd4 b c t f.2 e a
def inV(x:V)(xs:List V):Bool:=xs.any λy=>eqV y x
def rIn(K:Fg)(neg:Bool):R2:=λx y H Q=>∃p xs,y=.ref p/\(SqL K H p xs\/SqT K H p xs)/\xfe x=true/\xs.all xfe=true/\Q (.bl (if neg then !inV x xs else inV x xs)) H
theorem xnl:OpR X (compareOp .In) (rIn X.K false):=by
 intro pins s σ H x y v u Q I c f h;obtain⟨p,xs,rfl,a,e,fs,q⟩:=h;cases f;rcases a with a |a
 ·obtain⟨its,r,pl,hz⟩:=I.list a
  refine SeqAt.in_listAt (eqU x) pl.isList (λw b=>xd4 c e r fs w (by simpa using b)) ⟨.bl _,H,I,rfl,?_⟩;rw[show its.toArray.any (eqU x)=its.any (eqU x) by simp,xgc r fs];exact q
 ·obtain⟨its,r,pl,hz⟩:=I.tuple a
  refine SeqAt.in_tupleAt (eqU x) pl (λw b=>xd4 c e r fs w (by simpa using b)) ⟨.bl _,H,I,rfl,?_⟩;rw[show its.toArray.any (eqU x)=its.any (eqU x) by simp,xgc r fs];exact q
theorem xds:OpR X (compareOp .NotIn) (rIn X.K true):=by
 intro pins s σ H x y v u Q I c f h;obtain⟨p,xs,rfl,a,e,fs,q⟩:=h;cases f;rcases a with a |a
 ·obtain⟨its,r,pl,hz⟩:=I.list a
  refine SeqAt.notIn_listAt (eqU x) pl.isList (λw b=>xd4 c e r fs w (by simpa using b)) ⟨.bl _,H,I,rfl,?_⟩;rw[show its.toArray.any (eqU x)=its.any (eqU x) by simp,xgc r fs];exact q
 ·obtain⟨its,r,pl,hz⟩:=I.tuple a
  refine SeqAt.notIn_tupleAt (eqU x) pl (λw b=>xd4 c e r fs w (by simpa using b)) ⟨.bl _,H,I,rfl,?_⟩;rw[show its.toArray.any (eqU x)=its.any (eqU x) by simp,xgc r fs];exact q
theorem xi1:xdy X (.builtin "len") (λxs H Q=>∃p ys,xs=[.ref p]/\(SqL X.K H p ys\/SqT X.K H p ys)/\Q (.int ys.length) H):=by
 intro pins s σ H xs us Q I r h;obtain⟨p,ys,rfl,b,q⟩:=h;obtain⟨u,rfl,e⟩:=xex r;cases e;have hn:=xin;rcases b with b |b
 ·obtain⟨its,c,pl,hz⟩:=I.list b
  have a:=c.length;exact Calls.call_len_list pl.isList (by simp only[List.size_toArray] <;> omega) ⟨.int ys.length,H,I.tok _,⟨s.toks+1,by rw[List.size_toArray,a]⟩,q⟩
 ·obtain⟨its,c,pl,hz⟩:=I.tuple b
  have a:=c.length;exact len_tuple pl (by simp only[List.size_toArray] <;> omega) ⟨.int ys.length,H,I.tok _,⟨s.toks+1,by rw[List.size_toArray,a]⟩,q⟩
theorem xc0:xdy X (.type "list") (λxs H Q=>∃p ys,xs=[.ref p]/\(SqL X.K H p ys\/SqT X.K H p ys)/\∀l,H l=none->Q (.ref l) (upd H l (.lst ys))):=by
 intro pins s σ H xs us Q I r h;obtain⟨p,ys,rfl,g,q⟩:=h;obtain⟨u,rfl,x⟩:=xex r;cases x
 have fin:∀(its:List Value),Vals ys its->ys.length<=sizeLine->∀(h':Heap) (c:Nat),(∀b o',s.heap.get? b=some o'->h'.get? b=some o')->
   h'.get? s.heap.objs.size=some {cls:=.type "list",dict:=none,data:=.seq its.toArray c,slots:=#[]}->EP X pins σ Q (.ref s.heap.objs.size) {s with heap:=h'}:=λits a hz h' c f e=>
  ⟨.ref s.heap.objs.size,_,I.laid (t':=s.toks) f (Nat.le_refl _) (show ObjOk X.prog X.w _ h' _ (.lst ys) from⟨hz,its,c,a,e⟩),rfl,q _ (I.hok.fresh (Nat.le_refl _))⟩
 rcases g with g |g
 ·obtain⟨its,a,pl,hz⟩:=I.list g
  have i:=a.length;obtain⟨o,j,m,n,hd⟩:=pl.isList;exact call_list_seq p (.inl rfl) j m hd (λh' c f e=>fin its a hz h' c f e) (by simp only[List.size_toArray] <;> omega)
 ·obtain⟨its,a,pl,hz⟩:=I.tuple g
  have i:=a.length;obtain⟨o,j,m,n,hd⟩:=pl;exact call_list_seq p (.inr rfl) j m hd (λh' c f e=>fin its a hz h' c f e) (by simp only[List.size_toArray] <;> omega)
theorem xhk:xdy X (.type "tuple") (λxs H Q=>∃p ys,xs=[.ref p]/\((SqL X.K H p ys/\∀l,H l=none->Q (.ref l) (upd H l (.tup ys)))\/(SqT X.K H p ys/\Q (.ref p) H))):=by
 intro pins s σ H xs us Q I r h;obtain⟨p,ys,rfl,h⟩:=h;obtain⟨u,rfl,i⟩:=xex r;cases i;rcases h with⟨c,q⟩ |⟨c,q⟩
 ·obtain⟨its,a,pl,hz⟩:=I.list c
  have f:=a.length;refine call_tuple_list pl.isList (λh' j=>?_) (by simp only[List.size_toArray] <;> omega);have g:Inv X pins σ H {s with heap:=h'}:=I.kept (t':=s.toks) j
  have m:Inv X pins σ (upd H h'.objs.size (.tup ys)) {s with heap:=h'.push {cls:=.type "tuple",data:=.seq its.toArray}}:=
   g.laid (t':=s.toks) (λb o e=>zPO _ e) (Nat.le_refl _) (show ObjOk X.prog X.w _ _ _ (.tup ys) from⟨hz,its,a,_,Heap.get?_push_size _ rfl,rfl,_,rfl,rfl⟩)
  exact⟨.ref h'.objs.size,_,m,rfl,q _ (g.hok.fresh (Nat.le_refl _))⟩
 ·obtain⟨its,a,pl,hz⟩:=I.tuple c
  exact call_tuple_same pl ⟨.ref p,H,I,rfl,q⟩
def tyV(K:Fg)(T:String)(x:V)(H:Hp):Prop:=match x with
 |.str _=>T="str"
 |.int _=>T="int"
 | .ref p=>(T="list"/\∃xs,SqL K H p xs)\/(T="tuple"/\∃o,K.lookup p=some o/\o.cls=.type "tuple"/\o.dict=none) ∨
   (T="dict"/\((∃kvs,H p=some (.dK kvs))\/∃kvs,H p=some (.dT kvs)))\/(T="set"/\∃S n,H p=some (.set S n))
 |_=>False
theorem xqi {pins:List (Addr×Obj)} {σ:St} {H:Hp} {s:Shared} {T:String} {x:V} {v:Value} (I:Inv X pins σ H s) (r:RelV x v) (f:tyV X.K T x H) :
  s.TypeIs v T/\∀a,v=.ref a->∃h,s.heap.get? a=some h/\h.dict=none:=by
 cases x with
 |str z=>
  obtain⟨t,rfl⟩:=r;cases (show T="str" from f);exact⟨typeIs_str s z t,λ_ e=>nomatch e⟩
 |int i=>
  obtain⟨t,rfl⟩:=r;cases (show T="int" from f);exact⟨typeIs_int s i t,λ_ e=>nomatch e⟩
 | ref p=>
  cases r;rcases f with⟨rfl,xs,j⟩ |⟨rfl,o,b,l,hd⟩ |⟨rfl,b⟩ |⟨rfl,S,n,b⟩
  ·obtain⟨its,_,pl,_⟩:=I.list j
   refine⟨pl.isList.typeIs,λa e=>?_⟩;cases e;obtain⟨o,n,e,c,hd,_⟩:=pl;exact⟨o,e,hd⟩
  ·refine⟨⟨o,I.kIn p o b,l⟩,λa e=>?_⟩
   cases e;exact⟨o,I.kIn _ o b,hd⟩
  ·have z:∃o,s.heap.get? p=some o/\o.ExactDict:=by
    rcases b with⟨kvs,b⟩ |⟨kvs,b⟩
    ·obtain⟨_,_,_,_,o,_,_,e,ex,_⟩:=I.hok p _ b
     exact⟨o,e,ex⟩
    ·obtain⟨_,_,_,_,o,_,_,e,ex,_⟩:=I.hok p _ b
     exact⟨o,e,ex⟩
   obtain⟨o,e,ex⟩:=z;refine⟨⟨o,e,ex.1⟩,λa g=>?_⟩;cases g;exact⟨o,e,ex.2.1⟩
  ·obtain⟨o,_,_,_,e,ex,_⟩:=I.hok p _ b
   refine⟨⟨o,e,ex.1⟩,λa g=>?_⟩;cases g;exact⟨o,e,ex.2.1⟩
 |_=>exact False.elim f
def tBM0(K:Fg)(T:String)(r:V->List V->Hp->VK->Prop)(to:TE):TE:=λσ H Q=>to σ H λx H1=>tyV K T x H1/\r x [] H1 Q
def tBM(K:Fg)(T:String)(r:V->List V->Hp->VK->Prop)(to:TE)(t:TA):TE:=λσ H Q=>to σ H λx H1=>tyV K T x H1/\t σ H1 λxs H2=>r x xs H2 Q
variable {o e:Expr}{es:List Expr}{to:TE}{t:TA}{name:Str}{apos cpos:Pos}{T id:String}{r:V->List V->Hp->VK->Prop}
theorem xt4 (pa:PlainAttrs T) (c:Slot T name id) (e:typeOf (.builtin id)=pure (.type "method_descriptor")) (n:MtR X id r) (m:PE X o to)
  (b:attributeBase o name X.env (eval o X.env)=eval o X.env:=by rfl) (a:(apos.endLine == cpos.line)=true:=by rfl):PE X (.Call (.Attribute o name apos) [] [] cpos) (tBM0 X.K T r to):=by
 intro pins s σ H Q I h;refine wpAny_Call_method0_late b a (thn (m pins s σ H _ I h) λv j ⟨x,H1,g,f,i,l⟩=>?_);obtain⟨h1,h2⟩:=xqi g f i;exact⟨T,id,pa,c,e,h1,h2,Calls.callWith_builtin rfl (PySem.evalArgs_none (n pins j σ H1 x [] v [] Q g f .nil l))⟩
theorem xep (pa:PlainAttrs T) (f:Slot T name id) (i:typeOf (.builtin id)=pure (.type "method_descriptor")) (G:MtR X id r) (C:PE X o to) (J:PA X (e::es) t)
  (c:attributeBase o name X.env (eval o X.env)=eval o X.env:=by rfl)
  (g:((backTo cpos (starEach (e::es) X.env)).all (λx=>!x.1) && (backToKw cpos (keywordEach [] X.env)).all (λx=>x.1.isSome)
   && decide ((e::es).length+([]:List Keyword).length+(if ([]:List Keyword).isEmpty then 0 else 1)<30))=true:=by rfl)
  (b:(apos.endLine == cpos.line)=true:=by rfl) (hs:starEach (e::es) X.env=(false,eval e X.env)::starEach es X.env:=by rfl) (a:(backTo cpos (starEach es X.env)).any (·.1)=false:=by rfl) :
  PE X (.Call (.Attribute o name apos) (e::es) [] cpos) (tBM X.K T r to t):=by
 intro pins s σ H Q I h;refine wpAny_Call_method_late c g b rfl (thn (C pins s σ H _ I h) λv u ⟨x,H1,m,j,n,z⟩=>?_);obtain⟨h1,h2⟩:=xqi m j n;refine⟨T,id,pa,f,i,h1,h2,?_⟩;have l:=J cpos pins u σ H1 _ m z;rw[hs]at l⊢;refine Calls.callWith_builtin (by show(false || (backTo cpos (starEach es X.env)).any (·.1))=false;rw[a] <;> rfl) (Calls.evalArgs_plain ?_);exact thn l λus p ⟨vs,H2,M,w,y⟩=>G pins p σ H2 x vs v us Q M j w y
end
def MtM(X:Cx)(id:String)(r:V->List V->Hp->VK->Prop):Prop:=
 ∀(pins:List (Addr×Obj)) (s:Shared) (σ:St) (H:Hp) (x:V) (xs:List V) (v:Value) (us:List Value) (Q:VK),Inv X pins σ H s->RelV x v->Vals xs us->r x xs H Q->
  wpAny (model X.prog X.w) X.A (call (.builtin id) (v::us)) (EP X pins σ Q) X.xe s
theorem Vals.one:∀{x:V} {us:List Value},Vals [x] us->∃u,us=[u]/\RelV x u
 |_,_,.cons r .nil=>⟨_,rfl,r⟩
theorem Vals.two:∀{x y:V} {us:List Value},Vals [x,y] us->∃u v,us=[u,v]/\RelV x u/\RelV y v
 |_,_,_,.cons r (.cons q .nil)=>⟨_,_,rfl,r,q⟩
theorem Vals.zero:∀{us:List Value},Vals [] us->us=[]
 |_,.nil=>rfl
theorem Vals.eraseIdx:∀{xs:List V} {us:List Value} (i:Nat),Vals xs us->Vals (xs.eraseIdx i) (us.eraseIdx i)
 |_,_,_,.nil=>.nil
 |_,_,0,.cons _ t=>t
 |_,_,i+1,.cons r t=>.cons r (Vals.eraseIdx i t)
theorem Vals.reverse{xs:List V}{us:List Value}(h:Vals xs us):Vals xs.reverse us.reverse:=by
 induction h with
 |nil=>exact .nil
 |cons r t a=>rw[List.reverse_cons,List.reverse_cons];exact Vals.append a (.cons r .nil)
theorem xip{α:Type}:∀(l:List α) (i:Nat),(l.eraseIdx i).length<=l.length
 |[],_=>Nat.le_refl _
 |_::_,0=>Nat.le_succ _
 |_::r,i+1=>Nat.succ_le_succ (xip r i)
section
variable {X:Cx}{pins:List (Addr×Obj)}{σ:St}{H:Hp}{s:Shared}{l b:Addr}{xs ys zs:List V}
theorem Inv.lset {its its':List Value} {n:Nat} {f:Array Value->Array Value} {t':Nat} (I:Inv X pins σ H s) (h:H l=some (.lst xs))
  (e:s.heap.get? l=some {cls:=.type "list",data:=.seq its.toArray n}) (c:f its.toArray=its'.toArray) (a:Vals ys its') (hz:ys.length<=sizeLine) :
  Inv X pins σ (upd H l (.lst ys)) {s with heap:=s.heap.update l (Obj.mapSeq f),toks:=t'}:=by
 have q:=PySem.IsL.update e f;rw[c]at q;refine I.write (x:=l) (e:=l) (by rw[h];exact trivial) (.inl rfl) (λi u g b=>(Heap.get?_update_other s.heap (Obj.mapSeq f) (Ne.symm g)).trans b) ⟨_,q⟩ ?_;exact⟨hz,its',_,a,q⟩
theorem Inv.lnew {its:List Value} {t':Nat} (I:Inv X pins σ H s) (a:Vals ys its) (hz:ys.length<=sizeLine) :
  Inv X pins σ (upd H s.heap.objs.size (.lst ys)) {s with heap:=s.heap.push {cls:=.type "list",data:=.seq its.toArray},toks:=t'}:=
 I.laid (λ_ _ q=>zPO _ q) (Nat.le_refl _) ⟨hz,its,0,a,Heap.get?_push_size _ rfl⟩
theorem Inv.fresh(I:Inv X pins σ H s):H s.heap.objs.size=none:=I.hok.fresh (Nat.le_refl _)
theorem Inv.lstM(I:Inv X pins σ H s)(a:H l=some (.lst xs)):xs.length<=sizeLine/\∃(its:List Value) (n:Nat),Vals xs its/\xs.length=its.length/\s.heap.get? l=some {cls:=.type "list",data:=.seq its.toArray n}:=by
 obtain⟨z,its,n,r,e⟩:=I.hok l _ a;exact⟨z,its,n,r,r.length,e⟩
end
section
variable {X:Cx}
def xrp:V->List V->Hp->VK->Prop:=λx vs H Q=>∃l xs y,x=.ref l/\vs=[y]/\H l=some (.lst xs)/\xs.length<sizeLine/\Q .non (upd H l (.lst (xs++[y])))
theorem xb9:MtM X "list.append" xrp:=by
 intro pins s σ H x vs v us Q I b c h;obtain⟨l,xs,y,rfl,rfl,a,hz,q⟩:=h;cases b;obtain⟨u,rfl,f⟩:=c.one;obtain⟨z,its,n,r,g,e⟩:=I.lstM a;refine call_meets F.slot_list_append ⟨_,e,rfl⟩ F.entry_list_append (F.args_list_append_2 _ _) (PySem.list_append l its.toArray n u (by rw[List.size_toArray];omega)) ⟨e,?_⟩;refine⟨.non,_,I.lset (its':=its++[u]) a e (by simp) (r.append (.cons f .nil)) ?_,rfl,q⟩;rw[zLA,List.length_singleton];omega
def xtw:V->List V->Hp->VK->Prop:=λx vs H Q=>∃l xs i k y,x=.ref l/\vs=[.int i]/\H l=some (.lst xs)/\-(2 ^ 63)<=i/\i<2 ^ 63/\seqIndex? i xs.length=some k/\xs[k]?=some y/\Q y (upd H l (.lst (xs.eraseIdx k)))
theorem xpu:MtM X "list.pop" xtw:=by
 intro pins s σ H x vs v us Q I c f h;obtain⟨l,xs,i,k,y,rfl,rfl,b,h1,h2,p,j,q⟩:=h;cases c;obtain⟨u,rfl,g⟩:=f.one;obtain⟨t,rfl⟩:=g;obtain⟨z,its,n,r,o,e⟩:=I.lstM b;obtain⟨w,m,a⟩:=r.get j
 refine call_meets F.slot_list_pop ⟨_,e,rfl⟩ F.entry_list_pop (F.args_list_pop_2 _ _)
  (MeetsSeq.list_pop_at l its.toArray n i t k w (fitsIndex_both h1 h2) (by rw[List.size_toArray,<- o];exact p) (by rw[<- Array.getElem?_toList];exact m) (by rw[List.size_toArray];omega)) ⟨e,?_⟩
 refine⟨y,_,I.lset (its':=its.eraseIdx k) b e ?_ (r.eraseIdx k) ?_,a,q⟩
 ·show its.toArray.eraseIdxIfInBounds k=(its.eraseIdx k).toArray
  rw[List.eraseIdxIfInBounds_toArray]
 ·have:=xip xs k
  omega
def xo9:V->List V->Hp->VK->Prop:=λx vs H Q=>∃l xs,x=.ref l/\vs=[]/\H l=some (.lst xs)/\Q .non (upd H l (.lst xs.reverse))
theorem xl7:MtM X "list.reverse" xo9:=by
 intro pins s σ H x vs v us Q I c f h;obtain⟨l,xs,rfl,rfl,b,q⟩:=h;cases c;have a:=f.zero;subst a;obtain⟨z,its,n,r,g,e⟩:=I.lstM b;refine call_meets F.slot_list_reverse ⟨_,e,rfl⟩ F.entry_list_reverse (F.args_list_reverse_1 _) (AutoSeq1.list_reverse_list_0 l its.toArray n (by rw[List.size_toArray];omega)) ⟨e,?_⟩;refine⟨.non,_,I.lset (its':=its.reverse) b e (by simp) r.reverse ?_,rfl,q⟩;rw[List.length_reverse];omega
def rCat:R2:=λx y H Q=>∃l b xs zs,x=.ref l/\y=.ref b/\H l=some (.lst xs)/\H b=some (.lst zs)/\xs.length+zs.length<=sizeLine/\∀p,H p=none->Q (.ref p) (upd H p (.lst (xs++zs)))
theorem xh7:OpR X (binaryOp .Add) rCat:=by
 intro pins s σ H x y v u Q I f c h;obtain⟨l,b,xs,zs,rfl,rfl,j,m,hz,q⟩:=h;cases f;cases c;obtain⟨z,its,n,r,G,e⟩:=I.lstM j;obtain⟨w,a,C,g,i,p⟩:=I.lstM m;refine PySem.P.add_list e p ?_ (by rw[List.size_toArray,List.size_toArray];omega);have o:its.toArray++a.toArray=(its++a).toArray:=by simp
 rw[o];exact⟨.ref _,_,I.lnew (t':=s.toks) (r.append g) (by rw[zLA];omega),rfl,q _ I.fresh⟩
end
end L2
namespace Att
open PySem PySem.W PySem.Calls PyProof.Rows
theorem xf4{P:Params}{h:Heap}:∀(ns:List Int) (vs:List Value),WellAll P h vs (ns.map WData.int)->IntsAre vs ns:=by
 intro ns
 induction ns with
 |nil=>
  intro vs w;rw[List.map_nil]at w;cases w;exact .nil
 | cons n ns c=>
  intro vs w;rw[List.map_cons]at w
  cases w with
  |cons a b=>
   cases a;exact .cons _ _ (c _ b)
theorem xm9 {l:OpenLaw} {n:Nat} (hn:l.most=some n) {P:Params} {h:Heap} {args:List WData} {b:List Value}
  (c:l.row.toRowW.claim.pre args=true) (j:WellAll P h b args) :
  ∃a vs ns,b=[Value.ref a]/\args=[WData.list (ns.map WData.int)]/\h.get? a=some {cls:=.type "list",data:=.seq vs.toArray}/\IntsAre vs ns/\ns.length<=n:=by
 have m:WShape.hasAll [] args [.list .int]=true:=(pre_splitW c).1;have o:l.pre.holds [] {args:=args}=true:=(pre_splitW c).2;obtain⟨d,r,rfl,h1,h2⟩:=hasAllW_cons m;obtain rfl:=hasAllW_nil h2;obtain⟨xs,rfl,x⟩:=hasW_list h1;obtain⟨ns,rfl⟩:=items_int x
 have e:ns.length<=n:=by
  unfold OpenLaw.pre at o
  have i:(WTm.not (.lt (.lit (.int (n:Int))) (.len (.arg 0)))).holds [] {args:=[.list (ns.map .int)]}=true:=by
   have i:=(holds_andW o).1;rw[hn]at i;exact i
  have g:=condW_of i (w_not (w_lt w_lit (w_len_list (w_arg rfl))));rw[zLM]at g;refine Nat.le_of_not_lt λq=>?_;have u:(n:Int)<((ns.length:Nat):Int):=by omega
  first
   |(rw[zDT u]at g;exact absurd g (by decide))
   |(simp at g;omega)
 cases j with
 |cons s p=>
  cases p
  cases s with
  |list w f=>exact⟨_,_,ns,rfl,rfl,w,xf4 ns _ f,e⟩
theorem xnf(l:OpenLaw)(args:List WData):l.row.toRowW.claim.post args (.bool true) args=true:=
 postW_of (r:=l.row.toRowW) (X:=(true == true))
  (show WShape.has [] (.bool true) .bool=true by first |rfl |decide |simp[WShape.has,WShape.arms,WShape.armsAll])
  (show(WTm.eq .res (.lit (.bool true))).value [] {args:=args,res:=some (.bool true),after:=args}=some (.bool (true == true)) from w_eq_bool (w_res rfl) w_lit) rfl
theorem attach_call {l:OpenLaw} {n:Nat} {q:Program} {loose:List Str} {XP:(Str->Option Value)->Heap->Prop} {YP:World->Heap->Prop} {d:DefRec}
  (hn:l.most=some n) (hdf:d.params.defaults=[])
  (call:∀(w:World) (s₀ s₁:Shared) (mg mb:Str->Option Value) (fa:Addr) (o:Obj) (pm cd doc:Value) (a:Addr) (vs:List Value) (ns:List Int),
   Ground q loose [] XP w s₀ mg mb s₁.heap->YP w s₁.heap->
   s₁.heap.get? fa=some o->o.data=.func (docDef d.name d.params d.body d.scope pm cd doc)->s₁.heap.CodeRec cd d.name->mg d.name=some (.ref fa)->
   s₁.heap.get? a=some {cls:=.type "list",data:=.seq vs.toArray}->IntsAre vs ns->ns.length<=n->s₁.gens=#[]->
   codeAny (model l.prog w) callerA (.call (.ref fa) ⟨[.ref a],[]⟩) (λr s'=>r=.ok (.ret (.bool true))/\OldK s₁.heap s'.heap/\s'.os=s₁.os/\AllBare s'.gens) s₁) :
  WalkO q loose XP YP l.row.toRowW d [] (λf vs=>PySem.call f vs):=by
 intro w s₀ s₁ mg mb G Y fa o pm cd doc dV kV ho hd hcd hD hmg hg args vals as hpre hlay hrd hwl hlo;obtain rfl:dV=.none:=Dflts.none hD hdf;obtain rfl:kV=.none:=Dflts.noKw hD;obtain⟨a,vs,ns,rfl,rfl,hobj,hints,hlen⟩:=xm9 hn hpre hwl;refine enter_call (codeAny_mono (call w s₀ s₁ mg mb fa o pm cd doc a vs ns G Y ho (fd_plain hd) hcd hmg hobj hints hlen hg) λr s' hq=>?_);obtain⟨rfl,h2,h3,h4⟩:=hq;exact⟨.inl ⟨.bool true,.bool true,[],rfl,λ_=>rfl,.bool true,xnf l _,λ_=>⟨List.Pairwise.nil,λ_ hm=>(nomatch hm)⟩⟩,h2,h3,h4⟩
end Att
namespace L2
open PySem PySem.Spec PyProof.Rows
theorem xhm:∀{vs:List Value} {ns:List Int},IntsAre vs ns->Vals (ns.map V.int) vs
 |_,_,.nil=>.nil
 |_,_,.cons n t h=>.cons ⟨t,rfl⟩ (xhm h)
def Only(H:Hp):Prop:=∀b,H b=none\/∃o xs,H b=some (.frz o (.lst xs))
theorem xpw {P:Program} {w:World} {K:Fg} {mg mb:Str->Option Value} {CX:CXT} {k:Nat} {fa a:Addr} {fd:FuncData} {x:Str} {sp:Sp} {s₁:Shared} {vs:List Value} {ns:List Int}
  (KX:K.In s₁.heap) (hns:s₁.heap.Ns mainGlobals mg) (hb:s₁.heap.Ns builtinsNs mb) (hbb:∀x:Str,x≠"__name__"->mb x=bootBuiltins x) (hlim:s₁.heap.NoLimit) (hg:s₁.gens=#[])
  (ha:s₁.heap.get? a=some {cls:=.type "list",data:=.seq vs.toArray}) (hi:IntsAre vs ns) (hl:ns.length<=sizeLine) (hr:Room k callerA)
  (F:∀base:Heap,K.In base->base.Ns mainGlobals mg->FnOk P w K mg base CX k fa fd [x] sp) (hbind:∀(s:Shared) (u:Value),BindsTo s fd ⟨[u],[]⟩ [(x,u)])
  (hsp:∀H:Hp,Only H->SqL K H a (ns.map V.int)->sp [.ref a] H (λv _=>v=.bl true) λ_ _ _=>False)
  (hCX:∀H e s',CX [] H s₁ (λ_ _ _=>False) e s'->False) :
  codeAny (model P w) callerA (.call (.ref fa) ⟨[.ref a],[]⟩) (λr s'=>r=.ok (.ret (.bool true))/\OldK s₁.heap s'.heap/\s'.os=s₁.os/\AllBare s'.gens) s₁:=by
 have rv:=xhm hi;have lenV:=hi.length
 have core:∀H:Hp,Only H->SqL K H a (ns.map V.int)->HOk P w H s₁.heap->(∀b,H b≠none->b=a)->(H a≠none->K.lookup a=none)->
   codeAny (model P w) callerA (.call (.ref fa) ⟨[.ref a],[]⟩) (λr s'=>r=.ok (.ret (.bool true))/\OldK s₁.heap s'.heap/\s'.os=s₁.os/\AllBare s'.gens) s₁:=by
  intro H hO hS hok hA hK;have base_of:∀{b:Addr} {o:Obj},s₁.heap.get? b=some o->H b=none->(hidT s₁.heap H).get? b=some o:=λe n=>xp1 e n
  have noA:∀{b:Addr} {o:Obj} {es:Array DictEntry} {ep:Nat},s₁.heap.get? b=some o->o.data=.dict es ep->H b=none:=λ{b o es ep} e d=>by
   cases q:H b with
   |none=>rfl
   |some u=>
    have e':b=a:=hA b (by rw[q];simp);subst e';rw[ha]at e;cases e;have d':Data.seq vs.toArray _=Data.dict es ep:=d;cases d'
  have nsK:∀{b:Addr} {m:Str->Option Value},s₁.heap.Ns b m->(hidT s₁.heap H).Ns b m:=λ{b m} ⟨o,es,ep,e,d,r⟩=>⟨o,es,ep,base_of e (noA e d),d,r⟩
  have hKb:K.In (hidT s₁.heap H):=λb o e=>base_of (KX b o e) (by
   cases q:H b with
   |none=>rfl
   |some u=>
    have e':b=a:=hA b (by rw[q];simp);subst e';rw[hK (by rw[q];simp)]at e;cases e)
  have hM:Mod K mg (hidT s₁.heap H):=⟨hKb,nsK hns,⟨mb,nsK hb,hbb⟩,let ⟨mc,h1,h2⟩:=hlim;⟨mc,nsK h1,h2⟩⟩;have e0:Env0 P w K mg (hidT s₁.heap H) callerA [] s₁ H:=⟨rfl,hM,λb o e=>xr3 e,Nat.le_of_eq (xoh _ _),trivial,λb hb=>absurd (show b∈([]:List Addr) from hb) (by simp),hok,.of_eq hg⟩;refine codeAny_mono ((F _ hKb (nsK hns)).run callerA [] s₁ H ⟨[.ref a],[]⟩ [.ref a] [.ref a] _ _ hr e0 (hbind s₁ (.ref a)) (.cons rfl .nil) (hsp H hO hS)) λr s' h=>?_
  cases r with
  |error e=>exact(hCX H e s' h).elim
  | ok fl=>
   cases fl with
   |next=>exact False.elim h
   |brk=>exact False.elim h
   |cont=>exact False.elim h
   | ret u=>
    obtain⟨v,H',os,bare,un,hok',r',q⟩:=h;have q':v=.bl true:=q;subst q';obtain rfl:u=Value.bool true:=r';refine⟨rfl,OldK.of_keep λb o e=>?_,os,bare⟩
    cases q:H b with
    |none=>exact un.keep b o e q (by intro z;exact absurd (show b∈([]:List Addr) from z) (by simp)) (by simp)
    | some u=>
     rcases hO b with z |⟨ob,xs,z⟩
     ·rw[q]at z;cases z
     ·have z2:=un.frzs b ob _ z
      obtain⟨e1,_⟩:=hok b _ z;obtain⟨e2,_⟩:=hok' b _ z2;rw[e]at e1;cases e1;exact e2
 cases hk:K.lookup a with
 |some o=>
  have e:=KX a o hk;rw[ha]at e;cases e;refine core (λ_=>none) (λ_=>.inl rfl) (.inr ⟨_,vs.toArray,_,hk,rfl,rfl,rfl,by rw[List.size_toArray,lenV];exact hl,by simpa using rv⟩) (λb u z=>by have z':(none:Option HO)=some u:=z;cases z') (λb z=>absurd rfl z) λz=>absurd rfl z
 | none=>
  refine core (λb=>if b=a then some (.frz {cls:=.type "list",data:=.seq vs.toArray} (.lst (ns.map V.int))) else none) (λb=>?_) (.inl (.inr ⟨{cls:=.type "list",data:=.seq vs.toArray},if_pos rfl⟩)) (λb u z=>?_) (λb z=>?_) λ_=>hk
  ·by_cases hb:b=a
   ·exact .inr ⟨_,_,if_pos hb⟩
   ·exact .inl (if_neg hb)
  ·by_cases hb:b=a
   ·have z':=(if_pos hb).symm.trans z
    cases z';subst hb;exact⟨ha,by rw[zLM];exact hl,vs,_,rv,ha⟩
   ·have z':=(if_neg hb).symm.trans z
    cases z'
  ·by_cases hb:b=a
   ·exact hb
   ·exact absurd (if_neg hb) z
abbrev KOf{K:Fg}{h:Heap}(_:K.In h):Fg:=K
theorem walk_of {l:PySem.W.OpenLaw} {n k:Nat} {q:Program} {loose:List Str} {XP:(Str->Option Value)->Heap->Prop} {YP:World->Heap->Prop} {d:DefRec} {K:Params->Fg} {CX:World->CXT} {sp:World->Sp} {x:Str}
  (hn:l.most=some n) (hn2:n<=sizeLine) (hdf:d.params.defaults=[]) (hr:Room k callerA)
  (hY:∀(w:World) (h:Heap),YP w h->(K w.params).In h)
  (F:∀(w:World) (mg:Str->Option Value) (fa:Addr) (h:Heap),(K w.params).In h->h.Ns mainGlobals mg->mg d.name=some (.ref fa)->
   ∃fd:FuncData,(∀(s:Shared) (u:Value),BindsTo s fd ⟨[u],[]⟩ [(x,u)]) ∧
    ∀base:Heap,(K w.params).In base->base.Ns mainGlobals mg->FnOk l.prog w (K w.params) mg base (CX w) k fa fd [x] (sp w))
  (hsp:∀(w:World) (H:Hp) (a:Addr) (ns:List Int),ns.length<=n->Only H->SqL (K w.params) H a (ns.map V.int)->sp w [.ref a] H (λv _=>v=.bl true) λ_ _ _=>False)
  (hCX:∀(w:World) (H:Hp) (s:Shared) (e:Value) (s':Shared),CX w [] H s (λ_ _ _=>False) e s'->False) :
  PySem.W.WalkO q loose XP YP l.row.toRowW d [] (λf vs=>PySem.call f vs):=by
 refine Att.attach_call hn hdf λw s₀ s₁ mg mb fa o pm cd doc a vs ns G Y ho hd hcd hmg hobj hints hlen hg=>?_;have KX:=hY w _ Y;obtain⟨fd,hb,hF⟩:=F w mg fa _ KX G.T.g hmg;exact xpw KX G.T.g G.T.b G.T.builtins G.T.nolimit hg hobj hints (Nat.le_trans hlen hn2) hr hF hb (λH hO hS=>hsp w H a ns hlen hO hS) λH e s'=>hCX w H s₁ e s'
def xf8(s:Stmt):Arguments:=match s with
 |.FunctionDef _ a _ _ _ _ _ _ _ _=>a
 |_=>{posonlyargs:=[],args:=[],vararg:=none,kwonlyargs:=[],kw_defaults:=[],kwarg:=none,defaults:=[]}
def xef(s:Stmt):List Stmt:=match s with
 |.FunctionDef _ _ b _ _ _ _ _ _ _=>b
 |_=>[]
def xab(s:Stmt):Scope:=match s with
 |.FunctionDef _ _ _ _ _ _ sc _ _ _=>sc
 |_=>{kind:=.function,names:=[],isGenerator:=false,isCoroutine:=false}
abbrev CX0:CXT:=λ_ _ _ _ _ _=>False
abbrev E0:XK:=λ_ _ _=>False
theorem xvs{X:Cx}:xow CX0 X E0:=λ_ _ _ _ _ _ _ h=>h.elim
structure Fun(K:Fg)(x qual:Str)(st:Stmt)(f:Addr)(fd:FuncData):Prop where
 ex:∃(oc:Value) (od:Option Addr) (kV doc pm:Value) (an:Option Addr) (cdv ct:Value) (osl:Array (Option Value)),
  fd=PySem.W.fnOf x qual (xf8 st) (xef st) (xab st) .none kV doc pm an cdv ct/\K.lookup f=some ⟨oc,od,.func fd,osl⟩/\PySem.W.codeIn K cdv qual=true
 kp:PySem.W.keepIn K (.ref f)=true
section
variable {P:Program}{w:World}{K:Fg}{mg:Str->Option Value}{base:Heap}
theorem Fun.ok {x qual:Str} {st:Stmt} {f:Addr} {fd:FuncData} {N ps:List Str} {k:Nat} {sp:Sp} (F:Fun K x qual st f fd) (S:FnScope N ps (xab st)) (len:∀vs H Q E,sp vs H Q E->vs.length=ps.length)
  (hbody:∀(cdv:Value) (A:Around) (outer:List Env) (s:Shared) (H:Hp) (vs:List V) (Q:VK) (E:XK),Room k (A.deeper (envOfC qual (xab st) s.heap.objs.size f cdv))->sp vs H Q E->
   ∃t,PSs (cxOf CX0 P w K mg base N qual (xab st) f cdv A outer s H E).nox (xef st) t/\t {nx:=λ_ H'=>Q .non H',rt:=Q} (xfo N vs) H):FnOk P w K mg base CX0 (k+1) f fd ps sp:=by
 obtain⟨oc,od,kV,doc,pm,an,cdv,ct,osl,rfl,lk,hcd⟩:=F.ex;refine xv4 lk hcd S len λA outer s H vs Q E hr hsp=>?_;obtain⟨t,h,q⟩:=hbody cdv A outer s H vs Q E hr hsp;exact⟨t,h.nox,q⟩
theorem xut {x a:Str} {st:Stmt} {f:Addr} {j:Value} {od i:Option Addr} {g:Array (Option Value)} {kV e h b ct:Value} (l:K.lookup f=some ⟨j,od,.func (PySem.W.fnOf x a (xf8 st) (xef st) (xab st) .none kV e h i b ct),g⟩)
  (c:PySem.W.codeIn K b a=true) (k:PySem.W.keepIn K (.ref f)=true):Fun K x a st f (PySem.W.fnOf x a (xf8 st) (xef st) (xab st) .none kV e h i b ct):=⟨⟨j,od,kV,e,h,i,b,ct,g,rfl,l,c⟩,k⟩
end
theorem xe3{A:Around}{k:Nat}(a:Room k A):A.units+1<cLine:=Nat.lt_of_le_of_lt (Nat.add_le_add_left (by decide:1<=64) _) a.units
section
variable {X:Cx}
theorem pv (i:Nat) {x:Str} {pos:Pos} (c:X.N[i]?=some x:=by rfl) (b:Vis X.env.scope x:=by first |exact Or.inl rfl |exact Or.inr (Or.inl rfl) |exact Or.inr (Or.inr rfl)) (hd:(x == ("__debug__":Str))=false:=by decide)
  (a:(x == ("__classdict__":Str))=false:=by decide):PE X (.Name x pos) (tVar i):=xt2 c b hd a
end
theorem iteF{A B:Prop}(h:B):if false=true then A else B:=by
 rw[if_neg Bool.false_ne_true];exact h
theorem iteT{A B:Prop}(h:A):if true=true then A else B:=by
 rw[if_pos rfl];exact h
theorem ite2{c A B:Prop}[Decidable c](h1:c->A)(h2:¬c->B):if c then A else B:=by
 by_cases h:c
 ·rw[if_pos h]
  exact h1 h
 ·rw[if_neg h]
  exact h2 h
theorem xpz{c A B:Prop}[Decidable c](a:c)(h:B):if (!decide c)=true then A else B:=by
 rw[zDT a];exact iteF h
def Same(H H':Hp):Prop:=∀b o,H b=some o->H' b=some o
theorem Same.refl(H:Hp):Same H H:=λ_ _ h=>h
theorem Same.trans{H H1 H2:Hp}(a:Same H H1)(b:Same H1 H2):Same H H2:=λc o h=>b c o (a c o h)
theorem Same.seq{K:Fg}{H H':Hp}{a:Addr}{xs:List V}(e:Same H H')(h:SqL K H a xs):SqL K H' a xs:=by
 rcases h with(h |⟨o,h⟩) |h
 ·exact .inl (.inl (e _ _ h))
 ·exact .inl (.inr ⟨o,e _ _ h⟩)
 ·exact .inr h
def clOf(env:Env):List (Str×NameKind)->List (Str×Addr)->List (Str×Addr)
 |[],cs=>cs
 |(n,k)::r,cs=>clOf env r (if k == .free then match env.cells.lookup n with |some a=>(n,a)::cs |none=>cs else cs)
theorem xiz{env:Env}{x:Str}{c:Addr}:∀{ns:List (Str×NameKind)} {cs:List (Str×Addr)},(∀p∈cs,env.cells.lookup p.1=some p.2)->(clOf env ns cs).lookup x=some c->env.cells.lookup x=some c
 |[],cs,h,e=>by
  unfold clOf at e;exact h (x,c) (PySem.mem_of_lookup e)
 | (n,k)::r,cs,h,e=>by
  unfold clOf at e;refine xiz (ns:=r) ?_ e;intro p b;split at b
  ·split at b
   ·rename_i a f
    rcases zMC b with rfl |b
    ·exact f
    ·exact h p b
   ·exact h p b
  ·exact h p b
theorem xd8{x:Str}:∀{cs:List (Str×Addr)},(∃c,(x,c)∈cs)->∃c,cs.lookup x=some c
 |[],⟨_,h⟩=>nomatch h
 | (n,a)::r,⟨c,h⟩=>by
  rw[List.lookup_cons]
  cases e:x == n with
  |true=>exact⟨a,rfl⟩
  | false=>
   rcases zMC h with h |h
   ·cases h
    rw[beq_self_eq_true]at e;cases e
   ·exact xd8 ⟨c,h⟩
theorem xlh{env:Env}{x:Str}:∀{ns:List (Str×NameKind)} {cs:List (Str×Addr)},((∃c,(x,c)∈cs)\/((x,NameKind.free)∈ns/\∃c,env.cells.lookup x=some c))->∃c,(x,c)∈clOf env ns cs
 |[],cs,h=>by
  unfold clOf;rcases h with h |⟨h,_⟩
  ·exact h
  ·cases h
 | (n,k)::r,cs,h=>by
  unfold clOf;refine xlh (ns:=r) ?_;rcases h with⟨c,h⟩ |⟨h,c,a⟩
  ·refine .inl ⟨c,?_⟩
   split
   ·split
    ·exact List.mem_cons_of_mem _ h
    ·exact h
   ·exact h
  ·rcases zMC h with h |h
   ·cases h
    refine .inl ⟨c,?_⟩;rw[if_pos (by decide),a];exact List.mem_cons_self
   ·exact .inr ⟨h,c,a⟩
theorem xeu{a:Scope}{env:Env}(h:∀p∈a.names,p.2=NameKind.free->∃c,env.cells.lookup p.1=some c):closureFor a env=pure (clOf env a.names []):=by
 have go:∀(ns:List (Str×NameKind)) (cs:List (Str×Addr)),(∀p∈ns,p.2=NameKind.free->∃c,env.cells.lookup p.1=some c)->
   (forIn ns cs λ(x:Str×NameKind) (r:List (Str×Addr))=>(if (x.2 == NameKind.free)=true then do
     let y <- cellOf env x.1
     pure (ForInStep.yield ((x.1,y)::r)) else pure (ForInStep.yield r):Sem (ForInStep (List (Str×Addr)))))=(pure (clOf env ns cs):Sem (List (Str×Addr))):=by
  intro ns
  induction ns with
  |nil=>intro cs _;rfl
  | cons p r f=>
   intro cs e;obtain⟨n,k⟩:=p;rw[List.forIn_cons];unfold clOf;by_cases g:k=NameKind.free
   ·subst g
    obtain⟨c,i⟩:=e (n,.free) List.mem_cons_self rfl;have l:cellOf env n=pure c:=by unfold cellOf;rw[i]
    simp only[beq_self_eq_true,if_true,l,i,pure_bind];exact f _ λq b=>e q (List.mem_cons_of_mem _ b)
   ·have j:(k == NameKind.free)=false:=by simpa using g
    simp only[j,Bool.false_eq_true,if_false,pure_bind];exact f _ λq b=>e q (List.mem_cons_of_mem _ b)
 unfold closureFor;have:=go a.names [] h;simp only[bind_pure_comp,id_map']at this⊢;rw[this];rfl
theorem xcw {env:Env} {x:Str} {k':NameKind}:∀{ns:List (Str×NameKind)},
  (ns.map λ(n,k)=>if (k == NameKind.free && env.scope.kind == .function && env.kindOf n == some .cell) then (n,NameKind.cell) else (n,k)).lookup x=some k'->
  ∃k,ns.lookup x=some k/\(k'=k\/(k=.free/\k'=.cell))
 |[],h=>by simp at h
 | (n,k)::r,h=>by
  have h':List.lookup x ((if (k == NameKind.free && env.scope.kind == .function && env.kindOf n == some .cell)=true then (n,NameKind.cell) else (n,k))::(r.map λ(n,k)=>if (k == NameKind.free && env.scope.kind == .function && env.kindOf n == some .cell) then (n,NameKind.cell) else (n,k)))=some k':=h;rw[List.lookup_cons];by_cases a:(k == NameKind.free && env.scope.kind == .function && env.kindOf n == some .cell)=true
  ·rw[if_pos a,List.lookup_cons]at h'
   cases e:x == n with
   |true=>
    rw[e]at h';cases h';refine⟨k,rfl,.inr ⟨?_,rfl⟩⟩;rw[Bool.and_eq_true,Bool.and_eq_true]at a;exact eq_of_beq a.1.1
   |false=>
    rw[e]at h';exact xcw h'
  ·rw[if_neg a,List.lookup_cons]at h'
   cases e:x == n with
   |true=>
    rw[e]at h';cases h';exact⟨_,rfl,.inl rfl⟩
   |false=>
    rw[e]at h';exact xcw h'
theorem xed {env:Env} {x:Str} {k:NameKind}:∀{ns:List (Str×NameKind)},ns.lookup x=some k->
  ∃k',(ns.map λ(n,k)=>if (k == NameKind.free && env.scope.kind == .function && env.kindOf n == some .cell) then (n,NameKind.cell) else (n,k)).lookup x=some k'/\(k'=k\/(k=.free/\k'=.cell))
 |[],h=>by simp at h
 | (n,b)::r,h=>by
  show ∃k',List.lookup x ((if (b == NameKind.free && env.scope.kind == .function && env.kindOf n == some .cell)=true then (n,NameKind.cell) else (n,b))::(r.map λ(n,k)=>if (k == NameKind.free && env.scope.kind == .function && env.kindOf n == some .cell) then (n,NameKind.cell) else (n,k)))=some k'/\_;rw[List.lookup_cons]at h;by_cases a:(b == NameKind.free && env.scope.kind == .function && env.kindOf n == some .cell)=true
  ·rw[if_pos a,List.lookup_cons]
   cases e:x == n with
   |true=>
    rw[e]at h;cases h;refine⟨_,rfl,.inr ⟨?_,rfl⟩⟩;rw[Bool.and_eq_true,Bool.and_eq_true]at a;exact eq_of_beq a.1.1
   |false=>
    rw[e]at h;exact xed h
  ·rw[if_neg a,List.lookup_cons]
   cases e:x == n with
   |true=>
    rw[e]at h;cases h;exact⟨_,rfl,.inl rfl⟩
   |false=>
    rw[e]at h;exact xed h
abbrev Cap:=List (Option Nat)
def capt(ix:Cap)(σ:St):St:=ix.map λo=>(o.bind λj=>σ[j]?).join
def xp9(N N':List Str)(sc sc':Scope)(ix:Cap):Bool:=
 (ix.length == N'.length) && (sc'.kind == .function) &&
 (sc'.names.all λp=>p.2 != .cell && (p.2 != .local || sc'.names.lookup p.1 == some .local) && (p.2 != .free || (sc.names.lookup p.1 == some .cell || sc.names.lookup p.1 == some .free))) &&
 (List.range ix.length).all λk=>match ix[k]? with
  |some (some j)=>match N'[k]? with
   |some x=>N[j]? == some x && sc'.names.lookup x == some .free
   |none=>false
  |_=>true
structure CapOk(N N':List Str)(sc sc':Scope)(ix:Cap):Prop where
 len:ix.length=N'.length
 kind:sc'.kind=.function
 nocell:∀p∈sc'.names,p.2≠.cell
 loc:∀p∈sc'.names,p.2=.local->sc'.names.lookup p.1=some .local
 fre:∀p∈sc'.names,p.2=.free->sc.names.lookup p.1=some .cell\/sc.names.lookup p.1=some .free
 cap:∀(k j:Nat),ix[k]?=some (some j)->∃x,N'[k]?=some x/\N[j]?=some x/\sc'.names.lookup x=some .free
theorem xlj{N g:List Str}{i a:Scope}{ix:Cap}(h:xp9 N g i a ix=true):CapOk N g i a ix:=by
 unfold xp9 at h;simp only[Bool.and_eq_true,List.all_eq_true,beq_iff_eq]at h;obtain⟨⟨⟨s,r⟩,f⟩,o⟩:=h;refine⟨s,r,λp b=>?_,λp b m=>?_,λp b n=>?_,λk j l=>?_⟩
 ·have:=(f p b).1.1
  simpa using this
 ·have:=(f p b).1.2
  rw[m]at this;simpa using this
 ·have:=(f p b).2
  rw[n]at this;simpa using this
 ·have c:k<ix.length:=(zES l).1
  have:=o k (List.mem_range.mpr c);rw[l]at this;simp only at this
  cases e:g[k]? with
  |none=>rw[e]at this;simp at this
  |some x=>
   rw[e]at this;simp only[Bool.and_eq_true,beq_iff_eq]at this;exact⟨x,rfl,this.1,this.2⟩
abbrev Cx.comp(X:Cx)(sc:Scope)(N':List Str)(C:Addr)(s₀:Shared)(H₀:Hp)(ex:List Addr):Cx:=
 {X with N:=N',s₀:=s₀,H₀:=H₀,env:=compEnvC sc (clOf X.env sc.names []) C X.env,outer:=X.stack,stack:=X.stack,ex:=ex,fn:=λ_=>false,pn:=[],xe:=λ_ _=>False}
def Ext(σ σ':St):Prop:=σ.length=σ'.length/\∀(i:Nat) v,σ[i]?=some (some v)->σ'[i]?=some (some v)
theorem xe5{σ:St}{i:Nat}{v:Option V}(h:σ[i]?=some none):Ext σ (σ.set i v):=by
 refine⟨by simp,λj w e=>?_⟩;by_cases a:i=j
 ·subst a;rw[h]at e;cases e
 ·rw[List.getElem?_set_ne a];exact e
def PTs(X:Cx)(ifs:List Expr)(t:TT):Prop:=
 ∀(pins:List (Addr×Obj)) (s:Shared) (σ:St) (H:Hp) (Q:Bool->Hp->Prop),Inv X pins σ H s->t σ H Q->
  wpAny (model X.prog X.w) X.A (forIn ifs true λc r=>if r=true then do let ok <- isTrue c X.env (eval c X.env);pure (ForInStep.yield ok) else pure (ForInStep.yield r)) (TP X pins σ Q) X.xe s
def tYes:TT:=λ_ H Q=>Q true H
theorem xbq{X:Cx}:PTs X [] tYes:=λ_ _ _ H _ I h=>wpAny_tests_nil ⟨H,I,h⟩
theorem xdk{X:Cx}{c:Expr}{t:TT}(h:PT X c t):PTs X [c] t:=λa s σ H Q I b=>wpAny_tests_one (h a s σ H Q I b)
def xd9(J:It)(ix:Cap)(g:TG)(tt:TT)(te:TE)(σ:St)(H1:Hp)(Q:VK):Prop:=∃W:Nat->Nat->List V->Hp->Prop,(∃m,W 0 m [] H1)/\∀i m ys H,W i m ys H->
 (J.stop i H/\∀D,H D=none->Q (.ref D) (upd H D (.lst ys))) ∨
 (J.go i H/\ys.length<sizeLine/\∀x H',J.yld i H x H'->g x (capt ix σ) H' λσ2 H2=>Ext (capt ix σ) σ2/\tt σ2 H2 λb H3=>
  if b=true then te σ2 H3 λy H4=>∃m',m'<m/\W (i+1) m' (ys++[y]) H4 else ∃m',m'<m/\W (i+1) m' ys H3)
def xtf(ix:Cap)(wi:TI)(g:TG)(tt:TT)(te:TE):TE:=λσ H Q=>wi σ H λJ H1=>xd9 J ix g tt te σ H1 Q
theorem HOk.track{P:Program}{w:World}{H:Hp}{h:Heap}{a:Addr}{o:HO}(x:HOk P w H h)(hn:H a=none)(new:ObjOk P w (upd H a o) h a o):HOk P w (upd H a o) h:=λb u e=>by
 by_cases f:b=a
 ·subst f;rw[ups]at e;cases e;exact new
 ·rw[xaw f]at e
  exact(x b u e).stay (λc v _ q=>q) (λc q=>by rw[xaw (neN q hn)];exact q) λc xs q=>by rw[xaw (neN q hn)];exact q
theorem xd7 {prog:Program} {w:World} {A:Around} {R:Result->Shared->Prop} {s:Shared} {j a g:Expr} {i:List Expr} {b:Scope} {pos:Pos} {it acc:Value} {env:Env} (I:Nat->Shared->Prop)
  (l:∀ n s,I n s->wpAny (model prog w) A (pyNext it) (λr u=>match r with
   |none=>R (.ok .next) u
   | some v=>wpAny (model prog w) A (letOwnedTupleGo a it v) (λ_ o=>wpAny (model prog w) A (assign a env v) (λ_ G=>
     wpAny (model prog w) A (forIn i true λc r=>if r=true then do let ok <- isTrue c env (eval c env);pure (ForInStep.yield ok) else pure (ForInStep.yield r)) (λok p=>
      if ok=true then wpAny (model prog w) A (eval j env) (λx C=>
       wpAny (model prog w) A (call (.builtin "list.append") [acc,x]) (λ_ z=>∃m,m<n/\I m z) (notedBy (model prog w) A env λe f=>R (.error e) f) C) (notedBy (model prog w) A env λe f=>R (.error e) f) p
      else ∃m,m<n/\I m p) (notedBy (model prog w) A env λe f=>R (.error e) f) G) (notedBy (model prog w) A env λe f=>R (.error e) f) o) (notedBy (model prog w) A env λe f=>R (.error e) f) u) (notedBy (model prog w) A env λe f=>R (.error e) f) s)
  (n:Nat) (h:I n s) :
  codeAny (model prog w) A (.compLoop (.ListComp j [⟨a,g,i,0⟩] b pos) 0 it acc env) R s:=by
 refine codeAny_loop rfl I (λn s Y=>?_) n h;show wpAny _ A ((compTurn (.ListComp j [⟨a,g,i,0⟩] b pos) 0 it acc env).onRaise (λx=>do noteFrame x env;theTreesLotGoes x)) _ _ s;refine wpAny_noted ?_;rw[compTurn_list];refine wpAny_bind (wpAny_standAt (wpAny_bind (wpAny_mono (l n s Y) (λr u h₁=>?_) λ_ _ h'=>h')))
 cases r with
 |none=>exact wpAny_pure h₁
 | some v=>
  refine wpAny_bind (wpAny_mono h₁ (λ_ o y=>?_) λ_ _ h'=>h');refine wpAny_bind (wpAny_mono y (λ_ G U=>wpAny_bind (wpAny_mono U (λok p J=>?_) λ_ _ h'=>h')) λ_ _ h'=>h')
  cases ok with
  |false=>exact wpAny_pure ⟨rfl,J⟩
  |true=>
   exact wpAny_bind (wpAny_bind (wpAny_mono J (λx C O=>wpAny_bind (wpAny_mono O (λ_ z M=>wpAny_pure (wpAny_pure ⟨rfl,M⟩)) λ_ _ h'=>h')) λ_ _ h'=>h'))
section
variable {X:Cx}
theorem xgp{M:Model}{A:Around}{α:Type}{t:Sem α}{Q:α->Shared->Prop}{E:Value->Shared->Prop}{s:Shared}(h:wpAny M A t Q (λ_ _=>False) s):wpAny M A t Q E s:=wpAny_mono h (λ_ _ q=>q) λ_ _ z=>z.elim
theorem xgt {elt tg iter:Expr} {ifs:List Expr} {sc:Scope} {pos:Pos} {N':List Str} {ix:Cap} {g:TG} {tt:TT} {te:TE} {pins:List (Addr×Obj)} {σ:St} {s:Shared} {Q:VK} {RR:Value->Addr->Result->Shared->Prop} {E:Value->Shared->Prop}
  {itv:Value} (hc:X.calm=true) (ok:CapOk X.N N' X.env.scope sc ix)
  (hg:∀C s₀ H₀ ex,PG (X.comp sc N' C s₀ H₀ ex) tg g) (ht:∀C s₀ H₀ ex,PTs (X.comp sc N' C s₀ H₀ ex) ifs tt) (he:∀C s₀ H₀ ex,PE (X.comp sc N' C s₀ H₀ ex) elt te)
  (hi:PIE X pins σ tg (λJ H1=>xd9 J ix g tt te σ H1 Q) itv s)
  (fin:∀(D C:Addr) (s':Shared) (H':Hp) (m:Str->Option Value),Inv X pins σ H' s'->Q (.ref D) H'->s'.heap.Ns C m->H' C=none->C≠X.env.locals->X.s₀.heap.objs.size<=C->(∀x c,X.env.cells.lookup x=some c->c≠C)->(∀p∈X.pn++pins,p.1≠C)->
   RR (.ref D) C (.ok .next) s') :
  wpAny (model X.prog X.w) X.A (newList []) (λacc s₃=>wpAny (model X.prog X.w) X.A (newFunctionEnv sc X.env.globals (clOf X.env sc.names []) [] X.env.qual none .none (some X.env)) (λcenv s₄=>
   codeAny (model X.prog X.w) X.A (.compStart (.ListComp elt [⟨tg,iter,ifs,0⟩] sc pos) 0 itv acc {cenv with scope:=relabel sc X.env}) (RR acc cenv.locals) s₄) E s₃) E s:=by
 obtain⟨it,fp,tn,J,H2,rfl,I2,T,st2,f2,W,⟨m0,w0⟩,turn⟩:=hi;refine wpAny_newObj_type (wpAny_newFunctionEnv ok.nocell (by intro y hy;simp at hy) (λh₁ hns₁ hsb₁=>?_) ok.kind);dsimp only at hns₁ hsb₁⊢;generalize hHD:s.heap.push {cls:=.type "list",dict:=none,data:=.seq ([]:List Value).toArray}=hD at hns₁ hsb₁⊢;have hCs:hD.objs.size=s.heap.objs.size+1:=by rw[<- hHD,Heap.size_push]
 have upC:s.heap.objs.size<hD.objs.size:=by rw[hCs];exact Nat.lt_succ_self _
 have hDC:s.heap.objs.size≠hD.objs.size:=by rw[hCs];exact Nat.ne_of_lt (Nat.lt_succ_self _)
 have below:∀b o,s.heap.get? b=some o->b≠hD.objs.size/\b≠s.heap.objs.size:=λb o e=>by
  have:=Heap.lt_size e;exact⟨Nat.ne_of_lt (by rw[hCs];exact Nat.lt_succ_of_lt this),Nat.ne_of_lt this⟩
 have old:∀b o,s.heap.get? b=some o->h₁.get? b=some o:=λb o e=>hsb₁.extBut b o (below b o e).1 (zPO _ (hHD ▸ zPO _ e));have hacc:h₁.get? s.heap.objs.size=some {cls:=.type "list",data:=.seq ([]:List Value).toArray 0}:=hsb₁.extBut _ _ hDC (zPO _ (hHD ▸ Heap.get?_push_size _ rfl));have fpo:∀b∈fp,b<s.heap.objs.size:=λb hb=>let ⟨o,e,_⟩:=T.obj _ _ st2 b hb;Heap.lt_size e;have cellX:∀x c,(clOf X.env sc.names []).lookup x=some c->X.env.cells.lookup x=some c:=λx c e=>xiz (λp hp=>absurd hp (by simp)) e;have cellLt:∀x c,X.env.cells.lookup x=some c->c<s.heap.objs.size:=λx c e=>let ⟨v,z⟩:=I2.cell x c e;z.lt
 have hasC:∀x,(x,NameKind.free)∈sc.names->∃c,(clOf X.env sc.names []).lookup x=some c:=λx hx=>by
  have h1:=I2.ok.has x (ok.fre (x,.free) hx rfl);exact xd8 (xlh (.inr ⟨hx,h1⟩))
 have okX:(X.comp sc N' hD.objs.size s H2 fp).Ok:=by
  refine⟨I2.ok.mod,ok.kind,I2.ok.glob,I2.ok.blt,?_,?_,?_,?_,I2.ok.hd,I2.ok.frames,.inl rfl,?_,I2.bs,Nat.le_trans I2.ok.bsz I2.sz,?_,?_,I2.stack,I2.stkFree⟩
  ·exact Nat.le_of_lt upC
  ·intro x y c h1 h2
   exact I2.ok.inj x y c (cellX x c h1) (cellX y c h2)
  ·intro x hx
   have hx':(relabel sc X.env).names.lookup x=some .cell\/(relabel sc X.env).names.lookup x=some .free:=hx
   have:∃k,sc.names.lookup x=some k/\(k=.free\/k=.cell):=by
    rcases hx' with h |h
    ·obtain⟨k,e,z⟩:=xcw h
     rcases z with z |⟨z,_⟩
     ·exact⟨k,e,.inr z.symm⟩
     ·exact⟨k,e,.inl z⟩
    ·obtain⟨k,e,z⟩:=xcw h
     rcases z with z |⟨_,z⟩
     ·exact⟨k,e,.inl z.symm⟩
     ·cases z
   obtain⟨k,e,z⟩:=this;rcases z with rfl |rfl
   ·exact hasC x (PySem.mem_of_lookup e)
   ·exact absurd rfl (ok.nocell _ (PySem.mem_of_lookup e))
  ·intro x c h _
   cases h
  ·intro b hb
   refine⟨?_,λx c e=>(f2 b hb).2.2.2.2.1 x c (cellX x c e)⟩;exact Nat.ne_of_lt (by rw[hCs];exact Nat.lt_succ_of_lt (fpo b hb))
  ·intro b o e hb
   rcases(f2 b hb).2.2.2.1 with z |z
   ·exact I2.ok.noex b o e z
   ·exact absurd (Nat.lt_of_lt_of_le (Heap.lt_size (I2.ok.bs b o e).1) z) (Nat.lt_irrefl _)
  ·intro b hb z
   rcases zMC (I2.stkSub b z) with z |z
   ·exact(f2 b hb).2.1 z
   ·exact(f2 b hb).2.2.1 z
 have hnD:H2 s.heap.objs.size=none:=I2.hok.fresh (Nat.le_refl _);have hnC:H2 hD.objs.size=none:=I2.hok.fresh (Nat.le_of_lt upC)
 have nofsD:∀a,s.heap.objs.size<=a->a ∉frs X.stack:=λa ha z=>by
  rcases zMC (I2.stkSub a z) with z |z
  ·exact absurd (Nat.lt_of_lt_of_le I2.lt ha) (by rw[z];exact Nat.lt_irrefl _)
  ·exact I2.nofs ha z
 have xfo:Inv (X.comp sc N' hD.objs.size s H2 fp) [(s.heap.objs.size,{cls:=.type "list",data:=.seq ([]:List Value).toArray 0})] (capt ix σ) H2 {s with heap:=h₁,toks:=s.toks+([]:List (Str×Value)).length}:=by
  refine⟨okX,rfl,I2.bare,Un.kept old,⟨_,hns₁,?_⟩,λx c e=>?_,hnC,λx c e=>I2.freeC x c (cellX x c e),λp hp=>?_,I2.hok.kept old,?_⟩
  ·intro i x v hN hv hvis
   have hl:i<ix.length:=by rw[ok.len];exact(zES hN).1
   have hv':(ix.map λo=>(o.bind λj=>σ[j]?).join)[i]?=some (some v):=hv;rw[zGM,zGA hl]at hv';have hv'':((ix[i].bind λj=>σ[j]?).join)=some v:=Option.some.inj hv'
   cases ej:ix[i] with
   |none=>rw[ej]at hv'';cases hv''
   | some j=>
    rw[ej]at hv''
    have hσ:σ[j]?=some (some v):=by
     have z:(σ[j]?).join=some v:=hv''
     cases q:σ[j]? with
     |none=>rw[q]at z;cases z
     |some o=>rw[q]at z;exact congrArg some z
    obtain⟨x',e1,e2,e3⟩:=ok.cap i j (by rw[zGA hl,ej]);rw[show N'[i]?=some x from hN]at e1;cases e1;have hk:=ok.fre (x,.free) (PySem.mem_of_lookup e3) rfl;obtain⟨m,hm,hl'⟩:=I2.loc;obtain⟨u,ru,lk⟩:=hl' j x v e2 hσ (hk.elim (λz=>.inr (.inl z)) λz=>.inr (.inr z));refine⟨u,ru,.inr ⟨?_,?_⟩⟩
    ·show(relabel sc X.env).names.lookup x=some .cell\/(relabel sc X.env).names.lookup x=some .free
     obtain⟨k',q1,q2⟩:=xed (env:=X.env) e3;rcases q2 with q2 |⟨_,q2⟩
     ·exact .inr (q1.trans (congrArg some q2))
     ·exact .inl (q1.trans (congrArg some q2))
    ·obtain⟨c,hc'⟩:=hasC x (PySem.mem_of_lookup e3)
     refine⟨c,hc',?_⟩;rcases lk with⟨z,_⟩ |⟨_,c',ec,⟨o,ho,hd⟩⟩
     ·have z':X.env.scope.names.lookup x=some .local:=z
      rcases hk with hk |hk
      ·rw[z']at hk;cases hk
      ·rw[z']at hk;cases hk
     ·rw[cellX x c hc']at ec
      cases ec;exact⟨o,old _ _ ho,hd⟩
  ·obtain⟨v,o,ho,hd⟩:=I2.cell x c (cellX x c e)
   exact⟨v,o,old _ _ ho,hd⟩
  ·have e:p=(s.heap.objs.size,{cls:=.type "list",data:=.seq ([]:List Value).toArray 0}):=by simpa using hp
   subst e;exact⟨hacc,hnD,hDC,nofsD _ (Nat.le_refl _),λv z=>by cases z⟩
  ·show(ix.map _).length=N'.length
   rw[zLM];exact ok.len
 have st1:tn 0 h₁:=T.keep _ _ _ st2 λb hb o e=>old b o e
 have loop:∀s₃:Shared,s₃={s with heap:=h₁,toks:=s.toks+([]:List (Str×Value)).length}->
   codeAny (model X.prog X.w) X.A (.compLoop (.ListComp elt [⟨tg,iter,ifs,0⟩] sc pos) 0 (.ref it) (.ref s.heap.objs.size) (compEnvC sc (clOf X.env sc.names []) hD.objs.size X.env))
    (RR (.ref s.heap.objs.size) hD.objs.size) s₃:=by
  rintro s₃ rfl
  have fpI:∀{H':Hp} {o:Obj},(∀b∈fp,H' b=none)->∀b∈fp,FpOk (X.comp sc N' hD.objs.size s H2 fp) [(s.heap.objs.size,o)] H' b:=λ{H' o} hn b hb=>by
   have hlt:=fpo b hb;refine⟨hn b hb,(okX.exf b hb).1,okX.exfs b hb,.inl hb,(okX.exf b hb).2,λp hp=>?_⟩;have e:p=(s.heap.objs.size,o):=by simpa using hp
   subst e;exact Nat.ne_of_gt hlt
  refine xd7 (λn s'=>∃i ys its k H',Inv (X.comp sc N' hD.objs.size s H2 fp) [(s.heap.objs.size,{cls:=.type "list",data:=.seq its.toArray k})] (capt ix σ) H' s'/\Vals ys its/\ys.length<=sizeLine/\tn i s'.heap/\(∀b∈fp,H' b=none)/\W i n ys H')
   ?_ m0 ⟨0,[],[],0,H2,xfo,.nil,Nat.zero_le _,st1,λb hb=>(f2 b hb).1,w0⟩
  rintro n s4 ⟨i,ys,its,k,H4,I4,r4,z4,st4,fr4,w4⟩;rcases turn i n ys H4 w4 with⟨stop,q⟩ |⟨go,hz,step⟩
  ·refine xgp (thn (T.done (X.comp sc N' hD.objs.size s H2 fp) rfl rfl rfl hc i _ s4 _ H4 (λ_ _=>False) I4 (fpI fr4) st4 stop) λr s5 ⟨hr,I5⟩=>?_)
   subst hr;show RR (.ref s.heap.objs.size) hD.objs.size (.ok .next) s5;obtain⟨pD,nD,_,_,_⟩:=I5.pin (s.heap.objs.size,{cls:=.type "list",data:=.seq its.toArray k}) (by simp);obtain⟨m5,hm5,_⟩:=I5.loc;have okD:HOk X.prog X.w (upd H4 s.heap.objs.size (.lst ys)) s5.heap:=I5.hok.track nD ⟨z4,its,k,r4,pD⟩
   have un:Un (frs X.stack) fp H2 (upd H4 s.heap.objs.size (.lst ys)) s.heap s5.heap:=by
    have B:Un (frs X.stack) fp H2 H4 s.heap s5.heap:=I5.base;have ne:∀b u,H2 b=some u->b≠s.heap.objs.size:=λb u e=>neN e hnD;refine⟨B.keep,B.slot,λb o e n hb=>?_,B.there,λb xs e=>?_,λb o u e=>?_,λb ps e=>?_⟩
    ·rw[xaw (below b o e).2];exact B.free b o e n hb
    ·rw[xaw (ne b _ e)];exact B.tups b xs e
    ·rw[xaw (ne b _ e)];exact B.frzs b o u e
    ·rw[xaw (ne b _ e)];exact B.tbls b ps e
   have IX:Inv X pins σ (upd H4 s.heap.objs.size (.lst ys)) s5:=I2.call' (ch:=fp) I5.os un okD I5.bare λb hb=>⟨(f2 b hb).2.2.2.1,(f2 b hb).2.1,(f2 b hb).2.2.2.2.1,(f2 b hb).2.2.2.2.2⟩;refine fin _ _ s5 _ m5 IX (q _ nD) hm5 ?_ (Nat.ne_of_gt (Nat.lt_trans I2.lt upC)) (Nat.le_of_lt (Nat.lt_of_le_of_lt I2.sz upC)) (λx c e=>Nat.ne_of_lt (Nat.lt_trans (cellLt x c e) upC)) (λp hp=>Nat.ne_of_lt (Nat.lt_trans (Heap.lt_size (I2.pin p hp).1) upC));rw[xaw (Ne.symm hDC)];exact I5.free
  ·refine xgp (thn (T.item (X.comp sc N' hD.objs.size s H2 fp) rfl rfl rfl hc i _ s4 _ H4 (λ_ _=>False) I4 (fpI fr4) st4 go) λr s5 ⟨u,hr,h5⟩=>?_)
   subst hr;refine xgp (thn h5 λ_ s6 ⟨x,H6,I6,r6,y6,st6,fr6⟩=>?_);have I6':=I6.pinned (fpI fr6) (T.obj _ _ st6);refine xgp (thn (hg _ _ _ _ _ s6 _ H6 x u _ I6' r6 (step x H6 y6)) λ_ s7 ⟨σ7,H7,I7,x7,q7⟩=>?_);refine xgp (thn (ht _ _ _ _ _ s7 σ7 H7 _ I7 q7) λb s8 ⟨H8,I8,q8⟩=>?_)
   have back:∀{s9:Shared} {H9:Hp},Inv (X.comp sc N' hD.objs.size s H2 fp) ([(s.heap.objs.size,{cls:=.type "list",data:=.seq its.toArray k})]++xh5 fp s6.heap) σ7 H9 s9->
     Inv (X.comp sc N' hD.objs.size s H2 fp) [(s.heap.objs.size,{cls:=.type "list",data:=.seq its.toArray k})] (capt ix σ) H9 s9/\tn (i+1) s9.heap/\(∀b∈fp,H9 b=none):=λ{s9 H9} J9=>by
    refine⟨(J9.unpinned).weak x7.1 x7.2,T.keep _ _ _ st6 λb hb o e=>(J9.pin (b,o) (List.mem_append_right _ (List.mem_append_right _ (xd3 hb e)))).1,λb hb=>?_⟩;obtain⟨o,e,d⟩:=T.obj _ _ st6 b hb;exact(J9.pin (b,o) (List.mem_append_right _ (List.mem_append_right _ (xd3 hb e)))).2.1
   cases b with
   |false=>
    rw[if_neg Bool.false_ne_true]at q8⊢;obtain⟨m',hm,w8⟩:=q8;obtain⟨J8,st8,fr8⟩:=back I8;exact⟨m',hm,i+1,ys,its,k,H8,J8,r4,z4,st8,fr8,w8⟩
   | true=>
    rw[if_pos rfl]at q8⊢;refine xgp (thn (he _ _ _ _ _ s8 σ7 H8 _ I8 q8) λy s9 ⟨v9,H9,I9,r9,q9⟩=>?_);obtain⟨m',hm,w9⟩:=q9;obtain⟨J9,st9,fr9⟩:=back I9;obtain⟨pD,nD,neC,nf,_⟩:=J9.pin (s.heap.objs.size,{cls:=.type "list",data:=.seq its.toArray k}) (by simp);have hlen:=r4.length;refine call_meets F.slot_list_append ⟨_,pD,rfl⟩ F.entry_list_append (F.args_list_append_2 _ _) (PySem.list_append s.heap.objs.size its.toArray k y (by rw[List.size_toArray];omega)) ⟨pD,?_⟩;have q:=PySem.IsL.update pD (·.push y);have ep:its.toArray.push y=(its++[y]).toArray:=by simp
    dsimp only at q;rw[ep]at q;obtain⟨k',q⟩:∃k',(s9.heap.update s.heap.objs.size (Obj.mapSeq (·.push y))).get? s.heap.objs.size=some {cls:=.type "list",data:=.seq (its++[y]).toArray k'}:=⟨_,q⟩;have J0:Inv (X.comp sc N' hD.objs.size s H2 fp) [] (capt ix σ) H9 s9:=J9.pins_of λp hp=>absurd hp (by simp)
    have J1:Inv (X.comp sc N' hD.objs.size s H2 fp) [] (capt ix σ) H9 {s9 with heap:=s9.heap.update s.heap.objs.size (Obj.mapSeq (·.push y))}:=
     J0.turned (it:=s.heap.objs.size) (t':=s9.toks) (λb o hb e=>(Heap.get?_update_other _ _ (Ne.symm hb)).trans e) nD neC (.inr (Nat.le_refl _)) (λx c e=>Nat.ne_of_lt (cellLt x c (cellX x c e))) λp hp=>absurd hp (by simp)
    refine⟨m',hm,i+1,ys++[v9],its++[y],k',H9,J1.pins_of λp hp=>?_,r4.append (.cons r9 .nil),?_,T.keep _ _ _ st9 λb hb o e=>(Heap.get?_update_other _ _ ?_).trans e,fr9,w9⟩
    ·have e:p=_:=zMO hp
     subst e;exact⟨q,nD,neC,nf,λv z=>by cases z⟩
    ·rw[zLA,List.length_singleton];omega
    ·exact Nat.ne_of_gt (fpo b hb)
 exact codeAny_compStart_list (loop _ rfl) (T.self _ 0 _ _ _ st1 (loop _ rfl))
theorem Inv.letGo {pins:List (Addr×Obj)} {σ:St} {H:Hp} {s:Shared} {C:Addr} {h':Heap} (I:Inv X pins σ H s) (hs:Heap.SameBut C s.heap h') (h0:H C=none) (h1:C≠X.env.locals) (h2:X.s₀.heap.objs.size<=C) (h3:∀x c,X.env.cells.lookup x=some c->c≠C)
  (h4:∀p∈X.pn++pins,p.1≠C):Inv X pins σ H {s with heap:=h'}:=I.turned (t':=s.toks) (λb o hb e=>(hs.2 b hb).trans e) h0 h1 (.inr h2) h3 h4
theorem xbr {elt tg iter:Expr} {ifs:List Expr} {sc:Scope} {pos:Pos} (N':List Str) (ix:Cap) {wi:TI} {g:TG} {tt:TT} {te:TE} (hc:X.calm=true) (hok:xp9 X.N N' X.env.scope sc ix=true)
  (hi:PI X tg iter wi) (hg:∀C s₀ H₀ ex,PG (X.comp sc N' C s₀ H₀ ex) tg g) (ht:∀C s₀ H₀ ex,PTs (X.comp sc N' C s₀ H₀ ex) ifs tt) (he:∀C s₀ H₀ ex,PE (X.comp sc N' C s₀ H₀ ex) elt te)
  (hs:∀x,foldedSetIterable iter X.env x=pure x:=by intro _;rfl):PE X (.ListComp elt [⟨tg,iter,ifs,0⟩] sc pos) (xtf ix wi g tt te):=by
 intro pins s σ H Q I h;have ok:=xlj hok;rw[eval_ListComp];refine wpAny_comprehension_free (use:=none) rfl hs (xeu λp hp hk=>I.ok.has p.1 (ok.fre p hp hk)) ok.kind ok.loc (thn (hi pins s σ H _ I h) λv s1 h1=>thn h1 λitv s2 h2=>?_);refine xgt (RR:=λacc C=>compPost (model X.prog X.w) X.A X.xe none (EP X pins σ Q) acc C) hc ok hg ht he h2 ?_;intro D C s' H' m I' q hm h0 h1 h2 h3 h4;exact⟨m,hm,λh' hsb=>⟨.ref D,H',I'.letGo hsb h0 h1 h2 h3 h4,rfl,q⟩⟩
theorem xcc {elt tg iter:Expr} {ifs:List Expr} {sc:Scope} {pos spos py:Pos} {i:Nat} {y:Str} (N':List Str) (ix:Cap) {wi:TI} {g:TG} {tt:TT} {te:TE} (hc:X.calm=true) (hok:xp9 X.N N' X.env.scope sc ix=true)
  (hN:X.N.Nodup) (hy:X.N[i]?=some y) (hx:Loc X.env.scope y)
  (hi:PI X tg iter wi) (hg:∀C s₀ H₀ ex,PG (X.comp sc N' C s₀ H₀ ex) tg g) (ht:∀C s₀ H₀ ex,PTs (X.comp sc N' C s₀ H₀ ex) ifs tt) (he:∀C s₀ H₀ ex,PE (X.comp sc N' C s₀ H₀ ex) elt te)
  (hs:∀x,foldedSetIterable iter X.env x=pure x:=by intro _;rfl) (hsw:swapsWith (.ListComp elt [⟨tg,iter,ifs,0⟩] sc pos) (some (.Name y py)) spos.line X.env=pure true:=by rfl)
  (hf:X.fn y=true\/X.env.scope.names.lookup y=some .local:=by first |exact .inl rfl |exact .inr rfl |assumption) :
  PS X (.Assign [.Name y py] (.ListComp elt [⟨tg,iter,ifs,0⟩] sc pos) spos) (tAsg (xtf ix wi g tt te) (xf5 i)):=by
 intro pins s σ H D I h;have ok:=xlj hok;rw[exec_Assign_Name_used _ _ _ _ hsw];refine wpAny_bind (wpAny_standAt (wpAny_bind ?_));show wpAny _ X.A (do let _ <- comprehension (.ListComp elt [⟨tg,iter,ifs,0⟩] sc pos) sc X.env _ (newList []) false (eval iter X.env) (some (assign (.Name y py) X.env))) _ _ s
 refine wpAny_bind (wpAny_mono (wpAny_comprehension_free (use:=some (assign (.Name y py) X.env)) (Q:=λ_ s'=>SP X pins D .next s') rfl hs (xeu λp hp hk=>I.ok.has p.1 (ok.fre p hp hk)) ok.kind ok.loc
  (thn (hi pins s σ H _ I h) λv s1 h1=>thn h1 λitv s2 h2=>?_)) (λ_ s' hq=>wpAny_pure (wpAny_pure hq)) λ_ _ e=>e)
 refine xgt (Q:=λx H1=>xf5 i x σ H1 D.nx) (RR:=λacc C=>compPost (model X.prog X.w) X.A X.xe (some (assign (.Name y py) X.env)) (λ_ s'=>SP X pins D .next s') acc C) hc ok hg ht he h2 ?_;intro Dl C s' H' m I' q hm h0 h1 h2 h3 h4;refine wpAny_assign_Name (xhr I' hN hy hx (v:=.ref Dl) rfl (λs3 I3 sb=>?_) hf);obtain⟨a,hsb,ha⟩:=sb
 have hne:C≠a:=by
  rcases ha with e |e
  ·rw[e];exact h1
  ·exact Ne.symm (h3 y a e)
 exact⟨m,hm.sameBut hsb hne,λh' hs'=>⟨_,H',I3.letGo hs' h0 h1 h2 h3 h4,q⟩⟩
end
section
variable {ix:Cap}{tt:TT}{te:TE}{g:TG}{σ:St}{H:Hp}{Q:VK}
def Nxt(Pv:Nat->List V->Hp->Prop)(n i:Nat)(ys:List V):VK:=λy H2=>∃m',m'<n-i/\m'=n-(i+1)/\i+1<=n/\(ys++[y]).length=i+1/\Pv (i+1) (ys++[y]) H2
theorem nxt{a:Nat->List V->Hp->Prop}{n i:Nat}{ys:List V}{y:V}{b:Hp}(hi:i<n)(c:ys.length=i)(h:a (i+1) (ys++[y]) b):Nxt a n i ys y b:=
 ⟨n-(i+1),by omega,rfl,hi,by rw[zLA,List.length_singleton,c],h⟩
theorem xdg {lo:Int} {n j:Nat} (Pv:Nat->List V->Hp->Prop) (hj:(capt ix σ)[j]?=some none) (h0:Pv 0 [] H) (hn:n<sizeLine)
  (hs:∀i ys H,i<n->ys.length=i->Pv i ys H->te ((capt ix σ).set j (some (.int (lo+i)))) H (Nxt Pv n i ys))
  (hd:∀ys H,ys.length=n->Pv n ys H->∀D,H D=none->Q (.ref D) (upd H D (.lst ys))):xd9 (Itr lo n) ix (xf5 j) tYes te σ H Q:=by
 refine⟨λi m ys H=>m=n-i/\i<=n/\ys.length=i/\Pv i ys H,⟨n,by simp,Nat.zero_le _,rfl,h0⟩,?_⟩;rintro i m ys H ⟨rfl,hi,hl,p⟩;by_cases hlt:i<n
 ·refine .inr ⟨hlt,by omega,λx H' y=>?_⟩
  obtain⟨e,y⟩:=y;subst e y;refine⟨xe5 hj,?_⟩;unfold tYes;dsimp only;rw[if_pos rfl];exact hs i ys _ hlt hl p
 ·have e:i=n:=by omega
  subst e;exact .inl ⟨Nat.le_refl _,hd ys H hl p⟩
theorem xiy {K:Fg} {a:Addr} {xs:List V} {j:Nat} (Pv:Nat->List V->Hp->Prop) (hj:(capt ix σ)[j]?=some none) (h0:Pv 0 [] H) (hn:xs.length<sizeLine) (hl':∀i ys H,i<=xs.length->Pv i ys H->SqL K H a xs)
  (hs:∀i x ys H,xs[i]?=some x->ys.length=i->Pv i ys H->te ((capt ix σ).set j (some x)) H (Nxt Pv xs.length i ys))
  (hd:∀ys H,ys.length=xs.length->Pv xs.length ys H->∀D,H D=none->Q (.ref D) (upd H D (.lst ys))):xd9 (Itl K a) ix (xf5 j) tYes te σ H Q:=by
 refine⟨λi m ys H=>m=xs.length-i/\i<=xs.length/\ys.length=i/\Pv i ys H,⟨xs.length,by simp,Nat.zero_le _,rfl,h0⟩,?_⟩;rintro i m ys H ⟨rfl,hi,hl,p⟩;have q:=hl' i ys H hi p;by_cases hlt:i<xs.length
 ·refine .inr ⟨⟨xs,xs[i],q,by simp[hlt]⟩,by omega,λv H' y=>?_⟩
  obtain⟨e,y⟩:=y;subst e;refine⟨xe5 hj,?_⟩;unfold tYes;dsimp only;rw[if_pos rfl];exact hs i v ys _ (y xs q) hl p
 ·have e:i=xs.length:=by omega
  subst e;exact .inl ⟨⟨xs,q,Nat.le_refl _⟩,hd ys H hl p⟩
theorem xdb {K:Fg} {a:Addr} {xs:List V} {j:Nat} (b:Nat->List V->Hp->Prop) (h:(capt ix σ)[j]?=some none) (h0:b 0 [] H) (hn:xs.length<sizeLine) (f:∀i ys H,i<=xs.length->b i ys H->SqT K H a xs)
  (hs:∀i x ys H,xs[i]?=some x->ys.length=i->b i ys H->te ((capt ix σ).set j (some x)) H (Nxt b xs.length i ys))
  (hd:∀ys H,ys.length=xs.length->b xs.length ys H->∀D,H D=none->Q (.ref D) (upd H D (.lst ys))):xd9 (Itt K a) ix (xf5 j) tYes te σ H Q:=by
 refine⟨λi m ys H=>m=xs.length-i/\i<=xs.length/\ys.length=i/\b i ys H,⟨xs.length,by simp,Nat.zero_le _,rfl,h0⟩,?_⟩;rintro i m ys H ⟨rfl,hi,g,p⟩;have q:=f i ys H hi p;by_cases c:i<xs.length
 ·refine .inr ⟨⟨xs,xs[i],q,by simp[c]⟩,by omega,λv l y=>?_⟩
  obtain⟨e,y⟩:=y;subst e;refine⟨xe5 h,?_⟩;unfold tYes;dsimp only;rw[if_pos rfl];exact hs i v ys _ (y xs q) g p
 ·have e:i=xs.length:=by omega
  subst e;exact .inl ⟨⟨xs,q,Nat.le_refl _⟩,hd ys H g p⟩
end
section
variable {X:Cx}
def xv7(i j:Int):Prop:=0<j/\j<2 ^ 64
theorem xcf:OpR X (binaryOp .FloorDiv) (rI xv7 λi j=>.int (i / j)):=opI λi j _ _ _ _ _ a q=>by
 have f:(0:Int)<j:=a.1;have e:j<2 ^ 64:=a.2;refine floordiv_int (by omega) (by rw[Int.fdiv_eq_ediv_of_nonneg i (by omega)];exact q) (.inl (PyProof.noPylong_of_log2 ?_));have b:j.natAbs<2 ^ 64:=by omega
 have h0:j.natAbs≠0:=by omega
 have c:j.natAbs.log2<64:=(Nat.log2_lt h0).mpr b;omega
theorem xls{ys:List Str}:∀{us:List Value},Vals (ys.map V.str) us->StrsAre us ys:=by
 induction ys with
 |nil=>intro us r;rw[List.map_nil]at r;cases r;exact .nil
 | cons n ns c=>
  intro us r;rw[List.map_cons]at r
  cases r with
  |cons b a=>
   obtain⟨t,e⟩:=b;subst e;exact .cons n t (c a)
def xvp(K:Fg):V->List V->Hp->VK->Prop:=λx vs H Q=>∃(sep:Str) (p:Addr) (ys:List Str),x=.str sep/\vs=[.ref p]/\SqL K H p (ys.map V.str)/\(ys.map (·.length)).sum+ys.length*sep.length<=16777216/\Q (.str (Txt.join sep ys)) H
theorem xsa:MtR X "str.join" (xvp X.K):=by
 intro a s σ H x vs v us Q I c e h;obtain⟨b,p,ys,rfl,rfl,g,hz,q⟩:=h;obtain⟨t,rfl⟩:=c;obtain⟨u,rfl,f⟩:=e.one;cases f;obtain⟨its,r,pl,_⟩:=I.list g;exact join_list pl.isList (by simpa using xls r) hz λt' k=>⟨.str _,H,I.tok k,⟨t',rfl⟩,q⟩
def rSlS:V->Option Int->Option Int->Hp->VK->Prop:=λx lo hi H Q=>∃z:Str,x=.str z/\z.length<=sizeLine/\Q (.str (Txt.slice z lo hi)) H
theorem xqn:SlR X rSlS:=by
 intro f s σ H x v G C y hi sl Q I w hs pl r h;obtain⟨z,rfl,hz,q⟩:=h;obtain⟨t,rfl⟩:=w;refine⟨"str",_,F.slot_str_getitem.lookup,typeIs_str _ _ _,?_⟩
 have m:∀(o:Str),o=Txt.slice z y hi->o.length<=sizeLine/\∀t' k,EP X f σ Q (.str o t') {s with toks:=k}:=λo e=>by
  subst e;exact⟨Nat.le_trans (Txt.slice_le z _ _) hz,λt' k=>⟨.str _,H,I.tok k,⟨t',rfl⟩,q⟩⟩
 obtain⟨g,a,c,b⟩:=hs
 cases pl with
 |none=>
  cases r with
  |none=>exact wpAny_getItem_str_slice (l:=none) (u:=none) (st:=none) ⟨g,a,c,b⟩ rfl (post_val_or_str (m _ rfl))
  |int j n=>exact wpAny_getItem_str_slice (l:=none) (u:=some (j,n)) (st:=none) ⟨g,a,c,b⟩ rfl (post_val_or_str (m _ rfl))
 |int i p=>
  cases r with
  |none=>exact wpAny_getItem_str_slice (l:=some (i,p)) (u:=none) (st:=none) ⟨g,a,c,b⟩ rfl (post_val_or_str (m _ rfl))
  |int j n=>exact wpAny_getItem_str_slice (l:=some (i,p)) (u:=some (j,n)) (st:=none) ⟨g,a,c,b⟩ rfl (post_val_or_str (m _ rfl))
theorem xhl(G:X.calm=true):xdy X (.builtin "all") (λxs H Q=>∃(p:Addr) (bs:List Bool),xs=[.ref p]/\SqL X.K H p (bs.map V.bl)/\Q (.bl (bs.all id)) H):=by
 intro a s σ H xs us Q I r h;obtain⟨p,bs,rfl,C,q⟩:=h;obtain⟨u,rfl,g⟩:=xex r;cases g;obtain⟨its,n,pl,hz⟩:=I.list C;have c:=n.length;rw[zLM]at c;have j:p<s.heap.objs.size:=by obtain⟨_,e,_⟩:=pl.isList;exact Heap.lt_size e
 refine call_all_walk (wpAny_pyIter_list pl.isList ?_);refine⟨s.heap.objs.size,_,_,_,_,_,λi=>bs.getD i true,rfl,Walks.list (A:=X.A.in1) (I.ok.hd G) s.heap.objs.size p (Nat.ne_of_lt j) its.toArray,⟨⟨_,Heap.get?_push_size _ rfl,rfl,rfl⟩,pl.isList.push _⟩,?_,?_⟩
 ·intro i v s' Q' E' z m
  have f:its[i]?=some v:=by simpa using z
  have hi:i<bs.length:=by
   have:=(zES f).1;omega
  obtain⟨u',e,g⟩:=n.get (i:=i) (x:=V.bl bs[i]) (by rw[zGM,zGA hi] <;> rfl);rw[f]at e;cases e;cases g;dsimp only at m;rw[List.getD_eq_getElem?_getD,zGA hi]at m;exact wpAny_truthy_bool m
 ·intro h' w y
  have I1:Inv X a σ H {s with heap:=s.heap.push {cls:=.type "list_iterator",data:=.fields #[.ref p,.int 0 0]}}:=I.kept (t':=s.toks) λb o e=>zPO _ e;obtain⟨Y,U,f2,O,M,J⟩:=I.fpOk (b:=s.heap.objs.size) (Nat.le_refl _) (I.hok.fresh (Nat.le_refl _));have Z:Inv X a σ H {s with heap:=h',toks:=w}:=I1.turned (λb o l e=>y b o (by simpa using l) e) Y U O M J;refine⟨.bl _,H,Z,rfl,?_⟩
  have e:(List.range its.toArray.size).all (λi=>bs.getD i true)=bs.all id:=by
   rw[List.size_toArray,<- c];rw[Bool.eq_iff_iff];simp only[List.all_eq_true,List.mem_range,id];constructor
   ·intro h b l
    obtain⟨i,hi,e⟩:=zMI l;have:=h i hi;rw[List.getD_eq_getElem?_getD,zGA hi]at this;rw[<- e];exact this
   ·intro h i hi
    rw[List.getD_eq_getElem?_getD,zGA hi];exact h _ (List.getElem_mem hi)
  rw[e];exact q
theorem xdn:xdy X (.builtin "isinstance") (λxs H Q=>∃x y c t b,xs=[x,y]/\(∀u,RelV y u->u=c)/\TyOf X.K H x t/\PySem.W.kitOne X.K t c=some b/\Q (.bl b) H):=by
 intro a s σ H xs us Q I r h;obtain⟨x,y,c,t,b,rfl,l,f,e,q⟩:=h;obtain⟨u,v,rfl,j,i⟩:=r.two;obtain rfl:=l v i;exact xoe I j f e λg=>⟨.bl b,H,I.tok g,rfl,q⟩
end
def SameBut(a:Addr)(H H':Hp):Prop:=∀b o,H b=some o->b≠a->H' b=some o
theorem SameBut.refl(a:Addr)(H:Hp):SameBut a H H:=λ_ _ h _=>h
theorem SameBut.trans{a:Addr}{H f c:Hp}(h:SameBut a H f)(k:SameBut a f c):SameBut a H c:=λb o e n=>k b o (h b o e n) n
theorem SameBut.upd(a:Addr)(H:Hp)(o:HO):SameBut a H (upd H a o):=λb u e n=>by rw[xaw n];exact e
theorem Same.but{a:Addr}{H c:Hp}(h:Same H c):SameBut a H c:=λb o e _=>h b o e
theorem Same.new{H:Hp}{p:Addr}(h:H p=none)(o:HO):Same H (upd H p o):=λb u q=>by rw[xaw (neN q h)];exact q
theorem xcj{H a:Hp}{p:Addr}(h:Same H a)(n:a p=none):H p=none:=by
 cases e:H p with
 |none=>rfl
 |some o=>rw[h p o e]at n;cases n
structure DefTx(K:Fg)(mg:Str->Option Value)(x:Str)(st:Stmt)(ps:List Str):Prop where
 ex:∃(f:Addr) (fd:FuncData),Fun K x x st f fd/\mg x=some (.ref f)/\∀us:List Value,us.length=ps.length->bindArgs fd ⟨us,[]⟩=pure (ps.zip us)
structure DefIs(P:Program)(w:World)(K:Fg)(mg:Str->Option Value)(base:Heap)(n:Nat)(x:Str)(ps:List Str)(sp:Sp):Prop where
 ex:∃(f:Addr) (fd:FuncData),FnOk P w K mg base CX0 n f fd ps sp/\Binds K fd ps []/\PySem.W.keepIn K (.ref f)=true/\mg x=some (.ref f)/\∃oc od osl,K.lookup f=some ⟨oc,od,.func fd,osl⟩
theorem xoj{K:Fg}{x:Str}{st:Stmt}{f:Addr}{c:FuncData}(F:Fun K x x st f c):∃b od a,K.lookup f=some ⟨b,od,.func c,a⟩:=by
 obtain⟨b,od,kV,e,h,i,g,ct,a,_,l,_⟩:=F.ex;exact⟨b,od,a,l⟩
section
variable {P:Program}{w:World}{K:Fg}{mg:Str->Option Value}{base:Heap}{n m:Nat}{x:Str}{ps N:List Str}{sp:Sp}{st:Stmt}
theorem DefIs.mono(D:DefIs P w K a base n x ps sp)(h:n<=m):DefIs P w K a base m x ps sp:=by
 obtain⟨f,b,F,r⟩:=D.ex;exact⟨f,b,F.mono h,r⟩
theorem DefIs.imp{a:Sp}(D:DefIs P w K b base n x ps sp)(h:∀vs H Q E,a vs H Q E->sp vs H Q E):DefIs P w K b base n x ps a:=by
 obtain⟨f,c,F,r⟩:=D.ex;exact⟨f,c,F.imp h,r⟩
theorem DefIs.of (T:DefTx K e x st ps) (S:FnScope N ps (xab st)) (len:∀vs H Q E,sp vs H Q E->vs.length=ps.length)
  (c:∀(f:Addr) (a:Value) (A:Around) (outer:List Env) (s:Shared) (H:Hp) (vs:List V) (Q:VK) (E:XK),Room n (A.deeper (envOfC x (xab st) s.heap.objs.size f a))->sp vs H Q E->
   ∃t,PSs (cxOf CX0 P w K e base N x (xab st) f a A outer s H E).nox (xef st) t/\t {nx:=λ_ j=>Q .non j,rt:=Q} (xfo N vs) H):DefIs P w K e base (n+1) x ps sp:=by
 obtain⟨f,i,F,m,b⟩:=T.ex;exact⟨f,i,F.ok S len (λa A outer s H vs Q E g h=>c f a A outer s H vs Q E g h),Binds.all b,F.kp,m,xoj F⟩
theorem DefIs.none(T:DefTx K a x st ps)(no:∀vs H Q E,¬sp vs H Q E):DefIs P w K a base n x ps sp:=by
 obtain⟨f,c,F,m,b⟩:=T.ex;exact⟨f,c,⟨λvs H Q E h=>absurd h (no vs H Q E),λA outer s H args us vs Q E _ _ _ _ h=>absurd h (no vs H Q E)⟩,Binds.all b,F.kp,m,xoj F⟩
end
section
variable {X:Cx}{n:Nat}{x:Str}{ps:List Str}{sp:Sp}{e:Expr}{es:List Expr}{p pos:Pos}{t:TA}
theorem pd (D:DefIs X.prog X.w X.K X.mg X.base n x ps sp) (g:Room n X.A) (j:PA X (e::es) t) (h:Gl X x:=by rfl) (c:(x == ("__debug__":Str))=false:=by decide)
  (i:starEach (e::es) X.env=(false,eval e X.env)::starEach es X.env:=by rfl) (a:(backTo pos (starEach es X.env)).any (·.1)=false:=by rfl):PE X (.Call (.Name x p) (e::es) [] pos) (xtg sp [] E0 t):=by
 obtain⟨f,l,F,b,k,m,_⟩:=D.ex;exact xrw F g h m k b .nil xvs j c i a
theorem xdc{i:Int}(hm:∃t,X.mg x=some (.int i t))(hg:Gl X x:=by rfl)(hd:(x == ("__debug__":Str))=false:=by decide):PE X (.Name x pos) (tC (.int i)):=by
 obtain⟨t,h⟩:=hm;exact xru hg h ⟨t,rfl⟩ hd
theorem xk1{T:String}(b:X.mg x=none)(a:bootBuiltins x=some (.type T))(c:Gl X x:=by rfl)(hn:x≠"__name__":=by decide)(hd:(x == ("__debug__":Str))=false:=by decide):PE X (.Name x pos) (tC (.ty T)):=xrx c b a rfl hn hd
end
def Fed(a:Addr)(H H':Hp):Prop:=SameBut a H H'/\∃p q:Int,H' a=some (.lst [.int p,.int q])
theorem Fed.trans{a:Addr}{H c b:Hp}(h:Fed a H c)(k:Fed a c b):Fed a H b:=⟨h.1.trans k.1,k.2⟩
theorem Fed.of{a:Addr}{H:Hp}{p q:Int}:Fed a H (upd H a (.lst [.int p,.int q])):=⟨SameBut.upd a H _,p,q,ups⟩
theorem Fed.refl{a:Addr}{H:Hp}{p q:Int}(h:H a=some (.lst [.int p,.int q])):Fed a H H:=⟨SameBut.refl a H,p,q,h⟩
theorem Fed.same{a:Addr}{H c b:Hp}(h:Fed a H c)(s:Same c b):Fed a H b:=by
 obtain⟨k,p,q,e⟩:=h;exact⟨k.trans s.but,p,q,s _ _ e⟩
theorem Fed.back{a:Addr}{H H0 H':Hp}(n:H a=none)(s:Same H H0)(h:Fed a H0 H'):Same H H':=λb o e=>h.1 b o (s b o e) (neN e n)
theorem deftx_mk {K:Fg} {h:Heap} {n:Str->Option Value} (X:K.In h) (G:h.Ns mainGlobals n) {x:Str} {st:Stmt} {ps:List Str} {f:Addr} {o:Value} {od j:Option Addr} {m:Array (Option Value)} {kV g i e ct:Value}
  (a:PySem.W.nsIn K mainGlobals x=some (some (.ref f))) (l:K.lookup f=some ⟨o,od,.func (PySem.W.fnOf x x (xf8 st) (xef st) (xab st) .none kV g i j e ct),m⟩)
  (c:PySem.W.codeIn K e x=true) (k:PySem.W.keepIn K (.ref f)=true)
  (b:∀(kV g i:Value) (j:Option Addr) (e ct:Value) (us:List Value),us.length=ps.length->bindArgs (PySem.W.fnOf x x (xf8 st) (xef st) (xab st) .none kV g i j e ct) ⟨us,[]⟩=pure (ps.zip us)):DefTx K n x st ps:=by
 have F:=xut (st:=st) l c k;exact⟨f,_,F,PySem.W.mg_of X G a,b kV g i j e ct⟩
theorem law_top {P:Program} {w:World} {K:Fg} {mg:Str->Option Value} {n:Nat} {x y:Str} {st:Stmt} {sp:Sp} {fa:Addr} (T:DefTx K mg x st [y]) (hmg:mg x=some (.ref fa)) (D:∀base,DefIs P w K mg base n x [y] sp) :
  ∃fd:FuncData,(∀(s:Shared) (u:Value),BindsTo s fd ⟨[u],[]⟩ [(y,u)])/\∀base:Heap,K.In base->base.Ns mainGlobals mg->FnOk P w K mg base CX0 n fa fd [y] sp:=by
 obtain⟨f,fd,F,m,b⟩:=T.ex;rw[hmg]at m;cases m;refine⟨fd,λs u=>.of_eq (b [u] rfl),λbase _ _=>?_⟩;obtain⟨f',fd',G,_,_,m',oc,od,osl,l⟩:=(D base).ex;rw[hmg]at m';cases m';obtain⟨oc2,od2,osl2,l2⟩:=xoj F;rw[l]at l2;cases l2;exact G
theorem gint_mk{K:Fg}{h:Heap}{b:Str->Option Value}(X:K.In h)(G:h.Ns mainGlobals b){x:Str}{i:Int}{t:Tok}(a:PySem.W.nsIn K mainGlobals x=some (some (.int i t))):∃t,b x=some (.int i t):=⟨t,PySem.W.mg_of X G a⟩
end L2
end
section
namespace Zt
open PySem
section
variable {prog:Program}{w:World}{A:Around}{E:Value->Shared->Prop}{s:Shared}
theorem next_item {it l:Addr} {i:Nat} {items} {x:Value} {Q:Value->Shared->Prop} (a:s.heap.IsTupleIter it l i)
  (g:s.heap.IsTuple l items) (f:items[i]?=some x)
  (j:∀h',h'.IsTupleIter it l (i+1)->Heap.SameBut it s.heap h'->Q x {s with heap:=h'}) :
  wpAny (model prog w) A (Builtin.SmallTypes.nextOf (.ref it)) Q E s:=by
 obtain⟨o,b,h,hd⟩:=id a;obtain⟨m,c,_,n,e⟩:=g;unfold Builtin.SmallTypes.nextOf
 refine wpAny_bind (wpAny_callSpecial?_slot (name:=Str.ofString "__next__") a.typeIs F.slot_tuple_iterator_next
  (wpAny_call_entry F.slot_tuple_iterator_next a.typeIs F.entry_tuple_iterator_next ?_ (F.args_tuple_iterator_next_1 _)))
 show wpAny _ _ (field (.ref it) 0 >>= _) _ _ s;refine wpAny_bind (wpAny_field b hd (x:=.ref l) rfl ?_);show wpAny _ _ (if (Value.ref l == Value.none)=true then _ else _) _ _ s;rw[if_neg (show ¬((Value.ref l == Value.none)=true) from Bool.false_ne_true)];show wpAny _ _ (field (.ref it) 1 >>= _) _ _ s;refine wpAny_bind (wpAny_field b hd (x:=.int i 0) rfl ?_);show wpAny _ _ (seqItems? (.ref l) >>= _) _ _ s;refine wpAny_bind (wpAny_seqItems c e ?_);simp only[Int.toNat_natCast,f];refine wpAny_bind (wpAny_setField b hd (by simp) (wpAny_pure ⟨x,rfl,wpAny_pure (j _ ?_ (Heap.SameBut.update ..))⟩))
 exact⟨_,Heap.get?_update_self _ b (Obj.isFreed_of_fields (Obj.data_mapFields hd _)),(Obj.cls_mapFields ..).trans h,by
  rw[Obj.data_mapFields hd];simp[rawInt]⟩
theorem next_end {it l:Addr} {i:Nat} {items} {Q:Value->Shared->Prop} (h:A.handled=none)
  (b:s.heap.IsTupleIter it l i) (n:s.heap.IsTuple l items) (j:items[i]?=none)
  (hE:∀h' e,Heap.ExtBut it s.heap h'->(∃o,h'.get? e=some o/\o.cls=.type "StopIteration")->E (.ref e) {s with heap:=h'}) :
  wpAny (model prog w) A (Builtin.SmallTypes.nextOf (.ref it)) Q E s:=by
 obtain⟨o,f,u,hd⟩:=id b;obtain⟨p,c,_,r,g⟩:=n;unfold Builtin.SmallTypes.nextOf
 refine wpAny_bind (wpAny_callSpecial?_slot (name:=Str.ofString "__next__") b.typeIs F.slot_tuple_iterator_next
  (wpAny_call_entry F.slot_tuple_iterator_next b.typeIs F.entry_tuple_iterator_next ?_ (F.args_tuple_iterator_next_1 _)))
 show wpAny _ _ (field (.ref it) 0 >>= _) _ _ s;refine wpAny_bind (wpAny_field f hd (x:=.ref l) rfl ?_);show wpAny _ _ (if (Value.ref l == Value.none)=true then _ else _) _ _ s;rw[if_neg (show ¬((Value.ref l == Value.none)=true) from Bool.false_ne_true)];show wpAny _ _ (field (.ref it) 1 >>= _) _ _ s;refine wpAny_bind (wpAny_field f hd (x:=.int i 0) rfl ?_);show wpAny _ _ (seqItems? (.ref l) >>= _) _ _ s;refine wpAny_bind (wpAny_seqItems c g ?_);simp only[Int.toNat_natCast,j];refine wpAny_bind (wpAny_rule (wpAny_bind (wpAny_setField f hd (by simp) ?_)));show wpAny _ _ (newExc (.type "StopIteration") [] >>= _) _ _ _;refine wpAny_bind ?_;simp only[newExc,newTuple];refine wpAny_bind (wpAny_newObj_type ?_ (by size_fits));refine wpAny_bind (m:=firstArgMember _ _) (wpAny_of_eq (a:=Value.none) (by first |rfl |(simp only[firstArgMember];rfl)) ?_);refine wpAny_newObj_type ?_ (by size_fits);simp only[raiseNew];refine wpAny_bind (wpAny_handled ?_)
 first |rw[show A.in1.handled=none from h] |rw[h]
 refine wpAny_bind (wpAny_pure (wpAny_throw ?_));exact hE _ _ (((Heap.SameBut.update ..).extBut.push _).push _) ⟨_,Heap.get?_push_size _ rfl,rfl⟩
abbrev xq5(h:Heap)(z TI TO:Addr)(f0 f1:Value):Prop:=
 h.get? z=some {cls:=.type "zip",dict:=none,data:=.fields #[f0,f1,.bool false,.ref TI,.ref TO],slots:=#[]}
def Free(h:Heap)(z TI TO:Addr):Prop:=xq5 h z TI TO .none (.bool false)\/∃(T:Addr) (b:Bool) (o:Obj),xq5 h z TI TO (rawInt T) (.bool b)/\h.get? T=some o/\T≠z
structure Zs(h:Heap)(z TI TO i1 i2 l1 l2:Addr)(xs ys:Array Value)(k:Nat):Prop where
 zip:Free h z TI TO
 ti:IsPair h TI (.ref i1) (.ref i2)
 to:∃a b,IsPair h TO a b
 it1:h.IsTupleIter i1 l1 k
 it2:h.IsTupleIter i2 l2 k
 t1:h.IsTuple l1 xs
 t2:h.IsTuple l2 ys
structure Nx(prog:Program)(w:World)(it l:Addr)(xs:Array Value)(P:Heap->Nat->Prop):Prop where
 item:∀{A:Around} {E:Value->Shared->Prop} {s:Shared} {Q:Value->Shared->Prop} {i:Nat} {x:Value},P s.heap i->xs[i]?=some x->(∀h',P h' (i+1)->Heap.SameBut it s.heap h'->Q x {s with heap:=h'})->wpAny (model prog w) A (Builtin.SmallTypes.nextOf (.ref it)) Q E s
 last:∀{A:Around} {E:Value->Shared->Prop} {s:Shared} {Q:Value->Shared->Prop} {i:Nat},A.handled=none->P s.heap i->xs[i]?=none->(∀h' e,Heap.ExtBut it s.heap h'->(∃o,h'.get? e=some o/\o.cls=.type "StopIteration")->E (.ref e) {s with heap:=h'})->wpAny (model prog w) A (Builtin.SmallTypes.nextOf (.ref it)) Q E s
 kept:∀{h h':Heap} {i:Nat},P h i->(∀o,h.get? it=some o->h'.get? it=some o)->(∀o,h.get? l=some o->h'.get? l=some o)->P h' i
 there:∀{h:Heap} {i:Nat},P h i->∃o,h.get? it=some o
theorem Nx.ext{it l a:Addr}{xs:Array Value}{P:Heap->Nat->Prop}(N:Nx prog w it l xs P){h h':Heap}{i:Nat}(p:P h i)(e:Heap.ExtBut a h h')(c:it≠a)(b:l≠a):P h' i:=N.kept p (λo q=>e _ _ c q) λo q=>e _ _ b q
structure Zg(P1:Heap->Nat->Prop)(h:Heap)(z TI TO i1 i2 l2:Addr)(ys:Array Value)(k:Nat):Prop where
 zip:Free h z TI TO
 ti:IsPair h TI (.ref i1) (.ref i2)
 to:∃a b,IsPair h TO a b
 p1:P1 h k
 it2:h.IsTupleIter i2 l2 k
 t2:h.IsTuple l2 ys
theorem xus {P1:Heap->Nat->Prop} {z TI TO Y r l1 l2:Addr} {k1 k2:Nat} {xs ys:Array Value} {x y a b:Value} {Q:Value->Shared->Prop} (D:ZipApart z TI TO Y r l1 l2)
  (hz:IsZip s.heap z TI TO .none) (a7:IsPair s.heap TI (.ref Y) (.ref r)) (a6:IsPair s.heap TO a b)
  (Z:Nx prog w Y l1 xs P1) (h1:P1 s.heap k1) (h2:s.heap.IsTupleIter r l2 k2) (a4:s.heap.IsTuple l2 ys) (hx:xs[k1]?=some x) (hy:ys[k2]?=some y)
  (hQ:∀h',IsZip h' z TI TO (rawInt s.heap.objs.size)->IsPair h' TO x y->P1 h' (k1+1)->h'.IsTupleIter r l2 (k2+1)->IsPair h' s.heap.objs.size x y->h'.objs.size=s.heap.objs.size+1->
   (∀c o,c≠z->c≠TO->c≠Y->c≠r->s.heap.get? c=some o->h'.get? c=some o)->Q (.ref s.heap.objs.size) {s with heap:=h'}) :
  wpAny (model prog w) A (Builtin.«zip.__next__» ⟨[.ref z],[]⟩) (λfin s'=>∃v,fin=.done (.ret v)/\Q v s') E s:=by
 show wpAny _ _ (field (.ref z) 2 >>= _) _ _ _;refine wpAny_bind (wpAny_field hz rfl (x:=.bool false) rfl ?_);show wpAny _ _ (field (.ref z) 3 >>= _) _ _ _;refine wpAny_bind (wpAny_field hz rfl (x:=.ref TI) rfl ?_);refine wpAny_bind (wpAny_seqItems a7 rfl ?_);show wpAny _ _ (Builtin.SmallTypes.ownedTupleIsFree (.ref z) >>= _) _ _ _;refine wpAny_bind ?_;unfold Builtin.SmallTypes.ownedTupleIsFree;refine wpAny_bind (wpAny_field hz rfl (x:=.none) rfl (wpAny_pure ?_));simp only[if_true];refine wpAny_bind (wpAny_rule ?_);refine wpAny_bind (wpAny_field hz rfl (x:=.ref TO) rfl ?_);refine wpAny_bind (wpAny_setField_rec hz (by simp) λh₁ J j=>?_)
 replace J:IsZip h₁ z TI TO .ellipsis:=J
 refine wpAny_bind ?_;simp only[List.zipIdx_cons,List.zipIdx_nil,List.forIn_cons,List.forIn_nil];refine wpAny_bind (wpAny_bind (wpAny_onRaise ?_));show wpAny _ _ (Builtin.SmallTypes.nextOf (.ref Y) >>= _) _ _ _;refine wpAny_bind (Z.item (Z.ext h1 j.extBut D.i1z D.l1z) hx λh₂ ab i=>wpAny_pure ?_);have G:IsPair h₂ TO a b:=i.extBut _ _ D.TOi1 (j.extBut _ _ D.TOz a6);refine wpAny_bind (wpAny_seqItems G rfl ?_);refine wpAny_bind (wpAny_updateSeq_pair G λh₃ n h=>?_)
 replace n:IsPair h₃ TO x b:=n
 refine wpAny_bind (wpAny_letGo (wpAny_pure ?_));refine wpAny_bind (wpAny_bind (wpAny_onRaise ?_));show wpAny _ _ (Builtin.SmallTypes.nextOf (.ref r) >>= _) _ _ _
 refine wpAny_bind (next_item (((h2.extBut j.extBut D.i2z).extBut i.extBut D.i12.symm).extBut h.extBut D.TOi2.symm)
  (((a4.extBut j.extBut D.l2z).extBut i.extBut D.l2i1).extBut h.extBut D.l2TO) hy λh₄ a9 m=>wpAny_pure ?_)
 have C:IsPair h₄ TO x b:=m.extBut _ _ D.TOi2 n;refine wpAny_bind (wpAny_seqItems C rfl ?_);refine wpAny_bind (wpAny_updateSeq_pair C λf g l=>?_)
 replace g:IsPair f TO x y:=g
 refine wpAny_bind (wpAny_letGo (wpAny_pure (wpAny_pure ?_)));refine wpAny_bind (wpAny_seqItems g rfl ?_);refine wpAny_bind (wpAny_newTuple ?_);have hsz:f.objs.size=s.heap.objs.size:=by rw[l.1,m.1,h.1,i.1,j.1]
 have a0:IsZip f z TI TO .ellipsis:=l.extBut _ _ D.TOz.symm (m.extBut _ _ D.i2z.symm (h.extBut _ _ D.TOz.symm (i.extBut _ _ D.i1z.symm J)))
 have a5:∀c o,c≠z->c≠TO->c≠Y->c≠r->s.heap.get? c=some o->f.get? c=some o:=λc o U c2 c3 c4 e=>
  l.extBut _ _ c2 (m.extBut _ _ c4 (h.extBut _ _ c2 (i.extBut _ _ c3 (j.extBut _ _ U e))))
 have aa:P1 f (k1+1):=Z.ext (Z.ext (Z.ext ab h.extBut D.TOi1.symm D.l1TO) m.extBut D.i12 D.l1i2) l.extBut D.TOi1.symm D.l1TO;have a8:f.IsTupleIter r l2 (k2+1):=a9.extBut l.extBut D.TOi2.symm;have u:z<f.objs.size:=Heap.lt_size a0;show wpAny _ _ (Builtin.SmallTypes.ownedTupleHandOut (.ref z) (.ref f.objs.size) >>= _) _ _ _;refine wpAny_bind ?_;unfold Builtin.SmallTypes.ownedTupleHandOut;have a3:IsZip (f.push {cls:=.type "tuple",data:=.seq #[x,y]}) z TI TO .ellipsis:=zPO _ a0;refine wpAny_bind (wpAny_setField_rec a3 (by simp) λh₇ I O=>?_)
 replace I:IsZip h₇ z TI TO (rawInt f.objs.size):=I
 refine wpAny_setField_rec I (by simp) λh₈ p M=>?_
 replace p:IsZip h₈ z TI TO (rawInt f.objs.size):=p
 have up:∀c o,c≠z->f.get? c=some o->h₈.get? c=some o:=λc o U e=>M.extBut _ _ U (O.extBut _ _ U (zPO _ e));have a2:IsPair h₈ f.objs.size x y:=M.extBut _ _ (Nat.ne_of_gt u) (O.extBut _ _ (Nat.ne_of_gt u) (Heap.get?_push_size _ rfl));have a1:h₈.objs.size=f.objs.size+1:=by rw[M.1,O.1,Heap.size_push]
 rw[hsz]at p a2 a1;refine wpAny_pure ⟨_,rfl,?_⟩;show Q (.ref f.objs.size) _;rw[hsz];exact hQ h₈ p (up _ _ D.TOz g) (Z.kept aa (λo e=>up _ o D.i1z e) λo e=>up _ o D.l1z e) (a8.at λo e=>up _ o D.i2z e) a2 a1 λc o U c2 c3 c4 e=>up c o U (a5 c o U c2 c3 c4 e)
theorem xv6{a:Addr}{o:Obj}{Q:Option Obj->Shared->Prop}(b:s.heap.get? a=some o)(h:Q (some o) s):wpAny (model prog w) A (loadIfAlive a) Q E s:=by
 intro Γ p c;unfold loadIfAlive
 first
  |(rw[Sem.wp_loadIfAlive,b];exact h)
  |(simp only[Sem.wp_loadIfAlive,b];exact h)
theorem xv2 {P1:Heap->Nat->Prop} {z TI TO i Z Y U:Addr} {k:Nat} {xs ys:Array Value} {Q:Fin->Shared->Prop} (J:A.handled=none) (D:ZipApart z TI TO i Z Y U) (G:Nx prog w i Y xs P1) (S:Zg P1 s.heap z TI TO i Z U ys k) (I:xs[k]?=none)
  (hE:∀h' e,(∀c o,c≠z->c≠i->s.heap.get? c=some o->h'.get? c=some o)->(∃o,h'.get? e=some o/\o.cls=.type "StopIteration")->E (.ref e) {s with heap:=h'}) :
  wpAny (model prog w) A (Builtin.«zip.__next__» ⟨[.ref z],[]⟩) Q E s:=by
 obtain⟨hz,u,⟨a,b,a2⟩,O,h2,a0⟩:=S;rcases hz with hz |⟨T,bb,oT,hz,hT,a1⟩
 ·show wpAny _ _ (field (.ref z) 2 >>= _) _ _ _
  refine wpAny_bind (wpAny_field hz rfl (x:=.bool false) rfl ?_);show wpAny _ _ (field (.ref z) 3 >>= _) _ _ _;refine wpAny_bind (wpAny_field hz rfl (x:=.ref TI) rfl ?_);refine wpAny_bind (wpAny_seqItems u rfl ?_);show wpAny _ _ (Builtin.SmallTypes.ownedTupleIsFree (.ref z) >>= _) _ _ _;refine wpAny_bind ?_;unfold Builtin.SmallTypes.ownedTupleIsFree;refine wpAny_bind (wpAny_field hz rfl (x:=.none) rfl (wpAny_pure ?_));simp only[if_true];refine wpAny_bind (wpAny_rule ?_);refine wpAny_bind (wpAny_field hz rfl (x:=.ref TO) rfl ?_);refine wpAny_bind (wpAny_setField_rec hz (by simp) λh₁ h g=>?_)
  replace h:IsZip h₁ z TI TO .ellipsis:=h
  refine wpAny_bind ?_;simp only[List.zipIdx_cons,List.zipIdx_nil,List.forIn_cons,List.forIn_nil];refine wpAny_bind (wpAny_bind (wpAny_onRaise ?_));show wpAny _ _ (Builtin.SmallTypes.nextOf (.ref i) >>= _) _ _ _;refine wpAny_bind (G.last J (G.ext O g.extBut D.i1z D.l1z) I λl e f p=>?_);obtain⟨oe,j,r⟩:=p;have m:IsZip l z TI TO .ellipsis:=f _ _ D.i1z.symm h;have M:e≠z:=λx=>by subst x;rw[m]at j;cases j;simp at r
  refine wpAny_setField_rec m (by simp) λh₃ _ n=>hE h₃ e (λc o C y x=>n.extBut _ _ C (f _ _ y (g.extBut _ _ C x))) ⟨oe,n.extBut _ _ M j,r⟩
 ·show wpAny _ _ (field (.ref z) 2 >>= _) _ _ _
  refine wpAny_bind (wpAny_field hz rfl (x:=.bool false) rfl ?_);show wpAny _ _ (field (.ref z) 3 >>= _) _ _ _;refine wpAny_bind (wpAny_field hz rfl (x:=.ref TI) rfl ?_);refine wpAny_bind (wpAny_seqItems u rfl ?_);show wpAny _ _ (Builtin.SmallTypes.ownedTupleIsFree (.ref z) >>= _) _ _ _;refine wpAny_bind ?_;unfold Builtin.SmallTypes.ownedTupleIsFree;refine wpAny_bind (wpAny_field hz rfl (x:=rawInt T) rfl ?_);show wpAny _ _ (loadIfAlive ((T:Int).toNat) >>= _) _ _ _;rw[Int.toNat_natCast];refine wpAny_bind (xv6 hT ?_);simp only[Option.isNone_some,Bool.false_eq_true,if_false];refine wpAny_bind (wpAny_field hz rfl (x:=.bool bb) rfl ?_)
  cases bb with
  |true=>
   simp only[bne_self_eq_false,Bool.false_eq_true,if_false];refine wpAny_pure ?_;simp only[Bool.false_eq_true,if_false,List.forIn_toArray,List.forIn_cons,List.forIn_nil];refine wpAny_bind (wpAny_bind (wpAny_bind (wpAny_holding ?_)));show wpAny _ _ (Builtin.SmallTypes.nextOf (.ref i) >>= _) _ _ _;exact wpAny_bind (G.last J O I λl e f p=>hE l e (λc o C y x=>f _ _ y x) p)
  |false=>
   rw[if_pos (by rfl)];refine wpAny_bind (wpAny_setField_rec hz (by simp) λh₁ h g=>?_);refine wpAny_pure ?_;simp only[Bool.false_eq_true,if_false,List.forIn_toArray,List.forIn_cons,List.forIn_nil];refine wpAny_bind (wpAny_bind (wpAny_bind (wpAny_holding ?_)));show wpAny _ _ (Builtin.SmallTypes.nextOf (.ref i) >>= _) _ _ _;exact wpAny_bind (G.last J (G.ext O g.extBut D.i1z D.l1z) I λl e f p=>hE l e (λc o C y x=>f _ _ y (g.extBut _ _ C x)) p)
theorem gEnd {j:Heap->Nat->Prop} {z TI TO a h g f:Addr} {k:Nat} {xs ys:Array Value} {Q:Option Value->Shared->Prop} (p:A.handled=none) (D:ZipApart z TI TO a h g f) (y:Nx prog w a g xs j) (S:Zg j s.heap z TI TO a h f ys k) (l:xs[k]?=none)
  (x:∀h',(∀c o,c≠z->c≠a->s.heap.get? c=some o->h'.get? c=some o)->Q none {s with heap:=h'}):wpAny (model prog w) A (pyNext (.ref z)) Q E s:=by
 have i:s.TypeIs (.ref z) "zip":=by
  rcases S.zip with hz |⟨T,G,C,hz,_⟩ <;> exact⟨_,hz,rfl⟩
 unfold pyNext
 refine wpAny_bind (wpAny_attempt (wpAny_callSpecial?_slot (name:=Str.ofString "__next__") i F.slot_zip_next
  (wpAny_call_entry F.slot_zip_next i F.entry_zip_next (xv2 p D y S l λh' e n r=>?_) (F.args_zip_next_1 _))))
 obtain⟨o,m,u⟩:=r;refine wpAny_bind (wpAny_isInstance (T:="StopIteration") (b:=true) ⟨o,m,u⟩ isSubtype_stop ?_);exact wpAny_pure (x _ n)
theorem nxT{it l:Addr}{xs:Array Value}(f:l≠it):Nx prog w it l xs λh k=>h.IsTupleIter it l k/\h.IsTuple l xs where
 item:=λp c i=>next_item p.1 p.2 c λh' a s=>i h' ⟨a,p.2.extBut s.extBut f⟩ s
 last:=λg p c hE=>next_end g p.1 p.2 c hE
 kept:=λp a b=>⟨p.1.at a,p.2.at b⟩
 there:=λp=>by obtain⟨o,e,_⟩:=p.1;exact⟨o,e⟩
theorem item_first {z TI TO f e h g:Addr} {j i:Nat} {xs ys:Array Value} {x y a b:Value} {Q:Value->Shared->Prop} (D:ZipApart z TI TO f e h g)
  (hz:IsZip s.heap z TI TO .none) (p:IsPair s.heap TI (.ref f) (.ref e)) (n:IsPair s.heap TO a b)
  (J:s.heap.IsTupleIter f h j) (I:s.heap.IsTupleIter e g i) (m:s.heap.IsTuple h xs) (l:s.heap.IsTuple g ys) (C:xs[j]?=some x) (u:ys[i]?=some y)
  (G:∀h',IsZip h' z TI TO (rawInt s.heap.objs.size)->IsPair h' TO x y->h'.IsTupleIter f h (j+1)->h'.IsTupleIter e g (i+1)->IsPair h' s.heap.objs.size x y->h'.objs.size=s.heap.objs.size+1->
   (∀c o,c≠z->c≠TO->c≠f->c≠e->s.heap.get? c=some o->h'.get? c=some o)->Q (.ref s.heap.objs.size) {s with heap:=h'}) :
  wpAny (model prog w) A (Builtin.«zip.__next__» ⟨[.ref z],[]⟩) (λfin r=>∃v,fin=.done (.ret v)/\Q v r) E s:=xus D hz p n (nxT D.l1i1) ⟨J,m⟩ I l C u λh' b1 b2 Z Y U O M=>G h' b1 b2 Z.1 Y U O M
theorem pyNext_end {z TI TO a f e b:Addr} {k:Nat} {xs ys:Array Value} {Q:Option Value->Shared->Prop} (h:A.handled=none) (D:ZipApart z TI TO a f e b) (S:Zs s.heap z TI TO a f e b xs ys k) (g:xs[k]?=none)
  (i:∀h',(∀c o,c≠z->c≠a->s.heap.get? c=some o->h'.get? c=some o)->Q none {s with heap:=h'}):wpAny (model prog w) A (pyNext (.ref z)) Q E s:=gEnd h D (nxT D.l1i1) ⟨S.zip,S.ti,S.to,⟨S.it1,S.t1⟩,S.it2,S.t2⟩ g i
end
abbrev zH1(h:Heap)(l1:Addr):Heap:=h.push {cls:=.type "tuple_iterator",data:=.fields #[.ref l1,.int 0 0]}
abbrev zH2(h:Heap)(l1 l2:Addr):Heap:=(zH1 h l1).push {cls:=.type "tuple_iterator",data:=.fields #[.ref l2,.int 0 0]}
abbrev zH3(h:Heap)(l1 l2:Addr):Heap:=(zH2 h l1 l2).push {cls:=.type "tuple",data:=.seq #[.ref h.objs.size,.ref (zH1 h l1).objs.size]}
abbrev zH4(h:Heap)(l1 l2:Addr):Heap:=(zH3 h l1 l2).push {cls:=.type "tuple",data:=.seq #[.none,.none]}
abbrev zH5(h:Heap)(l1 l2:Addr):Heap:=(zH4 h l1 l2).push {cls:=.type "zip",data:=.fields #[.none,.bool false,.bool false,.ref (zH2 h l1 l2).objs.size,.ref (zH3 h l1 l2).objs.size]}
theorem meets_new (a b:Addr) (xs ys:Array Value) :
  Meets (Builtin.«zip.__new__» ⟨[.type "zip",.ref a,.ref b],[]⟩) (λ_ R s=>s.heap.IsTuple a xs/\s.heap.IsTuple b ys ∧
   R (.ok (.ret (.ref (zH4 s.heap a b).objs.size))) {s with heap:=zH5 s.heap a b}):=
 .of_wp λprog w A R s h=>by
  obtain⟨n,g,d,j,l⟩:=s;obtain⟨e,c,h⟩:=h;have m:=sub_zip;have i:Heap.IsTuple (Shared.heap ⟨n,g,d,j,l⟩) a xs:=e;have f:Heap.IsTuple (Shared.heap ⟨n.push {cls:=.type "tuple_iterator",data:=.fields #[.ref a,.int 0 0]},g,d,j,l⟩) b ys:=Heap.IsTuple.push c _
  wp_walk using wpAny_pyIter_tuple i,wpAny_pyIter_tuple f
  exact⟨_,rfl,h⟩
end Zt
end
section
namespace L2
open PySem PySem.Spec PyProof.Rows
abbrev TJ:=St->Hp->Str->VK->Prop
def PJ(X:Cx)(es:List Expr)(t:TJ):Prop:=
 ∀(pins:List (Addr×Obj)) (s:Shared) (σ:St) (H:Hp) (out:Str) (Q:VK),Inv X pins σ H s->t σ H out Q->wpAny (model X.prog X.w) X.A (joinParts out (evalEach es X.env)) (EP X pins σ Q) X.xe s
def jNil:TJ:=λ_ H out Q=>out.length<=sizeLine/\Q (.str out) H
def jLit(x:Str)(t:TJ):TJ:=λσ H out Q=>(out++x).length<=sizeLine/\t σ H (out++x) Q
def jStr(te:TE)(t:TJ):TJ:=λσ H out Q=>te σ H λv H1=>∃x,v=.str x/\x.length<=sizeLine/\(out++x).length<=sizeLine/\t σ H1 (out++x) Q
section
variable {X:Cx}{e e1 e2:Expr}{es:List Expr}{te:TE}{t:TJ}{pos:Pos}
theorem xkz:PJ X [] jNil:=λ_ _ _ H out _ I h=>joinParts_nilE (joinParts_nil ⟨.str out,H,I.tok _,⟨_,rfl⟩,h.2⟩ h.1)
theorem xk0{x:Str}{j}(h:PJ X es t):PJ X (.Constant (.str x) j pos::es) (jLit x t):=by
 intro a s σ H out Q I b;refine joinParts_consE (joinParts_cons (thn (pS (X:=X) a s σ H (λv i=>v=.str x/\i=H) I ⟨rfl,rfl⟩) λv c ⟨z,l,g,r,f,e⟩=>?_));subst f e;obtain⟨t',rfl⟩:=r;exact⟨b.1,h a c σ _ _ Q g b.2⟩
theorem xky(j:PE X e c)(h:PJ X es t):PJ X (.FormattedValue e (-1) none pos::es) (jStr c t):=by
 intro a s σ H out Q I g;refine joinParts_consE (joinParts_cons (FormattedValue_plain (thn (j a s σ H _ I g) λv n ⟨z,m,l,r,x,e,hz,i,q⟩=>?_)));subst e;obtain⟨t',rfl⟩:=r;exact formatField_str (λf b=>⟨i,h a _ σ m _ Q (l.tok b) q⟩) hz
theorem xg8(h:PJ X (e::c::es) t):PE X (.JoinedStr (e::c::es) pos) (λσ H Q=>t σ H Str.empty Q):=λa s σ H Q I b=>JoinedStr_many (h a s σ H _ Q I b)
end
section
variable {es:List Expr}{env:Env}
theorem so{c k p}:starEach (.Constant c k p::es) env=(false,eval (.Constant c k p) env)::starEach es env:=rfl
theorem zsn{x p}:starEach (.Name x p::es) env=(false,eval (.Name x p) env)::starEach es env:=rfl
theorem zsc{a b c d}:starEach (.Call a b c d::es) env=(false,eval (.Call a b c d) env)::starEach es env:=rfl
theorem xa5{a b c d}:starEach (.BinOp a b c d::es) env=(false,eval (.BinOp a b c d) env)::starEach es env:=rfl
theorem ss{a b c}:starEach (.Subscript a b c::es) env=(false,eval (.Subscript a b c) env)::starEach es env:=rfl
theorem sT{a b c}:starEach (.Tuple a b c::es) env=(false,eval (.Tuple a b c) env)::starEach es env:=rfl
theorem xo2{a b c d}:starEach (.Compare a b c d::es) env=(false,eval (.Compare a b c d) env)::starEach es env:=rfl
theorem xmy{a b c}:starEach (.BoolOp a b c::es) env=(false,eval (.BoolOp a b c) env)::starEach es env:=rfl
theorem xem{a b}:starEach (.JoinedStr a b::es) env=(false,eval (.JoinedStr a b) env)::starEach es env:=rfl
theorem xbp{a b c d}:starEach (.ListComp a b c d::es) env=(false,eval (.ListComp a b c d) env)::starEach es env:=rfl
end
end L2
end
section
namespace M
open PySem
inductive D where
 |int (i:Int)
 |str (x:Str)
 |tup (ds:List D)
inductive All2{α β:Type}(R:α->β->Prop):List α->List β->Prop where
 |nil:All2 R [] []
 |cons {a b as bs} (h:R a b) (t:All2 R as bs):All2 R (a::as) (b::bs)
theorem All2.length{α β:Type}{R:α->β->Prop}{as:List α}{bs:List β}(h:All2 R as bs):as.length=bs.length:=by
 induction h with
 |nil=>rfl
 |cons _ _ a=>simp[a]
theorem All2.imp{α β:Type}{R S:α->β->Prop}{as:List α}{bs:List β}(h:All2 R as bs)(f:∀a b,R a b->S a b):All2 S as bs:=by
 induction h with
 |nil=>exact .nil
 |cons h _ c=>exact .cons (f _ _ h) c
theorem All2.get{α β:Type}{R:α->β->Prop}{as:List α}{bs:List β}(h:All2 R as bs):∀{i:Nat} {a:α},as[i]?=some a->∃b,bs[i]?=some b/\R a b:=by
 induction h with
 |nil=>intro i a e;simp at e
 |cons h _ c=>
  intro i a e
  cases i with
  |zero=>simp at e;subst e;exact⟨_,by simp,h⟩
  |succ i=>simpa using c (i:=i) (a:=a) (by simpa using e)
def S(s:String):Str:=Str.ofString s
def xdm(c:Nat):Bool:=97<=c && c<=122
def xl6(x:List Nat):Bool:=1<=x.length && x.length<=6 && x.all xdm && x != [110,117,109] && x != [105,116]
def Name(x:Str):Prop:=xl6 x.cps.toList=true
theorem Name.letters{x:Str}(h:Name x):∀c∈x.cps.toList,xdm c=true:=by
 unfold Name xl6 at h;simp only[Bool.and_eq_true,List.all_eq_true]at h;exact h.1.1.2
theorem Name.le{x:Str}(h:Name x):x.cps.toList.length<=6:=by
 unfold Name xl6 at h;simp only[Bool.and_eq_true,decide_eq_true_eq]at h;exact h.1.1.1.2
def L(x:Str):List Nat:=x.cps.toList
def ofL(l:List Nat):Str:=⟨l.toArray⟩
theorem xdx(l:List Nat):L (ofL l)=l:=rfl
theorem xub(x:Str):ofL (L x)=x:=by
 cases x;rfl
theorem xox{x y:Str}(h:L x=L y):x=y:=by
 rw[<- xub x,<- xub y,h]
theorem xd6(x y:Str):L (x++y)=L x++L y:=by
 show(x.cps++y.cps).toList=_;simp[L]
theorem xew(x:Str):(L x).length=x.length:=by
 simp[L,Str.length]
end M
end
section
namespace M
open PySem L2
mutual
def RelD(H:Hp):V->D->Prop
 |v,.int i=>v=.int i
 |v,.str x=>v=.str x
 |v,.tup ds=>∃a vs,v=.ref a/\H a=some (.tup vs)/\RelDs H vs ds
def RelDs(H:Hp):List V->List D->Prop
 |vs,[]=>vs=[]
 |vs,d::ds=>∃v r,vs=v::r/\RelD H v d/\RelDs H r ds
end
mutual
theorem RelD.same{H H':Hp}(s:Same H H'):∀{v:V} (d:D),RelD H v d->RelD H' v d
 |v,.int i,h=>h
 |v,.str x,h=>h
 |v,.tup ds,⟨a,vs,e,ha,h⟩=>⟨a,vs,e,s _ _ ha,RelDs.same s ds h⟩
theorem RelDs.same{H H':Hp}(s:Same H H'):∀{vs:List V} (ds:List D),RelDs H vs ds->RelDs H' vs ds
 |vs,[],h=>h
 |vs,d::ds,⟨v,r,e,h1,h2⟩=>⟨v,r,e,RelD.same s d h1,RelDs.same s ds h2⟩
end
theorem RelDs.length{H:Hp}:∀{vs:List V} {ds:List D},RelDs H vs ds->vs.length=ds.length
 |vs,[],h=>by rw[show vs=[] from h];rfl
 |vs,d::ds,⟨v,r,e,_,a⟩=>by rw[e,List.length_cons,List.length_cons,RelDs.length a]
theorem RelDs.append{H:Hp}:∀{vs us:List V} {ds es:List D},RelDs H vs ds->RelDs H us es->RelDs H (vs++us) (ds++es)
 |vs,us,[],es,h,k=>by rw[show vs=[] from h];exact k
 |vs,us,d::ds,es,⟨v,r,e,b,a⟩,k=>by subst e;exact⟨v,r++us,rfl,b,RelDs.append a k⟩
theorem RelDs.get{H:Hp}:∀{vs:List V} {ds:List D} {i:Nat} {v:V},RelDs H vs ds->vs[i]?=some v->∃d,ds[i]?=some d/\RelD H v d
 |vs,[],i,v,h,e=>by rw[show vs=[] from h]at e;simp at e
 |vs,d::ds,0,v,⟨u,r,a,g,_⟩,e=>by
  subst a;simp at e;subst e;exact⟨d,rfl,g⟩
 |vs,d::ds,i+1,v,⟨u,r,a,_,f⟩,e=>by
  subst a;obtain⟨x,b,c⟩:=RelDs.get (i:=i) (v:=v) f (by simpa using e);exact⟨x,by simpa using b,c⟩
theorem iteKF{c A B:Prop}[Decidable c](h:decide c=false)(b:B):if decide c=true then A else B:=by
 rw[h];exact b
theorem iteKT{c A B:Prop}[Decidable c](h:decide c=true)(a:A):if decide c=true then A else B:=by
 rw[h];exact a
theorem xhj{c:Bool}{A B:Prop}(h:c=false)(b:B):if c=true then A else B:=by
 rw[h];exact b
mutual
theorem RelD.tups{H H':Hp}(s:∀b vs,H b=some (.tup vs)->H' b=some (.tup vs)):∀{v:V} (d:D),RelD H v d->RelD H' v d
 |v,.int i,h=>h
 |v,.str x,h=>h
 |v,.tup ds,⟨a,vs,e,ha,h⟩=>⟨a,vs,e,s _ _ ha,RelDs.tups s ds h⟩
theorem RelDs.tups{H H':Hp}(s:∀b vs,H b=some (.tup vs)->H' b=some (.tup vs)):∀{vs:List V} (ds:List D),RelDs H vs ds->RelDs H' vs ds
 |vs,[],h=>h
 |vs,d::ds,⟨v,r,e,h1,h2⟩=>⟨v,r,e,RelD.tups s d h1,RelDs.tups s ds h2⟩
end
theorem xaj{a:Addr}{H c:Hp}(g:∃p q:Int,H a=some (.lst [.int p,.int q]))(f:Fed a H c):∀b vs,H b=some (.tup vs)->c b=some (.tup vs):=λb vs e=>f.1 b _ e λz=>by
 obtain⟨p,q,h⟩:=g;rw[z,h]at e;cases e
def xc5(c:Nat):Str:=⟨#[c]⟩
theorem xis:∀cs:List Nat,Txt.join (S "") (cs.map xc5)=ofL cs:=by
 have h:∀cs:List Nat,L (Str.join (S "") (cs.map xc5))=cs:=by
  intro cs
  induction cs with
  |nil=>rfl
  | cons c r a=>
   cases r with
   |nil=>rfl
   |cons d r=>
    show L (xc5 c++S ""++Str.join (S "") ((d::r).map xc5))=_;rw[xd6,xd6,a];have e:L (S "")=[]:=by walk_at"k"
    rw[e];rfl
 intro cs;apply xox;show L (Builtin.Str.glued (S "") (cs.map xc5))=cs;rw[StrLaws.glued_eq_join,h]
theorem xi9(cs:List Nat):((cs.map xc5).map (·.length)).sum=cs.length:=by
 induction cs with
 |nil=>rfl
 |cons c r a=>
  show(xc5 c).length+((r.map xc5).map (·.length)).sum=r.length+1;rw[a,show(xc5 c).length=1 from rfl];omega
theorem xlk{α:Type}{cs:List α}{r:Int}(h0:0<=r)(h:r<(cs.length:Int)):∃c∈cs,atI cs r=some c:=by
 have a:r.toNat<cs.length:=by omega
 have b:r=((r.toNat:Nat):Int):=by omega
 refine⟨cs[r.toNat],List.getElem_mem a,?_⟩;have q:atI cs ((r.toNat:Nat):Int)=some cs[r.toNat]:=xak (zGA a);rw[<- b]at q;exact q
end M
end
section
namespace L2
open PySem PySem.Spec PyProof.Rows
section
variable {κ:Type}[DecidableEq κ]
def valV(kvs:List (κ×V))(k:κ):Option V:=(kvs.find? λkv=>decide (kv.1=k)).map (·.2)
def putK(kvs:List (κ×V))(k:κ)(v:V):List (κ×V):=
 if (kvs.any λkv=>decide (kv.1=k))=true then kvs.map (λkv=>if kv.1=k then (kv.1,v) else kv) else kvs++[(k,v)]
theorem xb5{p:κ×V}{r:List (κ×V)}{k:κ}(e:p.1=k):valV (p::r) k=some p.2:=by simp[valV,List.find?_cons,e]
theorem xb1{p:κ×V}{r:List (κ×V)}{k:κ}(e:¬p.1=k):valV (p::r) k=valV r k:=by simp[valV,List.find?_cons,e]
theorem xej(k:κ):∀kvs:List (κ×V),(kvs.any λa=>decide (a.1=k))=(valV kvs k).isSome
 |[]=>rfl
 |p::r=>by
  rw[List.any_cons];by_cases e:p.1=k
  ·simp only[xb5 e,zDT e,Bool.true_or,Option.isSome_some]
  ·rw[xb1 e,zDF e,Bool.false_or];exact xej k r
theorem xkm(k j:κ)(y:V):∀kvs:List (κ×V),valV (kvs.map λa=>if a.1=k then (a.1,y) else a) j=(valV kvs j).map λx=>if j=k then y else x
 |[]=>rfl
 | p::r=>by
  have b:=xkm k j y r;rw[List.map_cons];by_cases h:p.1=k
  ·rw[if_pos h]
   by_cases e:p.1=j
   ·rw[xb5 (p:=(p.1,y)) e,xb5 e,Option.map_some,if_pos (e.symm.trans h)]
   ·rw[xb1 (p:=(p.1,y)) e,xb1 e,b]
  ·rw[if_neg h]
   by_cases e:p.1=j
   ·rw[xb5 (p:=p) e,xb5 e,Option.map_some,if_neg (λz=>h (e.trans z))]
   ·rw[xb1 (p:=p) e,xb1 e,b]
theorem xhn(k j:κ)(y:V):∀kvs:List (κ×V),valV kvs k=none->valV (kvs++[(k,y)]) j=if j=k then some y else valV kvs j
 |[],_=>by
  by_cases e:k=j
  ·rw[if_pos e.symm];exact xb5 (p:=(k,y)) e
  ·rw[if_neg (λz=>e z.symm)];exact xb1 (p:=(k,y)) e
 |p::r,hn=>by
  rw[List.cons_append];have a:¬p.1=k:=λz=>by rw[xb5 z]at hn;cases hn
  rw[xb1 a]at hn;have b:=xhn k j y r hn;by_cases e:p.1=j
  ·rw[xb5 e,xb5 e,if_neg (λz=>a (e.trans z))]
  ·rw[xb1 e,xb1 e,b]
theorem xei(kvs:List (κ×V))(k j:κ)(y:V):valV (putK kvs k y) j=if j=k then some y else valV kvs j:=by
 unfold putK;by_cases a:(kvs.any λb=>decide (b.1=k))=true
 ·rw[if_pos a,xkm]
  rw[xej]at a;by_cases e:j=k
  ·obtain⟨x,c⟩:=Option.isSome_iff_exists.mp a
   rw[if_pos e,e,c,Option.map_some,if_pos rfl]
  ·rw[if_neg e]
   cases valV kvs j with
   |none=>rfl
   |some x=>rw[Option.map_some,if_neg e]
 ·rw[if_neg a]
  refine xhn k j y kvs ?_;rw[xej]at a
  cases q:valV kvs k with
  |none=>rfl
  |some x=>rw[q]at a;exact(a rfl).elim
theorem xdl(kvs:List (κ×V))(k:κ)(v:V):(putK kvs k v).length<=kvs.length+1:=by
 unfold putK;split
 ·rw[zLM];omega
 ·rw[zLA,List.length_cons,List.length_nil];omega
theorem xpa{kvs:List (κ×V)}{k:κ}(v:V)(h:valV kvs k=none):putK kvs k v=kvs++[(k,v)]:=by
 unfold putK;rw[xej,h];exact if_neg (by decide)
theorem RelO.isSome_eq{o:Option V}{u:Option Value}(r:RelO o u):o.isSome=u.isSome:=by
 cases o with
 |none=>cases u with
  |none=>rfl
  |some _=>exact(show False from r).elim
 |some _=>cases u with
  |none=>exact(show False from r).elim
  |some _=>rfl
theorem KV.val{kvs:List (κ×V)}{vs:List (κ×Value)}(r:KV kvs vs)(k:κ):RelO (valV kvs k) (valueAt vs k):=by
 unfold KV at r
 induction r with
 |nil=>exact True.intro
 | @cons p q ps qs h t ih=>
  obtain⟨h1,h2⟩:=h;by_cases e:p.1=k
  ·have e':q.1=k:=h1.symm.trans e
   have b:valueAt (q::qs) k=some q.2:=by simp[valueAt,List.find?_cons,e']
   rw[xb5 e,b];exact h2
  ·have e':¬q.1=k:=λz=>e (h1.trans z)
   have b:valueAt (q::qs) k=valueAt qs k:=by simp[valueAt,List.find?_cons,e']
   rw[xb1 e,b];exact ih
theorem KV.any{kvs:List (κ×V)}{vs:List (κ×Value)}(r:KV kvs vs)(k:κ):(kvs.any λa=>decide (a.1=k))=vs.any λa=>decide (a.1=k):=by
 unfold KV at r
 induction r with
 |nil=>rfl
 |cons h t b=>rw[List.any_cons,List.any_cons,b,h.1]
theorem KV.repl {kvs:List (κ×V)} {vs:List (κ×Value)} (r:KV kvs vs) (k:κ) {y:V} {u:Value} (c:RelV y u) :
  KV (kvs.map λa=>if a.1=k then (a.1,y) else a) (vs.map λa=>if a.1=k then (a.1,u) else a):=by
 unfold KV at r⊢
 induction r with
 |nil=>exact .nil
 |@cons p q ps i h t f=>
  rw[List.map_cons,List.map_cons];refine .cons ?_ f;obtain⟨b,g⟩:=h;by_cases e:p.1=k
  ·rw[if_pos e,if_pos (b.symm.trans e)];exact⟨b,c⟩
  ·rw[if_neg e,if_neg (λz=>e (b.trans z))];exact⟨b,g⟩
theorem KV.put{kvs:List (κ×V)}{vs:List (κ×Value)}(r:KV kvs vs)(k:κ){y:V}{u:Value}(a:RelV y u):KV (putK kvs k y) (stored vs k u):=by
 unfold putK stored;rw[r.any k];by_cases e:(vs.any λb=>decide (b.1=k))=true
 ·rw[if_pos e,if_pos e];exact r.repl k a
 ·rw[if_neg e,if_neg e];exact Paired.snoc r ⟨rfl,a⟩
theorem KV.length{kvs:List (κ×V)}{vs:List (κ×Value)}(r:KV kvs vs):kvs.length=vs.length:=Paired.length r
end
theorem xj4{P:Program}{w:World}{k:Key}{u:Value}(r:RelV (kV k) u):(xby P w).is k u=true:=by
 cases k with
 |inl i=>obtain⟨t,e⟩:=(show ∃t,u=Value.int i t from r);subst e;exact xj2 P w i t
 |inr x=>obtain⟨t,e⟩:=(show ∃t,u=Value.str x t from r);subst e;exact xj1 P w x t
theorem xit{P:Program}{w:World}:∀{ks:List Key} {us:List Value},Vals (ks.map kV) us->ItemsAre (xby P w) ks us
 |[],_,r=>by rw[List.map_nil]at r;cases r;exact .nil
 |k::ks,_,r=>by
  rw[List.map_cons]at r
  cases r with
  |cons h t=>exact .cons (xj4 h) (xit t)
abbrev KT(H:Hp):List (List Key×V)->List (List Key×Addr×Value)->Prop:=Paired λp q=>p.1=q.1/\H q.2.1=some (.tup (p.1.map kV))/\RelV p.2 q.2.2
theorem KT.val{H:Hp}{kvs:List (List Key×V)}{xs:List (List Key×Addr×Value)}(r:KT H kvs xs)(k:List Key):RelO (valV kvs k) ((atKey xs k).map (·.2)):=by
 induction r with
 |nil=>exact True.intro
 | @cons p q ps a h t g=>
  obtain⟨f,_,i⟩:=h;by_cases e:p.1=k
  ·have c:q.1=k:=f.symm.trans e
   have b:atKey (q::a) k=some q.2:=by simp[atKey,List.find?_cons,c]
   rw[xb5 e,b];exact i
  ·have c:¬q.1=k:=λz=>e (f.trans z)
   have b:atKey (q::a) k=atKey a k:=by simp[atKey,List.find?_cons,c]
   rw[xb1 e,b];exact g
theorem KT.repl {H:Hp} {kvs:List (List Key×V)} {xs:List (List Key×Addr×Value)} (r:KT H kvs xs) (k:List Key) {y:V} {u:Value} (f:RelV y u) :
  KT H (kvs.map λb=>if b.1=k then (b.1,y) else b) (xs.map (putAt k u)):=by
 induction r with
 |nil=>exact .nil
 |@cons p q ps j h t g=>
  rw[List.map_cons,List.map_cons];refine .cons ?_ g;obtain⟨a,c,i⟩:=h;unfold putAt;by_cases e:p.1=k
  ·rw[if_pos e,if_pos (a.symm.trans e)];exact⟨a,c,f⟩
  ·rw[if_neg e,if_neg (λz=>e (a.trans z))];exact⟨a,c,i⟩
theorem KT.put {H:Hp} {kvs:List (List Key×V)} {xs:List (List Key×Addr×Value)} (r:KT H kvs xs) (k:List Key) {b:Addr} {y:V} {u:Value} (f:H b=some (.tup (k.map kV))) (a:RelV y u) :
  KT H (putK kvs k y) (storedH xs k b u):=by
 have e:(kvs.any λc=>decide (c.1=k))=(atKey xs k).isSome:=by
  rw[xej,(r.val k).isSome_eq,Option.isSome_map]
 unfold putK storedH;rw[e];by_cases q:(atKey xs k).isSome=true
 ·rw[if_pos q,if_pos q];exact r.repl k a
 ·rw[if_neg q,if_neg q];exact Paired.snoc r ⟨rfl,f,a⟩
theorem KT.keeps{H a:Hp}{kvs:List (List Key×V)}{xs:List (List Key×Addr×Value)}(r:KT H kvs xs)(c:∀b ys,H b=some (.tup ys)->a b=some (.tup ys)):KT a kvs xs:=
 Paired.mapP r λ_ _ z=>⟨z.1,c _ _ z.2.1,z.2.2⟩
section
variable {P:Program}{w:World}{H:Hp}{h:Heap}{a:Addr}
theorem xtv{u:HO}(ok:HOk P w H h)(e:Rd H a u):ObjOk P w H h a u:=e.ok ok
theorem xmb{kvs:List (Key×V)}(ok:HOk P w H h)(e:Rd H a (.dK kvs)):kvs.length<=sizeLine/\(a == sysModules)=false/\∃vs,KV kvs vs/\h.DictOf (xby P w) a vs:=
 show ObjOk P w H h a (.dK kvs) from xtv ok e
theorem xsq{kvs:List (Key×V)}(ok:HOk P w H h)(e:H a=some (.dK kvs)):kvs.length<=sizeLine/\(a == sysModules)=false/\∃vs,KV kvs vs/\h.DictOf (xby P w) a vs:=xmb ok (.inl e)
theorem xir{ks:List Key}(ok:HOk P w H h)(e:H a=some (.tup (ks.map kV))):(tupleKind (xby P w)).is h ks a:=by
 obtain⟨_,its,r,o,h1,h2,n,h3,_⟩:=(show ObjOk P w H h a (.tup (ks.map kV)) from ok a _ e);exact⟨o,its.toArray,n,h1,h2,h3,by simpa using xit r⟩
theorem xon {kvs:List (List Key×V)} (ok:HOk P w H h) (e:Rd H a (.dT kvs)):kvs.length<=sizeLine/\(a == sysModules)=false ∧
  ∃xs,KT H kvs xs/\h.DictOfH (tupleKind (xby P w)) a xs:=by
 obtain⟨z,y,xs,r,o,es,ep,s,n,j,i,g⟩:=(show ObjOk P w H h a (.dT kvs) from xtv ok e);refine⟨z,y,xs,r,o,es,ep,s,n,j,i,λx b=>?_,g⟩
 have all:∀{l:List (List Key×V)} {m:List (List Key×Addr×Value)},KT H l m->∀x∈m,(tupleKind (xby P w)).is h x.1 x.2.1:=by
  intro l m q
  induction q with
  |nil=>intro x b;exact nomatch b
  | @cons p q ps u c t f=>
   intro x b;rcases zMC b with e |b
   ·subst e
    exact xir ok (by rw[<- c.1];exact c.2.1)
   ·exact f x b
 exact all r x b
theorem xv5 {kvs:List (List Key×V)} (ok:HOk P w H h) (e:H a=some (.dT kvs)):kvs.length<=sizeLine/\(a == sysModules)=false ∧
  ∃xs,KT H kvs xs/\h.DictOfH (tupleKind (xby P w)) a xs:=xon ok (.inl e)
end
def DGet(H:Hp)(a:Addr)(y:V)(r:Option V):Prop:=
 (∃kvs k,Rd H a (.dK kvs)/\y=kV k/\r=valV kvs k)\/∃kvs k b,Rd H a (.dT kvs)/\y=.ref b/\H b=some (.tup (k.map kV))/\r=valV kvs k
def DPut(H:Hp)(a:Addr)(y v:V)(H':Hp):Prop:=
 (∃kvs k,H a=some (.dK kvs)/\y=kV k/\kvs.length<sizeLine/\H'=upd H a (.dK (putK kvs k v))) ∨
 ∃kvs k b,H a=some (.dT kvs)/\y=.ref b/\H b=some (.tup (k.map kV))/\kvs.length<sizeLine/\H'=upd H a (.dT (putK kvs k v))
theorem DGet.k{H:Hp}{a:Addr}{kvs:List (Key×V)}{k:Key}(e:H a=some (.dK kvs)):DGet H a (kV k) (valV kvs k):=.inl ⟨kvs,k,.inl e,rfl,rfl⟩
theorem DPut.k{H:Hp}{a:Addr}{kvs:List (Key×V)}{k:Key}{v:V}(e:H a=some (.dK kvs))(b:kvs.length<sizeLine):DPut H a (kV k) v (upd H a (.dK (putK kvs k v))):=.inl ⟨kvs,k,e,rfl,b,rfl⟩
section
variable {X:Cx}{pins:List (Addr×Obj)}{σ:St}{H:Hp}{s:Shared}{a:Addr}{y v:V}{u r:Value}{o:Option V}{A:Around}{E:Value->Shared->Prop}
theorem Inv.big(I:Inv X pins σ H s):sysModules<s.heap.objs.size:=by
 have h:mainGlobals<s.heap.objs.size:=(I.mod.glob.keeps I.bk).lt;exact Nat.lt_trans (by decide) h
theorem xos {Q:Value->Shared->Prop} (hu:A.units+1<cLine) (I:Inv X pins σ H s) (g:DGet H a y (some v)) (ry:RelV y u) (h:∀w' s',Inv X pins σ H s'->RelV v w'->Q w' s') :
  wpAny (model X.prog X.w) A (getItem (.ref a) u) Q E s:=by
 rcases g with⟨kvs,k,e,ey,l⟩ |⟨kvs,k,b,e,ey,eb,l⟩
 ·subst ey
  obtain⟨z,hd,vs,rel,dd⟩:=xmb I.hok e;obtain⟨w',hw,rw'⟩:=RelO.some_of (v:=v) (o:=valueAt vs k) (by rw[l];exact rel.val k);exact wpAny_getItem_of (xj4 ry) dd.mapOf hw (h w' _ (I.tok _) rw')
 ·subst ey
  cases (show u=Value.ref b from ry);obtain⟨z,hd,xs,rel,dd⟩:=xon I.hok e;obtain⟨w',hw,rw'⟩:=RelO.some_of (v:=v) (o:=(atKey xs k).map (·.2)) (by rw[l];exact rel.val k);obtain⟨p,hp,hp2⟩:=zMS hw;refine wpAny_getItem_heap (tupleKind_room_in1 hu) (xir I.hok eb) dd hp ?_;rw[hp2];exact h w' _ (I.tok _) rw'
theorem d_in {Q:Value->Shared->Prop} (hu:A.units+1<cLine) (I:Inv X pins σ H s) (g:DGet H a y o) (ry:RelV y u) (h:∀s',Inv X pins σ H s'->Q (.bool o.isSome) s') :
  wpAny (model X.prog X.w) A (compareOp .In u (.ref a)) Q E s:=by
 rcases g with⟨kvs,k,e,ey,l⟩ |⟨kvs,k,b,e,ey,eb,l⟩
 ·subst ey
  obtain⟨z,hd,vs,rel,dd⟩:=xmb I.hok e;refine wpAny_in_of (xj4 ry) hd dd.mapOf ?_;rw[<- (rel.val k).isSome_eq,<- l];exact h _ (I.tok _)
 ·subst ey
  cases (show u=Value.ref b from ry);obtain⟨z,hd,xs,rel,dd⟩:=xon I.hok e;refine wpAny_in_heap (tupleKind_room_in1 hu) (xir I.hok eb) hd dd ?_;have q:=(rel.val k).isSome_eq;rw[Option.isSome_map]at q;rw[<- q,<- l];exact h _ (I.tok _)
theorem xsr {Q:Value->Shared->Prop} (n:A.units+1<cLine) (I:Inv X pins σ H s) (g:DGet H a y o) (m:RelV y u) (h:∀j,Inv X pins σ H j->Q (.bool (!o.isSome)) j) :
  wpAny (model X.prog X.w) A (compareOp .NotIn u (.ref a)) Q E s:=by
 rcases g with⟨kvs,k,e,f,l⟩ |⟨kvs,k,b,e,f,p,l⟩
 ·subst f
  obtain⟨z,hd,vs,c,i⟩:=xmb I.hok e;refine wpAny_notIn_of (xj4 m) hd i.mapOf ?_;rw[<- (c.val k).isSome_eq,<- l];exact h _ (I.tok _)
 ·subst f
  cases (show u=Value.ref b from m);obtain⟨z,hd,xs,c,i⟩:=xon I.hok e;refine wpAny_notIn_heap (tupleKind_room_in1 n) (xir I.hok p) hd i ?_;have q:=(c.val k).isSome_eq;rw[Option.isSome_map]at q;rw[<- q,<- l];exact h _ (I.tok _)
theorem xke {h':Heap} {t':Nat} {ob:HO} (I:Inv X pins σ H s) (mu:Mut (H a)) (hs:Heap.SameBut a s.heap h') (he:∃q,h'.get? a=some q) (new:ObjOk X.prog X.w (upd H a ob) h' a ob) :
  Inv X pins σ (upd H a ob) {s with heap:=h',toks:=t'}:=
 I.write (x:=a) (e:=a) mu (.inl rfl) (λb q hb z=>(hs.2 b hb).trans z) he new
theorem xiw {P:Program} {w:World} {e:Hp} {h':Heap} {kvs:List (Key×V)} {vs:List (Key×Value)} (z:kvs.length<=sizeLine) (hd:(a == sysModules)=false) (b:KV kvs vs) (c:h'.DictOf (xby P w) a vs) :
  ObjOk P w e h' a (.dK kvs):=⟨z,hd,vs,b,c⟩
theorem xor {H':Hp} {Q:Unit->Shared->Prop} (hu:A.units+1<cLine) (I:Inv X pins σ H s) (g:DPut H a y v H') (ry:RelV y u) (rv:RelV v r) (h:∀s',Inv X pins σ H' s'->Q () s') :
  wpAny (model X.prog X.w) A (setItem (.ref a) u r) Q E s:=by
 rcases g with⟨kvs,k,e,ey,l,eH⟩ |⟨kvs,k,b,e,ey,eb,l,eH⟩
 ·subst ey eH
  obtain⟨z,hd,vs,rel,dd⟩:=xsq I.hok e;have hz:vs.length<=sizeLine:=by rw[<- rel.length];exact z
  have hl:(putK kvs k v).length<=sizeLine:=by have:=xdl kvs k v;omega
  refine wpAny_setItem_pairs (hsz:=hz) (xj4 ry) dd λh' dd' hs=>h _ ?_;have he:∃q,h'.get? a=some q:=let ⟨q,_,_,hq,_⟩:=dd';⟨q,hq⟩;exact xke I (by rw[e];exact True.intro) hs he (xiw hl hd (rel.put k rv) dd')
 ·subst ey eH
  cases (show u=Value.ref b from ry);obtain⟨z,hd,xs,rel,dd⟩:=xv5 I.hok e;have hz:xs.length<=sizeLine:=by rw[<- Paired.length rel];exact z
  have hl:(putK kvs k v).length<=sizeLine:=by have:=xdl kvs k v;omega
  refine wpAny_setItem_heap (hsz:=hz) (tupleKind_room_in1 hu) (xir I.hok eb) dd λh' dd' hs=>h _ ?_;obtain⟨q,es,ep,hq,h2,h3,h4,_,h5⟩:=dd';refine xke I (by rw[e];exact True.intro) hs ⟨q,hq⟩ ⟨hl,hd,_,(rel.put k eb rv).keeps λc ys ec=>?_,q,es,ep,hq,h2,h3,h4,h5⟩;rw[xaw (xvu ec e (λz=>nomatch z))];exact ec
end
def NoSl(i:Expr):Prop:=∀ov iv,subscripted i false ov iv=operate [ov,iv] (getItem ov iv)
theorem xrh {prog:Program} {w:World} {A:Around} {E:Value->Shared->Prop} {s:Shared} {env:Env} {value a:Expr} {pos:Pos} {T id:String} {Q:Value->Shared->Prop}
  (l:typeLookup (.type T) "__getitem__"=pure (some (.builtin id))) (hs:NoSl a)
  (h:wpAny (model prog w) A (eval value env) (λo f=>wpAny (model prog w) A (eval a env) (λi b=>b.TypeIs o T/\wpAny (model prog w) A (getItem o i) Q E b) E f) E s) :
  wpAny (model prog w) A (eval (.Subscript value a pos) env) Q E s:=by
 refine Subscript_ (wpAny_mono h (λo f h₁=>wpAny_mono h₁ (λi b c=>?_) λ_ _ x=>x) λ_ _ x=>x);obtain⟨g,c⟩:=c;unfold subscriptTail;refine wpAny_bind ?_;rw[getitemInPython_of_ne g.not_modules];refine wpAny_bind (wpAny_specialOf g l ?_)
 have fin:wpAny (model prog w) A (subscripted a false o i) (λr e=>wpAny (model prog w) A (letTemporaryGo value o r >>= λ_=>pure r) Q E e) E b:=by
  rw[hs o i];exact wpAny_operating (wpAny_mono c (λr e j=>wpAny_bind (wpAny_letTemporaryGo (wpAny_pure j))) λ_ _ x=>x)
 first
  |exact wpAny_pure (wpAny_bind fin)
  |exact wpAny_bind (wpAny_pure (wpAny_bind fin))
  |exact wpAny_bind fin
theorem xkc{X:Cx}{pins:List (Addr×Obj)}{σ:St}{H:Hp}{s:Shared}{a:Addr}{y:V}{o:Option V}(I:Inv X pins σ H s)(g:DGet H a y o):s.TypeIs (.ref a) "dict":=by
 rcases g with⟨kvs,k,e,_,_⟩ |⟨kvs,k,b,e,_,_,_⟩
 ·obtain⟨_,_,vs,_,c⟩:=xmb I.hok e
  exact c.typeIs
 ·obtain⟨_,_,xs,_,c⟩:=xon I.hok e
  exact c.typeIs
def xvf(td ty:TE):TE:=λσ H Q=>td σ H λx H1=>ty σ H1 λy H2=>∃a v,x=.ref a/\DGet H2 a y (some v)/\Q v H2
def tDIn(ty td:TE):TE:=λσ H Q=>ty σ H λy H1=>td σ H1 λx H2=>∃a o,x=.ref a/\DGet H2 a y o/\Q (.bl o.isSome) H2
def xrc(ty td:TE):TE:=λσ H Q=>ty σ H λy H1=>td σ H1 λx H2=>∃a o,x=.ref a/\DGet H2 a y o/\Q (.bl (!o.isSome)) H2
def xvn(td ty tv:TE):TS:=λD σ H=>tv σ H λv H1=>td σ H1 λx H2=>ty σ H2 λy H3=>∃a H4,x=.ref a/\DPut H3 a y v H4/\D.nx σ H4
section
variable {X:Cx}{o i e value:Expr}{pos pos' tpos:Pos}{td ty tv:TE}
theorem xdr(n:X.A.units+1<cLine)(p:PE X o td)(hi:PE X i ty)(hs:NoSl i):PE X (.Subscript o i pos) (xvf td ty):=by
 intro pins s σ H Q I h;refine xrh PySem.F.slot_dict_getitem.lookup hs (thn (p pins s σ H _ I h) λu e ⟨x,C,w,j,m⟩=>thn (hi pins e σ C _ w m) λO M ⟨y,z,c,f,a,v,ex,g,l⟩=>?_);subst ex;obtain rfl:u=Value.ref a:=j;exact⟨xkc c g,xos n c g f λG J r b=>⟨v,z,r,b,l⟩⟩
theorem xqs(m:X.A.units+1<cLine)(hi:PE X i ty)(n:PE X o td):PC X .In i o (tDIn ty td):=by
 intro pins s σ H Q I h;refine thn (hi pins s σ H _ I h) λM b ⟨y,C,w,c,j⟩=>thn (n pins b σ C _ w j) λu J ⟨x,z,r,e,a,l,ex,g,f⟩=>?_;subst ex;obtain rfl:u=Value.ref a:=e;exact d_in m r g c λG p=>⟨.bl l.isSome,z,p,rfl,f⟩
theorem xh6(m:X.A.units+1<cLine)(hi:PE X i ty)(n:PE X o td):PC X .NotIn i o (xrc ty td):=by
 intro pins s σ H Q I h;refine thn (hi pins s σ H _ I h) λM b ⟨y,C,w,c,j⟩=>thn (n pins b σ C _ w j) λu J ⟨x,z,r,e,a,l,ex,g,f⟩=>?_;subst ex;obtain rfl:u=Value.ref a:=e;exact xsr m r g c λG p=>⟨.bl (!l.isSome),z,p,rfl,f⟩
theorem xfu (w:X.A.units+1<cLine) (z:PE X o td) (hi:PE X i ty) (p:PE X value tv) (hs:swapsWith value (some (.Subscript o i pos')) pos.line X.env=pure false) :
  PS X (.Assign [.Subscript o i pos'] value pos) (xvn td ty tv):=by
 intro pins s σ H D I h;refine wpAny_Assign_Subscript (thn (p pins s σ H _ I h) λr c ⟨v,Y,M,j,n⟩=>thn (z pins c σ Y _ M n) λu b ⟨x,U,J,f,m⟩=>thn (hi pins b σ U _ J m) λiv s3 ⟨y,H3,G,e,a,O,ex,g,l⟩=>?_) hs;subst ex;obtain rfl:u=Value.ref a:=f;exact xor w G g e j λZ C=>⟨σ,O,C,l⟩
end
theorem xlg{P:Program}{w:World}{H:Hp}(h:Heap)(a:sysModules<h.objs.size):ObjOk P w H (h.push {cls:=.type "dict",data:=.dict #[]}) h.objs.size (.dK []):=
 ⟨Nat.zero_le _,beq_eq_false_iff_ne.mpr (Ne.symm (Nat.ne_of_lt a)),[],.nil,Heap.DictOf.new h⟩
def xte:TE:=λ_ H Q=>∀p,H p=none->Q (.ref p) (upd H p (.dK []))
section
variable {X:Cx}{pos:Pos}
theorem xpf:PE X (.Dict [] [] pos) xte:=λpins s σ H Q I h=>
 wpAny_Dict_empty ⟨.ref s.heap.objs.size,_,I.laid (a:=s.heap.objs.size) (o:=.dK []) (t':=s.toks) (λ_ _ q=>zPO _ q) (Nat.le_refl _) (xlg s.heap I.big),rfl,h _ (I.hok.fresh (Nat.le_refl _))⟩
end
def xmt:List (TE×TE)->St->Hp->(List (V×V)->Hp->Prop)->Prop
 |[],_,H,Q=>Q [] H
 |(tk,tv)::r,σ,H,Q=>tk σ H λx H1=>tv σ H1 λy H2=>xmt r σ H2 λps H3=>Q ((x,y)::ps) H3
abbrev VV:List (V×V)->List (Value×Value)->Prop:=Paired λp q=>RelV p.1 q.1/\RelV p.2 q.2
def PPs(X:Cx)(pos:Pos)(keys:List (Option Expr))(values:List Expr)(trs:List (TE×TE)):Prop:=
 ∀(pins:List (Addr×Obj)) (s:Shared) (σ:St) (H:Hp) (Q:List (V×V)->Hp->Prop),Inv X pins σ H s->xmt trs σ H Q->
  wpAny (model X.prog X.w) X.A (evalPairs (pairTrees keys values X.env pos)) (λvs s'=>∃ps H',Inv X pins σ H' s'/\VV ps vs/\Q ps H') X.xe s
theorem xrq{X:Cx}{pos:Pos}:PPs X pos [] [] []:=λpins s σ H Q I h=>pairTrees_nil_walk ⟨[],H,I,.nil,h⟩
theorem xpc {X:Cx} {pos:Pos} {k v:Expr} {ks:List (Option Expr)} {vs:List Expr} {c tv:TE} {a:List (TE×TE)} (p:PE X k c) (n:PE X v tv) (o:PPs X pos ks vs a) :
  PPs X pos (some k::ks) (v::vs) ((c,tv)::a):=λpins s σ H Q I h=>
 pairTrees_cons_walk (thn (p pins s σ H _ I h) λu f ⟨x,J,z,i,m⟩=>thn (n pins f σ J _ z m) λM e ⟨y,G,w,g,l⟩=>
  thn (o pins e σ G _ w l) λws O ⟨ps,C,r,b,j⟩=>⟨(x,y)::ps,C,r,.cons ⟨i,g⟩ b,j⟩)
def xbi(kvs more:List (Key×V)):List (Key×V):=more.foldl (λacc kv=>putK acc kv.1 kv.2) kvs
theorem KV.merge:∀{more:List (Key×V)} {rs:List (Key×Value)} {kvs:List (Key×V)} {vs:List (Key×Value)},KV more rs->KV kvs vs->KV (xbi kvs more) (merged vs rs):=by
 intro more rs kvs vs r;unfold KV at r
 induction r generalizing kvs vs with
 |nil=>intro q;exact q
 | @cons p q ps c h t b=>
  intro a
  have e:KV (putK kvs p.1 p.2) (stored vs q.1 q.2):=by
   have:=a.put p.1 h.2;rw[<- h.1];exact this
  exact b e
theorem xcr:∀(more kvs:List (Key×V)),(xbi kvs more).length<=kvs.length+more.length
 |[],kvs=>by show kvs.length<=kvs.length+0;omega
 |p::r,kvs=>by
  have b:=xcr r (putK kvs p.1 p.2);have a:=xdl kvs p.1 p.2;show(xbi (putK kvs p.1 p.2) r).length<=_;rw[List.length_cons];omega
theorem xgu{P:Program}{w:World}:∀{kvs:List (Key×V)} {ws:List (Value×Value)},VV (kvs.map λe=>(kV e.1,e.2)) ws->∃rs,Carries (xby P w) ws rs/\KV kvs rs
 |[],_,r=>by rw[List.map_nil]at r;cases r;exact⟨[],True.intro,.nil⟩
 | p::kvs,_,r=>by
  rw[List.map_cons]at r
  cases r with
  |@cons a b as bs h t=>
   obtain⟨rs,c,q⟩:=xgu (P:=P) (w:=w) t;obtain⟨g,f⟩:=b;exact⟨(p.1,f)::rs,⟨xj4 h.1,rfl,c⟩,.cons ⟨rfl,h.2⟩ q⟩
def xve(trs:List (TE×TE)):TE:=λσ H Q=>∀p,H p=none->xmt trs σ (upd H p (.dK [])) λps H2=>H2 p=some (.dK [])/\∃kvs:List (Key×V),ps=kvs.map (λkv=>(kV kv.1,kv.2))/\kvs.length<=15/\Q (.ref p) (upd H2 p (.dK (xbi [] kvs)))
theorem xrv {X:Cx} {pos:Pos} {keys:List (Option Expr)} {b:List Expr} {f:List (TE×TE)} (h:PPs X pos keys b f) (g:keys.all (·.isSome)=true) (y:keys.length=b.length) (h0:keys≠[])
  (l:keys.length<=15):PE X (.Dict keys b pos) (xve f):=by
 intro pins s σ H Q I q;have hn:=I.hok.fresh (Nat.le_refl s.heap.objs.size);have M:=I.laid (a:=s.heap.objs.size) (o:=.dK []) (h':=s.heap.push {cls:=.type "dict",data:=.dict #[]}) (t':=s.toks) (λ_ _ q=>zPO _ q) (Nat.le_refl _) (xlg s.heap I.big);refine wpAny_Dict_walk (knd:=xby X.prog X.w) g y h0 l (thn (h pins _ σ _ _ M (q _ hn)) λws O ⟨ps,Y,m,j,e,kvs,ep,U,u⟩=>?_);subst ep;obtain⟨rs,c,p⟩:=xgu (P:=X.prog) (w:=X.w) j;obtain⟨z,hd,n,r,J⟩:=xsq m.hok e;cases r;refine⟨rs,c,J,λh' i hs=>⟨.ref s.heap.objs.size,_,?_,rfl,u⟩⟩
 have hz:(xbi [] kvs).length<=sizeLine:=by
  have G:=xcr kvs [];rw[List.length_nil]at G;rw[sizeLine_eq];omega
 have C:∃q,h'.get? s.heap.objs.size=some q:=let ⟨q,_,_,x,_⟩:=i;⟨q,x⟩;exact xke m (by rw[e];exact True.intro) hs C (xiw hz hd (p.merge .nil) i)
section
variable {X:Cx}{pins:List (Addr×Obj)}{σ:St}{H:Hp}{s:Shared}{a:Addr}{kvs:List (Key×V)}{A:Around}{E:Value->Shared->Prop}
theorem xp7{Q:Value->Shared->Prop}(I:Inv X pins σ H s)(e:Rd H a (.dK kvs))(h:∀p g,H p=none->Inv X pins σ (upd H p (.dK kvs)) g->Q (.ref p) g):wpAny (model X.prog X.w) A (call (.type "dict") [.ref a]) Q E s:=by
 obtain⟨z,hd,vs,c,j⟩:=xmb I.hok e;refine kt_call_dict hd j (by rw[<- c.length];exact z) λh' f hs=>?_;refine h _ _ (I.hok.fresh (Nat.le_refl _)) (I.laid (a:=s.heap.objs.size) (o:=.dK kvs) (t':=s.toks) (λb q i=>?_) (Nat.le_refl _) (xiw z (beq_eq_false_iff_ne.mpr (Ne.symm (Nat.ne_of_lt I.big))) c f));exact(hs.2 b (Nat.ne_of_lt (Heap.lt_size i))).trans (zPO _ i)
end
section
variable {κ:Type}[DecidableEq κ]
theorem xj0:∀{l:List κ} {k:κ},l.Nodup->¬k∈l->(l++[k]).Nodup
 |[],k,_,_=>by simp
 |a::r,k,h,b=>by
  obtain⟨e,c⟩:=List.nodup_cons.mp h;show(a::(r++[k])).Nodup;refine List.nodup_cons.mpr ⟨λm=>?_,xj0 c λm=>b (List.mem_cons.mpr (Or.inr m))⟩;rcases zMA m with q |q
  ·exact e q
  ·exact b (List.mem_cons.mpr (Or.inl (zMO q).symm))
end
section
variable {X:Cx}
theorem xgw:xdy X (.type "dict") (λxs H Q=>∃a kvs,xs=[V.ref a]/\H a=some (.dK kvs)/\∀p,H p=none->Q (.ref p) (upd H p (.dK kvs))):=by
 intro pins s σ H xs us Q I r h;obtain⟨a,kvs,rfl,ha,q⟩:=h;obtain⟨u,rfl,ru⟩:=xex r;cases ru;exact xp7 I (.inl ha) λp s' hp I'=>⟨.ref p,_,I',rfl,q p hp⟩
end
section
variable {ix:Cap}{tt:TT}{te:TE}{g:TG}{σ:St}{H:Hp}{Q:VK}
def NxtG(Pv:Nat->List V->Hp->Prop)(n i:Nat)(ys:List V):VK:=λy H2=>∃m',m'<n-i/\m'=n-(i+1)/\i+1<=n/\(ys++[y]).length<=i+1/\Pv (i+1) (ys++[y]) H2
def NxtN(Pv:Nat->List V->Hp->Prop)(n i:Nat)(ys:List V):Hp->Prop:=λH2=>∃m',m'<n-i/\m'=n-(i+1)/\i+1<=n/\ys.length<=i+1/\Pv (i+1) ys H2
theorem nxtG{a:Nat->List V->Hp->Prop}{n i:Nat}{ys:List V}{y:V}{b:Hp}(hi:i<n)(c:ys.length<=i)(h:a (i+1) (ys++[y]) b):NxtG a n i ys y b:=
 ⟨n-(i+1),by omega,rfl,hi,by rw[zLA,List.length_singleton];omega,h⟩
theorem nxtN{a:Nat->List V->Hp->Prop}{n i:Nat}{ys:List V}{b:Hp}(hi:i<n)(c:ys.length<=i)(h:a (i+1) ys b):NxtN a n i ys b:=
 ⟨n-(i+1),by omega,rfl,hi,by omega,h⟩
theorem xbv {K:Fg} {a:Addr} {xs:List V} (c:Nat->List V->Hp->Prop) (h0:c 0 [] H) (hn:xs.length<sizeLine) (j:∀i ys H,i<=xs.length->c i ys H->SqT K H a xs)
  (hs:∀i x ys H,xs[i]?=some x->i<xs.length->ys.length<=i->c i ys H->g x (capt l σ) H λh u=>Ext (capt l σ) h/\r h u λb o=>if b=true then s h o (NxtG c xs.length i ys) else NxtN c xs.length i ys o)
  (hd:∀ys H,ys.length<=xs.length->c xs.length ys H->∀D,H D=none->Q (.ref D) (upd H D (.lst ys))):xd9 (Itt K a) l g r s σ H Q:=by
 refine⟨λi m ys H=>m=xs.length-i/\i<=xs.length/\ys.length<=i/\c i ys H,⟨xs.length,by simp,Nat.zero_le _,Nat.le_refl _,h0⟩,?_⟩;rintro i m ys H ⟨rfl,hi,n,p⟩;have q:=j i ys H hi p;by_cases f:i<xs.length
 ·refine .inr ⟨⟨xs,xs[i],q,by simp[f]⟩,by omega,λv w y=>?_⟩
  obtain⟨e,y⟩:=y;subst e;exact hs i v ys _ (y xs q) f n p
 ·have e:i=xs.length:=by omega
  subst e;exact .inl ⟨⟨xs,q,Nat.le_refl _⟩,hd ys H n p⟩
theorem xgs {K:Fg} {a:Addr} {xs:List V} (c:Nat->List V->Hp->Prop) (h0:c 0 [] H) (hn:xs.length<sizeLine) (j:∀i ys H,i<=xs.length->c i ys H->SqL K H a xs)
  (hs:∀i x ys H,xs[i]?=some x->i<xs.length->ys.length<=i->c i ys H->g x (capt l σ) H λh u=>Ext (capt l σ) h/\r h u λb o=>if b=true then s h o (NxtG c xs.length i ys) else NxtN c xs.length i ys o)
  (hd:∀ys H,ys.length<=xs.length->c xs.length ys H->∀D,H D=none->Q (.ref D) (upd H D (.lst ys))):xd9 (Itl K a) l g r s σ H Q:=by
 refine⟨λi m ys H=>m=xs.length-i/\i<=xs.length/\ys.length<=i/\c i ys H,⟨xs.length,by simp,Nat.zero_le _,Nat.le_refl _,h0⟩,?_⟩;rintro i m ys H ⟨rfl,hi,n,p⟩;have q:=j i ys H hi p;by_cases f:i<xs.length
 ·refine .inr ⟨⟨xs,xs[i],q,by simp[f]⟩,by omega,λv w y=>?_⟩
  obtain⟨e,y⟩:=y;subst e;exact hs i v ys _ (y xs q) f n p
 ·have e:i=xs.length:=by omega
  subst e;exact .inl ⟨⟨xs,q,Nat.le_refl _⟩,hd ys H n p⟩
theorem ext2{σ:St}{i j:Nat}{v w:Option V}(h:σ[i]?=some none)(k:σ[j]?=some none):Ext σ ((σ.set i v).set j w):=by
 refine⟨by simp,λn c e=>?_⟩;have b:i≠n:=λz=>by subst z;rw[h]at e;cases e
 have a:j≠n:=λz=>by subst z;rw[k]at e;cases e
 rw[List.getElem?_set_ne a,List.getElem?_set_ne b];exact e
end
section
variable {X:Cx}
def xtx:V->List V->Hp->VK->Prop:=λx vs H Q=>∃l,∃ys:List Str,∃z j,x=.ref l/\vs=[.str z]/\H l=some (.lst (ys.map V.str))/\ys.findIdx? (λy=>decide (y=z))=some j/\Q (.int (j:Nat)) H
theorem xpv:MtM X "list.index" xtx:=by
 intro p s σ H x vs v us Q I C G h;obtain⟨l,ys,z,j,rfl,rfl,Z,Y,q⟩:=h;cases C;obtain⟨u,rfl,J⟩:=G.one;obtain⟨o,its,n,r,U,e⟩:=I.lstM Z
 have fs:(ys.map V.str).all xfe=true:=by
  rw[List.all_eq_true];intro y b;obtain⟨y',_,rfl⟩:=zMP b;rfl
 obtain⟨h1,h2,h3⟩:=List.findIdx?_eq_some_iff_getElem.mp Y;rw[zLM]at U o
 have a:∀i (hi:i<ys.length) (f:i<its.toArray.size),eqU (.str z) its.toArray[i]=decide (ys[i]=z):=λi hi f=>by
  obtain⟨w,e',M⟩:=r.get (i:=i) (x:=.str ys[i]) (by rw[zGM,zGA hi];rfl)
  have g:its.toArray[i]=w:=by
   have:its[i]?=some its[i]:=zGA (by omega);rw[e']at this;simpa using (Option.some.inj this).symm
  rw[g,xom M rfl];show(ys[i] == z)=_;rw[Bool.eq_iff_iff];simp
 refine call_meets F.slot_list_index ⟨_,e,rfl⟩ F.entry_list_index (F.args_list_index_2 _ _) (SeqAt.list_indexAt l its.toArray n none #[] u (eqU (.str z)) j (by simp;omega) ?_ ?_ ?_) ⟨e,λy b=>xd4 J rfl r fs y (by simpa using b),⟨.int j,H,I.tok _,⟨_,rfl⟩,q⟩⟩
 ·rw[sizeLine_eq]at o
  omega
 ·rw[a j h1 (by simp;omega)]
  exact h2
 ·intro m O c
  rw[a m (by omega) O];have:=h3 m c;simpa using this
end
theorem xhq:∀{ns:List Int},(∀n∈ns,0<=n/\n<=1000000)->0<=ns.sum/\ns.sum<=1000000*(ns.length:Int)
 |[],_=>by simp
 |n::ns,h=>by
  have c:=h n (by simp);have b:=xhq (ns:=ns) λm a=>h m (List.mem_cons_of_mem _ a);rw[List.sum_cons,List.length_cons];push_cast;omega
section
variable {X:Cx}
theorem xgb(x:X.calm=true):xdy X (.builtin "sum") (λxs H Q=>∃p,∃ns:List Int,xs=[.ref p]/\SqL X.K H p (ns.map V.int)/\(∀n∈ns,0<=n/\n<=1000000)/\ns.length<=1000/\Q (.int ns.sum) H):=by
 intro b s σ H xs us Q I r h;obtain⟨p,ns,rfl,m,g,c,q⟩:=h;obtain⟨u,rfl,l⟩:=xex r;cases l;obtain⟨its,i,pl,hz⟩:=I.list m;have hi:=xgq i;obtain⟨xs,e⟩:=hi.allInts.items;have a:ns=xs.toList.map (·.1):=by rw[<- hi.numsOf,<- nums_intItems,<- e]
 have f:=pl.isList;rw[e]at f;have hsz:xs.size=ns.length:=by rw[a,zLM,Array.length_toList]
 refine sum_intList (I.ok.hd x) f (λj w=>?_) λh' y t' k=>⟨.int ns.sum,H,I.kept k,?_,q⟩
 ·have o:numAt xs j∈ns:=by
   rw[a,numAt_eq];exact getD_mem (by rw[zLM,Array.length_toList];exact w)
  have G:=g _ o;have C:=xhq (ns:=ns.take (j+1)) λn hn=>g n (List.mem_of_mem_take hn);have z:(ns.take (j+1)).length<=1000:=Nat.le_trans (List.length_take_le _ _) (by omega);rw[preSum_eq,<- a];unfold InLong;omega
 ·refine⟨t',?_⟩
  rw[preSum_eq,<- a,zTL (by omega)]
theorem xi0(z:X.calm=true):xdy X (.builtin "max") (λxs H Q=>∃p,∃ns:List Int,xs=[.ref p]/\SqL X.K H p (ns.map V.int)/\ns≠[]/\∀m,m∈ns->(∀n∈ns,n<=m)->Q (.int m) H):=by
 intro f s σ H xs us Q I r h;obtain⟨p,ns,rfl,x,c,q⟩:=h;obtain⟨u,rfl,o⟩:=xex r;cases o;obtain⟨its,l,pl,hz⟩:=I.list x;have hi:=xgq l;obtain⟨xs,e⟩:=hi.allInts.items;have b:ns=xs.toList.map (·.1):=by rw[<- hi.numsOf,<- nums_intItems,<- e]
 have g:=pl.isList;rw[e]at g;have hsz:xs.size=ns.length:=by rw[b,zLM,Array.length_toList]
 have J:0<ns.length:=List.length_pos_iff.mpr c;refine max_intList (I.ok.hd z) g (by omega) λv h' G w k=>?_;obtain⟨t,rfl⟩:=intItems_at w;obtain⟨M,C⟩:=argBest_gt (numAt xs) (xs.size-1);refine⟨.int _,H,I.kept k,⟨t,rfl⟩,q _ ?_ λa i=>?_⟩
 ·rw[b,numAt_eq]
  exact getD_mem (by rw[zLM,Array.length_toList];omega)
 ·rw[b]at i
  obtain⟨j,y,rfl⟩:=mem_getD i;rw[zLM,Array.length_toList]at y;rw[<- numAt_eq];exact C j (by omega)
end
section
variable {X:Cx}{K:Fg}
theorem xsc(h:X.K=K):IxR X (rIxT K):=by subst h;exact xui
theorem xpy(h:X.K=K):IxR X (rIxL K):=by subst h;exact iL
theorem xac(h:X.K=K):xdy X (.builtin "len") (λxs H Q=>∃p ys,xs=[.ref p]/\(SqL K H p ys\/SqT K H p ys)/\Q (.int ys.length) H):=by subst h;exact xi1
theorem xbc {es:List Expr} {k:Nat} {t:TGs} {n:Nat} {pos:Pos} (c:X.K=K) (b:X.calm=true) (h:PGs X es t)
  (hn:(assignEach es X.env).length=n:=by rfl) (a:(assignEach es X.env).findIdx? (·.1)=none:=by rfl):PG X (.Tuple es k pos) (gTup K n t):=by subst c;exact xt1 b h hn a
end
end L2
end
section
namespace Zt
open PySem PySem.Spec PyProof.Rows
section
variable {prog:Program}{w:World}{A:Around}{E:Value->Shared->Prop}{s:Shared}
theorem call_zipN {l1 l2:Addr} {xs ys:Array Value} {Q:Value->Shared->Prop} (hl1:s.heap.IsTuple l1 xs) (hl2:s.heap.IsTuple l2 ys)
  (h:∀h',IsZip h' (s.heap.objs.size+4) (s.heap.objs.size+2) (s.heap.objs.size+3) .none->IsPair h' (s.heap.objs.size+2) (.ref s.heap.objs.size) (.ref (s.heap.objs.size+1))->(∃a b,IsPair h' (s.heap.objs.size+3) a b)->
   h'.IsTupleIter s.heap.objs.size l1 0->h'.IsTupleIter (s.heap.objs.size+1) l2 0->(∀c o,s.heap.get? c=some o->h'.get? c=some o)->Q (.ref (s.heap.objs.size+4)) {s with heap:=h'}) :
  wpAny (model prog w) A (call (.type "zip") [.ref l1,.ref l2]) Q E s:=by
 refine callType_new F.called_zip (by decide) (F.typeCall_zip_2 _ _) (F.newCall_zip_2 _ _) (λobj=>F.args_object_init_3 obj _ _) F.entry_zip_new
  (meets_new l1 l2 xs ys) ⟨hl1,hl2,?_⟩
 have z1:(zH1 s.heap l1).objs.size=s.heap.objs.size+1:=Heap.size_push ..;have z2:(zH2 s.heap l1 l2).objs.size=s.heap.objs.size+2:=by rw[Heap.size_push,z1]
 have z3:(zH3 s.heap l1 l2).objs.size=s.heap.objs.size+3:=by rw[Heap.size_push,z2]
 have z4:(zH4 s.heap l1 l2).objs.size=s.heap.objs.size+4:=by rw[Heap.size_push,z3]
 have g5:(zH5 s.heap l1 l2).get? (zH4 s.heap l1 l2).objs.size=some _:=Heap.get?_push_size _ rfl;have g4:(zH5 s.heap l1 l2).get? (zH3 s.heap l1 l2).objs.size=some _:=zPO _ (Heap.get?_push_size _ rfl);have g3:(zH5 s.heap l1 l2).get? (zH2 s.heap l1 l2).objs.size=some _:=zPO _ (zPO _ (Heap.get?_push_size _ rfl));have g2:(zH5 s.heap l1 l2).get? (zH1 s.heap l1).objs.size=some _:=zPO _ (zPO _ (zPO _ (Heap.get?_push_size _ rfl)));have g1:(zH5 s.heap l1 l2).get? s.heap.objs.size=some _:=zPO _ (zPO _ (zPO _ (zPO _ (Heap.get?_push_size _ rfl))));have kp:∀c o,s.heap.get? c=some o->(zH5 s.heap l1 l2).get? c=some o:=λc o e=>zPO _ (zPO _ (zPO _ (zPO _ (zPO _ e))));show _/\_;rw[z2,z3,z4]at g5;rw[z1,z2]at g3;rw[z3]at g4;rw[z1]at g2;rw[z4];exact⟨⟨_,g5,rfl⟩,h _ g5 g3 ⟨_,_,g4⟩ ⟨_,g1,rfl,rfl⟩ ⟨_,g2,rfl,rfl⟩ kp⟩
end
end Zt
namespace L2
open PySem PySem.Spec PyProof.Rows
section
variable {X:Cx}{pins:List (Addr×Obj)}{σ:St}{H:Hp}{s:Shared}{h':Heap}
theorem Inv.turnedM{t':Nat}{fp:List Addr}(I:Inv X pins σ H s)(k:∀b o,b ∉fp->s.heap.get? b=some o->h'.get? b=some o)(hf:∀b∈fp,FpOk X pins H b):Inv X pins σ H {s with heap:=h',toks:=t'}:=by
 have nit:∀b u,H b=some u->b ∉fp:=λb u e z=>by rw[(hf b z).1]at e;cases e
 refine I.step (g':=s.gens) (d':=s.drawn) (ch:=fp) (λb hb=>?_) (λb o _ _ hc e _=>k b o hc e) (λb o _ _ hc e _=>⟨o.slots,k b o hc e⟩) (λ_ _ _ _ n=>n)
  (λb o hc e=>⟨o,k b o hc e⟩) (λ_ _ e=>e) (λ_ _ _ e=>e) (λb ps e=>⟨#[],by rw[e];simp⟩) (λm hm=>?_) (λb u e=>?_) I.bare
 ·obtain⟨f0,f1,f2,f3,f4,f5⟩:=hf b hb
  exact⟨f3,f1,f4,f5⟩
 ·obtain⟨o,es,ep,ho,r⟩:=hm
  exact⟨o,es,ep,k _ o (λz=>(hf _ z).2.1 rfl) ho,r⟩
 ·refine(I.hok b u e).stay (λc v hc q=>k c v ?_ q) (λ_ q=>q) λ_ _ q=>q
  rcases hc with z |z
  ·rw[z];exact nit b u e
  ·exact nit c _ z
end
theorem xj6{h:Heap}{o u:Obj}{b:Addr}(e:(h.push o).get? b=some u)(q:b≠h.objs.size):h.get? b=some u:=by
 rwa[Heap.get?_push_ne h b o q]at e
section
variable {X:Cx}
def Itz (K:Fg) (a b:Addr):It:=
  ⟨λi H=>∃xs ys x y,SqT K H a xs/\SqT K H b ys/\xs[i]?=some x/\ys[i]?=some y,λi H x H'=>∃p u v,x=.ref p/\H p=none/\H'=upd H p (.tup [u,v])/\(∀xs,SqT K H a xs->xs[i]?=some u)/\∀ys,SqT K H b ys->ys[i]?=some v,
   λi H=>∃xs ys,SqT K H a xs/\SqT K H b ys/\xs.length<=i⟩
theorem xoz {P:Program} {w:World} {K:Fg} {a0:List Expr} {x1} {pos:Pos} {a b z TI TO n m:Addr} (D:ZipApart z TI TO n m a b) :
  Turn P w K (.Tuple a0 x1 pos) (Itz K a b) [z,TI,TO,n,m] z (λi h=>IsZip h z TI TO .none/\IsPair h TI (.ref n) (.ref m)/\(∃u v,IsPair h TO u v)/\h.IsTupleIter n a i/\h.IsTupleIter m b i) where
 mem:=by simp
 obj:=λi h st c g=>by
  obtain⟨l,j,⟨u,v,J⟩,G,C⟩:=st;simp only[List.mem_cons,List.not_mem_nil,or_false]at g;rcases g with rfl |rfl |rfl |rfl |rfl
  ·exact⟨_,l,λv z=>by cases z⟩
  ·exact⟨_,j,λv z=>by cases z⟩
  ·exact⟨_,J,λv z=>by cases z⟩
  ·obtain⟨o,e,c,d⟩:=G
   exact⟨o,e,λv z=>by rw[d]at z;cases z⟩
  ·obtain⟨o,e,c,d⟩:=C
   exact⟨o,e,λv z=>by rw[d]at z;cases z⟩
 keep:=λi h h' st k=>by
  obtain⟨l,j,⟨u,v,J⟩,G,C⟩:=st;exact⟨k z (by simp) _ l,k TI (by simp) _ j,⟨u,v,k TO (by simp) _ J⟩,G.at λo q=>k n (by simp) o q,C.at λo q=>k m (by simp) o q⟩
 item:=by
  intro X hP hw hK g i f s σ H E I hf st hg;subst hP hw hK;obtain⟨xs,ys,x,y,hq,r,hx,hy⟩:=hg;obtain⟨its,rv,p,hz⟩:=I.tuple hq;obtain⟨its',Y,p',a9⟩:=I.tuple r;obtain⟨u,hu,ru⟩:=rv.get hx;obtain⟨U,aa,a8⟩:=Y.get hy;obtain⟨l,j,⟨_,_,J⟩,G,C⟩:=st;have hT:s.TypeIs (.ref z) "zip":=⟨_,l,rfl⟩;unfold pyNext
  refine wpAny_bind (wpAny_attempt (wpAny_callSpecial?_slot (name:=Str.ofString "__next__") hT F.slot_zip_next
   (wpAny_call_entry F.slot_zip_next hT F.entry_zip_next
    (Zt.item_first D l j J G C p p' (x:=u) (y:=U) (by simpa using hu) (by simpa using aa) λh1 a1 a2 a3 a4 a5 a6 a7=>wpAny_pure ⟨_,rfl,wpAny_letOwnedTupleGo_zip a1 λh2 b1 b2=>?_⟩) (F.args_zip_next_1 _))))
  have ab:H s.heap.objs.size=none:=I.hok.fresh (Nat.le_refl _);have g1:(s.heap.push {cls:=.type "tuple",data:=.seq #[u,U]}).get? s.heap.objs.size=some {cls:=.type "tuple",data:=.seq #[u,U]}:=Heap.get?_push_size _ rfl
  have I1:Inv X f σ (upd H s.heap.objs.size (.tup [x,y])) {s with heap:=s.heap.push {cls:=.type "tuple",data:=.seq #[u,U]},toks:=s.toks}:=
   I.laid (λb o q=>zPO _ q) (Nat.le_refl _) ⟨by show 2<=sizeLine;decide,[u,U],.cons ru (.cons a8 .nil),⟨_,g1,rfl,_,rfl,rfl⟩⟩
  have lt:∀c∈[z,TI,TO,n,m],c≠s.heap.objs.size:=λc g=>by
   simp only[List.mem_cons,List.not_mem_nil,or_false]at g;rcases g with rfl |rfl |rfl |rfl |rfl
   ·exact Nat.ne_of_lt (Heap.lt_size l)
   ·exact Nat.ne_of_lt (Heap.lt_size j)
   ·exact Nat.ne_of_lt (Heap.lt_size J)
   ·obtain⟨o,q,_⟩:=G
    exact Nat.ne_of_lt (Heap.lt_size q)
   ·obtain⟨o,q,_⟩:=C
    exact Nat.ne_of_lt (Heap.lt_size q)
  have Z:∀c∈[z,TI,TO,n,m],FpOk X f (upd H s.heap.objs.size (.tup [x,y])) c:=λc g=>by
   refine⟨?_,(hf c g).2⟩;rw[xaw (lt c g)];exact(hf c g).1
  have I2:Inv X f σ (upd H s.heap.objs.size (.tup [x,y])) {s with heap:=h2,toks:=s.toks}:=
   I1.turnedM (t':=s.toks) (λc o hb q=>by
    have M:c≠z/\c≠TI/\c≠TO/\c≠n/\c≠m:=by simpa using hb
    have q1:h1.get? c=some o:=by
     by_cases e:c=s.heap.objs.size
     ·subst e
      have q':(s.heap.push {cls:=.type "tuple",data:=.seq #[u,U]}).get? s.heap.objs.size=some o:=q;rw[g1]at q';cases q';exact a5
     ·exact a7 c o M.1 M.2.2.1 M.2.2.2.1 M.2.2.2.2 (xj6 q e)
    exact(b2.2 c M.1).trans q1) Z
  refine⟨.ref s.heap.objs.size,_,I2,rfl,⟨_,x,y,rfl,ab,rfl,λzs O=>by rw[I.tuple_inj O hq];exact hx,λzs O=>by rw[I.tuple_inj O r];exact hy⟩,⟨b1,?_,⟨_,_,(b2.2 _ D.TOz).trans a2⟩,a3.at λo q=>(b2.2 _ D.i1z).trans q,a4.at λo q=>(b2.2 _ D.i2z).trans q⟩,λc g=>(Z c g).1⟩;exact(b2.2 _ D.TIz).trans (a7 _ _ D.TIz D.TITO D.TIi1 D.TIi2 j)
 done:=by
  intro X hP hw hK g i f s σ H E I hf st hg;subst hP hw hK;obtain⟨xs,ys,hq,r,hx⟩:=hg;obtain⟨its,rv,p,hz⟩:=I.tuple hq;obtain⟨its',Y,p',a9⟩:=I.tuple r;obtain⟨l,j,J,G,C⟩:=st;have hl:=rv.length
  exact Zt.pyNext_end (I.ok.hd g) D ⟨.inl l,j,J,G,C,p,p'⟩ (by simp;omega) λh' kk=>⟨rfl,I.turnedM (t':=s.toks) (λc o hb q=>by
   have M:c≠z/\c≠TI/\c≠TO/\c≠n/\c≠m:=by simpa using hb
   exact kk c o M.1 M.2.2.2.1 q) hf⟩
 self:=λ_ _ _ _ _ st h=>wpAny_pyIter_zip st.1 h
def iZip(K:Fg)(ta:TA):TI:=λσ H R=>ta σ H λvs H1=>∃a b,vs=[.ref a,.ref b]/\(∃xs,SqT K H1 a xs)/\(∃ys,SqT K H1 b ys)/\R (Itz K a b) H1
theorem xqp {a b:Expr} {r:TA} {p pos:Pos} {l:List Expr} {G} {J:Pos} (hg:Gl X "zip") (hm:X.mg "zip"=none) (ha:PA X [a,b] r) (hs:starEach [a,b] X.env=[(false,eval a X.env),(false,eval b X.env)]:=by rfl) (i:starEach [b] X.env=[(false,eval b X.env)]:=by rfl) :
  PI X (.Tuple l G J) (.Call (.Name "zip" p) [a,b] [] pos) (iZip X.K r):=by
 intro g s σ H R I h;refine Call_ (xfb I hg hm PyProof.Rows.boot_zip (PyProof.Rows.callWith_type1 (thn (ha pos g s σ H _ I h) λus f ⟨vs,H1,m,M,O⟩=>?_) (by rw[hs,i]) (by rw[i];rfl)));obtain⟨Y,U,e,⟨xs,hx⟩,⟨ys,hy⟩,q⟩:=O;subst e;obtain⟨u1,u2,rfl,e1,e2⟩:=M.two;cases e1;cases e2;obtain⟨its,rx,tx,a4⟩:=m.tuple hx;obtain⟨a0,ry,o,a3⟩:=m.tuple hy;have a1:Y<f.heap.objs.size:=by obtain⟨_,e,_⟩:=tx;exact Heap.lt_size e
 have a2:U<f.heap.objs.size:=by obtain⟨_,e,_⟩:=o;exact Heap.lt_size e
 have D:=PyProof.Rows.zipApart_new a1 a2;refine Zt.call_zipN tx o λh1 n C y x w Z=>wpAny_pyIter_zip n ?_;refine⟨f.heap.objs.size+4,[f.heap.objs.size+4,f.heap.objs.size+2,f.heap.objs.size+3,f.heap.objs.size,f.heap.objs.size+1],_,_,H1,rfl,m.kept (t':=f.toks) Z,xoz D,⟨n,C,y,x,w⟩,λc u=>?_,q⟩
 have j:f.heap.objs.size<=c:=by
  simp only[List.mem_cons,List.not_mem_nil,or_false]at u;rcases u with z |z |z |z |z <;> subst z <;> first |exact Nat.le_add_right _ _ |exact Nat.le_refl _
 exact m.fpOk j (m.hok.fresh j)
theorem xsl {K:Fg} {a b:Addr} {xs ys:List V} {g:TG} {tb:TS} {D:Ends} {σ:St} {H:Hp} (hxy:xs.length=ys.length) (Pv:Nat->St->Hp->Prop) (h0:Pv 0 σ H) (hl:∀i σ H,i<=xs.length->Pv i σ H->SqT K H a xs/\SqT K H b ys)
  (hs:∀i x y σ H p,xs[i]?=some x->ys[i]?=some y->Pv i σ H->H p=none->g (.ref p) σ (upd H p (.tup [x,y])) λσ2 H2=>tb {D with nx:=Pv (i+1),ct:=Pv (i+1),bk:=D.nx} σ2 H2) (hd:∀σ H,Pv xs.length σ H->D.nx σ H) :
  ∃W:Nat->Nat->St->Hp->Prop,(∃m,W 0 m σ H)/\∀i m σ H,W i m σ H->
   ((Itz K a b).stop i H/\D.nx σ H)\/((Itz K a b).go i H/\∃N:St->Hp->Prop,(∀σ' H',N σ' H'->∃m',m'<m/\W (i+1) m' σ' H')/\∀x H',(Itz K a b).yld i H x H'->g x σ H' λσ2 H2=>tb {D with nx:=N,ct:=N,bk:=D.nx} σ2 H2):=by
 refine⟨λi m σ H=>m=xs.length-i/\i<=xs.length/\Pv i σ H,⟨xs.length,by simp,Nat.zero_le _,h0⟩,?_⟩;rintro i m σ H ⟨rfl,hi,p⟩;have q:=hl i σ H hi p;by_cases hlt:i<xs.length
 ·refine .inr ⟨⟨xs,ys,xs[i],ys[i]'(by omega),q.1,q.2,by simp[hlt],by simp[<- hxy,hlt]⟩,Pv (i+1),λσ' H' p'=>⟨xs.length-(i+1),by omega,rfl,hlt,p'⟩,λx H' y=>?_⟩
  obtain⟨pp,u,v,rfl,hp,rfl,hu,hv⟩:=y;exact hs i u v σ H pp (hu xs q.1) (hv ys q.2) p hp
 ·have e:i=xs.length:=by omega
  subst e;exact .inl ⟨⟨xs,ys,q.1,q.2,Nat.le_refl _⟩,hd σ H p⟩
end
section
variable {ix:Cap}{tt:TT}{te:TE}{g:TG}{σ:St}{H:Hp}{Q:VK}
theorem xp8 {K:Fg} {a b:Addr} {xs zs:List V} (j:xs.length=zs.length) (f:Nat->List V->Hp->Prop) (h0:f 0 [] H) (hn:xs.length<sizeLine) (l:∀i ys H,i<=xs.length->f i ys H->SqT K H a xs/\SqT K H b zs)
  (hs:∀i x z ys H p,xs[i]?=some x->zs[i]?=some z->i<xs.length->ys.length<=i->f i ys H->H p=none->g (.ref p) (capt n σ) (upd H p (.tup [x,z])) λh M=>Ext (capt n σ) h/\s h M λb r=>if b=true then w h r (NxtG f xs.length i ys) else NxtN f xs.length i ys r)
  (hd:∀ys H,ys.length<=xs.length->f xs.length ys H->∀D,H D=none->Q (.ref D) (upd H D (.lst ys))):xd9 (Itz K a b) n g s w σ H Q:=by
 refine⟨λi m ys H=>m=xs.length-i/\i<=xs.length/\ys.length<=i/\f i ys H,⟨xs.length,by simp,Nat.zero_le _,Nat.le_refl _,h0⟩,?_⟩;rintro i m ys H ⟨rfl,hi,o,p⟩;have q:=l i ys H hi p;by_cases c:i<xs.length
 ·refine .inr ⟨⟨xs,zs,xs[i],zs[i]'(by omega),q.1,q.2,by simp[c],by simp[<- j,c]⟩,by omega,λv O y=>?_⟩
  obtain⟨C,u,v,rfl,J,rfl,I,G⟩:=y;exact hs i u v ys _ C (I xs q.1) (G zs q.2) c o p J
 ·have e:i=xs.length:=by omega
  subst e;exact .inl ⟨⟨xs,zs,q.1,q.2,Nat.le_refl _⟩,hd ys H o p⟩
end
end L2
end
section
namespace M
open PySem L2
structure Kn where
 name:Str
 rc:Bool
 parts:List (Str×Str)
def Kn.sort(k:Kn):Str:=if k.rc=true then S "rec" else S "alt"
def xkf(p:Str×Str):D:=.tup [.str p.1,.str p.2]
def xdp(ps:List (Str×Str)):D:=.tup (ps.map xkf)
def Kn.d(k:Kn):D:=.tup [.str k.name,.str k.sort,xdp k.parts]
def xcz(ks:List Kn):D:=.tup (ks.map Kn.d)
def kAt(ks:List Kn)(x:Str):Option Kn:=ks.find? λk=>decide (k.name=x)
def xvj:Option Kn->V
 |some k=>.str k.sort
 |none=>.non
def xk2:Option Kn->D
 |some k=>xdp k.parts
 |none=>.tup []
def KsAt(H:Hp)(v:V)(ks:List Kn):Prop:=RelD H v (xcz ks)/\ks.length<=100/\∀k∈ks,k.parts.length<=100
theorem KsAt.same{H a:Hp}{v:V}{ks:List Kn}(h:KsAt H v ks)(s:Same H a):KsAt a v ks:=⟨h.1.same s _,h.2⟩
abbrev En:=Str->Option D
def En.put(e:En)(x:Str)(d:D):En:=λy=>if y=x then some d else e y
def EnAt(H:Hp)(p:Addr)(m:Nat)(e:En):Prop:=
 ∃kvs,H p=some (.dK kvs)/\kvs.length<=m/\∀x,(e x=none->valV kvs (Sum.inr x)=none)/\∀d,e x=some d->∃v,valV kvs (Sum.inr x)=some v/\RelD H v d
theorem EnAt.same{H b:Hp}{p:Addr}{m:Nat}{e:En}(h:EnAt H p m e)(s:Same H b):EnAt b p m e:=by
 obtain⟨kvs,g,f,a⟩:=h;refine⟨kvs,s _ _ g,f,λx=>⟨(a x).1,λd hd=>?_⟩⟩;obtain⟨v,c,r⟩:=(a x).2 d hd;exact⟨v,c,r.same s _⟩
theorem EnAt.mono{H:Hp}{p:Addr}{m a:Nat}{e:En}(h:EnAt H p m e)(l:m<=a):EnAt H p a e:=by
 obtain⟨kvs,c,f,b⟩:=h;exact⟨kvs,c,by omega,b⟩
theorem EnAt.put {H a:Hp} {p q:Addr} {m:Nat} {e:En} {kvs:List (Key×V)} (l:H p=some (.dK kvs)) (n:kvs.length<=m) (h:∀x,(e x=none->valV kvs (Sum.inr x)=none)/\∀d,e x=some d->∃v,valV kvs (Sum.inr x)=some v/\RelD H v d)
  (s:Same H a) {x:Str} {v:V} {d:D} (g:RelD a v d) (j:a q=some (.dK (putK kvs (Sum.inr x) v))):EnAt a q (m+1) (e.put x d):=by
 refine⟨_,j,by have:=xdl kvs (Sum.inr x) v;omega,λy=>?_⟩;rw[xei];unfold En.put;by_cases c:y=x
 ·subst c
  rw[if_pos rfl,if_pos rfl];refine⟨λz=>(by cases z),λd' f=>?_⟩;cases f;exact⟨v,rfl,g⟩
 ·have b:¬(Sum.inr y:Key)=Sum.inr x:=λz=>c (Sum.inr.inj z)
  rw[if_neg c,if_neg b];refine⟨(h y).1,λd' f=>?_⟩;obtain⟨u,i,r⟩:=(h y).2 d' f;exact⟨u,i,r.same s _⟩
def opV(s:Str)(x y:Int):Int:=
 if s=S "+" then (x+y)%4294967296 else if s=S "-" then (x-y)%4294967296 else if s=S "*" then x*y%4294967296 else if s=S "<" then (if x<y then 1 else 0) else (if x=y then 1 else 0)
def Nm(x:Int):Prop:=0<=x/\x<4294967296
theorem xqu(s:Str)(x y:Int):Nm (opV s x y):=by
 have h:∀z:Int,Nm (z%4294967296):=λz=>⟨Int.emod_nonneg _ (by decide),Int.emod_lt_of_pos _ (by decide)⟩;unfold opV;split
 ·exact h _
 split
 ·exact h _
 split
 ·exact h _
 split
 ·split <;> exact⟨by decide,by decide⟩
 ·split <;> exact⟨by decide,by decide⟩
abbrev tNum(n:Int):D:=.tup [.str (S "num"),.int n]
abbrev tBox(x:Str):D:=.tup [.str (S "box"),.str x]
abbrev tOpD(s:Str)(a b:D):D:=.tup [.str (S "op"),.str s,a,b]
abbrev tRec(k:Str)(es:List D):D:=.tup [.str (S "rec"),.str k,.tup es]
abbrev tGet(a:D)(f:Str):D:=.tup [.str (S "get"),a,.str f]
abbrev tTag(k t:Str)(a:D):D:=.tup [.str (S "tag"),.str k,.str t,a]
abbrev dArm(r:Str×Str×D):D:=.tup [.str r.1,.str r.2.1,r.2.2]
abbrev xi8(a:D)(rs:List (Str×Str×D)):D:=.tup [.str (S "case"),a,.tup (rs.map dArm)]
abbrev tIfD(a b c:D):D:=.tup [.str (S "if"),a,b,c]
def xfc(env:En)(d v:D):Prop:=(∃n,d=tNum n/\v=.int n)\/∃x,env x=some v/\d=tBox x
def NodeEv(ks:List Kn)(R:En->D->D->Prop)(env:En)(d v:D):Prop:=
 (∃s a b x y,R env a (.int x)/\R env b (.int y)/\Nm x/\Nm y/\d=tOpD s a b/\v=.int (opV s x y)) ∨
 (∃k es vs,es.length<=1000/\All2 (R env) es vs/\d=tRec k es/\v=.tup [.str k,.tup vs]) ∨
 (∃a k vs f kn i,R env a (.tup [.str k,.tup vs])/\kAt ks k=some kn/\(kn.parts.map (·.1)).findIdx? (λz=>decide (z=f))=some i/\vs[i]?=some v/\d=tGet a f) ∨
 (∃k t a x,R env a x/\d=tTag k t a/\v=.tup [.str k,.str t,x]) ∨
 (∃a rs k t x y e,rs.length<=1000/\R env a (.tup [.str k,.str t,x])/\rs.find? (λr=>decide (r.1=t))=some (t,y,e)/\R (env.put y x) e v/\d=xi8 a rs) ∨
 (∃a b c x,R env a (.int x)/\R env (if x=0 then c else b) v/\d=tIfD a b c)
def Ev(ks:List Kn):Nat->En->D->D->Prop
 |0=>xfc
 |n+1=>λenv d v=>xfc env d v\/NodeEv ks (Ev ks n) env d v
def xgy(env:En)(d:D)(k:Str):Prop:=(∃n,Nm n/\d=tNum n/\k=S "num")\/∃x,env x=some (.str k)/\d=tBox x
def xc7(kn:Kn)(f:Str):Option Str:=(kn.parts.find? λp=>decide (p.1=f)).map (·.2)
abbrev RKn:=En->D->Str->Prop
def OpKd(R:RKn):RKn:=λenv d k=>∃s a b,R env a (S "num")/\R env b (S "num")/\d=tOpD s a b/\k=S "num"
def xsw(ks:List Kn)(R:RKn):RKn:=λenv d k=>∃es kn,kAt ks k=some kn/\kn.rc=true/\All2 (λe (p:Str×Str)=>R env e p.2) es kn.parts/\d=tRec k es
def xsx(ks:List Kn)(R:RKn):RKn:=λenv d k=>∃a k1 f kn,R env a k1/\kAt ks k1=some kn/\kn.rc=true/\xc7 kn f=some k/\d=tGet a f
def xsv(ks:List Kn)(R:RKn):RKn:=λenv d k=>∃t a kn k1,kAt ks k=some kn/\kn.rc=false/\xc7 kn t=some k1/\R env a k1/\d=tTag k t a
def xln (cs:Prop) (ks:List Kn) (R:RKn):RKn:=λenv d k=>cs/\∃a,∃rs:List (Str×Str×D),∃k1 kn,R env a k1/\kAt ks k1=some kn/\kn.rc=false/\rs≠[]/\rs.length=kn.parts.length/\(rs.map (·.1)).Nodup ∧
  (∀r∈rs,env r.2.1=none/\∃k2,xc7 kn r.1=some k2/\R (env.put r.2.1 (.str k2)) r.2.2 k)/\d=xi8 a rs
def IfKd(R:RKn):RKn:=λenv d k=>∃a b c,R env a (S "num")/\R env b k/\R env c k/\d=tIfD a b c
def NodeKd(cs:Prop)(ks:List Kn)(R:RKn):RKn:=λenv d k=>OpKd R env d k\/xsw ks R env d k\/xsx ks R env d k\/xsv ks R env d k\/xln cs ks R env d k\/IfKd R env d k
def Kd(cs:Prop)(ks:List Kn):Nat->En->D->Str->Prop
 |0=>xgy
 |n+1=>λenv d k=>xgy env d k\/NodeKd cs ks (Kd cs ks n) env d k
theorem xce{α:Type}{p:α->Bool}{xs:List α}{i:Nat}{a:α}(h:(xs.take i).find? p=none)(c:xs[i]?=some a):(p a=true->xs.find? p=some a)/\(p a=false->(xs.take (i+1)).find? p=none):=by
 have hi:i<xs.length:=(zES c).1;have e:xs[i]=a:=(zES c).2;refine⟨λb=>?_,λb=>?_⟩
 ·have f:xs=xs.take i++a::xs.drop (i+1):=by
   rw[<- e,<- List.drop_eq_getElem_cons hi,List.take_append_drop]
  rw[f,List.find?_append,h];simp[b]
 ·rw[zTA,c,List.find?_append,h]
  simp[b]
theorem Same.new2{H:Hp}{p:Addr}(h:H p=none)(o c:HO):Same H (upd (upd H p o) p c):=λb u q=>by
 have a:=neN q h;rw[xaw a,xaw a];exact q
end M
end
section
namespace St
open PySem PySem.Spec PyProof.Rows
def met(val:Nat->Str)(i:Nat):List Str:=((List.range i).map val).foldl step_dedup []
theorem xfi(val:Nat->Str)(i:Nat):met val (i+1)=step_dedup (met val i) (val i):=by
 unfold met;rw[List.range_succ,zAP,List.foldl_append];rfl
theorem xnz(val:Nat->Str):∀i,(met val i).length<=i
 |0=>Nat.le_refl _
 | i+1=>by
  have a:=xnz val i;rw[xfi];unfold step_dedup;split
  ·omega
  ·rw[zLA,List.length_singleton]
   omega
theorem xu0(l:List Str)(v k:Str):(step_dedup l v).any (· == k)=(l.any (· == k) || decide (k=v)):=by
 unfold step_dedup;split
 ·rename_i h
  by_cases e:k=v
  ·subst e
   rw[h,Bool.true_or]
  ·rw[zDF e,Bool.or_false]
 ·rw[List.any_append]
  congr 1;rw[Bool.eq_iff_iff];simp;exact eq_comm
theorem xuz(l:List Str)(v:Str):(step_dedup l v).length=if l.any (· == v) then l.length else l.length+1:=by
 unfold step_dedup;split <;> simp
theorem xmx:∀{vs:List Value} {ns:List Str},StrsAre vs ns->∀(i:Nat) (v:Value),vs[i]?=some v->∃t,v=.str (ns.getD i Str.empty) t
 |_,_,.nil,i,v,h=>by simp at h
 |_,_,.cons n t r,0,v,h=>by
  simp at h;exact⟨t,h.symm⟩
 |_,_,.cons n t r,i+1,v,h=>by
  obtain⟨t',e⟩:=xmx r i v (by simpa using h);exact⟨t',by simpa using e⟩
section
variable {prog:Program}{w:World}{A:Around}{R:Result->Shared->Prop}{I:Addr}{fp wr:List Addr}{G:Array GenState->Array GenState->Prop}{n:Nat}{P:Nat->Value->Prop}{St:Nat->Shared->Prop}
theorem upd_loop (W:WalksS prog w A.in1 I fp J G n P St) (S:Addr) (z:S ∉fp)
  (val:Nat->Str) (l:∀i v,P i v->∃t,v=.str (val i) t) (j:n+1<scanBound) :
  ∀(k i:Nat) (s:Shared),n-i=k->i<=n->St i s->
   s.heap.SetOf (PySem.strKind prog w) S (λk'=>(met val i).any (· == k')) (met val i).length->
   (∀a,Moved (S::J) G s a->a.heap.SetOf (PySem.strKind prog w) S (λk'=>(met val n).any (· == k')) (met val n).length->R (.ok (.ret .none)) a)->
   codeAny (model prog w) A (.builtin "set.update.loop" ⟨[.ref S,.ref I],[]⟩) R s:=by
 have y:S ∉J:=λh=>z (W.sub _ h);have c:∀b∈J,b∈S::J:=λb j=>List.mem_cons_of_mem _ j;intro k
 induction k with
 | zero=>
  intro i s hk hi f hS hR;have U:i=n:=by omega
  subst U;refine codeAny_builtin F.entry_set_update_loop ?_;rw[Around.under_plainId F.plain_set_update_loop _];show wpAny _ A.in1 (pyNext (.ref I) >>= _) _ _ s;refine wpAny_bind (W.done s _ _ f λa u=>?_);show wpAny _ A.in1 (ret Value.none) _ _ a
  exact wpAny_pure (hR a (u.mono c) (by
   obtain⟨o,es,ep,t,O,rest⟩:=hS;exact⟨o,es,ep,t,u.heap S _ y O,rest⟩))
 | succ k ih=>
  intro i s hk hi f hS hR;have x:i<n:=by omega
  refine codeAny_builtin F.entry_set_update_loop ?_;rw[Around.under_plainId F.plain_set_update_loop _];show wpAny _ A.in1 (pyNext (.ref I) >>= _) _ _ s;refine wpAny_bind (W.item i s _ _ x f λv a hP m u=>?_);obtain⟨t,rfl⟩:=l i v hP
  have a0:a.heap.SetOf (PySem.strKind prog w) S (λk'=>(met val i).any (· == k')) (met val i).length:=by
   obtain⟨o,es,ep,tb,O,rest⟩:=hS;exact⟨o,es,ep,tb,u.heap S _ y O,rest⟩
  show wpAny _ A.in1 (holding [Value.str (val i) t] (setAdd S (.str (val i) t)) >>= _) _ _ a;refine wpAny_bind (wpAny_holding ?_);unfold setAdd;refine wpAny_holding ?_;refine wpAny_bind ((PySem.strKind prog w).pyHash (k:=val i) (PySem.strKind_is _ _ _ _) ?_);have g:(met val i).length+1<scanBound:=by have:=xnz val i;omega
  refine wpAny_setAddHashed_of (knd:=PySem.strKind prog w) (s:={a with toks:=a.toks+1}) (PySem.strKind_is _ _ _ _) rfl a0 g λh' p Z=>?_
  have Y:h'.SetOf (PySem.strKind prog w) S (λk'=>(met val (i+1)).any (· == k')) (met val (i+1)).length:=
   SetOf_congr Z (λk'=>by rw[xfi,xu0]) (by rw[xfi,xuz])
  refine wpAny_pure ⟨plainId_quiet F.plain_set_update_loop _,ih (i+1) _ (by omega) x (W.frame _ a _ _ m (Nat.le_succ _) λb j o e=>?_) Y λM r C=>?_⟩
  ·rw[p.2 b (λh:b=S=>z (by rw[<- h];exact j))];exact e
  ·refine hR M (Moved.trans W.gtrans ((u.mono c).then_heap (Nat.le_succ _) λb o j e=>?_) r) C
   rw[p.2 b (λh:b=S=>j (by rw[h];exact List.mem_cons_self))];exact e
end
section
variable {prog:Program}{w:World}{A:Around}{E:Value->Shared->Prop}{s:Shared}
set_option maxRecDepth 100000 in
set_option maxHeartbeats 3200000 in
theorem call_set_strs {l:Addr} {items:Array Value} {ns:List Str} {Q:Value->Shared->Prop}
  (hh:A.handled=none) (hl:s.heap.IsList l items) (hi:StrsAre items.toList ns) (hb:items.size+1<scanBound)
  (h:∀(h':Heap) (tk:Nat),h'.SetOf (PySem.strKind prog w) s.heap.objs.size (λk'=>(met (λi=>ns.getD i Str.empty) items.size).any (· == k')) (met (λi=>ns.getD i Str.empty) items.size).length->
   (∀b o,b<s.heap.objs.size->s.heap.get? b=some o->h'.get? b=some o)->Q (.ref s.heap.objs.size) {s with heap:=h',toks:=tk}) :
  wpAny (model prog w) A (call (.type "set") [.ref l]) Q E s:=by
 obtain⟨c,tl,hmro⟩:=F.called_set.mro;have hmade:=F.called_set.made;have hsub:=F.called_set.sub;refine wpAny_call (codeAny_of_tree ?_);show wpAny _ _ (callAny (.type "set") _) _ _ _;refine wpAny_pure ⟨Code.quiet_builtin _ (by walk_at"k"),codeAny_builtin F.entry_type_call ?_⟩;rw[Around.under_plain (weight_type_call_type "set" [.ref l] []) rfl];have h1:=F.called_set.notType;have h2:=F.called_set.canCreate;have hct:=F.typeCall_set_1 (.ref l)
 repeat (any_goals (first |assumption |wp_step))
 refine codeAny_mono (code_set_new_1 (.ref l) (E:=E) (Q₁:=λobj s₁=>∃led:Bool,obj=.ref s.heap.objs.size/\s₁={s with heap:=s.heap.push {cls:=.type "set",dict:=none,data:=.set #[] 0 (.fresh 0 0 led)}}) λled=>⟨led,rfl,rfl⟩) λr s₁ hr=>?_
 cases r with
 |error e=>exact hr
 | ok fl=>
  cases fl with
  | ret obj=>
   obtain⟨led,rfl,rfl⟩:=hr;have hS:(s.heap.push {cls:=.type "set",dict:=none,data:=.set #[] 0 (.fresh 0 0 led)}).get? s.heap.objs.size=some {cls:=.type "set",dict:=none,data:=.set #[] 0 (.fresh 0 0 led)}:=Heap.get?_push_size _ rfl;have hT:Shared.TypeIs {s with heap:=s.heap.push {cls:=.type "set",dict:=none,data:=.set #[] 0 (.fresh 0 0 led)}} (.ref s.heap.objs.size) "set":=⟨_,hS,rfl⟩;have hli:=F.called_set.init.lookup;have hbi:=F.called_set.init.bind (.ref s.heap.objs.size)
   repeat (any_goals (first |assumption |wp_step))
   refine codeAny_mono (codeAny_call_builtin (R:=wants (λr s₂=>r=.none/\∃h' tk,s₂={s with heap:=h',toks:=tk} ∧
     h'.SetOf (PySem.strKind prog w) s.heap.objs.size (λk'=>(met (λi=>ns.getD i Str.empty) items.size).any (· == k')) (met (λi=>ns.getD i Str.empty) items.size).length ∧
     (∀b o,b<s.heap.objs.size->s.heap.get? b=some o->h'.get? b=some o)) E) F.called_set.init.plain F.entry_set_init (check_set_init_1 hT ?_)) λr₂ s₂ hr₂=>?_
   ·obtain⟨ol,hol,hcl,nl,hdl⟩:=hl
    obtain⟨ocls,odict,odata,oslots⟩:=ol;simp only at hcl hdl;subst hcl;subst hdl;have hol':(s.heap.push {cls:=.type "set",dict:=none,data:=.set #[] 0 (.fresh 0 0 led)}).get? l=some {cls:=.type "list",dict:=odict,data:=.seq items nl,slots:=oslots}:=zPO _ hol;have hsls:=F.sub_list_set;have hslf:=F.sub_list_frozenset;have hne:(Value.type "list" == Value.type "dict")=false:=by decide
    have hl1:(s.heap.push {cls:=.type "set",dict:=none,data:=.set #[] 0 (.fresh 0 0 led)}).IsList l items:=⟨_,hol',rfl,nl,rfl⟩;unfold Builtin.«set.__init__» noKeywords Builtin.Frozenset.updateFrom;generalize hPI:pyIter=PI
    wp_walk
    subst hPI;refine wpAny_pyIter_list hl1 ?_;refine wpAny_bind (wpAny_runValue ?_);have hlS:l<s.heap.objs.size:=Heap.lt_size hol;have hh3:A.in1.in1.in1.handled=none:=by simp[hh]
    have hneI:l≠(s.heap.push {cls:=.type "set",dict:=none,data:=.set #[] 0 (.fresh 0 0 led)}).objs.size:=by
     rw[Heap.size_push];exact Nat.ne_of_lt (Nat.lt_succ_of_lt hlS)
    have hSf:s.heap.objs.size ∉ [(s.heap.push {cls:=.type "set",dict:=none,data:=.set #[] 0 (.fresh 0 0 led)}).objs.size,l]:=by
     rw[Heap.size_push];simp only[List.mem_cons,List.mem_singleton,List.not_mem_nil,or_false,not_or];exact⟨Nat.ne_of_lt (Nat.lt_succ_self _),Nat.ne_of_gt hlS⟩
    have hval:∀(i:Nat) (v:Value),items[i]?=some v->∃t,v=.str ((λi=>ns.getD i Str.empty) i) t:=λi v hv=>
     xmx hi i v (by rw[Array.getElem?_toList];exact hv)
    refine upd_loop ((Walks.list hh3 _ l hneI items).toS) s.heap.objs.size
     hSf (λi=>ns.getD i Str.empty) hval hb (items.size-0) 0 _ (by omega) (Nat.zero_le _)
     ⟨⟨_,Heap.get?_push_size _ rfl,rfl,rfl⟩,(hl1.push _)⟩ ?hS0 ?hR
    case hS0=>
     have hget:((s.heap.push {cls:=.type "set",dict:=none,data:=.set #[] 0 (.fresh 0 0 led)}).push {cls:=.type "list_iterator",data:=.fields #[.ref l,.int 0 0]}).get? s.heap.objs.size
       = some {cls:=.type "set",dict:=none,data:=.set #[] 0 (.fresh 0 0 led)}:=zPO _ hS
     exact SetOf_congr ((setObjOf_fresh (knd:=PySem.strKind prog w) led).setOf hget (by unfold scanBound;omega)) (λ_=>rfl) rfl
    case hR=>
     intro s' hm hS';obtain⟨h',g',d',tk',os'⟩:=s';have eg:g'=s.gens:=hm.gens;have ed:d'=s.drawn:=hm.drawn;have eo:os'=s.os:=hm.os;subst eg;subst ed;subst eo;show wpAny _ _ _ _ _ _;refine wpAny_pure ?_;show wpAny _ _ (ret Value.none) _ _ _;refine wpAny_pure ⟨rfl,h',tk',rfl,hS',λb o hb e=>?_⟩;have hb1:b≠s.heap.objs.size:=Nat.ne_of_lt hb
     have hb2:b≠(s.heap.push {cls:=.type "set",dict:=none,data:=.set #[] 0 (.fresh 0 0 led)}).objs.size:=by
      rw[Heap.size_push];exact Nat.ne_of_lt (Nat.lt_succ_of_lt hb)
     exact hm.heap b o (by simp only[List.mem_cons,List.mem_singleton,List.not_mem_nil,or_false,not_or];exact⟨hb1,hb2⟩) (zPO _ (zPO _ e))
   ·cases r₂ with
    |error e=>exact hr₂
    | ok fl₂=>
     cases fl₂ with
     |ret r=>
      obtain⟨rfl,h',tk,rfl,hS',hk'⟩:=hr₂
      repeat (any_goals (first |assumption |wp_step))
      exact h _ _ hS' hk'
     |_=>exact hr₂.elim
  |_=>exact hr.elim
end
end St
end
section
namespace M
open PySem L2
mutual
def D.deep:D->Nat
 |.int _=>0
 |.str _=>0
 |.tup ds=>xmc ds+1
def xmc:List D->Nat
 |[]=>0
 |d::ds=>max d.deep (xmc ds)
end
theorem xf9:∀{ds:List D} {d:D},d∈ds->d.deep<=xmc ds
 | e::ds,d,h=>by
  show d.deep<=max e.deep (xmc ds);rcases zMC h with rfl |h
  ·omega
  ·have:=xf9 h
   omega
section
variable {X:Cx}{pins:List (Addr×Obj)}{σ:St}{H:Hp}{s:Shared}
theorem xlb{vs:List V}{its:List Value}(r:Vals vs its){j:Nat}(a:j<its.toArray.size):∃x,vs[j]?=some x/\RelV x its.toArray[j]:=by
 have b:=r.length;have h:j<its.length:=by simpa using a
 obtain⟨u,e,q⟩:=r.get (i:=j) (x:=vs[j]'(by omega)) (zGA _)
 have g:its.toArray[j]=u:=by
  have:its[j]?=some its[j]:=zGA h;rw[e]at this;simpa using (Option.some.inj this).symm
 exact⟨vs[j]'(by omega),zGA _,by rw[g];exact q⟩
theorem xuv(I:Inv X pins σ H s):∀(n:Nat) (d:D) {x y:V} {u v:Value} {A:Around},d.deep<=n->RelD H x d->RelD H y d->RelV x u->RelV y v->A.units+n<cLine->SeqAt.EqAt A s u v true
 |n,.int i,x,y,u,v,A,_,hx,hy,ru,rv,_=>by
  cases hx;cases hy;obtain⟨t,rfl⟩:=ru;obtain⟨t',rfl⟩:=rv;have:=SeqAt.EqAt.int_int (A:=A) (s:=s) i t i t';rw[beq_self_eq_true]at this;exact this
 |n,.str z,x,y,u,v,A,_,hx,hy,ru,rv,_=>by
  cases hx;cases hy;obtain⟨t,rfl⟩:=ru;obtain⟨t',rfl⟩:=rv;have:=SeqAt.EqAt.str_str (A:=A) (s:=s) z t z t';rw[beq_self_eq_true]at this;exact this
 |0,.tup ds,x,y,u,v,A,h,_,_,_,_,_=>absurd h (Nat.not_succ_le_zero _)
 | n + 1,.tup ds,x,y,u,v,A,h,hx,hy,ru,rv,hA=>by
  obtain⟨a,vs,rfl,ha,rvs⟩:=hx;obtain⟨b,ws,rfl,hb,rws⟩:=hy;obtain rfl:u=.ref a:=ru;obtain rfl:v=.ref b:=rv;by_cases hab:a=b
  ·subst hab
   exact SeqAt.EqAt.same _
  ·obtain⟨its,r1,p1,_⟩:=I.tuple (SqT.of (K:=X.K) ha)
   obtain⟨its2,r2,p2,_⟩:=I.tuple (SqT.of (K:=X.K) hb);have l1:=r1.length;have l2:=r2.length;have l3:=rvs.length;have l4:=rws.length;have:=SeqAt.EqAt.of_refs hab (SeqAt.RcAt.tuples (A:=A) (e:=λ_=>true) p1 p2 (by omega) λj h1 h2=>?_)
   ·have e:((List.range (min its.toArray.size its2.toArray.size)).all (λ_=>true) && its.toArray.size == its2.toArray.size)=true:=by
     rw[show its.toArray.size=its2.toArray.size by simp only[List.size_toArray];omega];simp
    rw[e]at this;exact this
   ·obtain⟨x1,e1,q1⟩:=xlb r1 h1
    obtain⟨x2,e2,q2⟩:=xlb r2 h2;obtain⟨d1,f1,g1⟩:=rvs.get e1;obtain⟨d2,f2,g2⟩:=rws.get e2;rw[f1]at f2;cases f2;refine xuv I n d1 ?_ g1 g2 q1 q2 (by show A.units+1+n<cLine;omega);have:=xf9 (zMG f1);have h':xmc ds+1<=n+1:=h;omega
def rEqD:R2:=λx y H Q=>∃d:D,RelD H x d/\RelD H y d/\d.deep<=190/\Q (.bl true) H
theorem xt8(hu:X.A.units+200<cLine):OpR X (compareOp .Eq) rEqD:=by
 intro f s σ H x y v u Q I n m h;obtain⟨d,p,o,hd,q⟩:=h
 cases d with
 |int i=>
  cases p;cases o;exact xa0 f s σ H _ _ _ _ Q I n m ⟨rfl,by rw[zDT rfl];exact q⟩
 |str z=>
  cases p;cases o;exact xa0 f s σ H _ _ _ _ Q I n m ⟨rfl,by rw[zDT rfl];exact q⟩
 | tup ds=>
  obtain⟨a,vs,rfl,Z,l⟩:=p;obtain⟨b,ws,rfl,Y,g⟩:=o;obtain rfl:v=.ref a:=n;obtain rfl:u=.ref b:=m;obtain⟨its,w,U,_⟩:=I.tuple (SqT.of (K:=X.K) Z);obtain⟨c,r,O,_⟩:=I.tuple (SqT.of (K:=X.K) Y);have l1:=w.length;have l2:=r.length;have l3:=l.length;have l4:=g.length;refine SeqAt.eq_tupleAt (e:=λ_=>true) U O (by omega) (λj h1 h2=>?_) ⟨.bl true,H,I,?_,q⟩
  ·obtain⟨x1,e1,M⟩:=xlb w h1
   obtain⟨x2,e2,J⟩:=xlb r h2;obtain⟨d1,G,g1⟩:=l.get e1;obtain⟨d2,C,g2⟩:=g.get e2;rw[G]at C;cases C;refine xuv I 190 d1 ?_ g1 g2 M J (by show X.A.units+1+190<cLine;omega);have:=xf9 (zMG G);have h':xmc ds+1<=190:=hd;omega
  ·have e:((List.range (min its.toArray.size c.toArray.size)).all (λ_=>true) && its.toArray.size == c.toArray.size)=true:=by
    rw[show its.toArray.size=c.toArray.size by simp only[List.size_toArray];omega];simp
   rw[e];rfl
end
def five:List Nat:=[113,120,122,118,119]
def nmA(cs:List Nat)(a:Nat)(b:Int)(k:Nat):List Nat:=cs.take a++(97+((b+5*(k:Int))%26).toNat)::cs.drop a
def nmB(cs:List Nat)(a:Nat)(b:Int)(k:Nat):List Nat:=nmA cs a b (k-k%2)++List.replicate (k%2) 113
def xqf(nms:List Str):Prop:=nms.length=26/\nms.Nodup/\∀z∈nms,Name z
theorem xf1(cs:List Nat)(a:Nat)(b:Int)(k:Nat):(nmA cs a b k).length=cs.length+1:=by
 unfold nmA;rw[zLA,List.length_cons,List.length_take,List.length_drop];omega
theorem xf0(cs:List Nat)(a:Nat)(b:Int)(k:Nat):(nmB cs a b k).length=cs.length+1+k%2:=by
 unfold nmB;rw[zLA,xf1,List.length_replicate]
theorem xnw{cs:List Nat}{a:Nat}{b:Int}{k j:Nat}(e:k<26)(f:j<26)(h:nmA cs a b k=nmA cs a b j):k=j:=by
 unfold nmA at h;have c:=List.append_cancel_left h;have g:=(List.cons.inj c).1;omega
theorem xr9{cs:List Nat}{a:Nat}{b:Int}{k j:Nat}(g:k<26)(i:j<26)(h:nmB cs a b k=nmB cs a b j):k=j:=by
 have e:=congrArg List.length h;rw[xf0,xf0]at e;have c:k%2=j%2:=by omega
 unfold nmB at h;rw[c]at h;have f:=List.append_cancel_right h;have l:=xnw (by omega) (by omega) f;omega
theorem xil{f:Nat->Str}(h:∀k j,k<26->j<26->f k=f j->k=j):((List.range 26).map f).Nodup:=by
 refine List.pairwise_map.mpr (List.Pairwise.imp_of_mem (λhi b a e=>?_) (List.pairwise_lt_range (n:=26)));have:=h _ _ (List.mem_range.mp hi) (List.mem_range.mp b) e;omega
theorem xf7:∀c∈five,xdm c=true:=by decide
theorem xio(i:Int):xdm (97+(i%26).toNat)=true:=by
 unfold xdm;have b:0<=i%26:=Int.emod_nonneg _ (by decide);have a:i%26<26:=Int.emod_lt_of_pos _ (by decide);rw[Bool.and_eq_true,decide_eq_true_eq,decide_eq_true_eq];omega
theorem xny{l:List Nat}(i:1<=l.length)(h:l.length<=6)(f:∀c∈l,xdm c=true)(a:l.length=1\/∃c∈l,c∈five):Name (ofL l):=by
 show xl6 l=true;unfold xl6
 have ne:∀z:List Nat,z.length≠1->(∀c∈z,c ∉five)->(l != z)=true:=λz hz g=>by
  rw[bne_iff_ne];intro e;subst e;rcases a with a |⟨c,b,a⟩
  ·exact hz a
  ·exact g c b a
 rw[ne [110,117,109] (by decide) (by decide),ne [105,116] (by decide) (by decide),zDT i,zDT h,List.all_eq_true.mpr f];rfl
theorem mem_nmA{cs:List Nat}{a:Nat}{b:Int}{k c:Nat}:c∈nmA cs a b k ↔ c∈cs\/c=97+((b+5*(k:Int))%26).toNat:=by
 unfold nmA;rw[List.mem_append,List.mem_cons]
 have e:c∈cs ↔ c∈cs.take a\/c∈cs.drop a:=by
  rw[<- List.mem_append,List.take_append_drop]
 rw[e];constructor
 ·rintro(h |h |h)
  ·exact .inl (.inl h)
  ·exact .inr h
  ·exact .inl (.inr h)
 ·rintro((h |h) |h)
  ·exact .inl h
  ·exact .inr (.inr h)
  ·exact .inr (.inl h)
theorem xpt{cs:List Nat}{a:Nat}{b:Int}{k:Nat}(g:cs.length<=4)(e:∀c∈cs,c∈five):Name (ofL (nmA cs a b k)):=by
 refine xny (by rw[xf1];omega) (by rw[xf1];omega) (λc f=>?_) ?_
 ·rcases mem_nmA.mp f with h |h
  ·exact xf7 c (e c h)
  ·rw[h];exact xio _
 ·cases cs with
  |nil=>exact .inl (by rw[xf1];rfl)
  |cons c r=>exact .inr ⟨c,mem_nmA.mpr (.inl (by simp)),e c (by simp)⟩
theorem xps{cs:List Nat}{a:Nat}{b:Int}{k:Nat}(i:cs.length<=4)(f:∀c∈cs,c∈five):Name (ofL (nmB cs a b k)):=by
 refine xny (by rw[xf0];omega) (by rw[xf0];omega) (λc e=>?_) ?_
 ·unfold nmB at e
  rcases zMA e with e |e
  ·rcases mem_nmA.mp e with h |h
   ·exact xf7 c (f c h)
   ·rw[h];exact xio _
  ·rw[(List.mem_replicate.mp e).2];decide
 ·by_cases g:k%2=0
  ·cases cs with
   |nil=>exact .inl (by rw[xf0,g];rfl)
   |cons c r=>exact .inr ⟨c,by unfold nmB;exact List.mem_append_left _ (mem_nmA.mpr (.inl (by simp))),f c (by simp)⟩
  ·refine .inr ⟨113,?_,by decide⟩
   unfold nmB;exact List.mem_append_right _ (List.mem_replicate.mpr ⟨by omega,rfl⟩)
theorem nmsA{cs:List Nat}{a:Nat}{b:Int}(h:cs.length<=4)(i:∀c∈cs,c∈five):xqf ((List.range 26).map λk=>ofL (nmA cs a b k)):=by
 refine⟨by simp,xil λk j f g e=>xnw f g (congrArg L e),λz hz=>?_⟩;obtain⟨k,_,rfl⟩:=zMP hz;exact xpt h i
theorem nmsB{cs:List Nat}{a:Nat}{b:Int}(h:cs.length<=4)(i:∀c∈cs,c∈five):xqf ((List.range 26).map λk=>ofL (nmB cs a b k)):=by
 refine⟨by simp,xil λk j f g e=>xr9 f g (congrArg L e),λz hz=>?_⟩;obtain⟨k,_,rfl⟩:=zMP hz;exact xps h i
theorem xo5(x:Str){j:Int}(h0:0<=j)(a:j<=x.length):Txt.slice x none (some j)=ofL ((L x).take j.toNat):=by
 have e:Txt.slice x none (some j)=StrLaws.sliceText x none (some j):=rfl;rw[e,StrLaws.sliceText_to ⟨h0,by rw[show x.cps.toList.length=x.length by simp[Str.length]];exact a⟩];show ofL ((((L x).drop 0).take (j-0).toNat))=_;rw[List.drop_zero,Int.sub_zero]
theorem xlt(x:Str){j:Int}(h0:0<=j)(a:j<=x.length):Txt.slice x (some j) none=ofL ((L x).drop j.toNat):=by
 have e:Txt.slice x (some j) none=StrLaws.sliceText x (some j) none:=rfl;rw[e,StrLaws.sliceText_from ⟨h0,by rw[show x.cps.toList.length=x.length by simp[Str.length]];exact a⟩];apply xox;show((L x).drop j.toNat).take _=(L x).drop j.toNat;refine zTL ?_;rw[List.length_drop];show(L x).length-j.toNat<=(((L x).length:Int)-j).toNat;omega
theorem xn5{i:Int}(h0:0<=i)(h:i<26):atI (S "abcdefghijklmnopqrstuvwxyz").cps.toList i=some (97+i.toNat):=by
 have all:∀k,k<26->(S "abcdefghijklmnopqrstuvwxyz").cps.toList[k]?=some (97+k):=by walk_at"k"
 have a:i=((i.toNat:Nat):Int):=by omega
 have q:=xak (all i.toNat (by omega));rw[<- a]at q;exact q
theorem xsm{i:Int}(h0:0<=i)(h:i<5):∃c∈five,atI (S "qxzvw").cps.toList i=some c:=by
 have e:(S "qxzvw").cps.toList=five:=by walk_at"k"
 rw[e];exact xlk h0 h
theorem xnx(cs:List Nat)(a ch:Nat):ofL (cs.take a)++(⟨#[ch]⟩:Str)++ofL (cs.drop a)=ofL (cs.take a++ch::cs.drop a):=by
 apply xox;rw[xd6,xd6,xdx,xdx,xdx];show cs.take a++[ch]++cs.drop a=_;simp
end M
namespace L2
open PySem PySem.Spec PyProof.Rows
theorem xry{X:Cx}:OpR X (binaryOp .Mult) (λx y H Q=>∃i n,x=.str i/\y=.int n/\(n=0\/n=1)/\Q (.str (if n=1 then i else Str.empty)) H):=by
 intro pins s σ H x y v u Q I rx ry h;obtain⟨i,n,rfl,rfl,hn,q⟩:=h;obtain⟨t,rfl⟩:=rx;obtain⟨t',rfl⟩:=ry;refine SB.mul ?_ λt' k=>⟨.str _,H,I.tok k,⟨t',rfl⟩,?_⟩
 ·rcases hn with rfl |rfl
  ·exact⟨by decide,λh=>absurd (by decide) h,λh=>absurd (by decide) h⟩
  ·exact⟨by decide,λ_ h=>by simp at h,λ_ h=>by simp at h⟩
 ·have e:Txt.mul i n=if n=1 then i else Str.empty:=by
   rcases hn with rfl |rfl
   ·rfl
   ·unfold Txt.mul
    rw[if_neg (by decide),if_pos (by simp),if_pos rfl]
  rw[e];exact q
end L2
end
section
namespace M
open PySem L2
structure KWf(ks:List Kn):Prop where
 nd:(ks.map Kn.name).Nodup
 nm:∀k∈ks,Name k.name
 ref:∀(i:Nat) (k:Kn),ks[i]?=some k->∀p∈k.parts,p.2=S "num"\/∃j,∃k':Kn,j<i/\ks[j]?=some k'/\k'.name=p.2
 alt:∀k∈ks,k.rc=false->k.parts≠[]
 few:ks.length<=6
 pts:∀k∈ks,k.parts.length<=5
 pnd:∀k:Kn,k∈ks->(k.parts.map (λp:Str×Str=>p.1)).Nodup
 pnm:∀k:Kn,k∈ks->∀p∈k.parts,Name p.1
theorem xch{x:Str}(h:Name x):x≠S "num":=λe=>by
 rw[e]at h;exact absurd (show xl6 (S "num").cps.toList=true from h) (by walk_at"k")
theorem KWf.nil:KWf []:=⟨List.nodup_nil,(λ_ h=>nomatch h),(λi k h=>by simp at h),(λ_ h=>nomatch h),Nat.zero_le _,(λ_ h=>nomatch h),(λ_ h=>nomatch h),(λ_ h=>nomatch h)⟩
theorem xcm{α:Type}{f:α->Str}:∀{xs:List α} {i:Nat} {a:α},(xs.map f).Nodup->xs[i]?=some a->xs.find? (λz=>decide (f z=f a))=some a
 |x::xs,0,a,nd,h=>by
  simp at h;subst h;rw[List.find?_cons,zDT rfl]
 |x::xs,i+1,a,nd,h=>by
  have h':xs[i]?=some a:=by simpa using h
  rw[List.map_cons,List.nodup_cons]at nd;have b:f x≠f a:=λe=>nd.1 (by rw[e];exact List.mem_map_of_mem (zMG h'));rw[List.find?_cons,zDF b];exact xcm nd.2 h'
theorem KWf.at{ks:List Kn}(w:KWf ks){i:Nat}{k:Kn}(h:ks[i]?=some k):kAt ks k.name=some k:=xcm (f:=Kn.name) w.nd h
theorem KWf.no{ks:List Kn}{x:Str}(h:∀k∈ks,k.name≠x):kAt ks x=none:=by
 unfold kAt;rw[List.find?_eq_none];intro k a;simpa using h k a
theorem KWf.num{ks:List Kn}(w:KWf ks):kAt ks (S "num")=none:=KWf.no λk a=>xch (w.nm k a)
def KIn(ks:List Kn)(n:Nat)(x:Str):Prop:=x=S "num"\/∃j k,j<n/\ks[j]?=some k/\k.name=x
theorem KIn.mono{ks:List Kn}{n m:Nat}{x:Str}(h:KIn ks n x)(l:n<=m):KIn ks m x:=by
 rcases h with h |⟨j,k,a,h⟩
 ·exact .inl h
 ·exact .inr ⟨j,k,by omega,h⟩
theorem KIn.ap{ks more:List Kn}{n:Nat}{x:Str}(h:KIn ks n x):KIn (ks++more) n x:=by
 rcases h with h |⟨j,k,b,a,c⟩
 ·exact .inl h
 ·exact .inr ⟨j,k,b,by rw[List.getElem?_append_left (zES a).1];exact a,c⟩
theorem KIn.of{ks:List Kn}{x:Str}(h:x=S "num"\/∃k∈ks,k.name=x):KIn ks ks.length x:=by
 rcases h with h |⟨k,b,h⟩
 ·exact .inl h
 ·obtain⟨j,a,e⟩:=zMI b
  exact .inr ⟨j,k,a,by rw[<- e];exact zGA a,h⟩
theorem KWf.snoc {ks:List Kn} (w:KWf ks) {k:Kn} (o:k.name ∉ks.map Kn.name) (n:Name k.name) (m:∀p∈k.parts,KIn ks ks.length p.2) (l:k.rc=false->k.parts≠[]) (r:ks.length<6) (j:k.parts.length<=5)
  (h:(k.parts.map (·.1)).Nodup) (g:∀p∈k.parts,Name p.1):KWf (ks++[k]):=by
 have c:∀{q:Kn->Prop},(∀z∈ks,q z)->q k->∀z∈ks++[k],q z:=λa b z hz=>by
  rcases zMA hz with hz |hz
  ·exact a z hz
  ·rw[zMO hz];exact b
 refine⟨?_,c w.nm n,?_,c w.alt l,by rw[zLA,List.length_singleton];omega,c w.pts j,c w.pnd h,c w.pnm g⟩
 ·rw[zAP]
  exact xj0 w.nd o
 ·intro i z hz p f
  by_cases hi:i<ks.length
  ·rw[List.getElem?_append_left hi]at hz
   exact KIn.ap (w.ref i z hz p f)
  ·rw[List.getElem?_append_right (by omega)]at hz
   have e:i-ks.length=0:=by
    have:=(zES hz).1;simp at this;omega
   rw[e]at hz;simp at hz;subst hz;exact(m p f).ap.mono (by omega)
def maxD:List Int->Int
 |[]=>0
 |n::ns=>max n (maxD ns)
theorem xj3:∀{ns:List Int} {n:Int},n∈ns->n<=maxD ns
 | m::ns,n,h=>by
  show n<=max m (maxD ns);rcases zMC h with rfl |h
  ·omega
  ·have:=xj3 h
   omega
theorem xhi:∀{ns:List Int},ns≠[]->(∀n∈ns,0<=n)->maxD ns∈ns
 |[n],_,h=>by
  have h0:=h n (by simp);show max n 0∈[n];rw[Int.max_eq_left h0];simp
 |n::m::ns,_,h=>by
  have a:=xhi (ns:=m::ns) (by simp) λx b=>h x (List.mem_cons_of_mem _ b);show max n (maxD (m::ns))∈n::m::ns;rcases Int.le_total n (maxD (m::ns)) with e |e
  ·rw[Int.max_eq_right e];exact List.mem_cons_of_mem _ a
  ·rw[Int.max_eq_left e];simp
theorem xn0{ns:List Int}{m:Int}(hn:ns≠[])(h0:∀n∈ns,0<=n)(a:m∈ns)(h:∀n∈ns,n<=m):m=maxD ns:=by
 have c:=xj3 a;have b:=h _ (xhi hn h0);omega
def szF:Nat->List Kn->Str->Int
 |0,_,_=>1
 |n+1,ks,x=>match kAt ks x with
  |none=>1
  |some k=>1+(if k.rc=true then (k.parts.map λp=>szF n ks p.2).sum else maxD (k.parts.map λp=>szF n ks p.2))
theorem xel{ks:List Kn}(e:∀k∈ks,k.parts.length<=5):∀(n:Nat) (x:Str),1<=szF n ks x/\szF n ks x<=6 ^ n
 |0,x=>by simp[szF]
 | n + 1,x=>by
  unfold szF;have u:(1:Int)<=6 ^ n:=Int.pow_pos (by decide);have w:(6:Int) ^ (n+1)=6*6 ^ n:=by rw[Int.pow_succ,Int.mul_comm]
  cases j:kAt ks x with
  |none=>simp only;omega
  | some k=>
   simp only;have c:=e k (zMF j)
   have all:∀m∈k.parts.map (λp=>szF n ks p.2),1<=m/\m<=6 ^ n:=λm b=>by
    obtain⟨p,_,rfl⟩:=zMP b;exact xel e n p.2
   have i:(k.parts.map (λp=>szF n ks p.2)).length<=5:=by rw[zLM];exact c
   generalize k.parts.map (λp=>szF n ks p.2)=ns at all i⊢
   have hs:∀(l:List Int),(∀m∈l,1<=m/\m<=(6:Int) ^ n)->0<=l.sum/\l.sum<=l.length*6 ^ n:=by
    intro l
    induction l with
    |nil=>intro _;simp
    |cons a r g=>
     intro h;have s:=h a (by simp);have o:=g λm b=>h m (List.mem_cons_of_mem _ b);rw[List.sum_cons,List.length_cons];push_cast;rw[Int.add_mul];omega
   have b:0<=maxD ns/\maxD ns<=6 ^ n:=by
    by_cases f:ns=[]
    ·subst f;simp[maxD];omega
    ·have:=all _ (xhi f λm b=>by have:=all m b;omega)
     omega
   have s:=hs ns all;have o:(ns.length:Int)*6 ^ n<=5*6 ^ n:=Int.mul_le_mul_of_nonneg_right (by omega) (by omega);split <;> omega
def KsSeq(H:Hp)(v:V)(ks:List Kn):Prop:=∃a vs,v=.ref a/\(H a=some (.lst vs)\/H a=some (.tup vs))/\RelDs H vs (ks.map Kn.d)
theorem KsSeq.same{H b:Hp}{v:V}{ks:List Kn}(h:KsSeq H v ks)(s:Same H b):KsSeq b v ks:=by
 obtain⟨a,vs,e,f,c⟩:=h;exact⟨a,vs,e,f.imp (s _ _) (s _ _),c.same s _⟩
theorem KWf.ksAt{ks:List Kn}(w:KWf ks){H:Hp}{v:V}(h:RelD H v (xcz ks)):KsAt H v ks:=⟨h,by have:=w.few;omega,λk a=>by have:=w.pts k a;omega⟩
theorem KsAt.seq{H:Hp}{v:V}{ks:List Kn}(h:KsAt H v ks):KsSeq H v ks:=by
 obtain⟨a,vs,e,c,b⟩:=h.1;exact⟨a,vs,e,.inr c,b⟩
def xft:Option Kn->Str
 |some k=>k.sort
 |none=>S "num"
end M
namespace L2
open PySem PySem.Spec PyProof.Rows
theorem xt0{X:Cx}{b it:Expr}{e c:TI}(g:PI X b it e)(f:PI X b it c):PI X b it (λσ H R=>e σ H R\/c σ H R):=λa s σ H R I h=>by
 rcases h with h |h
 ·exact g a s σ H R I h
 ·exact f a s σ H R I h
end L2
namespace L2
theorem xeg{σ:St}{H:Hp}{A B:Hp->Prop}(h:A H):tYes σ H (λb a=>if b=true then A a else B a):=by
 unfold tYes;show if true=true then A H else B H;rw[if_pos rfl];exact h
end L2
namespace M
open PySem L2
theorem Fed.put{f p:Addr}{H c:Hp}(h:Fed f H c)(i:H p=none)(j:p≠f)(o:HO):Fed f H (upd c p o):=by
 obtain⟨s,x,y,e⟩:=h;refine⟨λb u a g=>?_,x,y,?_⟩
 ·rw[xaw (neN a i)]
  exact s b u a g
 ·rw[xaw (Ne.symm j)]
  exact e
theorem xcq{H:Hp}{p:Addr}{us:List V}(h:H p=some (.lst us))(o:HO):∀b vs,H b=some (.tup vs)->upd H p o b=some (.tup vs):=λb vs a=>by
 rw[xaw λe=>by rw[e,h]at a;cases a];exact a
theorem xhh{ks:List Kn}{r:Int}(h0:0<=r)(h:r<1+(ks.length:Int)):∃x,atI ([V.str (S "num")]++(ks.map Kn.name).map V.str) r=some (.str x)/\KIn ks ks.length x:=by
 have e:[V.str (S "num")]++(ks.map Kn.name).map V.str=(S "num"::ks.map Kn.name).map V.str:=rfl;obtain⟨z,hz,b⟩:=xlk (cs:=(S "num"::ks.map Kn.name).map V.str) h0 (by rw[zLM,List.length_cons,zLM];push_cast;omega);obtain⟨y,a,rfl⟩:=zMP hz;refine⟨y,by rw[e];exact b,?_⟩;rcases zMC a with rfl |a
 ·exact .inl rfl
 ·obtain⟨k,c,rfl⟩:=zMP a
  exact KIn.of (.inr ⟨k,c,rfl⟩)
theorem xko{ys:List Str}{i:Nat}(h:i<ys.length):atI (ys.map V.str) (0+(i:Int))=some (.str ys[i]):=by
 rw[Int.zero_add];exact xak (by rw[zGM,zGA h];rfl)
theorem xu1{a:List Str}(h:a.length=26):cutV (a.map V.str) (some 8) (some 12)=((a.drop 8).take 4).map V.str:=by
 unfold cutV HT.sIx;rw[zLM,h,List.map_take,List.map_drop];rfl
theorem xik{a:List Str}(h:a.Nodup){i:Nat}(hi:i<a.length):a[i] ∉a.take i:=λb=>by
 obtain⟨j,c,e⟩:=zMI b;rw[List.length_take]at c;rw[List.getElem_take]at e;have:=(List.getElem_inj h).mp e;omega
def xu3(nms:List Str)(ks:List Kn):Prop:=KWf ks/\ks.length<=4/\ks.map Kn.name=nms.take ks.length/\∀k∈ks,k.parts.length<=4/\k.parts.map (·.1)=((nms.drop 8).take 4).take k.parts.length
theorem xum{A:Around}{k:Nat}(a:Room k A):A.units+200<cLine:=by
 have:=a.un;omega
def nuT:Nat->List Kn->Str->D
 |0,_,_=>tNum 0
 | n+1,ks,x=>match kAt ks x with
  |none=>tNum 0
  |some k=>if k.rc=true then tRec x (k.parts.map λp=>nuT n ks p.2) else match k.parts with
   |[]=>tNum 0
   |p::_=>tTag x p.1 (nuT n ks p.2)
def nuV:Nat->List Kn->Str->D
 |0,_,_=>.int 0
 | n+1,ks,x=>match kAt ks x with
  |none=>.int 0
  |some k=>if k.rc=true then .tup [.str x,.tup (k.parts.map λp=>nuV n ks p.2)] else match k.parts with
   |[]=>.int 0
   |p::_=>.tup [.str x,.str p.1,nuV n ks p.2]
theorem KIn.look{ks:List Kn}(a:KWf ks){m:Nat}{x:Str}(h:KIn ks m x):(x=S "num"/\kAt ks x=none)\/∃j k,m=j+1/\kAt ks x=some k/\k.name=x/\k∈ks/\∀p∈k.parts,KIn ks j p.2:=by
 rcases h with rfl |⟨j,k,f,b,rfl⟩
 ·exact .inl ⟨rfl,a.num⟩
 ·refine .inr ⟨m-1,k,by omega,a.at b,rfl,zMG b,λp e=>?_⟩
  rcases a.ref j k b p e with z |⟨i,c,hi,z⟩
  ·exact .inl z
  ·exact .inr ⟨i,c,by omega,z⟩
def NuAt (ks:List Kn) (m:Nat) (x:Str):Prop:=
  (x=S "num"/\kAt ks x=none/\nuT (m+1) ks x=tNum 0/\nuV (m+1) ks x=.int 0) ∨
  ∃ j k,m=j+1/\kAt ks x=some k/\k.name=x/\k∈ks/\(∀p∈k.parts,KIn ks j p.2)/\x≠S "num" ∧
    ((k.rc=true/\nuT (m+1) ks x=tRec x (k.parts.map λp=>nuT m ks p.2)/\nuV (m+1) ks x=.tup [.str x,.tup (k.parts.map λp=>nuV m ks p.2)]) ∨
     (k.rc=false/\∃p r,k.parts=p::r/\nuT (m+1) ks x=tTag x p.1 (nuT m ks p.2)/\nuV (m+1) ks x=.tup [.str x,.str p.1,nuV m ks p.2]))
theorem KIn.nu{ks:List Kn}(b:KWf ks){m:Nat}{x:Str}(h:KIn ks m x):NuAt ks m x:=by
 rcases h.look b with⟨rfl,e⟩ |⟨j,k,rfl,e,hn,c,i⟩
 ·refine .inl ⟨rfl,e,?_,?_⟩
  ·unfold nuT;rw[e]
  ·unfold nuV;rw[e]
 ·refine .inr ⟨j,k,rfl,e,hn,c,i,by rw[<- hn];exact xch (b.nm k c),?_⟩
  cases a:k.rc with
  | true=>
   refine .inl ⟨rfl,?_,?_⟩
   ·conv=>lhs;unfold nuT
    rw[e];show(if k.rc=true then _ else _)=_;rw[if_pos a]
   ·conv=>lhs;unfold nuV
    rw[e];show(if k.rc=true then _ else _)=_;rw[if_pos a]
  | false=>
   obtain⟨p,r,f⟩:∃p r,k.parts=p::r:=by
    cases g:k.parts with
    |nil=>exact absurd g (b.alt k c a)
    |cons p r=>exact⟨p,r,rfl⟩
   refine .inr ⟨rfl,p,r,f,?_,?_⟩
   ·conv=>lhs;unfold nuT
    rw[e];show(if k.rc=true then _ else _)=_;rw[if_neg (by rw[a];decide),f]
   ·conv=>lhs;unfold nuV
    rw[e];show(if k.rc=true then _ else _)=_;rw[if_neg (by rw[a];decide),f]
end M
end
section
namespace L2
open PySem PySem.Spec PyProof.Rows
theorem xvy{P:Program}{w:World}{k:Key}{v:Value}(h:(xby P w).is k v=true):RelV (kV k) v:=by
 cases k with
 |inl i=>
  have h':Value.isInt i v=true:=h;unfold Value.isInt at h';split at h' <;> simp_all [RelV,kV]
 |inr x=>
  have h':Value.isStrOf x v=true:=h;unfold Value.isStrOf at h';split at h' <;> simp_all [RelV,kV]
theorem KV.get{κ:Type}{kvs:List (κ×V)}{vs:List (κ×Value)}(r:KV kvs vs){i:Nat}{p:κ×V}{q:κ×Value}(a:kvs[i]?=some p)(b:vs[i]?=some q):p.1=q.1:=by
 unfold KV at r
 induction r generalizing i with
 |nil=>simp at a
 | cons h t c=>
  cases i with
  |zero=>
   simp at a b;subst a b;exact h.1
  |succ i=>exact c (by simpa using a) (by simpa using b)
end L2
end
section
namespace St
open PySem PySem.Spec PyProof.Rows
theorem met_nodup{ns:List Str}(nd:ns.Nodup):∀i,i<=ns.length->met (λi=>ns.getD i Str.empty) i=ns.take i
 |0,_=>rfl
 | i+1,h=>by
  rw[xfi,met_nodup nd i (by omega)];have e:ns.getD i Str.empty=ns[i]:=by simp[List.getD,zGA (show i<ns.length by omega)]
  show step_dedup (ns.take i) (ns.getD i Str.empty)=_;rw[e];unfold step_dedup;rw[if_neg,zTA,zGA (show i<ns.length by omega)]
  ·rfl
  ·intro l
   obtain⟨x,c,g⟩:=List.any_eq_true.mp l;have b:x=ns[i]:=by simpa using g
   subst b;obtain⟨j,f,a⟩:=List.getElem_of_mem c;rw[List.length_take]at f;rw[List.getElem_take]at a;have:=(List.getElem_inj nd).mp a;omega
end St
namespace L2
open PySem PySem.Spec PyProof.Rows
theorem xkp:∀{ns:List Str} {us:List Value},Vals (ns.map V.str) us->StrsAre us ns
 |[],_,h=>by cases h;exact .nil
 | x::r,_,h=>by
  cases h with
  |cons a b=>
   obtain⟨t,rfl⟩:=a;constructor;exact xkp b
def xrb(te:TE):TE:=λσ H Q=>te σ H λx H1=>∃p,∃ns:List Str,x=.ref p/\H1 p=some (.lst (ns.map V.str))/\ns.Nodup/\ns.length<=1000/\Q (.int ns.length) H1
theorem xnh {X:Cx} {e:Expr} {J:TE} {p1 n Z j:Pos} (hc:X.calm=true) (C:Gl X "len") (y:X.mg "len"=none) (z:Gl X "set") (w:X.mg "set"=none) (he:PE X e J)
  (f:starEach [e] X.env=[(false,eval e X.env)]:=by rfl)
  (g:starEach [Expr.Call (.Name "set" n) [e] [] j] X.env=[(false,eval (.Call (.Name "set" n) [e] [] j) X.env)]:=by rfl) :
  PE X (.Call (.Name "len" p1) [.Call (.Name "set" n) [e] [] j] [] Z) (xrb J):=by
 intro c s σ H Q I h;refine wpAny_Call_Name_kw (xfb I C y PySem.boot_len ?_ (by decide) (by decide));refine PyProof.Rows.callWith_builtin1 ?_ g rfl;rw[g];refine Calls.spliced_cons ?_;refine wpAny_Call_Name_kw (xfb I z w PyProof.Rows.boot_set ?_ (by decide) (by decide))
 refine PyProof.Rows.callWith_type1 (thn ((pc he pN f) j c s σ H (λvs l=>match vs with
  |[x]=>∃p,∃ns:List Str,x=.ref p/\l p=some (.lst (ns.map V.str))/\ns.Nodup/\ns.length<=1000/\Q (.int ns.length) l
  |_=>False) I h) λus s1 ⟨vs,l,U,m,q⟩=>?_) f rfl
 match vs,m,q with
 | [x],m,q=>
  obtain⟨p,ns,rfl,hp,r,a0,q⟩:=q;obtain⟨u,rfl,Y⟩:=xex m;cases Y;obtain⟨its,M,pl,hz⟩:=U.list (SqL.of (K:=X.K) hp);have i:ns.length=its.length:=by have:=M.length;rw[zLM]at this;exact this
  refine St.call_set_strs (ns:=ns) (I.ok.hd hc) pl.isList (by simpa using xkp M) (by show its.toArray.size+1<4096;rw[List.size_toArray];omega) λh2 tk hS hk=>Calls.spliced_nil ?_;obtain⟨o,es,ep,t,ho,G,hd,_,_,_,hf,hsz⟩:=hS
  have a:es.size=ns.length:=by
   rw[hsz];show(St.met _ _).length=_;have:its.toArray.size=ns.length:=by simp[i]
   rw[this,St.met_nodup r _ (Nat.le_refl _),List.take_length]
  refine call_len_set ho G hd hf (by rw[a];omega) ⟨.int ns.length,l,?_,⟨_,by rw[a]⟩,q⟩;exact U.kept λb u O=>hk b u (Heap.lt_size O) O
theorem xnk{X:Cx}:OpR X (compareOp .IsNot) (λx y H Q=>y=.bl true/\∃b,x=.bl b/\Q (.bl (!b)) H):=by
 intro pins s σ H x y v u Q I rx ry h;obtain⟨rfl,b,rfl,q⟩:=h;cases rx;cases ry;cases b <;> exact wpAny_pure (xbm I q rfl)
end L2
end
section
namespace M
open PySem L2
theorem xhp{ks:List Kn}{k:Kn}{x:Str}(h:kAt ks x=some k)(n:Nat):szF (n+1) ks x=1+(if k.rc=true then (k.parts.map λp=>szF n ks p.2).sum else maxD (k.parts.map λp=>szF n ks p.2)):=by
 conv=>lhs;unfold szF
 rw[h]
theorem xea {ks:List Kn} {x:Str} (h:kAt ks x=none):∀n,szF n ks x=1
  |0=>rfl
  | n + 1 => by conv => lhs;unfold szF
                rw[h]
theorem xo0{ks:List Kn}(w:KWf ks)(j:Nat):∀(x:Str),KIn ks j x->∀n,j+1<=n->szF n ks x=szF (j+1) ks x:=by
 induction j with
 |zero=>
  intro x h n hn;rcases h.look w with⟨rfl,e⟩ |⟨i,k,b,_⟩
  ·rw[xea e,xea e]
  ·cases b
 | succ j c=>
  intro x h n hn;rcases h.look w with⟨rfl,e⟩ |⟨i,k,b,e,_,_,f⟩
  ·rw[xea e,xea e]
  ·cases b
   obtain⟨m,rfl⟩:∃m,n=m+1:=⟨n-1,by omega⟩;have this:(k.parts.map λp=>szF m ks p.2)=k.parts.map λp=>szF (j+1) ks p.2:=List.map_congr_left λp a=>c p.2 (f p a) m (by omega);rw[xhp e,xhp e,this]
def sz(ks:List Kn)(x:Str):Int:=szF 7 ks x
theorem xmu{ks:List Kn}(w:KWf ks):sz ks (S "num")=1:=xea w.num _
theorem xth{ks:List Kn}(w:KWf ks)(x:Str):1<=sz ks x:=(xel w.pts 7 x).1
theorem xvh{ks:List Kn}(w:KWf ks)(x:Str):sz ks x<=279936:=(xel w.pts 7 x).2
def inSz(k:Kn)(f:Str->Int):Int:=if k.rc=true then (k.parts.map λp=>f p.2).sum else maxD (k.parts.map λp=>f p.2)
theorem xgr{k:Kn}{f g:Str->Int}(h:∀p∈k.parts,f p.2=g p.2):inSz k f=inSz k g:=by
 unfold inSz;rw[List.map_congr_left (g:=λp=>g p.2) h]
theorem xti{ks:List Kn}(w:KWf ks){i:Nat}{k:Kn}(h:ks[i]?=some k):sz ks k.name=1+inSz k (sz ks):=by
 have c:=w.few;have hi:i<ks.length:=(zES h).1;show szF 7 ks k.name=_;rw[xhp (w.at h)];show 1+inSz k (szF 6 ks)=_;rw[xgr (g:=sz ks)];intro p b;have a:KIn ks 5 p.2:=KIn.mono (n:=i) (w.ref i k h p b) (by omega);exact(xo0 w 5 p.2 a 7 (by omega)).symm
theorem xuh{ks more:List Kn}{x:Str}{k:Kn}(h:kAt ks x=some k):kAt (ks++more) x=some k:=by
 unfold kAt at h⊢;rw[List.find?_append,h];rfl
theorem xqk{ks more:List Kn}(w:KWf ks)(b:KWf (ks++more)):∀(n:Nat) (x:Str),KIn ks ks.length x->szF n (ks++more) x=szF n ks x
 |0,_,_=>rfl
 |n+1,x,h=>by
  rcases h.look w with⟨rfl,e⟩ |⟨i,k,f,e,_,_,c⟩
  ·rw[xea e,xea b.num]
  ·rw[xhp e,xhp (xuh e),List.map_congr_left (g:=λp=>szF n ks p.2) λp a=>xqk w b n p.2 ((c p a).mono (by omega))]
theorem xtj{ks more:List Kn}(w:KWf ks)(a:KWf (ks++more)){x:Str}(h:KIn ks ks.length x):sz (ks++more) x=sz ks x:=xqk w a 7 x h
def Fit(ks:List Kn):Prop:=∀k∈ks,sz ks k.name<=30
theorem Fit.nil:Fit []:=λ_ h=>nomatch h
theorem Fit.snoc{ks:List Kn}{k:Kn}(w:KWf ks)(a:KWf (ks++[k]))(f:Fit ks)(c:∀p∈k.parts,KIn ks ks.length p.2)(e:inSz k (sz ks)<=29):Fit (ks++[k]):=by
 intro z hz;rcases zMA hz with hz |hz
 ·rw[xtj w a (KIn.of (.inr ⟨z,hz,rfl⟩))]
  exact f z hz
 ·rw[zMO hz,xti a (i:=ks.length) (by simp),xgr (g:=sz ks) λp b=>xtj w a (c p b)]
  omega
def szR(ks:List Kn)(k:Kn):Key×V:=(Sum.inr k.name,.int (sz ks k.name))
def szK(ks:List Kn)(i:Nat):List (Key×V):=(Sum.inr (S "num"),.int 1)::(ks.take i).map (szR ks)
theorem xrf{ks:List Kn}(w:KWf ks)(i:Nat):(szK ks i).length<=7:=by
 have:=w.few;show((ks.take i).map _).length+1<=7;rw[zLM,List.length_take];omega
theorem xgz(ks:List Kn)(x:Str):∀l:List Kn,valV (l.map (szR ks)) (Sum.inr x)=(l.find? λk=>decide (k.name=x)).map λk=>.int (sz ks k.name)
 |[]=>rfl
 | k::l=>by
  by_cases h:k.name=x
  ·rw[List.map_cons,xb5 (by show(Sum.inr k.name:Key)=_;rw[h]),List.find?_cons_of_pos (by simpa using h)]
   rfl
  ·rw[List.map_cons,xb1 (by show ¬(Sum.inr k.name:Key)=_;exact λe=>h (Sum.inr.inj e)),List.find?_cons_of_neg (by simpa using h)]
   exact xgz ks x l
theorem xrg{ks:List Kn}(w:KWf ks){i:Nat}{x:Str}(h:KIn ks i x):valV (szK ks i) (Sum.inr x)=some (.int (sz ks x)):=by
 rcases h with rfl |⟨j,k,g,b,rfl⟩
 ·unfold szK
  rw[xb5 rfl,xmu w]
 ·unfold szK
  have c:=zMG b;rw[xb1 (λe=>xch (w.nm k c) (Sum.inr.inj e).symm),xgz];have a:((ks.take i).map Kn.name).Nodup:=w.nd.sublist ((List.take_sublist i ks).map _);rw[xcm (f:=Kn.name) a (i:=j) (by rw[List.getElem?_take_of_lt g];exact b)];rfl
theorem xmv{ks:List Kn}(w:KWf ks){i:Nat}{k:Kn}(h:ks[i]?=some k):valV (szK ks i) (Sum.inr k.name)=none:=by
 have c:=zMG h;unfold szK;rw[xb1 (λe=>xch (w.nm k c) (Sum.inr.inj e).symm),xgz];have hi:i<ks.length:=(zES h).1;rw[List.find?_eq_none.mpr]
 ·rfl
 ·intro z hz e
  have a:z.name=k.name:=by simpa using e
  have b:=xik w.nd (i:=i) (by rw[zLM];exact hi);refine b ?_;rw[<- List.map_take]
  have:(ks.map Kn.name)[i]'(by rw[zLM];exact hi)=k.name:=by
   rw[List.getElem_map];rw[(zES h).2]
  rw[this,<- a];exact List.mem_map.mpr ⟨z,hz,rfl⟩
theorem xre{ks:List Kn}(w:KWf ks){i:Nat}{k:Kn}(h:ks[i]?=some k):putK (szK ks i) (Sum.inr k.name) (.int (sz ks k.name))=szK ks (i+1):=by
 rw[xpa _ (xmv w h)];unfold szK;rw[zTA,h];simp[szR]
inductive B where
 |int (i:Int)
 |bl (b:Bool)
 |str (x:Str)
 |tup (es:List B)
mutual
def RelB(H:Hp):V->B->Prop
 |v,.int i=>v=.int i
 |v,.bl b=>v=.bl b
 |v,.str x=>v=.str x
 |v,.tup es=>∃a vs,v=.ref a/\H a=some (.tup vs)/\RelBs H vs es
def RelBs(H:Hp):List V->List B->Prop
 |vs,[]=>vs=[]
 |vs,e::es=>∃v r,vs=v::r/\RelB H v e/\RelBs H r es
end
mutual
theorem RelB.tups{H H':Hp}(s:∀b us,H b=some (.tup us)->H' b=some (.tup us)):∀{v:V} (e:B),RelB H v e->RelB H' v e
 |v,.int i,h=>h
 |v,.bl i,h=>h
 |v,.str x,h=>h
 |v,.tup es,⟨a,vs,e,ha,h⟩=>⟨a,vs,e,s _ _ ha,RelBs.tups s es h⟩
theorem RelBs.tups{H H':Hp}(s:∀b us,H b=some (.tup us)->H' b=some (.tup us)):∀{vs:List V} (es:List B),RelBs H vs es->RelBs H' vs es
 |vs,[],h=>h
 |vs,e::es,⟨v,r,q,h1,h2⟩=>⟨v,r,q,RelB.tups s e h1,RelBs.tups s es h2⟩
end
theorem RelB.same{H a:Hp}(s:Same H a){v:V}(e:B)(h:RelB H v e):RelB a v e:=RelB.tups (λb us q=>s b _ q) e h
theorem RelBs.length{H:Hp}:∀{vs:List V} {es:List B},RelBs H vs es->vs.length=es.length
 |vs,[],h=>by rw[show vs=[] from h];rfl
 |vs,e::es,⟨v,r,q,_,a⟩=>by rw[q,List.length_cons,List.length_cons,RelBs.length a]
theorem RelBs.get{H:Hp}:∀{vs:List V} {ds:List B} {i:Nat} {v:V},RelBs H vs ds->vs[i]?=some v->∃d,ds[i]?=some d/\RelB H v d
 |vs,[],i,v,h,e=>by rw[show vs=[] from h]at e;simp at e
 |vs,d::ds,0,v,⟨u,r,a,g,_⟩,e=>by
  subst a;simp at e;subst e;exact⟨d,rfl,g⟩
 |vs,d::ds,i+1,v,⟨u,r,a,_,f⟩,e=>by
  subst a;obtain⟨x,b,c⟩:=RelBs.get (i:=i) (v:=v) f (by simpa using e);exact⟨x,by simpa using b,c⟩
def B.isS:B->Str->Bool
 |.str y,x=>decide (y=x)
 |_,_=>false
def B.isNum:B->Bool
 |.int i=>decide (0<=i) && decide (i<4294967296)
 |_=>false
def allZ(f:Str->B->Bool):List (Str×Str)->List B->Bool
 |p::ps,w::ws=>f p.2 w && allZ f ps ws
 |_,_=>true
def xe8(f:Str->B->Bool)(x:Str)(ps:List (Str×Str)):List B->Bool
 |[a,.tup ws]=>a.isS x && (decide (ws.length=ps.length) && allZ f ps ws)
 |_=>false
def xgd(f:Str->B->Bool)(x:Str)(ps:List (Str×Str)):List B->Bool
 |[a,t,d]=>a.isS x && ps.any λp=>t.isS p.1 && f p.2 d
 |_=>false
def fit:Nat->List Kn->Str->B->Bool
 |0,_,_,e=>e.isNum
 | m+1,ks,x,e=>match kAt ks x with
  |none=>e.isNum
  |some k=>match e with
   |.tup es=>if k.rc=true then xe8 (fit m ks) x k.parts es else xgd (fit m ks) x k.parts es
   |_=>false
theorem xka{ks:List Kn}(a:KWf ks)(m:Nat)(e:B):fit m ks (S "num") e=e.isNum:=by
 cases m with
 |zero=>rfl
 |succ m=>unfold fit;rw[a.num]
theorem xj9{m:Nat}{ks:List Kn}{x:Str}{k:Kn}(h:kAt ks x=some k)(es:List B):fit (m+1) ks x (.tup es)=if k.rc=true then xe8 (fit m ks) x k.parts es else xgd (fit m ks) x k.parts es:=by
 show(match kAt ks x with |none=>_ |some k=>_)=_;rw[h]
theorem xok{m:Nat}{ks:List Kn}{x:Str}{k:Kn}(h:kAt ks x=some k){e:B}(a:∀es,e≠.tup es):fit (m+1) ks x e=false:=by
 show(match kAt ks x with |none=>_ |some k=>_)=_;rw[h]
 cases e with
 |tup es=>exact absurd rfl (a es)
 |_=>rfl
theorem xlw{f:Str->B->Bool}{x:Str}{ps:List (Str×Str)}:∀{es:List B},es.length≠2->xe8 f x ps es=false
 |[],_=>rfl
 |[_],_=>rfl
 |[_,_],h=>absurd rfl h
 |_::_::_::_,_=>by unfold xe8;split <;> simp_all
theorem xmg{f:Str->B->Bool}{x:Str}{ps:List (Str×Str)}:∀{es:List B},es.length≠3->xgd f x ps es=false
 |[],_=>rfl
 |[_],_=>rfl
 |[_,_],_=>rfl
 |[_,_,_],h=>absurd rfl h
 |_::_::_::_::_,_=>by unfold xgd;split <;> simp_all
theorem xo6{f:Str->B->Bool}{x:Str}{ps:List (Str×Str)}{a e:B}(h:a.isS x=false):xe8 f x ps [a,e]=false:=by
 cases e with
 |tup ws=>show(a.isS x && _)=false;rw[h];rfl
 |_=>rfl
theorem xqe{f:Str->B->Bool}{x:Str}{ps:List (Str×Str)}{a e d:B}(h:a.isS x=false):xgd f x ps [a,e,d]=false:=by
 show(a.isS x && _)=false;rw[h];rfl
theorem xo7{f:Str->B->Bool}{x:Str}{ps:List (Str×Str)}{a:B}{ws:List B}(h:ws.length≠ps.length):xe8 f x ps [a,.tup ws]=false:=by
 show(a.isS x && (decide (ws.length=ps.length) && _))=false;rw[zDF h];cases a.isS x <;> rfl
def zipB(f:Str->B->Bool)(ps:List (Str×Str))(ws:List B):List Bool:=List.zipWith (λp w=>f p.2 w) ps ws
theorem xll(f:Str->B->Bool):∀(ps:List (Str×Str)) (ws:List B),allZ f ps ws=(zipB f ps ws).all id
 |[],_=>rfl
 |_::_,[]=>rfl
 |p::ps,w::ws=>by
  show(f p.2 w && allZ f ps ws)=(f p.2 w && (zipB f ps ws).all id);rw[xll f ps ws]
theorem xgl{f:Str->B->Bool}{x:Str}{ps:List (Str×Str)}{a:B}{ws:List B}(h:a.isS x=true)(b:ws.length=ps.length):xe8 f x ps [a,.tup ws]=(zipB f ps ws).all id:=by
 show(a.isS x && (decide (ws.length=ps.length) && allZ f ps ws))=_;rw[h,zDT b,xll];rfl
theorem xmi{f:Str->B->Bool}:∀{ps:List (Str×Str)} {ws:List B} {i:Nat} {p:Str×Str} {w:B},ps[i]?=some p->ws[i]?=some w->(zipB f ps ws).take (i+1)=(zipB f ps ws).take i++[f p.2 w]:=by
 intro ps ws i p w b a
 have e:(zipB f ps ws)[i]?=some (f p.2 w):=by
  unfold zipB;rw[List.getElem?_zipWith,b,a]
 rw[zTA,e];rfl
theorem xoy{f:Str->B->Bool}{ps:List (Str×Str)}{ws:List B}:(zipB f ps ws).length<=ps.length:=by
 unfold zipB;rw[List.length_zipWith];omega
def tagB(f:Str->B->Bool)(t d:B)(ps:List (Str×Str)):List Bool:=(ps.filter λp=>t.isS p.1).map λp=>f p.2 d
theorem xkn(f:Str->B->Bool)(t d:B):∀(ps:List (Str×Str)),(tagB f t d ps).any id=ps.any λp=>t.isS p.1 && f p.2 d
 |[]=>rfl
 |p::ps=>by
  have a:=xkn f t d ps;unfold tagB at a⊢;rw[List.filter_cons,List.any_cons]
  cases h:t.isS p.1 with
  |true=>rw[if_pos rfl,List.map_cons,List.any_cons,a];rfl
  |false=>rw[if_neg (by decide),a];rfl
theorem xgx{f:Str->B->Bool}{x:Str}{ps:List (Str×Str)}{a t d:B}(h:a.isS x=true):xgd f x ps [a,t,d]=(tagB f t d ps).any id:=by
 show(a.isS x && _)=_;rw[h,xkn];rfl
theorem xho{f:Str->B->Bool}{t d:B}{ps:List (Str×Str)}{i:Nat}{p:Str×Str}(a:ps[i]?=some p):tagB f t d (ps.take (i+1))=tagB f t d (ps.take i)++(if t.isS p.1=true then [f p.2 d] else []):=by
 rw[zTA,a];unfold tagB;show((ps.take i++[p]).filter _).map _=_;rw[List.filter_append,zAP];congr 1;rw[List.filter_cons];cases t.isS p.1 <;> rfl
end M
end
section
namespace Nt
open PySem
section
variable {prog:Program}{w:World}{A:Around}{E:Value->Shared->Prop}{s:Shared}
theorem item {e it l:Addr} {i:Nat} {items:Array Value} {x old:Value} {Q:Value->Shared->Prop}
  (he:IsEnum s.heap e it i old) (hit:s.heap.IsTupleIter it l i) (hl:s.heap.IsTuple l items) (hx:items[i]?=some x) (hne:e≠it)
  (hQ:∀h',IsEnumOut h' e it ((i:Int)+1) x s.heap.objs.size->h'.IsTupleIter it l (i+1)->
   h'.get? s.heap.objs.size=some {cls:=.type "tuple",data:=.seq #[.int i s.toks,x]}->
   (∀b o,b≠e->b≠it->s.heap.get? b=some o->h'.get? b=some o)->Q (.ref s.heap.objs.size) {s with heap:=h',toks:=s.toks+1}) :
  wpAny (model prog w) A (Builtin.«enumerate.__next__» ⟨[.ref e],[]⟩) (λfin s'=>∃v,fin=.done (.ret v)/\Q v s') E s:=by
 obtain⟨hp,g,d,tk,os⟩:=s;have hlt:e<hp.objs.size:=Heap.lt_size he;have ni:=Ne.symm hne;show wpAny _ _ (field (.ref e) 2 >>= _) _ _ _;refine wpAny_bind (wpAny_field he rfl (x:=.ref it) rfl (wpAny_bind (Zt.next_item hit hl hx λh1 t1 b1=>?_)))
 replace b1:Heap.SameBut it hp h1:=b1
 have e1:IsEnum h1 e it i old:=(b1.2 e hne).trans he;show wpAny _ _ (field (.ref e) 3 >>= _) _ _ ⟨h1,g,d,tk,os⟩;refine wpAny_bind (wpAny_field e1 rfl (x:=rawInt i) rfl ?_);show wpAny _ _ (field (.ref e) 4 >>= _) _ _ ⟨h1,g,d,tk,os⟩;refine wpAny_bind (wpAny_field e1 rfl (x:=.none) rfl ?_);show wpAny _ _ (mkInt i >>= _) _ _ ⟨h1,g,d,tk,os⟩;refine wpAny_bind (wpAny_mkInt ?_);show wpAny _ _ (setField (.ref e) 3 (rawInt ((i:Int)+1)) >>= _) _ _ ⟨h1,g,d,tk+1,os⟩;refine wpAny_bind (wpAny_setField_rec e1 (by simp) λh2 e2 b2=>?_)
 replace b2:Heap.SameBut e h1 h2:=b2
 replace e2:IsEnum h2 e it ((i:Int)+1) old:=e2
 show wpAny _ _ (setField (.ref e) 4 .none >>= _) _ _ ⟨h2,g,d,tk+1,os⟩;refine wpAny_bind (wpAny_setField_rec e2 (by simp) λh3 e3 b3=>?_)
 replace b3:Heap.SameBut e h2 h3:=b3
 replace e3:IsEnum h3 e it ((i:Int)+1) old:=e3
 show wpAny _ _ (newTuple [.int i tk,x] >>= _) _ _ ⟨h3,g,d,tk+1,os⟩;refine wpAny_bind (wpAny_newTuple ?_);have z3:h3.objs.size=hp.objs.size:=by rw[b3.1,b2.1,b1.1]
 obtain⟨h4,q4⟩:∃h4,h4=h3.push {cls:=.type "tuple",data:=.seq #[.int i tk,x]}:=⟨_,rfl⟩;have e4:IsEnum h4 e it ((i:Int)+1) old:=by rw[q4];exact zPO _ e3
 have p4:h4.get? hp.objs.size=some {cls:=.type "tuple",data:=.seq #[.int i tk,x]}:=by rw[q4,<- z3];exact Heap.get?_push_size _ rfl
 have k4:∀b o,b≠e->b≠it->hp.get? b=some o->h4.get? b=some o:=λb o n1 n2 hb=>by
  rw[q4];exact zPO _ (b3.extBut b o n1 (b2.extBut b o n1 (b1.extBut b o n2 hb)))
 have t4:h4.IsTupleIter it l (i+1):=by
  rw[q4];obtain⟨o,ho,r⟩:=(t1.extBut b2.extBut ni).extBut b3.extBut ni;exact⟨o,zPO _ ho,r⟩
 rw[<- q4,z3];show wpAny _ _ (Builtin.SmallTypes.ownedTupleIsFree (.ref e) >>= _) _ _ ⟨h4,g,d,tk+1,os⟩;clear q4 e3 b3 e2 b2 e1 b1 t1 z3 h3 h2 h1;refine wpAny_bind ?_;unfold Builtin.SmallTypes.ownedTupleIsFree;refine wpAny_bind (wpAny_field e4 rfl (x:=.none) rfl (wpAny_pure ?_));simp only[if_true];refine wpAny_bind (wpAny_rule (wpAny_bind (wpAny_field e4 rfl (x:=old) rfl ?_)));refine wpAny_bind (wpAny_setField_rec e4 (by simp) λh5 e5 b5=>?_)
 replace b5:Heap.SameBut e h4 h5:=b5
 replace e5:IsEnum h5 e it ((i:Int)+1) x:=e5
 show wpAny _ _ (Builtin.SmallTypes.ownedTupleHandOut (.ref e) (.ref hp.objs.size) >>= _) _ _ ⟨h5,g,d,tk+1,os⟩;refine wpAny_bind ?_;unfold Builtin.SmallTypes.ownedTupleHandOut;refine wpAny_bind (wpAny_setField_rec e5 (by simp) λh6 e6 b6=>?_)
 replace b6:Heap.SameBut e h5 h6:=b6
 replace e6:IsEnumOut h6 e it ((i:Int)+1) x hp.objs.size:=e6
 refine wpAny_setField_rec e6 (by simp) λh7 e7 b7=>?_
 replace b7:Heap.SameBut e h6 h7:=b7
 replace e7:IsEnumOut h7 e it ((i:Int)+1) x hp.objs.size:=e7
 have on:∀b o,b≠e->h4.get? b=some o->h7.get? b=some o:=λb o n hb=>b7.extBut b o n (b6.extBut b o n (b5.extBut b o n hb));refine wpAny_bind (wpAny_letGo (wpAny_pure ⟨_,rfl,hQ h7 e7 ?_ (on _ _ (Nat.ne_of_gt hlt) p4) λb o n1 n2 hb=>on b o n1 (k4 b o n1 n2 hb)⟩));obtain⟨o,ho,r⟩:=t4;exact⟨o,on _ _ ni ho,r⟩
theorem next_item {e it l:Addr} {i:Nat} {items:Array Value} {x old:Value} {Q:Option Value->Shared->Prop}
  (h:IsEnum s.heap e it i old) (g:s.heap.IsTupleIter it l i) (n:s.heap.IsTuple l items) (m:items[i]?=some x) (f:e≠it)
  (p:∀h',IsEnumOut h' e it ((i:Int)+1) x s.heap.objs.size->h'.IsTupleIter it l (i+1)->
   h'.get? s.heap.objs.size=some {cls:=.type "tuple",data:=.seq #[.int i s.toks,x]}->
   (∀b o,b≠e->b≠it->s.heap.get? b=some o->h'.get? b=some o)->Q (some (.ref s.heap.objs.size)) {s with heap:=h',toks:=s.toks+1}) :
  wpAny (model prog w) A (pyNext (.ref e)) Q E s:=by
 have j:s.TypeIs (.ref e) "enumerate":=⟨_,h,rfl⟩;unfold pyNext
 exact wpAny_bind (wpAny_attempt (wpAny_callSpecial?_slot (name:=Str.ofString "__next__") j F.slot_enumerate_next
  (wpAny_call_entry F.slot_enumerate_next j F.entry_enumerate_next (item h g n m f λh' a b c k=>wpAny_pure (p h' a b c k)) (F.args_enumerate_next_1 _))))
theorem next_end {e it l:Addr} {i:Nat} {items:Array Value} {old:Value} {Q:Option Value->Shared->Prop} (p:A.handled=none)
  (c:IsEnum s.heap e it i old) (a:s.heap.IsTupleIter it l i) (n:s.heap.IsTuple l items) (j:items[i]?=none)
  (u:∀h',Heap.ExtBut it s.heap h'->Q none {s with heap:=h'}):wpAny (model prog w) A (pyNext (.ref e)) Q E s:=by
 have f:s.TypeIs (.ref e) "enumerate":=⟨_,c,rfl⟩;unfold pyNext
 refine wpAny_bind (wpAny_attempt (wpAny_callSpecial?_slot (name:=Str.ofString "__next__") f F.slot_enumerate_next
  (wpAny_call_entry F.slot_enumerate_next f F.entry_enumerate_next ?_ (F.args_enumerate_next_1 _))))
 show wpAny _ _ (field (.ref e) 2 >>= _) _ _ _;refine wpAny_bind (wpAny_field c rfl (x:=.ref it) rfl (wpAny_bind (Zt.next_end p a n j λh' y h g=>?_)));obtain⟨o,m,r⟩:=g;exact wpAny_bind (wpAny_isInstance (T:="StopIteration") (b:=true) ⟨o,m,r⟩ isSubtype_stop (wpAny_pure (u _ h)))
end
theorem meets_new (l:Addr) (items:Array Value) :
  Meets (Builtin.«enumerate.__new__» ⟨[.type "enumerate",.ref l],[]⟩) (λ_ R s=>s.heap.IsTuple l items ∧
   R (.ok (.ret (.ref (s.heap.push {cls:=.type "tuple_iterator",data:=.fields #[.ref l,.int 0 0]}).objs.size)))
    {s with heap:=(s.heap.push {cls:=.type "tuple_iterator",data:=.fields #[.ref l,.int 0 0]}).push {cls:=.type "enumerate",data:=.fields #[.none,.bool false,.ref s.heap.objs.size,rawInt 0,.none,.none]}}):=
 .of_wp λprog w A R s h=>by
  obtain⟨hp,g,d,tk,os⟩:=s;obtain⟨hl,h⟩:=h;have hsub:=sub_enumerate;have hL:Heap.IsTuple (Shared.heap ⟨hp,g,d,tk,os⟩) l items:=hl;obtain⟨ol,hol,hcl,nl,hdl⟩:=id hL
  wp_walk using AutoSeq1.wpAny_loadPart' hol
  refine wpAny_stack_any λst=>wpAny_pure ?_;split
  ·rename_i c _ _ _ _ _
   cases (c == Value.type "enumerate")
   ·wp_walk using AutoSeq1.wpAny_loadPart' hol,wpAny_pyIter_tuple hL
    exact⟨_,rfl,h⟩
   ·wp_walk using AutoSeq1.wpAny_loadPart' hol,wpAny_pyIter_tuple hL
    exact⟨_,rfl,h⟩
  ·wp_walk using AutoSeq1.wpAny_loadPart' hol,wpAny_pyIter_tuple hL
   exact⟨_,rfl,h⟩
section
variable {prog:Program}{w:World}{A:Around}{E:Value->Shared->Prop}{s:Shared}
theorem call {l:Addr} {items:Array Value} {Q:Value->Shared->Prop} (e:s.heap.IsTuple l items)
  (h:∀h',IsEnum h' (s.heap.objs.size+1) s.heap.objs.size 0 .none->h'.IsTupleIter s.heap.objs.size l 0->
   (∀b o,s.heap.get? b=some o->h'.get? b=some o)->Q (.ref (s.heap.objs.size+1)) {s with heap:=h'}) :
  wpAny (model prog w) A (call (.type "enumerate") [.ref l]) Q E s:=by
 refine callType_new F.called_enumerate (by decide) (F.typeCall_enumerate_1 _) (F.newCall_enumerate_1 _) (λa=>F.args_object_init_2 a _) F.entry_enumerate_new
  (meets_new l items) ⟨e,?_⟩
 have hz:(s.heap.push {cls:=.type "tuple_iterator",data:=.fields #[.ref l,.int 0 0]}).objs.size=s.heap.objs.size+1:=Heap.size_push ..;show _/\_;rw[hz]
 have c:IsEnum ((s.heap.push {cls:=.type "tuple_iterator",data:=.fields #[.ref l,.int 0 0]}).push
   {cls:=.type "enumerate",data:=.fields #[.none,.bool false,.ref s.heap.objs.size,rawInt 0,.none,.none]}) (s.heap.objs.size+1) s.heap.objs.size 0 .none:=by
  rw[<- hz];exact Heap.get?_push_size _ rfl
 exact⟨⟨_,c,rfl⟩,h _ c ⟨_,zPO _ (Heap.get?_push_size _ rfl),rfl,rfl⟩ λb o x=>zPO _ (zPO _ x)⟩
end
end Nt
end
section
namespace L2
open PySem PySem.Spec PyProof.Rows
section
variable {X:Cx}
theorem Inv.turnedM2{a:List (Addr×Obj)}{σ:St}{H:Hp}{s:Shared}{h':Heap}{t':Nat}{h:List Addr}(I:Inv X a σ H s)(k:∀b o,b ∉h->s.heap.get? b=some o->h'.get? b=some o)(i:∀b∈h,FpOk X a H b):Inv X a σ H {s with heap:=h',toks:=t'}:=by
 have g:∀b u,H b=some u->b ∉h:=λb u e z=>by rw[(i b z).1]at e;cases e
 refine I.step (g':=s.gens) (d':=s.drawn) (ch:=h) (λb p=>?_) (λb o _ _ f e _=>k b o f e) (λb o _ _ f e _=>⟨o.slots,k b o f e⟩) (λ_ _ _ _ n=>n)
  (λb o f e=>⟨o,k b o f e⟩) (λ_ _ e=>e) (λ_ _ _ e=>e) (λb ps e=>⟨#[],by rw[e];simp⟩) (λm l=>?_) (λb u e=>?_) I.bare
 ·obtain⟨J,C,G,y,x,w⟩:=i b p
  exact⟨y,C,x,w⟩
 ·obtain⟨o,es,ep,j,r⟩:=l
  exact⟨o,es,ep,k _ o (λz=>(i _ z).2.1 rfl) j,r⟩
 ·refine(I.hok b u e).stay (λc v f q=>k c v ?_ q) (λ_ q=>q) λ_ _ q=>q
  rcases f with z |z
  ·rw[z];exact g b u e
  ·exact g c _ z
def IteT(K:Fg)(a:Addr):It:=
 ⟨λi H=>∃xs x,SqT K H a xs/\xs[i]?=some x,λi H x H'=>∃p y,x=.ref p/\H p=none/\H'=upd H p (.tup [.int (i:Nat),y])/\∀xs,SqT K H a xs->xs[i]?=some y,λi H=>∃xs,SqT K H a xs/\xs.length<=i⟩
theorem xlr{P:Program}{w:World}{K:Fg}{y:List Expr}{x1}{pos:Pos}(a e it:Addr)(m:e≠it):Turn P w K (.Tuple y x1 pos) (IteT K a) [e,it] e (λi h=>(∃old,IsEnum h e it (i:Nat) old)/\h.IsTupleIter it a i) where
 mem:=by simp
 obj:=λi h st b g=>by
  obtain⟨⟨old,j⟩,l⟩:=st;rcases zMC g with z |z
  ·subst z
   exact⟨_,j,λv z=>by cases z⟩
  ·have J:b=it:=by simpa using z
   subst J;obtain⟨o,e,c,d⟩:=l;exact⟨o,e,λv z=>by rw[d]at z;cases z⟩
 keep:=λi h h' st k=>by
  obtain⟨⟨old,j⟩,l⟩:=st;exact⟨⟨old,k e (by simp) _ j⟩,l.at λo q=>k it (by simp) o q⟩
 item:=by
  intro X hP Z hK hc i f s σ H E I G st hg;subst hP Z hK;obtain⟨xs,x,C,Y⟩:=hg;obtain⟨its,M,p,hz⟩:=I.tuple C;obtain⟨u,hu,ru⟩:=M.get Y;obtain⟨⟨old,j⟩,l⟩:=st;refine Nt.next_item j l (show s.heap.IsTuple a its.toArray from p) (x:=u) (by simpa using hu) m λh1 a1 a2 a3 a5=>⟨_,rfl,?_⟩;refine wpAny_letOwnedTupleGo_enum a1 λh2 b1 b2=>?_;have U:e<s.heap.objs.size:=Heap.lt_size j;have a0:H s.heap.objs.size=none:=I.hok.fresh (Nat.le_refl _);have g1:(s.heap.push {cls:=.type "tuple",data:=.seq #[.int (i:Nat) s.toks,u]}).get? s.heap.objs.size=some {cls:=.type "tuple",data:=.seq #[.int (i:Nat) s.toks,u]}:=Heap.get?_push_size _ rfl
  have I1:Inv X f σ (upd H s.heap.objs.size (.tup [.int (i:Nat),x])) {s with heap:=s.heap.push {cls:=.type "tuple",data:=.seq #[.int (i:Nat) s.toks,u]},toks:=s.toks+1}:=
   I.laid (λb o q=>zPO _ q) (Nat.le_refl _) ⟨by show 2<=sizeLine;decide,[.int (i:Nat) s.toks,u],.cons ⟨_,rfl⟩ (.cons ru .nil),⟨_,g1,rfl,_,rfl,rfl⟩⟩
  have n:∀b∈[e,it],FpOk X f (upd H s.heap.objs.size (.tup [.int (i:Nat),x])) b:=λb g=>by
   refine⟨?_,(G b g).2⟩
   have lb:b≠s.heap.objs.size:=by
    rcases zMC g with z |z
    ·subst z;exact Nat.ne_of_lt U
    ·have J:b=it:=by simpa using z
     subst J;obtain⟨o,q,_⟩:=l;exact Nat.ne_of_lt (Heap.lt_size q)
   rw[xaw lb];exact(G b g).1
  have I2:Inv X f σ (upd H s.heap.objs.size (.tup [.int (i:Nat),x])) {s with heap:=h2,toks:=s.toks+1}:=
   I1.turnedM2 (t':=s.toks+1) (λb o g q=>by
    have O:b≠e/\b≠it:=by simpa using g
    have q1:h1.get? b=some o:=by
     by_cases z:b=s.heap.objs.size
     ·subst z
      have q':(s.heap.push {cls:=.type "tuple",data:=.seq #[.int (i:Nat) s.toks,u]}).get? s.heap.objs.size=some o:=q;rw[g1]at q';cases q';exact a3
     ·exact a5 b o O.1 O.2 (by have q2:(s.heap.push {cls:=.type "tuple",data:=.seq #[.int (i:Nat) s.toks,u]}).get? b=some o:=q;rwa[Heap.get?_push_ne _ b _ z]at q2)
    exact(b2.2 b O.1).trans q1) n
  refine⟨.ref s.heap.objs.size,_,I2,rfl,⟨_,x,rfl,a0,rfl,λys hy=>by rw[I.tuple_inj hy C];exact Y⟩,⟨⟨u,?_⟩,?_⟩,λb g=>(n b g).1⟩
  ·exact b1
  ·obtain⟨o,q,r⟩:=a2
   exact⟨o,(b2.2 it (Ne.symm m)).trans q,r⟩
 done:=by
  intro X hP Z hK hc i f s σ H E I G st hg;subst hP Z hK;obtain⟨xs,C,Y⟩:=hg;obtain⟨its,M,p,hz⟩:=I.tuple C;obtain⟨⟨old,j⟩,l⟩:=st;have hl:=M.length;obtain⟨f0,f1,f2,f3,f4,f5⟩:=G it (by simp);exact Nt.next_end (I.ok.hd hc) j l (show s.heap.IsTuple a its.toArray from p) (by simp;omega) λh' eb=>⟨rfl,I.turned (t':=s.toks) (λb o g q=>eb b o g q) f0 f1 f3 f4 f5⟩
 self:=λ_ _ _ _ _ st h=>by
  obtain⟨⟨old,j⟩,l⟩:=st;exact wpAny_pyIter_enum j h
def xul(K:Fg)(ta:TA):TI:=λσ H R=>ta σ H λvs H1=>∃a,vs=[.ref a]/\(∃xs,SqT K H1 a xs)/\R (IteT K a) H1
theorem xpe{a:Expr}{m:TA}{p pos:Pos}{i:List Expr}{o}{u:Pos}(J:Gl X "enumerate")(G:X.mg "enumerate"=none)(O:PA X [a] m)(hs:starEach [a] X.env=[(false,eval a X.env)]:=by rfl):PI X (.Tuple i o u) (.Call (.Name "enumerate" p) [a] [] pos) (xul X.K m):=by
 intro g s σ H R I h;refine Call_ (xfb I J G boot_enumerate (PyProof.Rows.callWith_type1 (thn (O pos g s σ H _ I h) λus c ⟨vs,Z,f,x,y⟩=>?_) hs rfl));obtain⟨l,e,⟨xs,C⟩,q⟩:=y;subst e
 cases x with
 |cons r w=>
  cases w;obtain rfl:=r;obtain⟨its,rv,pl,hz⟩:=f.tuple C;refine Nt.call (show c.heap.IsTuple l its.toArray from pl) λh' n Y U=>wpAny_pyIter_enum n ?_;refine⟨c.heap.objs.size+1,[c.heap.objs.size+1,c.heap.objs.size],_,_,Z,rfl,f.kept (t':=c.toks) U,xlr l _ _ (Nat.succ_ne_self _),⟨⟨_,n⟩,Y⟩,λb M=>?_,q⟩;have j:b=c.heap.objs.size+1\/b=c.heap.objs.size:=by simpa using M
  rcases j with z |z <;> subst z
  ·exact f.fpOk (Nat.le_succ _) (f.hok.fresh (Nat.le_succ _))
  ·exact f.fpOk (Nat.le_refl _) (f.hok.fresh (Nat.le_refl _))
end
end L2
end
section
end
section
end
section
end
section
end
section
end
section
namespace L2
open PySem PySem.Spec PyProof.Rows M
section
variable {X:Cx}
def xqo(K:Fg):R2:=λx y H Q=>∃a b xs ys,x=.ref a/\y=.ref b/\SqT K H a xs/\SqT K H b ys/\xs.length+ys.length<=sizeLine ∧
 (xs=[]->Q (.ref b) H)/\(xs≠[]->ys=[]->Q (.ref a) H)/\(xs≠[]->ys≠[]->∀p,H p=none->Q (.ref p) (upd H p (.tup (xs++ys))))
theorem xpi:OpR X (binaryOp .Add) (xqo X.K):=by
 intro c s σ H x y v u Q I r p h;obtain⟨a,b,xs,ys,rfl,rfl,G,C,hz,Y,U,O⟩:=h;by_cases f:xs=[]
 ·cases r
  cases p;obtain⟨its,M,p1,_⟩:=I.tuple G;obtain⟨e,r2,Z,_⟩:=I.tuple C;obtain⟨⟨cls,dd,data,sl⟩,w,z,n,hd⟩:=id p1;obtain⟨⟨J,m,o,l⟩,g,j,n2,i⟩:=id Z;simp only at z hd j i;subst z hd j i
  exact concat_meets ⟨_,w,rfl⟩ ⟨_,g,rfl⟩ noFill_tuple_add seq_tuple_add PySem.F.slot_tuple_add PySem.F.entry_tuple_add (PySem.F.args_tuple_add_2 _ _)
   (tuple_addW0 a b its.toArray e.toArray n n2 dd m sl l (by rw[M.nil_iff.mpr f];rfl)) ⟨w,g,⟨.ref b,H,I,rfl,Y f⟩⟩
 ·exact xr1 c s σ H _ _ v u Q I r p ⟨a,b,xs,ys,rfl,rfl,G,C,f,hz,U f,O f⟩
end
section
variable {ix:Cap}{tt:TT}{te:TE}{g:TG}{σ:St}{H:Hp}{Q:VK}
theorem xmd {K:Fg} {a:Addr} {xs:List V} (c:Nat->List V->Hp->Prop) (h0:c 0 [] H) (hn:xs.length<sizeLine) (j:∀i ys H,i<=xs.length->c i ys H->SqT K H a xs)
  (hs:∀i x ys H p,xs[i]?=some x->i<xs.length->ys.length<=i->c i ys H->H p=none->g (.ref p) (capt l σ) (upd H p (.tup [.int (i:Nat),x])) λh G=>Ext (capt l σ) h/\r h G λb o=>if b=true then s h o (NxtG c xs.length i ys) else NxtN c xs.length i ys o)
  (hd:∀ys H,ys.length<=xs.length->c xs.length ys H->∀D,H D=none->Q (.ref D) (upd H D (.lst ys))):xd9 (IteT K a) l g r s σ H Q:=by
 refine⟨λi m ys H=>m=xs.length-i/\i<=xs.length/\ys.length<=i/\c i ys H,⟨xs.length,by simp,Nat.zero_le _,Nat.le_refl _,h0⟩,?_⟩;rintro i m ys H ⟨rfl,hi,n,p⟩;have q:=j i ys H hi p;by_cases f:i<xs.length
 ·refine .inr ⟨⟨xs,xs[i],q,by simp[f]⟩,by omega,λv I y=>?_⟩
  obtain⟨u,z,rfl,C,rfl,w⟩:=y;exact hs i z ys _ u (w xs q) f n p C
 ·have e:i=xs.length:=by omega
  subst e;exact .inl ⟨⟨xs,q,Nat.le_refl _⟩,hd ys H n p⟩
end
section
variable {X:Cx}
def rNeS:R2:=λx y H Q=>∃(e:B) (z:Str),RelB H x e/\y=.str z/\Q (.bl (!e.isS z)) H
def rEqS:R2:=λx y H Q=>∃(e:B) (z:Str),x=.str z/\RelB H y e/\Q (.bl (e.isS z)) H
theorem decS(y z:Str):decide (V.str y=V.str z)=decide (y=z):=by
 by_cases h:y=z
 ·subst h;rw[zDT rfl,zDT rfl]
 ·rw[zDF h,zDF λq=>h (V.str.inj q)]
theorem xuy(z i:Str):decide (z=i)=decide (i=z):=by
 by_cases h:i=z
 ·subst h;rfl
 ·rw[zDF h,zDF (λq=>h q.symm)]
theorem xqt(l:X.A.units<cLine):OpR X (compareOp .NotEq) rNeS:=by
 intro b s σ H x y v u Q I f c h;obtain⟨e,z,g,rfl,q⟩:=h
 cases e with
 |int i=>
  cases g;exact xe1 b s σ H _ _ _ _ Q I f c ⟨rfl,by rw[zDF (by simp)];exact q⟩
 |bl i=>
  cases g;exact xe1 b s σ H _ _ _ _ Q I f c ⟨rfl,by rw[zDF (by simp)];exact q⟩
 |str i=>
  cases g;exact xe1 b s σ H _ _ _ _ Q I f c ⟨rfl,by rw[decS];exact q⟩
 |tup es=>
  obtain⟨a,vs,rfl,m,_⟩:=g;obtain rfl:v=.ref a:=f;obtain⟨t,rfl⟩:=c;obtain⟨its,_,j,_⟩:=I.tuple (SqT.of (K:=X.K) m);exact PySem.EqBoolInt.of_rcne (SeqAt.RcNeAt.tuple_str z t j l) ⟨.bl true,H,I,rfl,q⟩
theorem xt7(l:X.A.units<cLine):OpR X (compareOp .Eq) rEqS:=by
 intro b s σ H x y v u Q I f c h;obtain⟨e,z,rfl,g,q⟩:=h
 cases e with
 |int i=>
  cases g;exact xa0 b s σ H _ _ _ _ Q I f c ⟨rfl,by rw[zDF (by simp)];exact q⟩
 |bl i=>
  cases g;exact xa0 b s σ H _ _ _ _ Q I f c ⟨rfl,by rw[zDF (by simp)];exact q⟩
 |str i=>
  cases g;exact xa0 b s σ H _ _ _ _ Q I f c ⟨rfl,by rw[decS,xuy];exact q⟩
 |tup es=>
  obtain⟨a,vs,rfl,m,_⟩:=g;obtain rfl:u=.ref a:=c;obtain⟨t,rfl⟩:=f;obtain⟨its,_,j,_⟩:=I.tuple (SqT.of (K:=X.K) m);exact PySem.EqBoolInt.of_rc (SeqAt.RcAt.str_tuple z t j l) ⟨.bl false,H,I,rfl,q⟩
theorem xt6:OpR X (compareOp .Is) (λx y H Q=>y=.bl true/\∃b,x=.bl b/\Q (.bl b) H):=by
 intro a s σ H x y v u Q I e c h;obtain⟨rfl,b,rfl,q⟩:=h;cases e;cases c;cases b <;> exact wpAny_pure (xbm I q rfl)
theorem xqa(G:X.calm=true):xdy X (.builtin "any") (λxs H Q=>∃(p:Addr) (bs:List Bool),xs=[.ref p]/\SqL X.K H p (bs.map V.bl)/\Q (.bl (bs.any id)) H):=by
 intro a s σ H xs us Q I r h;obtain⟨p,bs,rfl,C,q⟩:=h;obtain⟨u,rfl,g⟩:=xex r;cases g;obtain⟨its,n,pl,hz⟩:=I.list C;have c:=n.length;rw[zLM]at c;have j:p<s.heap.objs.size:=by obtain⟨_,e,_⟩:=pl.isList;exact Heap.lt_size e
 refine call_any_walk (wpAny_pyIter_list pl.isList ?_);refine⟨s.heap.objs.size,_,_,_,_,_,λi=>bs.getD i true,rfl,Walks.list (A:=X.A.in1) (I.ok.hd G) s.heap.objs.size p (Nat.ne_of_lt j) its.toArray,⟨⟨_,Heap.get?_push_size _ rfl,rfl,rfl⟩,pl.isList.push _⟩,?_,?_⟩
 ·intro i v s' Q' E' z m
  have f:its[i]?=some v:=by simpa using z
  have hi:i<bs.length:=by
   have:=(zES f).1;omega
  obtain⟨u',e,g⟩:=n.get (i:=i) (x:=V.bl bs[i]) (by rw[zGM,zGA hi] <;> rfl);rw[f]at e;cases e;cases g;dsimp only at m;rw[List.getD_eq_getElem?_getD,zGA hi]at m;exact wpAny_truthy_bool m
 ·intro h' w y
  have I1:Inv X a σ H {s with heap:=s.heap.push {cls:=.type "list_iterator",data:=.fields #[.ref p,.int 0 0]}}:=I.kept (t':=s.toks) λb o e=>zPO _ e;obtain⟨Y,U,f2,O,M,J⟩:=I.fpOk (b:=s.heap.objs.size) (Nat.le_refl _) (I.hok.fresh (Nat.le_refl _));have Z:Inv X a σ H {s with heap:=h',toks:=w}:=I1.turned (λb o l e=>y b o (by simpa using l) e) Y U O M J;refine⟨.bl _,H,Z,rfl,?_⟩
  have e:(List.range its.toArray.size).any (λi=>bs.getD i true)=bs.any id:=by
   rw[List.size_toArray,<- c];rw[Bool.eq_iff_iff];simp only[List.any_eq_true,List.mem_range,id];constructor
   ·rintro⟨i,hi,h⟩
    rw[List.getD_eq_getElem?_getD,zGA hi]at h;exact⟨bs[i],List.getElem_mem hi,h⟩
   ·rintro⟨b,l,h⟩
    obtain⟨i,hi,e⟩:=zMI l;refine⟨i,hi,?_⟩;rw[List.getD_eq_getElem?_getD,zGA hi];show bs[i]=true;rw[e];exact h
  rw[e];exact q
end
end L2
end
section
namespace PySem
open Sem (wp)
section
variable {prog:Program}{w:World}{A:Around}{E:Value->Shared->Prop}{s:Shared}
theorem xet {a:Addr} {xs:Array Value} {k:Nat} {sl:Array (Option Value)} {name:Str} {Q:Option Value->Shared->Prop}
  (hx:s.heap.get? a=some {cls:=.type "list",dict:=none,data:=.seq xs k,slots:=sl}) (hmiss:typeLookup (.type "list") name=pure none) (hname:(["__module__","__name__","__qualname__","__doc__","__annotations__"]:List Str).contains name=false) (hA:A.handled=none)
  (h:∀h' tk,(∀b o,s.heap.get? b=some o->h'.get? b=some o)->Q none {s with heap:=h',toks:=tk}) (hsz:name.length+100<=sizeLine) :
  wpAny (model prog w) A (getAttr? (.ref a) name) Q E s:=by
 obtain⟨hp,g,d,tk,os⟩:=s;have hT:∀tk',(⟨hp,g,d,tk',os⟩:Shared).TypeIs (.ref a) "list":=λ_=>⟨_,hx,rfl⟩;have f1:=sub_AttributeError;have f3:=F.slot_list_getattribute.lookup;have f4:=F.slot_list_getattribute.bind (.ref a);have f5:=am_list_getattr_none;unfold getAttr? getAttrBy? getAttrBy
 repeat (any_goals (first |assumption |exact hT _ |((with_reducible show wpAny _ _ (call (Value.builtin "list.__getattribute__") _ _) _ _ _);refine call_meets F.slot_list_getattribute (hT _) am_entry_list_getattribute (F.args_list_getattribute_2 _ _) (meets_getattribute_miss_list a xs k sl name _ hmiss hname hsz) ⟨hx,hA,λh' tk' e hx'=>?_⟩) |wp_step))
 obtain⟨t',u',he⟩:=hx'.there;show wpAny _ _ (getattributeRaised _ _ _ _ _ _ _) _ _ _;unfold getattributeRaised
 repeat (any_goals (first |assumption |wp_step))
 all_goals first |exact h _ _ hx'.keeps |skip
end
end PySem
namespace L2
open PySem PySem.Spec PyProof.Rows
theorem xbn:plainId "dict.update.loop"=true:=by walk_at"k"
theorem xcx:entryFor table "dict.update.loop"=some Builtin.«dict.update.loop»:=entryFor_of_fast (by kernel_rfl)
section
variable {prog:Program}{w:World}{A:Around}{K:Type}[DecidableEq K]{knd:KeyKind prog w K}
def PairsAt(knd:KeyKind prog w K)(h:Heap):List Value->List (K×Value)->Prop
 |[],[]=>True
 |it::its,p::ps=>(∃a key,it=.ref a/\h.IsTuple a #[key,p.2]/\knd.is p.1 key=true)/\PairsAt knd h its ps
 |_,_=>False
theorem PairsAt.keep{h h':Heap}:∀{its:List Value} {ps:List (K×Value)},PairsAt knd h its ps->(∀a xs,h.IsTuple a xs->h'.IsTuple a xs)->PairsAt knd h' its ps
 |[],[],_,_=>trivial
 |it::its,p::ps,⟨⟨a,b,e,f,c⟩,r⟩,k=>⟨⟨a,b,e,k _ _ f,c⟩,PairsAt.keep r k⟩
 |[],_::_,h,_=>h.elim
 |_::_,[],h,_=>h.elim
theorem xfn{h:Heap}{a d:Addr}{xs:Array Value}{kvs:List (K×Value)}(g:h.IsTuple a xs)(hd:h.DictOf knd d kvs):a≠d:=λe=>by
 subst e;obtain⟨o,i,j,_⟩:=g;obtain⟨t,_,_,f,c,_⟩:=hd;have b:=c.1;have:o=t:=Option.some.inj (i.symm.trans f);subst this;rw[j]at b;exact absurd (Value.type.inj b) (by decide)
theorem xfm{h:Heap}{a I l:Addr}{i:Nat}{xs:Array Value}(f:h.IsTuple a xs)(hd:h.IsListIter I l i):a≠I:=λe=>by
 subst e;obtain⟨o,g,j,_⟩:=f;obtain⟨t,c,b,_⟩:=hd;have:o=t:=Option.some.inj (g.symm.trans c);subst this;rw[j]at b;exact absurd (Value.type.inj b) (by decide)
theorem upd_loop {R:Result->Shared->Prop} {I l d:Addr} {its:List Value} {ps:List (K×Value)} (hh:A.in1.handled=none) (a0:l≠I) (a7:l≠d) (G:I≠d) :
    ∀(k i:Nat) (s:Shared) (f:List (K×Value)),its.length-i=k->i<=its.length->s.heap.IsListIter I l i->s.heap.IsList l its.toArray->s.heap.DictOf knd d f->PairsAt knd s.heap (its.drop i) (ps.drop i)->f.length+(its.length-i)<=sizeLine->
    (∀h' tk,h'.DictOf knd d (merged f (ps.drop i))->(∀b o,b≠d->b≠I->s.heap.get? b=some o->h'.get? b=some o)->R (.ok (.ret .none)) {s with heap:=h',toks:=tk})->
    codeAny (model prog w) A (.builtin "dict.update.loop" ⟨[.ref d,.ref I,rawInt i,.none],[]⟩) R s:=by
  intro k
  induction k with
  | zero=>
    intro i s f hk hi g hl hd j hsz hR;have C:i=its.length:=by omega
    have W:=Walks.list (prog:=prog) (w:=w) (A:=A.in1) hh I l a0 its.toArray;refine codeAny_builtin xcx ?_;rw[Around.under_plainId xbn _];show wpAny _ A.in1 (pyNext (.ref I) >>= _) _ _ s
    refine wpAny_bind (W.done s _ _ (by have e:its.toArray.size = i := by simp[C]
                                        rw[e];exact⟨g,hl⟩) λh' tk c=>?_)
    show wpAny _ _ (Builtin.Dict.addKeywords d [] >>= _) _ _ _;refine wpAny_bind (wpAny_pure (wpAny_pure ?_))
    have a5:ps.drop i=[]:=by
      rw[C,List.drop_length]at j;rw[C]
      cases hq:ps.drop its.length with
      |nil=>rfl
      |cons p r=>rw[hq]at j;exact j.elim
    refine hR h' tk ?_ λb o J n e=>c b o (by simpa using n) e;rw[a5];exact hd.at λo e=>c d o (by simpa using (Ne.symm G)) e
  | succ k ih=>
    intro i s f hk hi g hl hd j hsz hR;have m:i<its.length:=by omega
    have W:=Walks.list (prog:=prog) (w:=w) (A:=A.in1) hh I l a0 its.toArray;have a8:its.drop i=its[i]::its.drop (i+1):=List.drop_eq_getElem_cons m;rw[a8]at j
    obtain⟨p,r,z⟩:∃p r,ps.drop i=p::r:=by
      cases hq:ps.drop i with
      |nil=>rw[hq]at j;exact j.elim
      |cons p r=>exact⟨p,r,rfl⟩
    have Y:ps.drop (i+1)=r:=by rw[<- List.tail_drop,z];rfl
    rw[z]at j;obtain⟨⟨a,x,ea,U,a1⟩,y⟩:=j;refine codeAny_builtin xcx ?_;rw[Around.under_plainId xbn _];show wpAny _ A.in1 (pyNext (.ref I) >>= _) _ _ s;refine wpAny_bind (W.item i s _ _ (by simpa using m) ⟨g,hl⟩ λv h' tk hP u c=>?_)
    have hv:v=.ref a:=by
      have:its[i]?=some v:=by simpa using hP
      rw[zGA m,ea]at this;exact(Option.some.inj this).symm
    subst hv;have O:h'.IsTuple a #[x,p.2]:=U.at λo e=>c a o (by simpa using xfm U g) e;have a3:h'.DictOf knd d f:=hd.at λo e=>c d o (by simpa using (Ne.symm G)) e;obtain⟨oa,Z,ab,na,a9⟩:=id O;refine wpAny_bind (wpAny_holding (wpAny_bind (wpAny_tryCatch ?_)));unfold Builtin.Dict.pairItems;refine wpAny_bind (wpAny_typeOf ⟨oa,Z,ab⟩ ?_);rw[if_pos (by decide)];refine wpAny_bind (wpAny_seqItems Z a9 (wpAny_pure ?_));show wpAny _ _ (holding [x,p.2] (dictSet d x p.2)) _ _ _;refine wpAny_holding (wpAny_dictSet_pairs a1 a3 (λh2 aa h=>?_) (by omega));have M:h2.IsListIter I l (i+1)/\h2.IsList l its.toArray:=⟨u.1.at λo e=>(h.2 I G).trans e,u.2.at λo e=>(h.2 l a7).trans e⟩;refine wpAny_pure ⟨plainId_quiet xbn _,ih (i+1) _ _ (by omega) m M.1 M.2 aa ?_ ?_ λh3 a4 a2 a6=>?_⟩
    · rw[Y]
      exact y.keep λb xs J=>by
        have h1:h'.IsTuple b xs:=J.at λo e=>c b o (by simpa using xfm J g) e;exact h1.at λo e=>(h.2 b (xfn h1 a3)).trans e
    · have:=stored_length_le f p.1 p.2
      omega
    · refine hR h3 a4 ?_ λb o J n e=>a6 b o J n ((h.2 b J).trans (c b o (by simpa using n) e))
      rw[z];rw[Y]at a2;exact a2
end
theorem xim:typeLookup (.type "list") "keys"=pure none:=am_miss_of_fast (by kernel_rfl)
section
variable {prog:Program}{w:World}{A:Around}{E:Value->Shared->Prop}{s:Shared}{K:Type}[DecidableEq K]{knd:KeyKind prog w K}
theorem xix {l:Addr} {its:List Value} {n:Nat} {ps:List (K×Value)} {Q:Value->Shared->Prop} (hh:A.handled=none) (hl:s.heap.get? l=some {cls:=.type "list",data:=.seq its.toArray n}) (hp:PairsAt knd s.heap its ps) (hsz:its.length<=sizeLine)
  (h:∀h' tk,h'.DictOf knd s.heap.objs.size (merged [] ps)->(∀b o,s.heap.get? b=some o->h'.get? b=some o)->Q (.ref s.heap.objs.size) {s with heap:=h',toks:=tk}) :
  wpAny (model prog w) A (call (.type "dict") [.ref l]) Q E s:=by
 refine callType_codes (Q₁:=λobj s₁=>obj=.ref s.heap.objs.size/\s₁={s with heap:=s.heap.push {cls:=.type "dict",data:=.dict #[]}}) F.kt_called_dict (F.kt_typeCall_dict_1 _) F.entry_dict_init (kt_code_dict_new _ ⟨rfl,rfl⟩) ?_;rintro obj s₁ ⟨rfl,rfl⟩;have hnew:(s.heap.push {cls:=.type "dict",data:=.dict #[]}).DictOf knd s.heap.objs.size []:=Heap.DictOf.new s.heap;have ext0:∀b o,s.heap.get? b=some o->(s.heap.push {cls:=.type "dict",data:=.dict #[]}).get? b=some o:=λb o e=>zPO _ e;have hl0:=ext0 _ _ hl;have hT:(⟨s.heap.push {cls:=.type "dict",data:=.dict #[]},s.gens,s.drawn,s.toks,s.os⟩:Shared).TypeIs (.ref l) "list":=⟨_,hl0,rfl⟩;have hdl:l≠s.heap.objs.size:=λe=>absurd (Heap.lt_size hl) (by rw[e];exact Nat.lt_irrefl _);refine⟨hnew.typeIs,F.args_dict_init_2 _ _,?_⟩;unfold Builtin.«dict.__init__»;refine wpAny_bind ?_;unfold Builtin.Dict.selfAndRest;refine wpAny_bind (wpAny_notOrdered_dict hnew.typeIs ?_);show wpAny _ _ (pure (s.heap.objs.size,[Value.ref l])) _ _ _;refine wpAny_pure ?_;show wpAny _ _ (Builtin.Dict.updateFrom "dict.__init__" s.heap.objs.size (.ref l) [] .none) _ _ _;unfold Builtin.Dict.updateFrom;refine wpAny_bind (wpAny_typeOf hT ?_);rw[if_pos (by decide)];refine wpAny_bind (xet (sl:=#[]) hl0 xim (by walk_at"k") hh (λh1 tk1 k1=>?_) (by walk_at"k"));rw[if_pos (show(none:Option Value).isNone=true from rfl)];refine wpAny_bind (wpAny_rule ?_);have hl1:=k1 _ _ hl0;have hL1:h1.IsList l its.toArray:=⟨_,hl1,rfl,_,rfl⟩
 refine wpAny_bind (wpAny_pyIter_list hL1 (wpAny_pure ⟨plainId_quiet xbn _,?_⟩));have hsz1:s.heap.objs.size<h1.objs.size:=Heap.lt_size (k1 _ _ (Heap.get?_push_size _ rfl));have hlI:l<h1.objs.size:=Heap.lt_size hl1;have ext2:∀b o,h1.get? b=some o->(h1.push {cls:=.type "list_iterator",data:=.fields #[.ref l,.int 0 0]}).get? b=some o:=λb o e=>zPO _ e;refine upd_loop (knd:=knd) (A:=A.in1) (ps:=ps) (l:=l) (d:=s.heap.objs.size) (its:=its) hh (Nat.ne_of_lt hlI) hdl (Nat.ne_of_gt hsz1) its.length 0 _ [] (Nat.sub_zero _) (Nat.zero_le _) ⟨_,Heap.get?_push_size _ rfl,rfl,rfl⟩ (hL1.push _) (hnew.at λo e=>ext2 _ _ (k1 _ _ e)) (hp.keep λa xs ha=>ha.at λo e=>ext2 _ _ (k1 _ _ (ext0 _ _ e))) (by simpa using hsz) λh3 tk3 hd3 hk3=>?_;refine⟨rfl,h h3 tk3 hd3 λb o e=>hk3 b o ?_ ?_ (ext2 _ _ (k1 _ _ (ext0 _ _ e)))⟩
 ·exact λz=>absurd (Heap.lt_size e) (by rw[z];exact Nat.lt_irrefl _)
 ·exact λz=>absurd (Heap.lt_size e) (by rw[z];exact Nat.not_lt_of_gt hsz1)
end
def PairsV(H:Hp):List V->List (Key×V)->Prop
 |[],[]=>True
 |y::ys,kv::kvs=>(∃b,y=.ref b/\H b=some (.tup [kV kv.1,kv.2]))/\PairsV H ys kvs
 |_,_=>False
theorem PairsV.length{H:Hp}:∀{ys:List V} {kvs:List (Key×V)},PairsV H ys kvs->ys.length=kvs.length
 |[],[],_=>rfl
 |y::ys,a::kvs,⟨_,r⟩=>by rw[List.length_cons,List.length_cons,PairsV.length r]
 |[],_::_,h=>h.elim
 |_::_,[],h=>h.elim
section
variable {X:Cx}
theorem xg9{a:List (Addr×Obj)}{σ:St}{H:Hp}{s:Shared}(I:Inv X a σ H s):∀{ys:List V} {its:List Value} {kvs:List (Key×V)},Vals ys its->PairsV H ys kvs->∃ps,KV kvs ps/\PairsAt (xby X.prog X.w) s.heap its ps
 |[],_,[],r,_=>by cases r;exact⟨[],.nil,trivial⟩
 | y::ys,_,j::kvs,r,⟨⟨b,o,n⟩,rest⟩=>by
  subst o
  cases r with
  |cons h t=>
   obtain⟨ps,m,l⟩:=xg9 I t rest;obtain⟨c,g,i,_⟩:=I.tuple (SqT.of (K:=X.K) n);obtain⟨f,e,rfl,u,p⟩:=g.two;exact⟨(j.1,e)::ps,.cons ⟨rfl,p⟩ m,⟨b,f,h,i,xj4 u⟩,l⟩
 |[],_,_::_,_,h=>h.elim
 |_::_,_,[],_,h=>h.elim
theorem xme(hc:X.calm=true):xdy X (.type "dict") (λxs H Q=>∃a ys,∃kvs:List (Key×V),xs=[.ref a]/\H a=some (.lst ys)/\PairsV H ys kvs/\∀p,H p=none->Q (.ref p) (upd H p (.dK (xbi [] kvs)))):=by
 intro pins s σ H xs us Q I r h;obtain⟨a,ys,kvs,rfl,ha,hp,q⟩:=h;obtain⟨u,rfl,ru⟩:=xex r;obtain rfl:u=.ref a:=ru;obtain⟨hz,its,n,rv,hl⟩:=(show ObjOk X.prog X.w H s.heap a (.lst ys) from I.hok a _ ha);obtain⟨ps,hk,hpa⟩:=xg9 I rv hp;have hyl:=hp.length;refine xix (knd:=xby X.prog X.w) (I.ok.hd hc) hl hpa (by rw[<- rv.length];exact hz) λh' tk dd' k'=>?_
 have hz':(xbi [] kvs).length<=sizeLine:=by
  have:=xcr kvs [];rw[List.length_nil]at this;omega
 exact⟨.ref s.heap.objs.size,_,I.laid (a:=s.heap.objs.size) (o:=.dK (xbi [] kvs)) (t':=tk) k' (Nat.le_refl _) (xiw hz' (beq_eq_false_iff_ne.mpr (Ne.symm (Nat.ne_of_lt I.big))) (hk.merge .nil) dd'),rfl,q _ (I.hok.fresh (Nat.le_refl _))⟩
end
end L2
end
section
namespace M
open PySem L2
inductive Vk(ks:List Kn):Str->D->Prop
 |num (i:Int) (h:Nm i):Vk ks (S "num") (.int i)
 |rc {x:Str} {k:Kn} {ws:List D} (hk:kAt ks x=some k) (hr:k.rc=true) (hl:ws.length=k.parts.length) (h:∀(i:Nat) (w:D) (p:Str×Str),ws[i]?=some w->k.parts[i]?=some p->Vk ks p.2 w):Vk ks x (.tup [.str x,.tup ws])
 |al {x:Str} {k:Kn} {p:Str×Str} {w:D} (hk:kAt ks x=some k) (hr:k.rc=false) (hp:p∈k.parts) (h:Vk ks p.2 w):Vk ks x (.tup [.str x,.str p.1,w])
theorem xeh{ks:List Kn}(b:KWf ks){x:Str}{v:D}(c:x=S "num")(h:Vk ks x v):∃i,Nm i/\v=.int i:=by
 cases h with
 |num i hi=>exact⟨i,hi,rfl⟩
 |rc a=>rw[c,b.num]at a;cases a
 |al a=>rw[c,b.num]at a;cases a
theorem xmj{ks:List Kn}(e:KWf ks){x:Str}{k:Kn}{v:D}(c:kAt ks x=some k)(f:k.rc=true)(h:Vk ks x v):∃ws,ws.length=k.parts.length/\(∀(i:Nat) w p,ws[i]?=some w->k.parts[i]?=some p->Vk ks p.2 w)/\v=.tup [.str x,.tup ws]:=by
 cases h with
 |num i hi=>rw[e.num]at c;cases c
 |rc b a g h=>
  rw[c]at b;cases b;exact⟨_,g,h,rfl⟩
 |al b a=>
  rw[c]at b;cases b;rw[f]at a;cases a
theorem xmk{ks:List Kn}(e:KWf ks){x:Str}{k:Kn}{v:D}(c:kAt ks x=some k)(f:k.rc=false)(h:Vk ks x v):∃p∈k.parts,∃w,Vk ks p.2 w/\v=.tup [.str x,.str p.1,w]:=by
 cases h with
 |num i hi=>rw[e.num]at c;cases c
 |rc b a=>
  rw[c]at b;cases b;rw[f]at a;cases a
 |@al _ _ p w b a g h=>
  rw[c]at b;cases b;exact⟨p,g,w,h,rfl⟩
def FitB(ks:List Kn)(bs:List (Str×Str))(env:En):Prop:=∀p∈bs,∃v,env p.1=some v/\Vk ks p.2 v
theorem FitB.put{ks:List Kn}{bs:List (Str×Str)}{env:En}{y k:Str}{v:D}(h:FitB ks bs env)(c:∀p∈bs,p.1≠y)(e:Vk ks k v):FitB ks (bs++[(y,k)]) (env.put y v):=λp a=>by
 unfold En.put;rcases zMA a with a |a
 ·obtain⟨b,g,f⟩:=h p a
  exact⟨b,by rw[if_neg (c p a)];exact g,f⟩
 ·rw[zMO a]
  exact⟨v,by rw[if_pos rfl],e⟩
def Sg(s:Str):Prop:=s=S "+"\/s=S "-"\/s=S "*"\/s=S "<"\/s=S "="
def SgD(d:D):Prop:=∀s a b,d=tOpD s a b->Sg s
def Evs(ks:List Kn):Nat->En->D->D->Prop
 |0=>xfc
 |n+1=>λenv d v=>xfc env d v\/(NodeEv ks (Evs ks n) env d v/\SgD d)
theorem All2.imp3{α β:Type}{R c:α->β->Prop}(k:∀a b,R a b->c a b):∀{as:List α} {bs:List β},All2 R as bs->All2 c as bs
 |_,_,.nil=>.nil
 |_,_,.cons h t=>.cons (k _ _ h) (All2.imp3 k t)
theorem NodeEv.mono{ks:List Kn}{R n:En->D->D->Prop}(k:∀env d v,R env d v->n env d v){env:En}{d v:D}(h:NodeEv ks R env d v):NodeEv ks n env d v:=by
 rcases h with⟨s,a,b,x,y,g,l,r⟩ |⟨j,es,vs,m,g,r⟩ |⟨a,j,vs,f,o,i,g,r⟩ |⟨j,t,a,x,g,r⟩ |⟨a,rs,j,t,x,y,e,m,g,p,l,r⟩ |⟨a,b,c,x,g,l,r⟩
 ·exact .inl ⟨s,a,b,x,y,k _ _ _ g,k _ _ _ l,r⟩
 ·exact .inr (.inl ⟨j,es,vs,m,g.imp3 (k env),r⟩)
 ·exact .inr (.inr (.inl ⟨a,j,vs,f,o,i,k _ _ _ g,r⟩))
 ·exact .inr (.inr (.inr (.inl ⟨j,t,a,x,k _ _ _ g,r⟩)))
 ·exact .inr (.inr (.inr (.inr (.inl ⟨a,rs,j,t,x,y,e,m,k _ _ _ g,p,k _ _ _ l,r⟩))))
 ·exact .inr (.inr (.inr (.inr (.inr ⟨a,b,c,x,k _ _ _ g,k _ _ _ l,r⟩))))
theorem xl5{h:Str}{r:List D}(c:h≠S "op"):SgD (.tup (.str h::r)):=λs a b e=>by
 have g:=D.tup.inj e;have f:=(List.cons.inj g).1;exact absurd (D.str.inj f) c
theorem xvl{s:Str}{a b:D}(h:Sg s):SgD (tOpD s a b):=λg j i e=>by
 have f:=D.tup.inj e;have c:=(List.cons.inj (List.cons.inj f).2).1;rw[<- D.str.inj c];exact h
def TmOk(ks:List Kn)(n:Nat)(bs:List (Str×Str))(d:D)(x:Str):Prop:=∀env,FitB ks bs env->∃v,Evs ks n env d v/\Vk ks x v
theorem xol{ks:List Kn}{n:Nat}{env:En}{d v:D}(h:xfc env d v):Evs ks n env d v:=by
 cases n with
 |zero=>exact h
 |succ n=>exact .inl h
theorem xs5{ks:List Kn}{n:Nat}{bs:List (Str×Str)}{i:Int}(h:Nm i):TmOk ks n bs (tNum i) (S "num"):=λenv _=>⟨.int i,xol (.inl ⟨i,rfl,rfl⟩),.num i h⟩
theorem xs7{ks:List Kn}{n:Nat}{bs:List (Str×Str)}{y x:Str}(h:(y,x)∈bs):TmOk ks n bs (tBox y) x:=λenv a=>by
 obtain⟨v,c,b⟩:=a _ h;exact⟨v,xol (.inr ⟨y,c,rfl⟩),b⟩
theorem xu6{ks:List Kn}(c:KWf ks){n:Nat}{bs:List (Str×Str)}{s:Str}{a b:D}(hs:Sg s)(m:TmOk ks n bs a (S "num"))(l:TmOk ks n bs b (S "num")):TmOk ks (n+1) bs (tOpD s a b) (S "num"):=λenv e=>by
 obtain⟨u,p,g⟩:=m env e;obtain⟨v,o,f⟩:=l env e;obtain⟨i,hi,rfl⟩:=xeh c rfl g;obtain⟨j,h,rfl⟩:=xeh c rfl f;exact⟨_,.inr ⟨.inl ⟨s,a,b,i,j,p,o,hi,h,rfl,rfl⟩,xvl hs⟩,.num _ (xqu s i j)⟩
theorem xmr{ks:List Kn}{n:Nat}{bs:List (Str×Str)}{env:En}(c:FitB ks bs env):∀{es:List D} {ps:List (Str×Str)},All2 (λe (p:Str×Str)=>TmOk ks n bs e p.2) es ps->∃vs,All2 (Evs ks n env) es vs/\vs.length=ps.length/\∀(i:Nat) w p,vs[i]?=some w->ps[i]?=some p->Vk ks p.2 w
 |_,_,.nil=>⟨[],.nil,rfl,λi w p h=>by simp at h⟩
 | _,_,.cons h t=>by
  obtain⟨v,m,l⟩:=h env c;obtain⟨vs,j,g,f⟩:=xmr c t;refine⟨v::vs,.cons m j,by rw[List.length_cons,List.length_cons,g],λi w p a b=>?_⟩
  cases i with
  |zero=>
   simp at a b;subst a b;exact l
  |succ i=>exact f i w p (by simpa using a) (by simpa using b)
theorem xs4{ks:List Kn}{n:Nat}{bs:List (Str×Str)}{x:Str}{k:Kn}{es:List D}(c:kAt ks x=some k)(a:k.rc=true)(b:k.parts.length<=1000)(h:All2 (λe (p:Str×Str)=>TmOk ks n bs e p.2) es k.parts):TmOk ks (n+1) bs (tRec x es) x:=λenv f=>by
 obtain⟨vs,j,i,g⟩:=xmr f h;exact⟨_,.inr ⟨.inr (.inl ⟨x,es,vs,by rw[h.length];exact b,j,rfl,rfl⟩),xl5 (by walk_at"k")⟩,.rc c a i g⟩
theorem xiu{f:Str}:∀{l:List Str} {i:Nat},l.Nodup->l[i]?=some f->l.findIdx? (λz=>decide (z=f))=some i
 |[],i,_,h=>by simp at h
 |y::l,0,_,h=>by
  simp at h;subst h;simp[List.findIdx?_cons]
 |y::l,i+1,nd,h=>by
  have b:f∈l:=zMG (by simpa using h);have a:¬y=f:=λe=>by subst e;exact(List.nodup_cons.mp nd).1 b
  rw[List.findIdx?_cons,zDF a];have:=xiu (l:=l) (i:=i) (List.nodup_cons.mp nd).2 (by simpa using h);simp[this]
theorem xs6{ks:List Kn}(f:KWf ks){n:Nat}{bs:List (Str×Str)}{y:Str}{k:Kn}{a:D}{p:Str×Str}(c:kAt ks y=some k)(l:k.rc=true)(m:p∈k.parts)(h:TmOk ks n bs a y):TmOk ks (n+1) bs (tGet a p.1) p.2:=λenv r=>by
 obtain⟨v,u,s⟩:=h env r;obtain⟨ws,w,j,rfl⟩:=xmj f c l s;obtain⟨i,hi,e⟩:=zMI m;have b:i<ws.length:=by omega
 have o:=zMF c;have g:k.parts[i]?=some p:=by rw[<- e];exact zGA hi
 exact⟨ws[i],.inr ⟨.inr (.inr (.inl ⟨a,y,ws,p.1,k,i,u,c,xiu (f.pnd k o) (by rw[zGM,g];rfl),zGA b,rfl⟩)),xl5 (by walk_at"k")⟩,j i _ p (zGA b) g⟩
theorem xs3{ks:List Kn}{n:Nat}{bs:List (Str×Str)}{x:Str}{k:Kn}{a:D}{p:Str×Str}(e:kAt ks x=some k)(b:k.rc=false)(c:p∈k.parts)(h:TmOk ks n bs a p.2):TmOk ks (n+1) bs (tTag x p.1 a) x:=λenv f=>by
 obtain⟨v,i,g⟩:=h env f;exact⟨_,.inr ⟨.inr (.inr (.inr (.inl ⟨x,p.1,a,v,i,rfl,rfl⟩))),xl5 (by walk_at"k")⟩,.al e b c g⟩
theorem xq7 {ks:List Kn} (c:KWf ks) {n:Nat} {bs:List (Str×Str)} {x y:Str} {k:Kn} {a:D} {rs:List (Str×Str×D)} (u:kAt ks y=some k) (l:k.rc=false) (G:TmOk ks n bs a y) (s:rs.length<=1000) (nd:(rs.map (·.1)).Nodup)
  (h:∀p∈k.parts,∃z e,(p.1,z,e)∈rs/\(∀q∈bs,q.1≠z)/\TmOk ks n (bs++[(z,p.2)]) e x):TmOk ks (n+1) bs (xi8 a rs) x:=λenv b=>by
 obtain⟨v,O,M⟩:=G env b;obtain⟨p,m,w,j,rfl⟩:=xmk c u l M;obtain⟨z,e,o,hz,C⟩:=h p m;obtain⟨g,J,I⟩:=C _ (b.put hz j);obtain⟨i,hi,U⟩:=zMI o;have:=xcm (f:=λr:Str×Str×D=>r.1) (xs:=rs) (i:=i) (a:=(p.1,z,e)) nd (by rw[<- U];exact zGA hi);exact⟨g,.inr ⟨.inr (.inr (.inr (.inr (.inl ⟨a,rs,y,p.1,w,z,e,s,O,this,J,rfl⟩)))),xl5 (by walk_at"k")⟩,I⟩
theorem xu7{ks:List Kn}(j:KWf ks){n:Nat}{bs:List (Str×Str)}{x:Str}{a b c:D}(p:TmOk ks n bs a (S "num"))(o:TmOk ks n bs b x)(m:TmOk ks n bs c x):TmOk ks (n+1) bs (tIfD a b c) x:=λenv f=>by
 obtain⟨u,h,l⟩:=p env f;obtain⟨i,hi,rfl⟩:=xeh j rfl l;by_cases h0:i=0
 ·obtain⟨v,g,e⟩:=m env f
  exact⟨v,.inr ⟨.inr (.inr (.inr (.inr (.inr ⟨a,b,c,i,h,by rw[if_pos h0];exact g,rfl⟩)))),xl5 (by walk_at"k")⟩,e⟩
 ·obtain⟨v,g,e⟩:=o env f
  exact⟨v,.inr ⟨.inr (.inr (.inr (.inr (.inr ⟨a,b,c,i,h,by rw[if_neg h0];exact g,rfl⟩)))),xl5 (by walk_at"k")⟩,e⟩
def smS(f:Str->Int)(k:Kn):Int:=if k.rc=true then (k.parts.map λp=>f p.2).sum else match k.parts with |[]=>0 |p::_=>f p.2
def hiS(f:Str->Int)(k:Kn):Int:=if k.rc=true then maxD (k.parts.map λp=>f p.2) else match k.parts with |[]=>0 |p::_=>f p.2
theorem xhx{f g:Str->Int}{k:Kn}(h:∀p∈k.parts,f p.2=g p.2):smS f k=smS g k:=by
 unfold smS;rw[List.map_congr_left h]
 cases a:k.parts with
 |nil=>rfl
 |cons p r=>
  show(if k.rc=true then _ else f p.2)=(if k.rc=true then _ else g p.2);rw[h p (by rw[a];simp)]
theorem xiv{f g:Str->Int}{k:Kn}(h:∀p∈k.parts,f p.2=g p.2):hiS f k=hiS g k:=by
 unfold hiS;rw[List.map_congr_left h]
 cases a:k.parts with
 |nil=>rfl
 |cons p r=>
  show(if k.rc=true then _ else f p.2)=(if k.rc=true then _ else g p.2);rw[h p (by rw[a];simp)]
def smF:Nat->List Kn->Str->Int
 |0,_,_=>1
 |n+1,ks,x=>match kAt ks x with
  |none=>1
  |some k=>1+smS (smF n ks) k
def hiF:Nat->List Kn->Str->Int
 |0,_,_=>1
 |n+1,ks,x=>match kAt ks x with
  |none=>1
  |some k=>1+hiS (hiF n ks) k
theorem xd0{n:Nat}{ks:List Kn}{x:Str}(h:kAt ks x=none):smF (n+1) ks x=1:=by unfold smF;rw[h]
theorem xfg{n:Nat}{ks:List Kn}{x:Str}{k:Kn}(h:kAt ks x=some k):smF (n+1) ks x=1+smS (smF n ks) k:=by
 show(match kAt ks x with |none=>1 |some k=>1+smS (smF n ks) k)=_;rw[h]
theorem xd5{n:Nat}{ks:List Kn}{x:Str}(h:kAt ks x=none):hiF (n+1) ks x=1:=by unfold hiF;rw[h]
theorem xfj{n:Nat}{ks:List Kn}{x:Str}{k:Kn}(h:kAt ks x=some k):hiF (n+1) ks x=1+hiS (hiF n ks) k:=by
 show(match kAt ks x with |none=>1 |some k=>1+hiS (hiF n ks) k)=_;rw[h]
theorem xtq{ks:List Kn}(f:KWf ks):∀(m:Nat) (x:Str),KIn ks m x->smF (m+2) ks x=smF (m+1) ks x/\hiF (m+2) ks x=hiF (m+1) ks x:=by
 intro m
 induction m with
 |zero=>
  intro x h;rcases h.look f with⟨_,e⟩ |⟨j,k,c,_⟩
  ·exact⟨(xd0 e).trans (xd0 e).symm,(xd5 e).trans (xd5 e).symm⟩
  ·cases c
 | succ m g=>
  intro x h;rcases h.look f with⟨_,e⟩ |⟨j,k,c,b,hn,l,i⟩
  ·exact⟨(xd0 e).trans (xd0 e).symm,(xd5 e).trans (xd5 e).symm⟩
  ·cases c
   rw[xfg b,xfg b,xfj b,xfj b,xhx λp a=>(g p.2 (i p a)).1,xiv λp a=>(g p.2 (i p a)).2];exact⟨rfl,rfl⟩
def smK(ks:List Kn)(x:Str):Int:=smF 7 ks x
def hiK(ks:List Kn)(x:Str):Int:=hiF 7 ks x
theorem xtn{ks:List Kn}(b:KWf ks){m:Nat}{x:Str}(h:KIn ks m x)(c:m<=6):smF (m+1) ks x=smK ks x/\hiF (m+1) ks x=hiK ks x:=by
 have:∀k,smF (m+k+1) ks x=smF (m+1) ks x/\hiF (m+k+1) ks x=hiF (m+1) ks x:=λk=>by
  induction k with
  |zero=>exact⟨rfl,rfl⟩
  |succ k a=>
   have u:=xtq b (m+k) x (h.mono (by omega));exact⟨u.1.trans a.1,u.2.trans a.2⟩
 have u:=this (6-m);rw[show m+(6-m)+1=7 by omega]at u;exact⟨u.1.symm,u.2.symm⟩
theorem xkt{ks:List Kn}(a:KWf ks):smK ks (S "num")=1/\hiK ks (S "num")=1:=⟨xd0 a.num,xd5 a.num⟩
theorem xtp{ks:List Kn}(wf:KWf ks){x:Str}{k:Kn}(hk:kAt ks x=some k):smK ks x=1+smS (smK ks) k/\hiK ks x=1+hiS (hiK ks) k:=by
 have hm:=zMF hk
 have hx:k.name=x:=by
  have:=List.find?_some hk;exact of_decide_eq_true this
 have hin:KIn ks 6 x:=(KIn.of (.inr ⟨k,hm,hx⟩)).mono wf.few;rcases hin.look wf with⟨_,e⟩ |⟨j,k',e0,hk',hn,hm',hp⟩
 ·rw[e]at hk;cases hk
 ·cases e0
  rw[hk]at hk';cases hk';exact⟨(xfg (n:=6) hk).trans (congrArg (λz=>1+z) (xhx λp hp'=>(xtn wf (hp p hp') (by omega)).1)),(xfj (n:=6) hk).trans (congrArg (λz=>1+z) (xiv λp hp'=>(xtn wf (hp p hp') (by omega)).2))⟩
theorem xhy{ks:List Kn}(g:∀k∈ks,k.parts.length<=5):∀(n:Nat) (x:Str),(1<=smF n ks x/\smF n ks x<=6 ^ n)/\(1<=hiF n ks x/\hiF n ks x<=n+1)
 |0,x=>⟨⟨Int.le_refl _,Int.le_refl _⟩,⟨Int.le_refl _,Int.le_refl _⟩⟩
 | n + 1,x=>by
  have o:(1:Int)<=6 ^ n:=Int.pow_pos (by decide);have m:(6:Int) ^ (n+1)=6*6 ^ n:=by rw[Int.pow_succ,Int.mul_comm]
  cases b:kAt ks x with
  |none=>
   rw[xd0 b,xd5 b];exact⟨⟨Int.le_refl _,by rw[m];omega⟩,Int.le_refl _,by push_cast;omega⟩
  | some k=>
   rw[xfg b,xfj b];have j:=g k (zMF b);have f:=λy=>xhy g n y
   have hs:∀(l:List (Str×Str)),0<=(l.map λp=>smF n ks p.2).sum/\(l.map λp=>smF n ks p.2).sum<=l.length*6 ^ n:=by
    intro l
    induction l with
    |nil=>simp
    |cons a r c=>
     have h:=(f a.2).1;rw[List.map_cons,List.sum_cons,List.length_cons];push_cast;rw[Int.add_mul];omega
   have i:∀(l:List (Str×Str)),0<=maxD (l.map λp=>hiF n ks p.2)/\maxD (l.map λp=>hiF n ks p.2)<=n+1:=by
    intro l
    induction l with
    |nil=>show 0<=(0:Int)/\(0:Int)<=n+1;omega
    |cons a r c=>
     have h:=(f a.2).2;have e:maxD ((a::r).map λp=>hiF n ks p.2)=max (hiF n ks a.2) (maxD (r.map λp=>hiF n ks p.2)):=rfl;rw[e];omega
   have h:=hs k.parts;have w:(k.parts.length:Int)*6 ^ n<=5*6 ^ n:=Int.mul_le_mul_of_nonneg_right (by omega) (by omega);have u:=i k.parts;unfold smS hiS;push_cast
   cases k.rc with
   |true=>
    rw[if_pos rfl,if_pos rfl];refine⟨⟨?_,?_⟩,?_,?_⟩ <;> omega
   | false=>
    rw[if_neg (by decide),if_neg (by decide)]
    cases k.parts with
    |nil=>
     refine⟨⟨?_,?_⟩,?_,?_⟩ <;> dsimp only <;> omega
    |cons p r=>
     have s:=f p.2;refine⟨⟨?_,?_⟩,?_,?_⟩ <;> dsimp only <;> omega
theorem xff{ks:List Kn}(a:KWf ks)(x:Str):1<=smK ks x/\smK ks x<=279936/\1<=hiK ks x/\hiK ks x<=8:=by
 have:=xhy a.pts 7 x;have e:(6:Int) ^ 7=279936:=by decide
 unfold smK hiK;omega
end M
end
section
end
section
end
section
end
section
end
section
end
section
end
section
end
section
end
section
namespace M
open PySem L2
def byN(j:Nat):Str:=ofL [98,121,97+j]
theorem xst{i j:Nat}(h:byN i=byN j):i=j:=by
 have:=congrArg L h;unfold byN at this;rw[xdx,xdx]at this;simp at this;exact this
def NoBy(x:Str):Prop:=∀j:Nat,x≠byN j
theorem xvv{l:List Nat}(h:l[0]?≠some 98\/l[1]?≠some 121):NoBy (ofL l):=λj e=>by
 have:=congrArg L e;unfold byN at this;rw[xdx,xdx]at this;subst this;simp at h
theorem xj8{c:Nat}(h:c∈five):c≠98/\c≠121:=by
 revert h;unfold five;simp;omega
theorem xqw{cs:List Nat}(h:∀c∈cs,c∈five)(a:Nat)(b:Int)(k:Nat)(t:List Nat)(i:∀c∈t,c∈five):NoBy (ofL (nmA cs a b k++t)):=by
 apply xvv;unfold nmA
 cases g:cs.take a with
 |nil=>
  right;rw[List.nil_append,List.cons_append,List.getElem?_cons_succ];intro e;have f:=zMG e;rcases zMA f with f |f
  ·exact(xj8 (h _ (List.mem_of_mem_drop f))).2 rfl
  ·exact(xj8 (i _ f)).2 rfl
 |cons c r=>
  left;intro e;simp at e;have:c∈cs.take a:=by rw[g];simp
  exact(xj8 (h c (List.mem_of_mem_take this))).1 e
theorem xr8{cs:List Nat}{a:Nat}{b:Int}(e:∀c∈cs,c∈five):∀z∈((List.range 26).map λk=>ofL (nmA cs a b k)),NoBy z:=λz hz=>by
 obtain⟨k,_,rfl⟩:=zMP hz;have:=xqw e a b k [] (λ_ h=>nomatch h);rw[List.append_nil]at this;exact this
theorem xr6{cs:List Nat}{a:Nat}{b:Int}(f:∀c∈cs,c∈five):∀z∈((List.range 26).map λk=>ofL (nmB cs a b k)),NoBy z:=λz hz=>by
 obtain⟨k,_,rfl⟩:=zMP hz;unfold nmB;exact xqw f a b _ _ λc e=>by rw[List.eq_of_mem_replicate e];decide
theorem xp6{i:Nat}(h:i<8):atI (S "abcdefgh").cps.toList (i:Int)=some (97+i):=by
 have all:∀k,k<8->(S "abcdefgh").cps.toList[k]?=some (97+k):=by walk_at"k"
 exact xak (all i h)
theorem xqb(i:Nat):S "by"++(⟨#[97+i]⟩:Str)=byN i:=by
 apply xox;rw[xd6,show L (S "by")=[98,121] by walk_at"k"];rfl
def BxAt(H:Hp)(f:Addr)(bv:V)(bs:List (Str×Str)):Prop:=∃bl us,bv=.ref bl/\H bl=some (.lst us)/\RelDs H us (bs.map xkf)/\bl≠f
def xv8(bs:List (Str×Str))(m:Nat):Prop:=∀b∈bs,∀j,j<m->b.1≠byN j
def PNB(ks:List Kn):Prop:=∀k∈ks,∀p∈k.parts,NoBy p.1
structure TIn(H:Hp)(f:Addr)(kv bv:V)(ks:List Kn)(bs:List (Str×Str))(m:Nat):Prop where
 fd:∃p q:Int,H f=some (.lst [.int p,.int q])
 kd:RelD H kv (xcz ks)
 wf:KWf ks
 nb:PNB ks
 bx:BxAt H f bv bs
 nd:(bs.map (·.1)).Nodup
 bl:bs.length+m<=30
 fr:xv8 bs m
 kn:∀b∈bs,KIn ks 6 b.2
theorem TIn.same{H c:Hp}{f:Addr}{a b:V}{ks:List Kn}{bs:List (Str×Str)}{m:Nat}(h:TIn H f a b ks bs m)(s:Same H c):TIn c f a b ks bs m:=by
 obtain⟨p,q,i⟩:=h.fd;obtain⟨l,us,e,j,g,n⟩:=h.bx;exact⟨⟨p,q,s _ _ i⟩,h.kd.same s _,h.wf,h.nb,⟨l,us,e,s _ _ j,g.same s _,n⟩,h.nd,h.bl,h.fr,h.kn⟩
theorem TIn.fed{H c:Hp}{f:Addr}{a b:V}{ks:List Kn}{bs:List (Str×Str)}{m:Nat}(h:TIn H f a b ks bs m)(s:Fed f H c):TIn c f a b ks bs m:=by
 obtain⟨j,us,e,i,g,n⟩:=h.bx;exact⟨s.2,h.kd.tups (xaj h.fd s) _,h.wf,h.nb,⟨j,us,e,s.1 _ _ i n,g.tups (xaj h.fd s) _,n⟩,h.nd,h.bl,h.fr,h.kn⟩
theorem TIn.down{H:Hp}{f:Addr}{c e:V}{ks:List Kn}{bs:List (Str×Str)}{m a:Nat}(h:TIn H f c e ks bs m)(l:a<=m):TIn H f c e ks bs a:=
 ⟨h.fd,h.kd,h.wf,h.nb,h.bx,h.nd,by have:=h.bl;omega,λb g j i=>h.fr b g j (by omega),h.kn⟩
end M
end
section
set_option maxHeartbeats 400000
end
section
namespace L2
open PySem PySem.Spec PyProof.Rows M
section
variable {X:Cx}{K:Fg}
theorem xal{b:Expr}(e:X.K=K){l:Expr}{a:TE}(c:PE X l a):PI X b l (iTup K a):=by subst e;exact xtz c
theorem xcl{b:Expr}(e:X.K=K){l:Expr}{a:TE}(c:PE X l a):PI X b l (xuk K a):=by subst e;exact xrr c
theorem xbl(a:X.K=K):xdy X (.type "tuple") (λxs H Q=>∃p ys,xs=[.ref p]/\((SqL K H p ys/\∀l,H l=none->Q (.ref l) (upd H l (.tup ys)))\/(SqT K H p ys/\Q (.ref p) H))):=by subst a;exact xhk
theorem xle(a:X.K=K):OpR X (binaryOp .Add) (xqo K):=by subst a;exact xpi
theorem xv1(a:X.K=K):OpR X (compareOp .In) (rIn K false):=by subst a;exact xnl
theorem xur(a:X.K=K):SlR X (rSlT K):=by subst a;exact xtr
end
section
variable {X:Cx}
theorem va(i:Nat){x:Str}{p:Pos}{es:List Expr}{t:TA}(c:PA X es t)(e:X.N[i]?=some x:=by rfl)(b:Vis X.env.scope x:=by first |exact Or.inl rfl |exact Or.inr (Or.inl rfl) |exact Or.inr (Or.inr rfl))(hd:(x == ("__debug__":Str))=false:=by decide)(a:(x == ("__classdict__":Str))=false:=by decide):PA X (.Name x p::es) (xrd (tVar i) t):=pc (pv i e b hd a) c zsn
theorem v1(i:Nat){x:Str}{p:Pos}(c:X.N[i]?=some x:=by rfl)(b:Vis X.env.scope x:=by first |exact Or.inl rfl |exact Or.inr (Or.inl rfl) |exact Or.inr (Or.inr rfl))(hd:(x == ("__debug__":Str))=false:=by decide)(a:(x == ("__classdict__":Str))=false:=by decide):PA X [.Name x p] (xrd (tVar i) tNil):=va i pN c b hd a
theorem psn(i:Nat){x:Str}{e:Expr}{b:TE}{pos a:Pos}(h:X.N.Nodup)(g:PE X e b)(hi:X.N[i]?=some x:=by rfl)(c:Loc X.env.scope x:=by first |exact Or.inl rfl |exact Or.inr rfl)(hs:swapsWith e (some (.Name x a)) pos.line X.env=pure false:=by rfl)(f:X.fn x=true\/X.env.scope.names.lookup x=some .local:=by first |exact .inl rfl |exact .inr rfl |assumption):PS X (.Assign [.Name x a] e pos) (tAsg b (xf5 i)):=xty h hi c g hs f
theorem pgn(i:Nat){x:Str}{pos:Pos}(c:X.N.Nodup)(hi:X.N[i]?=some x:=by rfl)(a:Loc X.env.scope x:=by first |exact Or.inl rfl |exact Or.inr rfl)(b:X.fn x=true\/X.env.scope.names.lookup x=some .local:=by first |exact .inl rfl |exact .inr rfl |assumption):PG X (.Name x pos) (xf5 i):=xng c hi a b
theorem px(K:Fg){a b:Expr}{e c:TE}{pos:Pos}(g:PE X a e)(f:PE X b c)(h:X.K=K:=by rfl)(hs:xkj b:=by exact λ_ _=>rfl):PE X (.Subscript a b pos) (tOp (rIxT K) e c):=xly (xsc h) g f hs
theorem pxl(K:Fg){a b:Expr}{e c:TE}{pos:Pos}(g:PE X a e)(f:PE X b c)(h:X.K=K:=by rfl)(hs:xkj b:=by exact λ_ _=>rfl):PE X (.Subscript a b pos) (tOp (rIxL K) e c):=xly (xpy h) g f hs
theorem pgc(i:Nat){x:Str}{pos:Pos}(hi:X.N[i]?=some x:=by rfl)(hN:X.N.Nodup:=by exact of_decide_eq_true (by kernel_rfl))(hx:Loc X.env.scope x:=by exact Or.inl rfl)(hf:X.fn x=true\/X.env.scope.names.lookup x=some .local:=by first |exact .inl rfl |exact .inr rfl |assumption):PG X (.Name x pos) (xf5 i):=xng hN hi hx hf
end
end L2
end
section
namespace L2
open PySem PySem.Spec PyProof.Rows
section
variable {X:Cx}
theorem Inv.reH {pins:List (Addr×Obj)} {σ:St} {H:Hp} {s:Shared} {a:Addr} {o u:HO} (I:Inv X pins σ H s) (ha:H a=some o) (n1:∀xs,o≠.tup xs) (n2:∀ps,o≠.tbl ps) (n3:∀x,o≠.own x) (nz:∀ob v,X.H₀ a≠some (.frz ob v))
  (new:ObjOk X.prog X.w (upd H a u) s.heap a u):Inv X pins σ (upd H a u) s:=by
 have hn:∀{b:Addr},H b=none->upd H a u b=none:=λ{b} e=>by
  rw[xaw λz=>by rw[z,ha]at e;cases e];exact e
 have hs:∀{b:Addr} {v:HO},H b=some v->v≠o->upd H a u b=some v:=λ{b v} e ne=>by
  rw[xaw λz=>by rw[z,ha]at e;exact ne (Option.some.inj e).symm];exact e
 refine⟨I.ok,I.os,I.bare,⟨I.base.keep,I.base.slot,λb ob e n hx=>hn (I.base.free b ob e n hx),I.base.there,λb xs e=>hs (I.base.tups b xs e) λz=>n1 xs z.symm,λb ob v e=>?_,λb ps e=>?_⟩,I.loc,I.cell,hn I.free,λx c e=>hn (I.freeC x c e),λp hp=>?_,λb v e=>?_,I.len⟩
 ·rw[xaw λz=>by subst z;exact nz ob v e]
  exact I.base.frzs b ob v e
 ·obtain⟨more,e'⟩:=I.base.tbls b ps e
  exact⟨more,hs e' λz=>n2 _ z.symm⟩
 ·obtain⟨q1,q2,q3⟩:=I.pin p hp
  exact⟨q1,hn q2,q3⟩
 ·by_cases hb:b=a
  ·subst hb
   rw[ups]at e;cases e;exact new
  ·rw[xaw hb]at e
   exact(I.hok b v e).stay (λ_ _ _ q=>q) (λc q=>hs q λz=>n3 _ z.symm) λc xs q=>hs q λz=>n1 _ z.symm
def NoFz(H0:Hp)(a:Addr):Prop:=∀ob u,H0 a≠some (.frz ob u)
theorem Inv.noFz{b:List (Addr×Obj)}{σ:St}{H:Hp}{s:Shared}{a:Addr}{kvs:List (Key×V)}(I:Inv X b σ H s)(f:H a=some (.dK kvs)):NoFz X.H₀ a:=λc u e=>by
 have:=I.base.frzs a c u e;rw[f]at this;cases this
theorem Inv.freeze{pins:List (Addr×Obj)}{σ:St}{H:Hp}{s:Shared}{a:Addr}{ob:Obj}{kvs:List (Key×V)}(I:Inv X pins σ H s)(ha:H a=some (.dK kvs))(e:s.heap.get? a=some ob):Inv X pins σ (upd H a (.frz ob (.dK kvs))) s:=by
 refine I.reH ha (λ_ z=>by cases z) (λ_ z=>by cases z) (λ_ z=>by cases z) (I.noFz ha) ⟨e,?_⟩;obtain⟨z,y,r⟩:=(show ObjOk X.prog X.w H s.heap a (.dK kvs) from I.hok a _ ha);exact⟨z,y,r⟩
theorem Inv.thaw{b:List (Addr×Obj)}{σ:St}{H:Hp}{s:Shared}{a:Addr}{c:Obj}{kvs:List (Key×V)}(I:Inv X b σ H s)(e:H a=some (.frz c (.dK kvs)))(f:NoFz X.H₀ a):Inv X b σ (upd H a (.dK kvs)) s:=by
 obtain⟨_,z,y,r⟩:=(show ObjOk X.prog X.w H s.heap a (.frz c (.dK kvs)) from I.hok a _ e);exact I.reH e (λ_ z=>by cases z) (λ_ z=>by cases z) (λ_ z=>by cases z) f ⟨z,y,r⟩
def Itd(a:Addr)(o:Obj)(kvs:List (Key×V)):It:=
 ⟨λi H=>H a=some (.frz o (.dK kvs))/\i<kvs.length,λi H x H'=>H'=H/\∃kv,kvs[i]?=some kv/\x=kV kv.1,λi H=>H a=some (.frz o (.dK kvs))/\kvs.length<=i⟩
theorem xq0{P:Program}{w:World}{H:Hp}{h:Heap}{a:Addr}{o:Obj}{kvs:List (Key×V)}{es:Array DictEntry}{ep:Nat}(ok:HOk P w H h)(e:H a=some (.frz o (.dK kvs)))(hd:o.data=.dict es ep):∃vs,KV kvs vs/\h.DictAt (xby P w) a vs ep:=by
 obtain⟨f,_,_,vs,r,i,es',g,b,c,d,q⟩:=(show ObjOk P w H h a (.frz o (.dK kvs)) from ok a _ e);rw[f]at b;cases b;rw[hd]at d;cases d;exact⟨vs,r,o,es,f,c,hd,q⟩
theorem xmq{P:Program}{w:World}{K:Fg}{tg:Expr}{a it:Addr}{o:Obj}{kvs:List (Key×V)}{es:Array DictEntry}{ep:Nat}(a0:a≠it)(hd:o.data=.dict es ep):Turn P w K tg (Itd a o kvs) [it] it (λi h=>h.IsKeyIter it a i kvs.length ep) where
 mem:=by simp
 obj:=λi h st b l=>by
  have e:b=it:=by simpa using l
  subst e;obtain⟨o,e,c,d⟩:=st;exact⟨o,e,λv z=>by rw[d]at z;cases z⟩
 keep:=λi h h' st k=>st.at λo e=>k it (by simp) o e
 item:=by
  intro X G x J hc i g s σ H E I r st y;subst G x J;obtain⟨C,hi⟩:=y;obtain⟨vs,f,dat⟩:=xq0 I.hok C hd;have p:=f.length;obtain⟨Z,Y,f2,U,O,M⟩:=r it (by simp);have n:i<vs.length:=by omega
  refine wpAny_pyNext_dict_item (kvs:=vs) (k:=vs[i].1) (v:=vs[i].2) (by rw[<- p];exact st) dat (by rw[zGA n]) λu h' m j sb=>?_;have I1:Inv X g σ H {s with heap:=h'}:=I.turned (t':=s.toks) (λb o l e=>(sb.2 b l).trans e) Z Y U O M;rw[<- p]at j;obtain⟨o',e,c,d⟩:=id j;have ek:=KV.get f (zGA hi) (zGA n);exact⟨u,rfl,xp3 (s:={s with heap:=h'}) e c d (by decide) ⟨kV kvs[i].1,H,I1,by rw[ek];exact xvy m,⟨rfl,_,zGA hi,rfl⟩,j,λb l=>(r b l).1⟩⟩
 done:=by
  intro X G x J hc i g s σ H E I r st y;subst G x J;obtain⟨C,hi⟩:=y;obtain⟨vs,f,dat⟩:=xq0 I.hok C hd;have p:=f.length;obtain⟨Z,Y,f2,U,O,M⟩:=r it (by simp);exact wpAny_pyNext_dict_end (I.ok.hd hc) (kvs:=vs) (by rw[<- p];exact st) dat (List.getElem?_eq_none (by omega)) λh' eb=>⟨rfl,I.turned (t':=s.toks) (λb o l e=>eb b o l e) Z Y U O M⟩
 self:=λ_ _ _ _ _ st h=>wpAny_pyIter_keyiter st h
def xv0(H0:Hp)(td:TE):TI:=λσ H R=>td σ H λx H1=>∃a,∃kvs:List (Key×V),x=.ref a/\H1 a=some (.dK kvs)/\∀o,NoFz H0 a->R (Itd a o kvs) (upd H1 a (.frz o (.dK kvs)))
theorem xrs{tg l:Expr}{tl:TE}(hl:PE X l tl):PI X tg l (xv0 X.H₀ tl):=by
 intro pins s σ H R I h;refine thn (hl pins s σ H _ I h) λv s1 ⟨x,H1,I1,r1,q1⟩=>?_;obtain⟨a,kvs,e,ha,q⟩:=q1;subst e;cases r1;obtain⟨hz,hsys,vs,rel,dd⟩:=xsq I1.hok ha;obtain⟨ep,dat⟩:=dd.dictAt;obtain⟨o,es,ho,hx,hdat,_⟩:=id dat;have hlen:=rel.length;refine wpAny_pyIter_dict hsys dat ?_;have I2:=I1.freeze ha ho;have hn:upd H1 a (.frz o (.dK kvs)) s1.heap.objs.size=none:=I2.hok.fresh (Nat.le_refl _);refine⟨s1.heap.objs.size,[s1.heap.objs.size],_,_,_,rfl,I2.kept (t':=s1.toks) λb o e=>zPO _ e,xmq (λz=>?_) hdat,⟨_,Heap.get?_push_size _ rfl,rfl,by rw[hlen];rfl⟩,λb hb=>?_,q o (I1.noFz ha)⟩
 ·rw[<- z,ups]at hn
  cases hn
 ·have e:b=s1.heap.objs.size:=by simpa using hb
  subst e;exact I2.fpOk (Nat.le_refl _) hn
end
section
variable {X:Cx}
theorem xrt{e:Expr}{t:TE}(h:PE X e t):PE X e (λσ H Q=>t σ H λv H'=>∃a o,∃kvs:List (Key×V),H' a=some (.frz o (.dK kvs))/\NoFz X.H₀ a/\Q v (upd H' a (.dK kvs))):=by
 intro pins s σ H Q I hh;refine thn (h pins s σ H _ I hh) λu s' ⟨v,H',I',r,a,o,kvs,ea,nz,q⟩=>?_;exact⟨v,_,I'.thaw ea nz,r,q⟩
end
theorem ext1{σ:St}{i:Nat}{v:Option V}(h:σ[i]?=some none):Ext σ (σ.set i v):=by
 refine⟨by simp,λn b e=>?_⟩;have a:i≠n:=λz=>by subst z;rw[h]at e;cases e
 rw[List.getElem?_set_ne a];exact e
theorem ext4{σ:St}{i j k l:Nat}{u v w x:Option V}(h:σ[i]?=some none)(o:σ[j]?=some none)(m:σ[k]?=some none)(g:σ[l]?=some none):Ext σ ((((σ.set i u).set j v).set k w).set l x):=by
 refine⟨by simp,λn p e=>?_⟩;have f:i≠n:=λz=>by subst z;rw[h]at e;cases e
 have c:j≠n:=λz=>by subst z;rw[o]at e;cases e
 have b:k≠n:=λz=>by subst z;rw[m]at e;cases e
 have a:l≠n:=λz=>by subst z;rw[g]at e;cases e
 rw[List.getElem?_set_ne a,List.getElem?_set_ne b,List.getElem?_set_ne c,List.getElem?_set_ne f];exact e
end L2
end
section
namespace M
open PySem L2
def ArmN(ks:List Kn)(z:Str):Prop:=(∃j,z=byN j)\/∃k∈ks,∃p∈k.parts,p.1=z
def FitK(ks:List Kn)(bs:List (Str×Str))(env:En):Prop:=(∀p∈bs,env p.1=some (.str p.2))/\∀z,ArmN ks z->(∀q∈bs,q.1≠z)->env z=none
theorem FitK.put{ks:List Kn}{bs:List (Str×Str)}{env:En}{y k:Str}(h:FitK ks bs env)(f:∀p∈bs,p.1≠y):FitK ks (bs++[(y,k)]) (env.put y (.str k)):=by
 refine⟨λp a=>?_,λz hz e=>?_⟩
 ·unfold En.put
  rcases zMA a with a |a
  ·rw[if_neg (f p a)];exact h.1 p a
  ·rw[zMO a,if_pos rfl]
 ·unfold En.put
  have b:y≠z:=e (y,k) (by simp);rw[if_neg (Ne.symm b)];exact h.2 z hz λq c=>e q (by simp[c])
def TmK(ks:List Kn)(n:Nat)(bs:List (Str×Str))(d:D)(x:Str):Prop:=∀env,FitK ks bs env->Kd True ks n env d x
def TmB(ks:List Kn)(n:Nat)(bs:List (Str×Str))(d:D)(x:Str):Prop:=TmOk ks n bs d x/\TmK ks n bs d x
theorem xoc{ks:List Kn}{n:Nat}{env:En}{d:D}{x:Str}(h:xgy env d x):Kd True ks n env d x:=by
 cases n with
 |zero=>exact h
 |succ n=>exact .inl h
theorem xta{ks:List Kn}{n:Nat}{bs:List (Str×Str)}{i:Int}(h:Nm i):TmB ks n bs (tNum i) (S "num"):=⟨xs5 h,λenv _=>xoc (.inl ⟨i,h,rfl,rfl⟩)⟩
theorem xms{ks:List Kn}{n:Nat}{bs:List (Str×Str)}{y x:Str}(h:(y,x)∈bs):TmB ks n bs (tBox y) x:=⟨xs7 h,λenv a=>xoc (.inr ⟨y,a.1 _ h,rfl⟩)⟩
theorem xu8{ks:List Kn}(g:KWf ks){n:Nat}{bs:List (Str×Str)}{s:Str}{a b:D}(hs:Sg s)(f:TmB ks n bs a (S "num"))(e:TmB ks n bs b (S "num")):TmB ks (n+1) bs (tOpD s a b) (S "num"):=
 ⟨xu6 g hs f.1 e.1,λenv c=>.inr (.inl ⟨s,a,b,f.2 env c,e.2 env c,rfl,rfl⟩)⟩
theorem xs9{ks:List Kn}{n:Nat}{bs:List (Str×Str)}{x:Str}{k:Kn}{es:List D}(b:kAt ks x=some k)(a:k.rc=true)(c:k.parts.length<=1000)(h:All2 (λe (p:Str×Str)=>TmB ks n bs e p.2) es k.parts):TmB ks (n+1) bs (tRec x es) x:=
 ⟨xs4 b a c (h.imp λ_ _ h=>h.1),λenv f=>.inr (.inr (.inl ⟨es,k,b,a,h.imp λ_ _ h=>h.2 env f,rfl⟩))⟩
theorem xjp{k:Kn}{p:Str×Str}(nd:(k.parts.map (·.1)).Nodup)(b:p∈k.parts):xc7 k p.1=some p.2:=by
 unfold xc7;obtain⟨i,hi,e⟩:=zMI b;have:=xcm (f:=λr:Str×Str=>r.1) (xs:=k.parts) (i:=i) (a:=p) nd (by rw[<- e];exact zGA hi);rw[this];rfl
theorem xtb{ks:List Kn}(c:KWf ks){n:Nat}{bs:List (Str×Str)}{y:Str}{k:Kn}{a:D}{p:Str×Str}(b:kAt ks y=some k)(e:k.rc=true)(f:p∈k.parts)(h:TmB ks n bs a y):TmB ks (n+1) bs (tGet a p.1) p.2:=
 ⟨xs6 c b e f h.1,λenv g=>.inr (.inr (.inr (.inl ⟨a,y,p.1,k,h.2 env g,b,e,xjp (c.pnd k (zMF b)) f,rfl⟩)))⟩
theorem xs8{ks:List Kn}(f:KWf ks){n:Nat}{bs:List (Str×Str)}{x:Str}{k:Kn}{a:D}{p:Str×Str}(b:kAt ks x=some k)(c:k.rc=false)(e:p∈k.parts)(h:TmB ks n bs a p.2):TmB ks (n+1) bs (tTag x p.1 a) x:=
 ⟨xs3 b c e h.1,λenv g=>.inr (.inr (.inr (.inr (.inl ⟨p.1,a,k,p.2,b,c,xjp (f.pnd k (zMF b)) e,h.2 env g,rfl⟩))))⟩
theorem xdv{α β:Type}{f:α->β}:∀{l:List α},(l.map f).Nodup->∀{a b:α},a∈l->b∈l->f a=f b->a=b
 |[],_,a,_,i,_,_=>nomatch i
 | c::l,nd,a,b,i,j,e=>by
  rw[List.map_cons,List.nodup_cons]at nd;rcases zMC i with h |h <;> rcases zMC j with g |g
  ·rw[h,g]
  ·rw[h]at e
   exact absurd (by rw[e];exact List.mem_map_of_mem g) nd.1
  ·rw[g]at e
   exact absurd (by rw[<- e];exact List.mem_map_of_mem h) nd.1
  ·exact xdv nd.2 h g e
theorem xq9 {ks:List Kn} (j:KWf ks) {n:Nat} {bs:List (Str×Str)} {x y:Str} {k:Kn} {a:D} {rs:List (Str×Str×D)} (m:kAt ks y=some k) (l:k.rc=false) (C:TmB ks n bs a y) (I:rs.length<=1000) (nd:(rs.map (·.1)).Nodup)
  (b:rs.length=k.parts.length) (c:∀r∈rs,∃p∈k.parts,p.1=r.1)
  (h:∀p∈k.parts,∃z e,(p.1,z,e)∈rs/\(∀q∈bs,q.1≠z)/\ArmN ks z/\TmB ks n (bs++[(z,p.2)]) e x):TmB ks (n+1) bs (xi8 a rs) x:=by
 have w:=zMF m;refine⟨xq7 j m l C.1 I nd λp g=>?_,λenv o=>.inr (.inr (.inr (.inr (.inr (.inl ⟨True.intro,a,rs,y,k,C.2 env o,m,l,?_,b,nd,λr f=>?_,rfl⟩)))))⟩
 ·obtain⟨z,e,u,i,G,s⟩:=h p g
  exact⟨z,e,u,i,s.1⟩
 ·intro e
  have h0:k.parts=[]:=List.eq_nil_of_length_eq_zero (by rw[<- b,e];rfl);exact j.alt k w l h0
 ·obtain⟨p,g,e⟩:=c r f
  obtain⟨z,M,u,i,G,s⟩:=h p g;have J:r=(p.1,z,M):=xdv nd f u e.symm;subst J;exact⟨o.2 z G i,p.2,xjp (j.pnd k w) g,s.2 _ (o.put i)⟩
theorem xu9{ks:List Kn}(i:KWf ks){n:Nat}{bs:List (Str×Str)}{x:Str}{a b c:D}(h:TmB ks n bs a (S "num"))(g:TmB ks n bs b x)(f:TmB ks n bs c x):TmB ks (n+1) bs (tIfD a b c) x:=
 ⟨xu7 i h.1 g.1 f.1,λenv e=>.inr (.inr (.inr (.inr (.inr (.inr ⟨a,b,c,h.2 env e,g.2 env e,f.2 env e,rfl⟩)))))⟩
theorem NodeKd.mono{cs:Prop}{ks:List Kn}{R n:RKn}(k:∀env d x,R env d x->n env d x){env:En}{d:D}{x:Str}(h:NodeKd cs ks R env d x):NodeKd cs ks n env d x:=by
 rcases h with⟨s,a,b,e,g,r⟩ |⟨es,i,e,g,j,r⟩ |⟨a,l,f,i,e,r⟩ |⟨t,a,i,l,e,g,j,m,r⟩ |⟨u,a,rs,l,i,e,g,j,m,z,y,w,r⟩ |⟨a,b,c,e,g,j,r⟩
 ·exact .inl ⟨s,a,b,k _ _ _ e,k _ _ _ g,r⟩
 ·exact .inr (.inl ⟨es,i,e,g,j.imp λ_ _ h=>k _ _ _ h,r⟩)
 ·exact .inr (.inr (.inl ⟨a,l,f,i,k _ _ _ e,r⟩))
 ·exact .inr (.inr (.inr (.inl ⟨t,a,i,l,e,g,j,k _ _ _ m,r⟩)))
 ·refine .inr (.inr (.inr (.inr (.inl ⟨u,a,rs,l,i,k _ _ _ e,g,j,m,z,y,λr p=>?_,r⟩))))
  obtain⟨I,o,G,C⟩:=w r p;exact⟨I,o,G,k _ _ _ C⟩
 ·exact .inr (.inr (.inr (.inr (.inr ⟨a,b,c,k _ _ _ e,k _ _ _ g,k _ _ _ j,r⟩))))
theorem xug{cs:Prop}{ks:List Kn}:∀(n:Nat) (env:En) (d:D) (x:Str),Kd cs ks n env d x->Kd cs ks (n+1) env d x
 |0,_,_,_,h=>.inl h
 |n+1,env,d,x,h=>by
  rcases h with h |h
  ·exact .inl h
  ·exact .inr (h.mono (xug n))
theorem xvx{cs:Prop}{ks:List Kn}{n m:Nat}(l:n<=m){env:En}{d:D}{x:Str}(h:Kd cs ks n env d x):Kd cs ks m env d x:=by
 obtain⟨k,rfl⟩:∃k,m=n+k:=⟨m-n,by omega⟩;clear l
 induction k with
 |zero=>exact h
 |succ k a=>exact xug _ _ _ _ a
def NoMo(x:Str):Prop:=x≠S "more"
theorem xvt{l:List Nat}(h:l[0]?≠some 109\/l[1]?≠some 111):NoMo (ofL l):=λe=>by
 have:=congrArg L e;rw[xdx,show L (S "more")=[109,111,114,101] by walk_at"k"]at this;subst this;simp at h
theorem xj7{c:Nat}(h:c∈five):c≠109/\c≠111:=by
 revert h;unfold five;simp;omega
theorem xqv{cs:List Nat}(h:∀c∈cs,c∈five)(a:Nat)(b:Int)(k:Nat)(t:List Nat)(i:∀c∈t,c∈five):NoMo (ofL (nmA cs a b k++t)):=by
 apply xvt;unfold nmA
 cases g:cs.take a with
 |nil=>
  right;rw[List.nil_append,List.cons_append,List.getElem?_cons_succ];intro e;have f:=zMG e;rcases zMA f with f |f
  ·exact(xj7 (h _ (List.mem_of_mem_drop f))).2 rfl
  ·exact(xj7 (i _ f)).2 rfl
 |cons c r=>
  left;intro e;simp at e;have:c∈cs.take a:=by rw[g];simp
  exact(xj7 (h c (List.mem_of_mem_take this))).1 e
theorem xr7{cs:List Nat}{a:Nat}{b:Int}(e:∀c∈cs,c∈five):∀z∈((List.range 26).map λk=>ofL (nmA cs a b k)),NoMo z:=λz hz=>by
 obtain⟨k,_,rfl⟩:=zMP hz;have:=xqv e a b k [] (λ_ h=>nomatch h);rw[List.append_nil]at this;exact this
theorem xr5{cs:List Nat}{a:Nat}{b:Int}(f:∀c∈cs,c∈five):∀z∈((List.range 26).map λk=>ofL (nmB cs a b k)),NoMo z:=λz hz=>by
 obtain⟨k,_,rfl⟩:=zMP hz;unfold nmB;exact xqv f a b _ _ λc e=>by rw[List.eq_of_mem_replicate e];decide
end M
end
section
namespace PySem
open Sem (wp)
section
variable {prog:Program}{w:World}{A:Around}{E:Value->Shared->Prop}{s:Shared}
theorem xe4 {a:Addr} {xs:Array Value} {k:Nat} {sl:Array (Option Value)} {name:Str} {Q:Option Value->Shared->Prop}
  (hx:s.heap.get? a=some {cls:=.type "tuple",dict:=none,data:=.seq xs k,slots:=sl}) (hmiss:typeLookup (.type "tuple") name=pure none) (hname:(["__module__","__name__","__qualname__","__doc__","__annotations__"]:List Str).contains name=false) (hA:A.handled=none)
  (h:∀h' tk,(∀b o,s.heap.get? b=some o->h'.get? b=some o)->Q none {s with heap:=h',toks:=tk}) (hsz:name.length+100<=sizeLine) :
  wpAny (model prog w) A (getAttr? (.ref a) name) Q E s:=by
 obtain⟨hp,g,d,tk,os⟩:=s;have hT:∀tk',(⟨hp,g,d,tk',os⟩:Shared).TypeIs (.ref a) "tuple":=λ_=>⟨_,hx,rfl⟩;have f1:=sub_AttributeError;have f3:=F.slot_tuple_getattribute.lookup;have f4:=F.slot_tuple_getattribute.bind (.ref a);have f5:=am_tuple_getattr_none;unfold getAttr? getAttrBy? getAttrBy
 repeat (any_goals (first |assumption |exact hT _ |((with_reducible show wpAny _ _ (call (Value.builtin "tuple.__getattribute__") _ _) _ _ _);refine call_meets F.slot_tuple_getattribute (hT _) am_entry_tuple_getattribute (F.args_tuple_getattribute_2 _ _) (meets_getattribute_miss_tuple a xs k sl name _ hmiss hname hsz) ⟨hx,hA,λh' tk' e hx'=>?_⟩) |wp_step))
 obtain⟨t',u',he⟩:=hx'.there;show wpAny _ _ (getattributeRaised _ _ _ _ _ _ _) _ _ _;unfold getattributeRaised
 repeat (any_goals (first |assumption |wp_step))
 all_goals first |exact h _ _ hx'.keeps |skip
end
end PySem
namespace L2
open PySem PySem.Spec PyProof.Rows
section
variable {prog:Program}{w:World}{A:Around}{K:Type}[DecidableEq K]{knd:KeyKind prog w K}
theorem xe6{h:Heap}{a I l:Addr}{i:Nat}{xs:Array Value}(f:h.IsTuple a xs)(hd:h.IsTupleIter I l i):a≠I:=λe=>by
 subst e;obtain⟨o,g,j,_⟩:=f;obtain⟨t,c,b,_⟩:=hd;have:o=t:=Option.some.inj (g.symm.trans c);subst this;rw[j]at b;exact absurd (Value.type.inj b) (by decide)
theorem xmm {R:Result->Shared->Prop} {I l d:Addr} {its:List Value} {ps:List (K×Value)} (hh:A.in1.handled=none) (a0:l≠I) (a7:l≠d) (G:I≠d) :
    ∀(k i:Nat) (s:Shared) (f:List (K×Value)),its.length-i=k->i<=its.length->s.heap.IsTupleIter I l i->s.heap.IsTuple l its.toArray->s.heap.DictOf knd d f->PairsAt knd s.heap (its.drop i) (ps.drop i)->f.length+(its.length-i)<=sizeLine->
    (∀h' tk,h'.DictOf knd d (merged f (ps.drop i))->(∀b o,b≠d->b≠I->s.heap.get? b=some o->h'.get? b=some o)->R (.ok (.ret .none)) {s with heap:=h',toks:=tk})->
    codeAny (model prog w) A (.builtin "dict.update.loop" ⟨[.ref d,.ref I,rawInt i,.none],[]⟩) R s:=by
  intro k
  induction k with
  | zero=>
    intro i s f hk hi g hl hd j hsz hR;have C:i=its.length:=by omega
    have W:=Walks.tuple (prog:=prog) (w:=w) (A:=A.in1) hh I l a0 its.toArray;refine codeAny_builtin xcx ?_;rw[Around.under_plainId xbn _];show wpAny _ A.in1 (pyNext (.ref I) >>= _) _ _ s
    refine wpAny_bind (W.done s _ _ (by have e:its.toArray.size = i := by simp[C]
                                        rw[e];exact⟨g,hl⟩) λh' tk c=>?_)
    show wpAny _ _ (Builtin.Dict.addKeywords d [] >>= _) _ _ _;refine wpAny_bind (wpAny_pure (wpAny_pure ?_))
    have a5:ps.drop i=[]:=by
      rw[C,List.drop_length]at j;rw[C]
      cases hq:ps.drop its.length with
      |nil=>rfl
      |cons p r=>rw[hq]at j;exact j.elim
    refine hR h' tk ?_ λb o J n e=>c b o (by simpa using n) e;rw[a5];exact hd.at λo e=>c d o (by simpa using (Ne.symm G)) e
  | succ k ih=>
    intro i s f hk hi g hl hd j hsz hR;have m:i<its.length:=by omega
    have W:=Walks.tuple (prog:=prog) (w:=w) (A:=A.in1) hh I l a0 its.toArray;have a8:its.drop i=its[i]::its.drop (i+1):=List.drop_eq_getElem_cons m;rw[a8]at j
    obtain⟨p,r,z⟩:∃p r,ps.drop i=p::r:=by
      cases hq:ps.drop i with
      |nil=>rw[hq]at j;exact j.elim
      |cons p r=>exact⟨p,r,rfl⟩
    have Y:ps.drop (i+1)=r:=by rw[<- List.tail_drop,z];rfl
    rw[z]at j;obtain⟨⟨a,x,ea,U,a1⟩,y⟩:=j;refine codeAny_builtin xcx ?_;rw[Around.under_plainId xbn _];show wpAny _ A.in1 (pyNext (.ref I) >>= _) _ _ s;refine wpAny_bind (W.item i s _ _ (by simpa using m) ⟨g,hl⟩ λv h' tk hP u c=>?_)
    have hv:v=.ref a:=by
      have:its[i]?=some v:=by simpa using hP
      rw[zGA m,ea]at this;exact(Option.some.inj this).symm
    subst hv;have O:h'.IsTuple a #[x,p.2]:=U.at λo e=>c a o (by simpa using xe6 U g) e;have a3:h'.DictOf knd d f:=hd.at λo e=>c d o (by simpa using (Ne.symm G)) e;obtain⟨oa,Z,ab,na,a9⟩:=id O;refine wpAny_bind (wpAny_holding (wpAny_bind (wpAny_tryCatch ?_)));unfold Builtin.Dict.pairItems;refine wpAny_bind (wpAny_typeOf ⟨oa,Z,ab⟩ ?_);rw[if_pos (by decide)];refine wpAny_bind (wpAny_seqItems Z a9 (wpAny_pure ?_));show wpAny _ _ (holding [x,p.2] (dictSet d x p.2)) _ _ _;refine wpAny_holding (wpAny_dictSet_pairs a1 a3 (λh2 aa h=>?_) (by omega));have M:h2.IsTupleIter I l (i+1)/\h2.IsTuple l its.toArray:=⟨u.1.at λo e=>(h.2 I G).trans e,u.2.at λo e=>(h.2 l a7).trans e⟩;refine wpAny_pure ⟨plainId_quiet xbn _,ih (i+1) _ _ (by omega) m M.1 M.2 aa ?_ ?_ λh3 a4 a2 a6=>?_⟩
    · rw[Y]
      exact y.keep λb xs J=>by
        have h1:h'.IsTuple b xs:=J.at λo e=>c b o (by simpa using xe6 J g) e;exact h1.at λo e=>(h.2 b (xfn h1 a3)).trans e
    · have:=stored_length_le f p.1 p.2
      omega
    · refine hR h3 a4 ?_ λb o J n e=>a6 b o J n ((h.2 b J).trans (c b o (by simpa using n) e))
      rw[z];rw[Y]at a2;exact a2
end
theorem xi7:typeLookup (.type "tuple") "keys"=pure none:=am_miss_of_fast (by kernel_rfl)
section
variable {prog:Program}{w:World}{A:Around}{E:Value->Shared->Prop}{s:Shared}{K:Type}[DecidableEq K]{knd:KeyKind prog w K}
theorem xkd {l:Addr} {its:List Value} {n:Nat} {sl:Array (Option Value)} {ps:List (K×Value)} {Q:Value->Shared->Prop} (hh:A.handled=none) (hl:s.heap.get? l=some {cls:=.type "tuple",data:=.seq its.toArray n,dict:=none,slots:=sl}) (hp:PairsAt knd s.heap its ps) (hsz:its.length<=sizeLine)
  (h:∀h' tk,h'.DictOf knd s.heap.objs.size (merged [] ps)->(∀b o,s.heap.get? b=some o->h'.get? b=some o)->Q (.ref s.heap.objs.size) {s with heap:=h',toks:=tk}) :
  wpAny (model prog w) A (call (.type "dict") [.ref l]) Q E s:=by
 refine callType_codes (Q₁:=λobj s₁=>obj=.ref s.heap.objs.size/\s₁={s with heap:=s.heap.push {cls:=.type "dict",data:=.dict #[]}}) F.kt_called_dict (F.kt_typeCall_dict_1 _) F.entry_dict_init (kt_code_dict_new _ ⟨rfl,rfl⟩) ?_;rintro obj s₁ ⟨rfl,rfl⟩;have hnew:(s.heap.push {cls:=.type "dict",data:=.dict #[]}).DictOf knd s.heap.objs.size []:=Heap.DictOf.new s.heap;have ext0:∀b o,s.heap.get? b=some o->(s.heap.push {cls:=.type "dict",data:=.dict #[]}).get? b=some o:=λb o e=>zPO _ e;have hl0:=ext0 _ _ hl;have hT:(⟨s.heap.push {cls:=.type "dict",data:=.dict #[]},s.gens,s.drawn,s.toks,s.os⟩:Shared).TypeIs (.ref l) "tuple":=⟨_,hl0,rfl⟩;have hdl:l≠s.heap.objs.size:=λe=>absurd (Heap.lt_size hl) (by rw[e];exact Nat.lt_irrefl _);refine⟨hnew.typeIs,F.args_dict_init_2 _ _,?_⟩;unfold Builtin.«dict.__init__»;refine wpAny_bind ?_;unfold Builtin.Dict.selfAndRest;refine wpAny_bind (wpAny_notOrdered_dict hnew.typeIs ?_);show wpAny _ _ (pure (s.heap.objs.size,[Value.ref l])) _ _ _;refine wpAny_pure ?_;show wpAny _ _ (Builtin.Dict.updateFrom "dict.__init__" s.heap.objs.size (.ref l) [] .none) _ _ _;unfold Builtin.Dict.updateFrom;refine wpAny_bind (wpAny_typeOf hT ?_);rw[if_pos (by decide)];refine wpAny_bind (xe4 (sl:=sl) hl0 xi7 (by walk_at"k") hh (λh1 tk1 k1=>?_) (by walk_at"k"));rw[if_pos (show(none:Option Value).isNone=true from rfl)];refine wpAny_bind (wpAny_rule ?_);have hl1:=k1 _ _ hl0;have hL1:h1.IsTuple l its.toArray:=⟨_,hl1,rfl,_,rfl⟩
 refine wpAny_bind (wpAny_pyIter_tuple hL1 (wpAny_pure ⟨plainId_quiet xbn _,?_⟩));have hsz1:s.heap.objs.size<h1.objs.size:=Heap.lt_size (k1 _ _ (Heap.get?_push_size _ rfl));have hlI:l<h1.objs.size:=Heap.lt_size hl1;have ext2:∀b o,h1.get? b=some o->(h1.push {cls:=.type "tuple_iterator",data:=.fields #[.ref l,.int 0 0]}).get? b=some o:=λb o e=>zPO _ e;refine xmm (knd:=knd) (A:=A.in1) (ps:=ps) (l:=l) (d:=s.heap.objs.size) (its:=its) hh (Nat.ne_of_lt hlI) hdl (Nat.ne_of_gt hsz1) its.length 0 _ [] (Nat.sub_zero _) (Nat.zero_le _) ⟨_,Heap.get?_push_size _ rfl,rfl,rfl⟩ (hL1.push _) (hnew.at λo e=>ext2 _ _ (k1 _ _ e)) (hp.keep λa xs ha=>ha.at λo e=>ext2 _ _ (k1 _ _ (ext0 _ _ e))) (by simpa using hsz) λh3 tk3 hd3 hk3=>?_;refine⟨rfl,h h3 tk3 hd3 λb o e=>hk3 b o ?_ ?_ (ext2 _ _ (k1 _ _ (ext0 _ _ e)))⟩
 ·exact λz=>absurd (Heap.lt_size e) (by rw[z];exact Nat.lt_irrefl _)
 ·exact λz=>absurd (Heap.lt_size e) (by rw[z];exact Nat.not_lt_of_gt hsz1)
end
section
variable {X:Cx}
theorem xgv(hc:X.calm=true):xdy X (.type "dict") (λxs H Q=>∃a ys,∃kvs:List (Key×V),xs=[.ref a]/\H a=some (.tup ys)/\PairsV H ys kvs/\∀p,H p=none->Q (.ref p) (upd H p (.dK (xbi [] kvs)))):=by
 intro pins s σ H xs us Q I r h;obtain⟨a,ys,kvs,rfl,ha,hp,q⟩:=h;obtain⟨u,rfl,ru⟩:=xex r;obtain rfl:u=.ref a:=ru;obtain⟨hz,its,rv,⟨oc,od,dt,sl⟩,ho,h1,n,h2,h3⟩:=(show ObjOk X.prog X.w H s.heap a (.tup ys) from I.hok a _ ha);simp only at h1 h2 h3;subst h1 h2 h3;obtain⟨ps,hk,hpa⟩:=xg9 I rv hp;have hyl:=hp.length;refine xkd (knd:=xby X.prog X.w) (I.ok.hd hc) ho hpa (by rw[<- rv.length];exact hz) λh' tk dd' k'=>?_
 have hz':(xbi [] kvs).length<=sizeLine:=by
  have:=xcr kvs [];rw[List.length_nil]at this;omega
 exact⟨.ref s.heap.objs.size,_,I.laid (a:=s.heap.objs.size) (o:=.dK (xbi [] kvs)) (t':=tk) k' (Nat.le_refl _) (xiw hz' (beq_eq_false_iff_ne.mpr (Ne.symm (Nat.ne_of_lt I.big))) (hk.merge .nil) dd'),rfl,q _ (I.hok.fresh (Nat.le_refl _))⟩
end
end L2
end
section
namespace M
open PySem L2
theorem DGet.rd{H:Hp}{a:Addr}{kvs:List (Key×V)}{k:Key}(e:Rd H a (.dK kvs)):DGet H a (kV k) (valV kvs k):=.inl ⟨kvs,k,e,rfl,rfl⟩
inductive Row where
 |set (x:Str) (t:D)
 |send (c:Str) (t:D)
 |take (l c x:Str)
 |tell (t:D)
 |go (g:Nat)
 |cond (t:D) (g:Nat)
 |fin
def Row.hd:Row->Str
 |.set _ _=>S "set"
 |.send _ _=>S "send"
 |.take _ _ _=>S "take"
 |.tell _=>S "tell"
 |.go _=>S "go"
 |.cond _ _=>S "if"
 |.fin=>S "end"
def Row.as:Row->List D
 |.set x t=>[.str x,t]
 |.send c t=>[.str c,t]
 |.take l c x=>[.str l,.str c,.str x]
 |.tell t=>[t]
 |.go g=>[.int g]
 |.cond t g=>[t,.int g]
 |.fin=>[]
def Row.d(r:Row):D:=.tup (.str r.hd::r.as)
abbrev Chn:=Str×Str×Str×Str
def dChn(c:Chn):D:=.tup [.str c.1,.str c.2.1,.str c.2.2.1,.str c.2.2.2]
structure Hand where
 name:Str
 boxes:List (Str×Str)
 rows:List Row
def Hand.d(h:Hand):D:=.tup [.str h.name,xdp h.boxes,.tup (h.rows.map Row.d)]
structure Mak where
 kinds:List Kn
 chans:List Chn
 hands:List Hand
def Mak.d(m:Mak):D:=.tup [xcz m.kinds,.tup (m.chans.map dChn),.tup (m.hands.map Hand.d)]
def xld(m:Mak)(x:Str):Option Hand:=m.hands.find? λh=>decide (h.name=x)
def Row.ends:Row->Prop
 |.go _=>True
 |.fin=>True
 |_=>False
def putA(bx:List (Str×D))(x:Str)(d:D):List (Str×D):=
 if (bx.any λb=>decide (b.1=x))=true then bx.map (λb=>if b.1=x then (b.1,d) else b) else bx++[(x,d)]
def enOf(bx:List (Str×D)):En:=λx=>(bx.find? λb=>decide (b.1=x)).map (·.2)
def KvD(H:Hp):List (Key×V)->List (Str×D)->Prop
 |[],[]=>True
 |kv::kvs,b::bs=>kv.1=Sum.inr b.1/\RelD H kv.2 b.2/\KvD H kvs bs
 |_,_=>False
theorem KvD.tups{H a:Hp}(s:∀b vs,H b=some (.tup vs)->a b=some (.tup vs)):∀{kvs:List (Key×V)} {bx:List (Str×D)},KvD H kvs bx->KvD a kvs bx
 |[],[],_=>trivial
 |g::kvs,b::bs,⟨f,e,c⟩=>⟨f,e.tups s _,KvD.tups s c⟩
 |[],_::_,h=>h.elim
 |_::_,[],h=>h.elim
theorem KvD.length{H:Hp}:∀{kvs:List (Key×V)} {bx:List (Str×D)},KvD H kvs bx->kvs.length=bx.length
 |[],[],_=>rfl
 |c::kvs,b::bs,⟨_,_,a⟩=>by rw[List.length_cons,List.length_cons,KvD.length a]
 |[],_::_,h=>h.elim
 |_::_,[],h=>h.elim
theorem KvD.snoc{H:Hp}{v:V}{x:Str}{d:D}(r:RelD H v d):∀{kvs:List (Key×V)} {bx:List (Str×D)},KvD H kvs bx->KvD H (kvs++[(Sum.inr x,v)]) (bx++[(x,d)])
 |[],[],_=>⟨rfl,r,trivial⟩
 |f::kvs,b::bs,⟨e,c,a⟩=>⟨e,c,KvD.snoc r a⟩
 |[],_::_,h=>h.elim
 |_::_,[],h=>h.elim
theorem xse{a b:Str}:((Sum.inr a:Key)=Sum.inr b)=(a=b):=propext ⟨λh=>Sum.inr.inj h,λh=>congrArg _ h⟩
theorem KvD.any{H:Hp}{x:Str}:∀{kvs:List (Key×V)} {bx:List (Str×D)},KvD H kvs bx->(kvs.any λa=>decide (a.1=Sum.inr x))=bx.any λb=>decide (b.1=x)
 |[],[],_=>rfl
 |a::kvs,b::bs,⟨e,_,c⟩=>by
  rw[List.any_cons,List.any_cons,KvD.any c,e];simp only[xse]
 |[],_::_,h=>h.elim
 |_::_,[],h=>h.elim
theorem KvD.map{H:Hp}{v:V}{x:Str}{d:D}(r:RelD H v d):∀{kvs:List (Key×V)} {bx:List (Str×D)},KvD H kvs bx->KvD H (kvs.map λc=>if c.1=Sum.inr x then (c.1,v) else c) (bx.map λb=>if b.1=x then (b.1,d) else b)
 |[],[],_=>trivial
 | c::kvs,b::bs,⟨a,g,f⟩=>by
  refine⟨?_,?_,KvD.map r f⟩ <;> dsimp only
  ·by_cases e:b.1=x
   ·rw[if_pos (by rw[a,e]),if_pos e];exact a
   ·rw[if_neg (by rw[a];exact λz=>e (Sum.inr.inj z)),if_neg e];exact a
  ·by_cases e:b.1=x
   ·rw[if_pos (by rw[a,e]),if_pos e];exact r
   ·rw[if_neg (by rw[a];exact λz=>e (Sum.inr.inj z)),if_neg e];exact g
 |[],_::_,h=>h.elim
 |_::_,[],h=>h.elim
theorem KvD.put{H:Hp}{v:V}{x:Str}{d:D}{kvs:List (Key×V)}{bx:List (Str×D)}(h:KvD H kvs bx)(r:RelD H v d):KvD H (putK kvs (Sum.inr x) v) (putA bx x d):=by
 unfold putK putA;rw[h.any];split
 ·exact h.map r
 ·exact h.snoc r
theorem KvD.val{H:Hp}{x:Str}:∀{kvs:List (Key×V)} {bx:List (Str×D)},KvD H kvs bx->(enOf bx x=none->valV kvs (Sum.inr x)=none)/\∀d,enOf bx x=some d->∃v,valV kvs (Sum.inr x)=some v/\RelD H v d
 |[],[],_=>⟨λ_=>rfl,λd e=>by cases e⟩
 | j::kvs,b::bs,⟨c,i,g⟩=>by
  have f:=KvD.val (x:=x) g;by_cases e:b.1=x
  ·have a:enOf (b::bs) x=some b.2:=by unfold enOf;rw[List.find?_cons,zDT e];rfl
   rw[a,xb5 (by rw[c,e])];exact⟨λz=>(by cases z),λd z=>⟨_,rfl,by cases z;exact i⟩⟩
  ·have a:enOf (b::bs) x=enOf bs x:=by unfold enOf;rw[List.find?_cons,zDF e]
   rw[a,xb1 (by rw[c];exact λz=>e (Sum.inr.inj z))];exact f
 |[],_::_,h=>h.elim
 |_::_,[],h=>h.elim
theorem KvD.en{H:Hp}{p:Addr}{kvs:List (Key×V)}{bx:List (Str×D)}{m:Nat}(a:H p=some (.dK kvs))(h:KvD H kvs bx)(b:bx.length<=m):EnAt H p m (enOf bx):=
 ⟨kvs,a,by rw[h.length];exact b,λx=>h.val⟩
theorem xux(bx:List (Str×D))(x:Str)(d:D):enOf (putA bx x d)=(enOf bx).put x d:=by
 funext y
 unfold En.put enOf putA;split
 ·rename_i h
  induction bx with
  |nil=>simp at h
  | cons b bs j=>
   rw[List.map_cons,List.find?_cons,List.find?_cons];by_cases e:b.1=x
   ·rw[if_pos e]
    by_cases a:y=x
    ·subst a
     rw[if_pos rfl,zDT e];rfl
    ·have l:¬b.1=y:=λz=>a (z.symm.trans e)
     rw[if_neg a,zDF l];show(List.find? _ (bs.map _)).map _=(List.find? _ bs).map _;by_cases f:(bs.any λb=>decide (b.1=x))=true
     ·have:=j f
      rw[if_neg a]at this;exact this
     ·have c:∀z∈bs,¬z.1=x:=λz hz i=>f (List.any_eq_true.mpr ⟨z,hz,zDT i⟩)
      rw[List.map_congr_left (g:=id) λz hz=>by rw[if_neg (c z hz)];rfl,List.map_id]
   ·rw[if_neg e]
    have f:(bs.any λb=>decide (b.1=x))=true:=by
     rw[List.any_cons,zDF e,Bool.false_or]at h;exact h
    by_cases a:b.1=y
    ·rw[zDT a,if_neg (λz=>e (a.trans z))]
    ·rw[zDF a]
     exact j f
 ·rename_i h
  have c:∀z∈bx,¬z.1=x:=λz hz i=>h (List.any_eq_true.mpr ⟨z,hz,zDT i⟩);rw[List.find?_append];by_cases a:y=x
  ·subst a
   rw[if_pos rfl,List.find?_eq_none.mpr λz hz=>by simpa using c z hz];simp
  ·rw[if_neg a,List.find?_singleton,zDF (λz=>a z.symm)]
   simp
theorem xnd{bx:List (Str×D)}{x:Str}{d:D}(h:x∈bx.map (·.1)):(putA bx x d).map (·.1)=bx.map (·.1):=by
 unfold putA;obtain⟨b,a,e⟩:=zMP h;rw[if_pos (List.any_eq_true.mpr ⟨b,a,zDT e⟩),List.map_map]
 exact List.map_congr_left λz _=>by
  show(if z.1=x then (z.1,d) else z).1=z.1;split <;> rfl
theorem Same.tups{H a:Hp}(s:Same H a):∀b vs,H b=some (.tup vs)->a b=some (.tup vs):=λb vs e=>s b _ e
theorem hdT{x y:Str}(h:x=y):decide (V.str x=V.str y)=true:=zDT (congrArg V.str h)
theorem hdF{x y:Str}(h:x≠y):decide (V.str x=V.str y)=false:=zDF λz=>h (V.str.inj z)
theorem xsi{r:Row}(h:∀g,r≠.go g):r.hd≠S "go":=by cases r <;> first |exact absurd rfl (h _) |(show S _≠S _;decide +kernel)
theorem xuo{r:Row}(h:∀t g,r≠.cond t g):r.hd≠S "if":=by cases r <;> first |exact absurd rfl (h _ _) |(show S _≠S _;decide +kernel)
theorem xuq{r:Row}(h:r≠.fin):r.hd≠S "end":=by cases r <;> first |exact absurd rfl h |(show S _≠S _;decide +kernel)
theorem xsg{r:Row}(h:∀l c x,r≠.take l c x):r.hd≠S "take":=by cases r <;> first |exact absurd rfl (h _ _ _) |(show S _≠S _;decide +kernel)
structure NmsR(nms:List Str):Prop where
 len:nms.length=26
 n0:(nms.take 8).Nodup
 n8:((nms.drop 8).take 4).Nodup
 n12:((nms.drop 12).take 6).Nodup
 n18:(nms.drop 18).Nodup
 nm:∀z∈nms,Name z
theorem NmsR.of{a:List Str}(h:xqf a):NmsR a:=⟨h.1,h.2.1.sublist (List.take_sublist _ _),h.2.1.sublist ((List.take_sublist _ _).trans (List.drop_sublist _ _)),h.2.1.sublist ((List.take_sublist _ _).trans (List.drop_sublist _ _)),h.2.1.sublist (List.drop_sublist _ _),h.2.2⟩
theorem NmsR.at0{a:List Str}(h:NmsR a){i j:Nat}{z:Str}(hi:i<8)(g:j<8)(c:a[i]?=some z)(b:a[j]?=some z):i=j:=by
 have n:=h.len;have m:(a.take 8)[i]?=some z:=by rw[List.getElem?_take,if_pos hi];exact c
 have l:(a.take 8)[j]?=some z:=by rw[List.getElem?_take,if_pos g];exact b
 obtain⟨f,c⟩:=zES m;obtain⟨e,b⟩:=zES l;exact(List.getElem_inj (h₀:=f) (h₁:=e) h.n0).mp (c.trans b.symm)
theorem NmsR.at18{a:List Str}(h:NmsR a){i j:Nat}{z:Str}(hi:18<=i)(m:18<=j)(c:a[i]?=some z)(b:a[j]?=some z):i=j:=by
 have l:(a.drop 18)[i-18]?=some z:=by rw[List.getElem?_drop,show 18+(i-18)=i by omega];exact c
 have g:(a.drop 18)[j-18]?=some z:=by rw[List.getElem?_drop,show 18+(j-18)=j by omega];exact b
 obtain⟨f,c⟩:=zES l;obtain⟨e,b⟩:=zES g;have:=(List.getElem_inj (h₀:=f) (h₁:=e) h.n18).mp (c.trans b.symm);omega
theorem xt5{a:List Str}(h:NmsR a)(i:Nat):(((a.drop 8).take 4).take i).Nodup/\∀z∈((a.drop 8).take 4).take i,Name z:=by
 have hs:(((a.drop 8).take 4).take i).Sublist a:=((List.take_sublist _ _).trans (List.take_sublist _ _)).trans (List.drop_sublist _ _);exact⟨h.n8.sublist (List.take_sublist _ _),λz hz=>h.nm z (hs.subset hz)⟩
theorem NmsR.ahead{a:List Str}(h:NmsR a){i:Nat}(hi:i<8)(c:i<a.length):a[i] ∉a.take i:=λb=>by
 obtain⟨j,f,e⟩:=zMI b;rw[List.length_take]at f;rw[List.getElem_take]at e;have:=h.at0 (i:=j) (j:=i) (by omega) hi (List.getElem?_eq_some_iff.mpr ⟨by omega,e⟩) (zGA c);omega
def Sh(s:Str):Prop:=s.length<=10/\∀c∈s.cps.toList,c<16 ^ 8
def LfZ(bs:List (Str×Str))(d:D)(c:Int):Prop:=(∃i,Nm i/\d=tNum i/\1<=c)\/∃x,(∃k,(x,k)∈bs)/\d=tBox x/\1<=c
def NdZ(R:List (Str×Str)->D->Int->Prop)(bs:List (Str×Str))(d:D)(c:Int):Prop:=
 (∃s a b c1 c2,R bs a c1/\R bs b c2/\c1+c2+1<=c/\Sh s/\d=tOpD s a b) ∨
 (∃k es cs,All2 (R bs) es cs/\cs.sum+1<=c/\Sh k/\d=tRec k es) ∨
 (∃a f c',R bs a c'/\c'+1<=c/\Sh f/\d=tGet a f) ∨
 (∃k t a c',R bs a c'/\c'+1<=c/\Sh k/\Sh t/\d=tTag k t a) ∨
 (∃a rs c0 e,R bs a c0/\(∀r∈rs,Sh r.1/\Sh r.2.1/\∃k,R (bs++[(r.2.1,k)]) r.2.2 e)/\0<=e/\c0+(rs.length:Int)*e+1<=c/\d=xi8 a rs) ∨
 (∃a b e c1 c2 c3,R bs a c1/\R bs b c2/\R bs e c3/\c1+c2+c3+1<=c/\d=tIfD a b e)
def Tz:Nat->List (Str×Str)->D->Int->Prop
 |0=>LfZ
 |n+1=>λbs d c=>LfZ bs d c\/NdZ (Tz n) bs d c
theorem NdZ.mono{R o:List (Str×Str)->D->Int->Prop}(k:∀bs d c,R bs d c->o bs d c){bs:List (Str×Str)}{d:D}{c:Int}(h:NdZ R bs d c):NdZ o bs d c:=by
 rcases h with⟨s,a,b,m,l,g,j,r⟩ |⟨i,es,cs,g,r⟩ |⟨a,f,n,g,r⟩ |⟨i,t,a,n,g,r⟩ |⟨a,rs,G,e,g,j,r⟩ |⟨a,b,e,m,l,C,g,j,z,r⟩
 ·exact .inl ⟨s,a,b,m,l,k _ _ _ g,k _ _ _ j,r⟩
 ·exact .inr (.inl ⟨i,es,cs,g.imp (k bs),r⟩)
 ·exact .inr (.inr (.inl ⟨a,f,n,k _ _ _ g,r⟩))
 ·exact .inr (.inr (.inr (.inl ⟨i,t,a,n,k _ _ _ g,r⟩)))
 ·exact .inr (.inr (.inr (.inr (.inl ⟨a,rs,G,e,k _ _ _ g,(λx y=>by obtain⟨w,u,i,p⟩:=j x y;exact⟨w,u,i,k _ _ _ p⟩),r⟩))))
 ·exact .inr (.inr (.inr (.inr (.inr ⟨a,b,e,m,l,C,k _ _ _ g,k _ _ _ j,k _ _ _ z,r⟩))))
theorem xs0:∀(n:Nat) (bs:List (Str×Str)) (d:D) (c:Int),Tz n bs d c->Tz (n+1) bs d c
 |0,_,_,_,h=>.inl h
 |n+1,bs,d,c,h=>by
  rcases h with h |h
  ·exact .inl h
  ·exact .inr (h.mono (xs0 n))
theorem xlo{n m:Nat}(l:n<=m){bs:List (Str×Str)}{d:D}{c:Int}(h:Tz n bs d c):Tz m bs d c:=by
 obtain⟨k,rfl⟩:∃k,m=n+k:=⟨m-n,by omega⟩;clear l
 induction k with
 |zero=>exact h
 |succ k a=>exact xs0 _ _ _ _ a
theorem xn2{bs:List (Str×Str)}{d:D}{c a:Int}(l:c<=a)(h:LfZ bs d c):LfZ bs d a:=by
 rcases h with⟨i,hi,e,h⟩ |⟨x,b,e,h⟩
 ·exact .inl ⟨i,hi,e,by omega⟩
 ·exact .inr ⟨x,b,e,by omega⟩
theorem xmn:∀(n:Nat) (bs:List (Str×Str)) (d:D) (c u:Int),c<=u->Tz n bs d c->Tz n bs d u
 |0,_,_,_,_,l,h=>xn2 l h
 | n+1,bs,d,c,u,l,h=>by
  rcases h with h |h
  ·exact .inl (xn2 l h)
  ·refine .inr ?_
   rcases h with⟨s,a,b,j,p,g,i,m,r⟩ |⟨o,es,cs,g,i,r⟩ |⟨a,f,j,g,i,r⟩ |⟨o,t,a,j,g,i,r⟩ |⟨a,rs,y,e,g,i,m,w,r⟩ |⟨a,b,e,j,p,x,g,i,m,w,r⟩
   ·exact .inl ⟨s,a,b,j,p,g,i,by omega,r⟩
   ·exact .inr (.inl ⟨o,es,cs,g,by omega,r⟩)
   ·exact .inr (.inr (.inl ⟨a,f,j,g,by omega,r⟩))
   ·exact .inr (.inr (.inr (.inl ⟨o,t,a,j,g,by omega,r⟩)))
   ·exact .inr (.inr (.inr (.inr (.inl ⟨a,rs,y,e,g,i,m,by omega,r⟩))))
   ·exact .inr (.inr (.inr (.inr (.inr ⟨a,b,e,j,p,x,g,i,m,by omega,r⟩))))
theorem xec{x:Str}(h:Name x):Sh x:=by
 have:=Name.le h;rw[Array.length_toList]at this;refine⟨Nat.le_trans this (by decide),λc b=>?_⟩;have a:=Name.letters h c b;unfold xdm at a
 have e:c<=122:=by
  simp only[Bool.and_eq_true,decide_eq_true_eq]at a;exact a.2
 exact Nat.lt_of_le_of_lt e (by decide)
theorem xts{ks:List Kn}(a:KWf ks){x:Str}{k:Kn}(h:kAt ks x=some k):Sh x:=by
 have b:k.name=x:=by
  have:=List.find?_some h;exact of_decide_eq_true this
 rw[<- b];exact xec (a.nm k (zMF h))
theorem xji{ks:List Kn}(a:KWf ks){k:Kn}(h:k∈ks){p:Str×Str}(b:p∈k.parts):Sh p.1:=xec (a.pnm k h p b)
theorem xvk{j:Nat}(h:j<=100):Sh (byN j):=by
 refine⟨(by show(3:Nat)<=10;decide),λc b=>?_⟩;have a:c∈[98,121,97+j]:=b;simp only[List.mem_cons,List.not_mem_nil,or_false]at a;have:c<=200:=by omega
 exact Nat.lt_of_le_of_lt this (by decide)
theorem xs1{n:Nat}{bs:List (Str×Str)}{i c:Int}(hi:Nm i)(h:1<=c):Tz n bs (tNum i) c:=by
 cases n with
 |zero=>exact .inl ⟨i,hi,rfl,h⟩
 |succ n=>exact .inl (.inl ⟨i,hi,rfl,h⟩)
theorem xmo{n:Nat}{bs:List (Str×Str)}{x k:Str}{c:Int}(a:(x,k)∈bs)(h:1<=c):Tz n bs (tBox x) c:=by
 cases n with
 |zero=>exact .inr ⟨x,⟨k,a⟩,rfl,h⟩
 |succ n=>exact .inl (.inr ⟨x,⟨k,a⟩,rfl,h⟩)
def envC(bs:List (Str×Str)):En:=λy=>(bs.find? λb=>decide (b.1=y)).map λb=>D.str b.2
theorem xkb{bs:List (Str×Str)}(nd:(bs.map (·.1)).Nodup){p:Str×Str}(a:p∈bs):envC bs p.1=some (.str p.2):=by
 unfold envC
 cases e:bs.find? λb=>decide (b.1=p.1) with
 |none=>exact absurd (zDT rfl) (List.find?_eq_none.mp e p a)
 | some q=>
  have l:=of_decide_eq_true (List.find?_some (p:=λb:Str×Str=>decide (b.1=p.1)) e);have h:=zMF e
  have:q=p:=by
   obtain⟨i,hi,f⟩:=zMI h;obtain⟨j,g,c⟩:=zMI a;have:=(List.getElem_inj (h₀:=by rw[zLM];exact hi) (h₁:=by rw[zLM];exact g) nd).mp (by rw[List.getElem_map,List.getElem_map,f,c];exact l);subst this;rw[<- f,<- c]
  rw[this];rfl
theorem xp5{bs:List (Str×Str)}{z:Str}(h:∀q∈bs,q.1≠z):envC bs z=none:=by
 unfold envC;rw[List.find?_eq_none.mpr λq a=>by rw[zDF (h q a)];decide];rfl
theorem xp4{ks:List Kn}{bs:List (Str×Str)}(nd:(bs.map (·.1)).Nodup):FitK ks bs (envC bs):=⟨λp a=>xkb nd a,λz _ h=>xp5 h⟩
theorem xqm{ks:List Kn}:∀(n:Nat) (x:Str),smF n ks x<=szF n ks x
 |0,_=>Int.le_refl _
 | n + 1,x=>by
  have c:=xqm (ks:=ks) n;unfold smF szF
  cases kAt ks x with
  |none=>exact Int.le_refl _
  | some k=>
   have e:smS (smF n ks) k<=(if k.rc=true then (k.parts.map λp=>szF n ks p.2).sum else maxD (k.parts.map λp=>szF n ks p.2)):=by
    unfold smS;by_cases b:k.rc=true
    ·rw[if_pos b,if_pos b]
     have:∀l:List (Str×Str),(l.map λp=>smF n ks p.2).sum<=(l.map λp=>szF n ks p.2).sum:=by
      intro l
      induction l with
      |nil=>exact Int.le_refl _
      |cons a l f=>
       have:=c a.2;rw[List.map_cons,List.map_cons,List.sum_cons,List.sum_cons];omega
     exact this _
    ·rw[if_neg b,if_neg b]
     cases k.parts with
     |nil=>exact Int.le_refl _
     |cons p r=>
      rw[List.map_cons];exact Int.le_trans (c p.2) (xj3 (List.mem_cons_self ..))
   show 1+_<=1+_;omega
theorem xto{ks:List Kn}(a:KWf ks)(f:Fit ks){x:Str}(h:KIn ks 6 x):smK ks x<=30:=by
 have g:smK ks x<=sz ks x:=xqm 7 x;rcases h.look a with⟨rfl,_⟩ |⟨j,k,e,c,hn,b,i⟩
 ·rw[xmu a]at g
  omega
 ·have:=f k b
  rw[hn]at this;omega
def TmG(ks:List Kn)(bs:List (Str×Str))(t:D)(k:Str):Prop:=Kd True ks 21 (envC bs) t k/\Tz 21 bs t 40
def xb6:Row->Option Str
 |.take l _ _=>some l
 |_=>none
def RowG(ks:List Kn)(cs:List Chn)(h:Str)(bs:List (Str×Str))(n:Nat):Row->Prop
 |.set x t=>∃k,(x,k)∈bs/\TmG ks bs t k
 |.send c t=>∃ch∈cs,ch.1=c/\ch.2.1=h/\TmG ks bs t ch.2.2.2
 |.take l c x=>Sh l/\∃ch∈cs,ch.1=c/\ch.2.2.1=h/\(x,ch.2.2.2)∈bs
 |.tell t=>TmG ks bs t (S "num")
 |.go g=>g<n
 |.cond t g=>TmG ks bs t (S "num")/\g<n
 |.fin=>True
structure RowsG(ks:List Kn)(cs:List Chn)(x:Str)(bs:List (Str×Str))(rs:List Row):Prop where
 len:rs.length<=24
 ok:∀r∈rs,RowG ks cs x bs rs.length r
 last:∃r,rs.getLast?=some r/\r.ends
 nd:(rs.filterMap xb6).Nodup
structure HandG(ks:List Kn)(cs:List Chn)(h:Hand):Prop where
 sh:Sh h.name
 nd:(h.boxes.map (·.1)).Nodup
 few:h.boxes.length<=5
 bsh:∀b∈h.boxes,Sh b.1
 kin:∀b∈h.boxes,KIn ks 6 b.2
 rw:RowsG ks cs h.name h.boxes h.rows
structure MakG(m:Mak):Prop where
 wf:KWf m.kinds
 fit:Fit m.kinds
 cnd:(m.chans.map (·.1)).Nodup
 cfew:m.chans.length<=7
 csh:∀c∈m.chans,Sh c.1
 ckin:∀c∈m.chans,KIn m.kinds 6 c.2.2.2
 ends:∀c∈m.chans,c.2.1∈m.hands.map Hand.name/\c.2.2.1∈m.hands.map Hand.name
 hnd:(m.hands.map Hand.name).Nodup
 hfew:m.hands.length<=4
 hok:∀h∈m.hands,HandG m.kinds m.chans h
theorem xr4{ks:List Kn}(b:KWf ks):∀(m:Nat) (x:Str),KIn ks m x->Vk ks x (nuV (m+1) ks x)
 | 0,x,h=>by
  rcases h.nu b with⟨rfl,_,_,e⟩ |⟨j,k,f,_⟩
  ·rw[e]
   exact .num 0 ⟨by decide,by decide⟩
  ·cases f
 | m+1,x,h=>by
  rcases h.nu b with⟨rfl,_,_,e⟩ |⟨j,k,f,n,hn,u,l,_,s⟩
  ·rw[e]
   exact .num 0 ⟨by decide,by decide⟩
  ·cases f
   rcases s with⟨c,_,e⟩ |⟨c,p,r,o,_,e⟩
   ·rw[e]
    refine .rc n c (by rw[zLM]) λi w p g a=>?_;rw[zGM,a]at g;cases g;exact xr4 b m p.2 (l p (zMG a))
   ·rw[e]
    exact .al n c (by rw[o];simp) (xr4 b m p.2 (l p (by rw[o];simp)))
def EFit(ks:List Kn)(env ev:En):Prop:=∀x k,env x=some (.str k)->∃v,ev x=some v/\Vk ks k v
theorem EFit.put{ks:List Kn}{env b:En}(h:EFit ks env b){y k:Str}{v:D}(c:Vk ks k v):EFit ks (env.put y (.str k)) (b.put y v):=λx k' a=>by
 unfold En.put at a⊢;by_cases e:x=y
 ·rw[if_pos e]at a⊢
  cases a;exact⟨v,rfl,c⟩
 ·rw[if_neg e]at a⊢
  exact h x k' a
theorem xer{a:Kn}{f k:Str}(h:xc7 a f=some k):∃i p,a.parts[i]?=some p/\p.1=f/\p.2=k/\(a.parts.map (·.1)).findIdx? (λz=>decide (z=f))=some i:=by
 unfold xc7 at h;obtain⟨p,c,e⟩:=zMS h;rw[List.find?_eq_some_iff_getElem]at c;obtain⟨g,i,hi,l,n⟩:=c;have b:=of_decide_eq_true g;refine⟨i,p,by rw[zGA hi,l],b,e,?_⟩;rw[List.findIdx?_eq_some_iff_getElem];refine⟨by rw[zLM];exact hi,by rw[List.getElem_map,l];exact g,λj m=>?_⟩;have:=n j m;rw[List.getElem_map];intro z;rw[z]at this;cases this
theorem xu2{g:Kn}{rs:List (Str×Str×D)}(I:rs.length=g.parts.length)(nd:(rs.map (·.1)).Nodup)(o:∀r∈rs,∃s,xc7 g r.1=some s){p:Str×Str}(y:p∈g.parts):∃r∈rs,r.1=p.1:=by
 have sub:∀a∈rs.map (·.1),a∈g.parts.map (·.1):=λa f=>by
  obtain⟨r,n,rfl⟩:=zMP f;obtain⟨s,G⟩:=o r n;obtain⟨i,q,x,e,_⟩:=xer G;exact List.mem_map.mpr ⟨q,zMG x,e⟩
 have j:∀(l m:List Str),l.Nodup->(∀a∈l,a∈m)->m.length<=l.length->∀a∈m,a∈l:=by
  intro l
  induction l with
  |nil=>intro m _ _ h a f;rw[List.length_eq_zero_iff.mp (Nat.le_zero.mp h)]at f;exact f
  | cons b l w=>
   intro m nd hs h a f;by_cases e:a=b
   ·rw[e];exact List.mem_cons_self ..
   ·have C:=hs b (List.mem_cons_self ..)
    have:=w (m.erase b) (List.nodup_cons.mp nd).2 (λc u=>(List.mem_erase_of_ne λz=>(List.nodup_cons.mp nd).1 (by rw[<- z];exact u)).mpr (hs c (List.mem_cons_of_mem _ u))) (by rw[List.length_erase_of_mem C];rw[List.length_cons]at h;omega) a ((List.mem_erase_of_ne e).mpr f);exact List.mem_cons_of_mem _ this
 have:=j _ _ nd sub (by rw[zLM,zLM];omega) p.1 (List.mem_map_of_mem y);obtain⟨r,n,e⟩:=zMP this;exact⟨r,n,e⟩
theorem xob{ks:List Kn}{R:D->Str->Prop}{E:D->D->Prop}(c:∀e k,R e k->∃v,E e v/\Vk ks k v):∀{es:List D} {ps:List (Str×Str)},All2 (λe (p:Str×Str)=>R e p.2) es ps->∃vs,All2 E es vs/\vs.length=ps.length/\∀(i:Nat) w p,vs[i]?=some w->ps[i]?=some p->Vk ks p.2 w
 |_,_,.nil=>⟨[],.nil,rfl,λi w p h=>by simp at h⟩
 | _,_,.cons h t=>by
  obtain⟨v,m,l⟩:=c _ _ h;obtain⟨vs,j,g,f⟩:=xob c t;refine⟨v::vs,.cons m j,by rw[List.length_cons,List.length_cons,g],λi w p a b=>?_⟩
  cases i with
  |zero=>
   simp at a b;rw[<- a,<- b];exact l
  |succ i=>
   simp at a b;exact f i w p a b
theorem xlm{α β:Type}{R:α->β->Prop}:∀{as:List α} {bs:List β},All2 R as bs->as.length=bs.length
 |_,_,.nil=>rfl
 |_,_,.cons _ t=>by rw[List.length_cons,List.length_cons,xlm t]
theorem xpx{ks:List Kn}(J:KWf ks):∀(n:Nat) (env:En) (d:D) (k:Str),Kd True ks n env d k->∀o,EFit ks env o->∃v,Ev ks n o d v/\Vk ks k v:=by
 have leaf:∀{env o:En} {d:D} {k:Str},xgy env d k->EFit ks env o->∃v,xfc o d v/\Vk ks k v:=λh f=>by
  rcases h with⟨i,hi,rfl,rfl⟩ |⟨x,hx,rfl⟩
  ·exact⟨_,.inl ⟨i,rfl,rfl⟩,.num i hi⟩
  ·obtain⟨v,m,l⟩:=f x _ hx
   exact⟨v,.inr ⟨x,m,rfl⟩,l⟩
 intro n
 induction n with
 |zero=>exact λenv d k h o f=>leaf h f
 | succ n C=>
  intro env d k h o f;rcases h with h |h
  ·obtain⟨v,m,l⟩:=leaf h f
   exact⟨v,.inl m,l⟩
  suffices z:∃v,NodeEv ks (Ev ks n) o d v/\Vk ks k v by
   obtain⟨v,m,l⟩:=z;exact⟨v,.inr m,l⟩
  rcases h with⟨s,a,b,m,l,rfl,rfl⟩ |⟨es,M,m,l,G,rfl⟩ |⟨a,Y,g,M,m,l,G,h4,rfl⟩ |⟨t,a,M,Y,m,l,G,h4,rfl⟩ |⟨_,a,rs,Y,M,m,l,G,h4,h5,h6,h7,rfl⟩ |⟨a,b,c,m,l,G,rfl⟩
  ·obtain⟨u,w,I⟩:=C _ _ _ m o f
   obtain⟨v,U,Z⟩:=C _ _ _ l o f;obtain⟨i,hi,rfl⟩:=xeh J rfl I;obtain⟨j,hj,rfl⟩:=xeh J rfl Z;exact⟨_,.inl ⟨s,a,b,i,j,w,U,hi,hj,rfl,rfl⟩,.num _ (xqu s i j)⟩
  ·obtain⟨vs,Y,k2,k3⟩:=xob (R:=Kd True ks n env) (λe k z=>C env e k z o f) G
   have hm:=zMF m;have:=J.pts M hm;exact⟨_,.inr (.inl ⟨k,es,vs,by rw[xlm G];omega,Y,rfl,rfl⟩),.rc m l k2 k3⟩
  ·obtain⟨u,w,I⟩:=C _ _ _ m o f
   obtain⟨ws,hl,hw,rfl⟩:=xmj J l G I;obtain⟨i,p,O,_,rfl,hi⟩:=xer h4;have a0:i<ws.length:=by rw[hl];exact(zES O).1
   exact⟨ws[i],.inr (.inr (.inl ⟨a,Y,ws,g,M,i,w,l,hi,zGA a0,rfl⟩)),hw i _ p (zGA a0) O⟩
  ·obtain⟨u,w,I⟩:=C _ _ _ h4 o f
   obtain⟨i,p,O,rfl,rfl,hi⟩:=xer G;exact⟨_,.inr (.inr (.inr (.inl ⟨k,p.1,a,u,w,rfl,rfl⟩))),.al m l (zMG O) I⟩
  ·obtain⟨u,w,I⟩:=C _ _ _ m o f
   obtain⟨p,O,w',hw,rfl⟩:=xmk J l G I;obtain⟨r,hr,er⟩:=xu2 h5 h6 (λr hr=>by obtain⟨_,k2,z,_⟩:=h7 r hr;exact⟨k2,z⟩) O;obtain⟨_,k2,z,hk⟩:=h7 r hr;have hm:=zMF l
   have a2:k2=p.2:=by
    obtain⟨i,q,hq,w,U,_⟩:=xer z;have a1:=J.pnd M hm;obtain⟨j,hj,e3⟩:=zMI O;obtain⟨hi,e4⟩:=zES hq;have:=(List.getElem_inj (h₀:=by rw[zLM];exact hi) (h₁:=by rw[zLM];exact hj) a1).mp (by rw[List.getElem_map,List.getElem_map,e4,e3,w,er]);subst this;rw[<- U,<- e4,e3]
   rw[a2]at hk;obtain⟨v,U,Z⟩:=C _ _ _ hk _ (f.put (y:=r.2.1) hw);refine⟨v,.inr (.inr (.inr (.inr (.inl ⟨a,rs,Y,p.1,w',r.2.1,r.2.2,?_,w,?_,U,rfl⟩)))),Z⟩
   ·have:=J.pts M hm
    omega
   ·obtain⟨j,hj⟩:=List.mem_iff_getElem?.mp hr
    have:=xcm (f:=λr:Str×Str×D=>r.1) h6 hj;rw[er]at this;rw[this];obtain⟨r1,r2,r3⟩:=r;rw[<- er]
  ·obtain⟨u,w,I⟩:=C _ _ _ m o f
   obtain⟨i,hi,rfl⟩:=xeh J rfl I;obtain⟨v,U,Z⟩:=C _ _ _ l o f;obtain⟨v',e3,q3⟩:=C _ _ _ G o f;by_cases z:i=0
   ·exact⟨v',.inr (.inr (.inr (.inr (.inr ⟨a,b,c,i,w,by rw[if_pos z];exact e3,rfl⟩)))),q3⟩
   ·exact⟨v,.inr (.inr (.inr (.inr (.inr ⟨a,b,c,i,w,by rw[if_neg z];exact U,rfl⟩)))),Z⟩
theorem xsn{ks:List Kn}{bs:List (Str×Str)}{ev:En}(h:FitB ks bs ev):EFit ks (envC bs) ev:=λx k hx=>by
 unfold envC at hx;obtain⟨b,hb,e⟩:=zMS hx;have h1:=of_decide_eq_true (List.find?_some (p:=λb:Str×Str=>decide (b.1=x)) hb);obtain⟨v,h2,h3⟩:=h b (zMF hb);cases e;rw[h1]at h2;exact⟨v,h2,h3⟩
theorem xs2{ks:List Kn}(b:KWf ks){bs:List (Str×Str)}{t:D}{k:Str}(h:TmG ks bs t k){a:En}(f:FitB ks bs a):∃v,Ev ks 21 a t v/\Vk ks k v:=xpx b _ _ _ _ h.1 a (xsn f)
mutual
def toB:D->B
 |.int i=>.int i
 |.str x=>.str x
 |.tup es=>.tup (toBs es)
def toBs:List D->List B
 |[]=>[]
 |e::es=>toB e::toBs es
end
mutual
theorem xjn{H:Hp}:∀(d:D) {v:V},RelD H v d->RelB H v (toB d)
 |.int i,v,h=>h
 |.str x,v,h=>h
 |.tup es,v,⟨a,vs,e,ha,h⟩=>⟨a,vs,e,ha,xkv es h⟩
theorem xkv{H:Hp}:∀(ds:List D) {vs:List V},RelDs H vs ds->RelBs H vs (toBs ds)
 |[],vs,h=>h
 |d::ds,vs,⟨v,r,e,h1,h2⟩=>⟨v,r,e,xjn d h1,xkv ds h2⟩
end
theorem xek:∀(ds:List D),toBs ds=ds.map toB
 |[]=>rfl
 |d::ds=>by rw[List.map_cons,<- xek ds];rfl
theorem xq1{ks:List Kn}(c:KWf ks):∀(m:Nat) (x:Str) (d:D),KIn ks m x->Vk ks x d->fit m ks x (toB d)=true:=by
 intro m
 induction m with
 | zero=>
  intro x d g h;rcases g.look c with⟨rfl,_⟩ |⟨j,k,e,_⟩
  ·obtain⟨i,hi,rfl⟩:=xeh c rfl h
   rw[xka c];show(decide (0<=i) && decide (i<4294967296))=true;rw[zDT hi.1,zDT hi.2];rfl
  ·cases e
 | succ m r=>
  intro x d g h;rcases g.look c with⟨rfl,_⟩ |⟨j,k,e,a,hn,J,s⟩
  ·obtain⟨i,hi,rfl⟩:=xeh c rfl h
   rw[xka c];show(decide (0<=i) && decide (i<4294967296))=true;rw[zDT hi.1,zDT hi.2];rfl
  cases e;have f:∀z:Str,(B.str z).isS z=true:=λz=>zDT rfl
  cases n:k.rc with
  | true=>
   obtain⟨ws,C,o,rfl⟩:=xmj c a n h;show fit (m+1) ks x (.tup [.str x,.tup (toBs ws)])=true;rw[xj9 a,if_pos n,xgl (f x) (by rw[xek,zLM];exact C),List.all_eq_true];intro b u;unfold zipB at u;obtain⟨i,hi,e⟩:=zMI u;rw[List.getElem_zipWith]at e;rw[List.length_zipWith,xek,zLM]at hi;have w:i<k.parts.length:=by omega
   have G:i<ws.length:=by omega
   rw[<- e]
   have I:(toBs ws)[i]'(by rw[xek,zLM];omega)=toB ws[i]:=by
    simp only[xek,List.getElem_map]
   show fit m ks _ _=true;rw[I];exact r _ _ (s _ (List.getElem_mem w)) (o i _ _ (zGA G) (zGA w))
  |false=>
   obtain⟨p,l,y,o,rfl⟩:=xmk c a n h;show fit (m+1) ks x (.tup [.str x,.str p.1,toB y])=true;rw[xj9 a,if_neg (by rw[n];decide),xgx (f x),List.any_eq_true];refine⟨true,List.mem_map.mpr ⟨p,List.mem_filter.mpr ⟨l,f _⟩,r _ _ (s p l) o⟩,rfl⟩
end M
end
section
namespace L2
open PySem PySem.Spec PyProof.Rows
theorem xot {a:Addr} {o:Obj} {kvs:List (Key×V)} {ix:Cap} {g:TG} {tt:TT} {te:TE} {σ:St} {H1:Hp} {Q:VK} (Pv:Nat->List V->Hp->Prop) (h0:Pv 0 [] H1) (hn:kvs.length<sizeLine) (hl':∀i ys H,i<=kvs.length->Pv i ys H->H a=some (.frz o (.dK kvs)))
  (hs:∀i kv ys H,kvs[i]?=some kv->i<kvs.length->ys.length<=i->Pv i ys H->g (kV kv.1) (capt ix σ) H λσ2 H2=>Ext (capt ix σ) σ2/\tt σ2 H2 λb H3=>if b=true then te σ2 H3 (NxtG Pv kvs.length i ys) else NxtN Pv kvs.length i ys H3)
  (hd:∀ys H,ys.length<=kvs.length->Pv kvs.length ys H->∀D,H D=none->Q (.ref D) (upd H D (.lst ys))):xd9 (Itd a o kvs) ix g tt te σ H1 Q:=by
 refine⟨λi m ys H=>m=kvs.length-i/\i<=kvs.length/\ys.length<=i/\Pv i ys H,⟨kvs.length,by simp,Nat.zero_le _,Nat.le_refl _,h0⟩,?_⟩;rintro i m ys H ⟨rfl,hi,hl,p⟩;have q:=hl' i ys H hi p;by_cases hlt:i<kvs.length
 ·refine .inr ⟨⟨q,hlt⟩,by omega,λv H' y=>?_⟩
  obtain⟨rfl,kv,hk,rfl⟩:=y;exact hs i kv ys _ hk hlt hl p
 ·have e:i=kvs.length:=by omega
  subst e;exact .inl ⟨⟨q,Nat.le_refl _⟩,hd ys H hl p⟩
end L2
end
section
local macro_rules | `(tactic| obtain $p:rcasesPatMed:=$e:term)=>`(tactic| ((refine gcut λG hG=>?_;rcases $e:term with $p:rcasesPatMed) <;> refine hG ?_))
section
namespace L2
open PySem
abbrev qaa:List Str:=["kinds","term","boxes"]
abbrev qab:List Str:=["_law_kinds_here","_law_kind"]
abbrev qac:List Str:=["kinds","K"]
abbrev qad:List Str:=["_law_feed_here","_law_many"]
abbrev qae:List Str:=["kinds","kind","value"]
abbrev qaf:List Str:=["kind","sizes"]
abbrev qag:List Str:=["kinds","kind"]
abbrev qah:List Str:=["_law_feed_here","_law_kinds_here","_law_boxes_here","_law_kind","_law_room","_law_deep"]
abbrev qai:List Str:=["kinds","term","boxes","kind"]
abbrev qaj:List Str:=["names","things"]
abbrev qak:List Str:=["make","c"]
abbrev qal:List Str:=["found","kind"]
abbrev qam:List Str:=["_law_feed_here","_law_kinds_here","_law_boxes_here","_law_kind"]
abbrev qan:List Str:=["_law_feed_here","_law_kinds_here"]
abbrev qao:List Str:=["make","h"]
abbrev qap:List Str:=["x","boxes"]
abbrev qaq:List Str:=["kinds","kind","name"]
abbrev qar:List Str:=["boxes","x","thing"]
abbrev qas:List Str:=["_law_script","_law_k"]
abbrev qat:List Str:=["_law_feed_here","_law_kinds_here","_law_kind"]
abbrev qau:List Str:=["things","name"]
abbrev qav:List Str:=["kinds","name","sort"]
abbrev qaw:List Str:=["kinds","term","boxes","sort"]
abbrev qax:List Str:=["make","channel"]
abbrev qay:List Str:=["make","hand"]
abbrev qaz:List Str:=["make","h","boxes","row"]
abbrev qa0:List Str:=["h","rows"]
abbrev qa1:List Str:=["sign","a","b"]
abbrev qa2:List Str:=["_law_feed_here"]
abbrev qa3:List Str:=["_law_feed_here","_law_kinds_here","_law_sort","_law_names_here"]
abbrev qa4:List Str:=["_law_feed_here","_law_some"]
abbrev qa5:List Str:=["_law_feed_here","_law_kinds_here","_law_channels_here","_law_h","_law_boxes_here","_law_marks"]
abbrev qa6:List Str:=["_law_feed_here","_law_kinds_here","_law_channels_here","_law_h","_law_boxes_here","_law_names_here"]
abbrev qa7:List Str:=["_law_script","_law_at","_law_names_here"]
abbrev qa8:List Str:=["_law_script","_law_at","_law_kinds_here","_law_channels_here","_law_many","_law_names_here"]
abbrev qa9:List Str:=["_law_make_here","_law_feed_here","_law_row","_law_boxes_here"]
abbrev qba:List Str:=["_law_make_here","_law_hand","_law_feed_here"]
abbrev qbb:List Str:=["kinds","kind","arm","boxes"]
abbrev qbc:List Str:=["kinds","kind","arms"]
abbrev qbd:List Str:=["make","c","end","h"]
abbrev qbe:List Str:=["kinds","value","f"]
abbrev qbf:List Str:=["_law_cell","_law_many"]
abbrev qbg:List Str:=["_law_feed_here","_law_names_here"]
abbrev qbh:List Str:=["_law_feed_here","_law_kinds_here","_law_boxes_here","_law_parts_here","_law_kind","_law_room","_law_deep"]
abbrev qbi:List Str:=["_law_feed_here","_law_kinds_here","_law_names_here","_law_hands_here"]
abbrev qbj:List Str:=["_law_feed_here","_law_kinds_here","_law_channels_here","_law_h","_law_names_here"]
end L2
namespace K30
open PySem L2 M
seal L2.PE L2.PA L2.PS L2.PSs L2.PT L2.PW L2.PI L2.PG L2.PJ L2.PTs
def top(i:Nat):Stmt:=PySem.Challenge.pw_swapstride_k30_whole_kinds_stay.main.body.getD i (.Pass ⟨0,0,0,0⟩)
abbrev s_look_kinds:Stmt:=top 12
theorem sc_look_kinds:FnScope ["kinds","sizes","kind"] ["kinds"] (xab s_look_kinds):=by walk_at"q"
abbrev s_look_names:Stmt:=top 13
theorem sc_look_names:FnScope ["kind","sizes","name","parts","part","other"] qaf (xab s_look_names):=by walk_at"q"
abbrev s_need_once:Stmt:=top 14
theorem xh2:FnScope qaj qaj (xab s_need_once):=by walk_at"q"
abbrev s_looked_size:Stmt:=top 15
theorem sc_looked_size:FnScope ["kind","sizes","size","name"] qaf (xab s_looked_size):=by walk_at"q"
abbrev s_size_by:Stmt:=top 16
theorem sc_size_by:FnScope ["kind","sizes","inner"] qaf (xab s_size_by):=by walk_at"q"
abbrev s_sort_of:Stmt:=top 17
theorem sc_sort_of:FnScope ["kinds","K","name","sort","parts"] qac (xab s_sort_of):=by walk_at"q"
abbrev s_parts_of:Stmt:=top 18
theorem sc_parts_of:FnScope ["kinds","K","name","sort","parts"] qac (xab s_parts_of):=by walk_at"q"
abbrev s_need_there:Stmt:=top 19
theorem sc_need_there:FnScope qag qag (xab s_need_there):=by walk_at"q"
abbrev s_ways_of:Stmt:=top 21
theorem sc_ways_of:FnScope ["rows"] ["rows"] (xab s_ways_of):=by walk_at"q"
abbrev s_row_ways:Stmt:=top 22
theorem xjj:FnScope ["row","k"] ["row","k"] (xab s_row_ways):=by walk_at"q"
abbrev s_hand_of:Stmt:=top 23
theorem xlv:FnScope qao qao (xab s_hand_of):=by walk_at"q"
abbrev s_channel_of:Stmt:=top 24
theorem xg5:FnScope qak qak (xab s_channel_of):=by walk_at"q"
abbrev s_named:Stmt:=top 25
theorem sc_named:FnScope ["things","name","thing"] qau (xab s_named):=by walk_at"q"
abbrev s_kind_of:Stmt:=top 28
theorem sc_kind_of:FnScope ["kinds","term","boxes","head"] qaa (xab s_kind_of):=by walk_at"q"
abbrev s_num_kind:Stmt:=top 29
theorem xjl:FnScope ["n"] ["n"] (xab s_num_kind):=by walk_at"q"
abbrev s_box_kind:Stmt:=top 30
theorem xjm:FnScope qap qap (xab s_box_kind):=by walk_at"q"
abbrev s_op_kind:Stmt:=top 31
theorem xlu:FnScope qaa qaa (xab s_op_kind):=by walk_at"q"
abbrev s_rec_kind:Stmt:=top 32
theorem sc_rec_kind:FnScope ["kinds","term","boxes","name","parts","part","inner"] qaa (xab s_rec_kind):=by walk_at"q"
abbrev s_get_kind:Stmt:=top 33
theorem sc_get_kind:FnScope qai qaa (xab s_get_kind):=by walk_at"q"
abbrev s_tag_kind:Stmt:=top 34
theorem sc_tag_kind:FnScope ["kinds","term","boxes","name"] qaa (xab s_tag_kind):=by walk_at"q"
abbrev s_case_kind:Stmt:=top 35
theorem sc_case_kind:FnScope ["kinds","term","boxes","kind","arms","inner","arm"] qaa (xab s_case_kind):=by walk_at"q"
abbrev s_arm_kind:Stmt:=top 36
theorem sc_arm_kind:FnScope ["kinds","kind","arm","boxes","x"] qbb (xab s_arm_kind):=by walk_at"q"
abbrev s_if_kind:Stmt:=top 37
theorem sc_if_kind:FnScope qai qaa (xab s_if_kind):=by walk_at"q"
abbrev s_need_kind:Stmt:=top 38
theorem xh3:FnScope qai qai (xab s_need_kind):=by walk_at"q"
abbrev s_need_same:Stmt:=top 39
theorem xh1:FnScope qal qal (xab s_need_same):=by walk_at"q"
abbrev s_need_sort:Stmt:=top 40
theorem sc_need_sort:FnScope ["kinds","name","sort","found"] qav (xab s_need_sort):=by walk_at"q"
abbrev s_kind_of_sort:Stmt:=top 41
theorem sc_kind_of_sort:FnScope ["kinds","term","boxes","sort","kind"] qaw (xab s_kind_of_sort):=by walk_at"q"
abbrev s_part_kind:Stmt:=top 42
theorem sc_part_kind:FnScope ["kinds","kind","name","part"] qaq (xab s_part_kind):=by walk_at"q"
abbrev s_need_tags:Stmt:=top 43
theorem sc_need_tags:FnScope ["kinds","kind","arms","own","tags","tag"] qbc (xab s_need_tags):=by walk_at"q"
abbrev s_with_box:Stmt:=top 44
theorem sc_with_box:FnScope ["boxes","x","thing","more"] qar (xab s_with_box):=by walk_at"q"
abbrev s_look:Stmt:=top 48
theorem sc_look:FnScope ["make","channel","hand"] ["make"] (xab s_look):=by walk_at"q"
abbrev s_look_channel:Stmt:=top 49
theorem sc_look_channel:FnScope ["make","channel","h"] qax (xab s_look_channel):=by walk_at"q"
abbrev s_look_hand:Stmt:=top 50
theorem sc_look_hand:FnScope ["make","hand","h","rows","box","boxes","row"] qay (xab s_look_hand):=by walk_at"q"
abbrev s_look_row:Stmt:=top 51
theorem sc_look_row:FnScope ["make","h","boxes","row","head"] qaz (xab s_look_row):=by walk_at"q"
abbrev s_own_kind:Stmt:=top 52
theorem sc_own_kind:FnScope ["make","c","end","h","channel"] qbd (xab s_own_kind):=by walk_at"q"
abbrev s_look_falls:Stmt:=top 53
theorem sc_look_falls:FnScope ["h","rows","ways","way"] qa0 (xab s_look_falls):=by walk_at"q"
abbrev s_is_of:Stmt:=top 55
theorem sc_is_of:FnScope qae qae (xab s_is_of):=by walk_at"q"
abbrev s_is_num:Stmt:=top 56
theorem sc_is_num:FnScope ["value"] ["value"] (xab s_is_num):=by walk_at"q"
abbrev s_is_rec:Stmt:=top 57
theorem sc_is_rec:FnScope ["kinds","kind","value","inner","parts"] qae (xab s_is_rec):=by walk_at"q"
abbrev s_is_alt:Stmt:=top 58
theorem sc_is_alt:FnScope qae qae (xab s_is_alt):=by walk_at"q"
abbrev s_nought:Stmt:=top 59
theorem sc_nought:FnScope ["kinds","kind","parts"] qag (xab s_nought):=by walk_at"q"
abbrev s_field:Stmt:=top 60
theorem sc_field:FnScope ["kinds","value","f","names"] qbe (xab s_field):=by walk_at"q"
abbrev s_worth:Stmt:=top 62
theorem sc_worth:FnScope ["kinds","term","boxes","head","taken"] qaa (xab s_worth):=by walk_at"q"
abbrev s_op_worth:Stmt:=top 63
theorem xjk:FnScope qa1 qa1 (xab s_op_worth):=by walk_at"q"
abbrev s_case_worth:Stmt:=top 64
theorem sc_case_worth:FnScope ["kinds","term","boxes","value","arm"] qaa (xab s_case_worth):=by walk_at"q"
abbrev sl_feed:Stmt:=top 66
theorem scl_feed:FnScope ["_law_script","_law_k","_law_cell"] qas (xab sl_feed):=by walk_at"q"
abbrev sl_take:Stmt:=top 67
theorem scl_take:FnScope ["_law_feed_here","_law_many","_law_digit","_law_one"] qad (xab sl_take):=by walk_at"q"
abbrev sl_names:Stmt:=top 68
theorem scl_names:FnScope ["_law_cell","_law_many","_law_letters","_law_size_here","_law_at","_law_common","_law_found"] qbf (xab sl_names):=by walk_at"q"
abbrev sl_number:Stmt:=top 69
theorem scl_number:FnScope ["_law_feed_here","_law_form"] qa2 (xab sl_number):=by walk_at"q"
abbrev sl_sort_of:Stmt:=top 70
theorem scl_sort_of:FnScope ["_law_kinds_here","_law_kind","_law_name","_law_sort","_law_parts_here"] qab (xab sl_sort_of):=by walk_at"q"
abbrev sl_size:Stmt:=top 71
theorem scl_size:FnScope ["_law_kinds_here","_law_kind","_law_sort","_law_parts_here","_law_sizes"] qab (xab sl_size):=by walk_at"q"
abbrev sl_small:Stmt:=top 72
theorem scl_small:FnScope ["_law_kinds_here","_law_kind","_law_sort","_law_parts_here"] qab (xab sl_small):=by walk_at"q"
abbrev sl_parts:Stmt:=top 73
theorem scl_parts:FnScope ["_law_feed_here","_law_kinds_here","_law_sort","_law_names_here","_law_parts_here","_law_left","_law_j","_law_kind"] qa3 (xab sl_parts):=by walk_at"q"
abbrev sl_kinds:Stmt:=top 74
theorem scl_kinds:FnScope ["_law_feed_here","_law_names_here","_law_kinds_here","_law_k","_law_sort"] qbg (xab sl_kinds):=by walk_at"q"
abbrev sl_boxed:Stmt:=top 75
theorem xna:FnScope qa4 qa4 (xab sl_boxed):=by walk_at"q"
abbrev sl_arms:Stmt:=top 76
theorem scl_arms:FnScope ["_law_feed_here","_law_kinds_here","_law_boxes_here","_law_parts_here","_law_kind","_law_room","_law_deep","_law_arms_here","_law_each","_law_t","_law_part","_law_x"] qbh (xab sl_arms):=by walk_at"q"
abbrev sl_whole_term:Stmt:=top 77
theorem scl_whole_term:FnScope ["_law_feed_here","_law_kinds_here","_law_boxes_here","_law_kind","_law_room","_law_deep","_law_sort","_law_parts_here","_law_one","_law_other","_law_some","_law_t","_law_part","_law_more","_law_terms","_law_f"] qah (xab sl_whole_term):=by walk_at"q"
abbrev sl_term:Stmt:=top 78
theorem scl_term:FnScope ["_law_feed_here","_law_kinds_here","_law_boxes_here","_law_kind","_law_room","_law_deep","_law_some","_law_form","_law_small_here","_law_more","_law_one","_law_first","_law_held","_law_x","_law_told","_law_sort","_law_parts_here","_law_f","_law_tags"] qah (xab sl_term):=by walk_at"q"
abbrev sl_new_term:Stmt:=top 79
theorem xh0:FnScope qam qam (xab sl_new_term):=by walk_at"q"
abbrev sl_any_kind:Stmt:=top 80
theorem scl_any_kind:FnScope qan qan (xab sl_any_kind):=by walk_at"q"
abbrev sl_channels:Stmt:=top 81
theorem scl_channels:FnScope ["_law_feed_here","_law_kinds_here","_law_names_here","_law_hands_here","_law_found","_law_k","_law_ends"] qbi (xab sl_channels):=by walk_at"q"
abbrev sl_boxes:Stmt:=top 82
theorem scl_boxes:FnScope ["_law_feed_here","_law_kinds_here","_law_channels_here","_law_h","_law_names_here","_law_wants","_law_c","_law_come","_law_to","_law_kind","_law_k","_law_turn"] qbj (xab sl_boxes):=by walk_at"q"
abbrev sl_deal:Stmt:=top 83
theorem scl_deal:FnScope ["_law_feed_here","_law_kinds_here","_law_channels_here","_law_h","_law_boxes_here","_law_marks","_law_form","_law_into","_law_c","_law_come","_law_to","_law_kind","_law_out","_law_x"] qa5 (xab sl_deal):=by walk_at"q"
abbrev sl_rows:Stmt:=top 84
theorem scl_rows:FnScope ["_law_feed_here","_law_kinds_here","_law_channels_here","_law_h","_law_boxes_here","_law_names_here","_law_marks","_law_rows_here","_law_many","_law_at","_law_form","_law_test"] qa6 (xab sl_rows):=by walk_at"q"
abbrev sl_make:Stmt:=top 85
theorem scl_make:FnScope ["_law_script","_law_at","_law_names_here","_law_kinds_here","_law_feed_here","_law_hands_here"] qa7 (xab sl_make):=by walk_at"q"
abbrev sl_hands:Stmt:=top 86
theorem scl_hands:FnScope ["_law_script","_law_at","_law_kinds_here","_law_channels_here","_law_many","_law_names_here","_law_found","_law_k","_law_feed_here","_law_boxes_here"] qa8 (xab sl_hands):=by walk_at"q"
abbrev sl_value:Stmt:=top 87
theorem scl_value:FnScope ["_law_feed_here","_law_kinds_here","_law_kind","_law_sort","_law_parts_here","_law_t","_law_part"] qat (xab sl_value):=by walk_at"q"
abbrev sl_done:Stmt:=top 88
theorem scl_done:FnScope ["_law_make_here","_law_feed_here","_law_row","_law_boxes_here","_law_kinds_here"] qa9 (xab sl_done):=by walk_at"q"
abbrev sl_goes:Stmt:=top 89
theorem scl_goes:FnScope ["_law_make_here","_law_hand","_law_feed_here","_law_h","_law_told","_law_rows_here","_law_kinds_here","_law_boxes_here","_law_x","_law_kind","_law_ways","_law_at","_law_k","_law_row","_law_value_here","_law_goal"] qba (xab sl_goes):=by walk_at"q"
abbrev s_law:Stmt:=top 90
theorem sc_law:FnScope ["_law_script","_law_names_here","_law_make_here"] ["_law_script"] (xab s_law):=by walk_at"q"
structure Tx(K:Fg)(mg:Str->Option Value):Prop where
 jA:DefTx K mg "look_kinds" s_look_kinds ["kinds"]
 jB:DefTx K mg "look_names" s_look_names qaf
 jC:DefTx K mg "need_once" s_need_once qaj
 jD:DefTx K mg "looked_size" s_looked_size qaf
 jE:DefTx K mg "size_by" s_size_by qaf
 jF:DefTx K mg "sort_of" s_sort_of qac
 jG:DefTx K mg "parts_of" s_parts_of qac
 jH:DefTx K mg "need_there" s_need_there qag
 jI:DefTx K mg "ways_of" s_ways_of ["rows"]
 jJ:DefTx K mg "row_ways" s_row_ways ["row","k"]
 jK:DefTx K mg "hand_of" s_hand_of qao
 jL:DefTx K mg "channel_of" s_channel_of qak
 jM:DefTx K mg "named" s_named qau
 jN:DefTx K mg "kind_of" s_kind_of qaa
 jO:DefTx K mg "num_kind" s_num_kind ["n"]
 jP:DefTx K mg "box_kind" s_box_kind qap
 jQ:DefTx K mg "op_kind" s_op_kind qaa
 jR:DefTx K mg "rec_kind" s_rec_kind qaa
 jS:DefTx K mg "get_kind" s_get_kind qaa
 jT:DefTx K mg "tag_kind" s_tag_kind qaa
 jU:DefTx K mg "case_kind" s_case_kind qaa
 jV:DefTx K mg "arm_kind" s_arm_kind qbb
 jW:DefTx K mg "if_kind" s_if_kind qaa
 jX:DefTx K mg "need_kind" s_need_kind qai
 jY:DefTx K mg "need_same" s_need_same qal
 jZ:DefTx K mg "need_sort" s_need_sort qav
 j0:DefTx K mg "kind_of_sort" s_kind_of_sort qaw
 j1:DefTx K mg "part_kind" s_part_kind qaq
 j2:DefTx K mg "need_tags" s_need_tags qbc
 j3:DefTx K mg "with_box" s_with_box qar
 j4:DefTx K mg "look" s_look ["make"]
 j5:DefTx K mg "look_channel" s_look_channel qax
 j6:DefTx K mg "look_hand" s_look_hand qay
 j7:DefTx K mg "look_row" s_look_row qaz
 j8:DefTx K mg "own_kind" s_own_kind qbd
 j9:DefTx K mg "look_falls" s_look_falls qa0
 kA:DefTx K mg "is_of" s_is_of qae
 kB:DefTx K mg "is_num" s_is_num ["value"]
 kC:DefTx K mg "is_rec" s_is_rec qae
 kD:DefTx K mg "is_alt" s_is_alt qae
 kE:DefTx K mg "nought" s_nought qag
 kF:DefTx K mg "field" s_field qbe
 kG:DefTx K mg "worth" s_worth qaa
 kH:DefTx K mg "op_worth" s_op_worth qa1
 kI:DefTx K mg "case_worth" s_case_worth qaa
 kJ:DefTx K mg "_law_feed" sl_feed qas
 kK:DefTx K mg "_law_take" sl_take qad
 kL:DefTx K mg "_law_names" sl_names qbf
 kM:DefTx K mg "_law_number" sl_number qa2
 kN:DefTx K mg "_law_sort_of" sl_sort_of qab
 kO:DefTx K mg "_law_size" sl_size qab
 kP:DefTx K mg "_law_small" sl_small qab
 kQ:DefTx K mg "_law_parts" sl_parts qa3
 kR:DefTx K mg "_law_kinds" sl_kinds qbg
 kS:DefTx K mg "_law_boxed" sl_boxed qa4
 kT:DefTx K mg "_law_arms" sl_arms qbh
 kU:DefTx K mg "_law_whole_term" sl_whole_term qah
 kW:DefTx K mg "_law_term" sl_term qah
 kX:DefTx K mg "_law_new_term" sl_new_term qam
 kY:DefTx K mg "_law_any_kind" sl_any_kind qan
 kZ:DefTx K mg "_law_channels" sl_channels qbi
 k0:DefTx K mg "_law_boxes" sl_boxes qbj
 k5:DefTx K mg "_law_deal" sl_deal qa5
 k6:DefTx K mg "_law_rows" sl_rows qa6
 uA:DefTx K mg "_law_make" sl_make qa7
 uB:DefTx K mg "_law_hands" sl_hands qa8
 uC:DefTx K mg "_law_value" sl_value qat
 uD:DefTx K mg "_law_done" sl_done qa9
 uE:DefTx K mg "_law_goes" sl_goes qba
 uF:DefTx K mg "law" s_law ["_law_script"]
 uG:∃t,mg "GREATEST_SIZE"=some (.int 30 t)
 uH:∃t,mg "WIDE"=some (.int 4294967296 t)
 uI:∃t,mg "FROM"=some (.int 1 t)
 uJ:∃t,mg "TO"=some (.int 2 t)
 uK:mg "all"=none
 uL:mg "any"=none
 uM:mg "bool"=none
 uN:mg "dict"=none
 uO:mg "enumerate"=none
 uP:mg "int"=none
 uQ:mg "isinstance"=none
 uR:mg "len"=none
 uS:mg "list"=none
 uT:mg "max"=none
 uU:mg "min"=none
 uV:mg "range"=none
 uW:mg "set"=none
 uX:mg "sum"=none
 uY:mg "tuple"=none
 uZ:mg "zip"=none
theorem fits{n:Nat}(h:n<=4000000):n<=sizeLine:=Nat.le_trans h (by decide)
theorem xa4{n:Nat}(h:n<=4000000):n<sizeLine:=Nat.lt_of_le_of_lt h (by decide)
def xks(K:Fg):Sp:=λvs H Q _=>∃(a:Addr) (ns:List Int) (k:Int),vs=[.ref a,.int k]/\SqL K H a (ns.map V.int)/\ns.length<=63/\0<=k/\∀(r:Addr) (p q:Int),H r=none->Q (.ref r) (upd H r (.lst [.int p,.int q]))
def xcn:Sp:=λvs H Q _=>∃(a:Addr) (p q m:Int),vs=[.ref a,.int m]/\H a=some (.lst [.int p,.int q])/\0<m/\m<2 ^ 64/\∀(r:Int) (H':Hp),0<=r->r<m->Fed a H H'->Q (.int r) H'
section
variable {P:Program}{w:World}{K:Fg}{mg:Str->Option Value}{base:Heap}{n:Nat}
theorem xkh{ns:List Int}{k:Int}(h0:0<=k)(h:k<(ns.length:Int)):∃v:Int,atI (ns.map V.int) k=some (.int v):=by
 have a:k.toNat<ns.length:=by omega
 have b:k=((k.toNat:Nat):Int):=by omega
 refine⟨ns[k.toNat],?_⟩;have q:atI (ns.map V.int) ((k.toNat:Nat):Int)=some (.int ns[k.toNat]):=xak (by rw[zGM,zGA a] <;> rfl);rw[<- b]at q;exact q
theorem xc4:2<=sizeLine:=by decide
theorem xha(T:Tx K z):DefIs P w K z base (n+1) "_law_feed" qas (xks K):=by
 refine DefIs.of T.kJ scl_feed (λvs H Q E h=>?_) (λf I A outer s H vs Q E J h=>?_)
 ·obtain⟨a,ns,k,rfl,_⟩:=h
  rfl
 obtain⟨a,ns,k,rfl,O,G,C,q⟩:=h;have nd:=scl_feed.nd;have g:(ns.map V.int).length=ns.length:=zLM _
 refine⟨_,(zpn (psn 2 nd pI)
   (zpn (xar (pR xee (pv 1) (xai (xac (K:=K) rfl) rfl T.uR PySem.boot_len (v1 0)) (nM _)) (zpo (psn 2 nd (pxl K (pv 0) (pv 1)))) pQ)
   (zpn (xar (PW.pt (xc1 (pR xdt (xai (xac (K:=K) rfl) rfl T.uR PySem.boot_len (v1 0)) pI (nM _)) (xcp (pR xa0 (xam xcd (pxl K (pv 0) pI) pI) pI (nM _))))) (zpo (xaf (xcy (va 2 (pc (xam xbe (xam xcd (xam xbe (xam xdf (xam xcd (pv 2) pI) pI) (xam xdf pI (pv 1))) pI) pI) pN xa5))))) pQ)
   (zpn (xar (PW.pt (xc1 (pR xr0 (pv 1) (xai (xac (K:=K) rfl) rfl T.uR PySem.boot_len (v1 0)) (nM _)) (xcp (pR xdt (xai (xac (K:=K) rfl) rfl T.uR PySem.boot_len (v1 0)) pI (nM _))))) (zpo (psn 2 nd (xam xbe (pxl K (pv 0) (xam xcd (pv 1) (xai (xac (K:=K) rfl) rfl T.uR PySem.boot_len (v1 0)))) (xam xdf pI (pv 1))))) pQ)
   (zpo (xaf (xcy (pc pI (pc (xam xbe (xam xcd (xam xbe (xam xdf (xam xcd (pv 2) pI) pI) (xam xdf pI (pv 1))) pI) pI) pN xa5) so)))))))),?_⟩
 have h0:0<ns.length->∃v:Int,atI (ns.map V.int) 0=some (.int v):=λh=>xkh (Int.le_refl 0) (by omega);walk_at"rd";refine ite2 (λc=>?_) (λc=>?_)
 ·have o:=of_decide_eq_true c
  rw[g]at o;obtain⟨v,x⟩:=xkh (ns:=ns) C o;obtain⟨y,p⟩:=h0 (by omega);walk_at"rd";refine ite2 (λj=>?_) (λj=>?_)
  ·walk_at"rd"
   refine ite2 (λu=>?_) (λu=>?_)
   ·walk_at"rd"
    exact⟨xc4,λl b=>q l _ _ b⟩
   ·walk_at"rd"
    refine ite2 (λi=>?_) (λi=>?_)
    ·have r:=of_decide_eq_true i
     rw[g]at r;omega
    ·refine iteF ?_
     walk_at"rd";exact⟨xc4,λl b=>q l _ _ b⟩
  ·have e:=of_decide_eq_false (Bool.eq_false_iff.mpr j)
   rw[g]at e;omega
 ·have o:=of_decide_eq_false (Bool.eq_false_iff.mpr c)
  rw[g]at o;walk_at"rd";refine ite2 (λj=>?_) (λj=>?_)
  ·have e:=of_decide_eq_true j
   rw[g]at e;obtain⟨y,p⟩:=h0 (by omega);walk_at"rd";refine ite2 (λu=>?_) (λu=>?_)
   ·walk_at"rd"
    exact⟨xc4,λl b=>q l _ _ b⟩
   ·walk_at"rd"
    refine ite2 (λi=>?_) (λi=>?_)
    ·walk_at"rd"
     refine ite2 (λm=>?_) (λm=>?_)
     ·obtain⟨v,x⟩:=xkh (ns:=ns) (k:=k%(ns.length:Int)) (Int.emod_nonneg _ (by omega)) (Int.emod_lt_of_pos _ (by omega))
      rw[<- g]at x;have M:(0:Int)<((ns.map V.int).length:Nat):=by rw[g];omega
      walk_at"rd";exact⟨xc4,λl b=>q l _ _ b⟩
     ·walk_at"rd"
      exact⟨xc4,λl b=>q l _ _ b⟩
    ·refine iteF ?_
     walk_at"rd";exact⟨xc4,λl b=>q l _ _ b⟩
  ·refine iteF ?_
   walk_at"rd";refine ite2 (λi=>?_) (λi=>?_)
   ·walk_at"rd"
    refine ite2 (λm=>?_) (λm=>?_)
    ·have e:=of_decide_eq_false (Bool.eq_false_iff.mpr j)
     exact absurd (of_decide_eq_true m) e
    ·walk_at"rd"
     exact⟨xc4,λl b=>q l _ _ b⟩
   ·refine iteF ?_
    walk_at"rd";exact⟨xc4,λl b=>q l _ _ b⟩
theorem xc8(T:Tx K e):DefIs P w K e base (n+1) "_law_take" qad xcn:=by
 refine DefIs.of T.kK scl_take (λvs H Q E h=>?_) (λf i A outer s H vs Q E l h=>?_)
 ·obtain⟨a,p,q,m,rfl,_⟩:=h
  rfl
 obtain⟨a,p,q,m,rfl,g,b,j,k⟩:=h;have nd:=scl_take.nd;have o:SqL K H a [.int p,.int q]:=SqL.of g
 refine⟨_,(zpn (xar (pR xdt (pxl K (pv 0) pI) pI (nM _)) (zpn (psn 2 nd (xam xcd (pxl K (pv 0) pI) (pv 1)))
   (zpn (xc6 (xam xcf (pxl K (pv 0) pI) (pv 1)) (xqq (pv 0) pI xku))
   (zpo (xaf (pv 2))))) pQ)
   (zpn (psn 3 nd (xam xcd (xam xdf (pxl K (pv 0) pI) pI) pI))
   (zpn (xc6 (xam xbe (xam xcd (xam xbe (xam xdf (pv 3) pI) pI) pI) pI) (xqq (pv 0) pI xku))
   (zpo (xaf (xam xcd (xam xcf (xam xbe (xam xdf (pv 3) pI) (pxl K (pv 0) pI)) pI) (pv 1))))))),?_⟩
 walk_at"rd";refine ite2 (λc=>?_) (λc=>?_)
 ·walk_at"rd"
  refine k _ _ (Int.emod_nonneg _ (by omega)) (Int.emod_lt_of_pos _ b) Fed.of
 ·walk_at"rd"
  refine(xap _ _ _ _ rfl rfl (SqL.of ups) rfl ?_);walk_at"rd";refine k _ _ (Int.emod_nonneg _ (by omega)) (Int.emod_lt_of_pos _ b) Fed.of
end
def xmz:Sp:=λvs H Q _=>∃c:Int,vs=[.int c,.int 26]/\∀(b:Addr) (H':Hp) (nms:List Str),Same H H'->H b=none->H' b=some (.lst (nms.map V.str))->xqf nms->(∀z∈nms,NoBy z/\NoMo z)->Q (.ref b) H'
section
variable {P:Program}{w:World}{K:Fg}{mg:Str->Option Value}{base:Heap}{n m:Nat}
theorem xnn(T:Tx K mg):DefIs P w K mg base (n+1) "_law_names" qbf xmz:=by
 refine DefIs.of T.kL scl_names (by walk_at"l") (λf a4 A outer s H vs Q E hr h=>?_);obtain⟨c,rfl,k⟩:=h;have nd:=scl_names.nd
 refine⟨_,(zpn (psn 2 nd pS)
   (zpn (psn 3 nd (xam xcd (pv 0) pI))
   (zpn (psn 4 nd (xam xcd (xam xcf (pv 0) pI) (xam xbe (pv 3) pI)))
   (zpn (psn 5 nd (xep PySem.F.plainAttrs_str PySem.F.slot_str_join PySem.F.type_str_join xsa pS (pc (xbr ["_law_j","_law_cell"] [none,some 0] rfl (by kernel_rfl) (xb4 rfl T.uV (v1 3)) (λ_ _ _ _=>(pgc 0)) (λ_ _ _ _=>xbq) (λ_ _ _ _=>(xly xla pS (xam xcd (xam xbe (xam xcf (pv 1) pI) (pv 0)) pI) (λ_ _=>rfl)))) pN xbp)))
   (zpn (psn 6 nd (xbr ["_law_k","_law_common","_law_letters","_law_at","_law_cell"] [none,some 5,some 2,some 4,some 0] rfl (by kernel_rfl) (xb4 rfl T.uV (v1 1)) (λ_ _ _ _=>(pgc 0)) (λ_ _ _ _=>xbq) (λ_ _ _ _=>(xam xd2 (xam xd2 (xd1 xqn (pv 1) xg6 (xdq (pv 3))) (xly xla (pv 2) (xam xcd (xam xbe (xam xcf (pv 4) pI) (xam xdf pI (pv 0))) pI) (λ_ _=>rfl))) (xd1 xqn (pv 1) (xdq (pv 3)) xg6)))))
   (zpn (xar (pR xa0 (xam xcd (xam xcf (pv 0) pI) pI) pI (nM _)) (zpo (xaf (pv 6))) pQ)
   (zpo (xaf (xbr ["_law_k","_law_found"] [none,some 6] rfl (by kernel_rfl) (xb4 rfl T.uV (v1 1)) (λ_ _ _ _=>(pgc 0)) (λ_ _ _ _=>xbq) (λ_ _ _ _=>(xam xd2 (pxl K (pv 1) (xam xci (pv 0) (xam xcd (pv 0) pI))) (xam xry pS (xam xcd (pv 0) pI))))))))))))),?_⟩
 have m0:0<=c%5:=Int.emod_nonneg _ (by decide);have m5:c%5<5:=Int.emod_lt_of_pos _ (by decide);refine(xa8 _ rfl _ _ rfl rfl (by show(0:Int)<5;decide) ?_);have hp:0<(c%5)+1:=by omega
 refine(xa8 _ rfl _ _ rfl rfl ⟨by decide,by decide⟩ (xbs _ rfl _ _ rfl rfl _ _ rfl rfl ⟨hp,?_⟩));have a0:0<=c / 5%((c%5)+1):=Int.emod_nonneg _ (by omega);have a1:c / 5%((c%5)+1)<(c%5)+1:=Int.emod_lt_of_pos _ hp;refine(jAEA rfl _ rfl (xbx _ rfl (by omega) (by omega) ?_));refine xdg (j:=0) (λi ys I=>I=H/\∃cs:List Nat,ys=(cs.map xc5).map V.str/\∀c∈cs,c∈five) (by rfl) (jAEA rfl ([]) rfl (λ_ h=>nomatch h)) (xa4 (by omega)) ?_ ?_
 ·rintro i ys I hi Y ⟨rfl,cs,rfl,a⟩
  refine(xa8 _ rfl _ _ rfl rfl ⟨by decide,by decide⟩ (xbs _ rfl _ _ rfl rfl _ _ rfl rfl ⟨(by show(0:Int)<5;decide),?_⟩));obtain⟨ch,Z,a2⟩:=xsm (Int.emod_nonneg (c / 25+(0+(i:Int))) (by decide:(5:Int)≠0)) (Int.emod_lt_of_pos _ (by decide));refine(xaq _ _ ch rfl rfl (by walk_at"k") a2 ?_)
  exact nxt hi Y ⟨rfl,cs++[ch],by simp[xc5],λx o=>by
   rcases zMA o with o |o
   ·exact a x o
   ·rw[zMO o];exact Z⟩
 ·rintro ys I Y ⟨rfl,cs,rfl,a⟩ D hD
  rw[zLM,zLM]at Y;refine(xaq (S "") D (cs.map xc5) rfl rfl (SqL.of ups) ?_ ?_)
  ·rw[xi9,show(S "").length=0 by walk_at"k"]
   omega
  rw[xis];have m:=Same.new hD (.lst ((cs.map xc5).map V.str));generalize upd I D (.lst ((cs.map xc5).map V.str))=H1 at m⊢;have b:(ofL cs).length=cs.length:=by rw[<- xew,xdx]
  have c4:cs.length<=4:=by omega
  refine(xba _ rfl _ rfl (by decide) ⟨by decide,?_⟩);refine xdg (j:=0) (λi ys G=>G=H1/\ys=((List.range i).map λk=>ofL (nmA cs (c / 5%(c%5+1)).toNat (c / 125) k)).map V.str) (by rfl) ⟨rfl,rfl⟩ (xa4 (by decide)) ?_ ?_
  ·rintro i ys G hi r ⟨rfl,rfl⟩
   have e0:(0+(i:Int))=(i:Int):=by omega
   have U:0<=(c / 125+5*(0+(i:Int)))%26:=Int.emod_nonneg _ (by decide);have O:(c / 125+5*(0+(i:Int)))%26<26:=Int.emod_lt_of_pos _ (by decide);refine(jEA _ rfl (jEA _ rfl (xba _ rfl _ rfl (fits (by rw[b];omega)) ?_)));refine(jEA _ rfl (xa8 _ rfl _ _ rfl rfl ⟨by decide,by decide⟩ (xa8 _ rfl _ _ rfl rfl (.inl ⟨by decide,by decide⟩) (xat _ _ rfl rfl (xb0 _ _ rfl rfl (by show(0:Int)<26;decide) ?_)))));refine(xaq _ _ _ rfl rfl (by walk_at"k") (xn5 U O) ?_);rw[xo5 (ofL cs) a0 (by rw[b];omega)];refine(xb0 _ _ rfl rfl ?_ ?_)
   ·refine fits ?_
    rw[show(ofL ((L (ofL cs)).take (c / 5%(c%5+1)).toNat)).length=(cs.take (c / 5%(c%5+1)).toNat).length by rw[<- xew,xdx,xdx],List.length_take];show _+1<=_;omega
   refine(jEA _ rfl (jEA _ rfl (xba _ rfl _ rfl (fits (by rw[b];omega)) ?_)));rw[xlt (ofL cs) a0 (by rw[b];omega),xdx];refine(xb0 _ _ rfl rfl ?_ ?_)
   ·refine fits ?_
    rw[Str.length_append,show(ofL (cs.take (c / 5%(c%5+1)).toNat)).length=(cs.take (c / 5%(c%5+1)).toNat).length by rw[<- xew,xdx],show(ofL (cs.drop (c / 5%(c%5+1)).toNat)).length=(cs.drop (c / 5%(c%5+1)).toNat).length by rw[<- xew,xdx],List.length_take,List.length_drop];show _+1+_<=_;omega
   rw[xnx];refine nxt hi r ⟨rfl,?_⟩;rw[List.range_succ,zAP,zAP,e0];rfl
  ·rintro ys G r ⟨rfl,rfl⟩ J y
   have g:=Same.new y (.lst (((List.range 26).map λk=>ofL (nmA cs (c / 5%(c%5+1)).toNat (c / 125) k)).map V.str));refine(xa8 _ rfl _ _ rfl rfl ⟨by decide,by decide⟩ (xbk _ _ rfl rfl (by show(0:Int)<3;decide) rfl (jEA _ rfl (ite2 (λcc=>?_) (λcc=>?_)))))
   ·exact(jEA _ rfl (k J _ _ (m.trans g) (xcj m y) ups (nmsA c4 a) (λz hz=>⟨xr8 a z hz,xr7 a z hz⟩)))
   ·refine(xba _ rfl _ rfl (by decide) ⟨by decide,?_⟩)
    obtain⟨C,l⟩:∃C,C=upd G J (.lst (((List.range 26).map λk=>ofL (nmA cs (c / 5%(c%5+1)).toNat (c / 125) k)).map V.str)):=⟨_,rfl⟩;have hb:C J=some (.lst (((List.range 26).map λk=>ofL (nmA cs (c / 5%(c%5+1)).toNat (c / 125) k)).map V.str)):=by rw[l];exact ups
    rw[<- l]at g;refine xdg (j:=0) (λi ys H4=>H4=C/\ys=((List.range i).map λk=>ofL (nmB cs (c / 5%(c%5+1)).toNat (c / 125) k)).map V.str) (by rfl) ⟨l.symm,rfl⟩ (xa4 (by decide)) ?_ ?_
    ·rintro i ys H4 hi p ⟨rfl,rfl⟩
     have a3:i<26:=hi;have er:(0+(i:Int))%2=((i%2:Nat):Int):=by omega
     have es:(0+(i:Int))-(0+(i:Int))%2=((i-i%2:Nat):Int):=by omega
     refine(xa9 _ rfl _ rfl _ rfl _ _ rfl rfl (jAE (by show(0:Int)<2;decide) _ (jEAA _ rfl rfl (xap J _ _ (.str (ofL (nmA cs (c / 5%(c%5+1)).toNat (c / 125) (i-i%2)))) rfl rfl (SqL.of hb) ?_ ?_))))
     ·rw[es]
      refine xak ?_;rw[zGM,zGM,List.getElem?_range (by omega)];rfl
     refine(xa8 _ rfl _ _ rfl rfl (by show(0:Int)<2;decide) (xb0 _ _ rfl rfl (by omega) ?_));refine(xb0 _ _ rfl rfl ?_ ?_)
     ·refine fits ?_
      rw[show(ofL (nmA cs (c / 5%(c%5+1)).toNat (c / 125) (i-i%2))).length=cs.length+1 by rw[<- xew,xdx,xf1]];have:(if (0+(i:Int))%2=1 then S "q" else Str.empty).length<=1:=by split <;> decide +kernel
      show _+(if (0+(i:Int))%2=1 then S "q" else Str.empty).length<=_;omega
     refine nxt hi p ⟨rfl,?_⟩;rw[List.range_succ,zAP,zAP];congr 1;show[V.str _]=[V.str _];congr 2;apply xox;rw[xd6,xdx,xdx];unfold nmB;congr 1;rw[er];rcases Nat.mod_two_eq_zero_or_one i with e |e
     ·rw[e];decide +kernel
     ·rw[e];decide +kernel
    ·rintro ys H4 p ⟨rfl,rfl⟩ D4 u
     have M:=Same.new u (.lst (((List.range 26).map λk=>ofL (nmB cs (c / 5%(c%5+1)).toNat (c / 125) k)).map V.str));exact k D4 _ _ (m.trans (g.trans M)) (xcj (m.trans g) u) ups (nmsB c4 a) (λz hz=>⟨xr6 a z hz,xr5 a z hz⟩)
def xez:Sp:=λvs H Q _=>∃v ks x,vs=[v,.str x]/\KsSeq H v ks/\∀t pv H',Same H H'->H' t=some (.tup [.str (xft (kAt ks x)),pv])->RelD H' pv (xk2 (kAt ks x))->Q (.ref t) H'
def xgi(m:Nat):Sp:=λvs H Q _=>∃v ks x,vs=[v,.str x]/\KsSeq H v ks/\KWf ks/\KIn ks m x/\∀H',Same H H'->Q (.int (szF (m+1) ks x)) H'
theorem xb7 (T:Tx K Y):DefIs P w K Y base (n+1) "_law_sort_of" qab xez:=by
  refine DefIs.of T.kN scl_sort_of (by walk_at"l") (λf a0 A outer s H vs Q E hr h=>?_);obtain⟨v,ks,x,rfl,⟨a,us,rfl,J,M⟩,q⟩:=h;have nd:=scl_sort_of.nd
  refine⟨_,(zpn (xbt PassesOwn.never rfl (xt0 (xcl (K:=K) rfl (pv 0)) (xal (K:=K) rfl (pv 0))) (xbc (K:=K) rfl rfl (xae (pgn 2 nd) (xae (pgn 3 nd) (xae (pgn 4 nd) xbb))))
      (zpo (xar (pR xa0 (pv 2) (pv 1) (nM _)) (zpo (xaf (xa6 (va 3 (v1 4))))) pQ)))
      (zpo (xaf (xa6 (pc pS (pc (xa6 pN) pN sT) so))))),?_⟩
  have Z:=M.length;rw[zLM]at Z
  have l:∀(i:Nat) (v:V),us[i]?=some v->(ks.take i).find? (λk=>decide (k.name=x))=none->∃k b pv,ks[i]?=some k/\v=.ref b/\H b=some (.tup [.str k.name,.str k.sort,pv])/\RelD H pv (xdp k.parts):=λi v C hn=>by
    obtain⟨d,hd,rd⟩:=M.get C;rw[zGM]at hd;obtain⟨k,g,rfl⟩:=zMS hd;obtain⟨b,ws,rfl,I,_,_,rfl,rfl,_,_,rfl,rfl,O,_,rfl,y,rfl⟩:=rd;exact(xdw k b O g rfl I y)
  rcases J with u |u
  case' inl=>
    refine .inl (xba _ rfl a rfl ⟨_,SqL.of u⟩ ?_);refine xfk (xs:=us) (λi σ j=>∃r o m,σ=[some (.ref a),some (.str x),r,o,m]/\j=H/\(ks.take i).find? (λk=>decide (k.name=x))=none) (xc2 none none none rfl rfl rfl) (λi σ j _ p=>by obtain⟨_,_,_,_,rfl,_⟩:=p;exact SqL.of u) ?_ ?_
  case' inr=>
    refine .inr (xba _ rfl a rfl ⟨_,SqT.of u⟩ ?_);refine xb3 (xs:=us) (λi σ j=>∃r o m,σ=[some (.ref a),some (.str x),r,o,m]/\j=H/\(ks.take i).find? (λk=>decide (k.name=x))=none) (xc2 none none none rfl rfl rfl) (λi σ j _ p=>by obtain⟨_,_,_,_,rfl,_⟩:=p;exact SqT.of u) ?_ ?_
  all_goals first
    | (rintro i v σ j C ⟨r,o,m,rfl,rfl,hn⟩
       obtain⟨k,b,pv,g,rfl,I,y⟩:=l i v C hn;refine(xax b _ rfl (SqT.of I) rfl _ _ rfl _ (xcs _ rfl _ _ rfl rfl ?_));refine(xcg _ rfl _ rfl rfl _ rfl (ite2 (λc=>?_) (λc=>?_)))
       · have e:k.name=x:=V.str.inj (of_decide_eq_true c)
         have e2:kAt ks x=some k:=(xce hn g).1 (zDT e);refine(xba _ rfl _ rfl (by walk_at"s") (λt G=>?_));have st:=Same.new G (.tup [.str k.sort,pv]);rw[e2]at q;exact q t pv _ st ups (y.same st _)
       · have e:¬k.name=x:=λz=>c (zDT (congrArg V.str z))
         exact(xc2 _ _ _ rfl rfl ((xce hn g).2 (zDF e))))
    | (rintro σ j ⟨r,o,m,rfl,rfl,hn⟩
       rw[zTL (by omega)]at hn;rw[show kAt ks x=none from hn]at q;refine⟨(by walk_at"s"),λe he=>⟨(by walk_at"s"),λt G=>?_⟩⟩;have U:=Same.new he (.tup []);have st:=Same.new G (.tup [.str (S "num"),.ref e]);exact q t (.ref e) _ (U.trans st) ups (xat e ([]) rfl (st _ _ ups) rfl))
theorem xk4 (T:Tx K mg) (G:Sp) (a:DefIs P w K mg base n "_law_sort_of" qab xez) (g:DefIs P w K mg base n "_law_size" qab G) (M:∀j,m=j+1->G=xgi j) (hm:m<=6) :
  DefIs P w K mg base (n+1) "_law_size" qab (xgi m):=by
 refine DefIs.of T.kO scl_size (by walk_at"l") (λf a5 A outer s H vs Q E hr h=>?_);obtain⟨v,ks,x,rfl,hk,u,a3,q⟩:=h;have nd:=scl_size.nd
 refine⟨_,(zpn (xc6 (pd a hr (va 0 (v1 1))) (xbc (K:=K) rfl rfl (xae (pgn 2 nd) (xae (pgn 3 nd) xbb))))
   (zpn (xcc (i:=4) ["_law_name","_law_part","_law_kinds_here"] [none,none,some 0] rfl (by kernel_rfl) nd rfl (by walk_at"o") (xal (K:=K) rfl (pv 3)) (λ_ _ _ _=>(xbc (K:=K) (n:=2) rfl rfl (xae (pgc 0) (xae (pgc 1) xbb)))) (λ_ _ _ _=>xbq) (λ_ _ _ _=>(pd g hr (va 2 (v1 1)))))
   (zpn (xar (pR xa0 (pv 2) pS (nM _)) (zpo (xaf (xam xbe pI (xai (xi0 rfl) rfl T.uT PyProof.Rows.boot_max (v1 4))))) pQ)
   (zpo (xaf (xam xbe pI (xai (xgb rfl) rfl T.uX PyProof.Rows.boot_sum (v1 4)))))))),?_⟩
 refine(xay _ rfl _ rfl v ks x rfl hk (λt pv H1 s1 ht rp=>?_));refine(xax t _ rfl (SqT.of ht) rfl _ _ rfl _ (jEAA _ rfl rfl ?_))
 have a2:∃ps:List (Str×Str),xk2 (kAt ks x)=xdp ps/\ps.length<=5/\(∀p∈ps,∃j,m=j+1/\KIn ks j p.2)/\(xft (kAt ks x)=S "alt"->ps≠[]/\szF (m+1) ks x=1+maxD (ps.map λp=>szF m ks p.2)) ∧
   (xft (kAt ks x)≠S "alt"->szF (m+1) ks x=1+(ps.map λp=>szF m ks p.2).sum):=by
  cases C:kAt ks x with
  |none=>
   refine(xbw ([]) rfl (by decide) (λ_ h=>nomatch h) (λh=>absurd h (by walk_at"k")) (λ_=>?_));unfold szF;rw[C];rfl
  | some k=>
   have l:k∈ks:=zMF C
   have y:k.name=x:=by
    have:=List.find?_some C;simpa using this
   refine(xbw k.parts rfl (u.pts k l) (λp hp=>?_) (λh=>?_) (λh=>?_))
   ·rcases a3 with rfl |⟨j,k',hj,a0,e⟩
    ·exact absurd y (xch (u.nm k l))
    ·have e2:kAt ks k'.name=some k':=u.at a0
     rw[e,C]at e2;cases e2;refine(jEA (m-1) (by omega) ?_);rcases u.ref j k a0 p hp with z |⟨i,k2,hi,z⟩
     ·exact .inl z
     ·exact .inr (jEEA i k2 (by omega) z)
   ·have o:k.rc=false:=by
     cases hc:k.rc with
     |false=>rfl
     |true=>
      have:k.sort=S "alt":=h;unfold Kn.sort at this;rw[hc,if_pos rfl]at this;exact absurd this (by walk_at"k")
    refine⟨u.alt k l o,?_⟩
    conv=>lhs;unfold szF
    rw[C];show 1+(if k.rc=true then _ else _)=_;rw[if_neg (by rw[o];decide)]
   ·have o:k.rc=true:=by
     cases hc:k.rc with
     |true=>rfl
     |false=>
      refine absurd ?_ h;show k.sort=S "alt";unfold Kn.sort;rw[hc,if_neg (by decide)]
    conv=>lhs;unfold szF
    rw[C];show 1+(if k.rc=true then _ else _)=_;rw[if_pos o]
 obtain⟨ps,a4,h5,U,a1,O⟩:=a2;rw[a4]at rp;obtain⟨e,us,rfl,he,J⟩:=rp;have hl:=J.length;rw[zLM]at hl;refine(xba _ rfl e rfl ⟨_,SqT.of he⟩ ?_);refine xbv (xs:=us) (λi ys H'=>Same H1 H'/\ys=((ps.take i).map λp=>szF m ks p.2).map V.int) ⟨Same.refl _,rfl⟩ (xa4 (by omega)) (λi ys H' _ p=>SqT.of (p.1 _ _ he)) ?_ ?_
 ·rintro i z ys H' hz hi Z ⟨I,rfl⟩
  obtain⟨d,hd,rd⟩:=J.get hz;rw[zGM]at hd;obtain⟨p,hp,rfl⟩:=zMS hd;obtain⟨b,ws,rfl,hb,_,_,rfl,rfl,_,_,rfl,rfl,rfl⟩:=rd;obtain⟨j,rfl,hj⟩:=U p (zMG hp);have D':=M j rfl;subst D';refine(xax b _ rfl (SqT.of (I _ _ hb)) rfl _ _ rfl _ (xbx _ rfl rfl (ext2 rfl rfl) (xeg ?_)));refine(xay _ rfl _ rfl _ ks p.2 rfl (hk.same (s1.trans I)) (jAA u hj (λH2 s2=>nxtG hi Z ⟨I.trans s2,?_⟩)));rw[zTA,hp];simp
 ·rintro ys H' Z ⟨I,rfl⟩ D hD
  rw[zTL (by omega)];have sD:=Same.new hD (.lst ((ps.map λp=>szF m ks p.2).map V.int));have r:=s1.trans (I.trans sD)
  have hb:∀n∈ps.map (λp=>szF m ks p.2),0<=n/\n<=1000000:=λn hn=>by
   obtain⟨p,_,rfl⟩:=zMP hn;have h1:=xel u.pts m p.2
   have h2:(6:Int) ^ m<=6 ^ 6:=by
    rcases(show m=0\/m=1\/m=2\/m=3\/m=4\/m=5\/m=6 by omega) with h |h |h |h |h |h |h <;> subst h <;> decide
   have h3:(6:Int) ^ 6=46656:=by decide
   omega
  refine(xao _ rfl rfl _ rfl (ite2 (λc=>?_) (λc=>?_)))
  ·obtain⟨Y,ez⟩:=a1 (V.str.inj (of_decide_eq_true c))
   refine(xa8 _ rfl D _ rfl (SqL.of ups) (λz=>Y (List.map_eq_nil_iff.mp z)) (λmx h1 h2=>(xat _ _ rfl rfl ?_)));have:=q _ r;rw[ez,<- xn0 (λz=>Y (List.map_eq_nil_iff.mp z)) (λn hn=>(hb n hn).1) h1 h2]at this;exact this
  ·have ez:=O (λz=>c (zDT (congrArg V.str z)))
   refine(xa8 _ rfl D _ rfl (SqL.of ups) hb (jAE (by rw[zLM];omega) _ (jEAA _ rfl rfl ?_)));have:=q _ r;rw[ez]at this;exact this
theorem xm8(T:Tx K a):∀m,m<=6->DefIs P w K a base (m+2) "_law_size" qab (xgi m)
 |0,h=>xk4 (n:=1) T (λ_ _ _ _=>False) (xb7 T) (DefIs.none T.kO λ_ _ _ _ h=>h) (λj e=>by cases e) h
 |m+1,h=>xk4 (n:=m+2) T (xgi m) (xb7 T) (xm8 T m (by omega)) (λj e=>by cases e;rfl) h
def xja:Sp:=λvs H Q _=>∃(f l nb:Addr) (srt:Str) (p q:Int) (ws:List V) (ks:List Kn) (n4:List Str),vs=[.ref f,.ref l,.str srt,.ref nb]/\H f=some (.lst [.int p,.int q])/\H l=some (.lst ws)/\RelDs H ws (ks.map Kn.d)/\KWf ks ∧
 H nb=some (.lst (n4.map V.str))/\n4.length=4/\(srt=S "rec"\/srt=S "alt")/\l≠f/\nb≠f ∧
 ∀v ps (H':Hp),Fed f H H'->RelD H' v (xdp ps)->ps.length<=4->ps.map (·.1)=n4.take ps.length->(srt=S "alt"->ps≠[])->(∀p∈ps,KIn ks ks.length p.2)->(ps.map λp=>sz ks p.2).sum<=29->Q v H'
theorem xuj{D:Ends}{σ:St}{H:Hp}{c:Bool}{B:Prop}{i:Nat}{v x:V}(a:V->St)(f:σ.set i (some v)=a v)(e:σ=a x)(b:D.nx σ H->B)(h:∀y,(y=v\/(y=x/\c=false))->D.nx (a y) H):if c=true then tAsg (tC v) (xf5 i) D σ H else B:=by
 cases c with
 |false=>exact b (by rw[e];exact h x (.inr ⟨rfl,rfl⟩))
 |true=>
  show D.nx (σ.set i (some v)) H;rw[f];exact h v (.inl rfl)
theorem and2{a:TE}{σ:St}{H:Hp}{Q:VK}{c cA:Bool}(f:Q (.bl cA) H->a σ H Q)(h:∀b:Bool,(b=true->cA=true)->Q (.bl b) H):if c=true then a σ H Q else Q (.bl false) H:=by
 cases c with
 |false=>exact h false (λe=>by cases e)
 |true=>exact f (h cA id)
theorem xk8:∀{ns:List Int},(∀n∈ns,0<=n)->maxD ns<=ns.sum/\0<=ns.sum
 |[],_=>⟨Int.le_refl _,Int.le_refl _⟩
 |n::ns,h=>by
  have c:=h n (by simp);have b:=xk8 (ns:=ns) λm a=>h m (by simp[a]);rw[List.sum_cons];show max n (maxD ns)<=_/\_;omega
theorem xp0{ks:List Kn}(a:KWf ks){x:Str}{b:Bool}{ps:List (Str×Str)}(h:(ps.map λp=>sz ks p.2).sum<=29):inSz (Kn.mk x b ps) (sz ks)<=29:=by
 have:=xk8 (ns:=ps.map λp=>sz ks p.2) λn hn=>by
  obtain⟨p,_,rfl⟩:=zMP hn;have:=xth a p.2;omega
 unfold inSz;show(if b=true then (ps.map λp=>sz ks p.2).sum else maxD (ps.map λp=>sz ks p.2))<=29;split <;> omega
theorem xnm (T:Tx K mg) (a:DefIs P w K mg base n "_law_take" qad xcn) (c:DefIs P w K mg base n "_law_size" qab (xgi 6)):DefIs P w K mg base (n+1) "_law_parts" qa3 xja:=by
  refine DefIs.of T.kQ scl_parts (by walk_at"l") (λf bh A outer s H vs Q E hr h=>?_);obtain⟨J,l,nb,C,p,q,ws,ks,n4,rfl,hf,hl,a4,wf,al,h4,hs,lf,nf,k⟩:=h;have nd:=scl_parts.nd
  refine⟨_,(zpn (psn 4 nd (xcy pN))
      (zpn (psn 5 nd pI)
      (zpn (xbt PassesOwn.never rfl (xb4 rfl T.uV (pc (xam xbe (xam xbe (pd a hr (va 0 (pc pI pN so))) (xa7 xi2 rfl T.uP PyProof.Rows.boot_int (pc (xfv xa0 (pv 2) pS (nM _)) pN xo2))) (xa7 xi2 rfl T.uP PyProof.Rows.boot_int (pc (xni (xfv xa0 (pd a hr (va 0 (pc pI pN so))) pI (nM _)) (xqr (xfv xa0 (pv 2) pS (nM _)))) pN xmy))) pN xa5)) (pgn 6 nd)
      (zpn (psn 7 nd (pxl K (xam xh7 (xcy (pc pS pN so)) (xbr ["_law_row"] [none] rfl (by kernel_rfl) (xcl (K:=K) rfl (pv 1)) (λ_ _ _ _=>(pgc 0)) (λ_ _ _ _=>xbq) (λ_ _ _ _=>(px K (pv 0) pI)))) (pd a hr (va 0 (pc (xam xbe pI (xai (xac (K:=K) rfl) rfl T.uR PySem.boot_len (v1 1))) pN xa5)))))
      (zpn (xar (pR xdt (pd c hr (va 1 (v1 7))) (pv 5) (nM _)) (zpo (psn 7 nd pS)) pQ)
      (zpn (psn 5 nd (xam xci (pv 5) (pd c hr (va 1 (v1 7)))))
      (zpo (xaz (xep PySem.F.plainAttrs_list PySem.F.slot_list_append PySem.F.type_list_append xb9 (pv 4) (pc (xa6 (pc (pxl K (pv 3) (pv 6)) (v1 7) ss)) pN sT))))))))
      (zpo (xaf (xa7 (xbl (K:=K) rfl) rfl T.uY PyProof.Rows.boot_tuple (pc (xd1 xjh (pv 4) xg6 (xdq pI)) pN ss))))))),?_⟩
  refine⟨(by walk_at"s"),λpl a8=>?_⟩;have s0:=Same.new a8 (.lst []);have M:pl≠J:=Ne.symm (neN hf a8);have a2:=wf.few;have ah:=a4.length;rw[zLM]at ah;refine(xaa _ rfl J p q 4 rfl (s0 _ _ hf) (by decide) (by decide) (λr1 H1 bb ba f1=>?_));obtain⟨p1,q1,h1⟩:=f1.2;have F1:Fed J H H1:=⟨s0.but.trans f1.1,f1.2⟩;have au:H1 pl=some (.lst []):=f1.1 _ _ ups M
  have b6:∃cA cB:Bool,decide (V.str C=V.str (S "rec"))=cA/\decide (V.str C=V.str (S "alt"))=cB/\0<=(if cA=true then (1:Int) else 0)/\0<=(if cB=true then (1:Int) else 0)/\(if cA=true then (1:Int) else 0)+(if cB=true then (1:Int) else 0)<=1/\(C=S "alt"->(if cB=true then (1:Int) else 0)=1):=by
    rcases hs with rfl |rfl
    · exact(xas true false (by walk_at"k") (by walk_at"k") (by decide) (by decide) (by decide) (λe=>absurd e (by walk_at"k")))
    · exact(xas false true (by walk_at"k") (by walk_at"k") (by decide) (by decide) (by decide) (λ_=>rfl))
  obtain⟨cA,cB,eA,eB,b4,bg,bf,b3⟩:=b6;refine(jEAA _ rfl rfl (.inr (xcs cB (congrArg (λb=>[V.bl b]) eB) r1 (if cB=true then 1 else 0) rfl rfl ?_)));refine(xaa _ rfl J p1 q1 9 rfl h1 (by decide) (by decide) (λr2 H2 b9 b8 f2=>(jAEA rfl _ rfl (and2 (cA:=decide (V.str C=V.str (S "rec"))) (λz=>(jEAA _ rfl rfl z)) (λb hb=>?_)))));rw[eA]at hb
  have be:0<=(if b=true then (1:Int) else 0)/\(if b=true then (1:Int) else 0)<=(if cA=true then (1:Int) else 0):=by
    cases b with
    |false=>exact⟨Int.le_refl _,b4⟩
    |true=>rw[hb rfl];exact⟨by decide,by decide⟩
  refine .inr (xa2 b rfl _ (if b=true then 1 else 0) rfl rfl _ rfl (jAA (by omega) (by omega) ?_))
  all_goals
      have F2:Fed J H H2:=F1.trans f2;have ar:H2 pl=some (.lst []):=f2.1 _ _ au M
      refine xc3 (λi σ H'=>∃us,∃ps:List (Str×Str),∃left o6 o7,σ=[some (.ref J),some (.ref l),some (.str _),some (.ref nb),some (.ref pl),some (.int left),o6,o7]/\Fed J H H'/\H' pl=some (.lst us)/\RelDs H' us (ps.map xkf)/\ps.length=i/\ps.map (·.1)=n4.take i/\(∀p∈ps,KIn ks ks.length p.2)/\(ps.map λp=>sz ks p.2).sum+left=25/\-(i:Int)<=left)
        (xag ([]) ([]) 25 none none rfl F2 ar rfl rfl (jAAA rfl (λ_ h=>nomatch h) rfl (by decide))) ?_ ?_
      · rintro i σ H3 hi ⟨us,ps,left,o6,o7,rfl,F,a6,I,g,a7,ab,aj,a9⟩
        have bd:i<4:=by omega
        obtain⟨p3,q3,h3⟩:=F.2;have aa:=F.1 l _ hl lf;have bc:=F.1 nb _ al nf;have ag:=a4.tups (xaj (jEE p q hf) F) _;refine⟨(by walk_at"s"),λl1 ax=>?_⟩;have U:=Same.new ax (.lst [.str (S "num")]);refine(xba _ rfl l rfl ⟨_,SqL.of (U _ _ aa)⟩ ?_);refine xiy (j:=0) (xs:=ws) (λi ys H'=>H'=upd H3 l1 (.lst [.str (S "num")])/\ys=((ks.take i).map Kn.name).map V.str) (by rfl) ⟨rfl,rfl⟩ (xa4 (by omega)) (λi ys H' _ p=>by obtain⟨rfl,_⟩:=p;exact SqL.of (U _ _ aa)) ?_ ?_
        · rintro i' x ys H' hx am ⟨rfl,rfl⟩
          obtain⟨d,hd,rd⟩:=(ag.same U _).get hx;rw[zGM]at hd;obtain⟨k',az,rfl⟩:=zMS hd;obtain⟨b,b7,rfl,hb,_,_,rfl,rfl,_,_,rfl,rfl,v3,_,rfl,r3,rfl⟩:=rd;have b0:i'<ws.length:=(zES hx).1;refine(xaa _ rfl b _ _ _ rfl rfl (SqT.of hb) rfl (nxt b0 am ⟨rfl,?_⟩));rw[zTA,az];simp
        rintro ys H' am ⟨rfl,rfl⟩ D2 b5;rw[zTL (by omega)];have s2:=Same.new b5 (.lst ((ks.map Kn.name).map V.str));refine(xbg l1 D2 _ _ rfl rfl (s2 _ _ ups) ups (fits (by rw[zLM,zLM];show 1+_<=_;omega)) (λl3 a0=>?_));have s3:=Same.new a0 (.lst ([.str (S "num")]++(ks.map Kn.name).map V.str));have u:=U.trans (s2.trans s3);have aq:l3≠J:=Ne.symm (neN (s2 _ _ (U _ _ h3)) a0);refine(xbo _ rfl _ rfl l _ rfl (.inl (SqL.of (u _ _ aa))) _ (jEAA _ rfl rfl ?_));refine(xap J p3 q3 _ rfl (u _ _ h3) (by omega) (by omega) (λr H4 r0 ac f4=>?_));rw[ah]at ac;obtain⟨x,hx,Z⟩:=xhh r0 ac;have an:H4 l3=some (.lst ([.str (S "num")]++(ks.map Kn.name).map V.str)):=f4.1 _ _ ups aq;refine(xap l3 _ _ _ rfl rfl (SqL.of an) hx ?_);have F4:Fed J H H4:=(F.same u).trans f4;have m:=f4.1 _ _ (u _ _ a6) M;have ai:=(I.same u _).tups (xaj (jEE p3 q3 (u _ _ h3)) f4) _;have aw:=F4.1 l _ hl lf;have av:=F4.1 nb _ al nf;have af:=a4.tups (xaj (jEE p q hf) F4) _;have O:KsSeq H4 (.ref l) ks:=(xat l ws rfl (.inl aw) af);refine(xay _ rfl _ rfl _ ks x rfl O (jAA wf (Z.mono a2) (λH5 s5=>(xa2 _ rfl _ _ rfl rfl _ rfl (xuj (x:=.str x) (λy=>[some (.ref J),some (.ref l),some (.str C),some (.ref nb),some (.ref pl),some (.int left),some (.int (0+(i:Int))),some y]) rfl rfl id (λy hy=>?_))))))
        obtain⟨Y,rfl,ae,ay⟩:∃Y,y=.str Y/\KIn ks ks.length Y/\-((i:Int)+1)<=left-sz ks Y:=by
          rcases hy with rfl |⟨rfl,b1⟩
          · exact ⟨S "num", rfl, .inl rfl, by have h1:sz ks (S "num") = 1 := xmu wf
                                              omega⟩
          · refine(jEAA _ rfl Z ?_)
            have h0:¬left<sz ks x:=of_decide_eq_false b1;omega
        · refine(xbf _ rfl _ rfl _ rfl _ ks (xbw Y rfl (O.same s5) wf (ae.mono a2) (λH6 s6=>(xat _ _ rfl rfl ?_))))
          have a3:=s5.trans s6;have ak:=a3 _ _ m;have a1:i<n4.length:=by omega
          refine(xao _ rfl (.inl (jAE rfl _ (SqL.of ak))) _ rfl (xaa _ rfl nb _ _ _ rfl rfl (SqL.of (a3 _ _ av)) (xko a1) (jEAA _ rfl (by walk_at"s") (λt ht=>?_))));have G:∀o,Same H4 (upd H6 t o):=λo=>a3.trans (Same.new ht o);have a5:=I.length;rw[zLM]at a5;refine(xaq pl us _ rfl rfl (G _ _ _ m) (xa4 (by omega)) ?_);refine(xag _ (ps++[(n4[i],Y)]) _ _ _ rfl (Fed.put (F4.same (G _)) a8 M _) ups ?_ (by rw[zLA,List.length_singleton,g]) (jAAA ?_ (λz hz=>?_) ?_ (by push_cast;exact ay)))
          · rw[zAP]
            refine RelDs.append ((ai.same (G _) _).tups (xcq (G _ _ _ m) _) _) ?_;exact(xat _ ([]) rfl (xan t _ rfl (xcq (G _ _ _ m) _ _ _ ups) _ _ rfl rfl _ (jEAA _ rfl rfl rfl)) rfl)
          · rw[zAP,a7,zTA,zGA a1]
            rfl
          · rcases zMA hz with hz |hz
            · exact ab z hz
            · rw[zMO hz];exact ae
          · show((ps++[(n4[i],Y)]).map λp=>sz ks p.2).sum+(left-sz ks Y)=25
            rw[zAP,List.sum_append];simp only[List.map_cons,List.map_nil,List.sum_cons,List.sum_nil];omega
      · rintro σ H3 ⟨us,ps,left,o6,o7,rfl,F,a6,I,g,a7,ab,aj,a9⟩
        have a5:=I.length;rw[zLM]at a5;refine(jEA _ rfl (xcs _ rfl pl us rfl (SqL.of a6) (λc2 b2=>?_)))
        have ao:cutV us none (some 4)=us:=by
          unfold cutV;rw[show HT.sIx us.length 0 none=0 from rfl,List.drop_zero,Nat.sub_zero];refine zTL ?_;unfold HT.sIx;simp;omega
        have U:=Same.new b2 (.lst (cutV us none (some 4)));refine(jEEA c2 _ rfl (.inl ⟨SqL.of ups,λt ht=>?_⟩));have s2:=Same.new ht (.tup (cutV us none (some 4)));refine k _ ps _ (F.same (U.trans s2)) (xat t us rfl (by rw[ao];exact ups) (I.same (U.trans s2) _)) (by omega) (by rw[g];exact a7) ?_ ab (by omega);intro ha e;have h9:=b3 ha;rw[e]at g;simp only[List.length_nil]at g;omega
def xm3:Sp:=λvs H Q _=>∃(f nb:Addr) (p q:Int) (nms:List Str),vs=[.ref f,.ref nb]/\H f=some (.lst [.int p,.int q])/\H nb=some (.lst (nms.map V.str))/\NmsR nms/\nb≠f/\∀v ks (H':Hp),Fed f H H'->RelD H' v (xcz ks)->xu3 nms ks->Fit ks->Q v H'
theorem xno(T:Tx K mg)(a:DefIs P w K mg base n "_law_take" qad xcn)(g:DefIs P w K mg base n "_law_parts" qa3 xja):DefIs P w K mg base (n+1) "_law_kinds" qbg xm3:=by
 refine DefIs.of T.kR scl_kinds (by walk_at"l") (λf aq A outer s H vs Q E hr h=>?_);obtain⟨G,nb,p,q,j,rfl,hf,ag,J,nf,k⟩:=h;have nd:=scl_kinds.nd
 refine⟨_,(zpn (psn 2 nd (xcy pN))
   (zpn (xbt PassesOwn.never rfl (xb4 rfl T.uV (pc (pd a hr (va 0 (pc pI pN so))) pN zsc)) (pgn 3 nd)
   (zpn (psn 4 nd (pxl K (xcy (pc pS (pc pS pN so) so)) (pd a hr (va 0 (pc pI pN so)))))
   (zpo (xaz (xep PySem.F.plainAttrs_list PySem.F.slot_list_append PySem.F.type_list_append xb9 (pv 2) (pc (xa6 (pc (pxl K (pv 1) (pv 3)) (va 4 (pc (pd g hr (va 0 (va 2 (va 4 (pc (xd1 xjh (pv 1) (xdq pI) (xdq pI)) pN ss))))) pN zsc)) ss)) pN sT))))))
   (zpo (xaf (xa7 (xbl (K:=K) rfl) rfl T.uY PyProof.Rows.boot_tuple (v1 2)))))),?_⟩
 refine⟨(by walk_at"s"),λl hl=>?_⟩;have s0:=Same.new hl (.lst []);have lf:l≠G:=Ne.symm (neN hf hl);have a0:=J.len;refine(xaa _ rfl G p q 5 rfl (s0 _ _ hf) (by decide) (by decide) (λr1 H1 al ak f1=>(xbx _ rfl (by omega) (by omega) ?_)));have F1:Fed G H H1:=⟨s0.but.trans f1.1,f1.2⟩;have af:H1 l=some (.lst []):=f1.1 _ _ ups lf
 refine xc3 (λi σ H'=>∃us,∃ks:List Kn,∃o3 o4,σ=[some (.ref G),some (.ref nb),some (.ref l),o3,o4]/\Fed G H H'/\H' l=some (.lst us)/\RelDs H' us (ks.map Kn.d)/\ks.length=i/\Fit ks/\xu3 j ks)
  (xca ([]) ([]) none none rfl F1 af rfl rfl Fit.nil (jAAA KWf.nil (Nat.zero_le _) rfl (λ_ h=>nomatch h))) ?_ ?_
 ·rintro i σ H2 hi ⟨us,ks,o3,o4,rfl,F,a3,I,M,C,wf,an,ai,ah⟩
  have ao:i<4:=by omega
  have ac:=I.length;rw[zLM]at ac;obtain⟨p2,q2,h2⟩:=F.2;refine⟨(by walk_at"s"),λl1 a7=>?_⟩;have U:=Same.new a7 (.lst [.str (S "rec"),.str (S "alt")]);have aa:l1≠G:=Ne.symm (neN h2 a7);refine(xaa _ rfl G p2 q2 2 rfl (U _ _ h2) (by decide) (by decide) (λr H3 r0 am f3=>?_))
  have ab:∃b:Str,atI [V.str (S "rec"),V.str (S "alt")] r=some (.str b)/\(b=S "rec"\/b=S "alt"):=by
   rcases(show r=0\/r=1 by omega) with rfl |rfl
   ·exact(jEA (S "rec") rfl (.inl rfl))
   ·exact(jEA (S "alt") rfl (.inr rfl))
  obtain⟨b,aj,u⟩:=ab;refine(xap l1 _ _ _ rfl rfl (SqL.of (f3.1 _ _ ups aa)) aj ?_);have F3:Fed G H H3:=(F.same U).trans f3;obtain⟨p3,q3,h3⟩:=f3.2;have y:=f3.1 _ _ (U _ _ a3) lf;have Y:=(I.same U _).tups (xaj (jEE p2 q2 (U _ _ h2)) f3) _;have a6:=F3.1 nb _ ag nf;have O:i<j.length:=by omega
  refine(xao _ rfl (.inl (jAE rfl _ (SqL.of y))) _ rfl (xaa _ rfl nb _ _ _ rfl rfl (SqL.of a6) (xko O) (jEA _ rfl ?_)));refine(xa3 _ rfl _ rfl _ rfl _ rfl _ rfl (xcs _ rfl nb _ rfl (SqL.of a6) (λc hc=>?_)));rw[xu1 a0];have sc:=Same.new hc (.lst (((j.drop 8).take 4).map V.str));have cf:c≠G:=Ne.symm (neN h3 hc);refine(xav G l c b p3 (xca q3 us ks ((j.drop 8).take 4) rfl (sc _ _ h3) (sc _ _ y) (Y.same sc _) wf ups (jAAA (by rw[List.length_take,List.length_drop,a0];rfl) u lf ⟨cf,λv ps H4 f4 rv h4 a2 a8 Z a5=>?_⟩)));have F4:Fed G H H4:=(F3.same sc).trans f4;have m:=f4.1 _ _ (sc _ _ y) lf;have a4:=(Y.same sc _).tups (xaj (jEE p3 q3 (sc _ _ h3)) f4) _;refine⟨(by walk_at"s"),λt ht=>?_⟩;have s5:∀o,Same H4 (upd H4 t o):=λo=>Same.new ht o;refine(xaq l us _ rfl rfl (s5 _ _ _ m) (xa4 (by omega)) ?_);have a9:=xt5 J ps.length
  have a1:(Kn.mk j[i] (decide (b=S "rec")) ps).sort=b:=by
   unfold Kn.sort;rcases u with rfl |rfl
   ·rfl
   ·show(if decide (S "alt"=S "rec")=true then _ else _)=_
    rw[if_neg (by walk_at"k")]
  have x:ks.map Kn.name=j.take i:=by rw[ai,M]
  have w2:KWf (ks++[Kn.mk j[i] (decide (b=S "rec")) ps]):=by
   refine wf.snoc ?_ (J.nm _ (List.getElem_mem O)) Z ?_ (by omega) (by show ps.length<=5;omega) (by show(ps.map (·.1)).Nodup;rw[a2];exact a9.1) (λz hz=>a9.2 z.1 (by rw[<- a2];exact List.mem_map_of_mem hz))
   ·show j[i] ∉ks.map Kn.name
    rw[x];exact J.ahead (by omega) O
   ·intro ae
    refine a8 ?_;rcases u with e |e
    ·exact absurd ae (by show ¬decide (b=S "rec")=false;rw[e];decide +kernel)
    ·exact e
  refine(xca _ (ks++[Kn.mk j[i] (decide (b=S "rec")) ps]) _ _ rfl (Fed.put (F4.same (s5 _)) hl lf _) ups ?_ (by rw[zLA,List.length_singleton,M]) (C.snoc wf w2 Z (xp0 wf a5)) ?_)
  ·rw[zAP]
   refine RelDs.append ((a4.same (s5 _) _).tups (xcq (s5 _ _ _ m) _) _) ?_;refine(xat _ ([]) rfl (xan t _ rfl (xcq (s5 _ _ _ m) _ _ _ ups) _ _ rfl rfl _ (xbj _ rfl ?_ _ _ rfl ((rv.same (s5 _) _).tups (xcq (s5 _ _ _ m) _) _) rfl)) rfl);show V.str b=V.str _;rw[a1]
  ·refine(jAAA w2 (by rw[zLA,List.length_singleton];omega) ?_ ?_)
   ·rw[zAP,x,zLA,List.length_singleton,M,zTA,zGA O]
    rfl
   ·intro z hz
    rcases zMA hz with hz |hz
    ·exact ah z hz
    ·rw[zMO hz]
     exact⟨h4,a2⟩
 ·rintro σ H2 ⟨us,ks,o3,o4,rfl,F,a3,I,M,C,hK⟩
  refine(jEA _ rfl (jEEA l us rfl (.inl ⟨SqL.of a3,λt ht=>?_⟩)));have U:=Same.new ht (.tup us);exact k _ ks _ (F.same U) (xat t us rfl ups (I.same U _)) hK C
def xm2:Sp:=λvs H Q _=>∃(a:Addr) (p q:Int),vs=[.ref a]/\H a=some (.lst [.int p,.int q])/\∀(i:Int) (H':Hp),Nm i->Fed a H H'->Q (.int i) H'
theorem xe2(T:Tx K x)(b:DefIs P w K x base n "_law_take" qad xcn):DefIs P w K x base (n+1) "_law_number" qa2 xm2:=by
 refine DefIs.of T.kM scl_number (λvs H Q E h=>?_) (λf I A outer s H vs Q E j h=>?_)
 ·obtain⟨a,p,q,rfl,_⟩:=h
  rfl
 obtain⟨a,p,q,rfl,G,k⟩:=h;have nd:=scl_number.nd;have M:(2:Int) ^ (32:Int).toNat=4294967296:=by decide
 refine⟨_,(zpn (psn 1 nd (pd b j (va 0 (pc pI pN so))))
   (zpn (xar (pR xee (pv 1) pI (nM _)) (zpo (xaf (pd b j (va 0 (pc pI pN so))))) pQ)
   (zpn (xar (pR xa0 (pv 1) pI (nM _)) (zpo (xaf (xam xci (xam xci (xam xnj pI pI) pI) (pd b j (va 0 (pc pI pN so)))))) pQ)
   (zpo (xaf (pd b j (va 0 (pc (xam xnj pI pI) pN xa5)))))))),?_⟩
 refine(xaa _ rfl a p q 4 rfl G (by decide) (by decide) (λJ O C z l=>?_));obtain⟨o,m,r⟩:=l.2;refine(xa2 _ rfl _ _ rfl rfl _ rfl ?_);refine ite2 (λc=>?_) (λc=>?_)
 ·exact(xaa _ rfl a o m 6 rfl r (by decide) (by decide) (λu y e g i=>k _ _ ⟨e,by omega⟩ (l.trans i)))
 refine(xao _ rfl rfl _ rfl ?_);refine ite2 (λc=>?_) (λc=>?_)
 ·refine(xb0 _ _ rfl rfl (jAA (by decide) (by decide) (by decide)) (xat _ _ rfl rfl (xaa _ rfl a o m 6 rfl r (by decide) (by decide) (λu y e g i=>(xat _ _ rfl rfl (k _ _ ⟨by omega,by omega⟩ (l.trans i)))))))
 ·refine(xa8 _ rfl _ _ rfl rfl (jAA (by decide) (by decide) (by decide)) (xap a o m _ rfl r (by omega) (by omega) (λu y e g i=>k _ _ ⟨e,by omega⟩ (l.trans i))))
def xdi:Sp:=λvs H Q _=>∃v ks x,vs=[v,.str x]/\KsAt H v ks/\Q (xvj (kAt ks x)) H
def xco:Sp:=λvs H Q _=>∃v ks x,vs=[v,.str x]/\KsAt H v ks/\∀u H',Same H H'->RelD H' u (xk2 (kAt ks x))->Q u H'
theorem xcu(T:Tx K y):DefIs P w K y base (n+1) "sort_of" qac xdi:=by
 refine DefIs.of T.jF sc_sort_of (by walk_at"l") (λf O A outer s H vs Q E Z h=>?_);obtain⟨v,ks,x,rfl,I,q⟩:=h;have nd:=sc_sort_of.nd
 refine⟨_,(zpn (xbt PassesOwn.never rfl (xal (K:=K) rfl (pv 0)) (xbc (K:=K) rfl rfl (xae (pgn 2 nd) (xae (pgn 3 nd) (xae (pgn 4 nd) xbb))))
   (zpo (xar (pR xa0 (pv 2) (pv 1) (nM _)) (zpo (xaf (pv 3))) pQ)))
   (zpo (xaf xgo))),?_⟩
 obtain⟨a,us,rfl,r,u⟩:=I.1;refine(xba _ rfl a rfl ⟨_,SqT.of r⟩ ?_);have G:=u.length;rw[zLM]at G;refine xb3 (xs:=us) (λi σ j=>∃o m l,σ=[some (.ref a),some (.str x),o,m,l]/\j=H/\(ks.take i).find? (λk=>decide (k.name=x))=none) (xc2 none none none rfl rfl rfl) (λi σ j _ p=>?_) ?_ ?_
 ·obtain⟨_,_,_,_,rfl,_⟩:=p
  exact SqT.of r
 ·rintro i v σ j C ⟨o,m,l,rfl,rfl,hn⟩
  obtain⟨d,hd,rd⟩:=u.get C;rw[zGM]at hd;obtain⟨k,g,rfl⟩:=zMS hd;obtain⟨b,ws,rfl,J,_,_,rfl,rfl,_,_,rfl,rfl,U,_,rfl,Y,rfl⟩:=rd;refine(xax b _ rfl (SqT.of J) rfl _ _ rfl _ (xcs _ rfl _ _ rfl rfl ?_));refine(xcg _ rfl _ rfl rfl _ rfl (ite2 (λc=>?_) (λc=>?_)))
  ·have e:k.name=x:=V.str.inj (of_decide_eq_true c)
   have M:kAt ks x=some k:=(xce hn g).1 (zDT e);refine(jEA _ rfl ?_);rw[M]at q;exact q
  ·have e:¬k.name=x:=λz=>c (zDT (congrArg V.str z))
   exact(xc2 _ _ _ rfl rfl ((xce hn g).2 (zDF e)))
 ·rintro σ j ⟨o,m,l,rfl,rfl,hn⟩
  rw[zTL (by omega)]at hn;rw[show kAt ks x=none from hn]at q;exact q
theorem xb8(T:Tx K C):DefIs P w K C base (n+1) "parts_of" qac xco:=by
 refine DefIs.of T.jG sc_parts_of (by walk_at"l") (λf Y A outer s H vs Q E hr h=>?_);obtain⟨v,ks,x,rfl,M,q⟩:=h;have nd:=sc_parts_of.nd
 refine⟨_,(zpn (xbt PassesOwn.never rfl (xal (K:=K) rfl (pv 0)) (xbc (K:=K) rfl rfl (xae (pgn 2 nd) (xae (pgn 3 nd) (xae (pgn 4 nd) xbb))))
   (zpo (xar (pR xa0 (pv 2) (pv 1) (nM _)) (zpo (xaf (pv 4))) pQ)))
   (zpo (xaf (xa6 pN)))),?_⟩
 obtain⟨a,us,rfl,r,u⟩:=M.1;refine(xba _ rfl a rfl ⟨_,SqT.of r⟩ ?_);have J:=u.length;rw[zLM]at J;refine xb3 (xs:=us) (λi σ j=>∃o m l,σ=[some (.ref a),some (.str x),o,m,l]/\j=H/\(ks.take i).find? (λk=>decide (k.name=x))=none) (xc2 none none none rfl rfl rfl) (λi σ j _ p=>?_) ?_ ?_
 ·obtain⟨_,_,_,_,rfl,_⟩:=p
  exact SqT.of r
 ·rintro i v σ j G ⟨o,m,l,rfl,rfl,hn⟩
  obtain⟨d,hd,rd⟩:=u.get G;rw[zGM]at hd;obtain⟨k,g,rfl⟩:=zMS hd;obtain⟨b,ws,rfl,O,_,_,rfl,rfl,_,_,rfl,rfl,Z,_,rfl,y,rfl⟩:=rd;refine(xax b _ rfl (SqT.of O) rfl _ _ rfl _ (xcs _ rfl _ _ rfl rfl ?_));refine(xcg _ rfl _ rfl rfl _ rfl (ite2 (λc=>?_) (λc=>?_)))
  ·have e:k.name=x:=V.str.inj (of_decide_eq_true c)
   have U:kAt ks x=some k:=(xce hn g).1 (zDT e);refine(jEA _ rfl ?_);rw[U]at q;exact q _ _ (Same.refl _) y
  ·have e:¬k.name=x:=λz=>c (zDT (congrArg V.str z))
   exact(xc2 _ _ _ rfl rfl ((xce hn g).2 (zDF e)))
 ·rintro σ j ⟨o,m,l,rfl,rfl,hn⟩
  rw[zTL (by omega)]at hn;rw[show kAt ks x=none from hn]at q;exact⟨(by walk_at"s"),λp I=>q _ _ (Same.new I _) (xat p ([]) rfl ups rfl)⟩
theorem xad{t u:TS}{D:Ends}{σ:St}{H:Hp}(h:∀R:St->Hp->Prop,(∀σ H,u D σ H->R σ H)->t {D with nx:=R} σ H):tSeq t u D σ H:=h (u D) λ_ _ h=>h
theorem xdj{k:Kn}(h:k.rc=true):k.sort=S "rec":=by unfold Kn.sort;rw[if_pos h]
theorem xdo{k:Kn}(h:k.rc=false):k.sort=S "alt":=by unfold Kn.sort;rw[if_neg (by rw[h];decide)]
theorem xma{c:Bool}{A B:Prop}(h:c=true)(a:A):if c=true then A else B:=by rw[if_pos h];exact a
def spSm(F:List Kn->Str->Int)(m:Nat):Sp:=λvs H Q _=>∃v ks x,vs=[v,.str x]/\RelD H v (xcz ks)/\KWf ks/\KIn ks m x/\∀H',Same H H'->Q (.int (F ks x)) H'
theorem xh9 (T:Tx K mg) (U:Sp) (g:DefIs P w K mg base n "_law_sort_of" qab xez) (c:DefIs P w K mg base n "_law_small" qab U) (a0:∀j,m=j+1->U=spSm smK j) :
  DefIs P w K mg base (n+1) "_law_small" qab (spSm smK m):=by
 refine DefIs.of T.kP scl_small (by walk_at"l") (λf a5 A outer s H vs Q E hr h=>?_);obtain⟨v,ks,x,rfl,hk,C,a2,q⟩:=h;have nd:=scl_small.nd
 refine⟨_,(zpn (xc6 (pd g hr (va 0 (v1 1))) (xbc (K:=K) rfl rfl (xae (pgn 2 nd) (xae (pgn 3 nd) xbb))))
   (zpn (xar (pR xa0 (pv 2) pS (nM _)) (zpo (xaf (xam xbe pI (pd c hr (va 0 (pc (px K (px K (pv 3) pI) pI) pN ss)))))) pQ)
   (zpo (xaf (xam xbe pI (xai (xgb rfl) rfl T.uX PyProof.Rows.boot_sum (pc (xbr ["_law_name","_law_part","_law_kinds_here"] [none,none,some 0] rfl (by kernel_rfl) (xal (K:=K) rfl (pv 3)) (λ_ _ _ _=>(xbc (K:=K) (n:=2) rfl rfl (xae (pgc 0) (xae (pgc 1) xbb)))) (λ_ _ _ _=>xbq) (λ_ _ _ _=>(pd c hr (va 2 (v1 1))))) pN xbp))))))),?_⟩
 refine(xay _ rfl _ rfl v ks x rfl ((C.ksAt hk).seq) (λt a4 H1 Y ht M=>?_));refine(xax t _ rfl (SqT.of ht) rfl _ _ rfl _ (jEAA _ rfl rfl ?_));rcases a2.look C with⟨rfl,o⟩ |⟨j,k,rfl,o,hn,hm,hp⟩
 ·refine(xao _ rfl rfl _ rfl (iteKF (zDF (by rw[o];decide +kernel)) ?_))
  rw[o]at M;obtain⟨a,us,rfl,O,l⟩:=M;obtain rfl:us=[]:=l;refine(xba _ rfl a rfl ⟨_,SqT.of O⟩ ?_);refine xbv (xs:=[]) (λi ys G=>G=H1/\ys=[]) ⟨rfl,rfl⟩ (xa4 (by decide)) (λi ys G _ p=>by obtain⟨rfl,_⟩:=p;exact SqT.of O) (λi y ys G hy=>by simp at hy) ?_;rintro ys G J ⟨rfl,rfl⟩ D hD;refine(xbk D ([]) rfl (SqL.of ups) (λ_ h=>nomatch h) (by decide) (xat _ _ rfl rfl ?_));have e:=(xkt C).1;rw[e]at q;exact q _ (Y.trans (Same.new hD _))
 ·have D':=a0 j rfl
  subst D';rw[o]at M;obtain⟨a,us,rfl,O,l⟩:=M;have hl:=l.length;rw[zLM]at hl;have h5:=C.pts k hm;have Z:xft (kAt ks x)=k.sort:=by rw[o];rfl
  have e:=(xtp C o).1;unfold smS at e
  cases hc:k.rc with
  | false=>
   rw[if_neg (by rw[hc];decide)]at e;refine(xao _ rfl rfl _ rfl (iteKT (zDT (by rw[Z,xdo hc];rfl)) ?_))
   cases I:k.parts with
   |nil=>exact absurd I (C.alt k hm hc)
   |cons p r=>
    rw[I]at l e;obtain⟨vp,rest,rfl,M,_⟩:=l;obtain⟨b,ws,rfl,hb,_,_,rfl,rfl,_,_,rfl,rfl,rfl⟩:=M;refine(xah _ rfl _ rfl a _ _ (xbw _ rfl rfl (SqT.of O) (xak (j:=0) rfl) (xap b _ _ _ rfl rfl (SqT.of hb) rfl ?_)));refine(xaq v ks p.2 rfl (hk.same Y _) C (hp p (by rw[I];simp)) (λH2 s2=>(xat _ _ rfl rfl ?_)));rw[e]at q;exact q _ (Y.trans s2)
  | true=>
   rw[if_pos hc]at e;refine(xao _ rfl rfl _ rfl (iteKF (zDF (by rw[Z,xdj hc];decide +kernel)) ?_));refine(xba _ rfl a rfl ⟨_,SqT.of O⟩ ?_);refine xbv (xs:=us) (λi ys G=>Same H1 G/\ys=((k.parts.take i).map λp=>smK ks p.2).map V.int) ⟨Same.refl _,rfl⟩ (xa4 (by omega)) (λi ys G _ p=>SqT.of (p.1 _ _ O)) ?_ ?_
   ·rintro i y ys G hy a3 J ⟨u,rfl⟩
    obtain⟨d,hd,rd⟩:=l.get hy;rw[zGM]at hd;obtain⟨pr,a1,rfl⟩:=zMS hd;obtain⟨b,ws,rfl,hb,_,_,rfl,rfl,_,_,rfl,rfl,rfl⟩:=rd;refine(xax b _ rfl (SqT.of (u _ _ hb)) rfl _ _ rfl _ (xbx _ rfl rfl (ext2 rfl rfl) (xeg ?_)));refine(xay _ rfl _ rfl v ks pr.2 rfl (hk.same (Y.trans u) _) (jAA C (hp pr (zMG a1)) (λH2 s2=>nxtG a3 J ⟨u.trans s2,?_⟩)));rw[zTA,a1,zAP,zAP];rfl
   ·rintro ys G J ⟨u,rfl⟩ D hD
    rw[zTL (by omega)];refine(xbk D (k.parts.map λp=>smK ks p.2) rfl (SqL.of ups) (λz hz=>?_) (by rw[zLM];omega) (xat _ _ rfl rfl ?_))
    ·obtain⟨p,_,rfl⟩:=zMP hz
     have:=xff C p.2;omega
    ·rw[e]at q
     exact q _ (Y.trans (u.trans (Same.new hD _)))
theorem xg3(T:Tx K a):∀m,DefIs P w K a base (m+2) "_law_small" qab (spSm smK m)
 |0=>xh9 (n:=1) T (λ_ _ _ _=>False) (xb7 T) (DefIs.none T.kP λ_ _ _ _ h=>h) (λj e=>by cases e)
 |m+1=>xh9 (n:=m+2) T (spSm smK m) (xb7 T) (xg3 T m) (λj e=>by cases e;rfl)
def xo4:Sp:=λvs H Q _=>∃(f ka:Addr) (p q:Int) (us:List V) (ks:List Kn),vs=[.ref f,.ref ka]/\H f=some (.lst [.int p,.int q])/\(H ka=some (.lst us)\/H ka=some (.tup us))/\RelDs H us (ks.map Kn.d)/\ks.length<=6/\∀x H',KIn ks ks.length x->Fed f H H'->Q (.str x) H'
theorem xic(T:Tx K mg)(c:DefIs P w K mg base n "_law_take" qad xcn):DefIs P w K mg base (n+1) "_law_any_kind" qan xo4:=by
 refine DefIs.of T.kY scl_any_kind (by walk_at"l") (λf a3 A outer s H vs Q E hr h=>?_);obtain⟨f',ka,p1,q1,us,ks,rfl,Y,a,I,a2,q⟩:=h;have nd:=scl_any_kind.nd;refine(jEA _ (zpo (xaf (pxl K (xam xh7 (xcy (pc pS pN so)) (xbr ["_law_row"] [none] rfl (by kernel_rfl) (xt0 (xcl (K:=K) rfl (pv 1)) (xal (K:=K) rfl (pv 1))) (λ_ _ _ _=>(pgc 0)) (λ_ _ _ _=>xbq) (λ_ _ _ _=>(px K (pv 0) pI)))) (pd c hr (va 0 (pc (xam xbe pI (xai (xac (K:=K) rfl) rfl T.uR PySem.boot_len (v1 1))) pN xa5)))))) ?_);refine⟨(by walk_at"s"),λl2 a1=>?_⟩;have o:=Same.new a1 (.lst [.str (S "num")]);have J:=I.length;rw[zLM]at J;rcases a with a |a
 ·refine .inl (xba _ rfl ka rfl ⟨_,SqL.of (o _ _ a)⟩ ?_)
  refine xiy (j:=0) (xs:=us) (λi ys u=>u=upd H l2 (.lst [.str (S "num")])/\ys=((ks.take i).map Kn.name).map V.str) (by rfl) ⟨rfl,rfl⟩ (xa4 (by omega)) (λi ys u _ p=>by obtain⟨rfl,_⟩:=p;exact SqL.of (o _ _ a)) ?_ ?_
  ·rintro i' x ys u r l ⟨rfl,rfl⟩
   obtain⟨d,hd,rd⟩:=(I.same o _).get r;rw[zGM]at hd;obtain⟨k',M,rfl⟩:=zMS hd;obtain⟨b,a0,rfl,hb,_,_,rfl,rfl,_,_,rfl,rfl,v3,_,rfl,r3,rfl⟩:=rd;have O:i'<us.length:=(zES r).1;refine(xaa _ rfl b _ _ _ rfl rfl (SqT.of hb) rfl (nxt O l ⟨rfl,?_⟩));rw[zTA,M];simp
  rintro ys u l ⟨rfl,rfl⟩ D2 U;rw[zTL (by omega)];have y:=Same.new U (.lst ((ks.map Kn.name).map V.str));refine(xbg l2 D2 _ _ rfl rfl (y _ _ ups) ups (fits (by rw[zLM,zLM];show 1+_<=_;omega)) (λZ m=>?_));have s4:=Same.new m (.lst ([.str (S "num")]++(ks.map Kn.name).map V.str));have e:=o.trans (y.trans s4);have G:Z≠f':=Ne.symm (neN ((o.trans y) _ _ Y) m);refine(xbo _ rfl _ rfl ka _ rfl (.inl (SqL.of (e _ _ a))) _ (jEAA _ rfl rfl (xap f' p1 q1 _ rfl (e _ _ Y) (by omega) (by omega) (λr5 H5 C z f5=>?_))));obtain⟨x,r,g⟩:=xhh (ks:=ks) C (by rw[<- J];exact z);exact(xap Z _ _ _ rfl rfl (SqL.of (f5.1 _ _ ups G)) r (q x _ g (((Fed.refl Y).same e).trans f5)))
 ·refine .inr (xba _ rfl ka rfl ⟨_,SqT.of (o _ _ a)⟩ ?_)
  refine xdb (j:=0) (xs:=us) (λi ys u=>u=upd H l2 (.lst [.str (S "num")])/\ys=((ks.take i).map Kn.name).map V.str) (by rfl) ⟨rfl,rfl⟩ (xa4 (by omega)) (λi ys u _ p=>by obtain⟨rfl,_⟩:=p;exact SqT.of (o _ _ a)) ?_ ?_
  ·rintro i' x ys u r l ⟨rfl,rfl⟩
   obtain⟨d,hd,rd⟩:=(I.same o _).get r;rw[zGM]at hd;obtain⟨k',M,rfl⟩:=zMS hd;obtain⟨b,a0,rfl,hb,_,_,rfl,rfl,_,_,rfl,rfl,v3,_,rfl,r3,rfl⟩:=rd;have O:i'<us.length:=(zES r).1;refine(xaa _ rfl b _ _ _ rfl rfl (SqT.of hb) rfl (nxt O l ⟨rfl,?_⟩));rw[zTA,M];simp
  rintro ys u l ⟨rfl,rfl⟩ D2 U;rw[zTL (by omega)];have y:=Same.new U (.lst ((ks.map Kn.name).map V.str));refine(xbg l2 D2 _ _ rfl rfl (y _ _ ups) ups (fits (by rw[zLM,zLM];show 1+_<=_;omega)) (λZ m=>?_));have s4:=Same.new m (.lst ([.str (S "num")]++(ks.map Kn.name).map V.str));have e:=o.trans (y.trans s4);have G:Z≠f':=Ne.symm (neN ((o.trans y) _ _ Y) m);refine(xbo _ rfl _ rfl ka _ rfl (.inr (SqT.of (e _ _ a))) _ (jEAA _ rfl rfl (xap f' p1 q1 _ rfl (e _ _ Y) (by omega) (by omega) (λr5 H5 C z f5=>?_))));obtain⟨x,r,g⟩:=xhh (ks:=ks) C (by rw[<- J];exact z);exact(xap Z _ _ _ rfl rfl (SqL.of (f5.1 _ _ ups G)) r (q x _ g (((Fed.refl Y).same e).trans f5)))
theorem RelDs.rev{H:Hp}:∀{vs:List V} {ds:List D},RelDs H vs ds->RelDs H vs.reverse ds.reverse
 |vs,[],h=>by rw[show vs=[] from h];rfl
 |vs,d::ds,⟨v,r,e,b,a⟩=>by
  subst e;rw[List.reverse_cons,List.reverse_cons];exact(RelDs.rev a).append (xat v ([]) rfl b rfl)
theorem xnv{α:Type}{l:List α}(h:l.Nodup):l.reverse.Nodup:=List.pairwise_reverse.mpr (h.imp λh=>Ne.symm h)
def bKV(bs:List (Str×Str)):List (Key×V):=bs.map λb=>(Sum.inr b.1,.str b.2)
theorem xfh{H:Hp}:∀{us:List V} {bs:List (Str×Str)},RelDs H us (bs.map xkf)->PairsV H us (bKV bs)
 |us,[],h=>by rw[show us=[] from h];trivial
 |us,b::bs,⟨v,r,e,g,f⟩=>by
  subst e;obtain⟨a,ws,rfl,c,_,_,rfl,rfl,_,_,rfl,rfl,rfl⟩:=g;exact⟨(jEA a rfl c),xfh f⟩
theorem xmf{a b c d r:V}{i j:Int}(h:i=j):[a,b,c,d,r,V.int i]=[a,b,c,d,r,V.int j]:=by rw[h]
theorem xf3{ks:List Kn}(a:KWf ks){k:Kn}(h:k∈ks){p:Str×Str}(b:p∈k.parts):KIn ks 6 p.2:=by
 obtain⟨i,hi,e⟩:=zMI h;have:=a.few;exact KIn.mono (n:=i) (a.ref i k (by rw[<- e];exact zGA hi) p b) (by omega)
def spTw(c:Nat):Sp:=λvs H Q _=>∃(f:Addr) (kv bv:V) (ks:List Kn) (bs:List (Str×Str)) (x:Str) (room:Int) (m j:Nat),vs=[.ref f,kv,bv,.str x,.int room,.int (m:Int)]/\c=7*m+j/\j<=6/\TIn H f kv bv ks bs (m+1)/\m<=7/\KIn ks j x/\smK ks x<=room/\∀a d H',Fed f H H'->RelD H' (.ref a) d->TmB ks (c+1) bs d x/\Tz (c+1) bs d room->Q (.ref a) H'
def xo3(c:Nat):Sp:=λvs H Q E=>∃c',c'<c/\spTw c' vs H Q E
def xm7:Sp:=λvs H Q _=>∃(f l:Addr) (p q:Int) (zs:List Str),vs=[.ref f,.ref l]/\H f=some (.lst [.int p,.int q])/\H l=some (.lst (zs.map V.str))/\zs≠[]/\zs.length<=100/\l≠f/\∀z t H',z∈zs->Fed f H H'->RelD H' (.ref t) (tBox z)->Q (.ref t) H'
def xjg(m:Nat):Sp:=λvs H Q _=>∃(f:Addr) (kv bv pvv:V) (ks:List Kn) (bs ps:List (Str×Str)) (x:Str) (room:Int),vs=[.ref f,kv,bv,pvv,.str x,.int room,.int ((m+1:Nat):Int)]/\TIn H f kv bv ks bs (m+2)/\m<7/\RelD H pvv (xdp ps)/\ps≠[]/\ps.length<=5/\(ps.map (·.1)).Nodup/\(∀p∈ps,KIn ks 6 p.2)/\(∀p∈ps,Sh p.1)/\KIn ks 6 x/\smK ks x*(ps.length:Int)<=room ∧
 ∀(u:V) (rs:List (Str×Str×D)) (H':Hp),Fed f H H'->RelD H' u (.tup (rs.map dArm))->rs.length=ps.length->(∀r∈rs,∃p∈ps,p.1=r.1)->(rs.map (·.1)).Nodup->(∀p∈ps,∃z e,(p.1,z,e)∈rs/\(∀q∈bs,q.1≠z)/\ArmN ks z/\TmB ks (7*m+7) (bs++[(z,p.2)]) e x)->(∀r∈rs,Sh r.1/\Sh r.2.1/\∃k,Tz (7*m+7) (bs++[(r.2.1,k)]) r.2.2 (room / (ps.length:Int)))->Q u H'
theorem xnr(T:Tx K g)(a:DefIs P w K g base n "_law_take" qad xcn):DefIs P w K g base (n+1) "_law_boxed" qa4 xm7:=by
 refine DefIs.of T.kS xna (by walk_at"l") (λf M A outer s H vs Q E G h=>?_);obtain⟨J,l,p,x,zs,rfl,I,j,e,m,y,q⟩:=h;refine(jEA _ (zpo (xaf (xa6 (pc pS (pc (pxl K (pv 1) (pd a G (va 0 (pc (xai (xac (K:=K) rfl) rfl T.uR PySem.boot_len (v1 1)) pN zsc)))) pN ss) so)))) ?_);have z:0<zs.length:=List.length_pos_iff.mpr e;have c:(zs.map V.str).length=zs.length:=zLM _;refine(xa9 _ rfl _ rfl _ rfl l _ rfl (.inl (SqL.of j)) (xap J p x _ rfl I (by rw[c];omega) (by rw[c];omega) (λr U O u o=>?_)));rw[c]at u;obtain⟨i,rfl⟩:∃i:Nat,r=(i:Int):=⟨r.toNat,by omega⟩;have b:i<zs.length:=by omega
 refine(xbg l _ _ (.str zs[i]) rfl rfl (SqL.of (o.1 _ _ j y)) (xak (by rw[zGM,zGA b];rfl)) (by walk_at"s") (λt C=>?_));have st:=Same.new C (.tup [.str (S "box"),.str zs[i]]);exact q zs[i] t _ (List.getElem_mem b) (o.same st) (xan t _ rfl ups _ _ rfl rfl _ (jEAA _ rfl rfl rfl))
theorem xpp(T:Tx K mg){c:Nat}(hc:7*m+6<c)(l:DefIs P w K mg base n "_law_take" qad xcn)(g:DefIs P w K mg base n "_law_term" qah (xo3 c)):DefIs P w K mg base (n+1) "_law_arms" qbh (xjg m):=by
 refine DefIs.of T.kT scl_arms (by walk_at"l") (λf bf A outer s H vs Q E C h=>?_);obtain⟨f',kv,bv,bd,ks,bs,ps,x,o,rfl,Y,m8,b0,b3,h5,aj,b1,az,ae,a8,q⟩:=h;have nd:=scl_arms.nd;have hu:=xe3 C
 refine⟨_,(zpn (psn 7 nd (xcy pN))
   (zpn (psn 8 nd (xam xcf (pv 5) (xai (xac (K:=K) rfl) rfl T.uR PySem.boot_len (v1 3))))
   (zpn (xbt PassesOwn.never rfl (xal (K:=K) rfl (pv 3)) (xbc (K:=K) rfl rfl (xae (pgn 9 nd) (xae (pgn 10 nd) xbb)))
   (zpn (psn 11 nd (xam xd2 pS (xly xla pS (pv 6) (λ_ _=>rfl))))
   (zpo (xaz (xep PySem.F.plainAttrs_list PySem.F.slot_list_append PySem.F.type_list_append xb9 (pv 7) (pc (xa6 (va 9 (va 11 (pc (pd g C (va 0 (va 1 (pc (xam xh7 (pv 2) (xcy (pc (xa6 (va 11 (v1 10))) pN sT))) (va 4 (va 8 (pc (xam xci (pv 6) pI) pN xa5))) xa5)))) pN zsc)))) pN sT))))))
   (zpn (xar (pR xa0 (pd l C (va 0 (pc pI pN so))) pI (nM _)) (zpo (xaz (xt4 PySem.F.plainAttrs_list PySem.F.slot_list_reverse PySem.F.type_list_reverse xl7 (pv 7)))) pQ)
   (zpo (xaf (xa7 (xbl (K:=K) rfl) rfl T.uY PyProof.Rows.boot_tuple (v1 7)))))))),xad λR1 ba=>?_⟩
 refine⟨(by walk_at"s"),λal a2=>?_⟩;have s0:=Same.new a2 (.lst []);obtain⟨p0,q0,hf⟩:=Y.fd;have U:al≠f':=Ne.symm (neN hf a2);obtain⟨pa,us,rfl,ab,ag⟩:=b0;have hl:=ag.length;rw[zLM]at hl;have bb:0<ps.length:=List.length_pos_iff.mpr b3;have aa:(0:Int)<(us.length:Int):=by omega
 have b5:(((m+1:Nat):Int))-1=(m:Int):=by omega
 have ac:smK ks x<=o / (us.length:Int):=by
  refine(Int.le_ediv_iff_mul_le aa).mpr ?_;rw[hl];exact a8
 refine ba _ _ (xad λR2 b9=>?_);refine(xbo _ rfl _ rfl pa _ rfl (.inr (SqT.of (s0 _ _ ab))) _ (xbx _ rfl rfl ⟨by omega,by omega⟩ ?_));refine b9 _ _ (xad λR3 b8=>?_);refine(xba _ rfl pa rfl ⟨_,SqT.of (s0 _ _ ab)⟩ ?_)
 refine xb3 (xs:=us) (λi σ H'=>∃(ws:List V) (rs:List (Str×Str×D)) (o8 o9 a6:Option V),σ=[some (.ref f'),some kv,some bv,some (.ref pa),some (.str x),some (.int o),some (.int ((m+1:Nat):Int)),some (.ref al),some (.int (o / (us.length:Int))),o8,o9,a6]/\Fed f' H H'/\H' al=some (.lst ws)/\RelDs H' ws (rs.map dArm)/\rs.map (·.1)=(ps.take i).map (·.1)/\(∀p∈ps.take i,∃z e,(p.1,z,e)∈rs/\(∀q∈bs,q.1≠z)/\ArmN ks z/\TmB ks (7*m+7) (bs++[(z,p.2)]) e x)/\∀r∈rs,Sh r.1/\Sh r.2.1/\∃k,Tz (7*m+7) (bs++[(r.2.1,k)]) r.2.2 (o / (ps.length:Int)))
  (xag ([]) ([]) none none none rfl ((Fed.refl hf).same s0) ups rfl rfl ⟨(λp G=>by rw[List.take_zero]at G;exact nomatch G),λr C=>nomatch C⟩) (λi σ H' _ p=>?_) ?_ ?_
 ·obtain⟨_,_,_,_,_,_,I,_⟩:=p
  exact SqT.of (xaj Y.fd I _ _ ab)
 ·rintro i vv σ H1 af ⟨ws,rs,o8,o9,a6,rfl,I,M,J,y,O,a0⟩
  have tp:=xaj Y.fd I;obtain⟨d,hd,rd⟩:=ag.get af;rw[zGM]at hd;obtain⟨pr,a1,rfl⟩:=zMS hd;obtain⟨b,wz,rfl,hb,_,_,rfl,rfl,_,_,rfl,rfl,rfl⟩:=rd;have b2:=zMG a1;have be:i<us.length:=(zES af).1;have aw:=J.length
  have a9:rs.length<=5:=by
   have:=congrArg List.length y;rw[zLM,zLM,List.length_take]at this;omega
  rw[zLM]at aw;refine(xax b _ rfl (SqT.of (tp _ _ hb)) rfl _ _ rfl _ (jEAA _ rfl rfl (xad λR4 b7=>?_)));have e2:(Str.ofString "by").length=2:=by walk_at"k"
  refine(jEA _ rfl (xaq _ _ _ rfl rfl (by walk_at"k") (xp6 (i:=m+1) (by omega)) (xb0 _ _ rfl rfl (fits (by rw[e2];show 2+1<=_;decide)) ?_)));rw[show Str.ofString "by"++(⟨#[97+(m+1)]⟩:Str)=byN (m+1) from xqb (m+1)];have hy:∀b∈bs,b.1≠byN (m+1):=λb hb=>Y.fr b hb (m+1) (by omega);have av:∀j,j<m+1->byN (m+1)≠byN j:=λj hj e=>by have:=xst e;omega
  have t3:=Y.fed I;obtain⟨bg,ao,e3,am,a3,bc⟩:=t3.bx;cases e3;obtain⟨p3,q3,h3⟩:=I.2;refine b7 _ _ ?_;refine(xao _ rfl (.inl (jAE rfl _ (SqL.of M))) _ rfl (xa3 _ rfl _ rfl _ rfl _ rfl _ rfl (jEAA _ rfl (by walk_at"s") (λt1 ay=>⟨(by walk_at"s"),λl1 b4=>?_⟩))));have y1:=Same.new ay (.tup [.str (byN (m+1)),.str pr.2]);have y2:=Same.new b4 (.lst [.ref t1]);have ah:=a3.length;rw[zLM]at ah;have b6:=Y.bl;refine(xbg _ l1 _ _ rfl rfl ((y1.trans y2) _ _ am) ups (fits (by show _+1<=_;omega)) (λl2 ak=>?_));have y3:=Same.new ak (.lst (ao++[.ref t1]));have a5:=y1.trans (y2.trans y3);have t4:=t3.same a5;have au:l2≠f':=Ne.symm (neN ((y1.trans y2) _ _ h3) ak);refine(xa9 _ rfl _ rfl _ rfl _ _ rfl rfl (xa1 (7*m+6) hc f' kv (.ref l2) ks (xag (bs++[((byN (m+1)),pr.2)]) x (o / (us.length:Int)) m 6 (xmf b5) rfl (by decide) ⟨t4.fd,t4.kd,t4.wf,t4.nb,(xb0 l2 _ rfl ups ?_ au),?_,?_,?_,?_⟩ (by omega) (jAA ae ac (λu dd H6 f6 ru ai=>?_)))))
  ·rw[zAP]
   exact(a3.same a5 _).append (xat _ ([]) rfl (xan t1 _ rfl ((y2.trans y3) _ _ ups) _ _ rfl rfl _ (jEAA _ rfl rfl rfl)) rfl)
  ·rw[zAP]
   exact xj0 Y.nd λhm=>by
    obtain⟨b',a,e'⟩:=zMP hm;exact hy b' a e'
  ·rw[zLA,List.length_singleton]
   omega
  ·intro b' a j hj
   rcases zMA a with a |a
   ·exact Y.fr b' a j (by omega)
   ·rw[zMO a]
    exact av j hj
  ·intro b' a
   rcases zMA a with a |a
   ·exact Y.kn b' a
   ·rw[zMO a]
    exact b1 pr b2
  refine⟨(by walk_at"s"),λt6 ax=>?_⟩;have F6:Fed f' H1 H6:=((Fed.refl h3).same a5).trans f6;have st:=Same.new ax (.tup [.str pr.1,.str (byN (m+1)),.ref u]);have Z:=st _ _ (F6.1 _ _ M U);have aq:=(J.tups (xaj I.2 F6) _).same st _;refine(xaq al ws _ rfl rfl Z (xa4 (by omega)) (xag _ (rs++[(pr.1,(byN (m+1)),dd)]) _ _ _ rfl (Fed.put ((I.trans F6).same st) a2 U _) ups ?_ ?_ ⟨λp G=>?_,λr C=>?_⟩))
  ·rw[zAP]
   exact(aq.tups (xcq Z _) _).append (xat _ ([]) rfl (xan t6 _ rfl (xcq Z _ _ _ ups) _ _ rfl rfl _ (xbj _ rfl rfl _ _ rfl ((ru.same st _).tups (xcq Z _) _) rfl)) rfl)
  ·rw[zAP,y,zTA,a1,zAP]
   rfl
  ·rw[zTA,a1]at G
   rcases zMA G with G |G
   ·obtain⟨z,e,g1,g2,g3⟩:=O p G
    exact(xat z e (List.mem_append_left _ g1) g2 g3)
   ·have ep:p=pr:=by simpa using G
    rw[ep];exact(xb0 (byN (m+1)) dd (List.mem_append_right _ (by simp)) hy (.inl ⟨m+1,rfl⟩) ai.1)
  ·rcases zMA C with C |C
   ·exact a0 r C
   ·rw[zMO C,<- hl]
    exact(jAA (az _ (zMG a1)) (xvk (by omega)) ⟨_,ai.2⟩)
 ·rintro σ H1 ⟨ws,rs,o8,o9,a6,rfl,I,M,J,y,O,a0⟩
  rw[zTL (by omega)]at y O
  have a9:rs.length=ps.length:=by
   have:=congrArg List.length y
   rwa[zLM,zLM]at this
  have a4:∀r∈rs,∃p∈ps,p.1=r.1:=λr C=>by
   have:r.1∈rs.map (·.1):=List.mem_map_of_mem C;rw[y]at this;obtain⟨p,G,e⟩:=zMP this;exact(jEA p G e)
  obtain⟨p1,q1,h1⟩:=I.2;refine b8 _ _ (xad λR5 an=>?_);refine(xaa _ rfl f' p1 q1 _ rfl h1 (by decide) (by decide) (λr H2 r0 r1 f2=>(jAEA rfl _ rfl (ite2 (λc=>?_) (λc=>?_)))))
  ·have a7:=f2.1 _ _ M U
   have ar:=J.tups (xaj I.2 f2) _;refine(xbj _ rfl (.inl (jAE rfl _ (SqL.of a7))) al ws rfl rfl ⟨a7,?_⟩);refine an _ _ ?_;refine(jEA _ rfl (jEEA al _ rfl (.inl ⟨SqL.of ups,λt ht=>?_⟩)));have st:=Same.new ht (.tup ws.reverse);refine q _ rs.reverse _ ((Fed.put (I.trans f2) a2 U _).same st) (xat t _ rfl ups ?_) (by rw[List.length_reverse];exact a9) (λr C=>a4 r (List.mem_reverse.mp C)) ?_ (λp G=>?_) λr C=>a0 r (List.mem_reverse.mp C)
   ·rw[List.map_reverse]
    exact(RelDs.rev (ar.tups (xcq a7 _) _)).same st _
   ·rw[List.map_reverse]
    exact xnv (by rw[y];exact aj)
   ·obtain⟨z,e,h1,h2,h3⟩:=O p G
    exact(xat z e (List.mem_reverse.mpr h1) h2 h3)
  ·refine an _ _ ?_
   refine(jEA _ rfl (jEEA al _ rfl (.inl ⟨SqL.of (f2.1 _ _ M U),λt ht=>?_⟩)));have st:=Same.new ht (.tup ws);exact q _ rs _ ((I.trans f2).same st) (xat t _ rfl ups ((J.tups (xaj I.2 f2) _).same st _)) a9 a4 (by rw[y];exact aj) O a0
def PtAt(H:Hp)(ks:List Kn)(k:Kn)(room:Int)(w:V):Prop:=∃(b:Addr) (p:Str×Str),w=.ref b/\H b=some (.tup [.str p.1,.str p.2])/\p∈k.parts/\smK ks p.2<room
theorem PtAt.tups{H c:Hp}{ks:List Kn}{k:Kn}{a:Int}{w:V}(h:PtAt H ks k a w)(s:∀b us,H b=some (.tup us)->c b=some (.tup us)):PtAt c ks k a w:=by
 obtain⟨b,p,e,f,r⟩:=h;exact(xat b p e (s _ _ f) r)
theorem xrn{r:Int}(h0:0<=r)(h:r<5):∃c,atI (S "+-*<=").cps.toList r=some c/\Sg ⟨#[c]⟩:=by
 obtain⟨i,rfl⟩:∃i:Nat,r=(i:Int):=⟨r.toNat,by omega⟩;have hi:i=0\/i=1\/i=2\/i=3\/i=4:=by omega
 rcases hi with rfl |rfl |rfl |rfl |rfl
 ·exact(jEA 43 (xak (by walk_at"k")) (.inl (by walk_at"k")))
 ·exact(jEA 45 (xak (by walk_at"k")) (.inr (.inl (by walk_at"k"))))
 ·exact(jEA 42 (xak (by walk_at"k")) (.inr (.inr (.inl (by walk_at"k")))))
 ·exact(jEA 60 (xak (by walk_at"k")) (.inr (.inr (.inr (.inl (by walk_at"k"))))))
 ·exact(jEA 61 (xak (by walk_at"k")) (.inr (.inr (.inr (.inr (by walk_at"k"))))))
theorem xge{α β:Type}{R:α->β->Prop}:∀{as:List α} {bs:List β} {a:α} {b:β},All2 R as bs->R a b->All2 R (as++[a]) (bs++[b])
 |_,_,_,_,.nil,h=>.cons h .nil
 |_,_,_,_,.cons h t,k=>.cons h (xge t k)
theorem xq2{ks:List Kn}:∀(n:Nat) (env:En) (d v:D),Evs ks n env d v->Evs ks (n+1) env d v
 |0,_,_,_,h=>.inl h
 |n+1,env,d,v,h=>by
  rcases h with h |⟨h,g⟩
  ·exact .inl h
  ·exact .inr ⟨h.mono (xq2 n),g⟩
theorem xuu{ks:List Kn}{n m:Nat}(l:n<=m){env:En}{d v:D}(h:Evs ks n env d v):Evs ks m env d v:=by
 obtain⟨k,rfl⟩:∃k,m=n+k:=⟨m-n,by omega⟩;clear l
 induction k with
 |zero=>exact h
 |succ k a=>exact xq2 _ _ _ _ a
theorem TmB.le{ks:List Kn}{n m:Nat}{bs:List (Str×Str)}{d:D}{x:Str}(h:TmB ks n bs d x)(l:n<=m):TmB ks m bs d x:=⟨λenv a=>by
 obtain⟨v,c,b⟩:=h.1 env a;exact(jEA v (xuu l c) b),λenv a=>xvx l (h.2 env a)⟩
theorem xmw{α:Type}{f:α->Int}{q:Int}:∀{l:List α},(l.map λp=>f p+q).sum=(l.map f).sum+(l.length:Int)*q
 |[]=>by simp
 |a::l=>by
  have b:=xmw (f:=f) (q:=q) (l:=l);rw[List.map_cons,List.map_cons,List.sum_cons,List.sum_cons,b,List.length_cons];have:((l.length+1:Nat):Int)*q=(l.length:Int)*q+q:=by rw[Int.natCast_add,Int.add_mul];simp
  omega
theorem xo1{ks:List Kn}{ps:List (Str×Str)}{x:Str}{n:Nat}{a:Int}(b:n=ps.length)(c:smK ks x<=a)(es:smK ks x=1+(ps.map λp=>smK ks p.2).sum):(ps.map λp=>smK ks p.2+(a-smK ks x) / (n:Int)).sum+1<=a:=by
 subst b;rw[xmw];by_cases h0:ps.length=0
 ·rw[h0]
  simp;omega
 ·have:=Int.mul_ediv_self_le (x:=a-smK ks x) (k:=(ps.length:Int)) (by omega)
  omega
theorem xro{s:Str}(h:Sg s):Sh s:=by
 rcases h with rfl |rfl |rfl |rfl |rfl <;> exact⟨by walk_at"k",by walk_at"k"⟩
theorem xgf (T:Tx K mg) {c:Nat} (G:DefIs P w K mg base n "_law_sort_of" qab xez) (o:DefIs P w K mg base n "_law_take" qad xcn) (I:DefIs P w K mg base n "_law_number" qa2 xm2) (l:DefIs P w K mg base n "_law_small" qab (spSm smK 6)) (g:DefIs P w K mg base n "_law_term" qah (xo3 c)) :
  DefIs P w K mg base (n+1) "_law_whole_term" qah (spTw c):=by
 refine DefIs.of T.kU scl_whole_term (by walk_at"l") (λf bw A outer s H vs Q E hr h=>?_);obtain⟨f',kv,bv,ks,bs,x,C,m,j,rfl,bu,be,ti,m8,ao,ai,q⟩:=h;have nd:=scl_whole_term.nd;have U:=ti.wf;have aq:KIn ks 6 x:=ao.mono be
 refine⟨_,(zpn (xc6 (pd G hr (va 1 (v1 3))) (xbc (K:=K) rfl rfl (xae (pgn 6 nd) (xae (pgn 7 nd) xbb))))
   (zpn (xar (pR xa0 (pv 6) pS (nM _)) (zpn (xar (PW.pt (xjo (pR xee (pv 4) pI (nM _)) (xjo (pR xa0 (pv 5) pI (nM _)) (xgm (pR xa0 (pd o hr (va 0 (pc pI pN so))) pI (nM _)))))) (zpo (xaf (xa6 (pc pS (pc (pd I hr (v1 0)) pN zsc) so)))) pQ)
   (zpn (psn 8 nd (pd g hr (va 0 (va 1 (va 2 (pc pS (pc (xam xcf (xam xci (pv 4) pI) pI) (pc (xam xci (pv 5) pI) pN xa5) xa5) so))))))
   (zpn (psn 9 nd (pd g hr (va 0 (va 1 (va 2 (pc pS (pc (xam xcf (xam xci (pv 4) pI) pI) (pc (xam xci (pv 5) pI) pN xa5) xa5) so))))))
   (zpo (xaf (xa6 (pc pS (pc (xly xla pS (pd o hr (va 0 (pc pI pN so))) (λ_ _=>rfl)) (va 8 (v1 9)) ss) so))))))) pQ)
   (zpn (xar (pR xa0 (pv 6) pS (nM _)) (zpn (xcc (i:=10) ["_law_part","_law_room","_law_kinds_here"] [none,some 4,some 1] rfl (by kernel_rfl) nd rfl (by walk_at"o") (xal (K:=K) rfl (pv 7)) (λ_ _ _ _=>(pgc 0)) (λ_ _ _ _=>(xdk (pR xee (pd l hr (va 2 (pc (px K (pv 0) pI) pN ss))) (pv 1) (nM _)))) (λ_ _ _ _=>(pv 0)))
   (zpn (xc6 (pxl K (pv 10) (pd o hr (va 0 (pc (xai (xac (K:=K) rfl) rfl T.uR PySem.boot_len (v1 10)) pN zsc)))) (xbc (K:=K) rfl rfl (xae (pgn 11 nd) (xae (pgn 12 nd) xbb))))
   (zpo (xaf (xa6 (pc pS (va 3 (va 11 (pc (pd g hr (va 0 (va 1 (va 2 (va 12 (pc (xam xci (pv 4) pI) (v1 5) xa5)))))) pN zsc))) so)))))) pQ)
   (zpn (psn 13 nd (xam xci (pv 4) (pd l hr (va 1 (v1 3)))))
   (zpn (psn 14 nd (xcy pN))
   (zpn (xbt PassesOwn.never rfl (xal (K:=K) rfl (pv 7)) (xbc (K:=K) rfl rfl (xae (pgn 15 nd) (xae (pgn 12 nd) xbb)))
   (zpo (xaz (xep PySem.F.plainAttrs_list PySem.F.slot_list_append PySem.F.type_list_append xb9 (pv 14) (pc (pd g hr (va 0 (va 1 (va 2 (va 12 (pc (xam xbe (pd l hr (va 1 (v1 12))) (xam xcf (pv 13) (xai (xac (K:=K) rfl) rfl T.uR PySem.boot_len (v1 7)))) (v1 5) xa5)))))) pN zsc)))))
   (zpo (xaf (xa6 (pc pS (va 3 (pc (xa7 (xbl (K:=K) rfl) rfl T.uY PyProof.Rows.boot_tuple (v1 14)) pN zsc)) so)))))))))),xad λR1 bm=>?_⟩
 refine(xay _ rfl _ rfl kv ks x rfl ((U.ksAt ti.kd).seq) (λt bn H1 s1 ht rp=>?_));refine(xax t _ rfl (SqT.of ht) rfl _ _ rfl _ (jEAA _ rfl rfl ?_));refine bm _ _ (xad λR2 b3=>?_);have t1:=ti.same s1;obtain⟨p1,q1,h1⟩:=t1.fd;obtain⟨p0,q0,hf⟩:=ti.fd;have F1:Fed f' H H1:=(Fed.refl hf).same s1;rcases ao.look U with⟨rfl,O⟩ |⟨j',k,bd,O,hn,a3,az⟩
 ·refine(xao _ rfl rfl _ rfl (iteKT (zDT (by rw[O];rfl)) ?_))
  have RN:∀(H2:Hp) (f2:Fed f' H1 H2),∀(i:Int) (H3:Hp),Nm i->Fed f' H2 H3->∀t,H3 t=none->Q (.ref t) (upd H3 t (.tup [.str (S "num"),.int i])):=λH2 f2 i H3 hi f3 t ht=>by
   have st:=Same.new ht (.tup [.str (S "num"),.int i]);exact q _ (tNum i) _ (((F1.trans f2).trans f3).same st) (xan t _ rfl ups _ _ rfl rfl _ (jEAA _ rfl rfl rfl)) ⟨xta hi,xs1 hi (by rw[(xkt U).1]at ai;omega)⟩
  refine(xa2 _ rfl _ _ rfl rfl _ rfl (ite2 (λc1=>?_) (λc1=>?_)))
  ·exact iteT (jEA _ rfl (xc2 f' p1 q1 rfl h1 (λi H3 hi f3=>⟨(by walk_at"s"),λt ht=>RN H1 (Fed.refl h1) i H3 hi f3 t ht⟩)))
  refine(xao _ rfl rfl _ rfl (ite2 (λc2=>?_) (λc2=>?_)))
  ·exact iteT (jEA _ rfl (xc2 f' p1 q1 rfl h1 (λi H3 hi f3=>⟨(by walk_at"s"),λt ht=>RN H1 (Fed.refl h1) i H3 hi f3 t ht⟩)))
  have bz:¬C<3:=λz=>c1 (zDT z);have bx:¬(m:Int)=0:=λz=>c2 (zDT (congrArg V.int z));obtain⟨m',rfl⟩:∃m',m=m'+1:=⟨m-1,by omega⟩;have b0:(((m'+1:Nat):Int))-1=(m':Int):=by omega
  refine(xaa _ rfl f' p1 q1 _ rfl h1 (by decide) (by decide) (λr H2 r0 r1 f2=>(jAEA rfl _ rfl (ite2 (λc3=>?_) (λc3=>?_)))))
  ·obtain⟨p2,q2,h2⟩:=f2.2
   exact(jEA _ rfl (xc2 f' p2 q2 rfl h2 (λi H3 hi f3=>⟨(by walk_at"s"),λt ht=>RN H2 f2 i H3 hi f3 t ht⟩)))
  have t2:=t1.fed f2;have bc:=(xkt U).1;have ax:smK ks (S "num")<=(C-1) / 2:=by rw[bc];omega
  refine(xbz _ rfl _ rfl _ rfl _ rfl _ (xbj _ rfl rfl _ _ rfl rfl (jAEA ⟨by decide,by decide⟩ _ rfl (xat _ _ rfl rfl ?_))));refine(xa1 (7*m') (by omega) f' kv bv ks (xag bs (S "num") ((C-1) / 2) m' 0 (xmf b0) rfl (by decide) (t2.down (by omega)) (by omega) (jAA (.inl rfl) ax (λu1 d1 H3 f3 b8 av=>?_))));have t3:=t2.fed f3;refine(xbz _ rfl _ rfl _ rfl _ rfl _ (xbj _ rfl rfl _ _ rfl rfl (jAEA ⟨by decide,by decide⟩ _ rfl (xat _ _ rfl rfl ?_))));refine(xa1 (7*m') (by omega) f' kv bv ks (xag bs (S "num") ((C-1) / 2) m' 0 (xmf b0) rfl (by decide) (t3.down (by omega)) (by omega) (jAA (.inl rfl) ax (λu2 d2 H4 f4 b7 a8=>?_))));have t4:=t3.fed f4;obtain⟨p4,q4,h4⟩:=t4.fd;refine(xaa _ rfl f' p4 q4 _ rfl h4 (by decide) (by decide) (λr' H5 ba b9 f5=>?_));obtain⟨ch,bf,aw⟩:=xrn ba b9;refine(xaq _ _ ch rfl rfl (by walk_at"k") bf (xba _ rfl _ rfl (by walk_at"s") (λt' ah=>?_)));have st:=Same.new ah (.tup [.str (S "op"),.str ⟨#[ch]⟩,.ref u1,.ref u2]);exact q _ (tOpD ⟨#[ch]⟩ d1 d2) _ (((((F1.trans f2).trans f3).trans f4).trans f5).same st) (xan t' _ rfl ups _ _ rfl rfl _ (xbj _ rfl rfl _ _ rfl (((b8.tups (xaj t3.fd f4) _).tups (xaj t4.fd f5) _).same st _) (xat _ _ rfl ((b7.tups (xaj t4.fd f5) _).same st _) rfl))) ⟨TmB.le (xu8 U aw av.1 a8.1) (by omega),xlo (n:=7*m'+2) (by omega) (.inr (.inl (xck _ _ _ _ _ av.2 a8.2 (by omega) (xro aw) rfl)))⟩
 ·subst bd
  rw[O]at rp;obtain⟨a,us,rfl,ha,ag⟩:=rp;have hl:=ag.length;rw[zLM]at hl;have h5:=U.pts k a3;have a9:xft (kAt ks x)=k.sort:=by rw[O];rfl
  have es:=(xtp U O).1;unfold smS at es
  cases hc:k.rc with
  | false=>
   rw[if_neg (by rw[hc];decide)]at es;refine(xao _ rfl rfl _ rfl (iteKF (zDF (by rw[a9,xdo hc];decide +kernel)) ?_));refine b3 _ _ (xad λR3 b2=>?_);refine(xao _ rfl rfl _ rfl (iteKT (zDT (by rw[a9,xdo hc];rfl)) ?_));refine(xba _ rfl a rfl ⟨_,SqT.of ha⟩ ?_);refine xbv (xs:=us) (λi ys H'=>Same H1 H'/\(∀z∈ys,PtAt H' ks k C z)/\(1<=i->ys≠[])) (jAA (Same.refl _) (λ_ h=>nomatch h) (λh=>absurd h (by decide))) (xa4 (by omega)) (λi ys H' _ p=>SqT.of (p.1 _ _ ha)) ?_ ?_
   ·rintro i y ys H' hy b1 ak ⟨Y,a6,aj⟩
    obtain⟨d',a4,ab⟩:=ag.get hy;rw[zGM]at a4;obtain⟨pr,J,rfl⟩:=zMS a4;obtain⟨b,b4,rfl,hb,_,_,rfl,rfl,_,_,rfl,rfl,rfl⟩:=ab;have M:=zMG J
    have first:i=0->smK ks pr.2<C:=λe0=>by
     subst e0
     cases ay:k.parts with
     |nil=>rw[ay]at J;simp at J
     |cons p r=>
      rw[ay]at J es;simp at J;subst J;have es':smK ks x=1+smK ks p.2:=es;omega
    refine⟨xe5 rfl,?_⟩;refine(xah _ rfl _ rfl b _ _ (xbw _ rfl rfl (SqT.of (Y _ _ hb)) rfl (xaq kv ks pr.2 rfl (t1.kd.same Y _) U (xf3 U a3 M) (λH3 s3=>(xa2 _ rfl _ _ rfl rfl _ rfl (ite2 (λc1=>?_) (λc1=>?_)))))))
    ·refine(jEA _ rfl (nxtG b1 ak (jAA (Y.trans s3) (λz hz=>?_) (λ_=>by simp))))
     rcases zMA hz with hz |hz
     ·exact(a6 z hz).tups λb us q=>s3 _ _ q
     ·rw[zMO hz]
      exact(xb0 b pr rfl (s3 _ _ (Y _ _ hb)) M (of_decide_eq_true c1))
    ·refine nxtN b1 ak (jAA (Y.trans s3) (λz hz=>(a6 z hz).tups λb us q=>s3 _ _ q) (λ_=>?_))
     by_cases e0:i=0
     ·exact absurd (zDT (first e0)) c1
     ·exact aj (by omega)
   ·rintro ys H2 ak ⟨Y,a6,aj⟩ D hD
    have br:k.parts.length≠0:=λe=>U.alt k a3 hc (List.length_eq_zero_iff.mp e);have an:=aj (by omega);have bo:0<ys.length:=Nat.pos_of_ne_zero λe=>an (List.length_eq_zero_iff.mp e);have sD:=Same.new hD (.lst ys);have a1:=Y.trans sD;have Df:D≠f':=Ne.symm (neN (Y _ _ h1) hD);refine(xa9 _ rfl _ rfl _ rfl D _ rfl (.inl (SqL.of ups)) (xap f' p1 q1 _ rfl (a1 _ _ h1) (by omega) (by omega) (λr H5 r0 r1 f5=>?_)));obtain⟨i,rfl⟩:∃i:Nat,r=(i:Int):=⟨r.toNat,by omega⟩;have al:i<ys.length:=by omega
    have t2:=t1.same a1;have b5:=xaj t2.fd f5;obtain⟨b,p,eb,hb,M,bq⟩:=((a6 ys[i] (List.getElem_mem al)).tups λb us q=>sD _ _ q).tups b5;have bg:atI ys (i:Int)=some (.ref b):=xak (by rw[zGA al,eb]);refine(xbu D _ _ _ rfl rfl (SqL.of (f5.1 _ _ ups Df)) bg b (xbx _ rfl (SqT.of hb) rfl (jEEA _ _ rfl (xat _ _ rfl rfl ?_))));have t5:=t2.fed f5;refine(xa3 _ rfl _ rfl _ rfl _ rfl _ rfl (xcb _ rfl _ rfl _ _ rfl rfl _ rfl ?_));refine(xa1 (7*m+j') (by omega) f' kv bv ks (xag bs p.2 (C-1) m j' rfl rfl (by omega) t5 m8 (jAA (az p M) (by omega) (λu du H7 f7 ru a2=>⟨(by walk_at"s"),λt' ah=>?_⟩))));have st:=Same.new ah (.tup [.str (S "tag"),.str x,.str p.1,.ref u]);exact q _ (tTag x p.1 du) _ ((((F1.same a1).trans f5).trans f7).same st) (xan t' _ rfl ups _ _ rfl rfl _ (xbj _ rfl rfl _ _ rfl rfl (xat _ _ rfl (ru.same st _) rfl))) ⟨TmB.le (xs8 U O hc M a2.1) (by omega),xlo (n:=7*m+j'+2) (by omega) (.inr (.inr (.inr (.inr (.inl (xap _ _ _ _ a2.2 (by omega) (xts U O) (xji U a3 M) rfl))))))⟩
  | true=>
   rw[if_pos hc]at es;refine(xao _ rfl rfl _ rfl (iteKF (zDF (by rw[a9,xdj hc];decide +kernel)) ?_));refine b3 _ _ (xad λR3 b2=>?_);refine(xao _ rfl rfl _ rfl (iteKF (zDF (by rw[a9,xdj hc];decide +kernel)) ?_));refine b2 _ _ (xad λR4 bl=>?_);refine(xbf _ rfl _ rfl _ rfl kv ks (xbw x rfl t1.kd U aq (λH2 s2=>(xat _ _ rfl rfl ?_))));refine bl _ _ (xad λR5 bj=>?_);refine⟨(by walk_at"s"),λtl au=>?_⟩;refine bj _ _ (xad λR6 bi=>?_);have a1:=s2.trans (Same.new au (.lst []));have aa:=xcj s2 au;have am:tl≠f':=Ne.symm (neN h1 aa);refine(xba _ rfl a rfl ⟨_,SqT.of (a1 _ _ ha)⟩ ?_);refine xb3 (xs:=us) (λi σ H'=>∃(ws:List V) (ds:List D) (ae ac:Option V),σ=[some (.ref f'),some kv,some bv,some (.str x),some (.int C),some (.int (m:Int)),some (.str (xft (kAt ks x))),some (.ref a),none,none,none,none,ae,some (.int (C-smK ks x)),some (.ref tl),ac]/\Fed f' H1 H'/\H' tl=some (.lst ws)/\RelDs H' ws ds/\All2 (λe (p:Str×Str)=>TmB ks (7*m+j'+1) bs e p.2) ds (k.parts.take i)/\All2 (Tz (7*m+j'+1) bs) ds ((k.parts.take i).map λp=>smK ks p.2+(C-smK ks x) / (us.length:Int))) (xbg ([]) ([]) none none rfl ((Fed.refl h1).same a1) ups rfl (by rw[List.take_zero];exact .nil) (by rw[List.take_zero];exact .nil)) (λi σ H' _ p=>?_) ?_ ?_
   ·obtain⟨_,_,_,_,_,fm,_⟩:=p
    exact SqT.of (xaj t1.fd fm _ _ ha)
   ·rintro i vv σ H3 ar ⟨ws,ds,ae,ac,rfl,fm,a7,a5,Z,a0⟩
    have tp:=xaj t1.fd fm;obtain⟨d',a4,ab⟩:=ag.get ar;rw[zGM]at a4;obtain⟨pr,J,rfl⟩:=zMS a4;obtain⟨b,b4,rfl,hb,_,_,rfl,rfl,_,_,rfl,rfl,rfl⟩:=ab;have M:=zMG J;have t3:=t1.fed fm;have bp:=a5.length;have bh:=Z.length;rw[List.length_take]at bh;have al:i<us.length:=(zES ar).1;refine(xax b _ rfl (SqT.of (tp _ _ hb)) rfl _ _ rfl _ (jEAA _ rfl rfl ?_));refine(xao _ rfl (.inl (jAE rfl _ (SqL.of a7))) _ rfl (xa3 _ rfl _ rfl _ rfl _ rfl _ rfl (xaq kv ks pr.2 rfl t3.kd U (xf3 U a3 M) (λH4 s4=>?_))));have bt:0<=(C-smK ks x) / (us.length:Int):=Int.ediv_nonneg (by omega) (by omega);refine(xbo _ rfl _ rfl a _ rfl (.inr (SqT.of (s4 _ _ (tp _ _ ha)))) _ (xbx _ rfl rfl ⟨by omega,by omega⟩ (xat _ _ rfl rfl (jEA _ rfl ?_))));have t4:=t3.same s4;refine(xa1 (7*m+j') (by omega) f' kv bv ks (xag bs pr.2 (smK ks pr.2+(C-smK ks x) / (us.length:Int)) m j' rfl rfl (by omega) t4 m8 (jAA (az pr M) (by omega) (λu du H5 f5 ru a2=>?_))));have af:=f5.1 _ _ (s4 _ _ a7) am;have b6:=(a5.same s4 _).tups (xaj t4.fd f5) _;refine(xaq tl ws _ rfl rfl af (xa4 (by omega)) (xbg _ (ds++[du]) _ _ rfl (Fed.put ((fm.same s4).trans f5) aa am _) ups ((b6.tups (xcq af _) _).append (xat (.ref u) ([]) rfl (ru.tups (xcq af _) _) rfl)) ?_ ?_))
    ·rw[zTA,J]
     exact xge Z a2.1
    ·rw[zTA,J,zAP]
     exact xge a0 a2.2
   ·rintro σ H3 ⟨ws,ds,ae,ac,rfl,fm,a7,a5,Z,a0⟩
    rw[zTL (by omega)]at Z a0;refine bi _ _ ?_;refine(jEA _ rfl (jEA _ rfl (jEEA tl ws rfl (.inl ⟨SqL.of a7,λt2 a8=>⟨(by walk_at"s"),λt3 bb=>?_⟩⟩))));have y2:=Same.new a8 (.tup ws);have y3:=Same.new bb (.tup [.str (S "rec"),.str x,.ref t2]);exact q _ (tRec x ds) _ ((F1.trans fm).same (y2.trans y3)) (xan t3 _ rfl ups _ _ rfl rfl _ (xbj _ rfl rfl _ _ rfl (xat t2 ws rfl (y3 _ _ ups) (a5.same (y2.trans y3) _)) rfl)) ⟨TmB.le (xs9 O hc (by omega) Z) (by omega),xlo (n:=7*m+j'+2) (by omega) (.inr (.inr (.inl (xdw _ _ _ a0 (xo1 hl (by omega) es) (xts U O) rfl))))⟩
structure Hold(R:Prop):Prop where
 go:R
theorem xqx{R A:Prop}(h:Hold R->A)(r:R):A:=h ⟨r⟩
theorem DefIs.anyP{P:Program}{w:World}{K:Fg}{e:Str->Option Value}{base:Heap}{n:Nat}{x:Str}{st:Stmt}{ps:List Str}{Pr:Nat->Prop}{sps:Nat->Sp}(T:DefTx K e x st ps)(D:∀m,Pr m->DefIs P w K e base n x ps (sps m)):DefIs P w K e base n x ps (λvs H Q E=>∃m,Pr m/\sps m vs H Q E):=by
 by_cases p:∃m,Pr m
 ·obtain⟨u,h0⟩:=p
  obtain⟨f,I,F,b,k,o,l⟩:=(D u h0).ex;refine⟨f,(xbw I ⟨?_,?_⟩ b k o l)⟩
  ·rintro vs H Q E ⟨m,g,h⟩
   obtain⟨J,i,j,_⟩:=(D m g).ex;exact j.1 vs H Q E h
  ·rintro A outer s H args us vs Q E G C z y ⟨m,g,h⟩
   obtain⟨J,i,j,U,O,a,c⟩:=(D m g).ex;rw[o]at a;cases a;obtain⟨M,od,r,l⟩:=l;obtain⟨_,_,_,c⟩:=c;rw[l]at c;cases c;exact j.2 A outer s H args us vs Q E G C z y h
 ·exact DefIs.none T λvs H Q E h=>p ⟨h.choose,h.choose_spec.1⟩
def xrm(c:Nat):Sp:=λvs H Q E=>∃m,7*m+6<c/\xjg m vs H Q E
theorem xml{z:Str}:∀{bs:List (Str×Str)},(∀b∈bs,b.1≠z)->∀acc,valV (xbi acc (bKV bs)) (Sum.inr z)=valV acc (Sum.inr z)
 |[],_,acc=>rfl
 |b::bs,h,acc=>by
  have:=xml (bs:=bs) (λc a=>h c (by simp[a])) (putK acc (Sum.inr b.1) (.str b.2));show valV (xbi (putK acc (Sum.inr b.1) (.str b.2)) (bKV bs)) (Sum.inr z)=_;rw[this,xei,if_neg];intro e;exact h b (by simp) (Sum.inr.inj e).symm
theorem xqh{z k:Str}:∀{bs:List (Str×Str)},(bs.map (·.1)).Nodup->(z,k)∈bs->∀acc,valV (xbi acc (bKV bs)) (Sum.inr z)=some (.str k)
 | b::bs,nd,h,acc=>by
  rw[List.map_cons,List.nodup_cons]at nd;show valV (xbi (putK acc (Sum.inr b.1) (.str b.2)) (bKV bs)) (Sum.inr z)=_;rcases zMC h with h |h
  ·subst h
   rw[xml (bs:=bs) (λc a e=>nd.1 (List.mem_map.mpr (jEA c a e))),xei,if_pos rfl]
  ·exact xqh nd.2 h _
theorem xn3{ks:List Kn}(f:KWf ks){y:Str}(h:KIn ks 6 y){H:Hp}{v:V}(b:RelD H v (xk2 (kAt ks y))):∃ps,RelD H v (xdp ps)/\ps.length<=5/\(xft (kAt ks y)=S "rec"->∃k,kAt ks y=some k/\k.rc=true/\k.parts=ps)/\(xft (kAt ks y)=S "alt"->∃k,kAt ks y=some k/\k.rc=false/\k.parts=ps):=by
 rcases h.look f with⟨rfl,e⟩ |⟨j,k,l,e,hn,g,i⟩
 ·rw[e]at b⊢
  exact(xbx ([]) b (by decide) (λz=>absurd z (by walk_at"k")) (λz=>absurd z (by walk_at"k")))
 ·rw[e]at b⊢
  refine(xbx k.parts b (by have:=f.pts k g;omega) (λz=>(jEAA k rfl ?_ rfl)) (λz=>(jEAA k rfl ?_ rfl)))
  ·cases c:k.rc with
   |true=>rfl
   |false=>
    have a:k.sort=S "rec":=z;rw[xdo c]at a;exact absurd a (by walk_at"k")
  ·cases c:k.rc with
   |false=>rfl
   |true=>
    have a:k.sort=S "alt":=z;rw[xdj c]at a;exact absurd a (by walk_at"k")
def HdAt(H:Hp)(ks:List Kn)(bs:List (Str×Str))(x:Str)(w:V):Prop:=∃(b:Addr) (z g y:Str) (k:Kn),w=.ref b/\H b=some (.tup [.str z,.str g])/\(z,y)∈bs/\kAt ks y=some k/\k.rc=true/\(g,x)∈k.parts
theorem HdAt.tups{H a:Hp}{ks:List Kn}{bs:List (Str×Str)}{x:Str}{w:V}(h:HdAt H ks bs x w)(s:∀b us,H b=some (.tup us)->a b=some (.tup us)):HdAt a ks bs x w:=by
 obtain⟨b,z,g,y,k,e,c,r⟩:=h;exact(xav b z g y k (jAA e (s _ _ c) r))
def TgOk(ks:List Kn)(bs:List (Str×Str))(z:Str):Prop:=∃(y:Str) (k:Kn),(z,y)∈bs/\kAt ks y=some k/\k.rc=false
theorem xpj (T:Tx K mg) {c:Nat} (I:DefIs P w K mg base n "_law_take" qad xcn) (a4:DefIs P w K mg base n "_law_boxed" qa4 xm7) (a3:DefIs P w K mg base n "_law_small" qab (spSm smK 6)) (o:DefIs P w K mg base n "_law_sort_of" qab xez) (C:DefIs P w K mg base n "_law_term" qah (xo3 c)) (a9:DefIs P w K mg base n "_law_arms" qbh (xrm c)) (O:DefIs P w K mg base n "_law_whole_term" qah (spTw c)) :
  DefIs P w K mg base (n+1) "_law_term" qah (spTw c):=by
 refine DefIs.of T.kW scl_term (by walk_at"l") (λf dd A outer s H vs Q E hr h=>?_);obtain⟨f',kv,bv,ks,bs,x,l,m,j,rfl,ae,a1,ti,m8,a0,M,q⟩:=h;have nd:=scl_term.nd;have hu:=xe3 hr;have wf:=ti.wf;have ay:KIn ks 6 x:=a0.mono a1;have db:=xff wf x
 refine⟨_,(zpn (xcc (i:=6) ["_law_x","_law_told","_law_kind"] [none,none,some 3] rfl (by kernel_rfl) nd rfl (by walk_at"o") (xcl (K:=K) rfl (pv 2)) (λ_ _ _ _=>(xbc (K:=K) (n:=2) rfl rfl (xae (pgc 0) (xae (pgc 1) xbb)))) (λ_ _ _ _=>(xdk (pR xa0 (pv 1) (pv 2) (nM _)))) (λ_ _ _ _=>(pv 0)))
   (zpn (psn 7 nd (pd I hr (va 0 (pc pI pN so))))
   (zpn (xar (PW.pt (xc1 (pR xdt (xai (xac (K:=K) rfl) rfl T.uR PySem.boot_len (v1 6)) pI (nM _)) (xcp (pR xee (pv 7) pI (nM _))))) (zpo (xaf (pd a4 hr (va 0 (v1 6))))) pQ)
   (zpn (psn 8 nd (pd a3 hr (va 1 (v1 3))))
   (zpn (xar (PW.pt (xc1 (pR xa0 (pv 7) pI (nM _)) (xc1 (pR xdt (pv 5) pI (nM _)) (xcp (pR xdt (pv 4) (xam xbe (xam xdf pI (pv 8)) pI) (nM _)))))) (zpn (psn 9 nd (xam xcf (xam xci (xam xci (pv 4) pI) (xam xdf pI (pv 8))) pI))
   (zpn (psn 10 nd (pd C hr (va 0 (va 1 (va 2 (pc pS (pc (xam xbe pI (pv 9)) (pc (xam xci (pv 5) pI) pN xa5) xa5) so))))))
   (zpn (psn 11 nd (pd C hr (va 0 (va 1 (va 2 (va 3 (pc (xam xbe (pv 8) (pv 9)) (pc (xam xci (pv 5) pI) pN xa5) xa5)))))))
   (zpo (xaf (xa6 (pc pS (va 10 (va 11 (pc (pd C hr (va 0 (va 1 (va 2 (va 3 (pc (xam xbe (pv 8) (pv 9)) (pc (xam xci (pv 5) pI) pN xa5) xa5)))))) pN zsc))) so))))))) pQ)
   (zpn (xar (PW.pt (xc1 (pR xa0 (pv 7) pI (nM _)) (xcp (pR xdt (pv 4) pI (nM _))))) (zpn (psn 12 nd (xcy pN))
   (zpn (xbt PassesOwn.never rfl (xcl (K:=K) rfl (pv 2)) (xbc (K:=K) rfl rfl (xae (pgn 13 nd) (xae (pgn 14 nd) xbb)))
   (zpn (xc6 (pd o hr (va 1 (v1 14))) (xbc (K:=K) rfl rfl (xae (pgn 15 nd) (xae (pgn 16 nd) xbb))))
   (zpo (psn 12 nd (xam xh7 (pv 12) (xbr ["_law_f","_law_part","_law_x","_law_sort","_law_kind"] [none,none,some 13,some 15,some 3] rfl (by kernel_rfl) (xal (K:=K) rfl (pv 16)) (λ_ _ _ _=>(xbc (K:=K) (n:=2) rfl rfl (xae (pgc 0) (xae (pgc 1) xbb)))) (λ_ _ _ _=>(xdk (PW.pt (xc1 (pR xa0 (pv 3) pS (nM _)) (xcp (pR xa0 (pv 1) (pv 4) (nM _))))))) (λ_ _ _ _=>(xa6 (va 2 (v1 0))))))))))
   (zpo (xar (pR xdt (xai (xac (K:=K) rfl) rfl T.uR PySem.boot_len (v1 12)) pI (nM _)) (zpn (xc6 (pxl K (pv 12) (pd I hr (va 0 (pc (xai (xac (K:=K) rfl) rfl T.uR PySem.boot_len (v1 12)) pN zsc)))) (xbc (K:=K) rfl rfl (xae (pgn 13 nd) (xae (pgn 17 nd) xbb))))
   (zpo (xaf (xa6 (pc pS (pc (xa6 (pc pS (v1 13) so)) (v1 17) sT) so))))) pQ)))) pQ)
   (zpn (xar (PW.pt (xc1 (pR xa0 (pv 7) pI (nM _)) (xcp (pR xdt (pv 5) pI (nM _))))) (zpn (xcc (i:=18) ["_law_x","_law_told","_law_kinds_here"] [none,none,some 1] rfl (by kernel_rfl) nd rfl (by walk_at"o") (xcl (K:=K) rfl (pv 2)) (λ_ _ _ _=>(xbc (K:=K) (n:=2) rfl rfl (xae (pgc 0) (xae (pgc 1) xbb)))) (λ_ _ _ _=>(xdk (pR xa0 (px K (pd o hr (va 2 (v1 1))) pI) pS (nM _)))) (λ_ _ _ _=>(pv 0)))
   (zpo (xar (pR xdt (xai (xac (K:=K) rfl) rfl T.uR PySem.boot_len (v1 18)) pI (nM _)) (zpn (psn 13 nd (pxl K (pv 18) (pd I hr (va 0 (pc (xai (xac (K:=K) rfl) rfl T.uR PySem.boot_len (v1 18)) pN zsc)))))
   (zpn (psn 16 nd (px K (pd o hr (va 1 (pc (xdr hu (xa7 (xme rfl) rfl T.uN PyProof.Rows.boot_dict (v1 2)) (pv 13) (λ_ _=>rfl)) pN ss))) pI))
   (zpo (xar (pR xr0 (xam xci (pv 4) pI) (xam xdf (pv 8) (xai (xac (K:=K) rfl) rfl T.uR PySem.boot_len (v1 16))) (nM _)) (zpo (xaf (xa6 (pc pS (pc (xa6 (pc pS (v1 13) so)) (pc (pd a9 hr (va 0 (va 1 (va 2 (va 16 (va 3 (pc (xam xci (pv 4) pI) (v1 5) xa5))))))) pN zsc) sT) so)))) pQ)))) pQ))) pQ)
   (zpo (xaf (pd O hr (va 0 (va 1 (va 2 (va 3 (va 4 (v1 5)))))))))))))))),?_⟩
 refine xad λR1 d0=>?_;obtain⟨p0,q0,hf⟩:=ti.fd;have cq:=ti.bx;obtain⟨bl,ub,rfl,bw,bi,df⟩:=cq;have ch:=bi.length;rw[zLM]at ch;have cr:=ti.bl;refine(xba _ rfl bl rfl ⟨_,SqL.of bw⟩ ?_);refine xgs (xs:=ub) (λi ys J=>J=H/\∃zs:List Str,ys=zs.map V.str/\(∀z∈zs,(z,x)∈bs)/\zs.length<=i) (jAEA rfl ([]) rfl ⟨(λ_ h=>nomatch h),Nat.le_refl _⟩) (xa4 (by omega)) (λi ys J _ p=>by obtain⟨rfl,_⟩:=p;exact SqL.of bw) ?_ ?_
 ·rintro i y ys J hy a8 U ⟨rfl,zs,rfl,aa,be⟩
  obtain⟨d',Y,ab⟩:=bi.get hy;rw[zGM]at Y;obtain⟨pr,ao,rfl⟩:=zMS Y;obtain⟨b,ba,rfl,hb,_,_,rfl,rfl,_,_,rfl,rfl,rfl⟩:=ab;refine(xax b _ rfl (SqT.of hb) rfl _ _ rfl _ (xbx _ rfl rfl (ext2 rfl rfl) ?_));refine(xcg _ rfl _ rfl rfl _ rfl ?_);by_cases ac:pr.2=x
  ·refine iteKT (zDT (by rw[ac])) (jEA _ rfl (nxtG a8 U (jAEA rfl (zs++[pr.1]) (by rw[zAP];rfl) ⟨λz hz=>?_,by rw[zLA,List.length_singleton];omega⟩)))
   rcases zMA hz with hz |hz
   ·exact aa z hz
   ·rw[zMO hz,<- ac]
    exact zMG ao
  ·exact iteKF (zDF λz=>ac (V.str.inj z)) (nxtN a8 U (jAEA rfl zs rfl ⟨aa,by omega⟩))
 rintro ys H2 U ⟨rfl,zs,rfl,aa,be⟩ D hD;have sD:=Same.new hD (.lst (zs.map V.str));have t1:=ti.same sD;have F1:=(Fed.refl hf).same sD;have Df:D≠f':=Ne.symm (neN hf hD);refine d0 _ _ (xad λR2 cz=>?_);refine(xaa _ rfl f' p0 q0 _ rfl (sD _ _ hf) (by decide) (by decide) (λfm H1 m0 m1 f1=>?_));have t2:=t1.fed f1;have F2:=F1.trans f1;obtain⟨p2,q2,h2⟩:=t2.fd;have c6:=f1.1 _ _ ups Df;have zl:(zs.map V.str).length=zs.length:=zLM _;refine cz _ _ (xad λR3 cy=>?_);apply xqx
 ·intro ak
  refine(xbs _ rfl D _ rfl (.inl (SqL.of c6)) _ _ rfl rfl (jEA _ rfl (ite2 (λc1=>?_) (λc1=>?_))))
  ·refine(xa2 _ rfl _ _ rfl rfl _ rfl (ite2 (λc2=>?_) (λc2=>?_)))
   ·have ce:=of_decide_eq_true c1
    rw[zl]at ce;exact(xah _ rfl _ rfl f' D p2 (xas q2 zs rfl h2 c6 (List.length_pos_iff.mp (by omega)) (by omega) ⟨Df,λz t J hz fz rz=>q t (tBox z) J (F2.trans fz) rz ⟨xms (aa z hz),xmo (aa z hz) (by have:=(xff wf x).1;omega)⟩⟩))
   ·exact ak.go
  ·exact iteF ak.go
 refine cy _ _ (xad λR4 cx=>?_);refine(xay _ rfl _ rfl kv ks x rfl t2.kd (jAA wf ay (λH3 s3=>?_)));have t3:=t2.same s3;have F3:=F2.same s3;obtain⟨p3,q3,h3⟩:=t3.fd;have bt:=t3.bx;obtain⟨dh,b3,d5,af,an,d7⟩:=bt;cases d5;have bg:=an.length;rw[zLM]at bg;refine cx _ _ (xad λR5 c0=>?_);by_cases e3:fm=3
 ·refine(xao _ rfl rfl _ rfl (iteKT (zDT (by rw[e3])) ?_))
  apply xqx
  ·intro ak
   refine(xa2 _ rfl _ _ rfl rfl _ rfl (ite2 (λc2=>?_) (λc2=>iteF ak.go)));refine(jEA _ rfl (xa8 _ rfl _ _ rfl rfl (.inr ⟨by omega,by omega⟩) (xan _ _ rfl rfl _ _ rfl rfl _ ⟨rfl,ite2 (λc3=>?_) (λc3=>ak.go)⟩)));have c8:(0:Int)<(m:Int):=of_decide_eq_true c2;have de:2*smK ks x+1<l:=of_decide_eq_true c3;obtain⟨m',rfl⟩:∃m',m=m'+1:=⟨m-1,by omega⟩;have b9:(((m'+1:Nat):Int))-1=(m':Int):=by omega
   refine(xa2 _ rfl _ _ rfl rfl _ rfl (xb0 _ _ rfl rfl (.inr ⟨by omega,by omega⟩) (xat _ _ rfl rfl (xb0 _ _ rfl rfl ⟨by decide,by decide⟩ ?_))));have dc:0<=(l-2-2*smK ks x) / 3:=Int.ediv_nonneg (by omega) (by decide);refine(xbz _ rfl _ rfl _ rfl _ rfl _ (xao _ rfl rfl _ rfl (xat _ _ rfl rfl ?_)));refine(xa1 (7*m') (by omega) f' kv (.ref bl) ks (xag bs (S "num") (1+(l-2-2*smK ks x) / 3) m' 0 (xmf b9) rfl (by decide) (t3.down (by omega)) (by omega) (jAA (.inl rfl) (by rw[(xkt wf).1];omega) (λu1 d1 H5 f5 cc ah=>?_))));have t5:=t3.fed f5;refine(xa3 _ rfl _ rfl _ rfl _ rfl _ rfl (xa2 _ rfl _ _ rfl rfl _ rfl (xat _ _ rfl rfl ?_)));refine(xa1 (7*m'+j) (by omega) f' kv (.ref bl) ks (xag bs x (smK ks x+(l-2-2*smK ks x) / 3) m' j (xmf b9) rfl a1 (t5.down (by omega)) (by omega) (jAA a0 (by omega) (λu2 d2 H6 f6 cb a6=>?_))));have t6:=t5.fed f6;refine(xa3 _ rfl _ rfl _ rfl _ rfl _ rfl (xa9 _ rfl _ rfl _ rfl _ _ rfl rfl (xcs _ rfl _ _ rfl rfl ?_)));refine(xa1 (7*m'+j) (by omega) f' kv (.ref bl) ks (xag bs x (smK ks x+(l-2-2*smK ks x) / 3) m' j (xmf b9) rfl a1 (t6.down (by omega)) (by omega) (jAA a0 (by omega) (λu3 d3 H7 f7 ca bj=>⟨(by walk_at"s"),λt ht=>?_⟩))));have st:=Same.new ht (.tup [.str (S "if"),.ref u1,.ref u2,.ref u3])
   exact q _ (tIfD d1 d2 d3) _ ((((F3.trans f5).trans f6).trans f7).same st) (xan t _ rfl ups _ _ rfl rfl _ (xbj _ rfl (((cc.tups (xaj t5.fd f6) _).tups (xaj t6.fd f7) _).same st _) _ _ rfl ((cb.tups (xaj t6.fd f7) _).same st _) (xat _ _ rfl (ca.same st _) rfl))) ⟨TmB.le (xu9 wf (TmB.le ah.1 (by omega)) a6.1 bj.1) (by omega),xlo (n:=7*m'+j+2) (by omega) (.inr (.inr (.inr (.inr (.inr (.inr (xav _ _ _ _ _ (xbw _ (xlo (by omega) ah.2) a6.2 bj.2 (by omega) rfl))))))))⟩
  refine c0 _ _ (xad λR6 au=>?_);refine(xao _ rfl rfl _ rfl (iteKF (zDF λz=>absurd (V.int.inj z) (by omega)) (iteF ?_)));refine au _ _ (xad λR7 a2=>?_);refine(xao _ rfl rfl _ rfl (iteKF (zDF λz=>absurd (V.int.inj z) (by omega)) (iteF ?_)));refine a2 _ _ ?_;exact(xa3 _ rfl _ rfl _ rfl _ rfl _ rfl (xa1 _ rfl f' kv (.ref bl) ks (xag bs x l m j rfl ae a1 t3 m8 (jAA a0 M (λa d J fd ra Z=>q a d J (F3.trans fd) ra Z)))))
 refine(xao _ rfl rfl _ rfl (iteKF (zDF λz=>e3 (V.int.inj z)) (iteF ?_)));refine c0 _ _ (xad λR6 au=>?_);by_cases e4:fm=4
 ·refine(xao _ rfl rfl _ rfl (iteKT (zDT (by rw[e4])) ?_))
  refine(xa2 _ rfl _ _ rfl rfl _ rfl (ite2 (λc2=>?_) (λc2=>?_)))
  ·have c8:1<l:=of_decide_eq_true c2
   refine⟨(by walk_at"s"),λhd bp=>?_⟩;have s4:=Same.new bp (.lst []);refine(xba _ rfl bl rfl ⟨_,SqL.of (s4 _ _ af)⟩ ?_)
   refine xfk (xs:=b3) (λi σ J=>∃(Z:Addr) (ws:List V) (b7 b6 b5 b4:Option V),σ=[some (.ref f'),some kv,some (.ref bl),some (.str x),some (.int l),some (.int (m:Int)),some (.ref D),some (.int fm),some (.int (smK ks x)),none,none,none,some (.ref Z),b7,b6,b5,b4,none,none]/\Same H3 J/\J Z=some (.lst ws)/\Z≠f'/\(∀w∈ws,HdAt J ks bs x w)/\ws.length<=5*i)
    (xav hd ([]) none none none (xcv none rfl s4 ups (Ne.symm (neN h3 bp)) (λ_ h=>nomatch h) (Nat.zero_le _))) (λi σ J _ p=>?_) ?_ ?_
   ·obtain⟨_,_,_,_,_,_,_,sm,_⟩:=p
    exact SqL.of (sm _ _ af)
   ·rintro i vv σ H4 bf ⟨Z,ws,b7,b6,b5,b4,rfl,sm,am,bz,ar,cg⟩
    obtain⟨d',Y,ab⟩:=an.get bf;rw[zGM]at Y;obtain⟨pr,ao,rfl⟩:=zMS Y;obtain⟨b,ba,rfl,hb,_,_,rfl,rfl,_,_,rfl,rfl,rfl⟩:=ab;have aq:=zMG ao;have aj:i<b3.length:=(zES bf).1;refine(xax b _ rfl (SqT.of (sm _ _ hb)) rfl _ _ rfl _ (jEAA _ rfl rfl ?_));refine(xay _ rfl _ rfl kv ks pr.2 rfl ((wf.ksAt (t3.kd.same sm _)).seq) (λt bd H5 s5 ht rp=>?_));refine(xax t _ rfl (SqT.of ht) rfl _ _ rfl _ (jEAA _ rfl rfl ?_));obtain⟨ps,bc,h5,az,b1⟩:=xn3 wf (t3.kn pr aq) rp;obtain⟨a,us,rfl,ax,aw⟩:=bc;have hl:=aw.length;rw[zLM]at hl;refine(jEA _ rfl (xba _ rfl a rfl ⟨_,SqT.of ax⟩ ?_));refine xbv (xs:=us) (λi ys J=>Same H5 J/\(∀w∈ys,HdAt J ks bs x w)/\ys.length<=i) (jAA (Same.refl _) (λ_ h=>nomatch h) (Nat.le_refl _)) (xa4 (by omega)) (λi ys J _ p=>SqT.of (p.1 _ _ ax)) ?_ ?_
    ·rintro i2 y ys J hy a8 U ⟨ag,al,cf⟩
     obtain⟨d',Y,ab⟩:=aw.get hy;rw[zGM]at Y;obtain⟨pt,ck,rfl⟩:=zMS Y;obtain⟨b2,d8,rfl,cv,_,_,rfl,rfl,_,_,rfl,rfl,rfl⟩:=ab;refine(xax b2 _ rfl (SqT.of (ag _ _ cv)) rfl _ _ rfl _ (xbx _ rfl rfl (ext2 rfl rfl) ?_));refine(xao _ rfl rfl _ rfl ?_);by_cases hs:xft (kAt ks pr.2)=S "rec"
     ·refine iteKT (zDT (congrArg V.str hs)) ?_
      refine(xcg _ rfl _ rfl rfl _ rfl ?_);by_cases ac:pt.2=x
      ·refine iteKT (zDT (by rw[ac])) (xba _ rfl _ rfl (by walk_at"s") (λt2 a6=>nxtG a8 U (jAA (ag.trans (Same.new a6 _)) (λz hz=>?_) (by rw[zLA,List.length_singleton];omega))))
       rcases zMA hz with hz |hz
       ·exact(al z hz).tups λb us q=>Same.new a6 _ _ _ q
       ·obtain⟨k,hk,a7,co⟩:=az hs
        rw[zMO hz];exact(xag t2 pr.1 pt.1 pr.2 k rfl ups aq hk a7 (by rw[co,<- ac];exact zMG ck))
      ·exact iteKF (zDF λz=>ac (V.str.inj z)) (nxtN a8 U (jAA ag al (by omega)))
     ·exact iteKF (zDF λz=>hs (V.str.inj z)) (iteF (nxtN a8 U (jAA ag al (by omega))))
    ·rintro ys H6 U ⟨ag,al,cf⟩ D2 c5
     have bb:=Same.new c5 (.lst ys);have av:=s5.trans (ag.trans bb);refine(xbg Z D2 _ _ rfl rfl (av _ _ am) ups (fits (by omega)) (λl3 bo=>?_));have sl:=Same.new bo (.lst (ws++ys));refine(xav l3 (ws++ys) _ _ _ (xcv _ rfl (sm.trans (av.trans sl)) ups (Ne.symm (neN ((sm.trans av) _ _ h3) bo)) (λz hz=>?_) (by rw[zLA];omega)));rcases zMA hz with hz |hz
     ·exact(ar z hz).tups λb us q=>(av.trans sl) _ _ q
     ·exact(al z hz).tups λb us q=>(bb.trans sl) _ _ q
   ·rintro σ H4 ⟨Z,ws,b7,b6,b5,b4,rfl,sm,am,bz,ar,cg⟩
    have t4:=t3.same sm;have F4:=F3.same sm;refine(xbs _ rfl Z _ rfl (.inl (SqL.of am)) _ _ rfl rfl (jEA _ rfl (ite2 (λc3=>?_) (λc3=>?_))))
    ·have d9:=of_decide_eq_true c3
     refine(xa9 _ rfl _ rfl _ rfl Z _ rfl (.inl (SqL.of am)) (xap f' p3 q3 _ rfl (sm _ _ h3) (by omega) (by omega) (λr H6 r0 r1 f6=>?_)));obtain⟨i,rfl⟩:∃i:Nat,r=(i:Int):=⟨r.toNat,by omega⟩;have aj:i<ws.length:=by omega
     obtain⟨b,z,g,y,k,eb,hb,hz,hk,a7,hg⟩:=(ar ws[i] (List.getElem_mem aj)).tups (xaj t4.fd f6);have cw:atI ws (i:Int)=some (.ref b):=xak (by rw[zGA aj,eb]);refine(xbu Z _ _ _ rfl rfl (SqL.of (f6.1 _ _ am bz)) cw b (xbx _ rfl (SqT.of hb) rfl (jEEA _ _ rfl (xat _ _ rfl rfl ?_))));refine(jEAA _ rfl (by walk_at"s") (λt1 ah=>(jEAA _ rfl (by walk_at"s") (λt2 a6=>?_))));have y1:=Same.new ah (.tup [.str (S "box"),.str z]);have y2:=Same.new a6 (.tup [.str (S "get"),.ref t1,.str g]);exact q _ (tGet (tBox z) g) _ ((F4.trans f6).same (y1.trans y2)) (xan t2 _ rfl ups _ _ rfl rfl _ (xbj _ rfl (xan t1 _ rfl (y2 _ _ ups) _ _ rfl rfl _ (jEAA _ rfl rfl rfl)) _ _ rfl rfl rfl)) ⟨xtb (p:=(g,x)) wf hk a7 hg (xms hz),.inr (.inr (.inr (.inl (xdw _ _ 1 (xmo hz (by decide)) (by omega) (xji (p:=(g,x)) wf (zMF hk) hg) rfl))))⟩
    ·refine au _ _ (xad λR7 a2=>?_)
     refine(xao _ rfl rfl _ rfl (iteKF (zDF λz=>absurd (V.int.inj z) (by omega)) (iteF ?_)));refine a2 _ _ ?_;exact(xa3 _ rfl _ rfl _ rfl _ rfl _ rfl (xa1 _ rfl f' kv (.ref bl) ks (xag bs x l m j rfl ae a1 t4 m8 (jAA a0 M (λa d J fd ra Z=>q a d J (F4.trans fd) ra Z)))))
  ·refine au _ _ (xad λR7 a2=>?_)
   refine(xao _ rfl rfl _ rfl (iteKF (zDF λz=>absurd (V.int.inj z) (by omega)) (iteF ?_)));refine a2 _ _ ?_;exact(xa3 _ rfl _ rfl _ rfl _ rfl _ rfl (xa1 _ rfl f' kv (.ref bl) ks (xag bs x l m j rfl ae a1 t3 m8 (jAA a0 M (λa d J fd ra Z=>q a d J (F3.trans fd) ra Z)))))
 refine(xao _ rfl rfl _ rfl (iteKF (zDF λz=>e4 (V.int.inj z)) (iteF ?_)));refine au _ _ (xad λR7 a2=>?_);by_cases e5:fm=5
 ·refine(xao _ rfl rfl _ rfl (iteKT (zDT (by rw[e5])) ?_))
  refine(xa2 _ rfl _ _ rfl rfl _ rfl (ite2 (λc2=>?_) (λc2=>?_)))
  ·have c8:(0:Int)<(m:Int):=of_decide_eq_true c2
   refine(xba _ rfl bl rfl ⟨_,SqL.of af⟩ ?_);refine xgs (xs:=b3) (λi ys J=>Same H3 J/\∃zs:List Str,ys=zs.map V.str/\(∀z∈zs,TgOk ks bs z)/\zs.length<=i) (jAEA (Same.refl _) ([]) rfl ⟨(λ_ h=>nomatch h),Nat.le_refl _⟩) (xa4 (by omega)) (λi ys J _ p=>SqL.of (p.1 _ _ af)) ?_ ?_
   ·rintro i y ys J hy a8 U ⟨sm,zs,rfl,aa,be⟩
    obtain⟨d',Y,ab⟩:=an.get hy;rw[zGM]at Y;obtain⟨pr,ao,rfl⟩:=zMS Y;obtain⟨b,ba,rfl,hb,_,_,rfl,rfl,_,_,rfl,rfl,rfl⟩:=ab;have aq:=zMG ao;refine(xax b _ rfl (SqT.of (sm _ _ hb)) rfl _ _ rfl _ (xbx _ rfl rfl (ext2 rfl rfl) ?_));refine(xay _ rfl _ rfl kv ks pr.2 rfl ((wf.ksAt (t3.kd.same sm _)).seq) (λt bd H5 s5 ht rp=>(xbg t _ _ _ rfl rfl (SqT.of ht) rfl rfl (jEA _ rfl ?_))));obtain⟨ps,bc,h5,az,b1⟩:=xn3 wf (t3.kn pr aq) rp;by_cases hs:xft (kAt ks pr.2)=S "alt"
    ·refine iteKT (zDT (congrArg V.str hs)) (jEA _ rfl (nxtG a8 U (jAEA (sm.trans s5) (zs++[pr.1]) (by rw[zAP];rfl) ⟨λz hz=>?_,by rw[zLA,List.length_singleton];omega⟩)))
     rcases zMA hz with hz |hz
     ·exact aa z hz
     ·obtain⟨k,hk,a7,_⟩:=b1 hs
      rw[zMO hz];exact(xat pr.2 k aq hk a7)
    ·exact iteKF (zDF λz=>hs (V.str.inj z)) (nxtN a8 U (jAEA (sm.trans s5) zs rfl ⟨aa,by omega⟩))
   rintro ys H4 U ⟨sm,a5,rfl,ci,da⟩ G hG;have sG:=Same.new hG (.lst (a5.map V.str));have s4:=sm.trans sG;have t4:=t3.same s4;have F4:=F3.same s4;have Gf:G≠f':=Ne.symm (neN (sm _ _ h3) hG);have gl:(a5.map V.str).length=a5.length:=zLM _;refine(xbs _ rfl G _ rfl (.inl (SqL.of ups)) _ _ rfl rfl (jEA _ rfl (ite2 (λc3=>?_) (λc3=>?_))))
   ·have cp:=of_decide_eq_true c3
    rw[gl]at cp;refine(xa9 _ rfl _ rfl _ rfl G _ rfl (.inl (SqL.of ups)) (xap f' p3 q3 _ rfl (s4 _ _ h3) (by rw[gl];omega) (by rw[gl];omega) (λr H6 r0 r1 f6=>?_)));rw[gl]at r1;obtain⟨i,rfl⟩:∃i:Nat,r=(i:Int):=⟨r.toNat,by omega⟩;have aj:i<a5.length:=by omega
    obtain⟨y,k,b8,hk,a7⟩:=ci a5[i] (List.getElem_mem aj);have ai:=zMF hk;have t6:=t4.fed f6;have F6:=F4.trans f6;have br:=t6.bx;obtain⟨dg,c9,d4,bu,bh,d6⟩:=br;cases d4;refine(xap G _ _ (.str a5[i]) rfl rfl (SqL.of (f6.1 _ _ ups Gf)) (xak (by rw[zGM,zGA aj];rfl)) ?_);refine(xay _ rfl _ rfl bl c9 (bKV bs) rfl bu ⟨xfh bh,λp hp=>?_⟩);have sp:=Same.new hp (.dK (xbi [] (bKV bs)));have bq:=DGet.rd (H:=upd H6 p (.dK (xbi [] (bKV bs)))) (a:=p) (kvs:=xbi [] (bKV bs)) (k:=(Sum.inr a5[i]:Key)) (Or.inl ups);rw[xqh ti.nd b8]at bq;refine(xcs _ rfl p (.str y) rfl bq ?_);have t7:=t6.same sp;refine(xc2 kv ks y rfl ((wf.ksAt t7.kd).seq) (λt bd H8 s8 ht rp=>(xap t _ _ _ rfl rfl (SqT.of ht) rfl ?_)));have t8:=t7.same s8;have F8:=F6.same (sp.trans s8);rw[hk]at rp;have cd:=rp;obtain⟨a,us,rfl,ax,aw⟩:=rp;have hl:=aw.length;rw[zLM]at hl;have h5:=wf.pts k ai;refine(xa2 _ rfl _ _ rfl rfl _ rfl (xbs _ rfl a _ rfl (.inr (SqT.of ax)) _ _ rfl rfl (jAE (.inl ⟨by omega,by omega⟩) _ (xao _ rfl rfl _ rfl (ite2 (λc4=>?_) (λc4=>?_))))))
    ·have c7:smK ks x*(us.length:Int)<=l-2:=of_decide_eq_true c4
     rw[hl]at c7;obtain⟨m',rfl⟩:∃m',m=m'+1:=⟨m-1,by omega⟩;refine(jEAA _ rfl (by walk_at"s") (λt1 ah=>?_));have y1:=Same.new ah (.tup [.str (S "box"),.str a5[i]]);refine(xa3 _ rfl _ rfl _ rfl _ rfl _ rfl (xa2 _ rfl _ _ rfl rfl _ rfl (xa1 m' (by omega) f' kv (.ref bl) (.ref a) (xag ks bs k.parts x (l-2) rfl (t8.same y1) (by omega) (cd.same y1 _) (wf.alt k ai a7) (jAAA h5 (wf.pnd k ai) (λp hp=>xf3 wf ai hp) (jAAA (λp hp=>xji wf ai hp) ay c7 (λu rs H9 f9 ru b0 bm cm cj bn=>⟨(by walk_at"s"),λt2 a6=>?_⟩)))))));have y2:=Same.new a6 (.tup [.str (S "case"),.ref t1,u]);have cu:=xaj (t8.same y1).fd f9 _ _ ups;refine q _ (xi8 (tBox a5[i]) rs) _ (((F8.same y1).trans f9).same y2) (xan t2 _ rfl ups _ _ rfl rfl _ (xbj _ rfl (xan t1 _ rfl (y2 _ _ cu) _ _ rfl rfl _ (jEAA _ rfl rfl rfl)) _ _ rfl (ru.same y2 _) rfl)) ⟨TmB.le (xq9 wf hk a7 (xms b8) (by omega) cm b0 bm cj) (by omega),xlo (n:=7*m'+8) (by omega) (.inr (.inr (.inr (.inr (.inr (.inl (xap _ _ 1 ((l-2) / (k.parts.length:Int)) (xmo b8 (by decide)) bn ?_ ?_ rfl)))))))⟩
     ·exact Int.ediv_nonneg (by have:=(xff wf x).1;have:0<=smK ks x*(k.parts.length:Int):=Int.mul_nonneg (by omega) (by omega);omega) (by omega)
     ·have cl:(k.parts.length:Int)≠0:=λe=>wf.alt k ai a7 (List.length_eq_zero_iff.mp (by omega))
      have:=Int.mul_ediv_self_le (x:=l-2) (k:=(k.parts.length:Int)) cl;rw[b0];omega
    ·refine a2 _ _ ?_
     exact(xa3 _ rfl _ rfl _ rfl _ rfl _ rfl (xa1 _ rfl f' kv (.ref bl) ks (xag bs x l m j rfl ae a1 t8 m8 (jAA a0 M (λa d J fd ra Z=>q a d J (F8.trans fd) ra Z)))))
   ·refine a2 _ _ ?_
    exact(xa3 _ rfl _ rfl _ rfl _ rfl _ rfl (xa1 _ rfl f' kv (.ref bl) ks (xag bs x l m j rfl ae a1 t4 m8 (jAA a0 M (λa d J fd ra Z=>q a d J (F4.trans fd) ra Z)))))
  ·refine a2 _ _ ?_
   exact(xa3 _ rfl _ rfl _ rfl _ rfl _ rfl (xa1 _ rfl f' kv (.ref bl) ks (xag bs x l m j rfl ae a1 t3 m8 (jAA a0 M (λa d J fd ra Z=>q a d J (F3.trans fd) ra Z)))))
 refine(xao _ rfl rfl _ rfl (iteKF (zDF λz=>e5 (V.int.inj z)) (iteF ?_)));refine a2 _ _ ?_;exact(xa3 _ rfl _ rfl _ rfl _ rfl _ rfl (xa1 _ rfl f' kv (.ref bl) ks (xag bs x l m j rfl ae a1 t3 m8 (jAA a0 M (λa d J fd ra Z=>q a d J (F3.trans fd) ra Z)))))
theorem xq8(T:Tx K e):∀c,DefIs P w K e base (3*c+10) "_law_term" qah (spTw c):=by
 intro c
 induction c using Nat.strongRecOn with
 |_ c g=>
  have take:∀k,DefIs P w K e base (k+1) "_law_take" qad xcn:=λk=>xc8 T;have b:∀k,8<=k->DefIs P w K e base k "_law_small" qab (spSm smK 6):=λk j=>(xg3 T 6).mono j;have a:DefIs P w K e base (3*c+7) "_law_term" qah (xo3 c):=DefIs.anyP (Pr:=λf=>f<c) (sps:=spTw) T.kW λf h=>(g f h).mono (by omega);exact xpj (n:=3*c+9) T (take _) (xnr (n:=3*c+8) T (take _)) (b _ (by omega)) (xb7 T) (a.mono (by omega)) (DefIs.anyP (Pr:=λm=>7*m+6<c) (sps:=xjg) T.kT λm i=>xpp (n:=3*c+8) T i (take _) (a.mono (by omega))) (xgf (n:=3*c+8) T (xb7 T) (take _) (xe2 T (take _)) (b _ (by omega)) (a.mono (by omega)))
def xhv:Sp:=λvs H Q _=>∃(f:Addr) (kv bv:V) (ks:List Kn) (bs:List (Str×Str)) (x:Str),vs=[.ref f,kv,bv,.str x]/\TIn H f kv bv ks bs 3/\KIn ks 6 x/\∀a d H',Fed f H H'->RelD H' (.ref a) d->TmB ks 21 bs d x/\Tz 21 bs d (smK ks x+9)->Q (.ref a) H'
def spTC:Sp:=λvs H Q E=>∃c,c<=20/\spTw c vs H Q E
theorem xia (T:Tx K j) (e:DefIs P w K j base n "_law_take" qad xcn) (b:DefIs P w K j base n "_law_small" qab (spSm smK 6)) (c:DefIs P w K j base n "_law_term" qah spTC) :
  DefIs P w K j base (n+1) "_law_new_term" qam xhv:=by
 refine DefIs.of T.kX xh0 (by walk_at"l") (λf U A outer s H vs Q E l h=>?_);obtain⟨z,p,Y,ks,bs,x,rfl,i,g,q⟩:=h;refine(jEA _ (zpo (xaf (pd c l (va 0 (va 1 (va 2 (va 3 (pc (xam xbe (pd b l (va 1 (v1 3))) (pd e l (va 0 (pc pI pN so)))) (pc pI pN so) xa5)))))))) ?_);refine(xa3 _ rfl _ rfl _ rfl _ rfl _ rfl (jEA _ rfl (xaq p ks x rfl i.kd i.wf g (λH1 o=>?_))));have m:=i.same o;obtain⟨p0,q0,J⟩:=i.fd;obtain⟨I,G,M⟩:=m.fd;refine(xaa _ rfl z I G _ rfl M (by decide) (by decide) (λr H2 r0 r1 y=>?_));refine(xat _ _ rfl rfl (xa1 20 (Nat.le_refl _) z p Y ks (xag bs x _ 2 6 rfl rfl (by decide) (m.fed y) (by decide) (jAA g (by omega) (λa d Z O C u=>q a d Z ((((Fed.refl J).same o).trans y).trans O) C ⟨u.1,xmn _ _ _ _ _ (by omega) u.2⟩)))))
theorem xjz(T:Tx K a):DefIs P w K a base 80 "_law_new_term" qam xhv:=
 xia (n:=79) T (xc8 T) ((xg3 T 6).mono (by omega)) (DefIs.anyP (Pr:=λc=>c<=20) (sps:=spTw) T.kW λc b=>(xq8 T c).mono (by omega))
abbrev RW:=List Kn->En->D->D->Prop
def xdh(R:RW)(m:Nat):Sp:=λvs H Q _=>∃kv tv p ks d env val,vs=[kv,tv,.ref p]/\KsAt H kv ks/\RelD H tv d/\EnAt H p m env/\R ks env d val/\∀u H',Same H H'->RelD H' u val->Q u H'
def xht:Sp:=λvs H Q _=>∃s x y,vs=[.str s,.int x,.int y]/\Nm x/\Nm y/\Q (.int (opV s x y)) H
theorem xju(T:Tx K g):DefIs P w K g base (n+1) "op_worth" qa1 xht:=by
 refine DefIs.of T.kH xjk (by walk_at"l") (λf j A outer s H vs Q E p h=>?_);obtain⟨s,x,y,rfl,i,o,q⟩:=h
 refine⟨_,(zpn (xar (pR xa0 (pv 0) pS (nM _)) (zpo (xaf (xam xcd (xam xbe (pv 1) (pv 2)) (xdc T.uH)))) pQ)
   (zpn (xar (pR xa0 (pv 0) pS (nM _)) (zpo (xaf (xam xcd (xam xci (pv 1) (pv 2)) (xdc T.uH)))) pQ)
   (zpn (xar (pR xa0 (pv 0) pS (nM _)) (zpo (xaf (xam xcd (xam xdf (pv 1) (pv 2)) (xdc T.uH)))) pQ)
   (zpn (xar (pR xa0 (pv 0) pS (nM _)) (zpo (xaf (xg7 (pR xee (pv 1) (pv 2) (nM _)) pI pI))) pQ)
   (zpo (xaf (xg7 (pR xa0 (pv 1) (pv 2) (nM _)) pI pI))))))),?_⟩
 have pos:(0:Int)<4294967296:=by decide
 unfold opV at q;refine(xao _ rfl rfl _ rfl (ite2 (λc=>?_) (λc=>?_)))
 ·rw[if_pos (show s=S "+" from V.str.inj (of_decide_eq_true c))]at q
  exact(xbo _ rfl _ rfl _ _ rfl rfl _ (xbx _ rfl rfl pos q))
 rw[if_neg (show ¬s=S "+" from λz=>c (zDT (congrArg V.str z)))]at q;refine(xao _ rfl rfl _ rfl (ite2 (λc=>?_) (λc=>?_)))
 ·rw[if_pos (show s=S "-" from V.str.inj (of_decide_eq_true c))]at q
  exact(xbo _ rfl _ rfl _ _ rfl rfl _ (xbx _ rfl rfl pos q))
 rw[if_neg (show ¬s=S "-" from λz=>c (zDT (congrArg V.str z)))]at q;refine(xao _ rfl rfl _ rfl (ite2 (λc=>?_) (λc=>?_)))
 ·rw[if_pos (show s=S "*" from V.str.inj (of_decide_eq_true c))]at q
  obtain⟨m,l⟩:=i;exact(jEA _ rfl (xa8 _ rfl _ _ rfl rfl (.inl ⟨by omega,by omega⟩) (xb0 _ _ rfl rfl pos q)))
 rw[if_neg (show ¬s=S "*" from λz=>c (zDT (congrArg V.str z)))]at q;refine(xao _ rfl rfl _ rfl (ite2 (λc=>?_) (λc=>?_)))
 ·rw[if_pos (show s=S "<" from V.str.inj (of_decide_eq_true c))]at q
  refine(xcb _ rfl _ rfl _ _ rfl rfl _ rfl (ite2 (λe=>?_) (λe=>?_)))
  ·rw[if_pos (of_decide_eq_true e)]at q
   exact q
  ·rw[if_neg (λz=>e (zDT z))]at q
   exact q
 rw[if_neg (show ¬s=S "<" from λz=>c (zDT (congrArg V.str z)))]at q;refine(xcg _ rfl _ rfl rfl _ rfl (ite2 (λe=>?_) (λe=>?_)))
 ·rw[if_pos (V.int.inj (of_decide_eq_true e))]at q
  exact q
 ·rw[if_neg (λz=>e (zDT (congrArg V.int z)))]at q
  exact q
def xfp(m:Nat):Sp:=λvs H Q _=>∃p x v d env,vs=[.ref p,.str x,v]/\EnAt H p m env/\RelD H v d/\m<=1000/\∀p' H',Same H H'->EnAt H' p' (m+1) (env.put x d)->Q (.ref p') H'
def xvi:Sp:=λvs H Q _=>∃p x v,∃kvs:List (Key×V),vs=[.ref p,.str x,v]/\H p=some (.dK kvs)/\kvs.length<=2000/\∀p' H',Same H H'->H p'=none->H' p'=some (.dK (putK kvs (Sum.inr x) v))->Q (.ref p') H'
theorem xt9(T:Tx K b):DefIs P w K b base (n+1) "with_box" qar xvi:=by
 refine DefIs.of T.j3 sc_with_box (by walk_at"l") (λf j A outer s H vs Q E g h=>?_);obtain⟨p,x,v,kvs,rfl,i,l,q⟩:=h;have nd:=sc_with_box.nd;have e:=xe3 g
 refine⟨_,(zpn (psn 3 nd (xa7 xgw rfl T.uN PyProof.Rows.boot_dict (v1 0)))
   (zpn (xfu e (pv 3) (pv 1) (pv 2) rfl)
   (zpo (xaf (pv 3))))),?_⟩
 refine(xcs _ rfl p kvs rfl i (λc a=>?_));refine(xa9 _ rfl _ rfl _ rfl c _ rfl (DPut.k (k:=Sum.inr x) ups (xa4 (by omega))) (jEA _ rfl ?_));exact q c _ (Same.new2 a (.dK kvs) (.dK (putK kvs (Sum.inr x) v))) a ups
theorem xfx(T:Tx K c):DefIs P w K c base (n+1) "with_box" qar (xfp m):=(xt9 T).imp λvs H Q E h=>by
 obtain⟨p,x,v,d,env,rfl,⟨kvs,a,g,i⟩,e,l,q⟩:=h;exact(jEEE p x v (xbx kvs rfl a (by omega) (λb j s f h'=>q b j s (EnAt.put a g i s (e.same s _) h'))))
def xm5:Sp:=λvs H Q _=>∃kv vv ks k kn ws f i d,vs=[kv,vv,.str f]/\KsAt H kv ks/\RelD H vv (.tup [.str k,.tup ws])/\kAt ks k=some kn/\(kn.parts.map (·.1)).findIdx? (λz=>decide (z=f))=some i/\ws[i]?=some d/\∀u H',Same H H'->RelD H' u d->Q u H'
theorem xpr(T:Tx K Z)(a:DefIs P w K Z base n "parts_of" qac xco):DefIs P w K Z base (n+1) "field" qbe xm5:=by
 refine DefIs.of T.kF sc_field (by walk_at"l") (λf a4 A outer s H vs Q E hr h=>?_);obtain⟨kv,vv,ks,k,G,ws,f',i,d,rfl,hk,O,C,hi,hw,q⟩:=h;have nd:=sc_field.nd
 refine⟨_,(zpn (xcc (i:=3) ["part"] [none] rfl (by kernel_rfl) nd rfl (by walk_at"o") (xal (K:=K) rfl (pd a hr (va 0 (pc (px K (pv 1) pI) pN ss)))) (λ_ _ _ _=>(pgc 0)) (λ_ _ _ _=>xbq) (λ_ _ _ _=>(px K (pv 0) pI)))
   (zpo (xaf (px K (px K (pv 1) pI) (xep PySem.F.plainAttrs_list PySem.F.slot_list_index PySem.F.type_list_index xpv (pv 3) (v1 2)))))),?_⟩
 obtain⟨l,us,rfl,ha,_,_,rfl,rfl,vw,_,rfl,J,rfl⟩:=O;obtain⟨c,zs,rfl,hc,y⟩:=J;refine(xah _ rfl _ rfl l _ _ (xbw _ rfl rfl (SqT.of ha) rfl (xc2 _ ks k rfl hk (λu H1 s1 Y=>?_))));rw[C]at Y;obtain⟨e,ps,rfl,he,z⟩:=Y;have hl:=z.length;rw[zLM]at hl;have a2:G.parts.length<=100:=hk.2.2 G (zMF C);refine(jEAA e rfl ⟨_,SqT.of he⟩ ?_);refine xdb (j:=0) (xs:=ps) (λi ys I=>I=H1/\ys=((G.parts.take i).map (·.1)).map V.str) (by rfl) ⟨rfl,rfl⟩ (xa4 (by omega)) (λi ys I _ p=>by obtain⟨rfl,_⟩:=p;exact SqT.of he) ?_ ?_
 ·rintro i x ys I hx r ⟨rfl,rfl⟩
  obtain⟨d',g,o⟩:=z.get hx;rw[zGM]at g;obtain⟨pt,U,rfl⟩:=zMS g;obtain⟨b,a0,rfl,hb,_,_,rfl,rfl,_,_,rfl,rfl,rfl⟩:=o;have hi:i<ps.length:=(zES hx).1;refine(xaa _ rfl b _ _ _ rfl rfl (SqT.of hb) rfl (nxt hi r ⟨rfl,?_⟩));rw[zTA,U];simp
 ·rintro ys I r ⟨rfl,rfl⟩ D hD
  rw[zTL (by omega)];rw[zTL (by omega)]at r;have sD:=Same.new hD (.lst ((G.parts.map (·.1)).map V.str));have m:=s1.trans sD
  have M:∃v,zs[i]?=some v/\RelD H v d:=by
   have a3:i<ws.length:=(zES hw).1;have a1:=y.length;obtain⟨d',g,o⟩:=y.get (i:=i) (v:=zs[i]) (zGA (by omega));rw[hw]at g;cases g;exact(jEA (zs[i]) (zGA (by omega)) o)
  obtain⟨v,O,rv⟩:=M;refine(xaa _ rfl l _ _ _ rfl rfl (SqT.of (m _ _ ha)) rfl ?_);refine(xao _ rfl (.inl (jAE rfl _ (SqL.of ups))) _ rfl (xap D _ f' i rfl rfl ups hi ?_));exact(xap c _ _ v rfl rfl (SqT.of (m _ _ hc)) (xak O) (q _ _ m (rv.same m _)))
def xfr(R:RW)(m:Nat):Sp:=λvs H Q _=>∃kv tv p ks env a rs k t x y e val,vs=[kv,tv,.ref p]/\KsAt H kv ks/\RelD H tv (xi8 a rs)/\EnAt H p m env/\rs.length<=1000/\R ks env a (.tup [.str k,.str t,x])/\rs.find? (λr=>decide (r.1=t))=some (t,y,e)/\R ks (env.put y x) e val ∧
 ∀u H',Same H H'->RelD H' u val->Q u H'
theorem xhg(T:Tx K mg)(R:RW)(hm:m<=1000)(o:DefIs P w K mg base n "worth" qaa (xdh R (m+1)))(C:DefIs P w K mg base n "with_box" qar (xfp m)):DefIs P w K mg base (n+1) "case_worth" qaa (xfr R m):=by
 refine DefIs.of T.kI sc_case_worth (by walk_at"l") (λf a6 A outer s H vs Q E hr h=>?_);obtain⟨kv,tv,p,ks,env,a,rs,k,t,x,y,e,val,rfl,hk,hv,he,hl,h1,hf,h2,q⟩:=h;have nd:=sc_case_worth.nd
 refine⟨_,(zpn (psn 3 nd (pd o hr (va 0 (pc (px K (pv 1) pI) (v1 2) ss))))
   (zpn (psn 4 nd (pxl K (xbr ["each","value"] [none,some 3] rfl (by kernel_rfl) (xal (K:=K) rfl (px K (pv 1) pI)) (λ_ _ _ _=>(pgc 0)) (λ_ _ _ _=>(xdk (pR xa0 (px K (pv 0) pI) (px K (pv 1) pI) (nM _)))) (λ_ _ _ _=>(pv 0))) pI))
   (zpo (xaf (pd o hr (va 0 (pc (px K (pv 4) pI) (pc (pd C hr (va 2 (pc (px K (pv 4) pI) (pc (px K (pv 3) pI) pN ss) ss))) pN zsc) ss))))))),?_⟩
 obtain⟨b,us,rfl,hb,_,_,rfl,rfl,va,_,rfl,ra,vr,_,rfl,rr,rfl⟩:=hv;obtain⟨c,ws,rfl,hc,a0⟩:=rr;refine(xah _ rfl _ rfl b _ _ (xau _ rfl rfl (SqT.of hb) rfl _ rfl ?_));refine(xav _ _ _ ks _ (xas env _ rfl hk ra (he.mono (by omega)) h1 (λu H1 s1 r1=>?_)));obtain⟨g,zs,rfl,hg,_,_,rfl,rfl,_,_,rfl,rfl,vx,_,rfl,rx,rfl⟩:=r1;refine(xaa _ rfl b _ _ _ rfl rfl (SqT.of (s1 _ _ hb)) rfl (jEAA c rfl ⟨_,SqT.of (s1 _ _ hc)⟩ ?_));have a4:=a0.length;rw[zLM]at a4;refine xbv (xs:=ws) (λi ys H'=>H'=H1/\∃ds:List (Str×Str×D),ds=(rs.take i).filter (λr=>decide (r.1=t))/\RelDs H1 ys (ds.map dArm)) (jAEA rfl ([]) rfl rfl) (xa4 (by omega)) (λi ys H' _ p=>by obtain⟨rfl,_⟩:=p;exact SqT.of (s1 _ _ hc)) ?_ ?_
 ·rintro i z ys H' hz hi O ⟨rfl,ds,rfl,G⟩
  obtain⟨d,hd,rd⟩:=(a0.same s1 _).get hz;rw[zGM]at hd;obtain⟨r,a1,rfl⟩:=zMS hd;have a3:=rd;obtain⟨l,zs,rfl,U,_,_,rfl,rfl,_,_,rfl,rfl,_,_,rfl,re,rfl⟩:=rd;refine⟨xe5 rfl,?_⟩;refine(xaa _ rfl l _ _ _ rfl rfl (SqT.of U) rfl (xaa _ rfl g _ _ _ rfl rfl (SqT.of hg) rfl (jAEA rfl _ rfl (ite2 (λcc=>?_) (λcc=>?_)))))
  ·have ee:r.1=t:=V.str.inj (of_decide_eq_true cc)
   refine(jEA _ rfl (nxtG hi O (jAEA rfl _ rfl ?_)));rw[zTA,a1,List.filter_append,zAP];refine G.append ?_;simp only[Option.toList,List.filter_cons,zDT ee,if_true,List.filter_nil,List.map_cons,List.map_nil];exact(xat _ ([]) rfl a3 rfl)
  ·have ee:¬r.1=t:=λz=>cc (zDT (congrArg V.str z))
   refine nxtN hi O (jAEA rfl _ rfl ?_);rw[zTA,a1,List.filter_append,zAP];simp only[Option.toList,List.filter_cons,zDF ee,Bool.false_eq_true,if_false,List.filter_nil,List.map_nil,List.append_nil];exact G
 ·rintro ys H' O ⟨rfl,ds,rfl,G⟩ D hD
  rw[zTL (by omega)]at G;have hh:(rs.filter (λr=>decide (r.1=t))).head?=some (t,y,e):=by rw[List.head?_filter,hf]
  obtain⟨rest,M⟩:∃rest,rs.filter (λr=>decide (r.1=t))=(t,y,e)::rest:=by
   cases hq:rs.filter (λr=>decide (r.1=t)) with
   |nil=>rw[hq]at hh;cases hh
   |cons z zs=>rw[hq]at hh;exact⟨zs,by rw[Option.some.inj hh]⟩
  rw[M]at G;obtain⟨Y,I,rfl,r0,_⟩:=G;have Z:=Same.new hD (.lst (Y::I));refine(xap D _ 0 Y rfl rfl (SqL.of ups) (xak (j:=0) rfl) ?_);obtain⟨l,zs,rfl,U,_,_,rfl,rfl,_,_,rfl,rfl,ve,_,rfl,re,rfl⟩:=r0;have J:=s1.trans Z;have a2:SqT K (upd H' D (.lst (.ref l::I))) l [.str t,.str y,ve]:=SqT.of (Z _ _ U);refine(xah _ rfl _ rfl l _ _ (xau _ rfl rfl a2 rfl _ rfl (xaa _ rfl l _ _ _ rfl rfl a2 rfl (xaa _ rfl g _ _ _ rfl rfl (SqT.of (Z _ _ hg)) rfl ?_))));refine(xck p y vx x env rfl (he.same J) (rx.same Z _) hm (λp' H2 s2 a5=>?_));exact(xav _ _ _ ks _ (xas _ _ rfl (hk.same (J.trans s2)) (re.same (Z.trans s2) _) a5 h2 (λu H3 s3 r3=>q u H3 (J.trans (s2.trans s3)) r3)))
theorem xpq (T:Tx K mg) (R:RW) (g:DefIs P w K mg base n "worth" qaa (xdh R m)) (G:DefIs P w K mg base n "op_worth" qa1 xht)
  (Y:DefIs P w K mg base n "field" qbe xm5) (r:DefIs P w K mg base n "case_worth" qaa (xfr R m)) :
  DefIs P w K mg base (n+1) "worth" qaa (xdh (λks env d v=>xfc env d v\/NodeEv ks (R ks) env d v) m):=by
 refine DefIs.of T.kG sc_worth (by walk_at"l") (λf aa A outer s H vs Q E U h=>?_);obtain⟨kv,tv,p,ks,d,env,val,rfl,hk,O,he,hR,q⟩:=h;have nd:=sc_worth.nd;have hu:=xe3 U
 refine⟨_,(zpn (psn 3 nd (px K (pv 1) pI))
   (zpn (xar (pR xa0 (pv 3) pS (nM _)) (zpo (xaf (px K (pv 1) pI))) pQ)
   (zpn (xar (pR xa0 (pv 3) pS (nM _)) (zpo (xaf (xdr hu (pv 2) (px K (pv 1) pI) (λ_ _=>rfl)))) pQ)
   (zpn (xar (pR xa0 (pv 3) pS (nM _)) (zpo (xaf (pd G U (pc (px K (pv 1) pI) (pc (pd g U (va 0 (pc (px K (pv 1) pI) (v1 2) ss))) (pc (pd g U (va 0 (pc (px K (pv 1) pI) (v1 2) ss))) pN zsc) zsc) ss)))) pQ)
   (zpn (xar (pR xa0 (pv 3) pS (nM _)) (zpo (xaf (xa6 (pc (px K (pv 1) pI) (pc (xa7 (xbl (K:=K) rfl) rfl T.uY PyProof.Rows.boot_tuple (pc (xbr ["inner","kinds","boxes"] [none,some 0,some 2] rfl (by kernel_rfl) (xal (K:=K) rfl (px K (pv 1) pI)) (λ_ _ _ _=>(pgc 0)) (λ_ _ _ _=>xbq) (λ_ _ _ _=>(pd g U (va 1 (va 0 (v1 2)))))) pN xbp)) pN zsc) ss)))) pQ)
   (zpn (xar (pR xa0 (pv 3) pS (nM _)) (zpo (xaf (pd Y U (va 0 (pc (pd g U (va 0 (pc (px K (pv 1) pI) (v1 2) ss))) (pc (px K (pv 1) pI) pN ss) zsc))))) pQ)
   (zpn (xar (pR xa0 (pv 3) pS (nM _)) (zpo (xaf (xa6 (pc (px K (pv 1) pI) (pc (px K (pv 1) pI) (pc (pd g U (va 0 (pc (px K (pv 1) pI) (v1 2) ss))) pN zsc) ss) ss)))) pQ)
   (zpn (xar (pR xa0 (pv 3) pS (nM _)) (zpo (xaf (pd r U (va 0 (va 1 (v1 2)))))) pQ)
   (zpn (psn 4 nd (xg7 (pR xa0 (pd g U (va 0 (pc (px K (pv 1) pI) (v1 2) ss))) pI (nM _)) (px K (pv 1) pI) (px K (pv 1) pI)))
   (zpo (xaf (pd g U (va 0 (va 4 (v1 2))))))))))))))),?_⟩
 rcases hR with(⟨i,rfl,rfl⟩ |⟨x,hx,rfl⟩) |⟨sg,a,b,x,y,M,h2,nx,ny,rfl,rfl⟩ |⟨k,es,ws,hl,M,rfl,rfl⟩ |⟨a,k,ws,f',kn,i,M,a8,hi,hw,rfl⟩ |⟨k,t,a,x,M,rfl,rfl⟩ |⟨a,rs,k,t,x,y,e,hl,M,hf,h2,rfl⟩ |⟨a,b,c,x,M,h2,rfl⟩
 ·obtain⟨a,us,rfl,C,_,_,rfl,rfl,_,_,rfl,rfl,rfl⟩:=O
  have hS:SqT K H a [.str (S "num"),.int i]:=SqT.of C;walk_at"rd";exact q _ _ (Same.refl _) rfl
 ·obtain⟨a,us,rfl,C,_,_,rfl,rfl,_,_,rfl,rfl,rfl⟩:=O
  have hS:SqT K H a [.str (S "box"),.str x]:=SqT.of C;obtain⟨kvs,hp,hl,hh⟩:=he;obtain⟨v,O,rv⟩:=(hh x).2 _ hx;walk_at"rd";exact(xat p v rfl (O ▸ DGet.k (k:=Sum.inr x) hp) (q _ _ (Same.refl _) rv))
 ·obtain⟨l,us,rfl,C,_,_,rfl,rfl,_,_,rfl,rfl,va,_,rfl,Z,vb,_,rfl,rb,rfl⟩:=O
  have hS:SqT K H l [.str (S "op"),.str sg,va,vb]:=SqT.of C;walk_at"rd";refine(xav _ _ _ ks _ (xas env _ rfl hk Z he M (λu H1 o r1=>?_)));obtain rfl:u=.int x:=r1;have J:SqT K H1 l [.str (S "op"),.str sg,va,vb]:=SqT.of (o _ _ C);refine(xah _ rfl _ rfl l _ _ (xau _ rfl rfl J rfl _ rfl ?_));refine(xav _ _ _ ks _ (xas env _ rfl (hk.same o) (rb.same o _) (he.same o) h2 (λu H2 I r2=>?_)));obtain rfl:u=.int y:=r2;exact(xdw sg x y rfl nx ny (q _ _ (o.trans I) rfl))
 ·obtain⟨l,us,rfl,C,_,_,rfl,rfl,_,_,rfl,rfl,va,_,rfl,Z,rfl⟩:=O
  obtain⟨c,a2,rfl,hc,a3⟩:=Z;have hS:SqT K H l [.str (S "rec"),.str k,.ref c]:=SqT.of C;walk_at"rd";refine⟨⟨_,SqT.of hc⟩,?_⟩;have l1:=a3.length;have l2:=M.length;refine xdb (j:=0) (xs:=a2) (λi ys H'=>Same H H'/\RelDs H' ys (ws.take i)) (by rfl) ⟨Same.refl _,rfl⟩ (xa4 (by omega)) (λi ys H' _ p=>SqT.of (p.1 _ _ hc)) ?_ ?_
  ·rintro i x ys H' hx a4 ⟨sm,a0⟩
   obtain⟨d',a9,a6⟩:=a3.get hx;obtain⟨v',a1,a5⟩:=M.get a9;have hi:i<a2.length:=(zES hx).1;refine(xbf _ rfl _ rfl _ rfl _ _ (xag _ ks _ env _ rfl (hk.same sm) (a6.same sm _) (he.same sm) a5 (λu H2 I r2=>nxt hi a4 ⟨sm.trans I,?_⟩)));rw[zTA,a1];exact(a0.same I _).append (xat u ([]) rfl r2 rfl)
  ·rintro ys H' a4 ⟨sm,a0⟩ D hD
   rw[zTL (by omega)]at a0;refine(jEEA D ys rfl (.inl ⟨SqL.of ups,λl' a7=>?_⟩));have o:=Same.new hD (.lst ys);have I:=Same.new a7 (.tup ys);refine⟨(by walk_at"s"),λt ht=>?_⟩;have s3:=Same.new ht (.tup [.str k,.ref l']);exact q _ _ (sm.trans (o.trans (I.trans s3))) (xan t _ rfl ups _ _ rfl rfl _ (jEAA _ rfl (xat l' ys rfl (s3 _ _ ups) (a0.same (o.trans (I.trans s3)) _)) rfl))
 ·obtain⟨l,us,rfl,C,_,_,rfl,rfl,va,_,rfl,Z,_,_,rfl,rfl,rfl⟩:=O
  have hS:SqT K H l [.str (S "get"),va,.str f']:=SqT.of C;walk_at"rd";refine(xav _ _ _ ks _ (xas env _ rfl hk Z he M (λu H1 o r1=>?_)));have J:SqT K H1 l [.str (S "get"),va,.str f']:=SqT.of (o _ _ C);refine(xaa _ rfl l _ _ _ rfl rfl J rfl ?_);exact(xav _ _ ks k kn (xca ws f' i val rfl (hk.same o) r1 a8 hi hw (λu H2 I r2=>q _ _ (o.trans I) r2)))
 ·obtain⟨l,us,rfl,C,_,_,rfl,rfl,_,_,rfl,rfl,_,_,rfl,rfl,va,_,rfl,Z,rfl⟩:=O
  have hS:SqT K H l [.str (S "tag"),.str k,.str t,va]:=SqT.of C;walk_at"rd";refine(xav _ _ _ ks _ (xas env _ rfl hk Z he M (λu H1 o r1=>?_)));refine⟨(by walk_at"s"),λc hc=>?_⟩;have I:=Same.new hc (.tup [.str k,.str t,u]);exact q _ _ (o.trans I) (xan c _ rfl ups _ _ rfl rfl _ (xbj _ rfl rfl _ _ rfl (r1.same I _) rfl))
 ·have a1:=O
  obtain⟨l,us,rfl,C,_,_,rfl,rfl,va,_,rfl,Z,vr,_,rfl,rr,rfl⟩:=O;have hS:SqT K H l [.str (S "case"),va,vr]:=SqT.of C;walk_at"rd";exact(xav _ _ p ks env (xav a rs k t x (xaq y e val rfl hk a1 he (jAAA hl M hf ⟨h2,q⟩))))
 ·obtain⟨l,us,rfl,C,_,_,rfl,rfl,va,_,rfl,Z,vb,_,rfl,rb,vc,_,rfl,rc,rfl⟩:=O
  have hS:SqT K H l [.str (S "if"),va,vb,vc]:=SqT.of C;walk_at"rd";refine(xav _ _ _ ks _ (xas env _ rfl hk Z he M (λu H1 o r1=>?_)));obtain rfl:u=.int x:=r1;have J:SqT K H1 l [.str (S "if"),va,vb,vc]:=SqT.of (o _ _ C);refine(jAEA rfl _ rfl (ite2 (λc'=>?_) (λc'=>?_)))
  ·have e:x=0:=V.int.inj (of_decide_eq_true c')
   rw[if_pos e]at h2;refine(xaa _ rfl l _ _ _ rfl rfl J rfl (jEA _ rfl (jEA _ rfl (jEA _ rfl ?_))));exact(xav _ _ _ ks _ (xas env _ rfl (hk.same o) (rc.same o _) (he.same o) h2 (λu H2 I r2=>q _ _ (o.trans I) r2)))
  ·have e:¬x=0:=λz=>c' (zDT (congrArg V.int z))
   rw[if_neg e]at h2;refine(xaa _ rfl l _ _ _ rfl rfl J rfl (jEA _ rfl (jEA _ rfl (jEA _ rfl ?_))));exact(xav _ _ _ ks _ (xas env _ rfl (hk.same o) (rb.same o _) (he.same o) h2 (λu H2 I r2=>q _ _ (o.trans I) r2)))
theorem xgh(T:Tx K a)(R:RW)(e:m<=1000)(D:DefIs P w K a base (n+1) "worth" qaa (xdh R (m+1))):DefIs P w K a base (n+3) "worth" qaa (xdh (λks env d v=>xfc env d v\/NodeEv ks (R ks) env d v) m):=by
 have o:DefIs P w K a base (n+1) "worth" qaa (xdh R m):=D.imp (by
  rintro vs H Q E ⟨c,b,p,ks,d,env,val,l,j,i,h,g,f⟩;exact(xav c b p ks d (xas env val l j i (h.mono (by omega)) g f)))
 exact xpq T R (o.mono (by omega)) (xju T) (xpr T (xb8 T)) (xhg T R e D (xfx T))
theorem xkk(T:Tx K b):∀n m,n+m<=1000->DefIs P w K b base (2*n+3) "worth" qaa (xdh (λks=>Ev ks n) m)
 | 0,m,h=>by
  refine(xgh (P:=P) (w:=w) (base:=base) (n:=0) (m:=m) T (λ_ _ _ _=>False) (by omega) (DefIs.none T.kG ?_)).imp ?_
  ·rintro vs H Q E ⟨_,_,_,_,_,_,_,_,_,_,_,h,_⟩
   exact h
  ·rintro vs H Q E ⟨c,a,p,ks,d,env,k,l,j,i,g,f,e⟩
   exact(xav c a p ks d (xas env k l j i g (.inl f) e))
 |n+1,m,h=>xgh (n:=2*n+2) (m:=m) T (λks=>Ev ks n) (by omega) (xkk T n (m+1) (by omega))
abbrev RK:=List Kn->En->D->Str->Prop
def xbd(R:RK)(m:Nat):Sp:=λvs H Q _=>∃kv tv p ks d env k,vs=[kv,tv,.ref p]/\KsAt H kv ks/\RelD H tv d/\EnAt H p m env/\R ks env d k/\∀H',Same H H'->Q (.str k) H'
def xct(R:RK)(m:Nat):Sp:=λvs H Q _=>∃kv tv p ks d env k,vs=[kv,tv,.ref p,.str k]/\KsAt H kv ks/\RelD H tv d/\EnAt H p m env/\R ks env d k/\∀H',Same H H'->Q .non H'
def xdd:Sp:=λvs H Q _=>∃k,vs=[.str k,.str k]/\Q .non H
def xey:Sp:=λvs H Q _=>∃kv ks k kn,vs=[kv,.str k,.str kn.sort]/\KsAt H kv ks/\kAt ks k=some kn/\Q .non H
def xe0(R:RK)(m:Nat):Sp:=λvs H Q _=>∃kv tv p ks d env k kn,vs=[kv,tv,.ref p,.str kn.sort]/\KsAt H kv ks/\RelD H tv d/\EnAt H p m env/\R ks env d k/\kAt ks k=some kn/\∀H',Same H H'->Q (.str k) H'
def xdz:Sp:=λvs H Q _=>∃kv ks k kn f k2,vs=[kv,.str k,.str f]/\KsAt H kv ks/\kAt ks k=some kn/\xc7 kn f=some k2/\∀H',Same H H'->Q (.str k2) H'
def xhu:Sp:=λvs H Q _=>∃i,vs=[.int i]/\Nm i/\Q (.str (S "num")) H
def xfs(m:Nat):Sp:=λvs H Q _=>∃x p env k,vs=[.str x,.ref p]/\EnAt H p m env/\env x=some (.str k)/\Q (.str k) H
theorem xc9(T:Tx K a):DefIs P w K a base (n+1) "need_same" qal xdd:=by
 refine DefIs.of T.jY xh1 (by walk_at"l") (λf b A outer s H vs Q E c h=>?_);obtain⟨k,rfl,q⟩:=h;refine(jEA _ (zpo (xar (pR xe1 (pv 0) (pv 1) (nM _)) (zpo xbh) pQ)) ?_);refine(xcg _ rfl _ rfl rfl _ rfl (xpz rfl ?_));exact q
theorem xfa(T:Tx K c)(R:RK)(b:DefIs P w K c base n "kind_of" qaa (xbd R m))(a:DefIs P w K c base n "need_same" qal xdd):DefIs P w K c base (n+1) "need_kind" qai (xct R m):=by
 refine DefIs.of T.jX xh3 (by walk_at"l") (λf r A outer s H vs Q E e h=>?_);obtain⟨y,x,p,ks,d,env,k,rfl,j,i,l,o,q⟩:=h;refine(jEA _ (zpo (xaz (pd a e (pc (pd b e (va 0 (va 1 (v1 2)))) (v1 3) zsc)))) ?_);refine(xbf _ rfl _ rfl _ rfl _ _ (xag _ ks d env k rfl j i l o (λu g=>?_)));exact(jEA _ rfl (jEA k rfl (q u g)))
theorem xif(T:Tx K c)(a:DefIs P w K c base n "sort_of" qac xdi):DefIs P w K c base (n+1) "need_sort" qav xey:=by
 refine DefIs.of T.jZ sc_need_sort (by walk_at"l") (λf i A outer s H vs Q E e h=>?_);obtain⟨j,ks,k,l,rfl,g,b,q⟩:=h;have nd:=sc_need_sort.nd
 refine⟨_,(zpn (psn 3 nd (pd a e (va 0 (v1 1))))
   (zpn (xar (pR xk3 (pv 3) xgo (nM _)) (zpo xbh) pQ)
   (zpo (xar (pR xe1 (pv 3) (pv 2) (nM _)) (zpo xbh) pQ)))),?_⟩
 refine(xay _ rfl _ rfl _ ks k rfl g ?_);rw[b];refine(xao _ rfl rfl _ rfl (iteKF (zDF (λz=>by cases z)) ?_));exact(xcg _ rfl _ rfl rfl _ rfl (xpz rfl q))
theorem xdu(T:Tx K c)(R:RK)(b:DefIs P w K c base n "kind_of" qaa (xbd R m))(a:DefIs P w K c base n "sort_of" qac xdi):DefIs P w K c base (n+1) "kind_of_sort" qaw (xe0 R m):=by
 refine DefIs.of T.j0 sc_kind_of_sort (by walk_at"l") (λf u A outer s H vs Q E i h=>?_);obtain⟨z,y,p,ks,d,env,k,C,rfl,j,l,o,r,e,q⟩:=h;have nd:=sc_kind_of_sort.nd
 refine⟨_,(zpn (psn 4 nd (pd b i (va 0 (va 1 (v1 2)))))
   (zpn (xar (pR xe1 (pd a i (va 0 (v1 4))) (pv 3) (nM _)) (zpo xbh) pQ)
   (zpo (xaf (pv 4))))),?_⟩
 refine(xbf _ rfl _ rfl _ rfl _ _ (xag _ ks d env k rfl j l o r (λx g=>?_)));refine(xay _ rfl _ rfl _ ks k rfl (j.same g) ?_);rw[e];exact(xao _ rfl rfl _ rfl (xpz rfl (jEA _ rfl (q x g))))
theorem xe9(T:Tx K G)(a:DefIs P w K G base n "parts_of" qac xco):DefIs P w K G base (n+1) "part_kind" qaq xdz:=by
 refine DefIs.of T.j1 sc_part_kind (by walk_at"l") (λf a0 A outer s H vs Q E hr h=>?_);obtain⟨U,ks,k,Y,m,k2,rfl,hk,x,hp,q⟩:=h;have nd:=sc_part_kind.nd
 refine⟨_,(zpn (xbt PassesOwn.never rfl (xal (K:=K) rfl (pd a hr (va 0 (v1 1)))) (pgn 3 nd)
   (zpo (xar (pR xa0 (px K (pv 3) pI) (pv 2) (nM _)) (zpo (xaf (px K (pv 3) pI))) pQ)))
   (zpo xbh)),?_⟩
 refine(xay _ rfl _ rfl _ ks k rfl hk (λu H1 O C=>?_));rw[x]at C;obtain⟨e,ps,rfl,I,j⟩:=C;have hl:=j.length;rw[zLM]at hl;refine(jEAA e rfl ⟨_,SqT.of I⟩ ?_);obtain⟨pt,g,rfl⟩:=zMS hp;refine xb3 (xs:=ps) (λi σ o=>∃r,σ=[some U,some (.str k),some (.str m),r]/\o=H1/\(Y.parts.take i).find? (λp=>decide (p.1=m))=none) (jEAA none rfl rfl rfl) (λi σ o _ p=>?_) ?_ ?_
 ·obtain⟨_,_,rfl,_⟩:=p
  exact SqT.of I
 ·rintro i v σ o Z ⟨r,rfl,rfl,hn⟩
  obtain⟨d,hd,rd⟩:=j.get Z;rw[zGM]at hd;obtain⟨p,l,rfl⟩:=zMS hd;obtain⟨b,ws,rfl,J,_,_,rfl,rfl,_,_,rfl,rfl,rfl⟩:=rd;refine(xaa _ rfl b _ _ _ rfl rfl (SqT.of J) rfl (xao _ rfl rfl _ rfl (ite2 (λc=>?_) (λc=>?_))))
  ·have y:p.1=m:=V.str.inj (of_decide_eq_true c)
   have M:=(xce hn l).1 (zDT y);rw[g]at M;cases M;exact(xaa _ rfl b _ _ _ rfl rfl (SqT.of J) rfl (q _ O))
  ·have y:¬p.1=m:=λz=>c (zDT (congrArg V.str z))
   exact(jEAA _ rfl rfl ((xce hn l).2 (zDF y)))
 ·rintro σ o ⟨r,rfl,rfl,hn⟩
  rw[zTL (by omega),g]at hn;cases hn
theorem xjv(T:Tx K a):DefIs P w K a base (n+1) "num_kind" ["n"] xhu:=by
 refine DefIs.of T.jO xjl (by walk_at"l") (λf c A outer s H vs Q E e h=>?_);obtain⟨i,rfl,⟨h0,b⟩,q⟩:=h
 refine⟨_,(zpn (xar (xh4 (xkx xrz xee pI (pv 0) (xdc T.uH))) (zpo xbh) pQ)
   (zpo (xaf pS))),?_⟩
 refine(xa2 _ rfl _ _ rfl rfl _ rfl (iteKT (zDT h0) (xat _ _ rfl rfl (jEA _ rfl ?_))));rw[zDT b];exact q
theorem xfz(T:Tx K c):DefIs P w K c base (n+1) "box_kind" qap (xfs m):=by
 refine DefIs.of T.jP xjm (by walk_at"l") (λf r A outer s H vs Q E j h=>?_);obtain⟨x,p,env,k,rfl,⟨kvs,l,u,o⟩,e,q⟩:=h;have a:=xe3 j
 refine⟨_,(zpn (xar (xkw (xh6 a (pv 0) (pv 1))) (zpo xbh) pQ)
   (zpo (xaf (xdr a (pv 1) (pv 0) (λ_ _=>rfl))))),?_⟩
 obtain⟨v,i,b⟩:=(o x).2 _ e;obtain rfl:v=.str k:=b;have g:DGet H p (.str x) (some (.str k)):=i ▸ DGet.k (k:=Sum.inr x) l;refine(xcb _ rfl _ rfl p _ rfl g _ rfl (iteF ?_));exact(jEA _ rfl (xcs _ rfl p _ rfl g q))
theorem xl1 (T:Tx K g) (R:RK) (c:DefIs P w K g base n "need_kind" qai (xct R m)) :
  DefIs P w K g base (n+1) "op_kind" qaa (xbd (λks=>OpKd (R ks)) m):=by
 refine DefIs.of T.jQ xlu (by walk_at"l") (λf I A outer s H vs Q E i h=>?_);obtain⟨Y,O,p,ks,d,env,k,rfl,j,z,o,⟨U,a,b,G,C,rfl,rfl⟩,q⟩:=h
 refine⟨_,(zpn (xaz (pd c i (va 0 (pc (px K (pv 1) pI) (va 2 (pc pS pN so)) ss))))
   (zpn (xaz (pd c i (va 0 (pc (px K (pv 1) pI) (va 2 (pc pS pN so)) ss))))
   (zpo (xaf pS)))),?_⟩
 obtain⟨l,us,rfl,r,_,_,rfl,rfl,_,_,rfl,rfl,va,_,rfl,y,M,_,rfl,x,rfl⟩:=z;refine(xah _ rfl _ rfl l _ _ (xau _ rfl rfl (SqT.of r) rfl _ rfl ?_));refine(xav _ _ _ ks _ (xas env _ rfl j y o G (λZ e=>?_)));refine(xah _ rfl _ rfl l _ _ (xau _ rfl rfl (SqT.of (e _ _ r)) rfl _ rfl ?_));exact(xav _ _ _ ks _ (xas env _ rfl (j.same e) (x.same e _) (o.same e) C (λJ u=>q J (e.trans u))))
theorem xl3 (T:Tx K o) (R:RK) (g:DefIs P w K o base n "kind_of" qaa (xbd R m)) (e:DefIs P w K o base n "need_kind" qai (xct R m)) :
  DefIs P w K o base (n+1) "if_kind" qaa (xbd (λks=>IfKd (R ks)) m):=by
 refine DefIs.of T.jW sc_if_kind (by walk_at"l") (λf Z A outer s H vs Q E r h=>?_);obtain⟨kv,tv,p,ks,d,env,k,rfl,u,M,x,⟨a,b,c,Y,U,O,rfl⟩,q⟩:=h;have nd:=sc_if_kind.nd
 refine⟨_,(zpn (xaz (pd e r (va 0 (pc (px K (pv 1) pI) (va 2 (pc pS pN so)) ss))))
   (zpn (psn 3 nd (pd g r (va 0 (pc (px K (pv 1) pI) (v1 2) ss))))
   (zpn (xaz (pd e r (va 0 (pc (px K (pv 1) pI) (va 2 (v1 3)) ss))))
   (zpo (xaf (pv 3)))))),?_⟩
 obtain⟨l,us,rfl,y,_,_,rfl,rfl,va,_,rfl,J,vb,_,rfl,I,vc,_,rfl,G,rfl⟩:=M;refine(xah _ rfl _ rfl l _ _ (xau _ rfl rfl (SqT.of y) rfl _ rfl ?_));refine(xav _ _ _ ks _ (xas env _ rfl u J x Y (λH1 j=>?_)));refine(xah _ rfl _ rfl l _ _ (xau _ rfl rfl (SqT.of (j _ _ y)) rfl _ rfl ?_));refine(xav _ _ _ ks _ (xas env _ rfl (u.same j) (I.same j _) (x.same j) U (λH2 C=>?_)));have i:=j.trans C;refine(xah _ rfl _ rfl l _ _ (xau _ rfl rfl (SqT.of (i _ _ y)) rfl _ rfl (jEA _ rfl ?_)));exact(xav _ _ _ ks _ (xas env _ rfl (u.same i) (G.same i _) (x.same i) O (λH3 z=>(jEA _ rfl (q H3 (i.trans z))))))
theorem xjx (T:Tx K g) (R:RK) (b:DefIs P w K g base n "kind_of_sort" qaw (xe0 R m)) (c:DefIs P w K g base n "part_kind" qaq xdz) :
  DefIs P w K g base (n+1) "get_kind" qaa (xbd (λks=>xsx ks (R ks)) m):=by
 refine DefIs.of T.jS sc_get_kind (by walk_at"l") (λf U A outer s H vs Q E o h=>?_);obtain⟨kv,Z,p,ks,d,env,k,rfl,r,C,G,⟨a,j,O,i,M,x,J,I,rfl⟩,q⟩:=h;have nd:=sc_get_kind.nd
 refine⟨_,(zpn (psn 3 nd (pd b o (va 0 (pc (px K (pv 1) pI) (va 2 (pc pS pN so)) ss))))
   (zpo (xaf (pd c o (va 0 (va 3 (pc (px K (pv 1) pI) pN ss))))))),?_⟩
 have hs:i.sort=S "rec":=by unfold Kn.sort;rw[if_pos J]
 obtain⟨l,us,rfl,u,_,_,rfl,rfl,va,_,rfl,z,_,_,rfl,rfl,rfl⟩:=C;refine(xah _ rfl _ rfl l _ _ (xau _ rfl rfl (SqT.of u) rfl _ rfl ?_));refine(xav _ _ _ ks _ (xaq env j i (by rw[hs];rfl) r z G (jAA M x (λH1 e=>?_))));refine(xbf _ rfl _ rfl _ rfl l _ (xbk _ _ rfl rfl (SqT.of (e _ _ u)) rfl ?_));exact(xav _ ks j i O (xbw k rfl (r.same e) x I (λY y=>q Y (e.trans y))))
theorem xjq (T:Tx K i) (R:RK) (c:DefIs P w K i base n "need_sort" qav xey) (e:DefIs P w K i base n "need_kind" qai (xct R m)) (b:DefIs P w K i base n "part_kind" qaq xdz) :
  DefIs P w K i base (n+1) "tag_kind" qaa (xbd (λks=>xsv ks (R ks)) m):=by
 refine DefIs.of T.jT sc_tag_kind (by walk_at"l") (λf Y A outer s H vs Q E o h=>?_);obtain⟨kv,tv,p,ks,d,env,k,rfl,r,G,I,⟨t,a,j,x,y,U,O,M,rfl⟩,q⟩:=h;have nd:=sc_tag_kind.nd
 refine⟨_,(zpn (psn 3 nd (px K (pv 1) pI))
   (zpn (xaz (pd c o (va 0 (va 3 (pc pS pN so)))))
   (zpn (xaz (pd e o (va 0 (pc (px K (pv 1) pI) (va 2 (pc (pd b o (va 0 (va 3 (pc (px K (pv 1) pI) pN ss)))) pN zsc)) ss))))
   (zpo (xaf (pv 3)))))),?_⟩
 have hs:j.sort=S "alt":=by unfold Kn.sort;rw[if_neg (by rw[U];decide)]
 obtain⟨l,us,rfl,J,_,_,rfl,rfl,_,_,rfl,rfl,_,_,rfl,rfl,va,_,rfl,C,rfl⟩:=G;have u:SqT K H l [.str (S "tag"),.str k,.str t,va]:=SqT.of J;refine(xaa _ rfl l _ _ _ rfl rfl u rfl ?_);refine(xah _ rfl _ rfl _ ks k (xbx j (by rw[hs];rfl) r y ?_));refine(xah _ rfl _ rfl l _ _ (xau _ rfl rfl u rfl _ rfl (xbf _ rfl _ rfl _ rfl l _ (xbk _ _ rfl rfl u rfl ?_))));refine(xav _ ks k j t (xbw x rfl r y O (λH1 g=>?_)));exact(xav _ _ _ ks _ (xas env x rfl (r.same g) (C.same g _) (I.same g) M (λZ z=>(jEA _ rfl (q Z (g.trans z))))))
theorem xjs (T:Tx K Y) (R:RK) (a:DefIs P w K Y base n "need_sort" qav xey) (g:DefIs P w K Y base n "need_kind" qai (xct R m)) (j:DefIs P w K Y base n "parts_of" qac xco) :
  DefIs P w K Y base (n+1) "rec_kind" qaa (xbd (λks=>xsw ks (R ks)) m):=by
 refine DefIs.of T.jR sc_rec_kind (by walk_at"l") (λf a6 A outer s H vs Q E hr h=>?_);obtain⟨kv,tv,p,ks,d,env,k,rfl,hk,hv,he,⟨es,kn,h1,h2,h3,rfl⟩,q⟩:=h;have nd:=sc_rec_kind.nd
 refine⟨_,(zpn (psn 3 nd (px K (pv 1) pI))
   (zpn (xaz (pd a hr (va 0 (va 3 (pc pS pN so)))))
   (zpn (psn 4 nd (pd j hr (va 0 (v1 3))))
   (zpn (xar (pR xe1 (xai (xac (K:=K) rfl) rfl T.uR PySem.boot_len (pc (px K (pv 1) pI) pN ss)) (xai (xac (K:=K) rfl) rfl T.uR PySem.boot_len (v1 4)) (nM _)) (zpo xbh) pQ)
   (zpn (xbt PassesOwn.never rfl (xqp rfl T.uZ (va 4 (pc (px K (pv 1) pI) pN ss))) (xbc (K:=K) rfl rfl (xae (pgn 5 nd) (xae (pgn 6 nd) xbb)))
   (zpo (xaz (pd g hr (va 0 (va 6 (va 2 (pc (px K (pv 5) pI) pN ss))))))))
   (zpo (xaf (pv 3)))))))),?_⟩
 have hs:kn.sort=S "rec":=by unfold Kn.sort;rw[if_pos h2]
 obtain⟨l,us,rfl,ha,_,_,rfl,rfl,_,_,rfl,rfl,va,_,rfl,ra,rfl⟩:=hv;obtain⟨c,I,rfl,hc,J⟩:=ra;have hS:SqT K H l [.str (S "rec"),.str k,.ref c]:=SqT.of ha;refine(xaa _ rfl l _ _ _ rfl rfl hS rfl ?_);refine(xah _ rfl _ rfl _ ks k (xbx kn (by rw[hs];rfl) hk h1 ?_));refine(xay _ rfl _ rfl _ ks k rfl hk (λu H1 G r1=>?_));rw[h1]at r1;obtain⟨e,ps,rfl,z,M⟩:=r1;have l1:=M.length;rw[zLM]at l1;have l2:=J.length;have l3:=h3.length;have U:SqT K H1 l [.str (S "rec"),.str k,.ref c]:=SqT.of (G _ _ ha);refine(xaa _ rfl l _ _ _ rfl rfl U rfl (xat c _ rfl (.inr (SqT.of (G _ _ hc))) (xa8 _ rfl e _ rfl (.inr (SqT.of z)) rfl (jEA _ rfl (xpz (by rw[show I.length=ps.length by omega]) ?_)))));refine(xah _ rfl _ rfl l _ _ (xbw _ rfl rfl U rfl (xb0 e c rfl ⟨_,SqT.of z⟩ ⟨_,SqT.of (G _ _ hc)⟩ ?_)));refine xsl (xs:=ps) (ys:=I) (by omega) (λi σ Z=>∃o5 o6,σ=[some kv,some (.ref l),some (.ref p),some (.str k),some (.ref e),o5,o6]/\Same H1 Z) (jEEA none none rfl (Same.refl _)) (λi σ Z _ p=>?_) ?_ ?_
 ·obtain⟨_,_,_,C⟩:=p
  exact⟨SqT.of (C _ _ z),SqT.of ((G.trans C) _ _ hc)⟩
 ·rintro i x y σ Z pt hx hy ⟨o5,o6,rfl,C⟩ a2
  obtain⟨dp,O,a0⟩:=M.get hx;rw[zGM]at O;obtain⟨pr,a3,rfl⟩:=zMS O;obtain⟨de,a4,a1⟩:=J.get hy;obtain⟨a5,o,rR⟩:=h3.get a4;rw[a3]at o;cases o;obtain⟨b,ws,rfl,hb,_,_,rfl,rfl,_,_,rfl,rfl,rfl⟩:=a0;have sn:=Same.new a2 (.tup [.ref b,y]);have s2:=C.trans sn;refine(xax pt _ rfl (SqT.of ups) rfl _ _ rfl _ (jEAA _ rfl rfl ?_));refine(xbz _ rfl _ rfl _ rfl _ rfl b (xaq _ _ _ rfl rfl (SqT.of (s2 _ _ hb)) rfl ?_));have r:=G.trans s2;exact(xav _ _ _ ks _ (xas env _ rfl (hk.same r) (a1.same r _) (he.same r) rR (λH2 s3=>(jEEA _ _ rfl (s2.trans s3)))))
 ·rintro σ Z ⟨o5,o6,rfl,C⟩
  exact(jEA _ rfl (q _ (G.trans C)))
theorem xl2 (T:Tx K J) (R:RK) (cs:Prop) (r:DefIs P w K J base n "num_kind" ["n"] xhu) (y:DefIs P w K J base n "box_kind" qap (xfs m))
  (C:DefIs P w K J base n "op_kind" qaa (xbd (λks=>OpKd (R ks)) m)) (o:DefIs P w K J base n "rec_kind" qaa (xbd (λks=>xsw ks (R ks)) m)) (u:DefIs P w K J base n "get_kind" qaa (xbd (λks=>xsx ks (R ks)) m))
  (j:DefIs P w K J base n "tag_kind" qaa (xbd (λks=>xsv ks (R ks)) m)) (e:DefIs P w K J base n "case_kind" qaa (xbd (λks=>xln cs ks (R ks)) m)) (G:DefIs P w K J base n "if_kind" qaa (xbd (λks=>IfKd (R ks)) m)) :
  DefIs P w K J base (n+1) "kind_of" qaa (xbd (λks env d k=>xgy env d k\/NodeKd cs ks (R ks) env d k) m):=by
 refine DefIs.of T.jN sc_kind_of (by walk_at"l") (λf a1 A outer s H vs Q E O h=>?_);obtain⟨kv,tv,p,ks,d,env,k,rfl,Z,M,U,hR,q⟩:=h;have nd:=sc_kind_of.nd
 refine⟨_,(zpn (psn 3 nd (px K (pv 1) pI))
   (zpn (xar (pR xa0 (pv 3) pS (nM _)) (zpo (xaf (pd r O (pc (px K (pv 1) pI) pN ss)))) pQ)
   (zpn (xar (pR xa0 (pv 3) pS (nM _)) (zpo (xaf (pd y O (pc (px K (pv 1) pI) (v1 2) ss)))) pQ)
   (zpn (xar (pR xa0 (pv 3) pS (nM _)) (zpo (xaf (pd C O (va 0 (va 1 (v1 2)))))) pQ)
   (zpn (xar (pR xa0 (pv 3) pS (nM _)) (zpo (xaf (pd o O (va 0 (va 1 (v1 2)))))) pQ)
   (zpn (xar (pR xa0 (pv 3) pS (nM _)) (zpo (xaf (pd u O (va 0 (va 1 (v1 2)))))) pQ)
   (zpn (xar (pR xa0 (pv 3) pS (nM _)) (zpo (xaf (pd j O (va 0 (va 1 (v1 2)))))) pQ)
   (zpn (xar (pR xa0 (pv 3) pS (nM _)) (zpo (xaf (pd e O (va 0 (va 1 (v1 2)))))) pQ)
   (zpo (xaf (pd G O (va 0 (va 1 (v1 2)))))))))))))),?_⟩
 have I:=M;rcases hR with(⟨i,hi,rfl,rfl⟩ |⟨x,hx,rfl⟩) |g |g |g |g |g |g
 ·obtain⟨a,us,rfl,z,_,_,rfl,rfl,_,_,rfl,rfl,rfl⟩:=M
  have Y:SqT K H a [.str (S "num"),.int i]:=SqT.of z;walk_at"rd";exact⟨hi,q _ (Same.refl _)⟩
 ·obtain⟨a,us,rfl,z,_,_,rfl,rfl,_,_,rfl,rfl,rfl⟩:=M
  have Y:SqT K H a [.str (S "box"),.str x]:=SqT.of z;walk_at"rd";exact(jEEE x p env (xbx k rfl U hx (q _ (Same.refl _))))
 ·obtain⟨sg,a,b,h1,h2,rfl,rfl⟩:=id g
  obtain⟨l,us,rfl,z,_,_,rfl,rfl,_,_,rfl,rfl,va,_,rfl,ra,vb,_,rfl,rb,rfl⟩:=M;have Y:SqT K H l [.str (S "op"),.str sg,va,vb]:=SqT.of z;walk_at"rd";exact(xav _ _ _ ks _ (xas env _ rfl Z I U g q))
 ·obtain⟨es,kn,h1,h2,h3,rfl⟩:=id g
  obtain⟨l,us,rfl,z,_,_,rfl,rfl,_,_,rfl,rfl,va,_,rfl,ra,rfl⟩:=M;have Y:SqT K H l [.str (S "rec"),.str k,va]:=SqT.of z;walk_at"rd";exact(xav _ _ _ ks _ (xas env _ rfl Z I U g q))
 ·obtain⟨a,k1,f',kn,h1,h2,h3,h4,rfl⟩:=id g
  obtain⟨l,us,rfl,z,_,_,rfl,rfl,va,_,rfl,ra,_,_,rfl,rfl,rfl⟩:=M;have Y:SqT K H l [.str (S "get"),va,.str f']:=SqT.of z;walk_at"rd";exact(xav _ _ _ ks _ (xas env _ rfl Z I U g q))
 ·obtain⟨t,a,kn,k1,h1,h2,h3,h4,rfl⟩:=id g
  obtain⟨l,us,rfl,z,_,_,rfl,rfl,_,_,rfl,rfl,_,_,rfl,rfl,va,_,rfl,ra,rfl⟩:=M;have Y:SqT K H l [.str (S "tag"),.str k,.str t,va]:=SqT.of z;walk_at"rd";exact(xav _ _ _ ks _ (xas env _ rfl Z I U g q))
 ·obtain⟨a0,a,rs,k1,kn,h1,h2,h3,h4,h5,h6,h7,rfl⟩:=id g
  obtain⟨l,us,rfl,z,_,_,rfl,rfl,va,_,rfl,ra,vr,_,rfl,rr,rfl⟩:=M;have Y:SqT K H l [.str (S "case"),va,vr]:=SqT.of z;walk_at"rd";exact(xav _ _ _ ks _ (xas env _ rfl Z I U g q))
 ·obtain⟨a,b,c,h1,h2,h3,rfl⟩:=id g
  obtain⟨l,us,rfl,z,_,_,rfl,rfl,va,_,rfl,ra,vb,_,rfl,rb,vc,_,rfl,rc,rfl⟩:=M;have Y:SqT K H l [.str (S "if"),va,vb,vc]:=SqT.of z;walk_at"rd";exact(xav _ _ _ ks _ (xas env _ rfl Z I U g q))
theorem xiq (T:Tx K b) (R:RK) (cs:Prop) (D:DefIs P w K b base (n+1) "kind_of" qaa (xbd R m)) (f:DefIs P w K b base (n+3) "case_kind" qaa (xbd (λks=>xln cs ks (R ks)) m)) :
  DefIs P w K b base (n+4) "kind_of" qaa (xbd (λks env d k=>xgy env d k\/NodeKd cs ks (R ks) env d k) m):=by
 have same:∀k,DefIs P w K b base (k+1) "need_same" qal xdd:=λk=>xc9 T;have sort:∀k,DefIs P w K b base (k+1) "sort_of" qac xdi:=λk=>xcu T;have a:∀k,DefIs P w K b base (k+1) "parts_of" qac xco:=λk=>xb8 T;have nk:=xfa T R D (same n);have ns:=xif (n:=n+1) T (sort n);have e:=xdu T R D (sort n);have c:=xe9 (n:=n+1) T (a n);exact xl2 T R cs (xjv T) (xfz T) (xl1 T R nk) (xjs T R ns nk (a (n+1))) (xjx T R e c) (xjq T R ns nk c) f (xl3 T R (D.mono (by omega)) nk)
theorem xlc(x:Str):∀ys:List Str,inV (.str x) (ys.map V.str)=decide (x∈ys)
 |[]=>rfl
 | y::ys=>by
  show((y == x) || inV (.str x) (ys.map V.str))=_;rw[xlc x ys];by_cases h:y=x
  ·subst h;simp
  ·have h':¬x=y:=λe=>h e.symm
   simp[h,h']
theorem xf6:∀ys:List Str,(ys.map V.str).all xfe=true
 |[]=>rfl
 |y::ys=>by
  show(xfe (.str y) && (ys.map V.str).all xfe)=true;rw[xf6 ys];rfl
def KL(ks:List Kn):Prop:=∀k∈ks,k.name.length<=100
def xde:Sp:=λvs H Q _=>∃(a:Addr) (ns:List Str) (x:Str),vs=[.ref a,.str x]/\H a=some (.lst (ns.map V.str))/\ns.Nodup/\ns.length<=1000/\Q .non H
def xgj:Sp:=λvs H Q _=>∃(kv:V) (c:Addr) (ws:List V) (ks:List Kn) (k:Str) (kn:Kn) (rs:List (Str×Str×D)),vs=[kv,.str k,.ref c]/\KsAt H kv ks/\KL ks/\kAt ks k=some kn/\H c=some (.tup ws)/\RelDs H ws (rs.map dArm)/\rs.length=kn.parts.length/\(rs.map (·.1)).Nodup/\(∀r∈rs,∃k2,xc7 kn r.1=some k2)/\∀H',Same H H'->Q .non H'
def xhw(R:RK)(m:Nat):Sp:=λvs H Q _=>∃(kv av:V) (p:Addr) (ks:List Kn) (env:En) (k1:Str) (kn:Kn) (k k2:Str) (r:Str×Str×D),vs=[kv,.str k1,av,.ref p]/\KsAt H kv ks/\kAt ks k1=some kn/\RelD H av (dArm r)/\EnAt H p m env/\env r.2.1=none/\xc7 kn r.1=some k2/\R ks (env.put r.2.1 (.str k2)) r.2.2 k/\m<=1000/\∀H',Same H H'->Q (.str k) H'
theorem xph{a:Kn}{f c:Str}(h:xc7 a f=some c):f∈a.parts.map (·.1):=by
 unfold xc7 at h;obtain⟨p,b,_⟩:=zMS h;have g:=zMF b;have e:=List.find?_some b;rw[<- of_decide_eq_true e];exact List.mem_map_of_mem g
theorem xda(T:Tx K e):DefIs P w K e base (n+1) "need_once" qaj xde:=by
 refine DefIs.of T.jC xh2 (by walk_at"l") (λf i A outer s H vs Q E j h=>?_);obtain⟨a,ns,x,rfl,c,b,g,q⟩:=h;refine(jEA _ (zpo (xar (pR xee (xnh rfl rfl T.uR rfl T.uW (pv 0)) (xai (xac (K:=K) rfl) rfl T.uR PySem.boot_len (v1 0)) (nM _)) (zpo xbh) pQ)) ?_);refine(xa8 _ rfl a ns rfl c b (jAEA g _ rfl (xan a _ rfl (.inl (SqL.of c)) _ _ rfl rfl _ ⟨rfl,iteKF (zDF ?_) q⟩)));rw[zLM];omega
theorem xie(T:Tx K mg)(l:DefIs P w K mg base n "parts_of" qac xco)(g:DefIs P w K mg base n "need_once" qaj xde):DefIs P w K mg base (n+1) "need_tags" qbc xgj:=by
 refine DefIs.of T.j2 sc_need_tags (by walk_at"l") (λf ah A outer s H vs Q E hr h=>?_);obtain⟨kv,c,ws,ks,k,I,rs,rfl,hk,a8,J,hc,Z,af,a6,a4,q⟩:=h;have nd:=sc_need_tags.nd;have a1:=zMF J
 have a7:I.name=k:=by
  have:=List.find?_some J;exact of_decide_eq_true this
 have ag:k.length<=100:=by rw[<- a7];exact a8 I a1
 have a5:=hk.2.2 I a1
 refine⟨_,(zpn (xcc (i:=3) ["part"] [none] rfl (by kernel_rfl) nd rfl (by walk_at"o") (xal (K:=K) rfl (pd l hr (va 0 (v1 1)))) (λ_ _ _ _=>(pgc 0)) (λ_ _ _ _=>xbq) (λ_ _ _ _=>(px K (pv 0) pI)))
   (zpn (xcc (i:=4) ["arm"] [none] rfl (by kernel_rfl) nd rfl (by walk_at"o") (xal (K:=K) rfl (pv 2)) (λ_ _ _ _=>(pgc 0)) (λ_ _ _ _=>xbq) (λ_ _ _ _=>(px K (pv 0) pI)))
   (zpn (xbt PassesOwn.never rfl (xcl (K:=K) rfl (pv 4)) (pgn 5 nd)
   (zpo (xar (pR xds (pv 5) (pv 3) (by with_unfolding_all rfl)) (zpo xbh) pQ)))
   (zpn (xaz (pd g hr (va 4 (pc (xg8 (xk0 (xky (pv 1) xkz))) pN xem))))
   (zpo (xar (pR xee (xai (xac (K:=K) rfl) rfl T.uR PySem.boot_len (v1 4)) (xai (xac (K:=K) rfl) rfl T.uR PySem.boot_len (v1 3)) (nM _)) (zpo xbh) pQ)))))),?_⟩
 refine(xay _ rfl _ rfl kv ks k rfl hk (λu H1 s1 r1=>?_));rw[J]at r1;obtain⟨e,ps,rfl,he,a0⟩:=r1;have hl:=a0.length;rw[zLM]at hl;refine(jEAA e rfl ⟨_,SqT.of he⟩ ?_);refine xdb (j:=0) (xs:=ps) (λi ys G=>G=H1/\ys=((I.parts.take i).map (·.1)).map V.str) (by rfl) ⟨rfl,rfl⟩ (xa4 (by omega)) (λi ys G _ p=>by obtain⟨rfl,_⟩:=p;exact SqT.of he) ?_ ?_
 ·rintro i x ys G Y C ⟨rfl,rfl⟩
  obtain⟨d,hd,rd⟩:=a0.get Y;rw[zGM]at hd;obtain⟨p,hp,rfl⟩:=zMS hd;obtain⟨b,wz,rfl,hb,_,_,rfl,rfl,_,_,rfl,rfl,rfl⟩:=rd;have M:i<ps.length:=(zES Y).1;refine(xaa _ rfl b _ _ _ rfl rfl (SqT.of hb) rfl (nxt M C ⟨rfl,?_⟩));rw[zTA,hp];simp
 rintro ys G C ⟨rfl,rfl⟩ D1 ae;rw[zTL (by omega)];have t1:=Same.new ae (.lst ((I.parts.map (·.1)).map V.str));have U:=s1.trans t1;have a3:=Z.length;rw[zLM]at a3;generalize ab:upd G D1 (.lst ((I.parts.map (·.1)).map V.str))=H2 at t1 U⊢;have a2:H2 D1=some (.lst ((I.parts.map (·.1)).map V.str)):=by rw[<- ab];exact ups
 refine(xba _ rfl c rfl ⟨_,SqT.of (U _ _ hc)⟩ ?_);refine xdb (j:=0) (xs:=ws) (λi ys G=>G=H2/\ys=((rs.take i).map (·.1)).map V.str) (by rfl) ⟨rfl,rfl⟩ (xa4 (by omega)) (λi ys G _ p=>by obtain⟨rfl,_⟩:=p;exact SqT.of (U _ _ hc)) ?_ ?_
 ·rintro i x ys H3 Y C ⟨rfl,rfl⟩
  obtain⟨d,hd,rd⟩:=(Z.same U _).get Y;rw[zGM]at hd;obtain⟨p,hp,rfl⟩:=zMS hd;obtain⟨b,wz,rfl,hb,_,_,rfl,rfl,_,_,rfl,rfl,v3,_,rfl,r3,rfl⟩:=rd;have M:i<ws.length:=(zES Y).1;refine(xaa _ rfl b _ _ _ rfl rfl (SqT.of hb) rfl (nxt M C ⟨rfl,?_⟩));rw[zTA,hp];simp
 rintro ys H3 C ⟨rfl,rfl⟩ O ac;rw[zTL (by omega)];have t2:=Same.new ac (.lst ((rs.map (·.1)).map V.str));have s3:=U.trans t2;have m:=t2 _ _ a2;generalize aa:upd H3 O (.lst ((rs.map (·.1)).map V.str))=H4 at t2 s3 m⊢;have o:H4 O=some (.lst ((rs.map (·.1)).map V.str)):=by rw[<- aa];exact ups
 refine(xba _ rfl O rfl ⟨_,SqL.of o⟩ ?_);refine xfk (xs:=(rs.map (·.1)).map V.str) (λi σ G=>∃o5,σ=[some kv,some (.str k),some (.ref c),some (.ref D1),some (.ref O),o5]/\G=H4) (jEA none rfl rfl) (λi σ G _ p=>?_) ?_ ?_
 ·obtain⟨_,_,rfl⟩:=p
  exact SqL.of o
 ·rintro i z σ H5 hz ⟨o5,rfl,rfl⟩
  rw[zGM]at hz;obtain⟨y,hy,rfl⟩:=zMS hz;obtain⟨r,hr,rfl⟩:=zMP (zMG hy);obtain⟨k2,a9⟩:=a4 r hr;refine(jEA _ rfl (xa8 _ rfl D1 _ rfl (.inl (SqL.of m)) rfl (jAEA (xf6 _) _ rfl ?_)));rw[if_pos rfl,xlc,zDT (xph a9)];exact iteF (jEA _ rfl rfl)
 ·rintro σ H5 ⟨o5,rfl,rfl⟩
  have l1:(Str.empty++Str.ofString "arms in a case of the kind ").length=27:=by walk_at"k"
  refine(xao _ rfl (fits (by omega)) _ rfl (xbw _ rfl (fits (by omega)) (fits (by rw[Str.length_append];omega)) (fits (by rw[Str.length_append];omega)) ?_));refine(xaq O (rs.map (·.1)) _ rfl o a6 (by rw[zLM];omega) ?_);refine(xa2 _ rfl O _ rfl (.inl (SqL.of o)) _ rfl (xan D1 _ rfl (.inl (SqL.of m)) _ _ rfl rfl _ ⟨rfl,iteKF (zDF ?_) (q _ s3)⟩));rw[zLM,zLM,zLM,zLM];omega
theorem xjy (T:Tx K j) (R:RK) (e:DefIs P w K j base n "kind_of" qaa (xbd R (m+1))) (c:DefIs P w K j base n "with_box" qar (xfp m)) (b:DefIs P w K j base n "part_kind" qaq xdz) :
  DefIs P w K j base (n+1) "arm_kind" qbb (xhw R m):=by
 refine DefIs.of T.jV sc_arm_kind (by walk_at"l") (λf a1 A outer s H vs Q E l h=>?_);obtain⟨J,av,p,ks,env,k1,kn,k,o,r,rfl,M,y,hv,O,hx,hp,hR,hm,q⟩:=h;have nd:=sc_arm_kind.nd;have hu:=xe3 l
 refine⟨_,(zpn (psn 4 nd (px K (pv 2) pI))
   (zpn (xar (xkw (xqs hu (pv 4) (pv 3))) (zpo xbh) pQ)
   (zpo (xaf (pd e l (va 0 (pc (px K (pv 2) pI) (pc (pd c l (va 3 (va 4 (pc (pd b l (va 0 (va 1 (pc (px K (pv 2) pI) pN ss)))) pN zsc)))) pN zsc) ss))))))),?_⟩
 obtain⟨a,us,rfl,ha,_,_,rfl,rfl,_,_,rfl,rfl,G,_,rfl,Z,rfl⟩:=hv;have C:SqT K H a [.str r.1,.str r.2.1,G]:=SqT.of ha;refine(xaa _ rfl a _ _ _ rfl rfl C rfl ?_);obtain⟨kvs,u,a0,hh⟩:=id O;have g:DGet H p (.str r.2.1) none:=(hh r.2.1).1 hx ▸ DGet.k (k:=Sum.inr r.2.1) u;refine(xcb _ rfl _ rfl p _ rfl g _ rfl (iteF ?_));refine(xah _ rfl _ rfl a _ _ (xau _ rfl rfl C rfl _ rfl (xbz _ rfl _ rfl _ rfl _ rfl a (xaq _ _ _ rfl rfl C rfl ?_))));refine(xav J ks k1 kn r.1 (xbw o rfl M y hp (λH1 I=>?_)));refine(xck p r.2.1 (.str o) (.str o) env rfl (O.same I) rfl hm (λp' H2 Y z=>?_));have i:=I.trans Y;exact(xav J G p' ks r.2.2 (xas _ k rfl (M.same i) (Z.same i _) z hR (λH3 U=>q _ (i.trans U))))
theorem xii (T:Tx K mg) (R:RK) (hm:m<=1000) (a7:∀ks env d k,R ks env d k->KL ks) (g:DefIs P w K mg base n "kind_of_sort" qaw (xe0 R m)) (o:DefIs P w K mg base n "need_tags" qbc xgj) (b:DefIs P w K mg base n "arm_kind" qbb (xhw R m)) (u:DefIs P w K mg base n "need_same" qal xdd) :
  DefIs P w K mg base (n+1) "case_kind" qaa (xbd (λks=>xln True ks (R ks)) m):=by
 refine DefIs.of T.jU sc_case_kind (by walk_at"l") (λf a9 A outer s H vs Q E G h=>?_);obtain⟨kv,tv,p,ks,d,env,k,rfl,hk,hv,he,⟨_,a,rs,k1,Y,h1,h2,h3,h4,h5,h6,h7,rfl⟩,q⟩:=h;have nd:=sc_case_kind.nd;have a5:=a7 _ _ _ _ h1
 refine⟨_,(zpn (psn 3 nd (pd g G (va 0 (pc (px K (pv 1) pI) (va 2 (pc pS pN so)) ss))))
   (zpn (psn 4 nd (px K (pv 1) pI))
   (zpn (xaz (pd o G (va 0 (va 3 (v1 4)))))
   (zpn (psn 5 nd (pd b G (va 0 (va 3 (pc (px K (pv 4) pI) (v1 2) ss)))))
   (zpn (xbt PassesOwn.never rfl (xal (K:=K) rfl (xd1 (xur (K:=K) rfl) (pv 4) (xdq pI) xg6)) (pgn 6 nd)
   (zpo (xaz (pd u G (pc (pd b G (va 0 (va 3 (va 6 (v1 2))))) (v1 5) zsc)))))
   (zpo (xaf (pv 5)))))))),?_⟩
 have hs:Y.sort=S "alt":=by unfold Kn.sort;rw[if_neg (by rw[h3];decide)]
 obtain⟨l,us,rfl,ha,_,_,rfl,rfl,va,_,rfl,ra,vr,_,rfl,rr,rfl⟩:=hv;obtain⟨c,ws,rfl,hc,M⟩:=rr;refine(xah _ rfl _ rfl l _ _ (xau _ rfl rfl (SqT.of ha) rfl _ rfl ?_));refine(xav _ _ _ ks _ (xaq env k1 Y (by rw[hs];rfl) hk ra he (jAA h1 h2 (λH1 s1=>?_))));refine(xaa _ rfl l _ _ _ rfl rfl (SqT.of (s1 _ _ ha)) rfl ?_);refine(xbf _ rfl _ rfl _ rfl kv c (xag ws ks k1 Y rs rfl (hk.same s1) a5 h2 (s1 _ _ hc) (jAAA (M.same s1 _) h5 h6 ⟨(λr G=>by obtain⟨_,z,e,_⟩:=h7 r G;exact⟨z,e⟩),λH2 s2=>?_⟩)));have y:=s1.trans s2
 have a3:∀(i:Nat) (I:V) (H3:Hp) (s3:Same H H3),ws[i]?=some I->∃(r:Str×Str×D) (z:Str),RelD H3 I (dArm r)/\env r.2.1=none/\xc7 Y r.1=some z/\R ks (env.put r.2.1 (.str z)) r.2.2 k:=λi I H3 s3 hw=>by
  obtain⟨d0,a1,a4⟩:=M.get hw;rw[zGM]at a1;obtain⟨r,G,rfl⟩:=zMS a1;obtain⟨g1,z,g2,g3⟩:=h7 r (zMG G);exact(xb0 r z (a4.same s3 _) g1 g2 g3)
 have O:=M.length;rw[zLM]at O;have a8:0<rs.length:=List.length_pos_iff.mpr h4
 cases x:ws with
 |nil=>rw[x]at O;simp at O;omega
 | cons I U=>
  refine(xbf _ rfl _ rfl _ rfl c _ (xbk _ I rfl rfl (SqT.of (y _ _ hc)) (by rw[x];exact xak (j:=0) rfl) (jEA _ rfl ?_)));obtain⟨r,z,g0,g1,g2,g3⟩:=a3 0 I H2 y (by rw[x];rfl);refine(xav kv I p ks env (xag k1 Y k z r rfl (hk.same y) h2 g0 (he.same y) (jAAA g1 g2 g3 ⟨hm,λH3 s3=>?_⟩)));have a0:=y.trans s3
  refine⟨_,rfl,_,rfl,c,ws,rfl,SqT.of (a0 _ _ hc),(by
   rw[show((1:Int))=((1:Nat):Int) from rfl,HT.sIx_nat];rw[x,List.length_cons];omega),λcp a6=>?_⟩
  have t3:=Same.new a6 (.tup (cutV ws (some 1) none));have C:=a0.trans t3
  have a2:cutV ws (some 1) none=U:=by
   unfold cutV;rw[show((1:Int))=((1:Nat):Int) from rfl,HT.sIx_nat,HT.sIx_none,x,List.length_cons];rw[show min 1 (U.length+1)=1 by omega];show List.take _ U=U;exact zTL (by omega)
  refine(jEAA cp rfl ⟨_,SqT.of ups⟩ ?_);rw[a2]at t3 C⊢;refine xb3 (xs:=U) (λi σ H'=>∃o6,σ=[some kv,some (.ref l),some (.ref p),some (.str k1),some (.ref c),some (.str k),o6]/\Same (upd H3 cp (.tup U)) H') (jEA none rfl (Same.refl _)) (λi σ H' _ p=>?_) ?_ ?_
  ·obtain⟨_,_,J⟩:=p
   exact SqT.of (J _ _ ups)
  ·rintro i v σ H5 hv ⟨o6,rfl,J⟩
   refine(jEA _ rfl (jEA _ rfl (jEA _ rfl (jEA _ rfl ?_))));obtain⟨r,z,g0,g1,g2,g3⟩:=a3 (i+1) v H5 (C.trans J) (by rw[x];exact hv);have Z:=C.trans J;refine(xav kv v p ks env (xag k1 Y k z r rfl (hk.same Z) h2 g0 (he.same Z) (jAAA g1 g2 g3 ⟨hm,λH6 s6=>?_⟩)));exact(jEA _ rfl (jEA k rfl (jEA _ rfl (J.trans s6))))
  ·rintro σ H5 ⟨o6,rfl,J⟩
   exact(jEA _ rfl (q _ (C.trans J)))
theorem xsb(R:RK)(D:DefIs P w K b base n "kind_of" qaa (xbd R (m+1))):DefIs P w K b base n "kind_of" qaa (xbd R m):=D.imp λvs H Q E h=>by
 obtain⟨c,a,p,ks,d,env,k,l,j,i,g,f,e⟩:=h;exact(xav c a p ks d (xas env k l j i (g.mono (by omega)) f e))
def KdL(n:Nat):RK:=λks env d k=>KL ks/\Kd True ks n env d k
theorem xn8(T:Tx K o):∀n m,n+m<=1000->DefIs P w K o base (3*n+8) "kind_of" qaa (xbd (KdL n) m)
 | 0,m,_=>by
  refine(xiq (P:=P) (w:=w) (base:=base) (n:=4) (m:=m) T (λ_ _ _ _=>False) False (DefIs.none T.jN ?_) (DefIs.none T.jU ?_)).imp ?_
  ·rintro vs H Q E ⟨_,_,_,_,_,_,_,_,_,_,_,h,_⟩
   exact h
  ·rintro vs H Q E ⟨_,_,_,_,_,_,_,_,_,_,_,⟨h,_⟩,_⟩
   exact h
  ·rintro vs H Q E ⟨e,c,p,ks,d,env,k,l,j,i,g,a,f⟩
   exact(xav e c p ks d (xas env k l j i g (.inl a.2) f))
 |n+1,m,y=>by
  have b:DefIs P w K o base (3*n+8) "kind_of" qaa (xbd (KdL n) (m+1)):=xn8 T n (m+1) (by omega);have r:=xsb (KdL n) b;have x:=xdu (n:=3*n+8) T (KdL n) r (xcu T);have s:=xe9 (P:=P) (w:=w) (base:=base) (n:=3*n+7) T (xb8 T);have G:=xjy (n:=3*n+8) T (KdL n) b (xfx T) s;have u:=xie (P:=P) (w:=w) (base:=base) (n:=3*n+8) T (xb8 T) (xda T);have C:=xii (n:=3*n+9) T (KdL n) (by omega) (λ_ _ _ _ h=>h.1) x u G (xc9 T);refine(xiq (n:=3*n+7) (m:=m) T (KdL n) True r C).imp ?_;rintro vs H Q E ⟨e,c,p,ks,d,env,k,l,j,i,g,⟨z,a⟩,f⟩;refine(xav e c p ks d (xas env k l j i g ?_ f));rcases a with a |a
  ·exact .inl a
  ·exact .inr (a.mono λ_ _ _ h=>⟨z,h⟩)
structure GIn(H:Hp)(f nb:Addr)(kv:V)(ks:List Kn)(nms:List Str):Prop where
 fd:∃p q:Int,H f=some (.lst [.int p,.int q])
 nl:H nb=some (.lst (nms.map V.str))
 ok:NmsR nms
 ne:nb≠f
 nby:∀z∈nms,NoBy z
 kd:RelD H kv (xcz ks)
 wf:KWf ks
 pb:PNB ks
theorem GIn.same{H e:Hp}{f b:Addr}{c:V}{ks:List Kn}{a:List Str}(g:GIn H f b c ks a)(s:Same H e):GIn e f b c ks a:=by
 obtain⟨p,q,h⟩:=g.fd;exact⟨(jEE p q (s _ _ h)),s _ _ g.nl,g.ok,g.ne,g.nby,g.kd.same s _,g.wf,g.pb⟩
theorem GIn.fed{H e:Hp}{f b:Addr}{c:V}{ks:List Kn}{a:List Str}(g:GIn H f b c ks a)(s:Fed f H e):GIn e f b c ks a:=⟨s.2,s.1 _ _ g.nl g.ne,g.ok,g.ne,g.nby,g.kd.tups (xaj g.fd s) _,g.wf,g.pb⟩
theorem GIn.refl{H:Hp}{f b:Addr}{c:V}{ks:List Kn}{a:List Str}(g:GIn H f b c ks a):Fed f H H:=by
 obtain⟨p,q,h⟩:=g.fd;exact Fed.refl h
theorem GIn.name{H:Hp}{f b:Addr}{c:V}{ks:List Kn}{a:List Str}(g:GIn H f b c ks a){i:Nat}(h:i<26):∃z,a[i]?=some z/\atI (a.map V.str) (i:Int)=some (.str z):=by
 have e:=g.ok.len;exact(jEA (a[i]'(by omega)) (zGA _) (xak (by rw[zGM,zGA (by omega)];rfl)))
structure ChsOk(ks:List Kn)(nms:List Str)(hn:Nat)(cs:List Chn):Prop where
 len:cs.length<=6
 l5:cs.length<=5
 nm:cs.map (·.1)=(nms.drop 12).take cs.length
 kin:∀c∈cs,KIn ks ks.length c.2.2.2
 ends:∀c∈cs,c.2.1∈nms.take hn/\c.2.2.1∈nms.take hn
def xql:Sp:=λvs H Q _=>∃(f nb:Addr) (kv:V) (ks:List Kn) (nms:List Str) (hn:Nat),vs=[.ref f,kv,.ref nb,.int hn]/\GIn H f nb kv ks nms/\1<=hn/\hn<=4/\∀cv cs H',Fed f H H'->RelD H' cv (.tup (cs.map dChn))->ChsOk ks nms hn cs->Q cv H'
theorem xog{a:List Str}{i hn:Nat}{z:Str}(h:a[i]?=some z)(hi:i<hn):z∈a.take hn:=zMG (i:=i) (by rw[List.getElem?_take,if_pos hi];exact h)
theorem xfl{H:Hp}{us:List V}{cs:List Chn}(g:RelDs H us (cs.map dChn)){i:Nat}{v:V}(a:us[i]?=some v):∃(b:Addr) (c:Chn),cs[i]?=some c/\v=.ref b/\H b=some (.tup [.str c.1,.str c.2.1,.str c.2.2.1,.str c.2.2.2]):=by
 obtain⟨d,hd,rd⟩:=g.get a;rw[zGM]at hd;obtain⟨c,e,rfl⟩:=zMS hd;obtain⟨b,ws,rfl,f,_,_,rfl,rfl,_,_,rfl,rfl,_,_,rfl,rfl,_,_,rfl,rfl,rfl⟩:=rd;exact(xat b c e rfl f)
structure BsOk(ks:List Kn)(nms:List Str)(bs:List (Str×Str)):Prop where
 len:bs.length<=5
 nd:(bs.map (·.1)).Nodup
 nm:∀b∈bs,b.1∈nms
 kin:∀b∈bs,KIn ks 6 b.2
def xtm:Sp:=λvs H Q _=>∃(f nb:Addr) (kv cv:V) (ks:List Kn) (nms:List Str) (cs:List Chn) (x:Str),vs=[.ref f,kv,cv,.str x,.ref nb]/\GIn H f nb kv ks nms/\RelD H cv (.tup (cs.map dChn))/\cs.length<=6/\(∀c∈cs,KIn ks ks.length c.2.2.2)/\∀bv bs H',Fed f H H'->RelD H' bv (xdp bs)->BsOk ks nms bs->Q bv H'
theorem xib(T:Tx K mg)(a:DefIs P w K mg base n "_law_take" qad xcn)(j:DefIs P w K mg base n "_law_any_kind" qan xo4):DefIs P w K mg base (n+1) "_law_channels" qbi xql:=by
 refine DefIs.of T.kZ scl_channels (by walk_at"l") (λf bg A outer s H vs Q E hr h=>?_);obtain⟨r,Z,kv,ks,u,hn,rfl,g,h1,h4,q⟩:=h;have nd:=scl_channels.nd
 refine⟨_,(zpn (psn 4 nd (xcy pN))
   (zpn (xbt PassesOwn.never rfl (xb4 rfl T.uV (pc (pd a hr (va 0 (pc pI pN so))) pN zsc)) (pgn 5 nd)
   (zpn (psn 6 nd (xa6 (pc (pxl K (pv 2) (pd a hr (va 0 (v1 3)))) (pc (pxl K (pv 2) (pd a hr (va 0 (v1 3)))) pN ss) ss)))
   (zpo (xaz (xep PySem.F.plainAttrs_list PySem.F.slot_list_append PySem.F.type_list_append xb9 (pv 4) (pc (xa6 (pc (pxl K (pv 2) (xam xbe pI (pv 5))) (pc (px K (pv 6) pI) (pc (px K (pv 6) pI) (pc (pd j hr (va 0 (v1 1))) pN zsc) ss) ss) ss)) pN sT))))))
   (zpo (xaf (xa7 (xbl (K:=K) rfl) rfl T.uY PyProof.Rows.boot_tuple (v1 4)))))),xad λR1 b2=>?_⟩
 refine⟨(by walk_at"s"),λl hl=>b2 _ _ (xad λR2 b1=>?_)⟩;have s0:=Same.new hl (.lst []);have g0:=g.same s0;obtain⟨p0,q0,az⟩:=g.fd;have lf:l≠r:=Ne.symm (neN az hl);obtain⟨p1,q1,ay⟩:=g0.fd;refine(xaa _ rfl r p1 q1 6 rfl ay (by decide) (by decide) (λr1 H3 bc bb f1=>?_));have F3:Fed r H H3:=(g.refl.same s0).trans f1;have an:=f1.1 _ _ ups lf;obtain⟨N,rfl,bf⟩:∃N:Nat,r1=(N:Int)/\N<=5:=(jEA r1.toNat (by omega) (by omega));refine(xbx _ rfl (by omega) (by omega) ?_)
 refine xc3 (λi σ H'=>∃us,∃cs:List Chn,∃o6 o7,σ=[some (.ref r),some kv,some (.ref Z),some (.int hn),some (.ref l),o6,o7]/\Fed r H H'/\H' l=some (.lst us)/\RelDs H' us (cs.map dChn)/\cs.length=i/\ChsOk ks u hn cs)
  (xbg ([]) ([]) none none rfl F3 an rfl rfl ⟨by decide,by decide,rfl,(λ_ h=>nomatch h),λ_ h=>nomatch h⟩) ?_ ?_
 ·rintro i σ H4 hi ⟨us,cs,o6,o7,rfl,F4,I,x,J,m⟩
  have be:i<5:=by omega
  have e0:(0+(i:Int))=(i:Int):=by omega
  have g4:=g.fed F4;obtain⟨p4,q4,ax⟩:=F4.2;have ai:=x.length;rw[zLM]at ai;refine xad λS1 b0=>?_;refine(xbf _ rfl _ rfl _ rfl r p4 (xbk q4 hn rfl ax (by omega) (by omega) (λra H5 ba b9 f5=>?_)));obtain⟨ia,rfl⟩:∃i:Nat,ra=(i:Int):=⟨ra.toNat,by omega⟩;have g5:=g4.fed f5;obtain⟨za,af,b6⟩:=g5.name (i:=ia) (by omega);refine(xap Z _ _ _ rfl rfl (SqL.of g5.nl) b6 ?_);obtain⟨p5,q5,aw⟩:=f5.2;refine(xbf _ rfl _ rfl _ rfl r p5 (xbk q5 hn rfl aw (by omega) (by omega) (λrb H6 b8 b7 f6=>?_)));obtain⟨ib,rfl⟩:∃i:Nat,rb=(i:Int):=⟨rb.toNat,by omega⟩;have g6:=g5.fed f6;obtain⟨zb,ae,b5⟩:=g6.name (i:=ib) (by omega);refine(xbg Z _ _ _ rfl rfl (SqL.of g6.nl) b5 (by walk_at"s") (λte aj=>?_));have s7:=Same.new aj (.tup [.str za,.str zb]);have F6:=F4.trans (f5.trans f6);have a6:=xaj g4.fd (f5.trans f6)
  have ab:∀(Y:Addr) (C y:Str) (M:Hp),Fed r H M->M l=some (.lst us)->RelDs M us (cs.map dChn)->M Y=some (.tup [.str C,.str y])->C∈u.take hn->y∈u.take hn->S1 [some (.ref r),some kv,some (.ref Z),some (.int hn),some (.ref l),some (.int (0+(i:Int))),some (.ref Y)] M:=λY C y M F8 a3 a0 a2 ah ag=>by
   refine b0 _ _ ?_;have g8:=g.fed F8;obtain⟨O,ac,b4⟩:=g8.name (i:=12+i) (by omega)
   have a5:atI (u.map V.str) (12+(0+(i:Int)))=some (.str O):=by
    rw[e0];exact b4
   refine(jEAA _ rfl (.inl (jAE rfl _ (SqL.of a3))) ?_);refine(xbo _ rfl _ rfl _ _ rfl rfl Z (xaq _ _ _ rfl rfl (SqL.of g8.nl) a5 ?_));refine(xaa _ rfl Y _ _ _ rfl rfl (SqT.of a2) rfl (xaa _ rfl Y _ _ _ rfl rfl (SqT.of a2) rfl ?_));obtain⟨p8,q8,av⟩:=F8.2;obtain⟨ka,aa,b3,ar,aq⟩:=id g8.kd;subst b3;have a4:=g.wf.few;refine(xah _ rfl _ rfl r ka p8 (xaq q8 aa ks rfl av (.inr ar) aq ⟨a4,λkx H9 ao f9=>⟨(by walk_at"s"),λt ht=>?_⟩⟩));have st:=Same.new ht (.tup [.str O,.str C,.str y,.str kx]);have G:=f9.1 _ _ a3 lf;have a7:=xaj g8.fd f9;refine(xaq l us _ rfl rfl (st _ _ G) (xa4 (by omega)) ?_);have bd:l≠t:=neN G ht;have ak:H l=none:=hl;refine(xbg (us++[.ref t]) (cs++[(O,C,y,kx)]) _ _ rfl ?_ ups ?_ (by rw[zLA,List.length_singleton,J]) ?_)
   ·refine⟨λb o e hb=>?_,?_⟩
    ·rw[xaw (neN e ak)]
     exact st _ _ ((F8.trans f9).1 b o e hb)
    ·obtain⟨p9,q9,au⟩:=f9.2
     exact(jEE p9 q9 (by rw[xaw (Ne.symm lf)];exact st _ _ au))
   ·have U:∀b vs,upd H9 t (.tup [.str O,.str C,.str y,.str kx]) b=some (.tup vs)->upd (upd H9 t (.tup [.str O,.str C,.str y,.str kx])) l (.lst (us++[.ref t])) b=some (.tup vs):=λb vs e=>by
     rw[xaw λz=>by rw[z,st _ _ G]at e;cases e];exact e
    rw[zAP];refine(((a0.tups a7 _).same st _).tups U _).append (xat (.ref t) ([]) rfl (xan t _ rfl (U _ _ ups) _ _ rfl rfl _ (xbj _ rfl rfl _ _ rfl rfl (xat _ _ rfl rfl rfl))) rfl)
   ·refine⟨by rw[zLA,List.length_singleton];omega,by rw[zLA,List.length_singleton];omega,?_,λc p=>?_,λc p=>?_⟩
    ·rw[zAP,zLA,List.length_singleton,m.nm,zTA,List.getElem?_drop,J,ac]
     rfl
    ·rcases zMA p with p |p
     ·exact m.kin c p
     ·rw[zMO p];exact ao
    ·rcases zMA p with p |p
     ·exact m.ends c p
     ·rw[zMO p];exact⟨ah,ag⟩
  have F7:=F6.same s7;have am:=(f5.trans f6).1 _ _ I lf;have al:=s7 _ _ am;have a1:=(x.tups a6 _).same s7 _;have a9:=xog af (by omega:ia<hn);have a8:=xog ae (by omega:ib<hn);exact ab te za zb _ F7 al a1 ups a9 a8
 ·rintro σ H4 ⟨us,cs,o6,o7,rfl,F4,I,x,J,m⟩
  refine b1 _ _ ?_;refine(jEA _ rfl (jEEA l us rfl (.inl ⟨SqL.of I,λt ht=>?_⟩)));have st:=Same.new ht (.tup us);exact q _ cs _ (F4.same st) (xat t us rfl ups (x.same st _)) m
theorem xnq(T:Tx K mg)(a:DefIs P w K mg base n "_law_take" qad xcn)(m:DefIs P w K mg base n "_law_any_kind" qan xo4):DefIs P w K mg base (n+1) "_law_boxes" qbj xtm:=by
 refine DefIs.of T.k0 scl_boxes (by walk_at"l") (λf b3 A outer s H vs Q E hr h=>?_);obtain⟨U,nb,kv,cv,ks,a8,cs,x,rfl,g,aj,h6,ak,q⟩:=h;have nd:=scl_boxes.nd
 refine⟨_,(zpn (psn 5 nd (xcy pN))
   (zpn (xbt PassesOwn.never rfl (xal (K:=K) rfl (pv 2)) (xbc (K:=K) rfl rfl (xae (pgn 6 nd) (xae (pgn 7 nd) (xae (pgn 8 nd) (xae (pgn 9 nd) xbb)))))
   (zpo (xar (PW.pt (xc1 (pR xa0 (pv 8) (pv 3) (nM _)) (xcp (pR xds (pv 9) (pv 5) (by with_unfolding_all rfl))))) (zpo (xaz (xep PySem.F.plainAttrs_list PySem.F.slot_list_append PySem.F.type_list_append xb9 (pv 5) (v1 9)))) pQ)))
   (zpn (xbt PassesOwn.never rfl (xb4 rfl T.uV (pc (pd a hr (va 0 (pc pI pN so))) pN zsc)) (pgn 10 nd)
   (zpo (xaz (xep PySem.F.plainAttrs_list PySem.F.slot_list_append PySem.F.type_list_append xb9 (pv 5) (pc (pd m hr (va 0 (v1 1))) pN zsc)))))
   (zpn (psn 11 nd (xam xcf (pd a hr (va 0 (pc pI pN so))) pI))
   (zpo (xaf (xa7 (xbl (K:=K) rfl) rfl T.uY PyProof.Rows.boot_tuple (pc (xbr ["_law_k","_law_names_here","_law_wants","_law_turn"] [none,some 4,some 5,some 11] rfl (by kernel_rfl) (xb4 rfl T.uV (pc (xai (xov rfl) rfl T.uU PyProof.Rows.boot_min (pc pI (pc (xai (xac (K:=K) rfl) rfl T.uR PySem.boot_len (v1 5)) pN zsc) so)) pN zsc)) (λ_ _ _ _=>(pgc 0)) (λ_ _ _ _=>xbq) (λ_ _ _ _=>(xa6 (pc (pxl K (pv 1) (xam xbe pI (xam xcd (xam xbe (pv 0) (pv 3)) pI))) (pc (pxl K (pv 2) (pv 0)) pN ss) ss)))) pN xbp)))))))),xad λR1 ao=>?_⟩
 refine⟨(by walk_at"s"),λl M=>ao _ _ (xad λR2 an=>?_)⟩;have s0:=Same.new M (.lst []);obtain⟨p0,q0,a4⟩:=g.fd;have lf:l≠U:=Ne.symm (neN a4 M);have ay:nb≠l:=neN g.nl M;obtain⟨ca,us,rfl,a5,hR⟩:=aj;have aa:=hR.length;rw[zLM]at aa;have O:=g.wf.few;refine(xba _ rfl ca rfl ⟨_,SqT.of (s0 _ _ a5)⟩ ?_);have ar:∀{C:Hp} {xs:List Str} (k:Str),SameBut l H C->C l=some (.lst (xs.map V.str))->SameBut l H (upd C l (.lst ((xs++[k]).map V.str))):=λk s _=>s.trans (SameBut.upd _ _ _)
 refine xb3 (xs:=us) (λi σ C=>∃(xs:List Str) (o6 o7 o8 o9:Option V),σ=[some (.ref U),some kv,some (.ref ca),some (.str x),some (.ref nb),some (.ref l),o6,o7,o8,o9,none,none]/\SameBut l H C/\C l=some (.lst (xs.map V.str))/\(∀k∈xs,KIn ks ks.length k)/\xs.length<=i)
  (xck ([]) none none none none rfl s0.but ups (λ_ h=>nomatch h) (Nat.zero_le _)) (λi σ C _ p=>?_) ?_ ?_
 ·obtain⟨_,_,_,_,_,_,I,_⟩:=p
  exact SqT.of (I _ _ a5 (neN a5 M))
 ·rintro i v σ H1 hv ⟨xs,o6,o7,o8,o9,rfl,I,r,J,a0⟩
  obtain⟨b,c,hc,rfl,u⟩:=xfl hR hv;have hi:i<us.length:=(zES hv).1;refine(xax b _ rfl (SqT.of (I _ _ u (neN u M))) rfl _ _ rfl _ (jEA _ rfl (jEEA _ _ rfl (xat _ _ rfl rfl ?_))));refine(xcg _ rfl _ rfl rfl _ rfl (ite2 (λc1=>?_) (λc1=>iteF (xck xs _ _ _ _ rfl I r J (by omega)))));refine(jEA _ rfl (xa8 _ rfl l _ rfl (.inl (SqL.of r)) rfl (jAEA (xf6 xs) _ rfl (ite2 (λc2=>?_) (λc2=>(xck xs _ _ _ _ rfl I r J (by omega)))))));refine(xao _ rfl (.inl (jAE rfl _ (SqL.of r))) _ rfl (xaq l _ _ rfl rfl r (xa4 (by rw[zLM];omega)) ?_));refine(xck (xs++[c.2.2.2]) _ _ _ _ rfl (I.trans (SameBut.upd _ _ _)) (by rw[ups,zAP];rfl) (λk a2=>?_) (by rw[zLA,List.length_singleton];omega));rcases zMA a2 with h |h
  ·exact J k h
  ·rw[zMO h];exact ak c (zMG hc)
 rintro σ H1 ⟨xs,o6,o7,o8,o9,rfl,I,r,J,a0⟩;refine an _ _ (xad λR3 am=>?_);have F1:Fed U H H1:=(jAE (λb o e _=>I b o e (neN e M)) p0 ⟨q0,I _ _ a4 (neN a4 M)⟩);have g1:=g.fed F1;obtain⟨p1,q1,ai⟩:=F1.2;refine(xaa _ rfl U p1 q1 3 rfl ai (by decide) (by decide) (λr1 H2 ax aw f2=>(xbx _ rfl (by omega) (by omega) ?_)))
 refine xc3 (λi σ C=>∃(xs:List Str) (Y:Option V),σ=[some (.ref U),some kv,some (.ref ca),some (.str x),some (.ref nb),some (.ref l),o6,o7,o8,o9,Y,none]/\Fed U H C/\C l=some (.lst (xs.map V.str))/\(∀k∈xs,KIn ks ks.length k)/\xs.length<=6+i)
  (xbk xs none rfl (F1.trans f2) (f2.1 _ _ r lf) J (by omega)) ?_ ?_
 ·rintro i σ H3 hi ⟨xs,Y,rfl,F3,r,J,a0⟩
  have g3:=g.fed F3;obtain⟨p3,q3,a3⟩:=F3.2;obtain⟨ka,a9,aq,ag,af⟩:=id g3.kd;subst aq;refine(xao _ rfl (.inl (jAE rfl _ (SqL.of r))) _ rfl (xa1 _ rfl U ka p3 q3 (xas a9 ks rfl a3 (.inr ag) af O (λkx H4 ae f4=>?_))));have y:=f4.1 _ _ r lf;refine(xaq l _ _ rfl rfl y (xa4 (by rw[zLM];omega)) ?_);have F4:=F3.trans f4;refine(xbk (xs++[kx]) _ rfl ?_ (by rw[ups,zAP];rfl) (λk a2=>?_) (by rw[zLA,List.length_singleton];omega))
  ·refine⟨λb o e u=>by rw[xaw (neN e M)];exact F4.1 b o e u,?_⟩
   obtain⟨p4,q4,ah⟩:=F4.2;exact(jEE p4 q4 (by rw[xaw (Ne.symm lf)];exact ah))
  ·rcases zMA a2 with h |h
   ·exact J k h
   ·rw[zMO h];exact ae
 rintro σ H3 ⟨xs,Y,rfl,F3,r,J,a0⟩;refine am _ _ (xad λR4 al=>?_);obtain⟨p3,q3,a3⟩:=F3.2;refine(xaa _ rfl U p3 q3 4 rfl a3 (by decide) (by decide) (λr4 H4 av au f4=>(xb0 _ _ rfl rfl ⟨by decide,by decide⟩ (al _ _ ?_))));have F4:=F3.trans f4;have g4:=g.fed F4;have y:=f4.1 _ _ r lf;have xl:(xs.map V.str).length=xs.length:=zLM _;refine(xcs _ rfl l _ rfl (.inl (SqL.of y)) (jEEA _ _ rfl ?_))
 obtain⟨N,hN,b2,b1⟩:∃N:Nat,(if ((xs.map V.str).length:Int)<5 then ((xs.map V.str).length:Int) else 5)=(N:Int)/\N<=5/\N<=xs.length:=by
  rw[xl];refine(jEAA ((if (xs.length:Int)<5 then (xs.length:Int) else 5).toNat) ?_ ?_ ?_) <;> split <;> omega
 rw[hN];refine(xbx _ rfl (by omega) (by omega) ?_);have tn:0<=r4 / 2/\r4 / 2<=1:=by omega
 obtain⟨tt,ab⟩:∃t:Nat,r4 / 2=(t:Int):=⟨(r4 / 2).toNat,by omega⟩;have ix:∀i:Nat,(18+((0+(i:Int))+r4 / 2)%6)=((18+(i+tt)%6:Nat):Int):=λi=>by rw[ab];omega
 refine xdg (j:=0) (λi ys C=>Same H4 C/\∃bs:List (Str×Str),RelDs C ys (bs.map xkf)/\bs.length=i/\(∀(j:Nat) b,bs[j]?=some b->a8[18+(j+tt)%6]?=some b.1)/\∀b∈bs,KIn ks 6 b.2) (by rfl) (jAEA (Same.refl _) ([]) rfl (jAA rfl (λj b h=>by simp at h) (λ_ h=>nomatch h))) (xa4 (by omega)) ?_ ?_
 ·rintro i ys H5 hi a7 ⟨s5,bs,Z,a6,G,a1⟩
  have g5:=g4.same s5;obtain⟨z,hz,az⟩:=g5.name (i:=18+(i+tt)%6) (by omega);have hx:i<xs.length:=by omega
  refine(xa9 _ rfl _ rfl _ rfl _ _ rfl rfl (xb0 _ _ rfl rfl (by show(0:Int)<6;decide) (xat _ _ rfl rfl (xap nb _ _ _ rfl rfl (SqL.of g5.nl) (by rw[ix];exact az) ?_))));refine(xah _ rfl _ rfl l _ _ (xcv (.str xs[i]) rfl rfl (SqL.of (s5 _ _ y)) ?_ (by walk_at"s") (λt ht=>nxt hi a7 ?_)))
  ·rw[show(0+(i:Int))=(i:Int) by omega]
   exact xak (by rw[zGM,zGA hx];rfl)
  have st:=Same.new ht (.tup [.str z,.str xs[i]]);refine(jAEA (s5.trans st) (bs++[(z,xs[i])]) ?_ (jAA (by rw[zLA,List.length_singleton,a6]) (λj b u=>?_) (λb u=>?_)))
  ·rw[zAP]
   exact(Z.same st _).append (xat (.ref t) ([]) rfl (xan t _ rfl ups _ _ rfl rfl _ (jEAA _ rfl rfl rfl)) rfl)
  ·by_cases hj:j<bs.length
   ·rw[List.getElem?_append_left hj]at u
    exact G j b u
   ·have ac:=(zES u).1
    rw[zLA,List.length_singleton]at ac;have e0:j=i:=by omega
    subst e0;rw[List.getElem?_append_right (by omega),a6,Nat.sub_self]at u;simp at u;subst u;exact hz
  ·rcases zMA u with h |h
   ·exact a1 b h
   ·rw[zMO h]
    exact(J _ (List.getElem_mem hx)).mono O
 ·rintro ys H5 a7 ⟨s5,bs,Z,a6,G,a1⟩ D hD
  have sD:=Same.new hD (.lst ys);refine(jEEA D ys rfl (.inl ⟨SqL.of ups,λt ht=>?_⟩));have st:=Same.new ht (.tup ys);have sA:=sD.trans st;refine q _ bs _ (F4.same (s5.trans sA)) (xat t ys rfl ups (Z.same sA _)) ⟨by omega,?_,λb u=>?_,a1⟩
  ·refine List.pairwise_iff_getElem.mpr λi j hi hj b0 e=>?_
   rw[zLM]at hi hj;rw[List.getElem_map,List.getElem_map]at e;have h1:=G i _ (zGA hi);have h2:=G j _ (zGA hj);rw[e]at h1;have:=g.ok.at18 (by omega) (by omega) h1 h2;omega
  ·obtain⟨j,hj,e⟩:=zMI u
   have:=G j b (by rw[<- e];exact zGA hj);exact zMG this
def MkS(ms:List Str)(r:Row)(ms':List Str):Prop:=(xb6 r=none/\ms'=ms)\/∃(i:Nat) (h:i<ms.length),xb6 r=some ms[i]/\ms'=ms.eraseIdx i
def xu4(cs:List Chn)(x:Str)(bs:List (Str×Str))(c y:Str):Prop:=∃ch∈cs,ch.1=c/\ch.2.2.1=x/\(y,ch.2.2.2)∈bs
def IntoAt(H:Hp)(cs:List Chn)(x:Str)(bs:List (Str×Str))(w:V):Prop:=∃(b:Addr) (c y:Str),w=.ref b/\H b=some (.tup [.str c,.str y])/\xu4 cs x bs c y
theorem IntoAt.tups{H a:Hp}{cs:List Chn}{x:Str}{bs:List (Str×Str)}{w:V}(h:IntoAt H cs x bs w)(s:∀b vs,H b=some (.tup vs)->a b=some (.tup vs)):IntoAt a cs x bs w:=by
 obtain⟨b,c,y,e,f,r⟩:=h;exact(xc2 b c y e (s _ _ f) r)
theorem xfw{H:Hp}{us:List V}{bs:List (Str×Str)}(g:RelDs H us (bs.map xkf)){i:Nat}{v:V}(a:us[i]?=some v):∃(b:Addr) (p:Str×Str),bs[i]?=some p/\v=.ref b/\H b=some (.tup [.str p.1,.str p.2]):=by
 obtain⟨d,hd,rd⟩:=g.get a;rw[zGM]at hd;obtain⟨c,e,rfl⟩:=zMS hd;obtain⟨b,ws,rfl,f,_,_,rfl,rfl,_,_,rfl,rfl,rfl⟩:=rd;exact(xat b c e rfl f)
theorem xgn:∀(l:List Str) (i:Nat) (h:i<l.length),List.Perm (l[i]::l.eraseIdx i) l
 |a::l,0,_=>List.Perm.refl _
 |a::l,i+1,h=>by
  have:=xgn l i (by simpa using h);exact(List.Perm.swap ..).trans (List.Perm.cons a this)
theorem xn1{A ms:List Str}{i:Nat}(h:i<ms.length)(nd:(A++ms).Nodup):((A++[ms[i]])++ms.eraseIdx i).Nodup:=by
 rw[List.append_assoc];refine(List.Perm.nodup_iff ?_).mpr nd;exact List.Perm.append_left _ (xgn ms i h)
def Sb2(f m:Addr)(H H':Hp):Prop:=(∀b o,H b=some o->b≠f->b≠m->H' b=some o)/\∃p q:Int,H' f=some (.lst [.int p,.int q])
theorem Sb2.of{f m:Addr}{H a:Hp}(h:Fed f H a):Sb2 f m H a:=⟨λb o e n _=>h.1 b o e n,h.2⟩
theorem Sb2.same{f m:Addr}{H c a:Hp}(h:Sb2 f m H c)(s:Same c a):Sb2 f m H a:=by
 obtain⟨l,p,q,j⟩:=h;exact(jAE (λb o e i g=>s _ _ (l b o e i g)) p ⟨q,s _ _ j⟩)
theorem Sb2.upd{f m:Addr}{H c:Hp}(h:Sb2 f m H c)(n:m≠f)(o:HO):Sb2 f m H (L2.upd c m o):=by
 obtain⟨j,p,q,i⟩:=h;exact(jAE (λb u e g a=>by rw[xaw a];exact j b u e g a) p ⟨q,by rw[xaw (Ne.symm n)];exact i⟩)
structure DIn(H:Hp)(f:Addr)(kv cv bv:V)(ks:List Kn)(cs:List Chn)(bs:List (Str×Str)):Prop where
 fd:∃p q:Int,H f=some (.lst [.int p,.int q])
 kd:RelD H kv (xcz ks)
 wf:KWf ks
 pb:PNB ks
 cd:RelD H cv (.tup (cs.map dChn))
 c6:cs.length<=6
 ck:∀c∈cs,KIn ks 6 c.2.2.2
 bd:RelD H bv (xdp bs)
 b5:bs.length<=5
 bn:(bs.map (·.1)).Nodup
 bb:∀b∈bs,NoBy b.1
 bk:∀b∈bs,KIn ks 6 b.2
 k4:Fit ks
theorem DIn.keep{H a:Hp}{f:Addr}{c e g:V}{ks:List Kn}{cs:List Chn}{bs:List (Str×Str)}(d:DIn H f c e g ks cs bs)(s:∀b vs,H b=some (.tup vs)->a b=some (.tup vs))(h:∃p q:Int,a f=some (.lst [.int p,.int q])):DIn a f c e g ks cs bs:=
 ⟨h,d.kd.tups s _,d.wf,d.pb,d.cd.tups s _,d.c6,d.ck,d.bd.tups s _,d.b5,d.bn,d.bb,d.bk,d.k4⟩
theorem DIn.same{H e:Hp}{f:Addr}{a b c:V}{ks:List Kn}{cs:List Chn}{bs:List (Str×Str)}(d:DIn H f a b c ks cs bs)(s:Same H e):DIn e f a b c ks cs bs:=d.keep (Same.tups s) (by obtain⟨p,q,h⟩:=d.fd;exact(jEE p q (s _ _ h)))
theorem DIn.fed{H e:Hp}{f:Addr}{a b c:V}{ks:List Kn}{cs:List Chn}{bs:List (Str×Str)}(d:DIn H f a b c ks cs bs)(s:Fed f H e):DIn e f a b c ks cs bs:=d.keep (xaj d.fd s) s.2
theorem DIn.tin{H:Hp}{f c:Addr}{g l m:V}{ks:List Kn}{cs:List Chn}{bs:List (Str×Str)}(d:DIn H f g l m ks cs bs){us:List V}(a:H c=none)(e:RelDs H us (bs.map xkf)):TIn (upd H c (.lst us)) f g (.ref c) ks bs 3:=by
 have s:=Same.new a (.lst us);have d':=d.same s;obtain⟨p,q,h⟩:=d.fd;exact⟨d'.fd,d'.kd,d.wf,d.pb,(xb0 c us rfl ups (e.same s _) (Ne.symm (neN h a))),d.bn,by have:=d.b5;omega,λb i j _=>d.bb b i j,d.bk⟩
theorem xvm{k n:Nat}(h:k<n):seqIndex? (k:Int) n=some k:=by
 unfold seqIndex?;have:¬(k:Int)<0:=by omega
 simp only[if_neg this];rw[if_pos (by simp;omega),Int.toNat_natCast]
theorem xq3:∀(l:List Str) (i:Nat),(l.map V.str).eraseIdx i=(l.eraseIdx i).map V.str
 |[],i=>rfl
 |a::l,0=>rfl
 |a::l,i+1=>by
  rw[List.map_cons,List.eraseIdx_cons_succ,List.eraseIdx_cons_succ,List.map_cons,xq3 l i]
theorem tmg{ks:List Kn}(a:KWf ks)(c:Fit ks){bs:List (Str×Str)}{d:D}{x:Str}(b:KIn ks 6 x)(nd:(bs.map (·.1)).Nodup)(h:TmB ks 21 bs d x/\Tz 21 bs d (smK ks x+9)):TmG ks bs d x:=⟨h.1.2 _ (xp4 nd),xmn _ _ _ _ _ (by have:=xto a c b;omega) h.2⟩
def xm6:Sp:=λvs H Q _=>∃(f m:Addr) (kv cv bv:V) (ks:List Kn) (cs:List Chn) (bs:List (Str×Str)) (x:Str) (ms:List Str),vs=[.ref f,kv,cv,.str x,bv,.ref m]/\DIn H f kv cv bv ks cs bs/\H m=some (.lst (ms.map V.str))/\m≠f/\ms.length<=100/\(∀z∈ms,Sh z) ∧
 ∀u r ms' H',Sb2 f m H H'->H' m=some (.lst (ms'.map V.str))->MkS ms r ms'->RelD H' u r.d->(∀n,RowG ks cs x bs n r)->(∀b vs,H b=some (.tup vs)->H' b=some (.tup vs))->Q u H'
theorem xpo(T:Tx K mg)(a:DefIs P w K mg base n "_law_take" qad xcn)(g:DefIs P w K mg base n "_law_new_term" qam xhv):DefIs P w K mg base (n+1) "_law_deal" qa5 xm6:=by
 refine DefIs.of T.k5 scl_deal (by walk_at"l") (λf cl A outer s H vs Q E hr h=>?_);obtain⟨M,ml,kv,cv,bv,ks,cs,bs,x,ms,rfl,d,b4,mf,cf,bh,q⟩:=h;have nd:=scl_deal.nd;have c6:=d.c6;have b5:=d.b5
 refine⟨_,(zpn (psn 6 nd (pd a hr (va 0 (pc pI pN so))))
   (zpn (psn 7 nd (xcy pN))
   (zpn (xbt PassesOwn.never rfl (xal (K:=K) rfl (pv 2)) (xbc (K:=K) rfl rfl (xae (pgn 8 nd) (xae (pgn 9 nd) (xae (pgn 10 nd) (xae (pgn 11 nd) xbb)))))
   (zpo (psn 7 nd (xam xh7 (pv 7) (xbr ["_law_x","_law_told","_law_c","_law_to","_law_h","_law_kind"] [none,none,some 8,some 10,some 3,some 11] rfl (by kernel_rfl) (xal (K:=K) rfl (pv 4)) (λ_ _ _ _=>(xbc (K:=K) (n:=2) rfl rfl (xae (pgc 0) (xae (pgc 1) xbb)))) (λ_ _ _ _=>(xdk (PW.pt (xc1 (pR xa0 (pv 3) (pv 4) (nM _)) (xcp (pR xa0 (pv 1) (pv 5) (nM _))))))) (λ_ _ _ _=>(xa6 (va 2 (v1 0)))))))))
   (zpn (xcc (i:=12) ["_law_c","_law_come","_law_to","_law_kind","_law_h"] [none,none,none,none,some 3] rfl (by kernel_rfl) nd rfl (by walk_at"o") (xal (K:=K) rfl (pv 2)) (λ_ _ _ _=>(xbc (K:=K) (n:=4) rfl rfl (xae (pgc 0) (xae (pgc 1) (xae (pgc 2) (xae (pgc 3) xbb)))))) (λ_ _ _ _=>(xdk (pR xa0 (pv 1) (pv 4) (nM _)))) (λ_ _ _ _=>(xa6 (va 0 (v1 3)))))
   (zpn (xar (PW.pt (xc1 (pR xee (pv 6) pI (nM _)) (xc1 (pR xdt (xai (xac (K:=K) rfl) rfl T.uR PySem.boot_len (v1 7)) pI (nM _)) (xcp (pR xdt (xai (xac (K:=K) rfl) rfl T.uR PySem.boot_len (v1 5)) pI (nM _)))))) (zpn (xc6 (pxl K (pv 7) (pd a hr (va 0 (pc (xai (xac (K:=K) rfl) rfl T.uR PySem.boot_len (v1 7)) pN zsc)))) (xbc (K:=K) rfl rfl (xae (pgn 8 nd) (xae (pgn 13 nd) xbb))))
   (zpo (xaf (xa6 (pc pS (pc (xep PySem.F.plainAttrs_list PySem.F.slot_list_pop PySem.F.type_list_pop xpu (pv 5) (pc (pd a hr (va 0 (pc (xai (xac (K:=K) rfl) rfl T.uR PySem.boot_len (v1 5)) pN zsc))) pN zsc)) (va 8 (v1 13)) zsc) so))))) pQ)
   (zpn (xar (PW.pt (xc1 (pR xee (pv 6) pI (nM _)) (xcp (pR xdt (xai (xac (K:=K) rfl) rfl T.uR PySem.boot_len (v1 12)) pI (nM _))))) (zpn (xc6 (pxl K (pv 12) (pd a hr (va 0 (pc (xai (xac (K:=K) rfl) rfl T.uR PySem.boot_len (v1 12)) pN zsc)))) (xbc (K:=K) rfl rfl (xae (pgn 8 nd) (xae (pgn 11 nd) xbb))))
   (zpo (xaf (xa6 (pc pS (va 8 (pc (pd g hr (va 0 (va 1 (pc (xa7 xc0 rfl T.uS PyProof.Rows.boot_list (v1 4)) (v1 11) zsc)))) pN zsc)) so))))) pQ)
   (zpn (xar (PW.pt (xc1 (pR xee (pv 6) pI (nM _)) (xcp (pR xdt (xai (xac (K:=K) rfl) rfl T.uR PySem.boot_len (v1 4)) pI (nM _))))) (zpn (xc6 (px K (pv 4) (pd a hr (va 0 (pc (xai (xac (K:=K) rfl) rfl T.uR PySem.boot_len (v1 4)) pN zsc)))) (xbc (K:=K) rfl rfl (xae (pgn 13 nd) (xae (pgn 11 nd) xbb))))
   (zpo (xaf (xa6 (pc pS (va 13 (pc (pd g hr (va 0 (va 1 (pc (xa7 xc0 rfl T.uS PyProof.Rows.boot_list (v1 4)) (v1 11) zsc)))) pN zsc)) so))))) pQ)
   (zpo (xaf (xa6 (pc pS (pc (pd g hr (va 0 (va 1 (pc (xa7 xc0 rfl T.uS PyProof.Rows.boot_list (v1 4)) (pc pS pN so) zsc)))) pN zsc) so))))))))))),xad λR1 c7=>?_⟩
 obtain⟨p0,q0,bp⟩:=d.fd;refine(xaa _ rfl M p0 q0 8 rfl bp (by decide) (by decide) (λfm H1 cj ci f1=>c7 _ _ (xad λR2 c4=>?_)));have d1:=d.fed f1;have ak:=f1.1 _ _ b4 mf;refine⟨(by walk_at"s"),λl0 b7=>c4 _ _ (xad λcm bb=>?_)⟩;have s0:=Same.new b7 (.lst []);obtain⟨ca,uc,c8,a4,ab⟩:=id d1.cd;subst c8;obtain⟨ba,ub,c9,I,hB⟩:=id d1.bd;subst c9;have br:=ab.length;have m:=hB.length;rw[zLM]at br m;refine(xba _ rfl ca rfl ⟨_,SqT.of (s0 _ _ a4)⟩ ?_)
 refine xb3 (xs:=uc) (λi σ H'=>∃(l:Addr) (ws:List V) (o8 o9 a3 a2:Option V),σ=[some (.ref M),some kv,some (.ref ca),some (.str x),some (.ref ba),some (.ref ml),some (.int fm),some (.ref l),o8,o9,a3,a2,none,none]/\Same H1 H'/\H1 l=none/\H' l=some (.lst ws)/\(∀w∈ws,IntoAt H' cs x bs w)/\ws.length<=5*i)
  (xav l0 ([]) none none none (xcv none rfl s0 b7 ups (λ_ h=>nomatch h) (Nat.zero_le _))) (λi σ H' _ p=>?_) ?_ ?_
 ·obtain⟨_,_,_,_,_,_,_,sm,_⟩:=p
  exact SqT.of (sm _ _ a4)
 ·rintro i v σ H2 hv ⟨l,ws,o8,o9,a3,a2,rfl,sm,hl,aq,a1,bg⟩
  obtain⟨b,c,hc,rfl,hb⟩:=xfl ab hv;have hi:i<uc.length:=(zES hv).1;refine(xax b _ rfl (SqT.of (sm _ _ hb)) rfl _ _ rfl _ (jEA _ rfl (jEEA _ _ rfl (xat _ _ rfl rfl ?_))));refine(jEA _ rfl (xba _ rfl ba rfl ⟨_,SqT.of (sm _ _ I)⟩ ?_));refine xbv (xs:=ub) (λj ys H'=>Same H2 H'/\(∀w∈ys,IntoAt H' cs x bs w)/\ys.length<=j) (jAA (Same.refl _) (λ_ h=>nomatch h) (Nat.le_refl _)) (xa4 (by omega)) (λj ys H' _ p=>SqT.of ((sm.trans p.1) _ _ I)) ?_ ?_
  ·rintro j y ys H3 hy hj O ⟨Z,o,am⟩
   obtain⟨b2,pb,ao,rfl,bt⟩:=xfw hB hy;refine(xax b2 _ rfl (SqT.of ((sm.trans Z) _ _ bt)) rfl _ _ rfl _ (xbx _ rfl rfl (ext2 rfl rfl) ?_));refine(xcg _ rfl _ rfl rfl _ rfl (ite2 (λc1=>?_) (λc1=>iteF (nxtN hj O (jAA Z o (by omega))))));refine(xcg _ rfl _ rfl rfl _ rfl (ite2 (λc2=>?_) (λc2=>nxtN hj O (jAA Z o (by omega)))));refine(xba _ rfl _ rfl (by walk_at"s") (λt ht=>nxtG hj O ?_));have st:=Same.new ht (.tup [.str c.1,.str pb.1]);refine(jAA (Z.trans st) (λw G=>?_) (by rw[zLA,List.length_singleton];omega));rcases zMA G with G |G
   ·exact(o w G).tups (Same.tups st)
   ·rw[zMO G]
    have e1:c.2.2.1=x:=V.str.inj (of_decide_eq_true c1);have e2:pb.2=c.2.2.2:=V.str.inj (of_decide_eq_true c2);exact(xc2 t c.1 pb.1 rfl ups (xbx c (zMG hc) rfl e1 (by rw[<- e2];exact zMG ao)))
  ·rintro ys H3 O ⟨Z,o,am⟩ D hD
   have sD:=Same.new hD (.lst ys);have al:=Z.trans sD;refine(xbg l D ws ys rfl rfl (al _ _ aq) ups (fits (by omega)) (λl2 b6=>?_));have sl:=Same.new b6 (.lst (ws++ys));have ax:=al.trans sl;refine(xav l2 (ws++ys) _ _ _ (xcv _ rfl (sm.trans ax) (xcj (sm.trans al) b6) ups (λw G=>?_) (by rw[zLA];omega)));rcases zMA G with G |G
   ·exact(a1 w G).tups (Same.tups ax)
   ·exact(o w G).tups (Same.tups (sD.trans sl))
 rintro σ H2 ⟨il,ws,o8,o9,a3,a2,rfl,Z,b8,aq,a1,bg⟩;refine bb _ _ (xad λR3 c0=>?_);have d2:=d1.same Z;have b3:=Z _ _ ak;have F2:Fed M H H2:=f1.same Z;have a4:=Z _ _ a4;have ab:=ab.same Z _;refine(xba _ rfl ca rfl ⟨_,SqT.of a4⟩ ?_);refine xbv (xs:=uc) (λi ys H'=>Same H2 H'/\(∀w∈ys,∃(b:Addr) (ch:Chn),w=.ref b/\H' b=some (.tup [.str ch.1,.str ch.2.2.2])/\ch∈cs/\ch.2.1=x)/\ys.length<=i) (jAA (Same.refl _) (λ_ h=>nomatch h) (Nat.le_refl _)) (xa4 (by omega)) (λi ys H' _ p=>SqT.of (p.1 _ _ a4)) ?_ ?_
 ·rintro i y ys H3 hy hi O ⟨s3,o,am⟩
  obtain⟨b,c,hc,rfl,hb⟩:=xfl ab hy;refine(xax b _ rfl (SqT.of (s3 _ _ hb)) rfl _ _ rfl _ (jEA _ rfl (jEEA _ _ rfl (xb0 _ _ rfl rfl (ext4 rfl rfl rfl rfl) ?_))));refine(xcg _ rfl _ rfl rfl _ rfl (ite2 (λc1=>?_) (λc1=>nxtN hi O (jAA s3 o (by omega)))));refine(xba _ rfl _ rfl (by walk_at"s") (λt ht=>nxtG hi O ?_));have st:=Same.new ht (.tup [.str c.1,.str c.2.2.2]);refine(jAA (s3.trans st) (λw G=>?_) (by rw[zLA,List.length_singleton];omega));rcases zMA G with G |G
  ·obtain⟨b',ch,e,bu,r⟩:=o w G
   exact(xat b' ch e (st _ _ bu) r)
  ·rw[zMO G]
   exact(xb0 t c rfl ups (zMG hc) (V.str.inj (of_decide_eq_true c1)))
 rintro ys H3 O ⟨s3,o,am⟩ D hD;have sD:=Same.new hD (.lst ys);obtain⟨H4,ag⟩:∃H4,H4=upd H3 D (.lst ys):=⟨_,rfl⟩;have aw:H4 D=some (.lst ys):=by rw[ag];exact ups
 rw[<- ag]at sD;have s4:=s3.trans sD;have d4:=d2.same s4;have F4:Fed M H H4:=F2.same s4;have a7:=s4 _ _ b3;have a8:=s4 _ _ aq;obtain⟨p1,q1,b9⟩:=f1.2;have bf:il≠M:=Ne.symm (neN b9 b8);have ce:il≠ml:=Ne.symm (neN ak b8);have Df:D≠M:=Ne.symm (neN (s3 _ _ (Z _ _ b9)) hD);obtain⟨p4,q4,a0⟩:=F4.2;have I:=(Z.trans s4) _ _ I;have af:=hB.same (Z.trans s4) _;have cg:=m;have bc:(ms.map V.str).length=ms.length:=zLM _;have av:∀w∈ws,IntoAt H4 cs x bs w:=λw G=>(a1 w G).tups (Same.tups s4)
 have b0:∀w∈ys,∃(b:Addr) (ch:Chn),w=.ref b/\H4 b=some (.tup [.str ch.1,.str ch.2.2.2])/\ch∈cs/\ch.2.1=x:=λw G=>by
  obtain⟨b,ch,e,hb,r⟩:=o w G;exact(xat b ch e (sD _ _ hb) r)
 rw[<- ag];clear ag a1 o
 have ac:∀{H5 H6:Hp} {u:V} {r:Row},Fed M H4 H5->Same H5 H6->xb6 r=none->RelD H6 u r.d->(∀n,RowG ks cs x bs n r)->Q u H6:=λ{H5 H6 u r} J s6 bj hu bi=>by
  have F5:=(F4.trans J).same s6;exact q u r ms H6 (Sb2.of F5) (s6 _ _ (J.1 _ _ a7 mf)) (.inl ⟨bj,rfl⟩) hu bi (xaj d.fd F5)
 refine c0 _ _ (xad λR4 bz=>?_)
 have a5:R4 [some (.ref M),some kv,some (.ref ca),some (.str x),some (.ref ba),some (.ref ml),some (.int fm),some (.ref il),o8,o9,a3,a2,some (.ref D),none] H4:=by
  refine bz _ _ (xad λR5 bx=>?_)
  have ai:R5 [some (.ref M),some kv,some (.ref ca),some (.str x),some (.ref ba),some (.ref ml),some (.int fm),some (.ref il),o8,o9,a3,a2,some (.ref D),none] H4:=by
   refine bx _ _ (xad λR6 bw=>?_)
   have ah:R6 [some (.ref M),some kv,some (.ref ca),some (.str x),some (.ref ba),some (.ref ml),some (.int fm),some (.ref il),o8,o9,a3,a2,some (.ref D),none] H4:=by
    refine bw _ _ ?_;refine(xa9 _ rfl _ rfl _ rfl ba ub rfl (.inr (SqT.of I)) (λbl m=>?_));have sb:=Same.new m (.lst ub);refine(xav M kv (.ref bl) ks bs (xbx (S "num") rfl (d4.tin m af) (.inl rfl) (λta td H5 J rd tb=>⟨(by walk_at"s"),λt ht=>?_⟩)));have st:=Same.new ht (.tup [.str (S "tell"),.ref ta]);exact ac (r:=.tell td) (((Fed.refl a0).same sb).trans J) st rfl (xan t _ rfl ups _ _ rfl rfl _ (jEAA _ rfl (rd.same st _) rfl)) λ_=>tmg d.wf d.k4 (.inl rfl) d.bn tb
   refine(xa2 _ rfl _ _ rfl rfl _ rfl (ite2 (λc1=>?_) (λc1=>iteF ah)));refine(xbs _ rfl ba _ rfl (.inr (SqT.of I)) _ _ rfl rfl (jEA _ rfl (ite2 (λc2=>?_) (λc2=>ah))));have aj:=of_decide_eq_true c2;refine xad λS1 aa=>?_;refine(xa9 _ rfl _ rfl _ rfl ba _ rfl (.inr (SqT.of I)) (xap M p4 q4 _ rfl a0 (by omega) (by omega) (λr5 H5 az ay J=>?_)));obtain⟨i5,rfl⟩:∃i:Nat,r5=(i:Int):=⟨r5.toNat,by omega⟩;have U:i5<ub.length:=by omega
   have C:=xaj (jEE p4 q4 a0) J;obtain⟨Y,pb,ao,eb,a9⟩:=xfw af (zGA U);refine(xbu ba _ _ (.ref Y) rfl rfl (SqT.of (C _ _ I)) (xak (by rw[zGA U,eb])) Y (xbx _ rfl (SqT.of (C _ _ a9)) rfl (jEEA _ _ rfl (xat _ _ rfl rfl (aa _ _ ?_)))));have an:=zMG ao;have d5:=d4.fed J;refine(xbz _ rfl _ rfl _ rfl _ rfl ba (jEAA ub rfl (.inr (SqT.of (C _ _ I))) (λbl m=>?_)));have sb:=Same.new m (.lst ub);refine(xa1 _ rfl M kv (.ref bl) ks (xb0 bs pb.2 rfl (d5.tin m (af.tups C _)) (d.bk pb an) (λta td H6 f6 rd tb=>⟨(by walk_at"s"),λt ht=>?_⟩)));have st:=Same.new ht (.tup [.str (S "set"),.str pb.1,.ref ta]);exact ac (r:=.set pb.1 td) ((J.same sb).trans f6) st rfl (xan t _ rfl ups _ _ rfl rfl _ (xbj _ rfl rfl _ _ rfl (rd.same st _) rfl)) λ_=>(jEA pb.2 an (tmg d.wf d.k4 (d.bk pb an) d.bn tb))
  refine(xa2 _ rfl _ _ rfl rfl _ rfl (ite2 (λc1=>?_) (λc1=>iteF ai)));refine(xbs _ rfl D _ rfl (.inl (SqL.of aw)) _ _ rfl rfl (jEA _ rfl (ite2 (λc2=>?_) (λc2=>ai))));have aj:=of_decide_eq_true c2;refine xad λS1 aa=>?_;refine(xa9 _ rfl _ rfl _ rfl D _ rfl (.inl (SqL.of aw)) (xap M p4 q4 _ rfl a0 (by omega) (by omega) (λr5 H5 az ay J=>?_)));obtain⟨i5,rfl⟩:∃i:Nat,r5=(i:Int):=⟨r5.toNat,by omega⟩;have U:i5<ys.length:=by omega
  have C:=xaj (jEE p4 q4 a0) J;obtain⟨Y,ch,eb,a9,au,bq⟩:=b0 _ (List.getElem_mem U);refine(xbu D _ _ (.ref Y) rfl rfl (SqL.of (J.1 _ _ aw Df)) (xak (by rw[zGA U,eb])) Y (xbx _ rfl (SqT.of (C _ _ a9)) rfl (jEEA _ _ rfl (xat _ _ rfl rfl (aa _ _ ?_)))));have d5:=d4.fed J;refine(xbz _ rfl _ rfl _ rfl _ rfl ba (jEAA ub rfl (.inr (SqT.of (C _ _ I))) (λbl m=>?_)));have sb:=Same.new m (.lst ub);refine(xa1 _ rfl M kv (.ref bl) ks (xb0 bs ch.2.2.2 rfl (d5.tin m (af.tups C _)) (d.ck ch au) (λta td H6 f6 rd tb=>⟨(by walk_at"s"),λt ht=>?_⟩)));have st:=Same.new ht (.tup [.str (S "send"),.str ch.1,.ref ta]);exact ac (r:=.send ch.1 td) ((J.same sb).trans f6) st rfl (xan t _ rfl ups _ _ rfl rfl _ (xbj _ rfl rfl _ _ rfl (rd.same st _) rfl)) λ_=>(xbx ch au rfl bq (tmg d.wf d.k4 (d.ck ch au) d.bn tb))
 refine(xa2 _ rfl _ _ rfl rfl _ rfl (ite2 (λc1=>?_) (λc1=>iteF a5)));refine(xbs _ rfl il _ rfl (.inl (SqL.of a8)) _ _ rfl rfl (jEA _ rfl (ite2 (λc2=>?_) (λc2=>iteF a5))));refine(xbs _ rfl ml _ rfl (.inl (SqL.of a7)) _ _ rfl rfl (jEA _ rfl (ite2 (λc3=>?_) (λc3=>a5))));have aj:=of_decide_eq_true c2;have bm:=of_decide_eq_true c3;refine xad λS1 aa=>?_;refine(xa9 _ rfl _ rfl _ rfl il _ rfl (.inl (SqL.of a8)) (xap M p4 q4 _ rfl a0 (by omega) (by omega) (λr5 H5 az ay J=>?_)));obtain⟨i5,rfl⟩:∃i:Nat,r5=(i:Int):=⟨r5.toNat,by omega⟩;have U:i5<ws.length:=by omega
 have C:=xaj (jEE p4 q4 a0) J;obtain⟨Y,c5,y5,eb,a9,ar⟩:=av _ (List.getElem_mem U);refine(xbu il _ _ (.ref Y) rfl rfl (SqL.of (J.1 _ _ a8 bf)) (xak (by rw[zGA U,eb])) Y (xbx _ rfl (SqT.of (C _ _ a9)) rfl (jEEA _ _ rfl (xat _ _ rfl rfl (aa _ _ ?_)))));have a6:=J.1 _ _ a7 mf;obtain⟨p5,q5,bo⟩:=J.2;refine(jEAA _ rfl (.inl (jAE rfl _ (SqL.of a6))) ?_);refine(xbo _ rfl _ rfl ml _ rfl (.inl (SqL.of a6)) M (xaq p5 q5 _ rfl bo (by omega) (by omega) (λr6 H6 cc cb f6=>?_)));obtain⟨i6,rfl⟩:∃i:Nat,r6=(i:Int):=⟨r6.toNat,by omega⟩;have ae:i6<ms.length:=by omega
 have b1:=f6.1 _ _ a6 mf;refine(xag ml _ (i6:Int) i6 (.str ms[i6]) rfl rfl b1 (by omega) (by omega) (jAA (xvm (by rw[bc];exact ae)) (by rw[zGM,zGA ae];rfl) ?_));have er:(ms.map V.str).eraseIdx i6=(ms.eraseIdx i6).map V.str:=xq3 ms i6;rw[er];refine(xba _ rfl _ rfl (by walk_at"s") (λt ht=>?_));have st:=Same.new ht (.tup [.str (S "take"),.str ms[i6],.str c5,.str y5]);have F6:Fed M H H6:=F4.trans (J.trans f6);have sb:Sb2 M ml H (upd (upd H6 ml (.lst ((ms.eraseIdx i6).map V.str))) t (.tup [.str (S "take"),.str ms[i6],.str c5,.str y5])):=((Sb2.of F6).upd mf _).same st
 refine q _ (.take ms[i6] c5 y5) (ms.eraseIdx i6) _ sb (st _ _ ups) (.inr ⟨i6,ae,rfl,rfl⟩) ⟨t,_,rfl,ups,_,_,rfl,rfl,_,_,rfl,rfl,_,_,rfl,rfl,_,_,rfl,rfl,rfl⟩ (λ_=>⟨bh _ (List.getElem_mem ae),ar⟩) λb vs e=>st _ _ (by
  rw[xaw λz=>by rw[z,b4]at e;cases e];exact xaj d.fd F6 b vs e)
theorem xnc{ks:List Kn}{cs:List Chn}{x:Str}{bs:List (Str×Str)}{n a:Nat}{r:Row}(h:RowG ks cs x bs n r)(l:n<=a):RowG ks cs x bs a r:=by
 cases r with
 |go g=>exact Nat.lt_of_lt_of_le h l
 |cond t g=>exact⟨h.1,Nat.lt_of_lt_of_le h.2 l⟩
 |_=>exact h
theorem MkS.nd{A:List Row}{b a:List Str}{r:Row}(h:MkS b r a)(n:(A.filterMap xb6++b).Nodup):((A++[r]).filterMap xb6++a).Nodup:=by
 rcases h with⟨h,rfl⟩ |⟨i,hi,h,rfl⟩
 ·rw[List.filterMap_append,List.filterMap_cons,h,List.filterMap_nil,List.append_nil]
  exact n
 ·rw[List.filterMap_append,List.filterMap_cons,h,List.filterMap_nil]
  exact xn1 hi n
theorem MkS.sub{b a:List Str}{r:Row}(h:MkS b r a):a.length<=b.length/\∀z∈a,z∈b:=by
 rcases h with⟨_,rfl⟩ |⟨i,hi,_,rfl⟩
 ·exact⟨Nat.le_refl _,λz hz=>hz⟩
 ·exact⟨by rw[List.length_eraseIdx];split <;> omega,λz hz=>List.mem_of_mem_eraseIdx hz⟩
def xri:Sp:=λvs H Q _=>∃(f nb:Addr) (kv cv bv:V) (ks:List Kn) (cs:List Chn) (bs:List (Str×Str)) (x:Str) (nms:List Str),vs=[.ref f,kv,cv,.str x,bv,.ref nb]/\DIn H f kv cv bv ks cs bs/\H nb=some (.lst (nms.map V.str))/\NmsR nms/\nb≠f/\∀rv rs H',Fed f H H'->RelD H' rv (.tup (rs.map Row.d))->RowsG ks cs x bs rs->Q rv H'
theorem xss{a:List Str}(h:a.length=26):cutV (a.map V.str) (some 20) (some 26)=((a.drop 20).take 6).map V.str:=by
 unfold cutV HT.sIx;rw[zLM,h,List.map_take,List.map_drop];rfl
theorem xso{f l:Addr}{H H1:Hp}{o:HO}(F:Fed f H H1)(hl:H l=none)(lf:l≠f):Fed f H (upd H1 l o):=by
 obtain⟨h1,p,q,h2⟩:=F;exact(jAE (λb u e n=>by rw[xaw (neN e hl)];exact h1 b u e n) p ⟨q,by rw[xaw (Ne.symm lf)];exact h2⟩)
theorem xpk(T:Tx K mg)(a:DefIs P w K mg base n "_law_take" qad xcn)(j:DefIs P w K mg base n "_law_new_term" qam xhv)(O:DefIs P w K mg base n "_law_deal" qa5 xm6):DefIs P w K mg base (n+1) "_law_rows" qa6 xri:=by
 refine DefIs.of T.k6 scl_rows (by walk_at"l") (λf d6 A outer s H vs Q E hr h=>?_);obtain⟨l,nb,kv,cv,bv,ks,cs,bs,x,a8,rfl,d,c7,b2,cz,q⟩:=h;have bz:=b2.len;have nd:=scl_rows.nd;have c6:=d.c6;have b5:=d.b5
 refine⟨_,(zpn (psn 6 nd (xa7 xc0 rfl T.uS PyProof.Rows.boot_list (pc (xd1 xjh (pv 5) (xdq pI) (xdq pI)) pN ss)))
   (zpn (psn 7 nd (xcy pN))
   (zpn (psn 8 nd (xam xbe pI (pd a hr (va 0 (pc pI pN so)))))
   (zpn (xbt PassesOwn.never rfl (xb4 rfl T.uV (pc (xam xci (pv 8) pI) pN xa5)) (pgn 9 nd)
   (zpn (psn 10 nd (pd a hr (va 0 (pc pI pN so))))
   (zpo (xar (pR xee (pv 10) pI (nM _)) (zpn (psn 11 nd (pd j hr (va 0 (va 1 (pc (xa7 xc0 rfl T.uS PyProof.Rows.boot_list (v1 4)) (pc pS pN so) zsc)))))
   (zpo (xaz (xep PySem.F.plainAttrs_list PySem.F.slot_list_append PySem.F.type_list_append xb9 (pv 7) (pc (xa6 (pc pS (va 11 (pc (pd a hr (va 0 (v1 8))) pN zsc)) so)) pN sT))))) (zpo (xar (pR xa0 (pv 10) pI (nM _)) (zpo (xaz (xep PySem.F.plainAttrs_list PySem.F.slot_list_append PySem.F.type_list_append xb9 (pv 7) (pc (pxl K (xcy (pc (xa6 (pc pS pN so)) (pc (xa6 (pc pS (pc (pd a hr (va 0 (v1 8))) pN zsc) so)) pN sT) sT)) (pd a hr (va 0 (pc pI pN so)))) pN ss)))) (zpo (xaz (xep PySem.F.plainAttrs_list PySem.F.slot_list_append PySem.F.type_list_append xb9 (pv 7) (pc (pd O hr (va 0 (va 1 (va 2 (va 3 (va 4 (v1 6))))))) pN zsc))))))))))
   (zpn (xar (pR xdt (pd a hr (va 0 (pc pI pN so))) pI (nM _)) (zpo (xaf (xam (xle (K:=K) rfl) (xa7 (xbl (K:=K) rfl) rfl T.uY PyProof.Rows.boot_tuple (v1 7)) (xa6 (pc (xa6 (pc pS (pc (pd a hr (va 0 (v1 8))) pN zsc) so)) pN sT))))) pQ)
   (zpo (xaf (xam (xle (K:=K) rfl) (xa7 (xbl (K:=K) rfl) rfl T.uY PyProof.Rows.boot_tuple (v1 7)) (xa6 (pc (xa6 (pc pS pN so)) pN sT)))))))))),xad λR1 cj=>?_⟩
 obtain⟨p0,q0,b4⟩:=d.fd;refine(xa9 _ rfl _ rfl _ rfl nb _ rfl (SqL.of c7) (λc0 ca=>?_));rw[xss bz];obtain⟨p,a3⟩:∃p,(a8.drop 20).take 6=p:=⟨_,rfl⟩;have d0:p.length=6:=by rw[<- a3,List.length_take,List.length_drop,bz];rfl
 have c8:p.Nodup:=by
  rw[<- a3]
  have:(a8.drop 20).Sublist (a8.drop 18):=by
   rw[show a8.drop 20=(a8.drop 18).drop 2 by rw[List.drop_drop]];exact List.drop_sublist _ _
  exact b2.n18.sublist ((List.take_sublist _ _).trans this)
 have bm:∀z∈p,Sh z:=λz hz=>by
  rw[<- a3]at hz;exact xec (b2.nm z (List.mem_of_mem_drop (List.mem_of_mem_take hz)))
 rw[a3];have aw:=Same.new ca (.lst (p.map V.str));refine(xat c0 _ rfl (.inl (SqL.of ups)) (λml aq=>cj _ _ (xad λR2 ci=>?_)));have bb:=Same.new aq (.lst (p.map V.str));refine⟨(by walk_at"s"),λG a2=>ci _ _ (xad λR3 ch=>?_)⟩;have b9:=Same.new a2 (.lst []);have s0:=aw.trans (bb.trans b9);obtain⟨H0,am⟩:∃H0,H0=upd (upd (upd H c0 (.lst (p.map V.str))) ml (.lst (p.map V.str))) G (.lst []):=⟨_,rfl⟩;have bp:H0 G=some (.lst []):=by rw[am];exact ups
 have br:H0 ml=some (.lst (p.map V.str)):=by rw[am];exact b9 _ _ ups
 rw[<- am]at s0⊢;clear am;have bg:H ml=none:=xcj aw aq;have be:H G=none:=xcj (aw.trans bb) a2;have a5:ml≠l:=Ne.symm (neN b4 bg);have Y:G≠l:=Ne.symm (neN b4 be);have bc:G≠ml:=λz=>by rw[z,ups]at a2;cases a2
 have F0:Fed l H H0:=(Fed.refl b4).same s0;obtain⟨pA,qA,c9⟩:=F0.2;refine(xaa _ rfl l pA qA 10 rfl c9 (by decide) (by decide) (λrm H1 cr cq f1=>(xat _ _ rfl rfl ?_)));obtain⟨many,b3,d1,cp⟩:∃many:Nat,1+rm=(many:Int)/\1<=many/\many<=10:=(jEAA ((1+rm).toNat) (by omega) (by omega) (by omega))
 suffices bh:R3 [some (.ref l),some kv,some cv,some (.str x),some bv,some (.ref nb),some (.ref ml),some (.ref G),some (.int (many:Int)),none,none,none] H1 by
  rw[<- b3]at bh;exact bh
 refine ch _ _ (xad λR4 cg=>?_);refine(xa2 _ rfl _ _ rfl rfl _ rfl (jAA (by omega) (by omega) ?_))
 refine xc3 (λi σ H'=>∃us,∃(rs:List Row) (ms:List Str) (o9 M J:Option V),σ=[some (.ref l),some kv,some cv,some (.str x),some bv,some (.ref nb),some (.ref ml),some (.ref G),some (.int many),o9,M,J]/\Fed l H H'/\H' G=some (.lst us)/\RelDs H' us (rs.map Row.d)/\rs.length=i/\(∀r∈rs,RowG ks cs x bs many r)/\H' ml=some (.lst (ms.map V.str))/\ms.length<=6/\(∀z∈ms,Sh z)/\(rs.filterMap xb6++ms).Nodup)
  (xav ([]) ([]) p none none (xcv none rfl (F0.trans f1) (f1.1 _ _ bp Y) rfl rfl (jAAA (λ_ h=>nomatch h) (f1.1 _ _ br a5) (by omega) ⟨bm,c8⟩))) ?_ ?_
 ·rintro i σ H2 hi ⟨us,rs,ms,o9,M,J,rfl,F2,af,a6,an,ae,ao,bq,ag,ah⟩
  have d2:=d.keep (xaj d.fd F2) F2.2;obtain⟨p2,q2,al⟩:=F2.2;have ay:=a6.length;rw[zLM]at ay
  have put:∀{H5:Hp} {u:V} {r:Row} {a9:List Str} (M J:Option V),Fed l H H5->H5 G=some (.lst us)->RelDs H5 us (rs.map Row.d)->RelD H5 u r.d->RowG ks cs x bs many r->H5 ml=some (.lst (a9.map V.str))->MkS ms r a9->
    (λi σ H'=>∃us,∃(rs:List Row) (ms:List Str) (o9 M J:Option V),σ=[some (.ref l),some kv,some cv,some (.str x),some bv,some (.ref nb),some (.ref ml),some (.ref G),some (.int many),o9,M,J]/\Fed l H H'/\H' G=some (.lst us)/\RelDs H' us (rs.map Row.d)/\rs.length=i/\(∀r∈rs,RowG ks cs x bs many r)/\H' ml=some (.lst (ms.map V.str))/\ms.length<=6/\(∀z∈ms,Sh z)/\(rs.filterMap xb6++ms).Nodup) (i+1) [some (.ref l),some kv,some cv,some (.str x),some bv,some (.ref nb),some (.ref ml),some (.ref G),some (.int many),some (.int (0+(i:Int))),M,J] (upd H5 G (.lst (us++[u]))):=λ{H5 u r a9} M J F5 c Z hu b0 bt ai=>by
   have tp:∀b vs,H5 b=some (.tup vs)->upd H5 G (.lst (us++[u])) b=some (.tup vs):=λb vs e=>by
    rw[xaw λz=>by rw[z,c]at e;cases e];exact e
   refine(xav (us++[u]) (rs++[r]) a9 _ M (xcv J rfl (xso F5 be Y) ups ?_ (by rw[zLA,List.length_singleton,an]) (jAAA (λr' b1=>?_) (by rw[xaw (Ne.symm bc)];exact bt) (by have:=ai.sub.1;omega) ⟨λz hz=>ag z (ai.sub.2 z hz),ai.nd ah⟩)))
   ·rw[zAP]
    exact(Z.tups tp _).append (xat u ([]) rfl (hu.tups tp _) rfl)
   ·rcases zMA b1 with h |h
    ·exact ae r' h
    ·rw[zMO h];exact b0
  refine xad λS1 cd=>?_;refine(xaa _ rfl l p2 q2 16 rfl al (by decide) (by decide) (λfm H3 d5 d4 f3=>cd _ _ ?_));have F3:=F2.trans f3;have d3:=d2.fed f3;have c3:=xaj d2.fd f3;have I:=f3.1 _ _ af Y;have a4:=f3.1 _ _ ao a5;have a0:=a6.tups c3 _;obtain⟨p3,q3,ak⟩:=F3.2;obtain⟨ba,ub,cm,cb,ce⟩:=id d3.bd;refine(xa2 _ rfl _ _ rfl rfl _ rfl (ite2 (λc1=>?_) (λc1=>?_)))
  ·
   refine xad λS2 cc=>?_;refine(xa9 _ rfl _ rfl _ rfl ba ub (congrArg (λv=>[v]) cm) (.inr (SqT.of cb)) (λbl au=>?_));have sb:=Same.new au (.lst ub);refine(xav l kv (.ref bl) ks bs (xbx (S "num") rfl (d3.tin au ce) (.inl rfl) (λta td H4 f4 rd tb=>cc _ _ ?_)));have a7:Fed l H3 H4:=((Fed.refl ak).same sb).trans f4;have b8:=xaj d3.fd a7;have a1:=a7.1 _ _ I Y;obtain⟨p4,q4,bx⟩:=f4.2;refine(jEAA _ rfl (.inl (jAE rfl _ (SqL.of a1))) ?_);refine(xbf _ rfl _ rfl _ rfl l p4 (xbk q4 many rfl bx (by omega) (by omega) (λg H5 g0 g1 f5=>⟨(by walk_at"s"),λt ht=>?_⟩)));obtain⟨gn,rfl⟩:∃i:Nat,g=(i:Int):=⟨g.toNat,by omega⟩;have st:=Same.new ht (.tup [.str (S "if"),.ref ta,.int gn]);have m:=(a7.trans f5).same st;have av:=xaj d3.fd m;have c:=m.1 _ _ I Y;refine(xaq G us _ rfl rfl c (xa4 (by omega)) ?_);exact put (r:=.cond td gn) _ _ (F3.trans m) c (a0.tups av _) (xan t _ rfl ups _ _ rfl rfl _ (xbj _ rfl ((rd.tups (xaj (jEE p4 q4 bx) f5) _).same st _) _ _ rfl rfl rfl)) ⟨tmg d.wf d.k4 (.inl rfl) d.bn tb,by omega⟩ (m.1 _ _ a4 a5) (.inl ⟨rfl,rfl⟩)
  ·refine(xao _ rfl rfl _ rfl (ite2 (λc2=>?_) (λc2=>?_)))
   ·
    refine(jEAA _ rfl (.inl (jAE rfl _ (SqL.of I))) ?_);refine⟨(by walk_at"s"),λU ac=>?_⟩;have s1:=Same.new ac (.tup [.str (S "end")]);refine(xah _ rfl _ rfl l p3 q3 (xbw many rfl (s1 _ _ ak) (by omega) (by omega) (λg H4 g0 g1 f4=>⟨(by walk_at"s"),λt2 ab=>⟨(by walk_at"s"),λll bw=>?_⟩⟩)));obtain⟨gn,rfl⟩:∃i:Nat,g=(i:Int):=⟨g.toNat,by omega⟩;have s2:=Same.new ab (.tup [.str (S "go"),.int gn]);have s3:=Same.new bw (.lst [.ref U,.ref t2]);have a7:Fed l H3 _:=(((Fed.refl ak).same s1).trans f4).same (s2.trans s3);obtain⟨p5,q5,aj⟩:=a7.2
    have c5:ll≠l:=by
     obtain⟨p6,q6,h6⟩:=f4.2;exact Ne.symm (neN (s2 _ _ h6) bw)
    refine(xaa _ rfl l p5 q5 2 rfl aj (by decide) (by decide) (λr2 H5 cy cx f5=>?_));have m:=a7.trans f5;have c:=m.1 _ _ I Y;have bj:H4 U=some (.tup [.str (S "end")]):=xaj (jEE p3 q3 (s1 _ _ ak)) f4 _ _ ups;have b6:=xaj (jEE p5 q5 aj) f5;have cl:=b6 _ _ ((s2.trans s3) _ _ bj);have ck:=b6 _ _ (s3 _ _ ups);have ar:=f5.1 _ _ ups c5;have c4:r2=0\/r2=1:=by omega
    rcases c4 with rfl |rfl
    ·refine(xbu ll _ _ (.ref U) rfl rfl (SqL.of ar) rfl G (xbk us _ rfl rfl c (xa4 (by omega)) ?_))
     exact put (r:=.fin) _ _ (F3.trans m) c (a0.tups (xaj d3.fd m) _) (xat U _ rfl cl (xat _ _ rfl rfl rfl)) trivial (m.1 _ _ a4 a5) (.inl ⟨rfl,rfl⟩)
    ·refine(xbu ll _ _ (.ref t2) rfl rfl (SqL.of ar) rfl G (xbk us _ rfl rfl c (xa4 (by omega)) ?_))
     exact put (r:=.go gn) _ _ (F3.trans m) c (a0.tups (xaj d3.fd m) _) (xan t2 _ rfl ck _ _ rfl rfl _ (jEAA _ rfl rfl rfl)) (by show gn<many;omega) (m.1 _ _ a4 a5) (.inl ⟨rfl,rfl⟩)
   ·
    refine(jEAA _ rfl (.inl (jAE rfl _ (SqL.of I))) ?_);refine(xa3 _ rfl _ rfl _ rfl _ rfl _ rfl (xa1 _ rfl l ml kv cv (xav bv ks cs bs x (xcv ms rfl d3 a4 a5 (by omega) ⟨ag,λu r a9 H4 ax bu ai hu b0 b8=>?_⟩))));have a1:=ax.1 _ _ I Y bc;have F4:Fed l H H4:=⟨λb o e bf=>ax.1 b o (F3.1 b o e bf) bf (neN e bg),ax.2⟩;refine(xaq G us _ rfl rfl a1 (xa4 (by omega)) ?_);exact put (r:=r) _ _ F4 a1 (a0.tups b8 _) hu (b0 many) bu ai
 rintro σ H2 ⟨us,rs,ms,o9,M,J,rfl,F2,af,a6,an,ae,ao,bq,ag,ah⟩;have co:rs.length<=9:=by omega
 have d2:=d.keep (xaj d.fd F2) F2.2;have ay:=a6.length;rw[zLM]at ay;refine cg _ _ (xad λR7 cf=>?_);obtain⟨p4,q4,al⟩:=F2.2;have bi:=a6.length;rw[zLM]at bi;refine(xaa _ rfl l p4 q4 4 rfl al (by decide) (by decide) (λr4 H5 cw cu f5=>(xat _ _ rfl rfl (jEA _ rfl ?_))));have av:=xaj (jEE p4 q4 al) f5;have F5:=F2.trans f5;have c:=f5.1 _ _ af Y;have Z:=a6.tups av _
 have fin:∀{H6 H7:Hp} {tr tl:Addr} {v:V} {r:Row},Fed l H H6->Same H6 H7->H6 tr=some (.tup us)->RelDs H6 us (rs.map Row.d)->RelD H6 v r.d->r.ends->RowG ks cs x bs (rs.length+1) r->H7 tl=some (.tup (us++[v]))->Q (.ref tl) H7:=λ{H6 H7 tr tl v r} F6 s7 _ y hv he bo aa=>by
  refine q (.ref tl) (rs++[r]) H7 (F6.same s7) (xat tl _ rfl aa ?_) ⟨by rw[zLA,List.length_singleton];omega,λr' b1=>?_,(jEA r (by simp) he),?_⟩
  ·rw[zAP]
   exact(y.same s7 _).append (xat v ([]) rfl (hv.same s7 _) rfl)
  ·rw[zLA,List.length_singleton]
   rcases zMA b1 with h |h
   ·exact xnc (ae r' h) (by omega)
   ·rw[zMO h];exact bo
  ·have e:xb6 r=none:=by
    cases r with
    |take _ _ _=>exact he.elim
    |_=>rfl
   rw[List.filterMap_append,List.filterMap_cons,e,List.filterMap_nil,List.append_nil];exact(List.nodup_append.mp ah).1
 refine ite2 (λc1=>?_) (λc1=>?_)
 ·refine(jEA _ rfl (jEEA G us rfl (.inl ⟨SqL.of c,λtr az=>?_⟩)))
  have sr:=Same.new az (.tup us);obtain⟨p5,q5,aj⟩:=f5.2;refine(xah _ rfl _ rfl l p5 q5 (xbw many rfl (sr _ _ aj) (by omega) (by omega) (λg H6 g0 g1 f6=>⟨(by walk_at"s"),λU ac=>⟨(by walk_at"s"),λt2 ab=>?_⟩⟩)));obtain⟨gn,rfl⟩:∃i:Nat,g=(i:Int):=⟨g.toNat,by omega⟩;have s1:=Same.new ac (.tup [.str (S "go"),.int gn]);have s2:=Same.new ab (.tup [.ref U]);have b7:=xaj (jEE p5 q5 (sr _ _ aj)) f6;have F6:Fed l H _:=((F5.same sr).trans f6).same (s1.trans s2);have C:=(s1.trans s2) _ _ (b7 _ _ ups);have y:=((Z.same sr _).tups b7 _).same (s1.trans s2) _;have hv:RelD (upd (upd H6 U (.tup [.str (S "go"),.int gn])) t2 (.tup [.ref U])) (.ref U) (Row.go gn).d:=(xan U _ rfl (s2 _ _ ups) _ _ rfl rfl _ (jEAA _ rfl rfl rfl));refine(xca tr t2 _ _ rfl rfl (SqT.of C) (SqT.of ups) (fits (by rw[List.length_singleton];omega)) (λe=>?_) ⟨(λ_ e=>nomatch e),λ_ _ tl aa=>?_⟩)
  ·exact fin F6 (Same.refl _) C y hv trivial (by show gn<_;omega) (by rw[ups,e];rfl)
  ·have s7:=Same.new aa (.tup (us++[.ref U]))
   exact fin F6 s7 C y hv trivial (by show gn<_;omega) ups
 ·refine cf _ _ ?_
  refine(jEA _ rfl (jEEA G us rfl (.inl ⟨SqL.of c,λtr az=>?_⟩)));have sr:=Same.new az (.tup us);refine⟨(by walk_at"s"),λU ac=>⟨(by walk_at"s"),λt2 ab=>?_⟩⟩;have s1:=Same.new ac (.tup [.str (S "end")]);have s2:=Same.new ab (.tup [.ref U]);have sA:=sr.trans (s1.trans s2);have F6:Fed l H _:=F5.same sA;have C:=(s1.trans s2) _ _ (show upd H5 tr (.tup us) tr=some (.tup us) from ups);have y:=Z.same sA _;have hv:RelD (upd (upd (upd H5 tr (.tup us)) U (.tup [.str (S "end")])) t2 (.tup [.ref U])) (.ref U) Row.fin.d:=(xat U _ rfl (s2 _ _ ups) (xat _ _ rfl rfl rfl));refine(xca tr t2 _ _ rfl rfl (SqT.of C) (SqT.of ups) (fits (by rw[List.length_singleton];omega)) (λe=>?_) ⟨(λ_ e=>nomatch e),λ_ _ tl aa=>?_⟩)
  ·exact fin F6 (Same.refl _) C y hv trivial trivial (by rw[ups,e];rfl)
  ·have s7:=Same.new aa (.tup (us++[.ref U]))
   exact fin F6 s7 C y hv trivial trivial ups
structure NIn(H:Hp)(nb:Addr)(nms:List Str):Prop where
 nl:H nb=some (.lst (nms.map V.str))
 ok:NmsR nms
 nby:∀z∈nms,NoBy z
theorem NIn.same{H c:Hp}{b:Addr}{a:List Str}(g:NIn H b a)(s:Same H c):NIn c b a:=⟨s _ _ g.nl,g.ok,g.nby⟩
theorem NIn.name{H:Hp}{b:Addr}{a:List Str}(g:NIn H b a){i:Nat}(h:i<26):∃z,a[i]?=some z/\atI (a.map V.str) (i:Int)=some (.str z):=by
 have c:=g.ok.len;exact(jEA (a[i]'(by omega)) (zGA _) (xak (by rw[zGM,zGA (by omega)];rfl)))
structure MkW(nms:List Str)(mk:Mak):Prop where
 k4:mk.kinds.length<=4
 kn:mk.kinds.map Kn.name=nms.take mk.kinds.length
 c5:mk.chans.length<=5
 cn:mk.chans.map (·.1)=(nms.drop 12).take mk.chans.length
 ne:mk.hands≠[]
 hn:mk.hands.map Hand.name=nms.take mk.hands.length
def xje(K:Fg):Sp:=λvs H Q _=>∃(a nb:Addr) (ns:List Int) (at_ many:Nat) (kv cv:V) (ks:List Kn) (cs:List Chn) (nms:List Str),vs=[.ref a,.int at_,kv,cv,.int many,.ref nb]/\SqL K H a (ns.map V.int)/\ns.length<=63/\NIn H nb nms/\RelD H kv (xcz ks)/\KWf ks/\PNB ks/\ks.length<=4/\Fit ks/\RelD H cv (.tup (cs.map dChn))/\ChsOk ks nms many cs/\1<=many/\many<=4 ∧
 ∀v mk H',Same H H'->RelD H' v mk.d->MakG mk->mk.hands.map Hand.name=nms.take many->mk.chans=cs->mk.kinds=ks->Q v H'
def xm0(K:Fg):Sp:=λvs H Q _=>∃(a nb:Addr) (ns:List Int) (at_:Nat) (nms:List Str),vs=[.ref a,.int at_,.ref nb]/\SqL K H a (ns.map V.int)/\ns.length<=63/\NIn H nb nms ∧
 ∀v mk H',Same H H'->RelD H' v mk.d->MakG mk->MkW nms mk->Q v H'
theorem xsk{ks:List Kn}{cs:List Chn}{a:List Str}{bs:List (Str×Str)}{rs:List Row}{x:Str}(c:NmsR a)(e:x∈a)(b:BsOk ks a bs)(r:RowsG ks cs x bs rs):HandG ks cs ⟨x,bs,rs⟩:=⟨xec (c.nm x e),b.nd,b.len,λp f=>xec (c.nm _ (b.nm p f)),b.kin,r⟩
theorem xnp(T:Tx K mg)(x:DefIs P w K mg base n "_law_feed" qas (xks K))(p:DefIs P w K mg base n "_law_boxes" qbj xtm)(u:DefIs P w K mg base n "_law_rows" qa6 xri):DefIs P w K mg base (n+1) "_law_hands" qa8 (xje K):=by
 refine DefIs.of T.uB scl_hands (by walk_at"l") (λf av A outer s H vs Q E hr h=>?_);obtain⟨a,U,ns,ao,many,kv,cv,ks,cs,j,rfl,hS,am,g,hk,wf,pb,aq,Y,hc,m,h1,h4,q⟩:=h;have nd:=scl_hands.nd;have au:=g.ok.len
 refine⟨_,(zpn (psn 6 nd (xcy pN))
   (zpn (xbt PassesOwn.never rfl (xb4 rfl T.uV (v1 4)) (pgn 7 nd)
   (zpn (psn 8 nd (pd x hr (va 0 (pc (xam xbe (pv 1) (pv 7)) pN xa5))))
   (zpn (psn 9 nd (pd p hr (va 8 (va 2 (va 3 (pc (pxl K (pv 5) (pv 7)) (v1 5) ss))))))
   (zpo (xaz (xep PySem.F.plainAttrs_list PySem.F.slot_list_append PySem.F.type_list_append xb9 (pv 6) (pc (xa6 (pc (pxl K (pv 5) (pv 7)) (va 9 (pc (pd u hr (va 8 (va 2 (va 3 (pc (pxl K (pv 5) (pv 7)) (va 9 (v1 5)) ss))))) pN zsc)) ss)) pN sT)))))))
   (zpo (xaf (xa6 (va 2 (va 3 (pc (xa7 (xbl (K:=K) rfl) rfl T.uY PyProof.Rows.boot_tuple (v1 6)) pN zsc)))))))),xad λR1 al=>?_⟩
 refine⟨(by walk_at"s"),λl hl=>al _ _ (xad λR2 ak=>?_)⟩;have s0:=Same.new hl (.lst []);refine(xba _ rfl _ rfl (by omega) ⟨by omega,?_⟩)
 refine xc3 (λi σ H'=>∃us,∃(hs:List Hand) (o7 o8 o9:Option V),σ=[some (.ref a),some (.int ao),some kv,some cv,some (.int many),some (.ref U),some (.ref l),o7,o8,o9]/\Same H H'/\H' l=some (.lst us)/\RelDs H' us (hs.map Hand.d)/\hs.length=i/\hs.map Hand.name=j.take i/\∀h∈hs,HandG ks cs h)
  (xag ([]) ([]) none none none rfl s0 ups rfl rfl ⟨rfl,λ_ h=>nomatch h⟩) ?_ ?_
 ·rintro i σ H1 hi ⟨us,hs,o7,o8,o9,rfl,s1,O,M,a7,C,a0⟩
  have ar:i<4:=by omega
  have e0:(0+(i:Int))=(i:Int):=by omega
  have ab:=M.length;rw[zLM]at ab;refine xad λS1 aj=>?_;refine(xa9 _ rfl _ rfl _ rfl _ _ rfl rfl (xaq a ns _ rfl (s1.seq hS) am (by omega) (λr p1 q1 nr=>aj _ _ (xad λS2 ai=>?_))));have sr:=Same.new nr (.lst [.int p1,.int q1]);obtain⟨H2,a1⟩:∃H2,H2=upd H1 r (.lst [.int p1,.int q1]):=⟨_,rfl⟩;have ag:H2 r=some (.lst [.int p1,.int q1]):=by rw[a1];exact ups
  rw[<- a1]at sr⊢;clear a1;have J:=s1.trans sr;have g2:=g.same J;have a4:U≠r:=neN (g.same s1).nl nr;have lr:l≠r:=neN O nr;obtain⟨z,hz,az⟩:=g2.name (i:=i) (by omega);have a2:atI (j.map V.str) (0+(i:Int))=some (.str z):=by rw[e0];exact az
  have G2:GIn H2 r U kv ks j:=⟨(jEE p1 q1 ag),g2.nl,g.ok,a4,g.nby,hk.same J _,wf,pb⟩;refine(xa3 _ rfl _ rfl _ rfl _ rfl _ rfl (xbu U _ _ _ rfl rfl (SqL.of g2.nl) a2 _ (jAE rfl r (xav U kv cv ks j (xas cs z rfl G2 (hc.same J _) m.len m.kin (λbv bs H3 f3 a8 G=>ai _ _ ?_))))));have G3:=G2.fed f3;have a9:=xaj G2.fd f3;have a6:=f3.1 _ _ (sr _ _ O) lr;have d3:DIn H3 r kv cv bv ks cs bs:=⟨G3.fd,G3.kd,wf,pb,(hc.same J _).tups a9 _,m.len,λc y=>(m.kin c y).mono wf.few,a8,G.len,G.nd,λb hb=>g.nby _ (G.nm b hb),G.kin,Y⟩;refine(jEAA _ rfl (.inl (jAE rfl _ (SqL.of a6))) ?_);refine(xah _ rfl _ rfl U _ _ (xau _ rfl rfl (SqL.of G3.nl) a2 _ rfl ?_));refine(xa3 _ rfl _ rfl _ rfl _ rfl _ rfl (xbu U _ _ _ rfl rfl (SqL.of G3.nl) a2 _ (jAEA rfl _ rfl (xav r U kv cv bv (xag ks cs bs z j rfl d3 G3.nl g.ok a4 (λrv rs H4 f4 ae af=>⟨(by walk_at"s"),λt ht=>?_⟩))))));have st:=Same.new ht (.tup [.str z,bv,rv]);have an:=f3.trans f4;have a5:=f4.1 _ _ a6 lr;have aa:Same H1 H4:=Fed.back nr sr an;refine(xaq l us _ rfl rfl (st _ _ a5) (xa4 (by omega)) ?_);have a3:=aa.trans st
  have I:∀b vs,upd H4 t (.tup [.str z,bv,rv]) b=some (.tup vs)->upd (upd H4 t (.tup [.str z,bv,rv])) l (.lst (us++[.ref t])) b=some (.tup vs):=λb vs e=>by
   rw[xaw λz=>by rw[z,st _ _ a5]at e;cases e];exact e
  refine(xag (us++[.ref t]) (hs++[⟨z,bs,rs⟩]) _ _ _ rfl (λb o e=>?_) ups ?_ (by rw[zLA,List.length_singleton,a7]) ⟨?_,λh hh=>?_⟩)
  ·rw[xaw (neN e hl)]
   exact a3 _ _ (s1 _ _ e)
  ·rw[zAP]
   refine((M.same a3 _).tups I _).append (xat (.ref t) ([]) rfl ?_ rfl);exact(xan t _ rfl (I _ _ ups) _ _ rfl rfl _ (xbj _ rfl (((a8.tups (xaj G3.fd f4) _).same st _).tups I _) _ _ rfl ((ae.same st _).tups I _) rfl))
  ·rw[zAP,C,zTA,hz]
   rfl
  ·rcases zMA hh with h' | h'
   ·exact a0 h h'
   ·rw[zMO h']
    exact xsk g.ok (zMG hz) G af
 ·rintro σ H1 ⟨us,hs,o7,o8,o9,rfl,s1,O,M,a7,C,a0⟩
  refine ak _ _ ?_;refine(xbf _ rfl _ rfl _ rfl l us ⟨rfl,.inl ⟨SqL.of O,λt ht=>⟨(by walk_at"s"),λt2 ac=>?_⟩⟩⟩);have st:=Same.new ht (.tup us);have Z:=Same.new ac (.tup [kv,cv,.ref t]);have sA:=s1.trans (st.trans Z)
  have ah:(cs.map (·.1)).Nodup:=by
   rw[m.nm]
   have:((j.drop 12).take cs.length).Sublist ((j.drop 12).take 6):=by
    have h6:=m.len;rw[show(j.drop 12).take cs.length=((j.drop 12).take 6).take cs.length by rw[List.take_take,Nat.min_eq_left h6]];exact List.take_sublist _ _
   exact g.ok.n12.sublist this
  refine q _ ⟨ks,cs,hs⟩ _ sA (xan t2 _ rfl ups _ _ rfl (hk.same sA _) _ (xbj _ rfl (hc.same sA _) _ _ rfl (xat t us rfl (Z _ _ ups) (M.same (st.trans Z) _)) rfl)) ⟨wf,Y,ah,(by have:=m.len;show cs.length<=7;omega),(λc y=>?_),(λc y=>(m.kin c y).mono wf.few),(λc y=>?_),?_,by show hs.length<=4;omega,a0⟩ ?_ rfl rfl
  ·have hm:c.1∈cs.map (·.1):=List.mem_map_of_mem y
   rw[m.nm]at hm;exact xec (g.ok.nm _ (List.mem_of_mem_drop (List.mem_of_mem_take hm)))
  ·show c.2.1∈hs.map Hand.name/\c.2.2.1∈hs.map Hand.name
   rw[C];exact m.ends c y
  ·show(hs.map Hand.name).Nodup
   rw[C]
   have:(j.take many).Sublist (j.take 8):=by
    rw[show j.take many=(j.take 8).take many by rw[List.take_take,Nat.min_eq_left (by omega)]];exact List.take_sublist _ _
   exact g.ok.n0.sublist this
  ·exact C
theorem xpl(T:Tx K Z)(b:DefIs P w K Z base n "_law_feed" qas (xks K))(m:DefIs P w K Z base n "_law_take" qad xcn)(i:DefIs P w K Z base n "_law_kinds" qbg xm3)(c:DefIs P w K Z base n "_law_channels" qbi xql)(l:DefIs P w K Z base n "_law_hands" qa8 (xje K)):DefIs P w K Z base (n+1) "_law_make" qa7 (xm0 K):=by
 refine DefIs.of T.uA scl_make (by walk_at"l") (λf aj A outer s H vs Q E hr h=>?_);obtain⟨a,C,ns,o,u,rfl,hS,U,g,q⟩:=h;have nd:=scl_make.nd
 refine⟨_,(zpn (psn 3 nd (pd i hr (pc (pd b hr (va 0 (v1 1))) (v1 2) zsc)))
   (zpn (psn 4 nd (pd b hr (va 0 (pc (xam xbe (pv 1) pI) pN xa5))))
   (zpn (psn 5 nd (xam xbe pI (pd m hr (va 4 (pc pI pN so)))))
   (zpo (xaf (pd l hr (va 0 (pc (xam xbe (pv 1) pI) (va 3 (pc (pd c hr (va 4 (va 3 (va 2 (v1 5))))) (va 5 (v1 2)) zsc)) xa5)))))))),xad λR1 ag=>?_⟩
 refine(xay _ rfl _ rfl a ns o rfl hS (jAA U (by omega) (λr p1 q1 nr=>?_)));have sr:=Same.new nr (.lst [.int p1,.int q1]);have g1:=g.same sr;have a7:C≠r:=neN g.nl nr;refine(xa1 _ rfl r C p1 q1 (xcv u rfl ups g1.nl g.ok a7 (λkv ks H1 f1 a4 aa a5=>ag _ _ (xad λR2 af=>?_))));have Y:Same H H1:=Fed.back nr sr f1;obtain⟨wf,h4,ab,a9⟩:=aa
 have pb:PNB ks:=λk hk p hp j=>by
  have hm:p.1∈u:=by
   have h9:=(a9 k hk).2;have a6:p.1∈k.parts.map (·.1):=List.mem_map_of_mem hp;rw[h9]at a6;exact List.mem_of_mem_drop (List.mem_of_mem_take (List.mem_of_mem_take a6))
  exact g.nby _ hm j
 refine(xbo _ rfl _ rfl _ _ rfl rfl a (xbk ns _ rfl (Y.seq hS) U (by omega) (λr2 p2 q2 y=>af _ _ (xad λR3 ae=>?_))));have J:=Same.new y (.lst [.int p2,.int q2]);have g2:=(g.same Y).same J;have a1:C≠r2:=neN (g.same Y).nl y;refine(xaa _ rfl r2 p2 q2 4 rfl ups (by decide) (by decide) (λhm H3 ai ah f3=>(xat _ _ rfl rfl ?_)));obtain⟨many,O,I,G⟩:∃many:Nat,1+hm=(many:Int)/\1<=many/\many<=4:=(jEAA ((1+hm).toNat) (by omega) (by omega) (by omega))
 suffices a2:R3 [some (.ref a),some (.int o),some (.ref C),some kv,some (.ref r2),some (.int (many:Int))] H3 by
  rw[<- O]at a2;exact a2
 refine ae _ _ ?_;have M:Same H1 H3:=Fed.back y J f3;have g3:=(g.same Y).same M;have s3:=Y.trans M;have a8:=f3.2;have G3:GIn H3 r2 C kv ks u:=⟨a8,g3.nl,g.ok,a1,g.nby,a4.same M _,wf,pb⟩;refine(xcb _ rfl _ rfl _ _ rfl rfl _ rfl (xbz _ rfl _ rfl _ rfl _ rfl r2 (xck C kv ks u many rfl G3 I G (λcv cs H4 f4 ac x=>?_))));have a0:Same H1 H4:=Fed.back y J (f3.trans f4);have s4:=Y.trans a0;refine(xah _ rfl _ rfl a C ns (xav (o+2) many kv cv ks (xas cs u ?_ (s4.seq hS) U (g.same s4) (a4.same a0 _) (jAAA wf pb h4 (jAAA a5 ac x (jAA I G (λv mk H5 s5 hv a3 z ec ek=>q v mk H5 (s4.trans s5) hv a3 ⟨by rw[ek];exact h4,by rw[ek];exact ab,by rw[ec];exact x.l5,by rw[ec];exact x.nm,λe=>?_,?_⟩)))))))
 ·show[V.ref a,V.int ((o:Int)+2),kv,cv,V.int many,V.ref C]=_
  rw[show((o:Int)+2)=((o+2:Nat):Int) by omega]
 ·rw[e]at z
  have:=congrArg List.length z;rw[List.length_take,g.ok.len]at this;simp at this;omega
 ·have hl:=congrArg List.length z
  rw[zLM,List.length_take,g.ok.len]at hl;rw[z,show mk.hands.length=many by omega]
theorem Same.over{H a:Hp}{p:Addr}(s:Same H a)(c:H p=none)(o:HO):Same H (upd a p o):=λb u q=>by
 rw[xaw (neN q c)];exact s b u q
def KSz(H:Hp)(kv:V)(p:Addr)(ks:List Kn)(i:Nat)(k:Kn):Prop:=KWf ks/\ks[i]?=some k/\RelD H kv k.d/\H p=some (.dK (szK ks i))
def xkr:Sp:=λvs H Q _=>∃kv p ks i k,vs=[kv,.ref p]/\KSz H kv p ks i k/\∀H',Same H H'->Q (.int (sz ks k.name)) H'
def xfq:Sp:=λvs H Q _=>∃kv p ks i k,vs=[kv,.ref p]/\KSz H kv p ks i k/\∀H',Same H H'->Q .non H'
def xe7:Sp:=λvs H Q _=>∃kv p ks i k,vs=[kv,.ref p]/\KSz H kv p ks i k/\sz ks k.name<=30/\∀H',Same H H'->Q (.int (sz ks k.name)) H'
def xeb:Sp:=λvs H Q _=>∃kv ks,vs=[kv]/\RelD H kv (xcz ks)/\KWf ks/\Fit ks/\∀H',Same H H'->Q (.bl true) H'
theorem xk9{ks:List Kn}(a:KWf ks){i:Nat}{k:Kn}(hi:ks[i]?=some k){p:Str×Str}(b:p∈k.parts):KIn ks i p.2:=a.ref i k hi p b
theorem xqz{H:Hp}{p:Addr}{ks:List Kn}{i:Nat}{x:Str}(a:KWf ks)(b:H p=some (.dK (szK ks i)))(h:KIn ks i x):DGet H p (.str x) (some (.int (sz ks x))):=by
 have g:DGet H p (.str x) (valV (szK ks i) (Sum.inr x)):=DGet.k (k:=Sum.inr x) b;rw[xrg a h]at g;exact g
theorem xl0(T:Tx K mg):DefIs P w K mg base (n+1) "size_by" qaf xkr:=by
 refine DefIs.of T.jE sc_size_by (by walk_at"l") (λf a1 A outer s H vs Q E hr h=>?_);obtain⟨kv,p,ks,i,k,rfl,⟨c,hi,hk,hp⟩,q⟩:=h;have nd:=sc_size_by.nd;have hu:=xe3 hr
 refine⟨_,(zpn (xcc (i:=2) ["part","sizes"] [none,some 1] rfl (by kernel_rfl) nd rfl (by walk_at"o") (xal (K:=K) rfl (px K (pv 0) pI)) (λ_ _ _ _=>(pgc 0)) (λ_ _ _ _=>xbq) (λ_ _ _ _=>(xdr hu (pv 1) (px K (pv 0) pI) (λ_ _=>rfl))))
   (zpn (xar (pR xa0 (px K (pv 0) pI) pS (nM _)) (zpo (xaf (xam xbe pI (xai (xgb rfl) rfl T.uX PyProof.Rows.boot_sum (v1 2))))) pQ)
   (zpo (xaf (xam xbe pI (xai (xi0 rfl) rfl T.uT PyProof.Rows.boot_max (v1 2))))))),?_⟩
 obtain⟨b,ws,rfl,O,_,_,rfl,rfl,_,_,rfl,rfl,v3,_,rfl,r3,rfl⟩:=hk;obtain⟨a,us,rfl,U,e⟩:=r3;have hl:=e.length;rw[zLM]at hl;have M:=zMG hi;have h5:=c.pts k M;have ez:=xti c hi;refine(xaa _ rfl b _ _ _ rfl rfl (SqT.of O) rfl (jEAA a rfl ⟨_,SqT.of U⟩ ?_));refine xdb (j:=0) (xs:=us) (λu ys x=>x=H/\ys=((k.parts.take u).map λp=>sz ks p.2).map V.int) (by rfl) ⟨rfl,rfl⟩ (xa4 (by omega)) (λu ys x _ p=>by obtain⟨rfl,_⟩:=p;exact SqT.of U) ?_ ?_
 ·rintro u y ys x J m ⟨rfl,rfl⟩
  obtain⟨d,hd,rd⟩:=e.get J;rw[zGM]at hd;obtain⟨pr,g,rfl⟩:=zMS hd;obtain⟨b',a0,rfl,I,_,_,rfl,rfl,_,_,rfl,rfl,rfl⟩:=rd;have G:u<us.length:=(zES J).1;refine(xah _ rfl _ rfl b' _ _ (xbw _ rfl rfl (SqT.of I) rfl (xat p _ rfl (xqz c hp (xk9 c hi (zMG g))) (nxt G m ⟨rfl,?_⟩))));rw[zTA,g];simp
 ·rintro ys x m ⟨rfl,rfl⟩ D hD
  rw[zTL (by omega)];have C:=Same.new hD (.lst ((k.parts.map λp=>sz ks p.2).map V.int))
  have r:∀n∈k.parts.map (λp=>sz ks p.2),0<=n/\n<=1000000:=λn hn=>by
   obtain⟨p,_,rfl⟩:=zMP hn;have Z:=xth c p.2;have Y:=xvh c p.2;exact⟨by omega,by omega⟩
  refine(xaa _ rfl b _ _ _ rfl rfl (SqT.of (C _ _ O)) rfl (jAEA rfl _ rfl ?_))
  cases o:k.rc with
  |true=>
   refine iteKT (zDT (by unfold Kn.sort;rw[if_pos o];rfl)) ?_;refine(xa8 _ rfl D _ rfl (SqL.of ups) r (jAE (by rw[zLM];omega) _ (jEAA _ rfl rfl ?_)));have:=q _ C;rw[ez]at this;unfold inSz at this;rw[if_pos o]at this;exact this
  |false=>
   refine iteKF (zDF (by unfold Kn.sort;rw[if_neg (by rw[o];decide)];decide +kernel)) ?_;have l:=c.alt k M o;refine(xa8 _ rfl D _ rfl (SqL.of ups) (λz=>l (List.map_eq_nil_iff.mp z)) (λmx Z Y=>(xat _ _ rfl rfl ?_)));have:=q _ C;rw[ez]at this;unfold inSz at this;rw[if_neg (by rw[o];decide),<- xn0 (λz=>l (List.map_eq_nil_iff.mp z)) (λn hn=>(r n hn).1) Z Y]at this;exact this
theorem xgg(T:Tx K b)(a:DefIs P w K b base n "size_by" qaf xkr):DefIs P w K b base (n+1) "looked_size" qaf xe7:=by
 refine DefIs.of T.jD sc_looked_size (by walk_at"l") (λf l A outer s H vs Q E g h=>?_);obtain⟨m,p,ks,i,k,rfl,hz,j,q⟩:=h;have nd:=sc_looked_size.nd
 refine⟨_,(zpn (psn 2 nd (pd a g (va 0 (v1 1))))
   (zpn (xar (pR xdt (pv 2) (xdc T.uG) (nM _)) (zpn (psn 3 nd (px K (pv 0) pI))
   (zpo xbh)) pQ)
   (zpo (xaf (pv 2))))),?_⟩
 refine(xah _ rfl _ rfl _ p ks (xat i k rfl hz (λo e=>(xa2 _ rfl _ _ rfl rfl _ rfl (ite2 (λc=>?_) (λc=>?_))))))
 ·have:=of_decide_eq_true c
  omega
 ·exact(jEA _ rfl (q _ e))
abbrev xtl:Sp:=xde
theorem xhc(T:Tx K mg)(c:DefIs P w K mg base n "need_once" qaj xtl):DefIs P w K mg base (n+1) "look_names" qaf xfq:=by
 refine DefIs.of T.jB sc_look_names (by walk_at"l") (λf a1 A outer s H vs Q E hr h=>?_);obtain⟨kv,p,ks,i,k,rfl,⟨u,hi,hk,hp⟩,q⟩:=h;have nd:=sc_look_names.nd;have hu:=xe3 hr
 refine⟨_,(zpn (psn 2 nd (px K (pv 0) pI))
   (zpn (psn 3 nd (px K (pv 0) pI))
   (zpn (xar (xkw (xqs hu (pv 2) (pv 1))) (zpo xbh) pQ)
   (zpn (xaz (pd c hr (pc (xbr ["part"] [none] rfl (by kernel_rfl) (xal (K:=K) rfl (pv 3)) (λ_ _ _ _=>(pgc 0)) (λ_ _ _ _=>xbq) (λ_ _ _ _=>(px K (pv 0) pI))) (pc (xg8 (xk0 (xky (pv 2) xkz))) pN xem) xbp)))
   (zpo (xbt PassesOwn.never rfl (xal (K:=K) rfl (pv 3)) (pgn 4 nd)
   (zpn (psn 5 nd (px K (pv 4) pI))
   (zpo (xar (xkw (xh6 hu (pv 5) (pv 1))) (zpo xbh) pQ))))))))),?_⟩
 obtain⟨b,ws,rfl,hb,_,_,rfl,rfl,_,_,rfl,rfl,v3,_,rfl,r3,rfl⟩:=hk;obtain⟨a,us,rfl,I,l⟩:=r3;have hl:=l.length;rw[zLM]at hl;have U:=zMG hi;have h5:=u.pts k U
 have g0:DGet H p (.str k.name) none:=by
  have g:DGet H p (.str k.name) (valV (szK ks i) (Sum.inr k.name)):=DGet.k (k:=Sum.inr k.name) hp;rw[xmv u hi]at g;exact g
 refine(xaa _ rfl b _ _ _ rfl rfl (SqT.of hb) rfl ?_);refine(xaa _ rfl b _ _ _ rfl rfl (SqT.of hb) rfl ?_);refine(xcb _ rfl _ rfl p _ rfl g0 _ rfl (iteF ?_));refine(xba _ rfl a rfl ⟨_,SqT.of I⟩ ?_);refine xdb (j:=0) (xs:=us) (λG ys e=>e=H/\ys=((k.parts.take G).map λp=>p.1).map V.str) (by rfl) ⟨rfl,rfl⟩ (xa4 (by omega)) (λG ys e _ p=>by obtain⟨rfl,_⟩:=p;exact SqT.of I) ?_ ?_
 ·rintro G y ys e hy C ⟨rfl,rfl⟩
  obtain⟨d,hd,rd⟩:=l.get hy;rw[zGM]at hd;obtain⟨pr,m,rfl⟩:=zMS hd;obtain⟨Z,J,rfl,o,_,_,rfl,rfl,_,_,rfl,rfl,rfl⟩:=rd;have Y:G<us.length:=(zES hy).1;refine(xaa _ rfl Z _ _ _ rfl rfl (SqT.of o) rfl (nxt Y C ⟨rfl,?_⟩));rw[zTA,m];simp
 rintro ys H9 C ⟨rfl,rfl⟩ D hD;rw[zTL (by omega)];have x:=Same.new hD (.lst ((k.parts.map λp=>p.1).map V.str));have z:=(u.nm k U).le;rw[Array.length_toList]at z;have a0:k.name.length<=6:=z;have r:(Str.empty++Str.ofString "parts of the kind ").length=18:=by walk_at"k"
 refine(jAEA (fits (by rw[r];decide)) _ rfl (xbw _ rfl (fits (by omega)) (fits (by rw[Str.length_append,r];omega)) (fits (by rw[Str.length_append,r];omega)) ?_));refine(xaq D (k.parts.map λp=>p.1) _ rfl ups (u.pnd k U) (by rw[zLM];omega) ?_);refine(xba _ rfl a rfl ⟨_,SqT.of (x _ _ I)⟩ ?_);refine xb3 (xs:=us) (λi σ e=>∃O M,σ=[some (.ref b),some (.ref p),some (.str k.name),some (.ref a),O,M]/\e=upd H9 D (.lst ((k.parts.map λp=>p.1).map V.str))) (jEEA none none rfl rfl) (λi σ e _ p=>?_) ?_ ?_
 ·obtain⟨_,_,_,rfl⟩:=p
  exact SqT.of (x _ _ I)
 ·rintro j v σ e hv ⟨O,M,rfl,rfl⟩
  obtain⟨d,hd,rd⟩:=l.get hv;rw[zGM]at hd;obtain⟨pr,m,rfl⟩:=zMS hd;obtain⟨Z,J,rfl,o,_,_,rfl,rfl,_,_,rfl,rfl,rfl⟩:=rd;refine(xaa _ rfl Z _ _ _ rfl rfl (SqT.of (x _ _ o)) rfl ?_);exact(xcb _ rfl _ rfl p _ rfl (xqz u (x _ _ hp) (xk9 u hi (zMG m))) _ rfl (iteF (jEEA _ _ rfl rfl)))
 ·rintro σ e ⟨O,M,rfl,rfl⟩
  exact q _ x
theorem xhd(T:Tx K C)(e:DefIs P w K C base n "look_names" qaf xfq)(c:DefIs P w K C base n "looked_size" qaf xe7):DefIs P w K C base (n+1) "look_kinds" ["kinds"] xeb:=by
 refine DefIs.of T.jA sc_look_kinds (by walk_at"l") (λf a1 A outer s H vs Q E G h=>?_);obtain⟨kv,ks,rfl,hk,u,I,q⟩:=h;have nd:=sc_look_kinds.nd;have hu:=xe3 G
 refine⟨_,(zpn (psn 1 nd (xrv (xpc pS pI xrq) rfl rfl (λz=>by cases z) (by decide)))
   (zpn (xbt PassesOwn.never rfl (xal (K:=K) rfl (pv 0)) (pgn 2 nd)
   (zpn (xaz (pd e G (va 2 (v1 1))))
   (zpo (xfu hu (pv 1) (px K (pv 2) pI) (pd c G (va 2 (v1 1))) rfl))))
   (zpo (xaf xeq)))),?_⟩
 obtain⟨a,us,rfl,O,o⟩:=hk;have hl:=o.length;rw[zLM]at hl;intro p M;refine(jAEA ups ([(Sum.inr (S "num"),.int 1)]) rfl ⟨by decide,?_⟩);have J:=Same.new2 M (.dK []) (.dK (xbi [] [(Sum.inr (S "num"),.int 1)]));refine(xba _ rfl a rfl ⟨_,SqT.of (J _ _ O)⟩ ?_);refine xb3 (xs:=us) (λi σ r=>∃Y,σ=[some (.ref a),some (.ref p),Y]/\Same H r/\r p=some (.dK (szK ks i))) (jEAA none rfl J ups) (λi σ r _ p=>?_) ?_ ?_
 ·obtain⟨_,_,l,_⟩:=p
  exact SqT.of (l _ _ O)
 ·rintro i v σ r Z ⟨U,rfl,l,j⟩
  obtain⟨d,hd,rd⟩:=o.get Z;rw[zGM]at hd;obtain⟨k,g,rfl⟩:=zMS hd;refine(xah _ rfl _ rfl v p ks (xat i k rfl (jAAA u g (rd.same l _) j) (λH0 m=>?_)));refine(xah _ rfl _ rfl v p ks (xb0 i k rfl (jAAA u g (rd.same (l.trans m) _) (m _ _ j)) (I k (zMG g)) (λH1 x=>?_)));have y:=m.trans x;obtain⟨b,ws,rfl,hb,_,_,rfl,rfl,_,_,rfl,rfl,v3,_,rfl,r3,rfl⟩:=rd;have a0:=xrf u i;refine(xah _ rfl _ rfl b _ _ (xbw _ rfl rfl (SqT.of (y _ _ (l _ _ hb))) rfl (xat p _ rfl (DPut.k (k:=Sum.inr k.name) (y _ _ j) (xa4 (by omega))) (jEAA _ rfl (Same.over (l.trans y) M _) ?_))));rw[xre u g];exact ups
 ·rintro σ r ⟨U,rfl,l,j⟩
  exact q _ l
def xjb:Sp:=λvs H Q _=>∃(tv:V) (x:Str) (hs:List (Str×List D)) (hd:Str×List D),vs=[tv,.str x]/\RelD H tv (.tup (hs.map λe=>.tup (.str e.1::e.2)))/\hs.find? (λh=>decide (h.1=x))=some hd/\∀u,RelD H u (.tup (.str hd.1::hd.2))->Q u H
def xg2:Sp:=λvs H Q _=>∃(mv:V) (x:Str) (mk:Mak) (hd:Hand),vs=[mv,.str x]/\RelD H mv mk.d/\xld mk x=some hd/\∀u,RelD H u hd.d->Q u H
def xeo:Sp:=λvs H Q _=>∃(mv:V) (x:Str) (mk:Mak) (c:Chn),vs=[mv,.str x]/\RelD H mv mk.d/\mk.chans.find? (λc=>decide (c.1=x))=some c/\∀u,RelD H u (dChn c)->Q u H
theorem xp2{b:Mak}(c:MakG b){hd:Hand}(a:hd∈b.hands):xld b hd.name=some hd:=by
 unfold xld
 cases e:b.hands.find? λh=>decide (h.name=hd.name) with
 |none=>exact absurd (zDT rfl) (List.find?_eq_none.mp e hd a)
 |some g=>
  have f:=of_decide_eq_true (List.find?_some (p:=λh:Hand=>decide (h.name=hd.name)) e);rw[xdv c.hnd (zMF e) a f]
theorem hd_d{H:Hp}{u:V}{hd:Hand}(h:RelD H u hd.d):∃a c b,u=.ref a/\H a=some (.tup [.str hd.name,c,b])/\RelD H c (xdp hd.boxes)/\RelD H b (.tup (hd.rows.map Row.d)):=by
 obtain⟨a,us,e,f,_,_,rfl,rfl,c,_,rfl,i,b,_,rfl,g,rfl⟩:=h;exact(xdw a c b e f i g)
theorem mk_d{H:Hp}{u:V}{b:Mak}(h:RelD H u b.d):∃a c g f,u=.ref a/\H a=some (.tup [c,g,f])/\RelD H c (xcz b.kinds)/\RelD H g (.tup (b.chans.map dChn))/\RelD H f (.tup (b.hands.map Hand.d)):=by
 obtain⟨a,us,e,i,c,_,rfl,h0,g,_,rfl,l,f,_,rfl,j,rfl⟩:=h;exact(xap a c g f e i h0 l j)
theorem xnb{H:Hp}{u:V}{r:Row}(h:RelD H u r.d):∃a us,u=.ref a/\H a=some (.tup (.str r.hd::us))/\RelDs H us r.as:=by
 obtain⟨a,us,e,c,_,b,rfl,rfl,f⟩:=h;exact(xat a b e c f)
theorem xlf{α β:Type}{f:α->β}{p:β->Bool}{l:List α}{a:α}(h:l.find? (λa=>p (f a))=some a):(l.map f).find? p=some (f a):=by
 rw[List.find?_map];exact congrArg (Option.map f) h
def hE(h:Hand):Str×List D:=(h.name,[xdp h.boxes,.tup (h.rows.map Row.d)])
def cE(c:Chn):Str×List D:=(c.1,[.str c.2.1,.str c.2.2.1,.str c.2.2.2])
theorem xk5(T:Tx K M):DefIs P w K M base (n+1) "named" qau xjb:=by
 refine DefIs.of T.jM sc_named (by walk_at"l") (λf Z A outer s H vs Q E hr h=>?_);obtain⟨tv,x,hs,hd,rfl,U,y,q⟩:=h;have nd:=sc_named.nd
 refine⟨_,(zpn (xbt PassesOwn.never rfl (xal (K:=K) rfl (pv 0)) (pgn 2 nd)
   (zpo (xar (pR xa0 (px K (pv 2) pI) (pv 1) (nM _)) (zpo (xaf (pv 2))) pQ)))
   (zpo (xaf xgo))),?_⟩
 obtain⟨a,us,rfl,C,G⟩:=U;refine(xba _ rfl a rfl ⟨_,SqT.of C⟩ ?_);have u:=G.length;rw[zLM]at u;refine xb3 (xs:=us) (λi σ m=>∃r,σ=[some (.ref a),some (.str x),r]/\m=H/\(hs.take i).find? (λh=>decide (h.1=x))=none) (jEAA none rfl rfl rfl) (λi σ m _ p=>?_) ?_ ?_
 ·obtain⟨_,_,rfl,_⟩:=p
  exact SqT.of C
 ·rintro i v σ m O ⟨r,rfl,rfl,hn⟩
  obtain⟨d,l,rd⟩:=G.get O;rw[zGM]at l;obtain⟨h',g,rfl⟩:=zMS l;have o:=rd;obtain⟨b,ws,rfl,Y,_,J,rfl,rfl,_⟩:=rd;refine(xaa _ rfl b _ _ _ rfl rfl (SqT.of Y) (xak (j:=0) rfl) (xao _ rfl rfl _ rfl (ite2 (λc=>?_) (λc=>?_))))
  ·have e:h'.1=x:=V.str.inj (of_decide_eq_true c)
   have I:=(xce hn g).1 (zDT e);rw[y]at I;cases I;exact(jEA _ rfl (q _ o))
  ·have e:¬h'.1=x:=λz=>c (zDT (congrArg V.str z))
   exact(jEAA _ rfl rfl ((xce hn g).2 (zDF e)))
 ·rintro σ m ⟨r,rfl,rfl,hn⟩
  rw[u,zTL (Nat.le_refl _),y]at hn;cases hn
theorem xl4(T:Tx K c)(b:DefIs P w K c base n "named" qau xjb):DefIs P w K c base (n+1) "hand_of" qao xg2:=by
 refine DefIs.of T.jK xlv (by walk_at"l") (λf r A outer s H vs Q E i h=>?_);obtain⟨u,x,e,hd,rfl,j,l,q⟩:=h;refine(jEA _ (zpo (xaf (pd b i (pc (px K (pv 0) pI) (v1 1) ss)))) ?_);obtain⟨a,y,z,g,rfl,m,_,_,o⟩:=mk_d j;refine(xaa _ rfl a _ _ _ rfl rfl (SqT.of m) rfl (xa1 _ rfl g x (e.hands.map hE) (hE hd) (jAAA rfl ?_ (xlf (f:=hE) (p:=λh:Str×List D=>decide (h.1=x)) l) q)));rw[List.map_map];exact o
theorem xhf(T:Tx K e)(b:DefIs P w K e base n "named" qau xjb):DefIs P w K e base (n+1) "channel_of" qak xeo:=by
 refine DefIs.of T.jL xg5 (by walk_at"l") (λf u A outer s H vs Q E i h=>?_);obtain⟨y,x,g,c,rfl,j,l,q⟩:=h;refine(jEA _ (zpo (xaf (pd b i (pc (px K (pv 0) pI) (v1 1) ss)))) ?_);obtain⟨a,z,r,C,rfl,m,_,o,_⟩:=mk_d j;refine(xaa _ rfl a _ _ _ rfl rfl (SqT.of m) rfl (xa1 _ rfl r x (g.chans.map cE) (cE c) (jAAA rfl ?_ (xlf (f:=cE) (p:=λh:Str×List D=>decide (h.1=x)) l) q)));rw[List.map_map];exact o
theorem xf2{y:Str}:∀(bs:List (Str×Str)) (acc:List (Key×V)),(∀b∈bs,b.1≠y)->valV (xbi acc (bKV bs)) (Sum.inr y)=valV acc (Sum.inr y)
 |[],acc,_=>rfl
 |b::bs,acc,h=>by
  show valV (xbi (putK acc (Sum.inr b.1) (.str b.2)) (bKV bs)) (Sum.inr y)=_;rw[xf2 bs _ λc a=>h c (by simp[a]),xei,if_neg λe=>h b (by simp) (Sum.inr.inj e).symm]
theorem xes:∀(bs:List (Str×Str)) (acc:List (Key×V)),(bs.map (·.1)).Nodup->∀p∈bs,valV (xbi acc (bKV bs)) (Sum.inr p.1)=some (.str p.2)
 |[],acc,_,p,a=>nomatch a
 |b::bs,acc,nd,p,a=>by
  rw[List.map_cons,List.nodup_cons]at nd;show valV (xbi (putK acc (Sum.inr b.1) (.str b.2)) (bKV bs)) (Sum.inr p.1)=_;rcases zMC a with rfl |a
  ·rw[xf2 bs _ λc f e=>nd.1 (by rw[<- e];exact List.mem_map_of_mem f),xei,if_pos rfl]
  ·exact xes bs _ nd.2 p a
theorem xsp{H:Hp}{p:Addr}{bs:List (Str×Str)}(nd:(bs.map (·.1)).Nodup)(c:H p=some (.dK (xbi [] (bKV bs)))):EnAt H p bs.length (envC bs):=by
 refine(jEAA _ c ?_ (λy=>⟨λe=>?_,λd e=>?_⟩))
 ·have:=xcr (bKV bs) []
  unfold bKV at this⊢;rw[zLM]at this;simpa using this
 ·unfold envC at e
  have h:=List.find?_eq_none.mp (Option.map_eq_none_iff.mp e);rw[xf2 bs [] λb a=>by simpa using h b a];rfl
 ·unfold envC at e
  obtain⟨b,a,rfl⟩:=zMS e
  have f:b.1=y:=by
   have:=List.find?_some a;exact of_decide_eq_true this
  refine(jEA (.str b.2) ?_ rfl);rw[<- f];exact xes bs [] nd b (zMF a)
theorem iteN{p:Prop}[Decidable p]{A B:Prop}(a:p)(h:B):if (!decide p)=true then A else B:=by
 rw[zDT a];exact h
def xg1:Sp:=λvs H Q _=>∃(kv:V) (ks:List Kn) (x:Str),vs=[kv,.str x]/\RelD H kv (xcz ks)/\KWf ks/\KIn ks 6 x/\Q .non H
def xtk:Sp:=λvs H Q _=>∃(mv:V) (mk:Mak) (e:Nat) (h:Str) (ch:Chn),vs=[mv,.str ch.1,.int e,.str h]/\RelD H mv mk.d/\MakG mk/\ch∈mk.chans/\(e=1/\ch.2.1=h\/e=2/\ch.2.2.1=h)/\Q (.str ch.2.2.2) H
def xm1:Sp:=λvs H Q _=>∃(mv rv:V) (mk:Mak) (h:Str) (da:Addr) (bs:List (Str×Str)) (r:Row) (n:Nat),vs=[mv,.str h,.ref da,rv]/\RelD H mv mk.d/\MakG mk/\EnAt H da 6 (envC bs)/\(bs.map (·.1)).Nodup/\RelD H rv r.d/\RowG mk.kinds mk.chans h bs n r/\∀H',Same H H'->Q .non H'
theorem xev{f:Mak}(g:MakG f){c:Chn}(a:c∈f.chans):f.chans.find? (λb=>decide (b.1=c.1))=some c:=by
 cases e:f.chans.find? λb=>decide (b.1=c.1) with
 |none=>exact absurd (zDT rfl) (List.find?_eq_none.mp e c a)
 |some i=>
  have h:=of_decide_eq_true (List.find?_some (p:=λb:Chn=>decide (b.1=c.1)) e);rw[xdv g.cnd (zMF e) a h]
theorem xvw{ks:List Kn}(a:KWf ks):KL ks:=λk b=>Nat.le_trans (xec (a.nm k b)).1 (by decide)
theorem xhb(T:Tx K g)(a:DefIs P w K g base n "sort_of" qac xdi):DefIs P w K g base (n+1) "need_there" qag xg1:=by
 refine DefIs.of T.jH sc_need_there (by walk_at"l") (λf p A outer s H vs Q E l h=>?_);obtain⟨i,ks,x,rfl,o,c,e,q⟩:=h;have nd:=sc_need_there.nd;refine(jEA _ (zpo (xar (PW.pt (xc1 (pR xe1 (pv 1) pS (nM _)) (xcp (pR xk3 (pd a l (va 0 (v1 1))) xgo (nM _))))) (zpo xbh) pQ)) ?_);rcases e.look c with⟨rfl,b⟩ |⟨j,k,_,b,hn,m,r⟩
 ·exact(xao _ rfl rfl _ rfl (iteN (by rfl) (iteF q)))
 ·subst hn
  refine(xao _ rfl rfl _ rfl (xma (show(!decide (V.str k.name=V.str (S "num")))=true by rw[zDF λz=>xch (c.nm k m) (V.str.inj z)];rfl) ?_));refine(xay _ rfl _ rfl i ks _ rfl (c.ksAt o) ?_);rw[b];exact(jAEA rfl _ rfl (iteF q))
theorem xjt(T:Tx K x)(a:DefIs P w K x base n "channel_of" qak xeo):DefIs P w K x base (n+1) "own_kind" qbd xtk:=by
 refine DefIs.of T.j8 sc_own_kind (by walk_at"l") (λf M A outer s H vs Q E G h=>?_);obtain⟨r,y,e,h,ch,rfl,I,g,i,J,q⟩:=h;have nd:=sc_own_kind.nd
 refine⟨_,(zpn (psn 4 nd (pd a G (va 0 (v1 1))))
   (zpn (xar (pR xk3 (pv 4) xgo (nM _)) (zpo xbh) pQ)
   (zpn (xar (pR xe1 (px K (pv 4) (pv 2)) (pv 3) (nM _)) (zpo xbh) pQ)
   (zpo (xaf (px K (pv 4) pI)))))),xad λU p=>?_⟩
 refine(xah _ rfl _ rfl r ch.1 y (xbx ch rfl I (xev g i) (λu C=>p _ _ (xad λR2 o=>?_))));obtain⟨b,ws,rfl,l,_,_,rfl,rfl,_,_,rfl,rfl,_,_,rfl,rfl,_,_,rfl,rfl,rfl⟩:=C;refine(xao _ rfl rfl _ rfl (iteKF (zDF λz=>nomatch z) (o _ _ (xad λO m=>?_))));have fin:O [some r,some (.str ch.1),some (.int e),some (.str h),some (.ref b)] H:=m _ H (xaa _ rfl b _ _ _ rfl rfl (SqT.of l) rfl q);rcases J with⟨rfl,rfl⟩ |⟨rfl,rfl⟩
 ·exact(xah _ rfl _ rfl b _ _ (xau _ rfl rfl (SqT.of l) (xak (j:=1) rfl) _ rfl (jAEA rfl _ rfl (iteN (by rfl) fin))))
 ·exact(xah _ rfl _ rfl b _ _ (xau _ rfl rfl (SqT.of l) (xak (j:=2) rfl) _ rfl (jAEA rfl _ rfl (iteN (by rfl) fin))))
theorem xjw(T:Tx K mg)(b:DefIs P w K mg base n "need_kind" qai (xct (KdL 21) 6))(i:DefIs P w K mg base n "box_kind" qap (xfs 6))(e:DefIs P w K mg base n "own_kind" qbd xtk)(m:DefIs P w K mg base n "need_same" qal xdd):DefIs P w K mg base (n+1) "look_row" qaz xm1:=by
 refine DefIs.of T.j7 sc_look_row (by walk_at"l") (λf a5 A outer s H vs Q E J h=>?_);obtain⟨mv,rv,mk,h,da,bs,r,nn,rfl,hm,U,en,a1,a2,C,q⟩:=h;have nd:=sc_look_row.nd;have wf:=U.wf;have kl:=xvw wf;obtain⟨ma,kv,cv,hv,rfl,G,a3,_,_⟩:=mk_d hm;obtain⟨a,us,rfl,I,u⟩:=xnb a2;have ks:=wf.ksAt a3
 refine⟨_,(zpn (psn 4 nd (px K (pv 3) pI))
   (zpo (xar (pR xa0 (pv 4) pS (nM _)) (zpo (xaz (pd b J (pc (px K (pv 0) pI) (pc (px K (pv 3) pI) (va 2 (pc (pd i J (pc (px K (pv 3) pI) (v1 2) ss)) pN zsc)) ss) ss)))) (zpo (xar (pR xa0 (pv 4) pS (nM _)) (zpo (xaz (pd b J (pc (px K (pv 0) pI) (pc (px K (pv 3) pI) (va 2 (pc (pd e J (va 0 (pc (px K (pv 3) pI) (pc (xdc T.uI) (v1 1) zsn) ss))) pN zsc)) ss) ss)))) (zpo (xar (pR xa0 (pv 4) pS (nM _)) (zpo (xaz (pd m J (pc (pd i J (pc (px K (pv 3) pI) (v1 2) ss)) (pc (pd e J (va 0 (pc (px K (pv 3) pI) (pc (xdc T.uJ) (v1 1) zsn) ss))) pN zsc) zsc)))) (zpo (xar (pR (xv1 (K:=K) rfl) (pv 4) (xa6 (pc pS (pc pS pN so) so)) (by with_unfolding_all rfl)) (zpo (xaz (pd b J (pc (px K (pv 0) pI) (pc (px K (pv 3) pI) (va 2 (pc pS pN so)) ss) ss)))) pQ))))))))),xad λR1 a4=>?_⟩
 refine(xaa _ rfl a _ _ _ rfl rfl (SqT.of I) (xak (j:=0) rfl) (a4 _ _ ?_));have no:∀{x y:Str},x≠y->decide (V.str x=V.str y)=false:=λh=>zDF λz=>h (V.str.inj z)
 cases r with
 |set x t=>
  obtain⟨k,hk,tm⟩:=C;obtain⟨_,a0,rfl,rfl,M,_,rfl,o,rfl⟩:=u;refine(xao _ rfl rfl _ rfl (iteKT (zDT rfl) ?_));refine(xaa _ rfl ma _ _ _ rfl rfl (SqT.of G) rfl (xaa _ rfl a _ _ _ rfl rfl (SqT.of I) (xak (j:=2) rfl) (jEA _ rfl ?_)));refine(xaa _ rfl a _ _ _ rfl rfl (SqT.of I) (xak (j:=1) rfl) (xa1 _ rfl x da (envC bs) k (jAAA rfl en (xkb a1 hk) ?_)));exact(xav kv M da mk.kinds t (xas (envC bs) k rfl ks o en ⟨kl,tm.1⟩ q))
 |send c t=>
  obtain⟨ch,Y,rfl,Z,tm⟩:=C;obtain⟨_,a0,rfl,rfl,M,_,rfl,o,rfl⟩:=u;refine(xao _ rfl rfl _ rfl (iteKF (no (x:=S "send") (y:=S "set") (by walk_at"k")) ?_));refine(xao _ rfl rfl _ rfl (iteKT (zDT rfl) ?_));refine(xaa _ rfl ma _ _ _ rfl rfl (SqT.of G) rfl (xaa _ rfl a _ _ _ rfl rfl (SqT.of I) (xak (j:=2) rfl) (jEA _ rfl ?_)));refine(xah _ rfl _ rfl a _ _ (xau _ rfl rfl (SqT.of I) (xak (j:=1) rfl) _ rfl (xag _ mk 1 h ch rfl hm U Y (.inl ⟨rfl,Z⟩) ?_)));exact(xav kv M da mk.kinds t (xas (envC bs) ch.2.2.2 rfl ks o en ⟨kl,tm.1⟩ q))
 |take l c x=>
  obtain⟨_,ch,Y,rfl,Z,hx⟩:=C;obtain⟨_,a0,rfl,rfl,_,_,rfl,rfl,_,_,rfl,rfl,rfl⟩:=u;refine(xao _ rfl rfl _ rfl (iteKF (no (x:=S "take") (y:=S "set") (by walk_at"k")) ?_));refine(xao _ rfl rfl _ rfl (iteKF (no (x:=S "take") (y:=S "send") (by walk_at"k")) ?_));refine(xao _ rfl rfl _ rfl (iteKT (zDT rfl) ?_));refine(xaa _ rfl a _ _ _ rfl rfl (SqT.of I) (xak (j:=3) rfl) (xa1 _ rfl x da (envC bs) ch.2.2.2 (jAAA rfl en (xkb a1 hx) ?_)));refine(xah _ rfl _ rfl a _ _ (xau _ rfl rfl (SqT.of I) (xak (j:=2) rfl) _ rfl (xag _ mk 2 h ch rfl hm U Y (.inr ⟨rfl,Z⟩) ?_)));exact(jEA ch.2.2.2 rfl (q _ (Same.refl _)))
 |tell t=>
  obtain⟨M,_,rfl,o,rfl⟩:=u;refine(xao _ rfl rfl _ rfl (iteKF (no (x:=S "tell") (y:=S "set") (by walk_at"k")) ?_));refine(xao _ rfl rfl _ rfl (iteKF (no (x:=S "tell") (y:=S "send") (by walk_at"k")) ?_));refine(xao _ rfl rfl _ rfl (iteKF (no (x:=S "tell") (y:=S "take") (by walk_at"k")) ?_));refine(jEAA _ rfl (by walk_at"s") (λO p=>(xbk O _ rfl (.inr (SqT.of ups)) rfl rfl (jEA _ rfl (xma (by show(if false=true then !inV (V.str (S "tell")) [V.str (S "tell"),V.str (S "if")] else inV (V.str (S "tell")) [V.str (S "tell"),V.str (S "if")])=true;decide +kernel) ?_)))));have y:=Same.new p (.tup [.str (Str.ofString "tell"),.str (Str.ofString "if")]);refine(xaa _ rfl ma _ _ _ rfl rfl (SqT.of (y _ _ G)) rfl (xaa _ rfl a _ _ _ rfl rfl (SqT.of (y _ _ I)) (xak (j:=1) rfl) (jEA _ rfl ?_)));exact(xav kv M da mk.kinds t (xas (envC bs) (S "num") rfl (ks.same y) (o.same y _) (en.same y) ⟨kl,C.1⟩ (λH' s'=>q _ (y.trans s'))))
 |go g=>
  refine(xao _ rfl rfl _ rfl (iteKF (no (x:=S "go") (y:=S "set") (by walk_at"k")) ?_));refine(xao _ rfl rfl _ rfl (iteKF (no (x:=S "go") (y:=S "send") (by walk_at"k")) ?_));refine(xao _ rfl rfl _ rfl (iteKF (no (x:=S "go") (y:=S "take") (by walk_at"k")) ?_));refine(jEAA _ rfl (by walk_at"s") (λO p=>(xbk O _ rfl (.inr (SqT.of ups)) rfl rfl (jEA _ rfl (xhj (by show(if false=true then !inV (V.str (S "go")) [V.str (S "tell"),V.str (S "if")] else inV (V.str (S "go")) [V.str (S "tell"),V.str (S "if")])=false;decide +kernel) (q _ (Same.new p _)))))))
 |cond t g=>
  obtain⟨M,_,rfl,o,_⟩:=u;refine(xao _ rfl rfl _ rfl (iteKF (no (x:=S "if") (y:=S "set") (by walk_at"k")) ?_));refine(xao _ rfl rfl _ rfl (iteKF (no (x:=S "if") (y:=S "send") (by walk_at"k")) ?_));refine(xao _ rfl rfl _ rfl (iteKF (no (x:=S "if") (y:=S "take") (by walk_at"k")) ?_));refine(jEAA _ rfl (by walk_at"s") (λO p=>(xbk O _ rfl (.inr (SqT.of ups)) rfl rfl (jEA _ rfl (xma (by show(if false=true then !inV (V.str (S "if")) [V.str (S "tell"),V.str (S "if")] else inV (V.str (S "if")) [V.str (S "tell"),V.str (S "if")])=true;decide +kernel) ?_)))));have y:=Same.new p (.tup [.str (Str.ofString "tell"),.str (Str.ofString "if")]);refine(xaa _ rfl ma _ _ _ rfl rfl (SqT.of (y _ _ G)) rfl (xaa _ rfl a _ _ _ rfl rfl (SqT.of (y _ _ I)) (xak (j:=1) rfl) (jEA _ rfl ?_)));exact(xav kv M da mk.kinds t (xas (envC bs) (S "num") rfl (ks.same y) (o.same y _) (en.same y) ⟨kl,C.1.1⟩ (λH' s'=>q _ (y.trans s'))))
 |fin=>
  refine(xao _ rfl rfl _ rfl (iteKF (no (x:=S "end") (y:=S "set") (by walk_at"k")) ?_));refine(xao _ rfl rfl _ rfl (iteKF (no (x:=S "end") (y:=S "send") (by walk_at"k")) ?_));refine(xao _ rfl rfl _ rfl (iteKF (no (x:=S "end") (y:=S "take") (by walk_at"k")) ?_));refine(jEAA _ rfl (by walk_at"s") (λO p=>(xbk O _ rfl (.inr (SqT.of ups)) rfl rfl (jEA _ rfl (xhj (by show(if false=true then !inV (V.str (S "end")) [V.str (S "tell"),V.str (S "if")] else inV (V.str (S "end")) [V.str (S "tell"),V.str (S "if")])=false;decide +kernel) (q _ (Same.new p _)))))))
def wyR(k:Nat):Row->List Nat
 |.go g=>[g]
 |.cond _ g=>[g,k+1]
 |.fin=>[]
 |_=>[k+1]
def xhs:Sp:=λvs H Q _=>∃(rv:V) (k:Nat) (r:Row),vs=[rv,.int k]/\RelD H rv r.d/\∀a H',Same H H'->H' a=some (.tup ((wyR k r).map λi:Nat=>V.int i))->Q (.ref a) H'
def WaysR(H:Hp)(rs:List Row)(ws:List V):Prop:=∀(i:Nat) w,ws[i]?=some w->∃r a,rs[i]?=some r/\w=.ref a/\H a=some (.tup ((wyR i r).map λi:Nat=>V.int i))
theorem WaysR.same{H H':Hp}{rs:List Row}{ws:List V}(h:WaysR H rs ws)(s:Same H H'):WaysR H' rs ws:=λi w e=>by
 obtain⟨r,a,h1,h2,h3⟩:=h i w e;exact(xat r a h1 h2 (s _ _ h3))
def xg0:Sp:=λvs H Q _=>∃(v:V) (rs:List Row),vs=[v]/\RelD H v (.tup (rs.map Row.d))/\rs.length<=100/\∀(b:Addr) (ws:List V) (H':Hp),Same H H'->H' b=some (.lst ws)->WaysR H' rs ws->ws.length=rs.length->Q (.ref b) H'
def xjf:Sp:=λvs H Q _=>∃(v:V) (h:Str) (ks:List Kn) (cs:List Chn) (x:Str) (bs:List (Str×Str)) (rs:List Row),vs=[.str h,v]/\RelD H v (.tup (rs.map Row.d))/\RowsG ks cs x bs rs/\∀H',Same H H'->Q .non H'
def xrl:Sp:=λvs H Q _=>∃(mv cv:V) (mk:Mak) (c:Chn),vs=[mv,cv]/\RelD H mv mk.d/\MakG mk/\c∈mk.chans/\RelD H cv (dChn c)/\∀H',Same H H'->Q .non H'
def xrj:Sp:=λvs H Q _=>∃(mv hv:V) (mk:Mak) (h:Hand),vs=[mv,hv]/\RelD H mv mk.d/\MakG mk/\h∈mk.hands/\RelD H hv h.d/\∀H',Same H H'->Q .non H'
def spLk:Sp:=λvs H Q _=>∃(mv:V) (mk:Mak),vs=[mv]/\RelD H mv mk.d/\MakG mk/\∀H',Same H H'->Q (.bl true) H'
theorem xsy{ks:List Kn}{cs:List Chn}{x:Str}{bs:List (Str×Str)}{rs:List Row}(h:RowsG ks cs x bs rs){i:Nat}{r:Row}(hr:rs[i]?=some r):∀g∈wyR i r,g<rs.length:=by
 obtain⟨hi,e⟩:=zES hr;have ok:=h.ok r (zMG hr);obtain⟨l,hl,he⟩:=h.last
 have nx:¬r.ends->i+1<rs.length:=λhn=>by
  by_cases c:i+1<rs.length
  ·exact c
  ·exfalso
   rw[List.getLast?_eq_getElem?,show rs.length-1=i by omega,hr]at hl;cases hl;exact hn he
 intro g hg
 cases r with
 |go g'=>rw[zMO hg];exact ok
 |cond t g'=>
  rcases zMC hg with rfl |hg
  ·exact ok.2
  ·rw[zMO hg];exact nx λh=>h
 |fin=>cases hg
 |set _ _=>rw[zMO hg];exact nx λh=>h
 |send _ _=>rw[zMO hg];exact nx λh=>h
 |take _ _ _=>rw[zMO hg];exact nx λh=>h
 |tell _=>rw[zMO hg];exact nx λh=>h
theorem xjr(T:Tx K mg):DefIs P w K mg base (n+1) "row_ways" ["row","k"] xhs:=by
 refine DefIs.of T.jJ xjj (by walk_at"l") (λf cdv A outer s H vs Q E hr h=>?_);obtain⟨rv,k,r,rfl,hrr,q⟩:=h;obtain⟨a,us,rfl,ha,hus⟩:=xnb hrr
 refine⟨_,(zpn (xar (pR xa0 (px K (pv 0) pI) pS (nM _)) (zpo (xaf (xa6 (pc (px K (pv 0) pI) pN ss)))) pQ)
   (zpn (xar (pR xa0 (px K (pv 0) pI) pS (nM _)) (zpo (xaf (xa6 (pc (px K (pv 0) pI) (pc (xam xbe (pv 1) pI) pN xa5) ss)))) pQ)
   (zpn (xar (pR xa0 (px K (pv 0) pI) pS (nM _)) (zpo (xaf (xa6 pN))) pQ)
   (zpo (xaf (xa6 (pc (xam xbe (pv 1) pI) pN xa5))))))),?_⟩
 have hh:SqT K H a (.str r.hd::us):=SqT.of ha;have h0:atI (V.str r.hd::us) 0=some (.str r.hd):=xak (j:=0) rfl
 cases r with
 |go g=>
  obtain⟨_,_,rfl,rfl,rfl⟩:=hus;refine(xaa _ rfl a _ _ _ rfl rfl hh h0 (jAEA rfl _ rfl (iteKT (hdT rfl) ?_)));exact(xaa _ rfl a _ _ _ rfl rfl hh rfl ⟨(by walk_at"s"),λp hp=>q p _ (Same.new hp _) ups⟩)
 |cond t g=>
  obtain⟨_,_,rfl,_,_,_,rfl,rfl,rfl⟩:=hus;refine(xaa _ rfl a _ _ _ rfl rfl hh h0 (jAEA rfl _ rfl (iteKF (hdF (xsi (by intro _ e;cases e))) ?_)));refine(xaa _ rfl a _ _ _ rfl rfl hh h0 (jAEA rfl _ rfl (iteKT (hdT rfl) ?_)));exact(xaa _ rfl a _ _ _ rfl rfl hh rfl (xa8 _ rfl _ _ rfl rfl (by walk_at"s") (λp hp=>q p _ (Same.new hp _) (by rw[ups];rfl))))
 |fin=>
  refine(xaa _ rfl a _ _ _ rfl rfl hh h0 (jAEA rfl _ rfl (iteKF (hdF (xsi (by intro _ e;cases e))) ?_)));refine(xaa _ rfl a _ _ _ rfl rfl hh h0 (jAEA rfl _ rfl (iteKF (hdF (xuo (by intro _ _ e;cases e))) ?_)));refine(xaa _ rfl a _ _ _ rfl rfl hh h0 (jAEA rfl _ rfl (iteKT (hdT rfl) ?_)));exact⟨(by walk_at"s"),λp hp=>q p _ (Same.new hp _) ups⟩
 |_=>
  refine(xaa _ rfl a _ _ _ rfl rfl hh h0 (jAEA rfl _ rfl (iteKF (hdF (xsi (by intro _ e;cases e))) ?_)));refine(xaa _ rfl a _ _ _ rfl rfl hh h0 (jAEA rfl _ rfl (iteKF (hdF (xuo (by intro _ _ e;cases e))) ?_)));refine(xaa _ rfl a _ _ _ rfl rfl hh h0 (jAEA rfl _ rfl (iteKF (hdF (xuq (by intro e;cases e))) ?_)));exact(xa8 _ rfl _ _ rfl rfl (by walk_at"s") (λp hp=>q p _ (Same.new hp _) (by rw[ups];rfl)))
theorem xlz(T:Tx K mg)(D_row_ways:DefIs P w K mg base n "row_ways" ["row","k"] xhs):DefIs P w K mg base (n+1) "ways_of" ["rows"] xg0:=by
 refine DefIs.of T.jI sc_ways_of (by walk_at"l") (λf cdv A outer s H vs Q E hr h=>?_);obtain⟨v,rs,rfl,hv,h100,q⟩:=h;have nd:=sc_ways_of.nd;refine(jEA _ (zpo (xaf (xbr ["k","row"] [none,none] rfl (by kernel_rfl) (xpe rfl T.uO (v1 0)) (λ_ _ _ _=>(xbc (K:=K) (n:=2) rfl rfl (xae (pgc 0) (xae (pgc 1) xbb)))) (λ_ _ _ _=>xbq) (λ_ _ _ _=>(pd D_row_ways hr (va 1 (v1 0))))))) ?_);obtain⟨a,us,rfl,ha,hus⟩:=hv;have hl:=hus.length;rw[zLM]at hl;refine(xba _ rfl a rfl ⟨_,SqT.of ha⟩ ?_);refine xmd (xs:=us) (λi ys H'=>Same H H'/\WaysR H' rs ys/\ys.length=i) (jAA (Same.refl _) (λi w e=>by simp at e) rfl) (xa4 (by omega)) (λi ys H' _ p=>SqT.of (p.1 _ _ ha)) ?_ ?_
 ·rintro i x ys H' p hx hi hly ⟨sm,hys,hyl⟩ hp
  obtain⟨d,hd,rd⟩:=hus.get hx;rw[zGM]at hd;obtain⟨r,hr',rfl⟩:=zMS hd;have sp:=Same.new hp (.tup [.int (i:Nat),x]);refine(xax p _ rfl (SqT.of ups) rfl _ _ rfl _ (xbx _ rfl rfl (ext2 rfl rfl) (xeg ?_)));refine(xay _ rfl _ rfl _ _ r rfl (rd.same (sm.trans sp) _) (λu H2 s2 ru=>nxtG hi hly (jAA (sm.trans (sp.trans s2)) (λj w e=>?_) (by rw[zLA,List.length_singleton,hyl]))));by_cases c:j<ys.length
  ·rw[List.getElem?_append_left c]at e
   exact hys.same (sp.trans s2) j w e
  ·have hlt:=(zES e).1
   rw[zLA,List.length_singleton]at hlt;have e0:j=i:=by omega
   subst e0;rw[List.getElem?_append_right (by omega),hyl,Nat.sub_self]at e;simp at e;exact(xat r u hr' e.symm ru)
 ·rintro ys H' hly ⟨sm,hys,hyl⟩ D hD
  exact q D ys _ (sm.trans (Same.new hD _)) ups (hys.same (Same.new hD _)) (by omega)
theorem xhe(T:Tx K mg)(D_ways_of:DefIs P w K mg base n "ways_of" ["rows"] xg0):DefIs P w K mg base (n+1) "look_falls" qa0 xjf:=by
 refine DefIs.of T.j9 sc_look_falls (by walk_at"l") (λf cdv A outer s H vs Q E hr h=>?_);obtain⟨v,h,ks,cs,x,bs,rs,rfl,hv,hg,q⟩:=h;have nd:=sc_look_falls.nd;have h24:=hg.len;have hv':=hv;obtain⟨a,us,rfl,ha,hus⟩:=hv;have hl:=hus.length;rw[zLM]at hl
 have pos:0<rs.length:=by
  obtain⟨l,hl,_⟩:=hg.last
  cases rs with
  |nil=>cases hl
  |cons=>exact Nat.succ_pos _
 refine⟨_,(zpn (xar (pR xa0 (xai (xac (K:=K) rfl) rfl T.uR PySem.boot_len (v1 1)) pI (nM _)) (zpo xbh) pQ)
   (zpo (xbt PassesOwn.never rfl (xcl (K:=K) rfl (pd D_ways_of hr (v1 1))) (pgn 2 nd)
   (zpo (xbt PassesOwn.never rfl (xal (K:=K) rfl (pv 2)) (pgn 3 nd)
   (zpo (xar (pR xr0 (pv 3) (xai (xac (K:=K) rfl) rfl T.uR PySem.boot_len (v1 1)) (nM _)) (zpo xbh) pQ))))))),xad λR1 hR1=>?_⟩
 refine(xa8 _ rfl a _ rfl (.inr (SqT.of ha)) rfl (jEA _ rfl (iteKF (zDF λz=>by have:=V.int.inj z;omega) (hR1 _ _ ?_))));refine(xa8 _ rfl _ rs rfl hv' (by omega) (λb ws H1 s1 hb hws hwl=>?_));refine(jEAA b rfl ⟨_,SqL.of hb⟩ ?_);refine xfk (xs:=ws) (λi σ H'=>∃o2 o3,σ=[some (.str h),some (.ref a),o2,o3]/\H'=H1) (jEEA none none rfl rfl) (λi σ H' _ p=>by obtain⟨_,_,_,rfl⟩:=p;exact SqL.of hb) ?_ ?_
 ·rintro i w σ H' hw ⟨o2,o3,rfl,rfl⟩
  obtain⟨r,c,hr',rfl,hc⟩:=hws i w hw;have lt:=xsy hg hr';refine(xba _ rfl c rfl ⟨_,SqT.of hc⟩ ?_);refine xb3 (xs:=(wyR i r).map λi:Nat=>V.int i) (λj σ H2=>∃o3,σ=[some (.str h),some (.ref a),some (.ref c),o3]/\H2=H') (jEA o3 rfl rfl) (λi σ H2 _ p=>by obtain⟨_,_,rfl⟩:=p;exact SqT.of hc) ?_ ?_
  ·rintro j y σ H2 hy ⟨o3,rfl,rfl⟩
   rw[zGM]at hy;obtain⟨g,hgg,rfl⟩:=zMS hy;have:=lt g (zMG hgg);exact(xbo _ rfl _ rfl a _ rfl (.inr (SqT.of (s1 _ _ ha))) _ (xao _ rfl rfl _ rfl (iteKF (zDF (by omega)) (jEA _ rfl rfl))))
  ·rintro σ H2 ⟨o3,rfl,rfl⟩
   exact(jEEA _ _ rfl rfl)
 ·rintro σ H' ⟨o2,o3,rfl,rfl⟩
  exact q _ s1
theorem xoi{b:Mak}(a:MakG b){x:Str}(h:x∈b.hands.map Hand.name):∃hd,xld b x=some hd:=by
 obtain⟨hd,c,rfl⟩:=zMP h;exact⟨hd,xp2 a c⟩
theorem xfy(T:Tx K J)(g:DefIs P w K J base n "hand_of" qao xg2)(e:DefIs P w K J base n "need_there" qag xg1):DefIs P w K J base (n+1) "look_channel" qax xrl:=by
 refine DefIs.of T.j5 sc_look_channel (by walk_at"l") (λf a0 A outer s H vs Q E hr h=>?_);obtain⟨mv,cv,I,c,rfl,hm,l,o,hc,q⟩:=h;have nd:=sc_look_channel.nd;obtain⟨b,ws,rfl,U,_,_,rfl,rfl,_,_,rfl,rfl,_,_,rfl,rfl,_,_,rfl,rfl,rfl⟩:=hc;obtain⟨Z,kv,cv,r,rfl,M,O,_,_⟩:=mk_d hm
 refine⟨_,(zpn (xbt PassesOwn.never rfl (xal (K:=K) rfl (xa6 (pc (px K (pv 1) (xdc T.uI)) (pc (px K (pv 1) (xdc T.uJ)) pN ss) ss))) (pgn 2 nd)
   (zpo (xar (pR xk3 (pd g hr (va 0 (v1 2))) xgo (nM _)) (zpo xbh) pQ)))
   (zpo (xaz (pd e hr (pc (px K (pv 0) pI) (pc (px K (pv 1) pI) pN ss) ss))))),xad λR1 Y=>?_⟩
 refine(xaa _ rfl b _ _ _ rfl rfl (SqT.of U) (xak (j:=1) rfl) (xaa _ rfl b _ _ _ rfl rfl (SqT.of U) (xak (j:=2) rfl) ⟨(by walk_at"s"),λt ht=>?_⟩));have y:=Same.new ht (.tup [.str c.2.1,.str c.2.2.1]);have m:upd H t (.tup [.str c.2.1,.str c.2.2.1]) t=some (.tup [.str c.2.1,.str c.2.2.1]):=ups;generalize upd H t (.tup [.str c.2.1,.str c.2.2.1])=H1 at y m⊢;refine(jEAA t rfl ⟨_,SqT.of m⟩ ?_);refine xb3 (xs:=[.str c.2.1,.str c.2.2.1]) (λi σ C=>∃G,σ=[some (.ref Z),some (.ref b),G]/\C=H1) (jEA none rfl rfl) (λi σ C _ p=>by obtain⟨_,_,rfl⟩:=p;exact SqT.of m) ?_ ?_
 ·rintro i v σ C r ⟨G,rfl,rfl⟩
  obtain⟨x,rfl,hx⟩:∃x,v=.str x/\x∈I.hands.map Hand.name:=by
   have ends:=l.ends c o
   match i with
   |0=>cases r;exact(jEA _ rfl ends.1)
   |1=>cases r;exact(jEA _ rfl ends.2)
   |j+2=>cases r
  obtain⟨hd,hf⟩:=xoi l hx;refine(xah _ rfl _ rfl _ x I (xbx hd rfl (hm.same y _) hf (λu hu=>?_)));obtain⟨a,bv,rv,rfl,_⟩:=hd_d hu;exact(jAEA rfl _ rfl (iteKF (zDF λz=>nomatch z) (jEA _ rfl rfl)))
 ·rintro σ C ⟨G,rfl,rfl⟩
  refine Y _ _ ?_;exact(xaa _ rfl Z _ _ _ rfl rfl (SqT.of (y _ _ M)) rfl (xaa _ rfl b _ _ _ rfl rfl (SqT.of (y _ _ U)) rfl (xaq kv I.kinds _ rfl (O.same y _) l.wf (l.ckin c o) (q _ y))))
theorem xig(T:Tx K mg)(g:DefIs P w K mg base n "need_once" qaj xde)(u:DefIs P w K mg base n "need_there" qag xg1)(G:DefIs P w K mg base n "look_row" qaz xm1)(z:DefIs P w K mg base n "look_falls" qa0 xjf):DefIs P w K mg base (n+1) "look_hand" qay xrj:=by
 refine DefIs.of T.j6 sc_look_hand (by walk_at"l") (λf au A outer s H vs Q E hr h=>?_);obtain⟨mv,hv,mk,h,rfl,hm,a0,ab,hh,q⟩:=h;have nd:=sc_look_hand.nd;have o:=a0.hok h ab;have h5:=o.few;have aq:h.name.length<=10:=o.sh.1;have ar:=o.rw.len;obtain⟨ma,kv,cv,hv,rfl,a7,aa,_,_⟩:=mk_d hm;obtain⟨a,bv,rv,rfl,ha,ae,a4⟩:=hd_d hh;have a3:=a4;obtain⟨ba,ub,rfl,Y,hB⟩:=ae;obtain⟨ra,ur,rfl,Z,hR⟩:=a4;have a9:=hB.length;have a8:=hR.length;rw[zLM]at a9 a8
 refine⟨_,(zpn (psn 2 nd (px K (pv 1) pI))
   (zpn (psn 3 nd (px K (pv 1) pI))
   (zpn (xaz (pd g hr (pc (xbr ["box"] [none] rfl (by kernel_rfl) (xal (K:=K) rfl (px K (pv 1) pI)) (λ_ _ _ _=>(pgc 0)) (λ_ _ _ _=>xbq) (λ_ _ _ _=>(px K (pv 0) pI))) (pc (xg8 (xk0 (xky (pv 2) xkz))) pN xem) xbp)))
   (zpn (xaz (pd g hr (pc (xbr ["row"] [none] rfl (by kernel_rfl) (xal (K:=K) rfl (pv 3)) (λ_ _ _ _=>(pgc 0)) (λ_ _ _ _=>(xdk (pR xa0 (px K (pv 0) pI) pS (nM _)))) (λ_ _ _ _=>(px K (pv 0) pI))) (pc (xg8 (xk0 (xky (pv 2) xkz))) pN xem) xbp)))
   (zpn (xbt PassesOwn.never rfl (xal (K:=K) rfl (px K (pv 1) pI)) (pgn 4 nd)
   (zpo (xaz (pd u hr (pc (px K (pv 0) pI) (pc (px K (pv 4) pI) pN ss) ss)))))
   (zpn (psn 5 nd (xa7 (xgv rfl) rfl T.uN PyProof.Rows.boot_dict (pc (px K (pv 1) pI) pN ss)))
   (zpn (xbt PassesOwn.never rfl (xal (K:=K) rfl (pv 3)) (pgn 6 nd)
   (zpo (xaz (pd G hr (va 0 (va 2 (va 5 (v1 6))))))))
   (zpo (xaz (pd z hr (va 2 (v1 3)))))))))))),xad λR1 al=>?_⟩
 refine(xaa _ rfl a _ _ _ rfl rfl (SqT.of ha) rfl (al _ _ (xad λR2 ak=>?_)));refine(xaa _ rfl a _ _ _ rfl rfl (SqT.of ha) rfl (ak _ _ (xad λR3 aj=>?_)));refine(xaa _ rfl a _ _ _ rfl rfl (SqT.of ha) rfl (jEAA ba rfl ⟨_,SqT.of Y⟩ ?_));refine xbv (xs:=ub) (λi ys C=>C=H/\ys=((h.boxes.take i).map (·.1)).map V.str) ⟨rfl,rfl⟩ (xa4 (by omega)) (λi ys C _ p=>by rw[p.1];exact SqT.of Y) ?_ ?_
 ·rintro i y ys C hy hi J ⟨rfl,rfl⟩
  obtain⟨b,pb,a2,rfl,hb⟩:=xfw hB hy;refine⟨ext1 rfl,xeg (xaa _ rfl b _ _ _ rfl rfl (SqT.of hb) (xak (j:=0) rfl) (nxtG hi J ⟨rfl,?_⟩))⟩;rw[zTA,a2,zAP,zAP];rfl
 rintro ys H1 J ⟨rfl,rfl⟩ D1 am;rw[zTL (by omega)];have s1:=Same.new am (.lst ((h.boxes.map (·.1)).map V.str));have I:(Str.empty++Str.ofString "boxes of the hand ").length=18:=by walk_at"k"
 refine(jAEA (fits (by rw[I];decide)) _ rfl (xbw _ rfl (fits (by omega)) (fits (by rw[Str.length_append,I];omega)) (fits (by rw[Str.length_append,I];omega)) ?_));refine(xaq D1 (h.boxes.map (·.1)) _ rfl ups o.nd (by rw[zLM];omega) (aj _ _ (xad λR4 ai=>?_)));generalize upd H1 D1 (.lst ((h.boxes.map (·.1)).map V.str))=H2 at s1⊢;refine(xba _ rfl ra rfl ⟨_,SqT.of (s1 _ _ Z)⟩ ?_);refine xbv (xs:=ur) (λi ys C=>C=H2/\ys=((h.rows.take i).filterMap xb6).map V.str) ⟨rfl,rfl⟩ (xa4 (by omega)) (λi ys C _ p=>by rw[p.1];exact SqT.of (s1 _ _ Z)) ?_ ?_
 ·rintro i y ys C hy hi J ⟨rfl,rfl⟩
  obtain⟨d,U,rd⟩:=hR.get hy;rw[zGM]at U;obtain⟨r,a1,rfl⟩:=zMS U;obtain⟨b,us,rfl,hb,a6⟩:=xnb rd
  have tk:(h.rows.take (i+1)).filterMap xb6=(h.rows.take i).filterMap xb6++[r].filterMap xb6:=by
   rw[zTA,a1,<- List.filterMap_append];rfl
  refine⟨ext1 rfl,?_⟩;refine(xaa _ rfl b _ _ _ rfl rfl (SqT.of (s1 _ _ hb)) (xak (j:=0) rfl) (jAEA rfl _ rfl ?_))
  cases r with
  |take l c x=>
   obtain⟨_,ao,rfl,rfl,_⟩:=a6;refine iteKT (hdT rfl) (xaa _ rfl b _ _ _ rfl rfl (SqT.of (s1 _ _ hb)) (xak (j:=1) rfl) (nxtG hi J ⟨rfl,?_⟩));rw[tk,zAP];rfl
  |_=>
   refine iteKF (hdF (xsg (by intro _ _ _ e;cases e))) (nxtN hi J ⟨rfl,?_⟩);rw[tk];exact congrArg _ (List.append_nil _).symm
 rintro ys H3 J ⟨rfl,rfl⟩ D2 a5;rw[zTL (by omega)];have s2:=Same.new a5 (.lst ((h.rows.filterMap xb6).map V.str));have I:(Str.empty++Str.ofString "takes of the hand ").length=18:=by walk_at"k"
 refine(jAEA (fits (by rw[I];decide)) _ rfl (xbw _ rfl (fits (by omega)) (fits (by rw[Str.length_append,I];omega)) (fits (by rw[Str.length_append,I];omega)) ?_));refine(xaq D2 (h.rows.filterMap xb6) _ rfl ups o.rw.nd (by have:=List.length_filterMap_le xb6 h.rows;omega) (ai _ _ (xad λR5 ah=>?_)));have m:=s1.trans s2;generalize upd H3 D2 (.lst ((h.rows.filterMap xb6).map V.str))=H4 at m⊢;clear s1 s2 a5;refine(xaa _ rfl a _ _ _ rfl rfl (SqT.of (m _ _ ha)) rfl (jEAA ba rfl ⟨_,SqT.of (m _ _ Y)⟩ ?_));refine xb3 (xs:=ub) (λi σ C=>∃o4,σ=[some (.ref ma),some (.ref a),some (.str h.name),some (.ref ra),o4,none,none]/\C=H4) (jEA none rfl rfl) (λi σ C _ p=>by obtain⟨_,_,rfl⟩:=p;exact SqT.of (m _ _ Y)) ?_ ?_
 ·rintro i v σ C hv ⟨o4,rfl,rfl⟩
  obtain⟨b,pb,a2,rfl,hb⟩:=xfw hB hv;exact(xaa _ rfl ma _ _ _ rfl rfl (SqT.of (m _ _ a7)) rfl (xaa _ rfl b _ _ _ rfl rfl (SqT.of (m _ _ hb)) rfl (xaq kv mk.kinds _ rfl (aa.same m _) a0.wf (o.kin pb (zMG a2)) (jEA _ rfl rfl))))
 rintro σ C ⟨o4,rfl,rfl⟩;refine ah _ _ (xad λR6 ag=>?_);refine(xaa _ rfl a _ _ _ rfl rfl (SqT.of (m _ _ ha)) rfl (xdw ba ub (bKV h.boxes) rfl (m _ _ Y) (xfh (hB.same m _)) (λdp ac=>ag _ _ (xad λR7 af=>?_))));have s3:=Same.new ac (.dK (xbi [] (bKV h.boxes)));have en:=xsp o.nd (show upd C dp (.dK (xbi [] (bKV h.boxes))) dp=some (.dK (xbi [] (bKV h.boxes))) from ups);have O:=m.trans s3;generalize upd C dp (.dK (xbi [] (bKV h.boxes)))=H5 at en O⊢
 have an:EnAt H5 dp 6 (envC h.boxes):=by
  obtain⟨kvs,z1,z2,z3⟩:=en;exact(jEAA kvs z1 (by omega) z3)
 refine(xba _ rfl ra rfl ⟨_,SqT.of (O _ _ Z)⟩ ?_);refine xb3 (xs:=ur) (λi σ C=>∃o6,σ=[some (.ref ma),some (.ref a),some (.str h.name),some (.ref ra),o4,some (.ref dp),o6]/\Same H5 C) (jEA none rfl (Same.refl _)) (λi σ C _ p=>by obtain⟨_,_,sm⟩:=p;exact SqT.of (sm _ _ (O _ _ Z))) ?_ ?_
 ·rintro i v σ H6 hv ⟨o6,rfl,sm⟩
  obtain⟨d,U,rd⟩:=hR.get hv;rw[zGM]at U;obtain⟨r,a1,rfl⟩:=zMS U;have M:=O.trans sm;exact(xbz _ rfl _ rfl _ rfl _ rfl _ (xav v mk h.name dp h.boxes (xas r _ rfl (hm.same M _) a0 (an.same sm) o.nd (jAA (rd.same M _) (o.rw.ok r (zMG a1)) (λH7 s7=>(jEA _ rfl (sm.trans s7)))))))
 ·rintro σ H6 ⟨o6,rfl,sm⟩
  have M:=O.trans sm;exact af _ _ (xah _ rfl _ rfl _ h.name mk.kinds (jEEE mk.chans h.name h.boxes (xbx h.rows rfl (a3.same M _) o.rw (λH7 s7=>q _ (M.trans s7)))))
theorem xr2(T:Tx K mg)(g:DefIs P w K mg base n "look_kinds" ["kinds"] xeb)(a:DefIs P w K mg base n "need_once" qaj xde)(e:DefIs P w K mg base n "look_channel" qax xrl)(l:DefIs P w K mg base n "look_hand" qay xrj):DefIs P w K mg base (n+1) "look" ["make"] spLk:=by
 refine DefIs.of T.j4 sc_look (by walk_at"l") (λf af A outer s H vs Q E hr h=>?_);obtain⟨mv,C,rfl,hm,o,q⟩:=h;have nd:=sc_look.nd;have h4:=o.hfew;have h7:=o.cfew;obtain⟨Y,kv,cv,hv,rfl,G,a4,a6,a5⟩:=mk_d hm;obtain⟨ca,uc,rfl,O,a0⟩:=a6;obtain⟨ha,uh,rfl,M,Z⟩:=a5;have a3:=a0.length;have a2:=Z.length;rw[zLM]at a3 a2
 refine⟨_,(zpn (xaz (pd g hr (pc (px K (pv 0) pI) pN ss)))
   (zpn (xaz (pd a hr (pc (xbr ["hand"] [none] rfl (by kernel_rfl) (xal (K:=K) rfl (px K (pv 0) pI)) (λ_ _ _ _=>(pgc 0)) (λ_ _ _ _=>xbq) (λ_ _ _ _=>(px K (pv 0) pI))) (pc pS pN so) xbp)))
   (zpn (xaz (pd a hr (pc (xbr ["channel"] [none] rfl (by kernel_rfl) (xal (K:=K) rfl (px K (pv 0) pI)) (λ_ _ _ _=>(pgc 0)) (λ_ _ _ _=>xbq) (λ_ _ _ _=>(px K (pv 0) pI))) (pc pS pN so) xbp)))
   (zpn (xbt PassesOwn.never rfl (xal (K:=K) rfl (px K (pv 0) pI)) (pgn 1 nd)
   (zpo (xaz (pd e hr (va 0 (v1 1))))))
   (zpn (xbt PassesOwn.never rfl (xal (K:=K) rfl (px K (pv 0) pI)) (pgn 2 nd)
   (zpo (xaz (pd l hr (va 0 (v1 2))))))
   (zpo (xaf xeq))))))),xad λR1 ab=>?_⟩
 refine(xaa _ rfl Y _ _ _ rfl rfl (SqT.of G) rfl (xbk kv C.kinds rfl a4 o.wf o.fit (λH1 s1=>ab _ _ (xad λR2 aa=>?_))));refine(xaa _ rfl Y _ _ _ rfl rfl (SqT.of (s1 _ _ G)) rfl (jEAA ha rfl ⟨_,SqT.of (s1 _ _ M)⟩ ?_));refine xbv (xs:=uh) (λi ys z=>z=H1/\ys=((C.hands.take i).map Hand.name).map V.str) ⟨rfl,rfl⟩ (xa4 (by omega)) (λi ys z _ p=>by rw[p.1];exact SqT.of (s1 _ _ M)) ?_ ?_
 ·rintro i y ys z hy hi I ⟨rfl,rfl⟩
  obtain⟨d,r,rd⟩:=Z.get hy;rw[zGM]at r;obtain⟨h,hh,rfl⟩:=zMS r;obtain⟨b,bv,rv,rfl,hb,_⟩:=hd_d rd;refine⟨ext1 rfl,xeg (xaa _ rfl b _ _ _ rfl rfl (SqT.of (s1 _ _ hb)) (xak (j:=0) rfl) (nxtG hi I ⟨rfl,?_⟩))⟩;rw[zTA,hh,zAP,zAP];rfl
 rintro ys H2 I ⟨rfl,rfl⟩ D1 ae;rw[zTL (by omega)];have s2:=Same.new ae (.lst ((C.hands.map Hand.name).map V.str));refine(xaq D1 (C.hands.map Hand.name) _ rfl ups o.hnd (by rw[zLM];omega) (aa _ _ (xad λR3 a9=>?_)));have x:=s1.trans s2;generalize upd H2 D1 (.lst ((C.hands.map Hand.name).map V.str))=H3 at x⊢;refine(xaa _ rfl Y _ _ _ rfl rfl (SqT.of (x _ _ G)) rfl (jEAA ca rfl ⟨_,SqT.of (x _ _ O)⟩ ?_));refine xbv (xs:=uc) (λi ys z=>z=H3/\ys=((C.chans.take i).map (·.1)).map V.str) ⟨rfl,rfl⟩ (xa4 (by omega)) (λi ys z _ p=>by rw[p.1];exact SqT.of (x _ _ O)) ?_ ?_
 ·rintro i y ys z hy hi I ⟨rfl,rfl⟩
  obtain⟨b,c,hc,rfl,hb⟩:=xfl a0 hy;refine⟨ext1 rfl,xeg (xaa _ rfl b _ _ _ rfl rfl (SqT.of (x _ _ hb)) (xak (j:=0) rfl) (nxtG hi I ⟨rfl,?_⟩))⟩;rw[zTA,hc,zAP,zAP];rfl
 rintro ys H4 I ⟨rfl,rfl⟩ D2 ac;rw[zTL (by omega)];have s3:=Same.new ac (.lst ((C.chans.map (·.1)).map V.str));refine(xaq D2 (C.chans.map (·.1)) _ rfl ups o.cnd (by rw[zLM];omega) (a9 _ _ (xad λR4 a8=>?_)));have u:=x.trans s3;generalize upd H4 D2 (.lst ((C.chans.map (·.1)).map V.str))=H5 at u⊢;refine(xaa _ rfl Y _ _ _ rfl rfl (SqT.of (u _ _ G)) rfl (jEAA ca rfl ⟨_,SqT.of (u _ _ O)⟩ ?_));refine xb3 (xs:=uc) (λi σ z=>∃o1,σ=[some (.ref Y),o1,none]/\Same H5 z) (jEA none rfl (Same.refl _)) (λi σ z _ p=>by obtain⟨_,_,U⟩:=p;exact SqT.of (U _ _ (u _ _ O))) ?_ ?_
 ·rintro i v σ H6 hv ⟨o1,rfl,U⟩
  obtain⟨d,r,rd⟩:=a0.get hv;rw[zGM]at r;obtain⟨c,hc,rfl⟩:=zMS r;have m:=u.trans U;exact(xah _ rfl _ rfl _ v C (xcv c rfl (hm.same m _) o (zMG hc) (rd.same m _) (λH7 s7=>(jEA _ rfl (U.trans s7)))))
 rintro σ H6 ⟨o1,rfl,U⟩;refine a8 _ _ (xad λR5 a7=>?_);have m:=u.trans U;refine(xaa _ rfl Y _ _ _ rfl rfl (SqT.of (m _ _ G)) rfl (jEAA ha rfl ⟨_,SqT.of (m _ _ M)⟩ ?_));refine xb3 (xs:=uh) (λi σ z=>∃o2,σ=[some (.ref Y),o1,o2]/\Same H6 z) (jEA none rfl (Same.refl _)) (λi σ z _ p=>by obtain⟨_,_,U⟩:=p;exact SqT.of (U _ _ (m _ _ M))) ?_ ?_
 ·rintro i v σ H7 hv ⟨o2,rfl,J⟩
  obtain⟨d,r,rd⟩:=Z.get hv;rw[zGM]at r;obtain⟨h,hh,rfl⟩:=zMS r;have a1:=m.trans J;exact(xah _ rfl _ rfl _ v C (xcv h rfl (hm.same a1 _) o (zMG hh) (rd.same a1 _) (λH8 s8=>(jEA _ rfl (J.trans s8)))))
 ·rintro σ H7 ⟨o2,rfl,J⟩
  exact a7 _ _ (q _ (m.trans J))
def spNu(F:Nat->List Kn->Str->D)(m:Nat):Sp:=λvs H Q _=>∃v ks x,vs=[v,.str x]/\RelD H v (xcz ks)/\KWf ks/\KIn ks m x/\∀u H',Same H H'->RelD H' u (F (m+1) ks x)->Q u H'
theorem xid (T:Tx K mg) (M:Sp) (g:DefIs P w K mg base n "parts_of" qac xco) (l:DefIs P w K mg base n "sort_of" qac xdi) (c:DefIs P w K mg base n "nought" qag M) (Z:∀j,m=j+1->M=spNu nuV j) :
  DefIs P w K mg base (n+1) "nought" qag (spNu nuV m):=by
 refine DefIs.of T.kE sc_nought (by walk_at"l") (λf a7 A outer s H vs Q E hr h=>?_);obtain⟨v,ks,x,rfl,hk,J,a6,q⟩:=h;have nd:=sc_nought.nd
 refine⟨_,(zpn (xar (pR xa0 (pv 1) pS (nM _)) (zpo (xaf pI)) pQ)
   (zpn (psn 2 nd (pd g hr (va 0 (v1 1))))
   (zpn (xar (pR xa0 (pd l hr (va 0 (v1 1))) pS (nM _)) (zpo (xaf (xa6 (va 1 (pc (xa7 (xbl (K:=K) rfl) rfl T.uY PyProof.Rows.boot_tuple (pc (xbr ["part","kinds"] [none,some 0] rfl (by kernel_rfl) (xal (K:=K) rfl (pv 2)) (λ_ _ _ _=>(pgc 0)) (λ_ _ _ _=>xbq) (λ_ _ _ _=>(pd c hr (va 1 (pc (px K (pv 0) pI) pN ss))))) pN xbp)) pN zsc))))) pQ)
   (zpo (xaf (xa6 (va 1 (pc (px K (px K (pv 2) pI) pI) (pc (pd c hr (va 0 (pc (px K (px K (pv 2) pI) pI) pN ss))) pN zsc) ss)))))))),?_⟩
 rcases a6.nu J with⟨rfl,_,_,e⟩ |⟨j,k,rfl,a2,hn,hm,hp,a4,I⟩
 ·refine(xao _ rfl rfl _ rfl (iteKT (by walk_at"k") ?_))
  rw[e]at q;exact q _ _ (Same.refl _) rfl
 ·have D':=Z j rfl
  subst D';refine(xao _ rfl rfl _ rfl (iteKF (zDF λz=>a4 (V.str.inj z)) ?_));refine(xay _ rfl _ rfl v ks x rfl (J.ksAt hk) (λu H1 Y r1=>?_));rw[a2]at r1;obtain⟨a,us,rfl,ha,C⟩:=r1;have hl:=C.length;rw[zLM]at hl;have h5:=J.pts k hm;refine(xay _ rfl _ rfl v ks x rfl (J.ksAt (hk.same Y _)) ?_);rw[a2];rcases I with⟨hc,_,e⟩ |⟨hc,p,r,er,_,e⟩
  ·refine(jAEA rfl _ rfl (iteKT (zDT (by show V.str k.sort=_;rw[xdj hc];rfl)) ?_))
   refine(jEA _ rfl (xba _ rfl a rfl ⟨_,SqT.of ha⟩ ?_));refine xdb (j:=0) (xs:=us) (λi ys H'=>Same H1 H'/\RelDs H' ys ((k.parts.take i).map λp=>nuV (j+1) ks p.2)) (by rfl) ⟨Same.refl _,rfl⟩ (xa4 (by omega)) (λi ys H' _ p=>SqT.of (p.1 _ _ ha)) ?_ ?_
   ·rintro i y ys H' hy a1 ⟨O,o⟩
    obtain⟨d,hd,rd⟩:=C.get hy;rw[zGM]at hd;obtain⟨p,a0,rfl⟩:=zMS hd;obtain⟨b,ws,rfl,hb,_,_,rfl,rfl,_,_,rfl,rfl,rfl⟩:=rd;have hi:i<us.length:=(zES hy).1;refine(xah _ rfl _ rfl b _ _ (xbw _ rfl rfl (SqT.of (O _ _ hb)) rfl (xaq _ ks p.2 rfl (hk.same (Y.trans O) _) J (hp p (zMG a0)) (λu H2 G r2=>nxt hi a1 ⟨O.trans G,?_⟩))));rw[zTA,a0,zAP];exact(o.same G _).append (xat u ([]) rfl r2 rfl)
   ·rintro ys H' a1 ⟨O,o⟩ D hD
    rw[zTL (by omega)]at o;refine(jEEA D ys rfl (.inl ⟨SqL.of ups,λl' a5=>⟨(by walk_at"s"),λt ht=>?_⟩⟩));have G:=Same.new hD (.lst ys);have U:=Same.new a5 (.tup ys);have s4:=Same.new ht (.tup [.str x,.ref l']);rw[e]at q;exact q _ _ (Y.trans (O.trans (G.trans (U.trans s4)))) (xan t _ rfl ups _ _ rfl rfl _ (jEAA _ rfl (xat l' ys rfl (s4 _ _ ups) (o.same (G.trans (U.trans s4)) _)) rfl))
  ·refine(jAEA rfl _ rfl (iteKF (zDF (by show ¬V.str k.sort=_;rw[xdo hc];decide +kernel)) ?_))
   rw[er]at C;obtain⟨vp,rest,rfl,rp,_⟩:=C;obtain⟨b,ws,rfl,hb,_,_,rfl,rfl,_,_,rfl,rfl,rfl⟩:=rp;have a3:SqT K H1 a (.ref b::rest):=SqT.of ha;have at0:atI (V.ref b::rest) 0=some (.ref b):=xak (j:=0) rfl;refine(xah _ rfl _ rfl a _ _ (xbw _ rfl rfl a3 at0 (xap b _ _ _ rfl rfl (SqT.of hb) rfl ?_)));refine(xah _ rfl _ rfl a _ _ (xbw _ rfl rfl a3 at0 (xap b _ _ _ rfl rfl (SqT.of hb) rfl ?_)));refine(xaq _ ks p.2 rfl (hk.same Y _) J (hp p (by rw[er];simp)) (λu H2 G r2=>⟨(by walk_at"s"),λt ht=>?_⟩));have U:=Same.new ht (.tup [.str x,.str p.1,u]);rw[e]at q;exact q _ _ (Y.trans (G.trans U)) (xan t _ rfl ups _ _ rfl rfl _ (xbj _ rfl rfl _ _ rfl (r2.same U _) rfl))
theorem xij(T:Tx K a):∀m,DefIs P w K a base (m+2) "nought" qag (spNu nuV m)
 |0=>xid (n:=1) T (λ_ _ _ _=>False) (xb8 T) (xcu T) (DefIs.none T.kE λ_ _ _ _ h=>h) (λj e=>by cases e)
 |m+1=>xid (n:=m+2) T (spNu nuV m) (xb8 T) (xcu T) (xij T m) (λj e=>by cases e;rfl)
def xm4:Sp:=λvs H Q _=>∃(v:V) (e:B),vs=[v]/\RelB H v e/\Q (.bl e.isNum) H
def spIs(m:Nat):Sp:=λvs H Q _=>∃(kv v:V) (ks:List Kn) (x:Str) (e:B),vs=[kv,.str x,v]/\RelD H kv (xcz ks)/\KWf ks/\KIn ks m x/\RelB H v e/\∀H',Same H H'->Q (.bl (fit m ks x e)) H'
def xjc(m:Nat):Sp:=λvs H Q _=>∃(kv v:V) (ks:List Kn) (x:Str) (k:Kn) (es:List B),vs=[kv,.str x,v]/\RelD H kv (xcz ks)/\KWf ks/\kAt ks x=some k/\k∈ks/\(∀p∈k.parts,KIn ks m p.2)/\RelB H v (.tup es)/\∀H',Same H H'->Q (.bl (xe8 (fit m ks) x k.parts es)) H'
def xjd(m:Nat):Sp:=λvs H Q _=>∃(kv v:V) (ks:List Kn) (x:Str) (k:Kn) (es:List B),vs=[kv,.str x,v]/\RelD H kv (xcz ks)/\KWf ks/\kAt ks x=some k/\k∈ks/\(∀p∈k.parts,KIn ks m p.2)/\RelB H v (.tup es)/\∀H',Same H H'->Q (.bl (xgd (fit m ks) x k.parts es)) H'
theorem xih(T:Tx K j):DefIs P w K j base (n+1) "is_num" ["value"] xm4:=by
 refine DefIs.of T.kB sc_is_num (by walk_at"l") (λf m A outer s H vs Q E o h=>?_);obtain⟨v,e,rfl,g,q⟩:=h;have nd:=sc_is_num.nd;refine(jEA _ (zpo (xaf (xni (xai xdn rfl T.uQ PyProof.Rows.boot_isinstance (va 0 (pc (xk1 T.uP PyProof.Rows.boot_int) pN zsn))) (xni (xt3 (xai xdn rfl T.uQ PyProof.Rows.boot_isinstance (va 0 (pc (xk1 T.uM PyProof.Rows.boot_bool) pN zsn)))) (xqr (xpg xrz xee pI (pv 0) (xdc T.uH))))))) ?_)
 cases e with
 | int i=>
  obtain rfl:v=.int i:=g;refine(xa1 _ rfl _ _ _ _ (xau _ rfl (λu b=>b) (TyOf.int _) rfl _ rfl (iteT ?_)));refine(xa1 _ rfl _ _ _ _ (xau _ rfl (λu b=>b) (TyOf.int _) rfl _ rfl (jEA _ rfl (iteT ?_))));refine(xa2 _ rfl _ _ rfl rfl _ rfl (ite2 (λc=>?_) (λc=>?_)))
  ·have e:(B.int i).isNum=decide (i<4294967296):=by show(decide (0<=i) && _)=_;rw[c];rfl
   rw[e]at q;exact(xat _ _ rfl rfl q)
  ·have e:(B.int i).isNum=false:=by show(decide (0<=i) && _)=_;rw[Bool.eq_false_iff.mpr c];rfl
   rw[e]at q;exact q
 |bl i=>
  obtain rfl:v=.bl i:=g;refine(xa1 _ rfl _ _ _ _ (xau _ rfl (λu b=>b) (TyOf.bl _) rfl _ rfl (iteT ?_)));refine(xa1 _ rfl _ _ _ _ (xau _ rfl (λu b=>b) (TyOf.bl _) rfl _ rfl (jEA _ rfl (iteF ?_))));exact q
 |str i=>
  obtain rfl:v=.str i:=g;exact(xa1 _ rfl _ _ _ _ (xau _ rfl (λu b=>b) (TyOf.str _) rfl _ rfl (iteF q)))
 |tup es=>
  obtain⟨a,vs,rfl,l,_⟩:=g;exact(xa1 _ rfl _ _ _ _ (xau _ rfl (λu b=>b) (TyOf.tup l) rfl _ rfl (iteF q)))
theorem xk6 (T:Tx K I) (C G:Sp) (o:DefIs P w K I base n "is_num" ["value"] xm4) (g:DefIs P w K I base n "sort_of" qac xdi) (l:DefIs P w K I base n "is_rec" qae C) (p:DefIs P w K I base n "is_alt" qae G)
  (J:∀j,m=j+1->C=xjc j) (M:∀j,m=j+1->G=xjd j):DefIs P w K I base (n+1) "is_of" qae (spIs m):=by
 refine DefIs.of T.kA sc_is_of (by walk_at"l") (λf a1 A outer s H vs Q E O h=>?_);obtain⟨Y,v,ks,x,e,rfl,hk,y,a0,r,q⟩:=h;have nd:=sc_is_of.nd
 refine⟨_,(zpn (xar (pR xa0 (pv 1) pS (nM _)) (zpo (xaf (pd o O (v1 2)))) pQ)
   (zpn (xar (xh4 (xne (xai xdn rfl T.uQ PyProof.Rows.boot_isinstance (va 2 (pc (xk1 T.uY PyProof.Rows.boot_tuple) pN zsn))))) (zpo (xaf xeq)) pQ)
   (zpn (xar (pR xa0 (pd g O (va 0 (v1 1))) pS (nM _)) (zpo (xaf (pd l O (va 0 (va 1 (v1 2)))))) pQ)
   (zpo (xaf (pd p O (va 0 (va 1 (v1 2))))))))),?_⟩
 rcases a0.look y with⟨rfl,b⟩ |⟨j,k,rfl,b,hn,hm,hp⟩
 ·refine(xao _ rfl rfl _ rfl (iteKT (by walk_at"k") ?_))
  rw[xka y]at q;exact(xcs _ rfl v e rfl r (q _ (Same.refl _)))
 ·have D1:=J j rfl
  have D2:=M j rfl;subst D1 D2;refine(xao _ rfl rfl _ rfl (iteKF (zDF λz=>xch (y.nm k hm) (hn.trans (V.str.inj z))) ?_))
  cases e with
  |int i=>
   rw[xok b (λ_ h=>by cases h)]at q;obtain rfl:v=.int i:=r;exact(xa1 _ rfl _ _ _ _ (xau _ rfl (λu c=>c) (TyOf.int _) rfl _ rfl (iteT (q _ (Same.refl _)))))
  |bl i=>
   rw[xok b (λ_ h=>by cases h)]at q;obtain rfl:v=.bl i:=r;exact(xa1 _ rfl _ _ _ _ (xau _ rfl (λu c=>c) (TyOf.bl _) rfl _ rfl (iteT (q _ (Same.refl _)))))
  |str i=>
   rw[xok b (λ_ h=>by cases h)]at q;obtain rfl:v=.str i:=r;exact(xa1 _ rfl _ _ _ _ (xau _ rfl (λu c=>c) (TyOf.str _) rfl _ rfl (iteT (q _ (Same.refl _)))))
  | tup es=>
   rw[xj9 b]at q;have Z:=r;obtain⟨a,vs,rfl,ha,_⟩:=Z;refine(xa1 _ rfl _ _ _ _ (xau _ rfl (λu c=>c) (TyOf.tup ha) rfl _ rfl (iteF ?_)));refine(xay _ rfl _ rfl Y ks x rfl (y.ksAt hk) ?_);rw[b]
   cases U:k.rc with
   |true=>
    rw[if_pos U]at q;refine(jAEA rfl _ rfl (iteKT (zDT (by show V.str k.sort=_;rw[xdj U];rfl)) ?_));exact(xbf _ rfl _ rfl _ rfl Y _ (xca ks x k es rfl hk y b hm hp ⟨r,q⟩))
   |false=>
    rw[if_neg (by rw[U];decide)]at q;refine(jAEA rfl _ rfl (iteKF (zDF (by show ¬V.str k.sort=_;rw[xdo U];decide +kernel)) ?_));exact(xbf _ rfl _ rfl _ rfl Y _ (xca ks x k es rfl hk y b hm hp ⟨r,q⟩))
theorem xns(T:Tx K mg)(r:DefIs P w K mg base n "is_of" qae (spIs m))(g:DefIs P w K mg base n "parts_of" qac xco):DefIs P w K mg base (n+1) "is_rec" qae (xjc m):=by
 refine DefIs.of T.kC sc_is_rec (by walk_at"l") (λf a4 A outer s H vs Q E hr h=>?_);obtain⟨kv,v,ks,x,k,es,rfl,hk,wf,a2,hm,hp,hv,q⟩:=h;have nd:=sc_is_rec.nd;have hu:=xe3 hr
 refine⟨_,(zpn (xar (PW.pt (xjo (pR xe1 (xai (xac (K:=K) rfl) rfl T.uR PySem.boot_len (v1 2)) pI (nM _)) (xgm (pR (xqt (Nat.lt_of_succ_lt hu)) (px K (pv 2) pI) (pv 1) (nM _))))) (zpo (xaf xeq)) pQ)
   (zpn (psn 3 nd (px K (pv 2) pI))
   (zpn (psn 4 nd (pd g hr (va 0 (v1 1))))
   (zpn (xar (PW.pt (xjo (xh4 (xne (xai xdn rfl T.uQ PyProof.Rows.boot_isinstance (va 3 (pc (xk1 T.uY PyProof.Rows.boot_tuple) pN zsn))))) (xgm (pR xe1 (xai (xac (K:=K) rfl) rfl T.uR PySem.boot_len (v1 3)) (xai (xac (K:=K) rfl) rfl T.uR PySem.boot_len (v1 4)) (nM _))))) (zpo (xaf xeq)) pQ)
   (zpo (xaf (xai (xhl rfl) rfl T.uK PyProof.Rows.boot_all (pc (xbr ["part","each","kinds"] [none,none,some 0] rfl (by kernel_rfl) (xqp rfl T.uZ (va 4 (v1 3))) (λ_ _ _ _=>(xbc (K:=K) (n:=2) rfl rfl (xae (pgc 0) (xae (pgc 1) xbb)))) (λ_ _ _ _=>xbq) (λ_ _ _ _=>(pd r hr (va 2 (pc (px K (pv 0) pI) (v1 1) ss))))) pN xbp)))))))),?_⟩
 obtain⟨a,vs,rfl,ha,C⟩:=hv;have hl:=C.length;refine(xa8 _ rfl a _ rfl (.inr (SqT.of ha)) rfl (jEA _ rfl ?_));by_cases h2:es.length=2
 ·refine xhj (by rw[zDT (by rw[hl,h2];rfl)];rfl) ?_
  match es,h2,C,q with
  |[e0,e1],_,C,q=>
  obtain⟨v0,_,rfl,r0,v1,_,rfl,r1,rfl⟩:=C;refine(xaa _ rfl a _ _ _ rfl rfl (SqT.of ha) rfl (xa2 _ rfl e0 x r0 rfl _ rfl ?_))
  cases hS:e0.isS x with
  |false=>
   rw[xo6 hS]at q;exact iteT (q _ (Same.refl _))
  | true=>
   refine iteF ?_;refine(xaa _ rfl a _ _ _ rfl rfl (SqT.of ha) rfl ?_);refine(xay _ rfl _ rfl kv ks x rfl (wf.ksAt hk) (λu H1 o J=>?_));rw[a2]at J;obtain⟨c,zs,rfl,hc,M⟩:=J;have I:=M.length;rw[zLM]at I;have h5:=wf.pts k hm
   cases e1 with
   |int i=>
    obtain rfl:v1=.int i:=r1;exact(xa1 _ rfl _ _ _ _ (xau _ rfl (λu j=>j) (TyOf.int _) rfl _ rfl (iteT (iteT (q _ o)))))
   |bl i=>
    obtain rfl:v1=.bl i:=r1;exact(xa1 _ rfl _ _ _ _ (xau _ rfl (λu j=>j) (TyOf.bl _) rfl _ rfl (iteT (iteT (q _ o)))))
   |str i=>
    obtain rfl:v1=.str i:=r1;exact(xa1 _ rfl _ _ _ _ (xau _ rfl (λu j=>j) (TyOf.str _) rfl _ rfl (iteT (iteT (q _ o)))))
   | tup ws=>
    obtain⟨a1,us,rfl,G,O⟩:=r1;have U:=O.length;refine(xa1 _ rfl _ _ _ _ (xau _ rfl (λu j=>j) (TyOf.tup (o _ _ G)) rfl _ rfl (iteF ?_)));refine(xa2 _ rfl a1 _ rfl (.inr (SqT.of (o _ _ G))) _ rfl (xb0 c _ rfl (.inr (SqT.of hc)) rfl (jEA _ rfl ?_)));by_cases l:ws.length=k.parts.length
    ·refine xhj (by rw[zDT (by rw[U,I,l])];rfl) ?_
     rw[xgl hS l]at q;refine(jEA _ rfl (xa8 _ rfl c a1 rfl ⟨_,SqT.of hc⟩ ⟨_,SqT.of (o _ _ G)⟩ ?_));refine xp8 (xs:=zs) (zs:=us) (by omega) (λi ys H'=>Same H1 H'/\ys=((zipB (fit m ks) k.parts ws).take i).map V.bl) ⟨Same.refl _,rfl⟩ (xa4 (by omega)) (λi ys H' _ p=>⟨SqT.of (p.1 _ _ hc),SqT.of (p.1 _ _ (o _ _ G))⟩) ?_ ?_
     ·rintro i y z ys H' pp hy hz hi Z ⟨sm,rfl⟩ a0
      obtain⟨d,hd,rd⟩:=M.get hy;rw[zGM]at hd;obtain⟨pr,Y,rfl⟩:=zMS hd;obtain⟨b,a3,rfl,hb,_,_,rfl,rfl,_,_,rfl,rfl,rfl⟩:=rd;obtain⟨e,he,re⟩:=O.get hz;have sp:=Same.new a0 (.tup [.ref b,z]);have s2:=sm.trans sp;refine(xax pp _ rfl (SqT.of ups) rfl _ _ rfl _ (xbx _ rfl rfl (ext2 rfl rfl) (xeg ?_)));refine(xah _ rfl _ rfl b _ _ (xau _ rfl rfl (SqT.of (s2 _ _ hb)) rfl _ rfl (xag kv z ks pr.2 e rfl (hk.same (o.trans s2) _) wf (hp pr (zMG Y)) (re.same (o.trans s2) _) (λH3 s3=>nxtG hi Z ⟨s2.trans s3,?_⟩))));rw[xmi Y he,zAP];rfl
     ·rintro ys H' Z ⟨sm,rfl⟩ D hD
      rw[zTL (by have:=xoy (f:=fit m ks) (ps:=k.parts) (ws:=ws);omega)];exact(xat D _ rfl (SqL.of ups) (q _ (o.trans (sm.trans (Same.new hD _)))))
    ·rw[xo7 l]at q
     refine xma (by rw[zDF (by rw[U,I];exact λz=>l (by have:=V.int.inj z;omega))];rfl) ?_;exact q _ o
 ·rw[xlw h2]at q
  refine xma (by rw[zDF (by rw[hl];exact λz=>h2 (by have:=V.int.inj z;omega))];rfl) (iteT ?_);exact q _ (Same.refl _)
theorem xnt(T:Tx K Z)(g:DefIs P w K Z base n "is_of" qae (spIs m))(e:DefIs P w K Z base n "parts_of" qac xco):DefIs P w K Z base (n+1) "is_alt" qae (xjd m):=by
 refine DefIs.of T.kD sc_is_alt (by walk_at"l") (λf a3 A outer s H vs Q E hr h=>?_);obtain⟨kv,v,ks,x,k,es,rfl,hk,Y,a1,hm,hp,hv,q⟩:=h;have nd:=sc_is_alt.nd;have hu:=xe3 hr
 refine⟨_,(zpn (xar (PW.pt (xjo (pR xe1 (xai (xac (K:=K) rfl) rfl T.uR PySem.boot_len (v1 2)) pI (nM _)) (xgm (pR (xqt (Nat.lt_of_succ_lt hu)) (px K (pv 2) pI) (pv 1) (nM _))))) (zpo (xaf xeq)) pQ)
   (zpo (xaf (xai (xqa rfl) rfl T.uL PyProof.Rows.boot_any (pc (xbr ["part","kinds","value"] [none,some 0,some 2] rfl (by kernel_rfl) (xal (K:=K) rfl (pd e hr (va 0 (v1 1)))) (λ_ _ _ _=>(pgc 0)) (λ_ _ _ _=>(xdk (pR (xt7 (Nat.lt_of_succ_lt hu)) (px K (pv 0) pI) (px K (pv 2) pI) (nM _)))) (λ_ _ _ _=>(pd g hr (va 1 (pc (px K (pv 0) pI) (pc (px K (pv 2) pI) pN ss) ss))))) pN xbp))))),?_⟩
 obtain⟨a,vs,rfl,ha,l⟩:=hv;have hl:=l.length;refine(xa8 _ rfl a _ rfl (.inr (SqT.of ha)) rfl (jEA _ rfl ?_));by_cases O:es.length=3
 ·refine xhj (by rw[zDT (by rw[hl,O];rfl)];rfl) ?_
  match es,O,l,q with
  |[e0,t,d],_,l,q=>
  obtain⟨v0,_,rfl,r0,v1,_,rfl,r1,v2,_,rfl,r2,rfl⟩:=l;refine(xaa _ rfl a _ _ _ rfl rfl (SqT.of ha) rfl (xa2 _ rfl e0 x r0 rfl _ rfl ?_))
  cases hS:e0.isS x with
  |false=>
   rw[xqe hS]at q;exact iteT (q _ (Same.refl _))
  | true=>
   rw[xgx hS]at q;refine iteF ?_;refine(xay _ rfl _ rfl kv ks x rfl (Y.ksAt hk) (λu H1 C G=>?_));rw[a1]at G;obtain⟨c,zs,rfl,hc,I⟩:=G;have a0:=I.length;rw[zLM]at a0;have h5:=Y.pts k hm;refine(jEAA c rfl ⟨_,SqT.of hc⟩ ?_);refine xbv (xs:=zs) (λi ys U=>Same H1 U/\ys=(tagB (fit m ks) t d (k.parts.take i)).map V.bl) ⟨Same.refl _,rfl⟩ (xa4 (by omega)) (λi ys U _ p=>SqT.of (p.1 _ _ hc)) ?_ ?_
   ·rintro i y ys U hy hi r ⟨j,rfl⟩
    obtain⟨d',hd,rd⟩:=I.get hy;rw[zGM]at hd;obtain⟨M,o,rfl⟩:=zMS hd;obtain⟨b,a2,rfl,hb,_,_,rfl,rfl,_,_,rfl,rfl,rfl⟩:=rd;have J:=j _ _ (C _ _ ha);refine⟨xe5 rfl,?_⟩;refine(xaa _ rfl b _ _ _ rfl rfl (SqT.of (j _ _ hb)) rfl (xaa _ rfl a _ _ _ rfl rfl (SqT.of J) rfl (xat t M.1 rfl (r1.same (C.trans j) _) (jEA _ rfl ?_))))
    cases hT:t.isS M.1 with
    |true=>
     refine iteT ?_;refine(xah _ rfl _ rfl b _ _ (xau _ rfl rfl (SqT.of (j _ _ hb)) rfl _ rfl (xbu a _ _ _ rfl rfl (SqT.of J) rfl kv (xbg v2 ks M.2 d rfl (hk.same (C.trans j) _) Y (hp M (zMG o)) (r2.same (C.trans j) _) (λH3 s3=>nxtG hi r ⟨j.trans s3,?_⟩)))));rw[xho o,if_pos hT,zAP];rfl
    |false=>
     refine iteF (nxtN hi r ⟨j,?_⟩);rw[xho o,if_neg (by rw[hT];decide),List.append_nil]
   ·rintro ys U r ⟨j,rfl⟩ D hD
    rw[zTL (by omega)];exact(xat D _ rfl (SqL.of ups) (q _ (C.trans (j.trans (Same.new hD _)))))
 ·rw[xmg O]at q
  refine xma (by rw[zDF (by rw[hl];exact λz=>O (by have:=V.int.inj z;omega))];rfl) (iteT ?_);exact q _ (Same.refl _)
theorem xj5(T:Tx K a):∀m,DefIs P w K a base (2*m+2) "is_of" qae (spIs m)
 |0=>xk6 (n:=1) T (λ_ _ _ _=>False) (λ_ _ _ _=>False) (xih T) (xcu T) (DefIs.none T.kC λ_ _ _ _ h=>h) (DefIs.none T.kD λ_ _ _ _ h=>h) (λj e=>by cases e) (λj e=>by cases e)
 |m+1=>xk6 (n:=2*m+3) T (xjc m) (xjd m) (xih T) (xcu T) (xns (n:=2*m+2) T (xj5 T m) (xb8 T)) (xnt (n:=2*m+2) T (xj5 T m) (xb8 T)) (λj e=>by cases e;rfl) (λj e=>by cases e;rfl)
def xen(m:Nat):Sp:=λvs H Q _=>∃(f:Addr) (kv:V) (p q:Int) (ks:List Kn) (x:Str),vs=[.ref f,kv,.str x]/\H f=some (.lst [.int p,.int q])/\RelD H kv (xcz ks)/\KWf ks/\KIn ks m x/\∀u d H',Fed f H H'->RelD H' u d->Vk ks x d->Q u H'
theorem xh8 (T:Tx K mg) (a7:Sp) (g:DefIs P w K mg base n "_law_sort_of" qab xez) (o:DefIs P w K mg base n "_law_take" qad xcn) (l:DefIs P w K mg base n "_law_number" qa2 xm2) (c:DefIs P w K mg base n "_law_value" qat a7) (a9:∀j,m=j+1->a7=xen j) :
  DefIs P w K mg base (n+1) "_law_value" qat (xen m):=by
 refine DefIs.of T.uC scl_value (by walk_at"l") (λf ao A outer s H vs Q E hr h=>?_);obtain⟨f',kv,p,q0,ks,x,rfl,hf,hk,wf,aj,q⟩:=h;have nd:=scl_value.nd
 refine⟨_,(zpn (xc6 (pd g hr (va 1 (v1 2))) (xbc (K:=K) rfl rfl (xae (pgn 3 nd) (xae (pgn 4 nd) xbb))))
   (zpn (xar (pR xa0 (pv 3) pS (nM _)) (zpo (xaf (pd l hr (v1 0)))) pQ)
   (zpn (xar (pR xa0 (pv 3) pS (nM _)) (zpo (xaf (xa6 (va 2 (pc (xa7 (xbl (K:=K) rfl) rfl T.uY PyProof.Rows.boot_tuple (pc (xbr ["_law_f","_law_part","_law_feed_here","_law_kinds_here"] [none,none,some 0,some 1] rfl (by kernel_rfl) (xal (K:=K) rfl (pv 4)) (λ_ _ _ _=>(xbc (K:=K) (n:=2) rfl rfl (xae (pgc 0) (xae (pgc 1) xbb)))) (λ_ _ _ _=>xbq) (λ_ _ _ _=>(pd c hr (va 2 (va 3 (v1 1)))))) pN xbp)) pN zsc))))) pQ)
   (zpn (xc6 (px K (pv 4) (pd o hr (va 0 (pc (xai (xac (K:=K) rfl) rfl T.uR PySem.boot_len (v1 4)) pN zsc)))) (xbc (K:=K) rfl rfl (xae (pgn 5 nd) (xae (pgn 6 nd) xbb))))
   (zpo (xaf (xa6 (va 2 (va 5 (pc (pd c hr (va 0 (va 1 (v1 6)))) pN zsc)))))))))),?_⟩
 refine(xay _ rfl _ rfl kv ks x rfl ((wf.ksAt hk).seq) (λt am H1 s1 ht rp=>?_));refine(xax t _ rfl (SqT.of ht) rfl _ _ rfl _ (jEAA _ rfl rfl ?_));have C:=s1 _ _ hf;have F1:Fed f' H H1:=(Fed.refl hf).same s1;rcases aj.look wf with⟨rfl,z⟩ |⟨j,k,rfl,z,hn,hm,hp⟩
 ·refine(xao _ rfl rfl _ rfl (iteKT (zDT (by rw[z];rfl)) ?_))
  refine(jEA _ rfl (xc2 f' p q0 rfl C (λr H2 af f2=>?_)));exact q _ (.int r) _ (F1.trans f2) rfl (.num r af)
 ·have D':=a9 j rfl
  subst D';rw[z]at rp;obtain⟨a,us,rfl,ha,a1⟩:=rp;have hl:=a1.length;rw[zLM]at hl;have h5:=wf.pts k hm;have G:xft (kAt ks x)=k.sort:=by rw[z];rfl
  cases hc:k.rc with
  |false=>
   have ab:k.sort=S "alt":=xdo hc;refine(xao _ rfl rfl _ rfl (iteKF (zDF (by rw[G,ab];decide +kernel)) ?_));refine(xao _ rfl rfl _ rfl (iteKF (zDF (by rw[G,ab];decide +kernel)) ?_));have an:k.parts.length≠0:=λe=>wf.alt k hm hc (List.length_eq_zero_iff.mp e);refine(xa9 _ rfl _ rfl _ rfl a _ rfl (.inr (SqT.of ha)) (xap f' p q0 _ rfl C (by omega) (by omega) (λr H2 r0 r1 f2=>?_)));have O:=xaj (jEE p q0 C) f2;obtain⟨i,rfl⟩:∃i:Nat,r=(i:Int):=⟨r.toNat,by omega⟩;have hi:i<us.length:=by omega
   have g1:atI us (i:Int)=some us[i]:=xak (zGA hi);obtain⟨d,hd,rd⟩:=a1.get (zGA hi);rw[zGM]at hd;obtain⟨U,I,rfl⟩:=zMS hd;obtain⟨b,ws,eu,hb,_,_,rfl,rfl,_,_,rfl,rfl,rfl⟩:=rd;rw[eu]at g1;have M:=zMG I;obtain⟨p2,q2,J⟩:=f2.2;have ai:=(hk.same s1 _).tups O _;refine(xbu a _ _ _ rfl rfl (SqT.of (O _ _ ha)) g1 b (xbx _ rfl (SqT.of (O _ _ hb)) rfl (jEEA _ _ rfl (xat _ _ rfl rfl ?_))));refine(xa3 _ rfl _ rfl _ rfl _ rfl _ rfl (xav f' kv p2 q2 ks (xcv U.2 rfl J ai wf (hp U M) (λu e H3 f3 ru a5=>⟨(by walk_at"s"),λt3 a2=>?_⟩))));have s4:=Same.new a2 (.tup [.str x,.str U.1,u]);exact q _ (.tup [.str x,.str U.1,e]) _ ((F1.trans (f2.trans f3)).same s4) (xan t3 _ rfl ups _ _ rfl rfl _ (xbj _ rfl rfl _ _ rfl (ru.same s4 _) rfl)) (.al z hc M a5)
  | true=>
   have aa:k.sort=S "rec":=xdj hc;refine(xao _ rfl rfl _ rfl (iteKF (zDF (by rw[G,aa];decide +kernel)) ?_));refine(xao _ rfl rfl _ rfl (iteKT (zDT (by rw[G,aa];rfl)) ?_));refine(jEA _ rfl (xba _ rfl a rfl ⟨_,SqT.of ha⟩ ?_));refine xbv (xs:=us) (λi ys H'=>Fed f' H1 H'/\ys.length=i/\∃ds:List D,RelDs H' ys ds/\ds.length=i/\∀(Z:Nat) w' Y,ds[Z]?=some w'->k.parts[Z]?=some Y->Vk ks Y.2 w') (jAA (Fed.refl C) rfl (jEAA ([]) rfl rfl (λZ w' Y h=>by simp at h))) (xa4 (by omega)) (λi ys H' _ Y=>SqT.of (xaj (jEE p q0 C) Y.1 _ _ ha)) ?_ ?_
   ·rintro i y ys H' hy hi ac ⟨fm,ae,ds,a0,a6,a4⟩
    have tp:=xaj (jEE p q0 C) fm;obtain⟨d,hd,rd⟩:=a1.get hy;rw[zGM]at hd;obtain⟨U,I,rfl⟩:=zMS hd;obtain⟨b,ws,rfl,hb,_,_,rfl,rfl,_,_,rfl,rfl,rfl⟩:=rd;obtain⟨p2,q2,J⟩:=fm.2;refine(xax b _ rfl (SqT.of (tp _ _ hb)) rfl _ _ rfl _ (xbx _ rfl rfl (ext2 rfl rfl) (xeg ?_)));refine(xbf _ rfl _ rfl _ rfl f' kv (xbg p2 q2 ks U.2 rfl J ((hk.same s1 _).tups tp _) wf (hp U (zMG I)) (λu e H3 f3 ru a5=>nxtG hi ac (jAA (fm.trans f3) (by rw[zLA,List.length_singleton,ae]) (jEAA (ds++[e]) ?_ (by rw[zLA,List.length_singleton,a6]) (λZ w' Y hw a3=>?_))))))
    ·exact(a0.tups (xaj (jEE p2 q2 J) f3) _).append (xat u ([]) rfl ru rfl)
    ·by_cases ak:Z<ds.length
     ·rw[List.getElem?_append_left ak]at hw
      exact a4 Z w' Y hw a3
     ·have ag:=(zES hw).1
      rw[zLA,List.length_singleton]at ag;have e0:Z=i:=by omega
      subst e0;rw[List.getElem?_append_right (by omega),a6,Nat.sub_self]at hw;simp at hw;subst hw;rw[I]at a3;cases a3;exact a5
   ·rintro ys H' ac ⟨fm,_,ds,a0,a6,a4⟩ D hD
    refine(jEEA D ys rfl (.inl ⟨SqL.of ups,λl' ah=>⟨(by walk_at"s"),λt3 a2=>?_⟩⟩));have s2:=Same.new hD (.lst ys);have s3:=Same.new ah (.tup ys);have s4:=Same.new a2 (.tup [.str x,.ref l']);have a8:=s2.trans (s3.trans s4);exact q _ (.tup [.str x,.tup ds]) _ ((F1.trans fm).same a8) (xan t3 _ rfl ups _ _ rfl rfl _ (jEAA _ rfl (xat l' ys rfl (s4 _ _ ups) (a0.same a8 _)) rfl)) (.rc z hc (by omega) a4)
theorem xkl(T:Tx K a):∀m,DefIs P w K a base (m+3) "_law_value" qat (xen m)
 |0=>xh8 (n:=2) T (λ_ _ _ _=>False) (xb7 T) (xc8 T) (xe2 T (xc8 T)) (DefIs.none T.uC λ_ _ _ _ h=>h) (λj e=>by cases e)
 |m+1=>xh8 (n:=m+3) T (xen m) (xb7 T) (xc8 T) (xe2 T (xc8 T)) (xkl T m) (λj e=>by cases e;rfl)
def bK(bs:List (Str×Str))(x:Str):Str:=((bs.find? λb=>decide (b.1=x)).map (·.2)).getD (S "num")
def cK(cs:List Chn)(c:Str):Str:=((cs.find? λch=>decide (ch.1=c)).map (·.2.2.2)).getD (S "num")
def rowK(mk:Mak)(hd:Hand):Row->Str
 |.set x _=>bK hd.boxes x
 |.send c _=>cK mk.chans c
 |.take _ c _=>cK mk.chans c
 |_=>S "num"
theorem xqc{bs:List (Str×Str)}(nd:(bs.map (·.1)).Nodup){p:Str×Str}(a:p∈bs):bK bs p.1=p.2:=by
 obtain⟨j,c⟩:=List.mem_iff_getElem?.mp a;unfold bK;rw[xcm (f:=λb:Str×Str=>b.1) nd c];rfl
theorem xkg{b:Mak}(a:MakG b){c:Chn}(e:c∈b.chans):cK b.chans c.1=c.2.2.2:=by
 unfold cK;rw[xev a e];rfl
def xrk:Sp:=λvs H Q _=>∃(mv rv:V) (f p:Addr) (mk:Mak) (hd:Hand) (r:Row) (ev:En),vs=[mv,.ref f,rv,.ref p]/\RelD H mv mk.d/\MakG mk/\hd∈mk.hands/\r∈hd.rows/\RelD H rv r.d/\(∃a b:Int,H f=some (.lst [.int a,.int b]))/\EnAt H p 6 ev/\FitB mk.kinds hd.boxes ev ∧
 ∀u d H',Fed f H H'->RelD H' u d->Vk mk.kinds (rowK mk hd r) d->Q u H'
theorem noS{x y:Str}(h:x≠y):decide (V.str x=V.str y)=false:=zDF λz=>h (V.str.inj z)
theorem xpn(T:Tx K mg)(i:DefIs P w K mg base n "worth" qaa (xdh (λks=>Ev ks 21) 6))(o:DefIs P w K mg base n "_law_value" qat (xen 6))(m:DefIs P w K mg base n "channel_of" qak xeo):DefIs P w K mg base (n+1) "_law_done" qa9 xrk:=by
 refine DefIs.of T.uD scl_done (by walk_at"l") (λf a9 A outer s H vs Q E Z h=>?_);obtain⟨mv,rv,f',p,O,hd,r,ev,rfl,hm,C,a6,a3,a2,⟨x1,x2,hf⟩,en,fb,q⟩:=h;have nd:=scl_done.nd;have wf:=C.wf;have a0:=C.hok hd a6;have G:=a0.rw.ok r a3;have a5:=hm;obtain⟨ma,kv,cv,hv,rfl,a4,a1,_,_⟩:=mk_d hm;obtain⟨a,us,rfl,ha,I⟩:=xnb a2;have ks:=wf.ksAt a1;have F0:Fed f' H H:=Fed.refl hf;have e:SqT K H a (.str r.hd::us):=SqT.of ha;have h0:atI (V.str r.hd::us) 0=some (.str r.hd):=xak (j:=0) rfl
 refine⟨_,(zpn (psn 4 nd (px K (pv 0) pI))
   (zpn (xar (pR xa0 (px K (pv 2) pI) pS (nM _)) (zpo (xaf (pd i Z (va 4 (pc (px K (pv 2) pI) (v1 3) ss))))) pQ)
   (zpn (xar (pR xa0 (px K (pv 2) pI) pS (nM _)) (zpo (xaf (pd i Z (va 4 (pc (px K (pv 2) pI) (v1 3) ss))))) pQ)
   (zpn (xar (pR xa0 (px K (pv 2) pI) pS (nM _)) (zpo (xaf (pd o Z (va 1 (va 4 (pc (px K (pd m Z (va 0 (pc (px K (pv 2) pI) pN ss))) pI) pN ss)))))) pQ)
   (zpn (xar (PW.pt (xjo (pR xa0 (px K (pv 2) pI) pS (nM _)) (xgm (pR xa0 (px K (pv 2) pI) pS (nM _))))) (zpo (xaf (pd i Z (va 4 (pc (px K (pv 2) pI) (v1 3) ss))))) pQ)
   (zpo (xaf pI))))))),xad λR1 a8=>?_⟩
 refine(xaa _ rfl ma _ _ _ rfl rfl (SqT.of a4) rfl (a8 _ _ ?_))
 have go:∀{t:D} {k:Str} {M:V},RelD H M t->TmG O.kinds hd.boxes t k->rowK O hd r=k->xdh (λks=>Ev ks 21) 6 [kv,M,.ref p] H Q E:=λ{t k M} z Y ek=>by
  obtain⟨v,e1,e2⟩:=xs2 wf Y fb;exact(xav kv M p O.kinds t (xas ev v rfl ks z en e1 (λu H' s' ru=>q u v H' (F0.same s') ru (by rw[ek];exact e2))))
 cases r with
 |set x t=>
  obtain⟨k,hk,Y⟩:=G;obtain⟨_,U,rfl,rfl,M,_,rfl,z,rfl⟩:=I;refine(xaa _ rfl a _ _ _ rfl rfl e h0 (jAEA rfl _ rfl (iteKT (zDT rfl) ?_)));exact(xah _ rfl _ rfl a _ _ (xau _ rfl rfl e (xak (j:=2) rfl) _ rfl (go z Y (xqc a0.nd hk))))
 |send c t=>
  obtain⟨ch,J,rfl,a7,Y⟩:=G;obtain⟨_,U,rfl,rfl,M,_,rfl,z,rfl⟩:=I;refine(xaa _ rfl a _ _ _ rfl rfl e h0 (jAEA rfl _ rfl (iteKF (noS (x:=S "send") (y:=S "set") (by walk_at"k")) ?_)));refine(xaa _ rfl a _ _ _ rfl rfl e h0 (jAEA rfl _ rfl (iteKT (zDT rfl) ?_)));exact(xah _ rfl _ rfl a _ _ (xau _ rfl rfl e (xak (j:=2) rfl) _ rfl (go z Y (xkg C J))))
 |take l c x=>
  obtain⟨_,ch,J,rfl,a7,hx⟩:=G;obtain⟨_,U,rfl,rfl,_,_,rfl,rfl,_,_,rfl,rfl,rfl⟩:=I;refine(xaa _ rfl a _ _ _ rfl rfl e h0 (jAEA rfl _ rfl (iteKF (noS (x:=S "take") (y:=S "set") (by walk_at"k")) ?_)));refine(xaa _ rfl a _ _ _ rfl rfl e h0 (jAEA rfl _ rfl (iteKF (noS (x:=S "take") (y:=S "send") (by walk_at"k")) ?_)));refine(xaa _ rfl a _ _ _ rfl rfl e h0 (jAEA rfl _ rfl (iteKT (zDT rfl) ?_)));refine(xbz _ rfl _ rfl _ rfl _ rfl a (xaq _ _ _ rfl rfl e (xak (j:=2) rfl) (jEEE _ ch.1 O (xbx ch rfl a5 (xev C J) (λu hu=>?_)))));obtain⟨b,ws,rfl,hb,_,_,rfl,rfl,_,_,rfl,rfl,_,_,rfl,rfl,_,_,rfl,rfl,rfl⟩:=hu;refine(xbu b _ _ _ rfl rfl (SqT.of hb) rfl f' (xag kv x1 x2 O.kinds ch.2.2.2 rfl hf a1 wf (C.ckin ch J) (λu d H' F' ru hv=>q u d H' F' ru ?_)));show Vk O.kinds (cK O.chans ch.1) d;rw[xkg C J];exact hv
 |tell t=>
  obtain⟨M,_,rfl,z,rfl⟩:=I;refine(xaa _ rfl a _ _ _ rfl rfl e h0 (jAEA rfl _ rfl (iteKF (noS (x:=S "tell") (y:=S "set") (by walk_at"k")) ?_)));refine(xaa _ rfl a _ _ _ rfl rfl e h0 (jAEA rfl _ rfl (iteKF (noS (x:=S "tell") (y:=S "send") (by walk_at"k")) ?_)));refine(xaa _ rfl a _ _ _ rfl rfl e h0 (jAEA rfl _ rfl (iteKF (noS (x:=S "tell") (y:=S "take") (by walk_at"k")) ?_)));refine(xaa _ rfl a _ _ _ rfl rfl e h0 (jAEA rfl _ rfl (iteKT (zDT rfl) (iteT ?_))));exact(xah _ rfl _ rfl a _ _ (xau _ rfl rfl e (xak (j:=1) rfl) _ rfl (go z G rfl)))
 |cond t g=>
  obtain⟨M,_,rfl,z,_⟩:=I;refine(xaa _ rfl a _ _ _ rfl rfl e h0 (jAEA rfl _ rfl (iteKF (noS (x:=S "if") (y:=S "set") (by walk_at"k")) ?_)));refine(xaa _ rfl a _ _ _ rfl rfl e h0 (jAEA rfl _ rfl (iteKF (noS (x:=S "if") (y:=S "send") (by walk_at"k")) ?_)));refine(xaa _ rfl a _ _ _ rfl rfl e h0 (jAEA rfl _ rfl (iteKF (noS (x:=S "if") (y:=S "take") (by walk_at"k")) ?_)));refine(xaa _ rfl a _ _ _ rfl rfl e h0 (jAEA rfl _ rfl (iteKF (noS (x:=S "if") (y:=S "tell") (by walk_at"k")) ?_)));refine(xaa _ rfl a _ _ _ rfl rfl e h0 (jAEA rfl _ rfl (iteKT (zDT rfl) ?_)));exact(xah _ rfl _ rfl a _ _ (xau _ rfl rfl e (xak (j:=1) rfl) _ rfl (go z G.1 rfl)))
 |go g=>
  refine(xaa _ rfl a _ _ _ rfl rfl e h0 (jAEA rfl _ rfl (iteKF (noS (x:=S "go") (y:=S "set") (by walk_at"k")) ?_)));refine(xaa _ rfl a _ _ _ rfl rfl e h0 (jAEA rfl _ rfl (iteKF (noS (x:=S "go") (y:=S "send") (by walk_at"k")) ?_)));refine(xaa _ rfl a _ _ _ rfl rfl e h0 (jAEA rfl _ rfl (iteKF (noS (x:=S "go") (y:=S "take") (by walk_at"k")) ?_)));refine(xaa _ rfl a _ _ _ rfl rfl e h0 (jAEA rfl _ rfl (iteKF (noS (x:=S "go") (y:=S "tell") (by walk_at"k")) ?_)));refine(xaa _ rfl a _ _ _ rfl rfl e h0 (jAEA rfl _ rfl (iteKF (noS (x:=S "go") (y:=S "if") (by walk_at"k")) ?_)));exact q _ (.int 0) H F0 rfl (.num 0 ⟨by decide,by decide⟩)
 |fin=>
  refine(xaa _ rfl a _ _ _ rfl rfl e h0 (jAEA rfl _ rfl (iteKF (noS (x:=S "end") (y:=S "set") (by walk_at"k")) ?_)));refine(xaa _ rfl a _ _ _ rfl rfl e h0 (jAEA rfl _ rfl (iteKF (noS (x:=S "end") (y:=S "send") (by walk_at"k")) ?_)));refine(xaa _ rfl a _ _ _ rfl rfl e h0 (jAEA rfl _ rfl (iteKF (noS (x:=S "end") (y:=S "take") (by walk_at"k")) ?_)));refine(xaa _ rfl a _ _ _ rfl rfl e h0 (jAEA rfl _ rfl (iteKF (noS (x:=S "end") (y:=S "tell") (by walk_at"k")) ?_)));refine(xaa _ rfl a _ _ _ rfl rfl e h0 (jAEA rfl _ rfl (iteKF (noS (x:=S "end") (y:=S "if") (by walk_at"k")) ?_)));exact q _ (.int 0) H F0 rfl (.num 0 ⟨by decide,by decide⟩)
def begL(mk:Mak)(hd:Hand):List (Str×D):=hd.boxes.map λb=>(b.1,nuV 7 mk.kinds b.2)
theorem xpb{bx:List (Str×D)}{x:Str}{d:D}(h:x ∉bx.map (·.1)):putA bx x d=bx++[(x,d)]:=by
 unfold putA;rw[if_neg λz=>?_];obtain⟨b,a,e⟩:=List.any_eq_true.mp z;exact h (List.mem_map.mpr (jEA b a (of_decide_eq_true e)))
theorem xn7{H:Hp}:∀{kvs:List (Key×V)} {bx:List (Str×D)} {i:Nat} {a:Key×V},KvD H kvs bx->kvs[i]?=some a->∃b,bx[i]?=some b/\a.1=Sum.inr b.1
 |a::kvs,b::bs,0,_,⟨c,_,_⟩,e=>by
  simp at e;subst e;exact(jEA b rfl c)
 |a::kvs,b::bs,i+1,_,⟨_,_,f⟩,e=>by
  obtain⟨j,c,g⟩:=xn7 (i:=i) f (by simpa using e);exact(jEA j (by simpa using c) g)
 |[],[],_,_,_,e=>by simp at e
 |[],_::_,_,_,h,_=>h.elim
 |_::_,[],_,_,h,_=>h.elim
theorem xsu{c:Mak}{hd:Hand}(l:KWf c.kinds)(nd:(hd.boxes.map (·.1)).Nodup)(e:∀b∈hd.boxes,KIn c.kinds 6 b.2):FitB c.kinds hd.boxes (enOf (begL c hd)):=λp g=>by
 obtain⟨j,m⟩:=List.mem_iff_getElem?.mp g;have h:=xcm (f:=λb:Str×D=>b.1) (xs:=begL c hd) (i:=j) (a:=(p.1,nuV 7 c.kinds p.2)) (by unfold begL;rw[List.map_map];exact nd) (by unfold begL;rw[zGM,m];rfl);refine(jEA (nuV 7 c.kinds p.2) ?_ (xr4 l 6 _ (e p g)));unfold enOf;rw[h];rfl
structure GAt(H0 H:Hp)(f p:Addr)(mk:Mak)(hd:Hand)(kvs:List (Key×V))(bx:List (Str×D)):Prop where
 fr:∀b u,H0 b=some u->b≠f->b≠p->H b=some u
 fd:∃a b:Int,H f=some (.lst [.int a,.int b])
 hp:H p=some (.dK kvs)
 kv:KvD H kvs bx
 ks:bx.map (·.1)=hd.boxes.map (·.1)
 ft:FitB mk.kinds hd.boxes (enOf bx)
theorem GAt.same{i H j:Hp}{f p:Addr}{c:Mak}{hd:Hand}{kvs:List (Key×V)}{bx:List (Str×D)}(g:GAt i H f p c hd kvs bx)(s:Same H j):GAt i j f p c hd kvs bx:=by
 obtain⟨a,b,h⟩:=g.fd;exact⟨λb u e m l=>s _ _ (g.fr b u e m l),(jEE a b (s _ _ h)),s _ _ g.hp,g.kv.tups (Same.tups s),g.ks,g.ft⟩
theorem GAt.fed{h H i:Hp}{f p:Addr}{c:Mak}{hd:Hand}{kvs:List (Key×V)}{bx:List (Str×D)}(g:GAt h H f p c hd kvs bx)(s:Fed f H i)(ne:p≠f):GAt h i f p c hd kvs bx:=
 ⟨λb u e a j=>s.1 b u (g.fr b u e a j) a,s.2,s.1 _ _ g.hp ne,g.kv.tups (xaj g.fd s),g.ks,g.ft⟩
theorem GAt.tups{a H:Hp}{f p:Addr}{c:Mak}{hd:Hand}{kvs:List (Key×V)}{bx:List (Str×D)}(g:GAt a H f p c hd kvs bx){us:List V}{kw:List (Key×V)}(i:a f=some (.lst us))(h:a p=some (.dK kw)):∀b vs,a b=some (.tup vs)->H b=some (.tup vs):=λb vs e=>g.fr b _ e (λz=>by rw[z,i]at e;cases e) λz=>by rw[z,h]at e;cases e
theorem GAt.put {m H:Hp} {f p:Addr} {c:Mak} {hd:Hand} {kvs:List (Key×V)} {bx:List (Str×D)} (g:GAt m H f p c hd kvs bx) (ne:p≠f) (nd:(hd.boxes.map (·.1)).Nodup) {x k:Str} (j:(x,k)∈hd.boxes) {v:V} {d:D} (r:RelD H v d) (s:Vk c.kinds k d) :
  GAt m (upd H p (.dK (putK kvs (Sum.inr x) v))) f p c hd (putK kvs (Sum.inr x) v) (putA bx x d):=by
 have n:∀b vs,H b=some (.tup vs)->upd H p (.dK (putK kvs (Sum.inr x) v)) b=some (.tup vs):=λb vs e=>by
  rw[xaw λz=>by rw[z,g.hp]at e;cases e];exact e
 obtain⟨a,b,h⟩:=g.fd;refine⟨λb u e o i=>by rw[xaw i];exact g.fr b u e o i,(jEE a b (by rw[xaw (Ne.symm ne)];exact h)),ups,(g.kv.put r).tups n,?_,λq l=>?_⟩
 ·rw[xnd,g.ks]
  rw[g.ks];exact List.mem_map_of_mem (f:=(·.1)) j
 ·rw[xux]
  unfold En.put;by_cases e:q.1=x
  ·rw[if_pos e]
   refine(jEA d rfl ?_);have:q=(x,k):=xdv (f:=λb:Str×Str=>b.1) nd l j e;rw[this];exact s
  ·rw[if_neg e]
   exact g.ft q l
theorem GAt.len{b H:Hp}{f p:Addr}{a:Mak}{hd:Hand}{kvs:List (Key×V)}{bx:List (Str×D)}(g:GAt b H f p a hd kvs bx):kvs.length=hd.boxes.length:=by
 have:=congrArg List.length g.ks;rw[zLM,zLM]at this;rw[g.kv.length,this]
def spGo:Sp:=λvs H Q _=>∃(mv hv:V) (f:Addr) (mk:Mak) (hd:Hand),vs=[mv,hv,.ref f]/\RelD H mv mk.d/\MakG mk/\hd∈mk.hands/\RelD H hv hd.d/\(∃a b:Int,H f=some (.lst [.int a,.int b]))/\∀H',Fed f H H'->Q (.bl true) H'
theorem xqy{r:Row}(h:r.hd=S "set"):∃x t,r=.set x t:=by
 cases r <;> first |exact(jEE _ _ rfl) |(exfalso;revert h;simp only[Row.hd];decide +kernel)
theorem xsh{r:Row}(h:r.hd=S "send"):∃x t,r=.send x t:=by
 cases r <;> first |exact(jEE _ _ rfl) |(exfalso;revert h;simp only[Row.hd];decide +kernel)
theorem xun{r:Row}(h:r.hd=S "take"):∃l c x,r=.take l c x:=by
 cases r <;> first |exact(jEEE _ _ _ rfl) |(exfalso;revert h;simp only[Row.hd];decide +kernel)
theorem xsj{r:Row}(h:r.hd=S "if"):∃t g,r=.cond t g:=by
 cases r <;> first |exact(jEE _ _ rfl) |(exfalso;revert h;simp only[Row.hd];decide +kernel)
theorem xup{r:Row}(h:r.hd=S "end"):r=.fin:=by
 cases r <;> first |rfl |(exfalso;revert h;simp only[Row.hd];decide +kernel)
def rk1(mk:Mak)(hd:Hand):Row->Str
 |.set x _=>bK hd.boxes x
 |_=>S "num"
def rk2(mk:Mak)(hd:Hand):Row->Str
 |.set x _=>bK hd.boxes x
 |.send c _=>cK mk.chans c
 |_=>S "num"
def wyL(k:Nat):Row->Nat
 |.go g=>g
 |_=>k+1
theorem xq6{k:Nat}{r:Row}(h:r≠.fin):∃l,(wyR k r).map (λi:Nat=>V.int i)=l++[V.int (wyL k r:Nat)]:=by
 cases r with
 |fin=>exact absurd rfl h
 |cond t g=>exact⟨[V.int g],rfl⟩
 |_=>exact⟨[],rfl⟩
theorem xqg{k:Nat}{r:Row}(h:r≠.fin):wyL k r∈wyR k r:=by
 cases r <;> first |exact absurd rfl h |simp[wyL,wyR]
theorem xsf{ws:List Nat}{g:Nat}(h:g∈ws):inV (V.int g) (ws.map λi:Nat=>V.int i)=true:=List.any_eq_true.mpr (jEA (V.int g) (List.mem_map.mpr (jEA g h rfl)) (by show decide _=true;exact zDT rfl))
abbrev gS(mv:V)(a f:Addr)(h:Str)(ba:Addr)(rv:V)(ka p:Addr)(o8 o9:Option V)(wa:Addr)(at_:Nat)(o12 o13 o14 o15:Option V):St:=
 [some mv,some (.ref a),some (.ref f),some (.str h),some (.ref ba),some rv,some (.ref ka),some (.ref p),o8,o9,some (.ref wa),some (.int at_),o12,o13,o14,o15]
theorem xpm(T:Tx K mg)(ag:DefIs P w K mg base n "nought" qag (spNu nuV 6))(a8:DefIs P w K mg base n "ways_of" ["rows"] xg0)(a4:DefIs P w K mg base n "_law_done" qa9 xrk)(a0:DefIs P w K mg base n "channel_of" qak xeo)(a6:DefIs P w K mg base n "is_of" qae (spIs 6)):DefIs P w K mg base (n+1) "_law_goes" qba spGo:=by
 refine DefIs.of T.uE scl_goes (by walk_at"l") (λf e2 A outer s H vs Q E hr h=>?_);obtain⟨mv,hv,f',C,hd,rfl,hm,M,c8,d1,⟨f1,f2,hf⟩,q⟩:=h;have nd:=scl_goes.nd;have hu:=xe3 hr;have cu:=xum hr;have wf:=M.wf;have m:=M.hok hd c8;have h5:=m.few;have e1:=m.rw.len;have c0:=hm;obtain⟨ma,kv,cv,dz,rfl,b7,b8,_,_⟩:=mk_d hm;obtain⟨a,bv,rv,rfl,ha,d4,bu⟩:=hd_d d1;obtain⟨ba,ub,rfl,be,hB⟩:=d4;have cy:=hB.length;rw[zLM]at cy
 refine⟨_,(zpn (xc6 (pv 1) (xbc (K:=K) rfl rfl (xae (pgn 3 nd) (xae (pgn 4 nd) (xae (pgn 5 nd) xbb)))))
   (zpn (psn 6 nd (xa7 (xgv rfl) rfl T.uN PyProof.Rows.boot_dict (v1 4)))
   (zpn (psn 7 nd xpf)
   (zpn (xbt PassesOwn.never rfl (xal (K:=K) rfl (pv 4)) (xbc (K:=K) rfl rfl (xae (pgn 8 nd) (xae (pgn 9 nd) xbb)))
   (zpo (xfu hu (pv 7) (pv 8) (pd ag hr (pc (px K (pv 0) pI) (v1 9) ss)) rfl)))
   (zpn (psn 10 nd (pd a8 hr (v1 5)))
   (zpn (psn 11 nd pI)
   (zpn (xbt PassesOwn.never rfl (xb4 rfl T.uV (pc pI pN so)) (pgn 12 nd)
   (zpn (psn 13 nd (px K (pv 5) (pv 11)))
   (zpn (xar (xh4 (xne (xai (xhl rfl) rfl T.uK PyProof.Rows.boot_all (pc (xrt (xbr ["_law_x","_law_make_here","_law_kinds_here","_law_boxes_here"] [none,some 0,some 6,some 7] rfl (by kernel_rfl) (xrs (pv 7)) (λ_ _ _ _=>(pgc 0)) (λ_ _ _ _=>xbq) (λ_ _ _ _=>(xfv xt6 (pd a6 hr (pc (px K (pv 1) pI) (pc (xdr hu (pv 2) (pv 0) (λ_ _=>rfl)) (pc (xdr hu (pv 3) (pv 0) (λ_ _=>rfl)) pN ss) ss) ss)) xeq (nM _))))) pN xbp)))) (zpo (xaf xeq)) pQ)
   (zpn (xar (pR xa0 (px K (pv 13) pI) pS (nM _)) (zpo (xaf (xfv (xt8 cu) (pxl K (pv 10) (pv 11)) (xa6 pN) (nM _)))) pQ)
   (zpn (psn 14 nd (pd a4 hr (va 0 (va 2 (va 13 (pc (xa7 xgw rfl T.uN PyProof.Rows.boot_dict (v1 7)) pN zsc))))))
   (zpn (psn 9 nd pS)
   (zpn (xar (pR xa0 (px K (pv 13) pI) pS (nM _)) (zpo (psn 9 nd (xdr hu (pv 6) (px K (pv 13) pI) (λ_ _=>rfl)))) pQ)
   (zpn (xar (pR xa0 (px K (pv 13) pI) pS (nM _)) (zpo (psn 9 nd (px K (pd a0 hr (va 0 (pc (px K (pv 13) pI) pN ss))) pI))) pQ)
   (zpn (xar (pR xa0 (px K (pv 13) pI) pS (nM _)) (zpo (psn 9 nd (xdr hu (pv 6) (px K (pv 13) pI) (λ_ _=>rfl)))) pQ)
   (zpn (xar (pR xnk (pd a6 hr (pc (px K (pv 0) pI) (va 9 (v1 14)) ss)) xeq (nM _)) (zpo (xaf xeq)) pQ)
   (zpn (xar (pR xa0 (px K (pv 13) pI) pS (nM _)) (zpo (xfu hu (pv 7) (px K (pv 13) pI) (pv 14) rfl)) pQ)
   (zpn (xar (pR xa0 (px K (pv 13) pI) pS (nM _)) (zpo (xfu hu (pv 7) (px K (pv 13) pI) (pv 14) rfl)) pQ)
   (zpn (psn 15 nd (px K (pxl K (pv 10) (pv 11)) (xvr xsz pI)))
   (zpn (xar (PW.pt (xc1 (pR xa0 (px K (pv 13) pI) pS (nM _)) (xcp (pR xe1 (pv 14) pI (nM _))))) (zpo (psn 15 nd (px K (pv 13) pI))) pQ)
   (zpn (xar (PW.pt (xjo (pR xds (pv 15) (pxl K (pv 10) (pv 11)) (by with_unfolding_all rfl)) (xgm (xh4 (xkx xrz xee pI (pv 15) (xai (xac (K:=K) rfl) rfl T.uR PySem.boot_len (v1 5))))))) (zpo (xaf xeq)) pQ)
   (zpo (psn 11 nd (pv 15))))))))))))))))))
   (zpo (xaf xeq))))))))),xad λR1 dn=>?_⟩
 refine(xa8 _ rfl a _ rfl (SqT.of ha) rfl (jEEA _ _ rfl (jEEA _ _ rfl (xat _ _ rfl rfl (dn _ _ (xad λR2 dm=>?_))))));refine(jEA _ rfl (xdw ba ub (bKV hd.boxes) rfl be (xfh hB) (λY d0=>dm _ _ (xad λR3 dl=>?_))));have s1:=Same.new d0 (.dK (xbi [] (bKV hd.boxes)));obtain⟨H1,bf⟩:∃H1,H1=upd H Y (.dK (xbi [] (bKV hd.boxes))):=⟨_,rfl⟩;have c7:H1 Y=some (.dK (xbi [] (bKV hd.boxes))):=by rw[bf];exact ups
 rw[<- bf]at s1⊢;clear bf;refine λp a3=>dl _ _ (xad λR4 dj=>?_);have pf:p≠f':=Ne.symm (neN (s1 _ _ hf) a3);have pk:p≠Y:=Ne.symm (neN c7 a3);refine(xba _ rfl ba rfl ⟨_,SqT.of (Same.new a3 _ _ _ (s1 _ _ be))⟩ ?_)
 refine xb3 (xs:=ub) (λi σ H'=>∃o8 o9 kvs,σ=[some (.ref ma),some (.ref a),some (.ref f'),some (.str hd.name),some (.ref ba),some rv,some (.ref Y),some (.ref p),o8,o9,none,none,none,none,none,none]/\Same H1 H'/\H' p=some (.dK kvs)/\KvD H' kvs ((begL C hd).take i))
  (xdw none none ([]) rfl (Same.new a3 _) ups (by rw[List.take_zero];trivial)) (λi σ H' _ pp=>by obtain⟨_,_,_,_,s',_⟩:=pp;exact SqT.of (s' _ _ (s1 _ _ be))) ?_ ?_
 ·rintro i v σ H' hv ⟨o8,o9,kvs,rfl,s',cx,c6⟩
  obtain⟨b,pb,an,rfl,hb⟩:=xfw hB hv;have s2:=s1.trans s';have bc:=zMG an;have hi:i<hd.boxes.length:=(zES an).1;have bd:(begL C hd).length=hd.boxes.length:=by unfold begL;rw[zLM]
  refine(xax b _ rfl (SqT.of (s2 _ _ hb)) rfl _ _ rfl _ (jEAA _ rfl rfl ?_));refine(xaa _ rfl ma _ _ _ rfl rfl (SqT.of (s2 _ _ b7)) rfl (jEA _ rfl (xaq kv C.kinds pb.2 rfl (b8.same s2 _) wf (m.kin pb bc) (λu H3 s3 ru=>?_))));have I:=s3 _ _ cx;have cz:=c6.length;rw[List.length_take,bd]at cz;refine(xbo _ rfl _ rfl p _ rfl (DPut.k (k:=Sum.inr pb.1) I (xa4 (by omega))) _ (xb0 _ _ rfl (Same.over (s'.trans s3) a3 _) ups ?_))
  have e:(begL C hd).take (i+1)=putA ((begL C hd).take i) pb.1 (nuV 7 C.kinds pb.2):=by
   rw[xpb,zTA]
   ·unfold begL
    rw[zGM,an];rfl
   ·intro z
    rw[List.map_take]at z;unfold begL at z;rw[List.map_map]at z;have h2:=xik m.nd (i:=i) (by rw[zLM];exact hi);rw[List.getElem_map,(zES an).2]at h2;exact h2 z
  rw[e]
  exact((c6.tups (Same.tups s3)).put ru).tups λb vs e=>by
   rw[xaw λz=>by rw[z,I]at e;cases e];exact e
 rintro σ H2 ⟨o8,o9,aq,rfl,bj,cw,ax⟩;rw[zTL (by unfold begL;rw[zLM];omega)]at ax;have s2:=s1.trans bj;refine dj _ _ (xad λR5 di=>?_);refine(xa8 _ rfl rv hd.rows rfl (bu.same s2 _) (by omega) (λwa ws H3 s3 ab cq dy=>di _ _ (xad λR6 dh=>dh _ _ (xad λR7 df=>?_))));have U:=s2.trans s3;have Z:=U _ _ hf;have I:=s3 _ _ cw;have ao:=s3 _ _ (bj _ _ c7);have bt:=bu.same U _;obtain⟨ra,ur,rfl,bz,hR⟩:=bt;have c4:=hR.length;rw[zLM]at c4
 have pos:0<hd.rows.length:=by
  obtain⟨l,hl,_⟩:=m.rw.last
  cases e:hd.rows with
  |nil=>rw[e]at hl;cases hl
  |cons=>exact Nat.succ_pos _
 have g3:GAt H3 H3 f' p C hd aq (begL C hd):=⟨λb u e _ _=>e,(jEE _ _ Z),I,ax.tups (Same.tups s3),by unfold begL;rw[List.map_map];rfl,xsu wf m.nd m.kin⟩;refine(xbx 40 rfl (by decide) (by decide) ?_)
 refine xc3 (n:=40) (λi σ H'=>∃kvs bx,∃y:Nat,∃o8 o9 b2 b1 ak a1,σ=gS (.ref ma) a f' hd.name ba (.ref ra) Y p o8 o9 wa y b2 b1 ak a1/\GAt H3 H' f' p C hd kvs bx/\y<hd.rows.length)
  (xav aq (begL C hd) 0 _ _ (jEEE _ _ _ (jEAA _ rfl g3 pos))) ?_ ?_
 ·rintro i σ H4 hi ⟨kvs,bx,y,o8,o9,b2,b1,ak,a1,rfl,g4,ce⟩
  have az:=g4.tups Z I;have e0:=g4.len;obtain⟨r,al⟩:∃r,hd.rows[y]?=some r:=⟨_,zGA ce⟩;have bw:=zMG al;have b4:ur[y]?=some (ur[y]'(by omega)):=zGA (by omega);obtain⟨d9,cd,bo⟩:=hR.get b4;rw[zGM,al]at cd;cases cd;have bn:=bo;obtain⟨G,us,cl,ah,ae⟩:=xnb bo;rw[cl]at b4;have h0:atI (V.str r.hd::us) 0=some (.str r.hd):=xak (j:=0) rfl;have au:y<ws.length:=by omega
  obtain⟨r',c9,aw,ew,b9⟩:=cq y _ (zGA au);rw[al]at aw;cases aw;have a9:ws[y]?=some (.ref c9):=by rw[zGA au,ew]
  have bg:wa≠f':=λz=>by
   rw[z,Z]at ab;cases ab
   match y,a9 with
   |0,e=>cases e
   |1,e=>cases e
   |_+2,e=>simp at e
  have wp:wa≠p:=λz=>by rw[z,I]at ab;cases ab
  have kf:Y≠f':=λz=>by rw[z,Z]at ao;cases ao
  have kp:Y≠p:=Ne.symm pk;have a5:=m.rw.ok r bw;have lt:=xsy m.rw al;refine xad λS1 de=>?_;refine(xah _ rfl _ rfl ra _ _ (xbw _ rfl rfl (SqT.of (az _ _ bz)) (xak b4) (de _ _ (xad λS2 dd=>?_))))
  have k2:∀H5,Same H4 H5->S2 (gS (.ref ma) a f' hd.name ba (.ref ra) Y p o8 o9 wa y (some (.int (0+(i:Int)))) (some (.ref G)) ak a1) H5:=λH5 s5=>dd _ _ (xad λS3 dc=>by
   have g5:=g4.same s5;have bi:=g5.tups Z I;have d2:SqT K H5 G (.str r.hd::us):=SqT.of (bi _ _ ah);have br:=g5.fr _ _ ab bg wp;refine(xaa _ rfl G _ _ _ rfl rfl d2 h0 (jAEA rfl _ rfl (ite2 (λc=>?_) (λc=>dc _ _ (xad λS4 db=>?_)))))
   ·obtain rfl:=xup (V.str.inj (of_decide_eq_true c))
    refine(xah _ rfl _ rfl wa _ _ (xcv _ rfl rfl (SqL.of br) (xak a9) (by walk_at"s") (λt ht=>?_)));have st:=Same.new ht (.tup []);refine(xbx (.tup []) (xat c9 ([]) rfl (st _ _ (bi _ _ b9)) rfl) (xat t ([]) rfl ups rfl) (by decide) ?_);have g6:=g5.same st;refine q _ ⟨λb u e nb=>g6.fr b u (U _ _ e) nb λz=>?_,g6.fd⟩;rw[z]at e;rw[s1 _ _ e]at a3;cases a3
   have b6:r≠.fin:=λe=>c (by rw[e];exact zDT rfl);refine(xbz _ rfl _ rfl _ rfl _ rfl p (jEAA kvs rfl g5.hp (λcc d3=>?_)));have sc:=Same.new d3 (.dK kvs);have g6:=g5.same sc;have bh:=g6.tups Z I
   have bd:bx.length<=6:=by
    have:=g6.kv.length;omega
   refine(xav (.ref ma) (.ref G) f' cc C (xaq hd r (enOf bx) rfl ((c0.same U _).tups bh _) M c8 (jAAA bw ((cl ▸ bn).tups bh _) g6.fd (jAA (KvD.en ups g6.kv bd) g6.ft (λu d H7 F7 ru ac=>db _ _ (xad λS5 da=>da _ _ (xad λS6 d8=>?_)))))));have g7:=g6.fed F7 pf;have aj:=g7.tups Z I;have af:SqT K H7 G (.str r.hd::us):=SqT.of (aj _ _ ah);have ay:=g7.fr _ _ ao kf kp
   have ar:KIn C.kinds 6 (rowK C hd r):=by
    cases r with
    |set x t=>
     obtain⟨k,hk,_⟩:=a5;show KIn C.kinds 6 (bK hd.boxes x);rw[show bK hd.boxes x=k from xqc m.nd hk];exact m.kin _ hk
    |send c' t=>
     obtain⟨ch,J,rfl,_⟩:=a5;show KIn C.kinds 6 (cK C.chans ch.1);rw[xkg M J];exact M.ckin ch J
    |take l c' x=>
     obtain⟨_,ch,J,rfl,_⟩:=a5;show KIn C.kinds 6 (cK C.chans ch.1);rw[xkg M J];exact M.ckin ch J
    |_=>exact .inl rfl
   have k8:S6 (gS (.ref ma) a f' hd.name ba (.ref ra) Y p o8 (some (.str (rk1 C hd r))) wa y (some (.int (0+(i:Int)))) (some (.ref G)) (some u) a1) H7:=d8 _ _ (xad λS7 d7=>by
    have k7:S7 (gS (.ref ma) a f' hd.name ba (.ref ra) Y p o8 (some (.str (rk2 C hd r))) wa y (some (.int (0+(i:Int)))) (some (.ref G)) (some u) a1) H7:=d7 _ _ (xad λS8 d6=>by
     have k9:S8 (gS (.ref ma) a f' hd.name ba (.ref ra) Y p o8 (some (.str (rowK C hd r))) wa y (some (.int (0+(i:Int)))) (some (.ref G)) (some u) a1) H7:=d6 _ _ (xad λS9 d5=>by
      refine(xaa _ rfl ma _ _ _ rfl rfl (SqT.of (aj _ _ (U _ _ b7))) rfl (xah _ rfl _ rfl kv u C.kinds (xas (rowK C hd r) (toB d) rfl ((b8.same U _).tups aj _) wf ar (xjn d ru) (λH8 s8=>(jAEA rfl _ rfl (jEA _ rfl (xhj (by show(!fit 6 C.kinds (rowK C hd r) (toB d))=false;rw[xq1 wf 6 _ _ ar ac];rfl) (d5 _ _ (xad λdv ck=>?_)))))))));have g8:=g7.same s8;have co:=g8.tups Z I;have ca:SqT K H8 G (.str r.hd::us):=SqT.of (co _ _ ah)
      have bq:∀O a7 H9,GAt H3 H9 f' p C hd O a7->RelD H9 u d->dv (gS (.ref ma) a f' hd.name ba (.ref ra) Y p o8 (some (.str (rowK C hd r))) wa y (some (.int (0+(i:Int)))) (some (.ref G)) (some u) a1) H9:=λO a7 H9 g9 cp=>ck _ _ (xad λdu cj=>by
       have aa:=g9.tups Z I;have ai:SqT K H9 G (.str r.hd::us):=SqT.of (aa _ _ ah)
       have bp:∀O a7 H9,GAt H3 H9 f' p C hd O a7->du (gS (.ref ma) a f' hd.name ba (.ref ra) Y p o8 (some (.str (rowK C hd r))) wa y (some (.int (0+(i:Int)))) (some (.ref G)) (some u) a1) H9:=λO a7 H9 g9=>cj _ _ (xad λe4 ci=>by
        have aa:=g9.tups Z I;have ai:SqT K H9 G (.str r.hd::us):=SqT.of (aa _ _ ah);have av:=g9.fr _ _ ab bg wp;obtain⟨l9,ds⟩:=xq6 (k:=y) b6;refine(xah _ rfl _ rfl wa _ _ (xau _ rfl rfl (SqL.of av) (xak a9) _ rfl (xap c9 _ _ _ rfl rfl (SqT.of (aa _ _ b9)) (by rw[ds];exact xqd _ _) (ci _ _ (xad λdt cg=>?_)))))
        have b3:∀g:Nat,g∈wyR y r->dt (gS (.ref ma) a f' hd.name ba (.ref ra) Y p o8 (some (.str (rowK C hd r))) wa y (some (.int (0+(i:Int)))) (some (.ref G)) (some u) (some (.int (g:Nat)))) H9:=λg hg=>cg _ _ (xad λe3 cf=>by
         have cb:=lt g hg;refine(xbf _ rfl _ rfl _ rfl wa _ (xbk _ _ rfl rfl (SqL.of av) (xak a9) (xbk c9 _ rfl (.inr (SqT.of (aa _ _ b9))) rfl (List.all_eq_true.mpr λz hz=>by obtain⟨_,_,rfl⟩:=zMP hz;rfl) (jEA _ rfl (xhj (by show(!inV (V.int g) _)=false;rw[xsf hg];rfl) ?_)))));refine(xa2 _ rfl _ _ rfl rfl _ rfl (iteKT (zDT (by omega)) ?_));refine(xbs _ rfl ra _ rfl (.inr (SqT.of (aa _ _ bz))) _ _ rfl rfl (jEA _ rfl (iteN (by rw[c4];omega) (cf _ _ ?_))));exact(xa1 _ rfl O a7 g _ (xav _ _ _ _ _ (jAA rfl g9 cb))))
        refine(xaa _ rfl G _ _ _ rfl rfl ai h0 (jAEA rfl _ rfl (ite2 (λc2=>?_) (λc2=>iteF (b3 _ (xqg b6))))));obtain⟨t,g,rfl⟩:=xsj (V.str.inj (of_decide_eq_true c2));obtain⟨z,hz,rfl⟩:=xeh wf rfl ac;obtain rfl:u=.int z:=ru;refine(xao _ rfl rfl _ rfl (ite2 (λc3=>?_) (λc3=>b3 _ (xqg b6))));obtain⟨_,_,rfl,_,_,_,rfl,rfl,rfl⟩:=ae;exact(xaa _ rfl G _ _ _ rfl rfl ai (xak (j:=2) rfl) (b3 g (by simp[wyR]))))
       refine(xaa _ rfl G _ _ _ rfl rfl ai h0 (jAEA rfl _ rfl (ite2 (λc2=>?_) (λc2=>bp O a7 H9 g9))));obtain⟨l,c',x,rfl⟩:=xun (V.str.inj (of_decide_eq_true c2));obtain⟨_,_,rfl,rfl,_,_,rfl,rfl,_,_,rfl,rfl,rfl⟩:=ae;obtain⟨_,ch,J,rfl,_,a2⟩:=a5;have:=g9.len;refine(xbf _ rfl _ rfl _ rfl G _ (xbk _ _ rfl rfl ai (xak (j:=3) rfl) (xat p _ rfl (DPut.k (k:=Sum.inr x) g9.hp (xa4 (by omega))) (bp _ _ _ (g9.put pf m.nd a2 cp ?_)))));rw[<- xkg M J];exact ac)
      refine(xaa _ rfl G _ _ _ rfl rfl ca h0 (jAEA rfl _ rfl (ite2 (λc2=>?_) (λc2=>bq kvs bx H8 g8 (ru.same s8 _)))));obtain⟨x,t,rfl⟩:=xqy (V.str.inj (of_decide_eq_true c2));obtain⟨_,_,rfl,rfl,_,_,rfl,_,rfl⟩:=ae;obtain⟨k,a2,_⟩:=a5;have:=g8.len;have bm:=ru.same s8 _;refine(xbf _ rfl _ rfl _ rfl G _ (xbk _ _ rfl rfl ca (xak (j:=1) rfl) (xat p _ rfl (DPut.k (k:=Sum.inr x) g8.hp (xa4 (by omega))) (bq _ _ _ (g8.put pf m.nd a2 bm ?_) ?_))))
      ·rw[<- show bK hd.boxes x=k from xqc m.nd a2]
       exact ac
      ·exact bm.tups (λb vs e=>by rw[xaw λz=>by rw[z,g8.hp]at e;cases e];exact e) _)
     refine(xaa _ rfl G _ _ _ rfl rfl af h0 (jAEA rfl _ rfl (ite2 (λc2=>?_) (λc2=>?_))))
     ·obtain⟨l,c',x,rfl⟩:=xun (V.str.inj (of_decide_eq_true c2))
      obtain⟨_,_,rfl,rfl,_,_,rfl,rfl,_,_,rfl,rfl,rfl⟩:=ae;obtain⟨_,ch,J,rfl,_,a2⟩:=a5
      have dg:DGet H7 Y (.str x) (some (.str ch.2.2.2)):=by
       have:=DGet.k (k:=Sum.inr x) ay;rw[show valV (xbi [] (bKV hd.boxes)) (Sum.inr x)=some (.str ch.2.2.2) from xes hd.boxes [] m.nd _ a2]at this;exact this
      rw[show rowK C hd (.take l ch.1 x)=ch.2.2.2 from xkg M J]at k9;exact(xah _ rfl _ rfl G _ _ (xbw _ rfl rfl af (xak (j:=3) rfl) (xat Y _ rfl dg k9)))
     ·have e:rk2 C hd r=rowK C hd r:=by
       cases r with
       |take l c' x=>exact absurd (zDT rfl) c2
       |_=>rfl
      rw[e];exact k9)
    refine(xaa _ rfl G _ _ _ rfl rfl af h0 (jAEA rfl _ rfl (ite2 (λc2=>?_) (λc2=>?_))))
    ·obtain⟨c',t,rfl⟩:=xsh (V.str.inj (of_decide_eq_true c2))
     obtain⟨_,_,rfl,rfl,_,_,rfl,_,rfl⟩:=ae;obtain⟨ch,J,rfl,_⟩:=a5;rw[show rk2 C hd (.send ch.1 t)=ch.2.2.2 from xkg M J]at k7;refine(xah _ rfl _ rfl G _ _ (xbw _ rfl rfl af (xak (j:=1) rfl) (jEEE _ ch.1 C (xbx ch rfl ((c0.same U _).tups aj _) (xev M J) (λu' b5=>?_)))));obtain⟨b,dw,rfl,hb,_,_,rfl,rfl,_,_,rfl,rfl,_,_,rfl,rfl,_,_,rfl,rfl,rfl⟩:=b5;exact(xap b _ _ _ rfl rfl (SqT.of hb) rfl k7)
    ·have e:rk1 C hd r=rk2 C hd r:=by
      cases r with
      |send c' t=>exact absurd (zDT rfl) c2
      |_=>rfl
     rw[e];exact k7)
   refine(xaa _ rfl G _ _ _ rfl rfl af h0 (jAEA rfl _ rfl (ite2 (λc2=>?_) (λc2=>?_))))
   ·obtain⟨x,t,rfl⟩:=xqy (V.str.inj (of_decide_eq_true c2))
    obtain⟨_,_,rfl,rfl,_,_,rfl,_,rfl⟩:=ae;obtain⟨k,a2,_⟩:=a5
    have dg:DGet H7 Y (.str x) (some (.str k)):=by
     have:=DGet.k (k:=Sum.inr x) ay;rw[show valV (xbi [] (bKV hd.boxes)) (Sum.inr x)=some (.str k) from xes hd.boxes [] m.nd _ a2]at this;exact this
    rw[show rk1 C hd (.set x t)=k from xqc m.nd a2]at k8;exact(xah _ rfl _ rfl G _ _ (xbw _ rfl rfl af (xak (j:=1) rfl) (xat Y _ rfl dg k8)))
   ·have e:rk1 C hd r=S "num":=by
     cases r with
     |set x t=>exact absurd (zDT rfl) c2
     |_=>rfl
    rw[e]at k8;exact k8)
  refine(xcs _ rfl p kvs rfl g4.hp (λo nz=>?_));have cm:∀{H':Hp},Same (upd H4 p (.frz o (.dK kvs))) H'->∀b vs,H4 b=some (.tup vs)->H' b=some (.tup vs):=λs b vs e=>s _ _ (by rw[xaw λz=>by rw[z,g4.hp]at e;cases e];exact e);refine xot (λi ys H'=>Same (upd H4 p (.frz o (.dK kvs))) H'/\ys=(List.replicate i true).map V.bl) ⟨Same.refl _,rfl⟩ (xa4 (by omega)) (λi ys H' _ pp=>pp.1 _ _ ups) ?_ ?_
  ·rintro j dx ys H' c5 hj c1 ⟨sm,rfl⟩
   obtain⟨b,hb,ek⟩:=xn7 g4.kv c5
   have bc:b.1∈hd.boxes.map (·.1):=by
    rw[<- g4.ks];exact List.mem_map_of_mem (zMG hb)
   obtain⟨qb,am,dr⟩:=zMP bc;obtain⟨v',cr,ac⟩:=g4.ft qb am;obtain⟨u,b5,ru⟩:=(g4.kv.val (x:=qb.1)).2 v' cr;rw[ek,<- dr];have b0:=cm sm
   have dk:DGet H' Y (.str qb.1) (some (.str qb.2)):=by
    have:=DGet.k (k:=Sum.inr qb.1) (sm _ _ (by rw[xaw kp];exact g4.fr _ _ ao kf kp):H' Y=some (.dK (xbi [] (bKV hd.boxes))));rw[xes hd.boxes [] m.nd _ am]at this;exact this
   have dp:DGet H' p (.str qb.1) (some u):=by
    have:=DGet.rd (k:=Sum.inr qb.1) (.inr ⟨o,sm _ _ ups⟩);rw[b5]at this;exact this
   refine⟨ext1 rfl,xeg ?_⟩;refine(xaa _ rfl ma _ _ _ rfl rfl (SqT.of (b0 _ _ (az _ _ (U _ _ b7)))) rfl (xcb _ rfl _ rfl Y _ rfl dk _ rfl (xcs _ rfl p _ rfl dp (xag kv u C.kinds qb.2 (toB v') rfl (((b8.same U _).tups az _).tups b0 _) wf (m.kin qb am) (xjn v' (ru.tups b0 _)) (λH5 s5=>(jAEA rfl _ rfl (nxtG hj c1 ⟨sm.trans s5,?_⟩)))))));rw[xq1 wf 6 _ _ (m.kin qb am) ac,List.replicate_succ',zAP];rfl
  rintro ys H' c1 ⟨sm,rfl⟩ D hD;have dq:D≠p:=λz=>by rw[z,sm _ _ ups]at hD;cases hD
  refine(xc2 p o kvs (Same.new hD _ _ _ (sm _ _ ups)) nz (xat D (List.replicate kvs.length true) rfl (SqL.of (by rw[xaw dq,ups])) (jEA _ rfl (xhj (by show(!(List.replicate kvs.length true).all id)=false;rw[List.all_eq_true.mpr λz hz=>by rw[List.eq_of_mem_replicate hz];rfl];rfl) (k2 _ λb u e=>?_)))));by_cases bb:b=p
  ·rw[bb]at e⊢
   rw[g4.hp]at e;rw[ups];exact e
  ·rw[xaw bb]
   exact Same.new hD _ _ _ (sm _ _ (by rw[xaw bb];exact e))
 rintro σ H4 ⟨kvs,bx,y,o8,o9,b2,b1,ak,a1,rfl,g4,ce⟩;refine df _ _ ?_;refine q _ ⟨λb u e nb=>g4.fr b u (U _ _ e) nb λz=>?_,g4.fd⟩;rw[z]at e;rw[s1 _ _ e]at a3;cases a3
def spLaw(K:Fg):Sp:=λvs H Q _=>∃(a:Addr) (ns:List Int),vs=[.ref a]/\SqL K H a (ns.map V.int)/\ns.length<=63/\∀H',Q (.bl true) H'
theorem xua(T:Tx K G)(c:DefIs P w K G base n "_law_feed" qas (xks K))(g:DefIs P w K G base n "_law_take" qad xcn)(e:DefIs P w K G base n "_law_names" qbf xmz)(l:DefIs P w K G base n "_law_make" qa7 (xm0 K))(o:DefIs P w K G base n "look" ["make"] spLk)(m:DefIs P w K G base n "_law_goes" qba spGo):DefIs P w K G base (n+1) "law" ["_law_script"] (spLaw K):=by
 refine DefIs.of T.uF sc_law (by walk_at"l") (λf ak A outer s H vs Q E u h=>?_);obtain⟨a,ns,rfl,hS,I,k⟩:=h;have nd:=sc_law.nd;have hu:=xe3 u
 refine⟨_,(zpn (psn 1 nd (pd e u (pc (pd g u (pc (pd c u (va 0 (pc pI pN so))) (pc (xam xnj pI pI) pN xa5) zsc)) (pc pI pN so) zsc)))
   (zpn (psn 2 nd (pd l u (va 0 (pc pI (v1 1) so))))
   (zpn (xar (pR xnk (pd o u (v1 2)) xeq (nM _)) (zpo (xaf xeq)) pQ)
   (zpo (xaf (xai (xhl rfl) rfl T.uK PyProof.Rows.boot_all (pc (xbr ["_law_k","_law_make_here","_law_script"] [none,some 2,some 0] rfl (by kernel_rfl) (xb4 rfl T.uV (pc (xai (xac (K:=K) rfl) rfl T.uR PySem.boot_len (pc (px K (pv 2) pI) pN ss)) pN zsc)) (λ_ _ _ _=>(pgc 0)) (λ_ _ _ _=>xbq) (λ_ _ _ _=>(pd m u (va 1 (pc (px K (px K (pv 1) pI) (pv 0)) (pc (pd c u (va 2 (pc (xam xbe pI (pv 0)) pN xa5))) pN zsc) ss))))) pN xbp))))))),xad λR1 af=>?_⟩
 refine(jEA _ rfl (xaq a ns 1 rfl hS I (by decide) (λr p q0 nr=>?_)));have sr:=Same.new nr (.lst [.int p,.int q0]);refine(xb0 _ _ rfl rfl ⟨by decide,by decide⟩ (xap r p q0 _ rfl ups (by decide) (by decide) (λt1 H1 ah ag f1=>?_)));have s1:Same H H1:=Fed.back nr sr f1;refine(jEA _ rfl (λb H2 a6 s2 aj hb a7 ab=>af _ _ (xad λR2 ae=>?_)));have J:=s1.trans s2;refine(xah _ rfl _ rfl a b ns (xbk 2 a6 rfl (J.seq hS) I ⟨hb,NmsR.of a7,λz hz=>(ab z hz).1⟩ (λmv mk H4 s4 U C mw=>ae _ _ (xad λR3 ac=>?_))));have a5:=J.trans s4;refine(xa8 _ rfl mv mk rfl U C (λH5 s5=>(jAEA rfl _ rfl (jEA _ rfl (xhj rfl (ac _ _ ?_))))));have a4:=a5.trans s5;have Z:=U.same s5 _;have a8:=Z;obtain⟨ma,kv,cv,hv,rfl,Y,ai,_,a9⟩:=mk_d Z;obtain⟨ha,us,rfl,a2,O⟩:=a9;have hl:=O.length;rw[zLM]at hl;have h4:=C.hfew;refine(xaa _ rfl ma _ _ _ rfl rfl (SqT.of Y) rfl (xat ha _ rfl (.inr (SqT.of a2)) (xbx _ rfl (by omega) (by omega) ?_)));refine xdg (j:=0) (λi ys H'=>Same H5 H'/\ys=(List.replicate i true).map V.bl) (by rfl) ⟨Same.refl _,rfl⟩ (xa4 (by omega)) ?_ ?_
 ·rintro i ys H6 hi a0 ⟨y,rfl⟩
  have a1:i<us.length:=hi;have e0:(0+(i:Int))=(i:Int):=by omega
  obtain⟨d,a3,rd⟩:=O.get (zGA a1);rw[zGM]at a3;obtain⟨hd,aa,rfl⟩:=zMS a3;refine(xah _ rfl _ rfl ma _ _ (xau _ rfl rfl (SqT.of (y _ _ Y)) rfl _ rfl (xap ha _ _ _ rfl rfl (SqT.of (y _ _ a2)) (by rw[e0];exact xak (zGA a1)) ?_)));refine(xbo _ rfl _ rfl _ _ rfl rfl a (xbk ns (8+i) (by rw[e0];rfl) ((a4.trans y).seq hS) I (by omega) (λr2 p2 q2 M=>?_)));have x:=Same.new M (.lst [.int p2,.int q2]);refine(xag _ _ r2 mk hd rfl (a8.same (y.trans x) _) C (zMG aa) (rd.same (y.trans x) _) ⟨(jEE p2 q2 ups),λH7 f7=>nxt hi a0 ⟨y.trans (Fed.back M x f7),?_⟩⟩);rw[List.replicate_succ',zAP];rfl
 ·rintro ys H6 a0 ⟨y,rfl⟩ D hD
  refine(xat D _ rfl (SqL.of ups) ?_);rw[List.all_eq_true.mpr λz hz=>by rw[List.eq_of_mem_replicate hz];rfl];exact k _
theorem law_is(T:Tx K a):DefIs P w K a base 100 "law" ["_law_script"] (spLaw K):=by
 have take:∀k,DefIs P w K a base (k+1) "_law_take" qad xcn:=λk=>xc8 T;have size:DefIs P w K a base 28 "_law_size" qab (xgi 6):=(xm8 T 6 (by omega)).mono (by omega);have l:DefIs P w K a base 30 "_law_parts" qa3 xja:=xnm T (take 28) (size.mono (by omega));have j:∀k,DefIs P w K a base (k+2) "_law_any_kind" qan xo4:=λk=>xic T (take k);have f:∀k,DefIs P w K a base (k+2) "hand_of" qao xg2:=λk=>xl4 (n:=k+1) T (xk5 T);have b:∀k,DefIs P w K a base (k+2) "channel_of" qak xeo:=λk=>xhf (n:=k+1) T (xk5 T);have i:DefIs P w K a base 80 "_law_new_term" qam xhv:=xjz T;have z:DefIs P w K a base 81 "_law_deal" qa5 xm6:=xpo (n:=80) T (take 79) i;have s:DefIs P w K a base 82 "_law_rows" qa6 xri:=xpk (n:=81) T (take 80) (i.mono (by omega)) z;have p:DefIs P w K a base 83 "_law_hands" qa8 (xje K):=xnp (n:=82) T (xha T) (xnq (n:=81) T (take 80) (j 79)) s;have make:DefIs P w K a base 84 "_law_make" qa7 (xm0 K):=xpl (n:=83) T (xha T) (take 82) ((xno T (take 29) l).mono (by omega)) (xib (n:=82) T (take 81) (j 80)) p;have nk:DefIs P w K a base 90 "need_kind" qai (xct (KdL 21) 6):=xfa (n:=89) T (KdL 21) ((xn8 T 21 6 (by omega)).mono (by omega)) (xc9 T);have u:DefIs P w K a base 91 "look_row" qaz xm1:=xjw (n:=90) T nk (xfz T) (xjt (n:=89) T (b 87)) (xc9 T);have there:∀k,DefIs P w K a base (k+2) "need_there" qag xg1:=λk=>xhb (n:=k+1) T (xcu T);have g:∀k,DefIs P w K a base (k+2) "ways_of" ["rows"] xg0:=λk=>xlz (n:=k+1) T (xjr T)
 have r:DefIs P w K a base 91 "look_falls" qa0 xjf:=xhe (n:=90) T (g 88);have m:DefIs P w K a base 92 "look_hand" qay xrj:=xig (n:=91) T (xda T) (there 89) u r;have o:DefIs P w K a base 92 "look_channel" qax xrl:=xfy (n:=91) T (f 89) (there 89);have e:DefIs P w K a base 92 "look_kinds" ["kinds"] xeb:=xhd (n:=91) T (xhc (n:=90) T (xda T)) (xgg (n:=90) T (xl0 T));have look:DefIs P w K a base 93 "look" ["make"] spLk:=xr2 (n:=92) T e (xda T) o m;have y:DefIs P w K a base 51 "_law_done" qa9 xrk:=xpn (n:=50) T ((xkk T 21 6 (by omega)).mono (by omega)) ((xkl T 6).mono (by omega)) (b 48);have x:DefIs P w K a base 99 "_law_goes" qba spGo:=xpm (n:=98) T ((xij T 6).mono (by omega)) (g 96) (y.mono (by omega)) (b 96) ((xj5 T 6).mono (by omega));exact xua (n:=99) T (xha T) (xc8 T) (xnn T) (make.mono (by omega)) (look.mono (by omega)) x
end
end K30
end
end
namespace PySem.W.Fast
theorem tw6889552532350475815:0=0:=rfl
theorem tw7574044685989911786:0=0:=rfl
theorem tw4841761313672298413:0=0:=rfl
theorem tw5054448249007075695:0=0:=rfl
theorem tw3021951221112546906:0=0:=rfl
theorem tw2109464283462930803:0=0:=rfl
theorem tw17034937688243526793:0=0:=rfl
theorem tw2287676022371350814:0=0:=rfl
theorem tw5276380128164501583:0=0:=rfl
theorem tw9923259208814797569:0=0:=rfl
theorem tw10063108720998972086:0=0:=rfl
theorem tw14841670578216454177:0=0:=rfl
theorem tw2759286232316546189:0=0:=rfl
theorem tw924100967083247182:0=0:=rfl
theorem tw3074686356411015614:0=0:=rfl
theorem tw9834778576311887609:0=0:=rfl
theorem tw3012408285177109107:0=0:=rfl
theorem tw1938218299648951276:0=0:=rfl
theorem tw9548023504381790598:0=0:=rfl
theorem tw16800982809759417458:0=0:=rfl
theorem tw5869961475490170449:0=0:=rfl
theorem tw5155586147841809808:0=0:=rfl
theorem tw2667154853325161170:0=0:=rfl
theorem tw5965373162757620288:0=0:=rfl
theorem tw5309380754982045563:0=0:=rfl
theorem tw18429975775439004598:0=0:=rfl
theorem tw15897921008127172162:0=0:=rfl
theorem tw11255340503610617716:0=0:=rfl
theorem tw2363687491268006368:0=0:=rfl
theorem tw4911276909617281278:0=0:=rfl
theorem tw17761374700212940210:0=0:=rfl
theorem tw15485778696107583481:0=0:=rfl
theorem tw8856924455285865134:0=0:=rfl
theorem tw17692740977860253124:0=0:=rfl
theorem tw4303915307676006657:0=0:=rfl
theorem tw6158127454251460597:0=0:=rfl
theorem tw13087742767820322872:0=0:=rfl
theorem tw15776045699577902166:0=0:=rfl
theorem tw3297295093992450106:0=0:=rfl
theorem tw6580226779012093903:0=0:=rfl
theorem tw10458122085262774677:0=0:=rfl
theorem tw12981990051523858473:0=0:=rfl
theorem tw4832276933642364443:0=0:=rfl
theorem tw818118356310690769:0=0:=rfl
theorem tw4447397829421967884:0=0:=rfl
theorem tw13838738063228388426:0=0:=rfl
theorem tw6247592316899707498:0=0:=rfl
theorem tw8718836227115640670:0=0:=rfl
theorem tw16296892491704057594:0=0:=rfl
theorem tw6458985875853921311:0=0:=rfl
theorem tw17659943019154738945:0=0:=rfl
theorem tw18113523848552361569:0=0:=rfl
theorem tw16327972505957564002:0=0:=rfl
theorem tw12082536868431771208:0=0:=rfl
theorem tw13493024595331044663:0=0:=rfl
theorem tw17351379747497476358:0=0:=rfl
theorem tw5386210910094941640:0=0:=rfl
theorem tw11671478074182407737:0=0:=rfl
theorem tw6278809640501366763:0=0:=rfl
theorem tw92567239884299827:0=0:=rfl
theorem tw16059488386394081480:0=0:=rfl
theorem tw6746389171814579760:0=0:=rfl
theorem tw6871073471281105961:0=0:=rfl
theorem tw10590503682666438486:0=0:=rfl
theorem tw17852667968312382830:0=0:=rfl
theorem tw9275696480180316613:0=0:=rfl
theorem tw15118425750925716746:0=0:=rfl
theorem tw12320800340695057950:0=0:=rfl
theorem tw77637464851323085:0=0:=rfl
theorem tw5152003233758205604:0=0:=rfl
theorem tw15757248423786564369:0=0:=rfl
theorem tw6458439963466978168:0=0:=rfl
theorem tw14502033484949569176:0=0:=rfl
theorem tw13293626093749978215:0=0:=rfl
theorem tw5892378946890108905:0=0:=rfl
theorem tw12462507798226385175:0=0:=rfl
theorem tw8427027269015919501:0=0:=rfl
theorem tw3689023872387165455:0=0:=rfl
theorem tw6989782085969819417:0=0:=rfl
theorem tw1192414151248555524:0=0:=rfl
theorem tw12422133530275302606:0=0:=rfl
theorem tw5866352742334630519:0=0:=rfl
theorem tw14405517999473831306:0=0:=rfl
theorem tw2102003269568739383:0=0:=rfl
theorem tw1801793912680197267:0=0:=rfl
theorem tw1342937145977077998:0=0:=rfl
theorem tw15623680252456913491:0=0:=rfl
theorem tw17692568886011398513:0=0:=rfl
theorem tw9241008625634893720:0=0:=rfl
theorem tw15122072028722096400:0=0:=rfl
theorem tw872646507178015024:0=0:=rfl
theorem tw7101335871136299197:0=0:=rfl
theorem tw6871018233219579335:0=0:=rfl
theorem tw3586395067024453586:0=0:=rfl
theorem tw4311119574184489087:0=0:=rfl
theorem tw8533519175309461022:0=0:=rfl
theorem tw18229355051134256414:0=0:=rfl
theorem tw1890091042863153319:0=0:=rfl
theorem tw1613985128906559323:0=0:=rfl
theorem tw12079841598723035080:0=0:=rfl
theorem tw6952289394213452737:0=0:=rfl
theorem tw1720434459437333439:0=0:=rfl
theorem tw6651629000815696670:0=0:=rfl
theorem tw5967885918261133352:0=0:=rfl
theorem tw7716129328532711208:0=0:=rfl
theorem tw18007991953927352063:0=0:=rfl
theorem tw15105928639116728301:0=0:=rfl
theorem tw18249213082146005960:0=0:=rfl
theorem tw12382385388839835662:0=0:=rfl
theorem tw9288858934643298292:0=0:=rfl
theorem tw14446776367620343715:0=0:=rfl
theorem tw2361485305905522212:0=0:=rfl
theorem tw4651395595714626423:0=0:=rfl
theorem tw2163962004624245001:0=0:=rfl
theorem tw9473464034444976854:0=0:=rfl
theorem tw10904156248828646537:0=0:=rfl
theorem tw5327156587804037310:0=0:=rfl
theorem tw17168840374101456120:0=0:=rfl
theorem tw11615577939045615917:0=0:=rfl
theorem tw2563528664760692020:0=0:=rfl
theorem tw2476865112727287885:0=0:=rfl
theorem tw7759894647005990440:0=0:=rfl
theorem tw17402448471566000433:0=0:=rfl
theorem tw2584560095336079020:0=0:=rfl
theorem tw11064026397052257355:0=0:=rfl
theorem tw16087192983416277395:0=0:=rfl
theorem tw10480360071153304877:0=0:=rfl
theorem tw5016083389415031823:0=0:=rfl
theorem tw1987645813842123175:0=0:=rfl
theorem tw7080716680055688976:0=0:=rfl
theorem tw6070167443544792278:0=0:=rfl
theorem tw15029124043591772595:0=0:=rfl
theorem tw13313449369212476328:0=0:=rfl
theorem tw17241268402486530527:0=0:=rfl
theorem tw11337644632811719609:0=0:=rfl
theorem tw8675365827036333047:0=0:=rfl
theorem tw17889153188640962321:0=0:=rfl
theorem tw6420325756535688911:0=0:=rfl
theorem tw8537828193572377455:0=0:=rfl
theorem tw12557918470177620003:0=0:=rfl
theorem tw3579760891443572109:0=0:=rfl
theorem tw18402221940103242938:0=0:=rfl
theorem tw14518832666689235797:0=0:=rfl
theorem tw1982488512270069817:0=0:=rfl
theorem tw1052831042196329968:0=0:=rfl
theorem tw12224079758483775982:0=0:=rfl
theorem tw10371397235575159987:0=0:=rfl
theorem tw15383645268732436577:0=0:=rfl
theorem tw3749257593228879054:0=0:=rfl
theorem tw10131757282270938752:0=0:=rfl
theorem tw240932713171184398:0=0:=rfl
theorem tw10872035148406421582:0=0:=rfl
theorem tw8913226369425615466:0=0:=rfl
theorem tw586561537140942603:0=0:=rfl
theorem tw1919647504368696429:0=0:=rfl
theorem tw10294085177891764908:0=0:=rfl
theorem tw2261933673049968472:0=0:=rfl
theorem tw12463497544046096637:0=0:=rfl
theorem tw2187998802324937349:0=0:=rfl
theorem tw10781292977807919768:0=0:=rfl
theorem tw2265091217423873158:0=0:=rfl
theorem tw15900803842714506842:0=0:=rfl
theorem tw5530888483072302352:0=0:=rfl
theorem tw2193835919192852482:0=0:=rfl
theorem tw12512464584278499488:0=0:=rfl
theorem tw16932115440344315923:0=0:=rfl
theorem tw13324123235292324883:0=0:=rfl
theorem tw14891710714471341127:0=0:=rfl
theorem tw8413517464160181441:0=0:=rfl
theorem tw11927600825790319562:0=0:=rfl
theorem tw1702797035823545066:0=0:=rfl
theorem tw2255344099000298221:0=0:=rfl
theorem tw8781408983055858124:0=0:=rfl
theorem tw11034073170150230576:0=0:=rfl
theorem tw14945168063712177421:0=0:=rfl
theorem tw9611885170386163348:0=0:=rfl
theorem tw18025015535494434685:0=0:=rfl
theorem tw2123958692497590622:0=0:=rfl
theorem tw968550094956675989:0=0:=rfl
theorem tw3284459899122544352:0=0:=rfl
theorem tw1100185331072059353:0=0:=rfl
theorem tw3803702406262025872:0=0:=rfl
theorem tw3343741237147265639:0=0:=rfl
theorem tw9043682883452227886:0=0:=rfl
theorem tw8293210574554017726:0=0:=rfl
theorem tw12512317977966456293:0=0:=rfl
theorem tw6435142816071278746:0=0:=rfl
theorem tw1382292335841186989:0=0:=rfl
theorem tw14585975661174757074:0=0:=rfl
theorem tw6711994373921200212:0=0:=rfl
theorem tw13640549891149294028:0=0:=rfl
theorem tw2749357852604452951:0=0:=rfl
theorem tw10202892157658412703:0=0:=rfl
theorem tw12624536615342424626:0=0:=rfl
theorem tw2469104695759734554:0=0:=rfl
theorem tw6046461579706814310:0=0:=rfl
theorem tw6241914272357656249:0=0:=rfl
theorem tw10400241435727921017:0=0:=rfl
theorem tw11506878371793571290:0=0:=rfl
theorem tw12717787620324283430:0=0:=rfl
theorem tw17762941998971082672:0=0:=rfl
theorem tw10864332402531831263:0=0:=rfl
theorem tw3555362208214938776:0=0:=rfl
theorem tw8094998541829253011:0=0:=rfl
theorem tw3477467436106009385:0=0:=rfl
theorem tw16699790684811895235:0=0:=rfl
theorem tw5661813328697911063:0=0:=rfl
theorem tw2783363233943789177:0=0:=rfl
theorem tw9268893440808450981:0=0:=rfl
theorem tw15125966614848895417:0=0:=rfl
theorem tw4450436388118783540:0=0:=rfl
theorem tw3430950315074177787:0=0:=rfl
theorem tw1668044511907598111:0=0:=rfl
theorem tw10335447431208917131:0=0:=rfl
theorem tw14806608072120061903:0=0:=rfl
theorem tw4514008483171120314:0=0:=rfl
theorem tw9102942628657352047:0=0:=rfl
theorem tw5173880740550194025:0=0:=rfl
theorem tw7432654353664302630:0=0:=rfl
theorem tw5304448600030463100:0=0:=rfl
theorem tw7499138149856810275:0=0:=rfl
theorem tw18065470802943842015:0=0:=rfl
theorem tw15437473824118168239:0=0:=rfl
theorem tw4064300832816517895:0=0:=rfl
theorem tw9287539521023729956:0=0:=rfl
theorem tw14143783054794966407:0=0:=rfl
theorem tw9302468924375203283:0=0:=rfl
theorem tw15746618788701593001:0=0:=rfl
theorem tw4496132729074663977:0=0:=rfl
theorem tw8120733368116579987:0=0:=rfl
theorem tw18091931162810767259:0=0:=rfl
theorem tw1838975552670676627:0=0:=rfl
theorem tw2809205742105985428:0=0:=rfl
theorem tw1957019050765555566:0=0:=rfl
theorem tw14802040049723904586:0=0:=rfl
theorem tw12477524808093009495:0=0:=rfl
theorem tw7038179939721435324:0=0:=rfl
theorem tw2915292123379389489:0=0:=rfl
theorem tw12377523602879258832:0=0:=rfl
theorem tw10813232944307199006:0=0:=rfl
theorem tw18178554758171932808:0=0:=rfl
theorem tw15383981815547589111:0=0:=rfl
theorem tw9645057455090962315:0=0:=rfl
theorem tw11051013169541189140:0=0:=rfl
theorem tw3972061151286518654:0=0:=rfl
theorem tw9447284564603594839:0=0:=rfl
theorem tw4202325714038028908:0=0:=rfl
theorem tw2651152531836636617:0=0:=rfl
theorem tw15504855895169366148:0=0:=rfl
theorem tw17886676487363241175:0=0:=rfl
theorem tw8071585878187656592:0=0:=rfl
theorem tw12522661932839954943:0=0:=rfl
theorem tw14163818290331080882:0=0:=rfl
theorem tw10867698434581877345:0=0:=rfl
theorem tw8780265094582502848:0=0:=rfl
theorem tw4661461134679879719:0=0:=rfl
theorem tw1067558298858201974:0=0:=rfl
theorem tw13384050557808482423:0=0:=rfl
theorem tw18446400667709435679:0=0:=rfl
theorem tw13195767646584427021:0=0:=rfl
theorem tw9295375023281701908:0=0:=rfl
theorem tw1500083705637995485:0=0:=rfl
theorem tw15882689469773724535:0=0:=rfl
theorem tw5374844384587498234:0=0:=rfl
theorem tw13347702437786379608:0=0:=rfl
theorem tw6755761391341905791:0=0:=rfl
theorem tw17368167459783794674:0=0:=rfl
theorem tw5441425781894243923:0=0:=rfl
theorem tw1337586536379226072:0=0:=rfl
theorem tw16467461973279064327:0=0:=rfl
theorem tw67608890445108001:0=0:=rfl
theorem tw17626285750738018954:0=0:=rfl
theorem tw760103387359849977:0=0:=rfl
theorem tw6302269629007970:0=0:=rfl
theorem tw4301812987607774835:0=0:=rfl
theorem tw18109718608346904157:0=0:=rfl
theorem tw9709036041054924362:0=0:=rfl
theorem tw677102853917590613:0=0:=rfl
theorem tw5072567506444864094:0=0:=rfl
theorem tw8839702288320213873:0=0:=rfl
theorem tw12910610029118605831:0=0:=rfl
theorem tw1158510487635957732:0=0:=rfl
theorem tw5875276807200234198:0=0:=rfl
theorem tw1393407165449588888:0=0:=rfl
theorem tw2329309415413364537:0=0:=rfl
theorem tw10824496352449519666:0=0:=rfl
theorem tw6965390217699491530:0=0:=rfl
theorem tw1334015544274051928:0=0:=rfl
theorem tw1149679943904201237:0=0:=rfl
theorem tw2484414493849413818:0=0:=rfl
theorem tw4387373217951160662:0=0:=rfl
theorem tw8840651706426903597:0=0:=rfl
theorem tw14480589022705638666:0=0:=rfl
theorem tw8387674491439582838:0=0:=rfl
theorem tw14984236596747179137:0=0:=rfl
theorem tw14812550458985263814:0=0:=rfl
theorem tw516302394675865337:0=0:=rfl
theorem tw12963631922430921117:0=0:=rfl
theorem tw2491687717223877580:0=0:=rfl
theorem tw907205655422215148:0=0:=rfl
theorem tw1491740601601047624:0=0:=rfl
theorem tw16019347204364070186:0=0:=rfl
theorem tw2079449541289688220:0=0:=rfl
theorem tw13555254837884132070:0=0:=rfl
theorem tw18265436271842495146:0=0:=rfl
theorem tw10764430143605782655:0=0:=rfl
theorem tw2366381849922427534:0=0:=rfl
theorem tw17834252847037150699:0=0:=rfl
theorem tw3974311372195737991:0=0:=rfl
theorem tw6762842048440643770:0=0:=rfl
theorem tw9848791743155257709:0=0:=rfl
theorem tw2467756386157144083:0=0:=rfl
theorem tw13935222069494889837:0=0:=rfl
theorem tw16764650566297374452:0=0:=rfl
theorem tw2474324211578336068:0=0:=rfl
theorem tw18275637513048461570:0=0:=rfl
theorem tw13495112093042216052:0=0:=rfl
theorem tw6618470177527632074:0=0:=rfl
theorem tw9677323178225612806:0=0:=rfl
theorem tw11387392629566348378:0=0:=rfl
theorem tw6585387759517206423:0=0:=rfl
theorem tw6310702519008378077:0=0:=rfl
theorem tw10719136015494248762:0=0:=rfl
theorem tw15431962731416908617:0=0:=rfl
theorem tw14319146201454831832:0=0:=rfl
theorem tw1599586743509873695:0=0:=rfl
theorem tw7996944480336471519:0=0:=rfl
theorem tw13968194918397582920:0=0:=rfl
theorem tw17474250718003827836:0=0:=rfl
theorem tw7487501605524102510:0=0:=rfl
theorem tw6819667955299725111:0=0:=rfl
theorem tw8998341461726138112:0=0:=rfl
theorem tw11852679165801177611:0=0:=rfl
theorem tw9572316129348988834:0=0:=rfl
theorem tw3291587659668369241:0=0:=rfl
theorem tw807547840274736785:0=0:=rfl
theorem tw5623523321408225653:0=0:=rfl
theorem tw17034544845306243610:0=0:=rfl
theorem tw14604363991983698242:0=0:=rfl
theorem tw2807030888144222585:0=0:=rfl
theorem tw1114898578410343104:0=0:=rfl
theorem tw9754268146685933700:0=0:=rfl
theorem tw11933520681351487286:0=0:=rfl
theorem tw9402378233436734881:0=0:=rfl
theorem tw3617289159634582591:0=0:=rfl
theorem tw11052778741470596648:0=0:=rfl
theorem tw10965953053204468919:0=0:=rfl
theorem tw3764497064022807484:0=0:=rfl
theorem tw17049123778110979922:0=0:=rfl
theorem tw2639680875703638465:0=0:=rfl
theorem tw9454784737578904740:0=0:=rfl
theorem tw2797302378443721633:0=0:=rfl
theorem tw4382599178812409386:0=0:=rfl
theorem tw13495215728942273756:0=0:=rfl
theorem tw9519559216880000485:0=0:=rfl
theorem tw11632084460506068435:0=0:=rfl
theorem tw1877915780242935308:0=0:=rfl
theorem tw6850530403393638984:0=0:=rfl
theorem tw4606047809005831926:0=0:=rfl
theorem tw1935377639458197226:0=0:=rfl
theorem tw18201643925408904709:0=0:=rfl
theorem tw3742466506713526432:0=0:=rfl
end PySem.W.Fast
open PySem PySem.W PyProof.Rows
set_option maxRecDepth 100000 in
set_option maxHeartbeats 0 in
theorem PySem.Challenge.cw_swapstride_k30_whole_kinds_stay_holds : PySem.Challenge.rw_swapstride_k30_whole_kinds_stay.Holds := by
 w_on;o_law;k_head;(case hw=>w_witness2)
 k_fill
 refine L2.walk_of (l:=PySem.Challenge.rw_swapstride_k30_whole_kinds_stay) (n:=63) (k:=100) (x:="_law_script") (CX:=λ_=>L2.CX0) (sp:=λ_=>K30.spLaw _) rfl (by decide) rfl ⟨rfl,by decide,by decide⟩ (λw h Y=>PySem.W.kIn_of Y) ?F (λ_ _ a ns hl _ hS=>⟨a,ns,rfl,hS,hl,λ_=>rfl⟩) λ_ _ _ _ _ z=>z
 case F=>
  intro w mg fa h KX G hmg
  have jA:L2.DefTx (L2.KOf KX) mg "look_kinds" K30.s_look_kinds ["kinds"]:=by
   walk_at"d"
  have jB:L2.DefTx (L2.KOf KX) mg "look_names" K30.s_look_names L2.qaf:=by
   walk_at"d"
  have jC:L2.DefTx (L2.KOf KX) mg "need_once" K30.s_need_once L2.qaj:=by
   walk_at"d"
  have jD:L2.DefTx (L2.KOf KX) mg "looked_size" K30.s_looked_size L2.qaf:=by
   walk_at"d"
  have jE:L2.DefTx (L2.KOf KX) mg "size_by" K30.s_size_by L2.qaf:=by
   walk_at"d"
  have jF:L2.DefTx (L2.KOf KX) mg "sort_of" K30.s_sort_of L2.qac:=by
   walk_at"d"
  have jG:L2.DefTx (L2.KOf KX) mg "parts_of" K30.s_parts_of L2.qac:=by
   walk_at"d"
  have jH:L2.DefTx (L2.KOf KX) mg "need_there" K30.s_need_there L2.qag:=by
   walk_at"d"
  have jI:L2.DefTx (L2.KOf KX) mg "ways_of" K30.s_ways_of ["rows"]:=by
   walk_at"d"
  have jJ:L2.DefTx (L2.KOf KX) mg "row_ways" K30.s_row_ways ["row","k"]:=by
   walk_at"d"
  have jK:L2.DefTx (L2.KOf KX) mg "hand_of" K30.s_hand_of L2.qao:=by
   walk_at"d"
  have jL:L2.DefTx (L2.KOf KX) mg "channel_of" K30.s_channel_of L2.qak:=by
   walk_at"d"
  have jM:L2.DefTx (L2.KOf KX) mg "named" K30.s_named L2.qau:=by
   walk_at"d"
  have jN:L2.DefTx (L2.KOf KX) mg "kind_of" K30.s_kind_of L2.qaa:=by
   walk_at"d"
  have jO:L2.DefTx (L2.KOf KX) mg "num_kind" K30.s_num_kind ["n"]:=by
   walk_at"d"
  have jP:L2.DefTx (L2.KOf KX) mg "box_kind" K30.s_box_kind L2.qap:=by
   walk_at"d"
  have jQ:L2.DefTx (L2.KOf KX) mg "op_kind" K30.s_op_kind L2.qaa:=by
   walk_at"d"
  have jR:L2.DefTx (L2.KOf KX) mg "rec_kind" K30.s_rec_kind L2.qaa:=by
   walk_at"d"
  have jS:L2.DefTx (L2.KOf KX) mg "get_kind" K30.s_get_kind L2.qaa:=by
   walk_at"d"
  have jT:L2.DefTx (L2.KOf KX) mg "tag_kind" K30.s_tag_kind L2.qaa:=by
   walk_at"d"
  have jU:L2.DefTx (L2.KOf KX) mg "case_kind" K30.s_case_kind L2.qaa:=by
   walk_at"d"
  have jV:L2.DefTx (L2.KOf KX) mg "arm_kind" K30.s_arm_kind L2.qbb:=by
   walk_at"d"
  have jW:L2.DefTx (L2.KOf KX) mg "if_kind" K30.s_if_kind L2.qaa:=by
   walk_at"d"
  have jX:L2.DefTx (L2.KOf KX) mg "need_kind" K30.s_need_kind L2.qai:=by
   walk_at"d"
  have jY:L2.DefTx (L2.KOf KX) mg "need_same" K30.s_need_same L2.qal:=by
   walk_at"d"
  have jZ:L2.DefTx (L2.KOf KX) mg "need_sort" K30.s_need_sort L2.qav:=by
   walk_at"d"
  have j0:L2.DefTx (L2.KOf KX) mg "kind_of_sort" K30.s_kind_of_sort L2.qaw:=by
   walk_at"d"
  have j1:L2.DefTx (L2.KOf KX) mg "part_kind" K30.s_part_kind L2.qaq:=by
   walk_at"d"
  have j2:L2.DefTx (L2.KOf KX) mg "need_tags" K30.s_need_tags L2.qbc:=by
   walk_at"d"
  have j3:L2.DefTx (L2.KOf KX) mg "with_box" K30.s_with_box L2.qar:=by
   walk_at"d"
  have j4:L2.DefTx (L2.KOf KX) mg "look" K30.s_look ["make"]:=by
   walk_at"d"
  have j5:L2.DefTx (L2.KOf KX) mg "look_channel" K30.s_look_channel L2.qax:=by
   walk_at"d"
  have j6:L2.DefTx (L2.KOf KX) mg "look_hand" K30.s_look_hand L2.qay:=by
   walk_at"d"
  have j7:L2.DefTx (L2.KOf KX) mg "look_row" K30.s_look_row L2.qaz:=by
   walk_at"d"
  have j8:L2.DefTx (L2.KOf KX) mg "own_kind" K30.s_own_kind L2.qbd:=by
   walk_at"d"
  have j9:L2.DefTx (L2.KOf KX) mg "look_falls" K30.s_look_falls L2.qa0:=by
   walk_at"d"
  have kA:L2.DefTx (L2.KOf KX) mg "is_of" K30.s_is_of L2.qae:=by
   walk_at"d"
  have kB:L2.DefTx (L2.KOf KX) mg "is_num" K30.s_is_num ["value"]:=by
   walk_at"d"
  have kC:L2.DefTx (L2.KOf KX) mg "is_rec" K30.s_is_rec L2.qae:=by
   walk_at"d"
  have kD:L2.DefTx (L2.KOf KX) mg "is_alt" K30.s_is_alt L2.qae:=by
   walk_at"d"
  have kE:L2.DefTx (L2.KOf KX) mg "nought" K30.s_nought L2.qag:=by
   walk_at"d"
  have kF:L2.DefTx (L2.KOf KX) mg "field" K30.s_field L2.qbe:=by
   walk_at"d"
  have kG:L2.DefTx (L2.KOf KX) mg "worth" K30.s_worth L2.qaa:=by
   walk_at"d"
  have kH:L2.DefTx (L2.KOf KX) mg "op_worth" K30.s_op_worth L2.qa1:=by
   walk_at"d"
  have kI:L2.DefTx (L2.KOf KX) mg "case_worth" K30.s_case_worth L2.qaa:=by
   walk_at"d"
  have kJ:L2.DefTx (L2.KOf KX) mg "_law_feed" K30.sl_feed L2.qas:=by
   walk_at"d"
  have kK:L2.DefTx (L2.KOf KX) mg "_law_take" K30.sl_take L2.qad:=by
   walk_at"d"
  have kL:L2.DefTx (L2.KOf KX) mg "_law_names" K30.sl_names L2.qbf:=by
   walk_at"d"
  have kM:L2.DefTx (L2.KOf KX) mg "_law_number" K30.sl_number L2.qa2:=by
   walk_at"d"
  have kN:L2.DefTx (L2.KOf KX) mg "_law_sort_of" K30.sl_sort_of L2.qab:=by
   walk_at"d"
  have kO:L2.DefTx (L2.KOf KX) mg "_law_size" K30.sl_size L2.qab:=by
   walk_at"d"
  have kP:L2.DefTx (L2.KOf KX) mg "_law_small" K30.sl_small L2.qab:=by
   walk_at"d"
  have kQ:L2.DefTx (L2.KOf KX) mg "_law_parts" K30.sl_parts L2.qa3:=by
   walk_at"d"
  have kR:L2.DefTx (L2.KOf KX) mg "_law_kinds" K30.sl_kinds L2.qbg:=by
   walk_at"d"
  have kS:L2.DefTx (L2.KOf KX) mg "_law_boxed" K30.sl_boxed L2.qa4:=by
   walk_at"d"
  have kT:L2.DefTx (L2.KOf KX) mg "_law_arms" K30.sl_arms L2.qbh:=by
   walk_at"d"
  have kU:L2.DefTx (L2.KOf KX) mg "_law_whole_term" K30.sl_whole_term L2.qah:=by
   walk_at"d"
  have kW:L2.DefTx (L2.KOf KX) mg "_law_term" K30.sl_term L2.qah:=by
   walk_at"d"
  have kX:L2.DefTx (L2.KOf KX) mg "_law_new_term" K30.sl_new_term L2.qam:=by
   walk_at"d"
  have kY:L2.DefTx (L2.KOf KX) mg "_law_any_kind" K30.sl_any_kind L2.qan:=by
   walk_at"d"
  have kZ:L2.DefTx (L2.KOf KX) mg "_law_channels" K30.sl_channels L2.qbi:=by
   walk_at"d"
  have k0:L2.DefTx (L2.KOf KX) mg "_law_boxes" K30.sl_boxes L2.qbj:=by
   walk_at"d"
  have k5:L2.DefTx (L2.KOf KX) mg "_law_deal" K30.sl_deal L2.qa5:=by
   walk_at"d"
  have k6:L2.DefTx (L2.KOf KX) mg "_law_rows" K30.sl_rows L2.qa6:=by
   walk_at"d"
  have uA:L2.DefTx (L2.KOf KX) mg "_law_make" K30.sl_make L2.qa7:=by
   walk_at"d"
  have uB:L2.DefTx (L2.KOf KX) mg "_law_hands" K30.sl_hands L2.qa8:=by
   walk_at"d"
  have uC:L2.DefTx (L2.KOf KX) mg "_law_value" K30.sl_value L2.qat:=by
   walk_at"d"
  have uD:L2.DefTx (L2.KOf KX) mg "_law_done" K30.sl_done L2.qa9:=by
   walk_at"d"
  have uE:L2.DefTx (L2.KOf KX) mg "_law_goes" K30.sl_goes L2.qba:=by
   walk_at"d"
  have uF:L2.DefTx (L2.KOf KX) mg "law" K30.s_law ["_law_script"]:=by
   walk_at"d"
  have uG:∃t,mg "GREATEST_SIZE"=some (.int 30 t):=by
   refine' L2.gint_mk KX G ?a
   (case a=>k_is)
  have uH:∃t,mg "WIDE"=some (.int 4294967296 t):=by
   refine' L2.gint_mk KX G ?a
   (case a=>k_is)
  have uI:∃t,mg "FROM"=some (.int 1 t):=by
   refine' L2.gint_mk KX G ?a
   (case a=>k_is)
  have uJ:∃t,mg "TO"=some (.int 2 t):=by
   refine' L2.gint_mk KX G ?a
   (case a=>k_is)
  have uK:mg "all"=none:=by
   refine' PySem.W.mg_none_of KX G ?a
   (case a=>k_is)
  have uL:mg "any"=none:=by
   refine' PySem.W.mg_none_of KX G ?a
   (case a=>k_is)
  have uM:mg "bool"=none:=by
   refine' PySem.W.mg_none_of KX G ?a
   (case a=>k_is)
  have uN:mg "dict"=none:=by
   refine' PySem.W.mg_none_of KX G ?a
   (case a=>k_is)
  have uO:mg "enumerate"=none:=by
   refine' PySem.W.mg_none_of KX G ?a
   (case a=>k_is)
  have uP:mg "int"=none:=by
   refine' PySem.W.mg_none_of KX G ?a
   (case a=>k_is)
  have uQ:mg "isinstance"=none:=by
   refine' PySem.W.mg_none_of KX G ?a
   (case a=>k_is)
  have uR:mg "len"=none:=by
   refine' PySem.W.mg_none_of KX G ?a
   (case a=>k_is)
  have uS:mg "list"=none:=by
   refine' PySem.W.mg_none_of KX G ?a
   (case a=>k_is)
  have uT:mg "max"=none:=by
   refine' PySem.W.mg_none_of KX G ?a
   (case a=>k_is)
  have uU:mg "min"=none:=by
   refine' PySem.W.mg_none_of KX G ?a
   (case a=>k_is)
  have uV:mg "range"=none:=by
   refine' PySem.W.mg_none_of KX G ?a
   (case a=>k_is)
  have uW:mg "set"=none:=by
   refine' PySem.W.mg_none_of KX G ?a
   (case a=>k_is)
  have uX:mg "sum"=none:=by
   refine' PySem.W.mg_none_of KX G ?a
   (case a=>k_is)
  have uY:mg "tuple"=none:=by
   refine' PySem.W.mg_none_of KX G ?a
   (case a=>k_is)
  have uZ:mg "zip"=none:=by
   refine' PySem.W.mg_none_of KX G ?a
   (case a=>k_is)
  have T:K30.Tx (L2.KOf KX) mg:=⟨jA,jB,jC,jD,jE,jF,jG,jH,jI,jJ,jK,jL,jM,jN,jO,jP,jQ,jR,jS,jT,jU,jV,jW,jX,jY,jZ,j0,j1,j2,j3,j4,j5,j6,j7,j8,j9,kA,kB,kC,kD,kE,kF,kG,kH,kI,kJ,kK,kL,kM,kN,kO,kP,kQ,kR,kS,kT,kU,kW,kX,kY,kZ,k0,k5,k6,uA,uB,uC,uD,uE,uF,uG,uH,uI,uJ,uK,uL,uM,uN,uO,uP,uQ,uR,uS,uT,uU,uV,uW,uX,uY,uZ⟩;exact L2.law_top uF hmg λbase=>K30.law_is T
