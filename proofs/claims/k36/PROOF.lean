import PyProof.Rows.All
import Wide.All
import OpenK.AllK
import Wide.FinOn
import Lean
import PyProof.EqAt
import PyProof.EqKinds
import PyProof.TupleCall
import PyProof.ZipIter
import PyProof.ListNew
import PyProof.TupleIter
import PyProof.WalksMore
import KE.KIntText
import PyProof.Rows.EqBoolInt
import PyProof.Rows.ZipGen
import PySem.Str
import PyProof.StrLawsTight
import PyProof.StrLawsIdx
import PyProof.StrLawsIn
import PyProof.Rows.SetFrom
import KE.KDictSum
import PyProof.Rows.SortWalk
import PyProof.NeKinds
import KE.KDictList
import KE.KRevIter
import PyProof.EnumMake
import PyProof.Rows.EnumRows
import PyProof.ExcInit
import PyProof.InstStoreFacts
import PyProof.ExcArgsOwn
import PyProof.ExcAttrAll.ValueError
import PyProof.ExcBaseAll.ValueError
import PyProof.ConsumeWalk
import PyProof.AttrMissHeap
import KE.KItemsList
import KE.KEqDict
import PyProof.StationsW
import PyProof.RulesAs
import PyProof.NsDelKeeps
import PyProof.ListMulRoad
import PyProof.FactsAll.tuple
import OpenK.KMore
import PyProof.DictWalks
import KE.KPairComp
import PyProof.DictValues
import KE.KRevSl
import PyProof.DictUpdate
import KE.KDictLaws
import PyProof.AutoListH
import PySem.Challenge.RW_swapstride_k36_hands_side_by_side
set_option Elab.async false
set_option linter.all false
set_option maxRecDepth 100000
set_option maxHeartbeats 4000000
noncomputable section
open PySem
def zD:=@PySem.F.plainAttrs_list
def zE:=@PySem.boot_len
def zF:=@PassesOwn.never
def zG:=@PySem.F.type_list_append
def zH:=@PySem.F.slot_list_append
def zI:=@Nat.succ_le_succ
def zJ:=@List.mem_append_right
def zK:=@PyProof.Rows.boot_tuple
def zL:=@PyProof.Rows.boot_dict
def zM:=@PyProof.Rows.boot_list
def zN:=@PySem.mem_of_lookup
def zO:=@Int.emod_lt_of_pos
def zP:=@List.map_congr_left
def zQ:=@Int.emod_nonneg
def zR:=@List.mem_append_left
def zS:=@List.cons.inj
def zT:=@Nat.lt_of_le_of_lt
def zU:=@List.find?_some
def zV:=@List.length_filter_le
def zW:=@List.Pairwise.sublist
def zX:=@wpAny_bind
def zY:=@Nat.le_trans
def zZ:=@Nat.le_refl
def z0:=@of_decide_eq_true
def z5:=@wpAny_pure
def z6:=@Heap.lt_size
def z9:=@Heap.get?_push_size
def qB:=@Bool.false_ne_true
def qC:=@Option.some.inj
def qD:=@Nat.ne_of_lt
def qE:=@Nat.lt_of_lt_of_le
def qF:=@List.mem_cons_of_mem
def qG:=@List.mem_map_of_mem
def qH:=@Nat.lt_irrefl
def qK:=@wpAny_field
def qL:=@wpAny_holding
def qN:=@List.mem_of_mem_take
def qO:=@Nat.zero_le
def qP:=@List.getElem_mem
end
abbrev Fg:=PySem.W.Frag
local macro_rules|`(tactic|omega)=>`(tactic|lia)
local macro_rules | `(tactic| walk_at"o")=>`(tactic| first |exact Or.inl rfl |exact Or.inr rfl)
local macro_rules | `(tactic| walk_at"q")=>`(tactic| exact⟨rfl,rfl,rfl,by decide +kernel,rfl,by decide +kernel,by decide +kernel⟩)
local macro_rules | `(tactic| walk_at"k")=>`(tactic| decide +kernel)
local macro_rules | `(tactic| walk_at"c")=>`(tactic| ((case a=>k_is);(case l=>k_is);(case c=>k_is);(case k=>k_is)))
set_option hygiene false in
local macro_rules | `(tactic| walk_at"d")=>`(tactic| (dsimp only[L2.KOf];refine' L2.deftx_mk KX G ?a ?l ?c ?k ?b;(case a=>k_is);(case l=>k_is);(case c=>k_is);(case k=>k_is);(case b=>(intro _ _ _ _ _ _ us hl;first |(obtain⟨_,rfl⟩:=L2.ln1 hl;rfl) |(obtain⟨_,_,rfl⟩:=L2.ln2 hl;rfl) |(obtain⟨_,_,_,rfl⟩:=L2.ln3 hl;rfl) |(obtain⟨_,_,_,_,rfl⟩:=L2.ln4 hl;rfl) |(obtain⟨_,_,_,_,_,rfl⟩:=L2.ln5 hl;rfl) |(obtain⟨_,_,_,_,_,_,rfl⟩:=L2.ln6 hl;rfl) |(obtain⟨_,_,_,_,_,_,_,rfl⟩:=L2.ln7 hl;rfl)))))
set_option hygiene false in
local macro_rules | `(tactic| walk_at"i")=>`(tactic| first |intro f cdv A outer s H vs Q E hr h |intro vs H Q E h)
local macro_rules | `(tactic| walk_at"s")=>`(tactic| first |(show 2 ≤ PySem.sizeLine;decide) |(show 3 ≤ PySem.sizeLine;decide) |(show 1 ≤ PySem.sizeLine;decide) |(show 0 ≤ PySem.sizeLine;decide) |(show 4 ≤ PySem.sizeLine;decide) |(show 5 ≤ PySem.sizeLine;decide) |(show 6 ≤ PySem.sizeLine;decide) |(show 8 ≤ PySem.sizeLine;decide))
theorem zGA{α:Type _}{l:List α}{i:Nat}(h:i<l.length):l[i]?=some l[i]:=List.getElem?_eq_getElem h
theorem zMS{α β:Type _}{f:α→β}{x:Option α}{b:β}(h:x.map f=some b):∃a,x=some a∧f a=b:=Option.map_eq_some_iff.mp h
theorem zLM{α β:Type _}{as:List α}(f:α→β):(as.map f).length=as.length:=List.length_map f
theorem zGM{α β:Type _}{f:α→β}{l:List α}{i:Nat}:(l.map f)[i]?=l[i]?.map f:=List.getElem?_map
theorem zES{α:Type _}{l:List α}{i:Nat}{a:α}(h:l[i]?=some a):∃h:i<l.length,l[i]=a:=List.getElem?_eq_some_iff.mp h
theorem zMG{α:Type _}{l:List α}{i:Nat}{a:α}(e:l[i]?=some a):a∈l:=List.mem_of_getElem? e
theorem zTL{α:Type _}{i:Nat}{l:List α}(h:l.length ≤ i):l.take i=l:=List.take_of_length_le h
theorem zMA{α:Type _}{a:α}{s t:List α}(h:a∈s++t):a∈s∨a∈t:=List.mem_append.mp h
theorem zMO{α:Type _}{a b:α}(h:a∈[b]):a=b:=List.mem_singleton.mp h
theorem zDT{p:Prop}[Decidable p](h:p):decide p=true:=decide_eq_true h
theorem zDF{p:Prop}[Decidable p](h:¬p):decide p=false:=decide_eq_false h
local macro_rules | `(tactic| walk_at"l")=>`(tactic| (intro vs H Q E h;(repeat (rcases h with⟨_,h⟩)) <;> (subst_vars;rfl)))
local macro_rules | `(tactic| walk_at"rd1")=>`(tactic| first
 |refine⟨_,rfl,?_⟩
 |refine⟨_,_,rfl,rfl,?_⟩
 |refine⟨_,_,_,_,rfl,rfl,(by assumption),(by first |rfl |assumption),?_⟩
 |refine⟨rfl,?_⟩
 |refine M.iteKF (by walk_at"k") ?_
 |refine M.iteKT (by walk_at"k") ?_)
local macro_rules | `(tactic| walk_at"rd")=>`(tactic| repeat walk_at"rd1")
local macro_rules | `(tactic| walk_at"rd1")=>`(tactic| first
 |refine⟨_,rfl,?_⟩
 |refine⟨_,_,rfl,rfl,?_⟩
 |refine⟨_,_,_,_,rfl,rfl,(by assumption),(by first |rfl |assumption),?_⟩
 |refine⟨_,_,rfl,.inl (by assumption),?_⟩
 |refine⟨(by first |exact .inr ⟨by decide,by decide⟩ |exact .inl ⟨by decide,by decide⟩ |exact⟨by decide,by decide,by decide⟩ |exact⟨by decide,by decide⟩ |exact⟨by assumption,by assumption⟩ |(show(0:Int)<_;first |decide |assumption)),?_⟩
 |refine⟨rfl,?_⟩)
section
open PySem
theorem zPO{h:Heap}{a:Addr}{u:Obj}(o:Obj)(e:h.get? a=some u):(h.push o).get? a=some u:=Heap.get?_push_of_some o e
theorem zLA{α:Type _}{as bs:List α}:(as++bs).length=as.length+bs.length:=List.length_append
theorem zMF{α:Type _}{p:α→Bool}{a:α}{l:List α}(h:l.find? p=some a):a∈l:=List.mem_of_find?_eq_some h
theorem zTA{α:Type _}{l:List α}{i:Nat}:l.take (i+1)=l.take i++l[i]?.toList:=List.take_add_one
theorem zMI{α:Type _}{a:α}{l:List α}(h:a∈l):∃(i:Nat) (h:i<l.length),l[i]=a:=List.mem_iff_getElem.mp h
theorem zMC{α:Type _}{a b:α}{l:List α}(h:a∈b::l):a=b∨a∈l:=List.mem_cons.mp h
theorem zMP{α β:Type _}{b:β}{f:α→β}{l:List α}(h:b∈l.map f):∃a,a∈l∧f a=b:=List.mem_map.mp h
theorem zAP{α β:Type _}{f:α→β}{as bs:List α}:(as++bs).map f=as.map f++bs.map f:=List.map_append
end
namespace L2
theorem ln1{α:Type}{l:List α}(h:l.length=1):∃a,l=[a]:=match l,h with |[a],_=>⟨a,rfl⟩
theorem ln2{α:Type}{l:List α}(h:l.length=2):∃a b,l=[a,b]:=match l,h with |[a,b],_=>⟨a,b,rfl⟩
theorem ln3{α:Type}{l:List α}(h:l.length=3):∃a b c,l=[a,b,c]:=match l,h with |[a,b,c],_=>⟨a,b,c,rfl⟩
theorem ln4{α:Type}{l:List α}(h:l.length=4):∃a b c d,l=[a,b,c,d]:=match l,h with |[a,b,c,d],_=>⟨a,b,c,d,rfl⟩
theorem ln5{α:Type}{l:List α}(h:l.length=5):∃a b c d e,l=[a,b,c,d,e]:=match l,h with |[a,b,c,d,e],_=>⟨a,b,c,d,e,rfl⟩
theorem ln6{α:Type}{l:List α}(h:l.length=6):∃a b c d e f,l=[a,b,c,d,e,f]:=match l,h with |[a,b,c,d,e,f],_=>⟨a,b,c,d,e,f,rfl⟩
theorem ln7{α:Type}{l:List α}(h:l.length=7):∃a b c d e f g,l=[a,b,c,d,e,f,g]:=match l,h with |[a,b,c,d,e,f,g],_=>⟨a,b,c,d,e,f,g,rfl⟩
end L2
section
theorem gcut{A:Prop}(h:∀G:Prop,(A->G)->G):A:=h A id
theorem jAA{p:Prop}{q:Prop}{F:Prop}(H0:p)(H1:q)(k:F):p/\q/\F:=⟨H0,H1,k⟩
theorem jAAA{p:Prop}{q:Prop}{r:Prop}{F:Prop}(H0:p)(H1:q)(H2:r)(k:F):p/\q/\r/\F:=⟨H0,H1,H2,k⟩
theorem jAE{p:Prop}{a:Sort _}{F:a->Prop}(H0:p)(u:a)(k:F u):p/\∃u,F u:=⟨H0,u,k⟩
theorem jAEA{p:Prop}{a:Sort _}{q:a->Prop}{F:a->Prop}(H0:p)(u:a)(H1:q u)(k:F u):p/\∃u,q u/\F u:=⟨H0,u,H1,k⟩
theorem xii{p:Prop}{a:Sort _}{q:a->Prop}{r:a->Prop}{F:a->Prop}(H0:p)(u:a)(H1:q u)(H2:r u)(k:F u):p/\∃u,q u/\r u/\F u:=⟨H0,u,H1,H2,k⟩
theorem jEA{a:Sort _}{p:a->Prop}{F:a->Prop}(u:a)(H0:p u)(k:F u):∃u,p u/\F u:=⟨u,H0,k⟩
theorem jEAA{a:Sort _}{p:a->Prop}{q:a->Prop}{F:a->Prop}(u:a)(H0:p u)(H1:q u)(k:F u):∃u,p u/\q u/\F u:=⟨u,H0,H1,k⟩
theorem xbr{a:Sort _}{p:a->Prop}{q:a->Prop}{r:a->Prop}{F:a->Prop}(u:a)(H0:p u)(H1:q u)(H2:r u)(k:F u):∃u,p u/\q u/\r u/\F u:=⟨u,H0,H1,H2,k⟩
theorem xbf{a:Sort _}{p:a->Prop}{q:a->Prop}{r:a->Prop}{i:a->Prop}{F:a->Prop}(u:a)(H0:p u)(H1:q u)(H2:r u)(H3:i u)(k:F u):∃u,p u/\q u/\r u/\i u/\F u:=⟨u,H0,H1,H2,H3,k⟩
theorem xb1{a:Sort _}{p:a->Prop}{q:a->Prop}{r:a->Prop}{i:a->Prop}{j:a->Prop}{F:a->Prop}(u:a)(H0:p u)(H1:q u)(H2:r u)(H3:i u)(H4:j u)(k:F u):∃u,p u/\q u/\r u/\i u/\j u/\F u:=⟨u,H0,H1,H2,H3,H4,k⟩
theorem xch{a:Sort _}{p:a->Prop}{q:a->Prop}{r:a->Prop}{i:a->Prop}{j:a->Prop}{b:Sort _}{g:a->b->Prop}{c:Sort _}{d:Sort _}{F:a->b->c->d->Prop}(u:a)(H0:p u)(H1:q u)(H2:r u)(H3:i u)(H4:j u)(v:b)(H5:g u v)(w:c)(x:d)(k:F u v w x):∃u,p u/\q u/\r u/\i u/\j u/\∃v,g u v/\∃w,∃x,F u v w x:=⟨u,H0,H1,H2,H3,H4,v,H5,w,x,k⟩
theorem xa0{a:Sort _}{p:a->Prop}{q:a->Prop}{b:Sort _}{r:a->b->Prop}{F:a->b->Prop}(u:a)(H0:p u)(H1:q u)(v:b)(H2:r u v)(k:F u v):∃u,p u/\q u/\∃v,r u v/\F u v:=⟨u,H0,H1,v,H2,k⟩
theorem xbh{a:Sort _}{p:a->Prop}{q:a->Prop}{b:Sort _}{c:Sort _}{r:a->b->c->Prop}{i:a->b->c->Prop}{F:a->b->c->Prop}(u:a)(H0:p u)(H1:q u)(v:b)(w:c)(H2:r u v w)(H3:i u v w)(k:F u v w):∃u,p u/\q u/\∃v,∃w,r u v w/\i u v w/\F u v w:=⟨u,H0,H1,v,w,H2,H3,k⟩
theorem xd3{a:Sort _}{p:a->Prop}{b:Sort _}{q:a->b->Prop}{F:a->b->Prop}(u:a)(H0:p u)(v:b)(H1:q u v)(k:F u v):∃u,p u/\∃v,q u v/\F u v:=⟨u,H0,v,H1,k⟩
theorem xbi{a:Sort _}{p:a->Prop}{b:Sort _}{q:a->b->Prop}{r:a->b->Prop}{F:a->b->Prop}(u:a)(H0:p u)(v:b)(H1:q u v)(H2:r u v)(k:F u v):∃u,p u/\∃v,q u v/\r u v/\F u v:=⟨u,H0,v,H1,H2,k⟩
theorem xc1{a:Sort _}{p:a->Prop}{b:Sort _}{q:a->b->Prop}{r:a->b->Prop}{c:Sort _}{i:a->b->c->Prop}{F:a->b->c->Prop}(u:a)(H0:p u)(v:b)(H1:q u v)(H2:r u v)(w:c)(H3:i u v w)(k:F u v w):∃u,p u/\∃v,q u v/\r u v/\∃w,i u v w/\F u v w:=⟨u,H0,v,H1,H2,w,H3,k⟩
theorem xcz{a:Sort _}{p:a->Prop}{b:Sort _}{q:a->b->Prop}{c:Sort _}{r:a->b->c->Prop}{d:Sort _}{i:a->b->c->d->Prop}{e:Sort _}{F:a->b->c->d->e->Prop}(u:a)(H0:p u)(v:b)(H1:q u v)(w:c)(H2:r u v w)(x:d)(H3:i u v w x)(y:e)(k:F u v w x y):∃u,p u/\∃v,q u v/\∃w,r u v w/\∃x,i u v w x/\∃y,F u v w x y:=⟨u,H0,v,H1,w,H2,x,H3,y,k⟩
theorem xax{a:Sort _}{p:a->Prop}{b:Sort _}{q:a->b->Prop}{c:Sort _}{r:a->b->c->Prop}{d:Sort _}{i:a->b->c->d->Prop}{e:Sort _}{j:a->b->c->d->e->Prop}{F:a->b->c->d->e->Prop}(u:a)(H0:p u)(v:b)(H1:q u v)(w:c)(H2:r u v w)(x:d)(H3:i u v w x)(y:e)(H4:j u v w x y)(k:F u v w x y):∃u,p u/\∃v,q u v/\∃w,r u v w/\∃x,i u v w x/\∃y,j u v w x y/\F u v w x y:=⟨u,H0,v,H1,w,H2,x,H3,y,H4,k⟩
theorem xbw{a:Sort _}{p:a->Prop}{b:Sort _}{q:a->b->Prop}{c:Sort _}{r:a->b->c->Prop}{d:Sort _}{e:Sort _}{F:a->b->c->d->e->Prop}(u:a)(H0:p u)(v:b)(H1:q u v)(w:c)(H2:r u v w)(x:d)(y:e)(k:F u v w x y):∃u,p u/\∃v,q u v/\∃w,r u v w/\∃x,∃y,F u v w x y:=⟨u,H0,v,H1,w,H2,x,y,k⟩
theorem xa7{a:Sort _}{p:a->Prop}{b:Sort _}{q:a->b->Prop}{c:Sort _}{r:a->b->c->Prop}{d:Sort _}{e:Sort _}{i:a->b->c->d->e->Prop}{j:a->b->c->d->e->Prop}{F:a->b->c->d->e->Prop}(u:a)(H0:p u)(v:b)(H1:q u v)(w:c)(H2:r u v w)(x:d)(y:e)(H3:i u v w x y)(H4:j u v w x y)(k:F u v w x y):∃u,p u/\∃v,q u v/\∃w,r u v w/\∃x,∃y,i u v w x y/\j u v w x y/\F u v w x y:=⟨u,H0,v,H1,w,H2,x,y,H3,H4,k⟩
theorem xb3{a:Sort _}{p:a->Prop}{b:Sort _}{q:a->b->Prop}{c:Sort _}{d:Sort _}{r:a->b->c->d->Prop}{i:a->b->c->d->Prop}{F:a->b->c->d->Prop}(u:a)(H0:p u)(v:b)(H1:q u v)(w:c)(x:d)(H2:r u v w x)(H3:i u v w x)(k:F u v w x):∃u,p u/\∃v,q u v/\∃w,∃x,r u v w x/\i u v w x/\F u v w x:=⟨u,H0,v,H1,w,x,H2,H3,k⟩
theorem xbb{a:Sort _}{p:a->Prop}{b:Sort _}{q:a->b->Prop}{c:Sort _}{d:Sort _}{r:a->b->c->d->Prop}{i:a->b->c->d->Prop}{e:Sort _}{F:a->b->c->d->e->Prop}(u:a)(H0:p u)(v:b)(H1:q u v)(w:c)(x:d)(H2:r u v w x)(H3:i u v w x)(y:e)(k:F u v w x y):∃u,p u/\∃v,q u v/\∃w,∃x,r u v w x/\i u v w x/\∃y,F u v w x y:=⟨u,H0,v,H1,w,x,H2,H3,y,k⟩
theorem xap{a:Sort _}{p:a->Prop}{b:Sort _}{q:a->b->Prop}{c:Sort _}{d:Sort _}{e:Sort _}{F:a->b->c->d->e->Prop}(u:a)(H0:p u)(v:b)(H1:q u v)(w:c)(x:d)(y:e)(k:F u v w x y):∃u,p u/\∃v,q u v/\∃w,∃x,∃y,F u v w x y:=⟨u,H0,v,H1,w,x,y,k⟩
theorem xcg{a:Sort _}{p:a->Prop}{b:Sort _}{q:a->b->Prop}{c:Sort _}{d:Sort _}{e:Sort _}{r:a->b->c->d->e->Prop}{i:a->b->c->d->e->Prop}{j:a->b->c->d->e->Prop}{F:a->b->c->d->e->Prop}(u:a)(H0:p u)(v:b)(H1:q u v)(w:c)(x:d)(y:e)(H2:r u v w x y)(H3:i u v w x y)(H4:j u v w x y)(k:F u v w x y):∃u,p u/\∃v,q u v/\∃w,∃x,∃y,r u v w x y/\i u v w x y/\j u v w x y/\F u v w x y:=⟨u,H0,v,H1,w,x,y,H2,H3,H4,k⟩
theorem xa8{a:Sort _}{p:a->Prop}{b:Sort _}{c:Sort _}{q:a->b->c->Prop}{r:a->b->c->Prop}{F:a->b->c->Prop}(u:a)(H0:p u)(v:b)(w:c)(H1:q u v w)(H2:r u v w)(k:F u v w):∃u,p u/\∃v,∃w,q u v w/\r u v w/\F u v w:=⟨u,H0,v,w,H1,H2,k⟩
theorem xbg{a:Sort _}{p:a->Prop}{b:Sort _}{c:Sort _}{q:a->b->c->Prop}{r:a->b->c->Prop}{d:Sort _}{i:a->b->c->d->Prop}{F:a->b->c->d->Prop}(u:a)(H0:p u)(v:b)(w:c)(H1:q u v w)(H2:r u v w)(x:d)(H3:i u v w x)(k:F u v w x):∃u,p u/\∃v,∃w,q u v w/\r u v w/\∃x,i u v w x/\F u v w x:=⟨u,H0,v,w,H1,H2,x,H3,k⟩
theorem xbv{a:Sort _}{p:a->Prop}{b:Sort _}{c:Sort _}{q:a->b->c->Prop}{r:a->b->c->Prop}{d:Sort _}{e:Sort _}{i:a->b->c->d->e->Prop}{j:a->b->c->d->e->Prop}{F:a->b->c->d->e->Prop}(u:a)(H0:p u)(v:b)(w:c)(H1:q u v w)(H2:r u v w)(x:d)(y:e)(H3:i u v w x y)(H4:j u v w x y)(k:F u v w x y):∃u,p u/\∃v,∃w,q u v w/\r u v w/\∃x,∃y,i u v w x y/\j u v w x y/\F u v w x y:=⟨u,H0,v,w,H1,H2,x,y,H3,H4,k⟩
theorem xbl{a:Sort _}{p:a->Prop}{b:Sort _}{c:Sort _}{d:Sort _}{q:a->b->c->d->Prop}{r:a->b->c->d->Prop}{i:a->b->c->d->Prop}{e:Sort _}{j:a->b->c->d->e->Prop}{F:a->b->c->d->e->Prop}(u:a)(H0:p u)(v:b)(w:c)(x:d)(H1:q u v w x)(H2:r u v w x)(H3:i u v w x)(y:e)(H4:j u v w x y)(k:F u v w x y):∃u,p u/\∃v,∃w,∃x,q u v w x/\r u v w x/\i u v w x/\∃y,j u v w x y/\F u v w x y:=⟨u,H0,v,w,x,H1,H2,H3,y,H4,k⟩
theorem xa4{a:Sort _}{p:a->Prop}{b:Sort _}{c:Sort _}{d:Sort _}{e:Sort _}{F:a->b->c->d->e->Prop}(u:a)(H0:p u)(v:b)(w:c)(x:d)(y:e)(k:F u v w x y):∃u,p u/\∃v,∃w,∃x,∃y,F u v w x y:=⟨u,H0,v,w,x,y,k⟩
theorem xaa{a:Sort _}{p:a->Prop}{b:Sort _}{c:Sort _}{d:Sort _}{e:Sort _}{q:a->b->c->d->e->Prop}{r:a->b->c->d->e->Prop}{i:a->b->c->d->e->Prop}{j:a->b->c->d->e->Prop}{F:a->b->c->d->e->Prop}(u:a)(H0:p u)(v:b)(w:c)(x:d)(y:e)(H1:q u v w x y)(H2:r u v w x y)(H3:i u v w x y)(H4:j u v w x y)(k:F u v w x y):∃u,p u/\∃v,∃w,∃x,∃y,q u v w x y/\r u v w x y/\i u v w x y/\j u v w x y/\F u v w x y:=⟨u,H0,v,w,x,y,H1,H2,H3,H4,k⟩
theorem jEE{a:Sort _}{b:Sort _}{F:a->b->Prop}(u:a)(v:b)(k:F u v):∃u,∃v,F u v:=⟨u,v,k⟩
theorem jEEA{a:Sort _}{b:Sort _}{p:a->b->Prop}{F:a->b->Prop}(u:a)(v:b)(H0:p u v)(k:F u v):∃u,∃v,p u v/\F u v:=⟨u,v,H0,k⟩
theorem xaq{a:Sort _}{b:Sort _}{p:a->b->Prop}{q:a->b->Prop}{F:a->b->Prop}(u:a)(v:b)(H0:p u v)(H1:q u v)(k:F u v):∃u,∃v,p u v/\q u v/\F u v:=⟨u,v,H0,H1,k⟩
theorem xb5{a:Sort _}{b:Sort _}{p:a->b->Prop}{q:a->b->Prop}{r:a->b->Prop}{F:a->b->Prop}(u:a)(v:b)(H0:p u v)(H1:q u v)(H2:r u v)(k:F u v):∃u,∃v,p u v/\q u v/\r u v/\F u v:=⟨u,v,H0,H1,H2,k⟩
theorem xct{a:Sort _}{b:Sort _}{p:a->b->Prop}{q:a->b->Prop}{r:a->b->Prop}{i:a->b->Prop}{F:a->b->Prop}(u:a)(v:b)(H0:p u v)(H1:q u v)(H2:r u v)(H3:i u v)(k:F u v):∃u,∃v,p u v/\q u v/\r u v/\i u v/\F u v:=⟨u,v,H0,H1,H2,H3,k⟩
theorem xba{a:Sort _}{b:Sort _}{p:a->b->Prop}{q:a->b->Prop}{r:a->b->Prop}{i:a->b->Prop}{j:a->b->Prop}{F:a->b->Prop}(u:a)(v:b)(H0:p u v)(H1:q u v)(H2:r u v)(H3:i u v)(H4:j u v)(k:F u v):∃u,∃v,p u v/\q u v/\r u v/\i u v/\j u v/\F u v:=⟨u,v,H0,H1,H2,H3,H4,k⟩
theorem xaw{a:Sort _}{b:Sort _}{p:a->b->Prop}{q:a->b->Prop}{r:a->b->Prop}{c:Sort _}{d:Sort _}{i:a->b->c->d->Prop}{e:Sort _}{F:a->b->c->d->e->Prop}(u:a)(v:b)(H0:p u v)(H1:q u v)(H2:r u v)(w:c)(x:d)(H3:i u v w x)(y:e)(k:F u v w x y):∃u,∃v,p u v/\q u v/\r u v/\∃w,∃x,i u v w x/\∃y,F u v w x y:=⟨u,v,H0,H1,H2,w,x,H3,y,k⟩
theorem xas{a:Sort _}{b:Sort _}{p:a->b->Prop}{q:a->b->Prop}{c:Sort _}{d:Sort _}{r:a->b->c->d->Prop}{i:a->b->c->d->Prop}{e:Sort _}{F:a->b->c->d->e->Prop}(u:a)(v:b)(H0:p u v)(H1:q u v)(w:c)(x:d)(H2:r u v w x)(H3:i u v w x)(y:e)(k:F u v w x y):∃u,∃v,p u v/\q u v/\∃w,∃x,r u v w x/\i u v w x/\∃y,F u v w x y:=⟨u,v,H0,H1,w,x,H2,H3,y,k⟩
theorem jEEE{a:Sort _}{b:Sort _}{c:Sort _}{F:a->b->c->Prop}(u:a)(v:b)(w:c)(k:F u v w):∃u,∃v,∃w,F u v w:=⟨u,v,w,k⟩
theorem xco{a:Sort _}{b:Sort _}{c:Sort _}{p:a->b->c->Prop}{q:a->b->c->Prop}{F:a->b->c->Prop}(u:a)(v:b)(w:c)(H0:p u v w)(H1:q u v w)(k:F u v w):∃u,∃v,∃w,p u v w/\q u v w/\F u v w:=⟨u,v,w,H0,H1,k⟩
theorem xcf{a:Sort _}{b:Sort _}{c:Sort _}{p:a->b->c->Prop}{q:a->b->c->Prop}{r:a->b->c->Prop}{F:a->b->c->Prop}(u:a)(v:b)(w:c)(H0:p u v w)(H1:q u v w)(H2:r u v w)(k:F u v w):∃u,∃v,∃w,p u v w/\q u v w/\r u v w/\F u v w:=⟨u,v,w,H0,H1,H2,k⟩
theorem xaj{a:Sort _}{b:Sort _}{c:Sort _}{p:a->b->c->Prop}{q:a->b->c->Prop}{r:a->b->c->Prop}{i:a->b->c->Prop}{F:a->b->c->Prop}(u:a)(v:b)(w:c)(H0:p u v w)(H1:q u v w)(H2:r u v w)(H3:i u v w)(k:F u v w):∃u,∃v,∃w,p u v w/\q u v w/\r u v w/\i u v w/\F u v w:=⟨u,v,w,H0,H1,H2,H3,k⟩
theorem xda{a:Sort _}{b:Sort _}{c:Sort _}{d:Sort _}{p:a->b->c->d->Prop}{q:a->b->c->d->Prop}{F:a->b->c->d->Prop}(u:a)(v:b)(w:c)(x:d)(H0:p u v w x)(H1:q u v w x)(k:F u v w x):∃u,∃v,∃w,∃x,p u v w x/\q u v w x/\F u v w x:=⟨u,v,w,x,H0,H1,k⟩
theorem xak{a:Sort _}{b:Sort _}{c:Sort _}{d:Sort _}{p:a->b->c->d->Prop}{q:a->b->c->d->Prop}{r:a->b->c->d->Prop}{i:a->b->c->d->Prop}{F:a->b->c->d->Prop}(u:a)(v:b)(w:c)(x:d)(H0:p u v w x)(H1:q u v w x)(H2:r u v w x)(H3:i u v w x)(k:F u v w x):∃u,∃v,∃w,∃x,p u v w x/\q u v w x/\r u v w x/\i u v w x/\F u v w x:=⟨u,v,w,x,H0,H1,H2,H3,k⟩
theorem xay{a:Sort _}{b:Sort _}{c:Sort _}{d:Sort _}{p:a->b->c->d->Prop}{q:a->b->c->d->Prop}{r:a->b->c->d->Prop}{i:a->b->c->d->Prop}{j:a->b->c->d->Prop}{F:a->b->c->d->Prop}(u:a)(v:b)(w:c)(x:d)(H0:p u v w x)(H1:q u v w x)(H2:r u v w x)(H3:i u v w x)(H4:j u v w x)(k:F u v w x):∃u,∃v,∃w,∃x,p u v w x/\q u v w x/\r u v w x/\i u v w x/\j u v w x/\F u v w x:=⟨u,v,w,x,H0,H1,H2,H3,H4,k⟩
theorem xce{a:Sort _}{b:Sort _}{c:Sort _}{d:Sort _}{p:a->b->c->d->Prop}{q:a->b->c->d->Prop}{r:a->b->c->d->Prop}{i:a->b->c->d->Prop}{j:a->b->c->d->Prop}{g:a->b->c->d->Prop}{F:a->b->c->d->Prop}(u:a)(v:b)(w:c)(x:d)(H0:p u v w x)(H1:q u v w x)(H2:r u v w x)(H3:i u v w x)(H4:j u v w x)(H5:g u v w x)(k:F u v w x):∃u,∃v,∃w,∃x,p u v w x/\q u v w x/\r u v w x/\i u v w x/\j u v w x/\g u v w x/\F u v w x:=⟨u,v,w,x,H0,H1,H2,H3,H4,H5,k⟩
theorem xbk{a:Sort _}{b:Sort _}{c:Sort _}{d:Sort _}{p:a->b->c->d->Prop}{q:a->b->c->d->Prop}{r:a->b->c->d->Prop}{i:a->b->c->d->Prop}{e:Sort _}{F:a->b->c->d->e->Prop}(u:a)(v:b)(w:c)(x:d)(H0:p u v w x)(H1:q u v w x)(H2:r u v w x)(H3:i u v w x)(y:e)(k:F u v w x y):∃u,∃v,∃w,∃x,p u v w x/\q u v w x/\r u v w x/\i u v w x/\∃y,F u v w x y:=⟨u,v,w,x,H0,H1,H2,H3,y,k⟩
theorem xam{a:Sort _}{b:Sort _}{c:Sort _}{d:Sort _}{e:Sort _}{F:a->b->c->d->e->Prop}(u:a)(v:b)(w:c)(x:d)(y:e)(k:F u v w x y):∃u,∃v,∃w,∃x,∃y,F u v w x y:=⟨u,v,w,x,y,k⟩
theorem xaf{a:Sort _}{b:Sort _}{c:Sort _}{d:Sort _}{e:Sort _}{p:a->b->c->d->e->Prop}{q:a->b->c->d->e->Prop}{r:a->b->c->d->e->Prop}{i:a->b->c->d->e->Prop}{j:a->b->c->d->e->Prop}{F:a->b->c->d->e->Prop}(u:a)(v:b)(w:c)(x:d)(y:e)(H0:p u v w x y)(H1:q u v w x y)(H2:r u v w x y)(H3:i u v w x y)(H4:j u v w x y)(k:F u v w x y):∃u,∃v,∃w,∃x,∃y,p u v w x y/\q u v w x y/\r u v w x y/\i u v w x y/\j u v w x y/\F u v w x y:=⟨u,v,w,x,y,H0,H1,H2,H3,H4,k⟩
end
section
namespace L2
open PySem PySem.Spec PyProof.Rows
abbrev Key:=Sum Int Str
def xns:Key->Value->Bool
 |.inl k,v=>Value.isInt k v
 |.inr x,v=>Value.isStrOf x v
def keyH(w:World):Key->Int
 |.inl k=>hashInt k
 |.inr x=>hashStr w x
theorem xcd:∀{k:Key} {v:Value},xns k v=true->(∃i t,k=Sum.inl i/\v=Value.int i t)\/(∃x t,k=Sum.inr x/\v=Value.str x t)
 |.inl i,v,h=>by
  obtain⟨t,e⟩:=Value.isInt_shape (k:=i) (v:=v) h;exact .inl ⟨i,t,rfl,e⟩
 |.inr x,v,h=>by
  obtain⟨t,e⟩:=Value.isStrOf_shape (x:=x) (v:=v) h;exact .inr ⟨x,t,rfl,e⟩
theorem xps(i:Int)(t:Tok):xns (.inl i) (.int i t)=true:=by simp[xns,Value.isInt]
theorem xpr(x:Str)(t:Tok):xns (.inr x) (.str x t)=true:=by simp[xns,Value.isStrOf]
theorem xv7(a b:Int):decide ((Sum.inl a:Key)=Sum.inl b)=(a == b):=by
 by_cases e:a=b
 ·subst e;simp
 ·have h:¬(Sum.inl a:Key)=Sum.inl b:=λq=>e (Sum.inl.inj q)
  rw[zDF h];exact(beq_eq_false_iff_ne.mpr e).symm
theorem xv4(a b:Str):decide ((Sum.inr a:Key)=Sum.inr b)=decide (a=b):=by
 by_cases e:a=b
 ·subst e;simp
 ·have h:¬(Sum.inr a:Key)=Sum.inr b:=λq=>e (Sum.inr.inj q)
  rw[zDF h,zDF e]
theorem xv6(a:Int)(b:Str):decide ((Sum.inl a:Key)=Sum.inr b)=false:=zDF (λq=>nomatch q)
theorem xv5(a:Str)(b:Int):decide ((Sum.inr a:Key)=Sum.inl b)=false:=zDF (λq=>nomatch q)
def xbu(prog:Program)(w:World):PySem.KeyKind prog w Key where
 is:=xns
 hash:=keyH w
 inj:=λv a b ha hb=>by
  rcases xcd ha with⟨i,t,rfl,rfl⟩ |⟨x,t,rfl,rfl⟩
  ·rcases xcd hb with⟨j,u,rfl,e⟩ |⟨y,u,rfl,e⟩
   ·injection e with e1 _;rw[e1]
   ·exact nomatch e
  ·rcases xcd hb with⟨j,u,rfl,e⟩ |⟨y,u,rfl,e⟩
   ·exact nomatch e
   ·injection e with e1 _;rw[e1]
 byValue:=λk v h=>by
  rcases xcd h with⟨i,t,rfl,rfl⟩ |⟨x,t,rfl,rfl⟩ <;> rfl
 pyHash:=λhv h=>by
  rcases xcd hv with⟨i,t,rfl,rfl⟩ |⟨x,t,rfl,rfl⟩
  ·exact wpAny_pyHash_int h
  ·exact wpAny_pyHash_str h
 eqBool:=λhu hv h=>by
  rcases xcd hu with⟨i,t,rfl,rfl⟩ |⟨x,t,rfl,rfl⟩
  ·rcases xcd hv with⟨j,u,rfl,rfl⟩ |⟨y,u,rfl,rfl⟩
   ·rw[xv7]at h;exact wpAny_eqBool_int h
   ·rw[xv6]at h;exact SeqAt.EqAt.int_str i t y u _ _ _ _ h
  ·rcases xcd hv with⟨j,u,rfl,rfl⟩ |⟨y,u,rfl,rfl⟩
   ·rw[xv5]at h;exact SeqAt.EqAt.str_int x t j u _ _ _ _ h
   ·rw[xv4]at h;exact wpAny_eqBool_str h
 «strs»:=λk x t v h=>by
  rcases xcd h with⟨i,u,rfl,e⟩ |⟨y,u,rfl,e⟩
  ·exact nomatch e
  ·injection e with e1 _
   subst e1;cases v <;> rfl
theorem xlk(prog:Program)(w:World)(i:Int)(t:Tok):(xbu prog w).is (.inl i) (.int i t)=true:=xps i t
theorem xlj(prog:Program)(w:World)(x:Str)(t:Tok):(xbu prog w).is (.inr x) (.str x t)=true:=xpr x t
inductive V where
 |non |bl (b:Bool) |int (i:Int) |str (x:Str) |byt (b:Array UInt8) |flt (b:UInt64) |ref (a:Addr) |ty (n:String)
 deriving DecidableEq
def RelV:V->Value->Prop
 |.non,u=>u=Value.none
 |.bl b,u=>u=Value.bool b
 |.int i,u=>∃t,u=Value.int i t
 |.str x,u=>∃t,u=Value.str x t
 |.byt b,u=>∃t,u=Value.bytes b t
 |.flt b,u=>∃t,u=Value.float b t
 |.ref a,u=>u=Value.ref a
 |.ty n,u=>u=Value.type n
abbrev Vals:List V->List Value->Prop:=Paired RelV
theorem Vals.length{xs:List V}{us:List Value}(r:Vals xs us):xs.length=us.length:=Paired.length r
theorem Vals.get:∀{xs:List V} {us:List Value} {i:Nat} {x:V},Vals xs us->xs[i]?=some x->∃u,us[i]?=some u/\RelV x u
 |_,_,_,_,.nil,e=>by simp at e
 |_,_,0,_,.cons r _,e=>by simp at e;subst e;exact⟨_,rfl,r⟩
 |_,_,i+1,x,.cons _ t,e=>by
  obtain⟨u,h1,h2⟩:=Vals.get (i:=i) (x:=x) t (by simpa using e);exact⟨u,by simpa using h1,h2⟩
theorem Vals.set{x:V}{u:Value}(r:RelV x u):∀{xs:List V} {us:List Value} (i:Nat),Vals xs us->Vals (xs.set i x) (us.set i u)
 |_,_,_,.nil=>.nil
 |_,_,0,.cons _ t=>.cons r t
 |_,_,i+1,.cons q t=>.cons q (Vals.set r i t)
theorem Vals.append:∀{xs ys:List V} {us ws:List Value},Vals xs us->Vals ys ws->Vals (xs++ys) (us++ws)
 |_,_,_,_,.nil,s=>s
 |_,_,_,_,.cons r t,s=>.cons r (Vals.append t s)
theorem Vals.take:∀{xs:List V} {us:List Value} (n:Nat),Vals xs us->Vals (xs.take n) (us.take n)
 |_,_,0,_=>.nil
 |_,_,_+1,.nil=>.nil
 |_,_,n+1,.cons r t=>.cons r (Vals.take n t)
theorem Vals.drop:∀{xs:List V} {us:List Value} (n:Nat),Vals xs us->Vals (xs.drop n) (us.drop n)
 |_,_,0,r=>r
 |_,_,_+1,.nil=>.nil
 |_,_,n+1,.cons _ t=>Vals.drop n t
def RelO:Option V->Option Value->Prop
 |some v,some u=>RelV v u
 |none,none=>True
 |_,_=>False
def KV{κ:Type}:List (κ×V)->List (κ×Value)->Prop:=Paired λ(p:κ×V) (q:κ×Value)=>p.1=q.1/\RelV p.2 q.2
def kV:Key->V
 |.inl i=>.int i
 |.inr x=>.str x
inductive HO where
 |lst (xs:List V)
 |tup (xs:List V)
 |dK (kvs:List (Key×V)) |dT (kvs:List (List Key×V))
 |set (S:Int->Bool) (n:Nat)
 |ins (C dx:Addr) (fs:List (Str×V))
 |own (x:Addr)
 |xd (fs:List (Str×V))
 |met (f x:Addr)
 |rng (lo hi:Int)
 |frz (o:Obj) (u:HO)
 |tbl (ps:Array Value)
 |ext (φ:Heap->Prop)
abbrev Hp:=Addr->Option HO
def upd(H:Hp)(a:Addr)(o:HO):Hp:=λb=>if b=a then some o else H b
theorem ups{H:Hp}{a:Addr}{o:HO}:upd H a o a=some o:=by unfold upd;rw[if_pos rfl]
theorem xai{H:Hp}{a b:Addr}{o:HO}(h:b≠a):upd H a o b=H b:=by unfold upd;rw[if_neg h]
theorem xkq{H:Hp}{a:Addr}{o u:HO}:upd (upd H a o) a u=upd H a u:=by
 funext b;unfold upd;split <;> rfl
theorem xxe{H:Hp}{a b:Addr}{o u:HO}(h:H a=some o)(h':H b=some u)(d:o≠u):a≠b:=by
 intro e;subst e;rw[h]at h';exact d (qC h')
theorem neN{H:Hp}{a b:Addr}{o:HO}(h:H a=some o)(h':H b=none):a≠b:=by
 intro e;subst e;rw[h]at h';cases h'
section
variable (P:Program)(w:World)
def ObjOk(H:Hp)(h:Heap)(a:Addr):HO->Prop
 |.lst xs=>xs.length<=sizeLine/\∃(its:List Value) (n:Nat),Vals xs its/\h.get? a=some {cls:=.type "list",data:=.seq its.toArray n}
 |.tup xs=>xs.length<=sizeLine/\∃its:List Value,Vals xs its/\∃o,h.get? a=some o/\o.cls=.type "tuple"/\∃n,o.data=.seq its.toArray n/\o.dict=none
 |.dK kvs=>kvs.length<=sizeLine/\(a == sysModules)=false/\∃vs,KV kvs vs/\h.DictOf (xbu P w) a vs
 | .dT kvs=>kvs.length<=sizeLine/\(a == sysModules)=false/\∃xs:List (List Key×Addr×Value),
   Paired (λ(p:List Key×V) (q:List Key×Addr×Value)=>p.1=q.1/\H q.2.1=some (.tup (p.1.map kV))/\RelV p.2 q.2.2) kvs xs ∧
   ∃o es ep,h.get? a=some o/\o.ExactDict/\o.data=.dict es ep/\es.toList=xs.map (entryOfKey (tupleKind (xbu P w)))/\(xs.map (·.1)).Nodup
 |.set S n=>h.SetOf (intKind P w) a S n
 | .ins C dx fs=>H dx=some (.own a)/\fs.length<=1000/\dx≠a/\h.get? a=some (PySem.W.instObj C dx) ∧
   ∃mA,h.Ns1 dx mA/\(∀f,RelO (fs.lookup f) (mA f))/\PySem.Within mA (fs.map (·.1))
 |.own _=>∃o,h.get? a=some o
 |.xd fs=>∃mA,h.Ns1 a mA/\∀f,RelO (fs.lookup f) (mA f)
 |.rng lo hi=>∃t u v,h.get? a=some {cls:=.type "range",data:=.fields #[.int lo t,.int hi u,.int 1 v]}
 |.frz o u=>h.get? a=some o/\ObjOk H h a u
 |.tbl ps=>h.get? a=some {cls:=.none,data:=.fields ps}
 |.met f x=>h.get? a=some (PySem.W.methodObj (.ref f) (.ref x))
 |.ext φ=>φ h/\(∃o,h.get? a=some o)/\∀h1 h2:Heap,φ h1->(∀o,h1.get? a=some o->h2.get? a=some o)->φ h2
def HOk(H:Hp)(h:Heap):Prop:=∀a o,H a=some o->ObjOk P w H h a o
end
section
variable {P:Program}{w:World}{H H':Hp}{h h':Heap}{a:Addr}{o:HO}
theorem ObjOk.lt(x:ObjOk P w H h a o):a<h.objs.size:=by
 cases o with
 |lst xs=>obtain⟨_,_,_,_,e⟩:=x;exact z6 e
 |tup xs=>obtain⟨_,_,_,_,e,_⟩:=x;exact z6 e
 |dK kvs=>obtain⟨_,_,_,_,o,_,_,e,_⟩:=x;exact z6 e
 |dT kvs=>obtain⟨_,_,_,_,o,_,_,e,_⟩:=x;exact z6 e
 |set S n=>obtain⟨o,_,_,_,e,_⟩:=x;exact z6 e
 |ins C dx fs=>obtain⟨_,_,_,e,_⟩:=x;exact z6 e
 |own y=>obtain⟨_,e⟩:=x;exact z6 e
 |xd fs=>obtain⟨_,⟨_,_,_,e,_⟩,_⟩:=x;exact z6 e
 |rng lo hi=>obtain⟨_,_,_,e⟩:=x;exact z6 e
 |frz b u=>obtain⟨e,_⟩:=x;exact z6 e
 |tbl ps=>exact z6 (show h.get? a=some _ from x)
 |met f y=>exact z6 (show h.get? a=some _ from x)
 |ext φ=>obtain⟨_,⟨_,e⟩,_⟩:=x;exact z6 e
theorem Paired.mapP{α β:Type}{F G:α->β->Prop}:∀{e:List α} {c:List β},Paired F e c->(∀a b,F a b->G a b)->Paired G e c
 |_,_,.nil,_=>.nil
 |_,_,.cons r t,f=>.cons (f _ _ r) (Paired.mapP t f)
theorem ObjOk.stay (x:ObjOk P w H h a o) (k:∀b u,(b=a\/H b=some (.own a))->h.get? b=some u->h'.get? b=some u)
  (ho:∀b,H b=some (.own a)->H' b=some (.own a)) (ht:∀b xs,H b=some (.tup xs)->H' b=some (.tup xs)):ObjOk P w H' h' a o:=by
 induction o with
 |lst xs=>obtain⟨z,its,n,r,e⟩:=x;exact⟨z,its,n,r,k _ _ (.inl rfl) e⟩
 |tup xs=>obtain⟨z,its,r,ob,e,c⟩:=x;exact⟨z,its,r,ob,k _ _ (.inl rfl) e,c⟩
 |dK kvs=>obtain⟨z,y,vs,r,ob,es,ep,e,c⟩:=x;exact⟨z,y,vs,r,ob,es,ep,k _ _ (.inl rfl) e,c⟩
 |dT kvs=>
  obtain⟨z,y,xs,r,ob,es,ep,e,c⟩:=x;exact⟨z,y,xs,Paired.mapP r λp q z=>⟨z.1,ht _ _ z.2.1,z.2.2⟩,ob,es,ep,k _ _ (.inl rfl) e,c⟩
 |set S n=>obtain⟨ob,es,ep,t,e,c⟩:=x;exact⟨ob,es,ep,t,k _ _ (.inl rfl) e,c⟩
 |ins C dx fs=>
  obtain⟨d,z,ne,e,mA,⟨od,es,ep,e2,c⟩,r⟩:=x;exact⟨ho _ d,z,ne,k _ _ (.inl rfl) e,mA,⟨od,es,ep,k _ _ (.inr d) e2,c⟩,r⟩
 |own y=>obtain⟨ob,e⟩:=x;exact⟨ob,k _ _ (.inl rfl) e⟩
 |xd fs=>obtain⟨mA,⟨od,es,ep,e,c⟩,r⟩:=x;exact⟨mA,⟨od,es,ep,k _ _ (.inl rfl) e,c⟩,r⟩
 |rng lo hi=>obtain⟨t,u,v,e⟩:=x;exact⟨t,u,v,k _ _ (.inl rfl) e⟩
 |frz ob u ih=>obtain⟨e,q⟩:=x;exact⟨k _ _ (.inl rfl) e,ih q⟩
 |tbl ps=>
  have e:h.get? a=some {cls:=.none,data:=.fields ps}:=x;show h'.get? a=some {cls:=.none,data:=.fields ps};exact k a _ (.inl rfl) e
 |met f y=>
  have e:h.get? a=some (PySem.W.methodObj (.ref f) (.ref y)):=x;show h'.get? a=some (PySem.W.methodObj (.ref f) (.ref y));exact k a _ (.inl rfl) e
 |ext φ=>obtain⟨p,⟨o,e⟩,st⟩:=x;exact⟨st _ _ p λo q=>k _ _ (.inl rfl) q,⟨o,k _ _ (.inl rfl) e⟩,st⟩
theorem HOk.lt(x:HOk P w H h)(e:H a=some o):a<h.objs.size:=(x a o e).lt
theorem HOk.fresh(x:HOk P w H h)(e:h.objs.size<=a):H a=none:=by
 cases q:H a with
 |none=>rfl
 |some u=>exact absurd (qE (x.lt q) e) (qH _)
theorem HOk.kept(x:HOk P w H h)(k:∀b u,h.get? b=some u->h'.get? b=some u):HOk P w H h':=λa o e=>
 (x a o e).stay (λb u _ q=>k b u q) (λ_ q=>q) λ_ _ q=>q
theorem HOk.laid(x:HOk P w H h)(k:∀b u,h.get? b=some u->h'.get? b=some u)(hp:h.objs.size<=a)(new:ObjOk P w (upd H a o) h' a o):HOk P w (upd H a o) h':=λb u e=>by
 have hn:=x.fresh hp;by_cases hb:b=a
 ·subst hb;rw[ups]at e;cases e;exact new
 ·rw[xai hb]at e
  exact(x b u e).stay (λc v _ q=>k c v q) (λc q=>by rw[xai (neN q hn)];exact q) λc xs q=>by rw[xai (neN q hn)];exact q
end
def Rd(H:Hp)(a:Addr)(u:HO):Prop:=H a=some u\/∃o,H a=some (.frz o u)
theorem Rd.ok{P:Program}{w:World}{H:Hp}{h:Heap}{a:Addr}{u:HO}(r:Rd H a u)(x:HOk P w H h):ObjOk P w H h a u:=by
 rcases r with r |⟨o,r⟩
 ·exact x a u r
 ·obtain⟨_,q⟩:=x a _ r
  exact q
def Mut:Option HO->Prop
 |some (.lst _)=>True
 |some (.dK _)=>True
 |some (.dT _)=>True
 |some (.set _ _)=>True
 |some (.ins _ _ _)=>True
 |some (.ext _)=>True
 |_=>False
section
variable {P:Program}{w:World}{H:Hp}{h h':Heap}{x e:Addr}{o':HO}
theorem HOk.write (ok:HOk P w H h) (mu:Mut (H x)) (he:e=x\/H e=some (.own x)) (k:∀b u,b≠e->h.get? b=some u->h'.get? b=some u) (heo:∃u,h'.get? e=some u)
  (new:ObjOk P w (upd H x o') h' x o'):HOk P w (upd H x o') h':=λb u q=>by
 have nown:∀c y,H c=some (.own y)->c≠x:=λc y r z=>by subst z;rw[r]at mu;exact mu
 have ntup:∀c xs,H c=some (.tup xs)->c≠x:=λc xs r z=>by subst z;rw[r]at mu;exact mu
 by_cases hb:b=x
 ·subst hb;rw[ups]at q;cases q;exact new
 ·rw[xai hb]at q
  by_cases hbe:b=e
  ·have q':H b=some (.own x):=by
    rcases he with z |z
    ·exact absurd (hbe.trans z) hb
    ·rw[hbe];exact z
   rw[q]at q';cases q';obtain⟨v,hv⟩:=heo;exact⟨v,by rw[hbe];exact hv⟩
  ·refine(ok b u q).stay (λc v hc r=>k c v ?_ r) (λc r=>by rw[xai (nown c b r)];exact r) λc xs r=>by rw[xai (ntup c xs r)];exact r
   rcases hc with rfl |hc
   ·exact hbe
   ·rintro rfl
    rcases he with z |z
    ·exact nown c b hc z
    ·rw[hc]at z;cases z;exact hb rfl
end
structure Un(fs ex:List Addr)(H H':Hp)(h h':Heap):Prop where
 keep:∀b o,h.get? b=some o->H b=none->b ∉fs->b ∉ex->h'.get? b=some o
 slot:∀b o,h.get? b=some o->H b=none->b∈fs->b ∉ex->∃sl,h'.get? b=some {o with slots:=sl}
 free:∀b o,h.get? b=some o->H b=none->b ∉ex->H' b=none
 there:∀b o,h.get? b=some o->b ∉ex->∃o',h'.get? b=some o'
 tups:∀b xs,H b=some (.tup xs)->H' b=some (.tup xs)
 frzs:∀b o u,H b=some (.frz o u)->H' b=some (.frz o u)
 tbls:∀b ps,H b=some (.tbl ps)->∃more,H' b=some (.tbl (ps++more))
section
variable {fs fs' ex ex':List Addr}{H H1 H2:Hp}{h h1 h2 h':Heap}{a x e:Addr}{o:HO}
theorem Un.any(u:Un fs ex H H1 h h1){b:Addr}{a:Obj}(q:h.get? b=some a)(n:H b=none)(c:b ∉ex):∃sl,h1.get? b=some {a with slots:=sl}:=by
 by_cases e:b∈fs
 ·exact u.slot b a q n e c
 ·exact⟨a.slots,u.keep b a q n e c⟩
theorem Un.kept(k:∀b u,h.get? b=some u->h'.get? b=some u):Un fs ex H H h h':=
 ⟨λb a q _ _ _=>k b a q,λb a q _ _ _=>⟨a.slots,k b a q⟩,λ_ _ _ n _=>n,λb a q _=>⟨a,k b a q⟩,λ_ _ q=>q,λ_ _ _ q=>q,λ_ ps q=>⟨#[],by rw[q];simp⟩⟩
theorem Un.refl:Un fs ex H H h h:=Un.kept λ_ _ q=>q
theorem Un.laid(k:∀b u,h.get? b=some u->h'.get? b=some u)(c:h.objs.size<=a)(hn:H a=none):Un fs ex H (upd H a o) h h' where
 keep:=λb u q _ _ _=>k b u q
 slot:=λb u q _ _ _=>⟨u.slots,k b u q⟩
 free:=λb u q n _=>by rw[xai (qD (qE (z6 q) c))];exact n
 there:=λb u q _=>⟨u,k b u q⟩
 tups:=λb xs q=>by rw[xai (neN q hn)];exact q
 frzs:=λb u xs q=>by rw[xai (neN q hn)];exact q
 tbls:=λb ps q=>⟨#[],by rw[xai (neN q hn),q];simp⟩
theorem Un.write(c:Mut (H x))(l:e=x\/H e=some (.own x))(k:∀b u,b≠e->h.get? b=some u->h'.get? b=some u)(g:∃u,h'.get? e=some u):Un fs ex H (upd H x o) h h':=by
 have i:∀b,H b=none->b≠x:=λb n z=>by subst z;rw[n]at c;exact c
 have j:∀b,H b=none->b≠e:=λb n z=>by
  subst z;rcases l with r |r
  ·exact i b n r
  ·rw[n]at r;cases r
 have f:∀b u,H b=some u->¬Mut (some u)->b≠x:=λb u q nm z=>by subst z;rw[q]at c;exact nm c
 refine⟨λb u q n _ _=>k b u (j b n) q,λb u q n _ _=>⟨u.slots,k b u (j b n) q⟩,λb u q n _=>by rw[xai (i b n)];exact n,λb u q _=>?_,
  λb xs q=>by rw[xai (f b _ q λz=>z)];exact q,λb u xs q=>by rw[xai (f b _ q λz=>z)];exact q,λb ps q=>⟨#[],by rw[xai (f b _ q λz=>z),q];simp⟩⟩
 by_cases a:b=e
 ·subst a;exact g
 ·exact⟨u,k b u a q⟩
end
def trk(h:Heap)(H:Hp):List Addr:=(List.range h.objs.size).filter λa=>(H a).isSome
def hidT(h:Heap)(H:Hp):Heap:=PySem.W.hideAll h (trk h H)
theorem xpy(h:Heap)(H:Hp):(hidT h H).objs.size=h.objs.size:=PySem.W.hideAll_size _ _
theorem xrw{h:Heap}{H:Hp}{b:Addr}{o:Obj}(e:h.get? b=some o)(n:H b=none):(hidT h H).get? b=some o:=
 PySem.W.hideAll_get _ e λa=>by
  have q:(H b).isSome=true:=(List.mem_filter.mp a).2;rw[n]at q;simp at q
theorem xt1{h:Heap}{H:Hp}{b:Addr}{o:Obj}(e:(hidT h H).get? b=some o):h.get? b=some o/\H b=none:=by
 have a:h.get? b=some o:=PySem.W.of_hideAll (trk h H) e;refine⟨a,?_⟩
 cases q:H b with
 |none=>rfl
 |some x=>
  have c:b∈trk h H:=List.mem_filter.mpr ⟨List.mem_range.mpr (z6 a),by simp[q]⟩;have z:(hidT h H).get? b=none:=PySem.W.hideAll_none (trk h H) c;rw[z]at e;cases e
structure Mod(K:Fg)(mg:Str->Option Value)(base:Heap):Prop where
 kin:K.In base
 glob:base.Ns mainGlobals mg
 blt:∃mb,base.Ns builtinsNs mb/\∀x:Str,x≠"__name__"->mb x=bootBuiltins x
 nolimit:base.NoLimit
structure Cx where
 prog:Program
 w:World
 K:Fg
 mg:Str->Option Value
 base:Heap
 A:Around
 N:List Str
 s₀:Shared
 H₀:Hp
 env:Env
 outer:List Env
 stack:List Env
 ex:List Addr
 fn:Str->Bool
 calm:Bool
 pn:List (Addr×Obj)
 xe:Value->Shared->Prop
def frs(l:List Env):List Addr:=l.filterMap (·.frame)
abbrev Cx.fs(X:Cx):List Addr:=frs X.outer
def Vis(sc:Scope)(x:Str):Prop:=sc.names.lookup x=some .local\/sc.names.lookup x=some .cell\/sc.names.lookup x=some .free
def Loc(sc:Scope)(x:Str):Prop:=sc.names.lookup x=some .local\/sc.names.lookup x=some .cell
def Look(env:Env)(h:Heap)(m:Str->Option Value)(x:Str)(u:Value):Prop:=
 (env.kindOf x=some .local/\m x=some u)\/((env.kindOf x=some .cell\/env.kindOf x=some .free)/\∃c,env.cells.lookup x=some c/\h.IsCell c (some u))
structure Cx.Ok(X:Cx):Prop where
 mod:Mod X.K X.mg X.base
 kind:X.env.scope.kind=.function
 glob:X.env.globals=mainGlobals
 blt:X.env.builtins=builtinsNs
 above:X.s₀.heap.objs.size<=X.env.locals
 inj:∀x y c,X.env.cells.lookup x=some c->X.env.cells.lookup y=some c->x=y
 has:∀x,(X.env.kindOf x=some .cell\/X.env.kindOf x=some .free)->∃c,X.env.cells.lookup x=some c
 cab:∀x c,X.fn x=true->X.env.cells.lookup x=some c->X.s₀.heap.objs.size<=c
 hd:X.calm=true->X.A.handled=none
 frames:X.A.frames=some X.stack
 stk:X.stack=X.outer\/(X.stack=X.env::X.outer/\X.env.frame=some X.env.locals)
 exf:∀b∈X.ex,b≠X.env.locals/\∀x c,X.env.cells.lookup x=some c->c≠b
 bs:∀b o,X.base.get? b=some o->X.s₀.heap.get? b=some o/\X.H₀ b=none
 bsz:X.base.objs.size<=X.s₀.heap.objs.size
 noex:∀b o,X.base.get? b=some o->b ∉X.ex
 exfs:∀b∈X.ex,b ∉X.fs
 funs:X.s₀.heap.FunFrames X.base X.outer
 frf:∀b∈X.fs,X.H₀ b=none
structure Inv(X:Cx)(pins:List (Addr×Obj))(σ:List (Option V))(H:Hp)(s:Shared):Prop where
 ok:X.Ok
 os:s.os=X.s₀.os
 bare:AllBare s.gens
 base:Un X.fs X.ex X.H₀ H X.s₀.heap s.heap
 loc:∃m,s.heap.Ns X.env.locals m/\∀(i:Nat) (x:Str) (v:V),X.N[i]?=some x->σ[i]?=some (some v)->Vis X.env.scope x->∃u,RelV v u/\Look X.env s.heap m x u
 cell:∀x c,X.env.cells.lookup x=some c->∃v,s.heap.IsCell c v
 free:H X.env.locals=none
 freeC:∀x c,X.env.cells.lookup x=some c->H c=none
 pin:∀p∈X.pn++pins,s.heap.get? p.1=some p.2/\H p.1=none/\p.1≠X.env.locals/\p.1 ∉X.fs/\∀v,p.2.data≠.cell v
 hok:HOk X.prog X.w H s.heap
 len:σ.length=X.N.length
section
variable {X:Cx}{pins:List (Addr×Obj)}{σ:List (Option V)}{H H':Hp}{s:Shared}{h':Heap}
theorem Cx.Ok.nofr(ok:X.Ok){b:Addr}{o:Obj}(e:X.base.get? b=some o):b ∉X.fs:=λa=>by
 have:=(ok.funs.mem a).1;rw[e]at this;cases this
theorem Inv.bs(I:Inv X pins σ H s):∀b o,X.base.get? b=some o->s.heap.get? b=some o/\H b=none:=λb o e=>
 ⟨I.base.keep b o (I.ok.bs b o e).1 (I.ok.bs b o e).2 (I.ok.nofr e) (I.ok.noex b o e),I.base.free b o (I.ok.bs b o e).1 (I.ok.bs b o e).2 (I.ok.noex b o e)⟩
theorem Inv.bk(I:Inv X pins σ H s):∀b o,X.base.get? b=some o->s.heap.get? b=some o:=λb o e=>(I.bs b o e).1
theorem Inv.mod(I:Inv X pins σ H s):Mod X.K X.mg X.base:=I.ok.mod
theorem Inv.kIn(I:Inv X pins σ H s):X.K.In s.heap:=I.ok.mod.kin.keeps I.bk
theorem Inv.lt(I:Inv X pins σ H s):X.env.locals<s.heap.objs.size:=let ⟨_,hn,_⟩:=I.loc;hn.lt
theorem Inv.sz(I:Inv X pins σ H s):X.s₀.heap.objs.size<=s.heap.objs.size:=zY I.ok.above (Nat.le_of_lt I.lt)
theorem Inv.nofs(I:Inv X pins σ H s){a:Addr}(h:s.heap.objs.size<=a):a ∉X.fs:=λc=>by
 obtain⟨_,o,b,_⟩:=I.ok.funs.mem c;exact absurd (qE (z6 b) (zY I.sz h)) (qH _)
theorem Inv.cne(I:Inv X pins σ H s):∀x c,X.env.cells.lookup x=some c->c≠X.env.locals:=λx c e z=>by
 obtain⟨v,o,f,hd⟩:=I.cell x c e;obtain⟨m,⟨o',es,ep,a,b,_⟩,_⟩:=I.loc;rw[z,a]at f;cases f;rw[b]at hd;cases hd
theorem Inv.funs(I:Inv X pins σ H s):s.heap.FunFrames X.base X.outer:=by
 have all:∀(l:List Env),(∀b∈frs l,b∈X.fs)->X.s₀.heap.FunFrames X.base l->s.heap.FunFrames X.base l:=by
  intro l
  induction l with
  |nil=>intro _ _;trivial
  |cons env r g=>
   intro hs j;obtain⟨m,⟨L,o,a,hn,i,hd⟩,h⟩:=j;have f:L∈X.fs:=hs L (by unfold frs;rw[List.filterMap_cons,a];exact List.mem_cons_self);obtain⟨sl,e⟩:=I.base.slot L o i (I.ok.frf L f) f λz=>I.ok.exfs L z f;exact⟨m,⟨L,_,a,hn,e,hd⟩,g (λb c=>hs b (by unfold frs;rw[List.filterMap_cons,a];exact qF _ c)) h⟩
 exact all X.outer (λ_ c=>c) I.ok.funs
theorem Inv.stack(I:Inv X pins σ H s):s.heap.FunFrames X.base X.stack:=by
 rcases I.ok.stk with e |⟨e,hf⟩
 ·rw[e];exact I.funs
 ·rw[e]
  obtain⟨m,hn,_⟩:=I.loc;refine .cons (by rw[I.ok.kind];decide) hf hn ?_ I.funs;exact Heap.get?_none_of_le (zY I.ok.bsz I.ok.above)
theorem Inv.stkSub(I:Inv X pins σ H s):∀b∈frs X.stack,b∈X.env.locals::X.fs:=λb a=>by
 rcases I.ok.stk with e |⟨e,c⟩
 ·rw[e]at a;exact qF _ a
 ·rw[e]at a
  unfold frs at a;rw[List.filterMap_cons,c]at a;exact a
theorem Inv.stkFree(I:Inv X pins σ H s):∀b∈frs X.stack,H b=none:=λb a=>by
 rcases zMC (I.stkSub b a) with e |a
 ·rw[e];exact I.free
 ·obtain⟨_,o,c,_⟩:=I.ok.funs.mem a
  exact I.base.free b o c (I.ok.frf b a) λz=>I.ok.exfs b z a
theorem Inv.step {g':Array GenState} {t':Nat} {d':Drawn} {ch:List Addr} (I:Inv X pins σ H s)
  (hch:∀b∈ch,(b∈X.ex\/X.s₀.heap.objs.size<=b)/\b≠X.env.locals/\(∀x c,X.env.cells.lookup x=some c->c≠b)/\∀p∈X.pn++pins,p.1≠b)
  (keep:∀b o,b≠X.env.locals->b ∉X.fs->b ∉ch->s.heap.get? b=some o->H b=none->h'.get? b=some o)
  (slot:∀b o,b≠X.env.locals->b∈X.fs->b ∉ch->s.heap.get? b=some o->H b=none->∃sl,h'.get? b=some {o with slots:=sl}) (free:∀b o,b ∉ch->s.heap.get? b=some o->H b=none->H' b=none)
  (there:∀b o,b ∉ch->s.heap.get? b=some o->∃o',h'.get? b=some o')
  (tups:∀b xs,H b=some (.tup xs)->H' b=some (.tup xs)) (frzs:∀b o u,H b=some (.frz o u)->H' b=some (.frz o u)) (tbls:∀b ps,H b=some (.tbl ps)->∃more,H' b=some (.tbl (ps++more)))
  (ns:∀m,s.heap.Ns X.env.locals m->h'.Ns X.env.locals m) (hok:HOk X.prog X.w H' h') (hg:AllBare g') :
  Inv X pins σ H' {s with heap:=h',gens:=g',drawn:=d',toks:=t'}:=by
 have neL:∀b o,X.s₀.heap.get? b=some o->b≠X.env.locals:=λb o e=>qD (qE (z6 e) I.ok.above)
 have neC:∀b o,X.s₀.heap.get? b=some o->b ∉X.ex->b ∉ch:=λb o e hx hb=>by
  rcases(hch b hb).1 with z |z
  ·exact hx z
  ·exact absurd (qE (z6 e) z) (qH _)
 have cellK:∀x c,X.env.cells.lookup x=some c->∀v,s.heap.IsCell c v->h'.IsCell c v:=λx c e v ⟨o,ho,hd⟩=>by
  have nch:c ∉ch:=λz=>(hch c z).2.2.1 x c e rfl;by_cases hc:c∈X.fs
  ·obtain⟨sl,q⟩:=slot c o (I.cne x c e) hc nch ho (I.freeC x c e)
   exact⟨_,q,hd⟩
  ·exact⟨o,keep c o (I.cne x c e) hc nch ho (I.freeC x c e),hd⟩
 refine⟨I.ok,I.os,hg,⟨λb o e n hb hx=>?_,λb o e n hb hx=>?_,λb o e n hx=>?_,λb o e hx=>?_,λb xs e=>tups b xs (I.base.tups b xs e),λb o xs e=>frzs b o xs (I.base.frzs b o xs e),λb ps e=>?_⟩,?_,λx c e=>?_,?_,λx c e=>?_,λp hp=>?_,hok,I.len⟩
 ·exact keep b o (neL b o e) hb (neC b o e hx) (I.base.keep b o e n hb hx) (I.base.free b o e n hx)
 ·obtain⟨sl,e1⟩:=I.base.slot b o e n hb hx
  obtain⟨sl',e2⟩:=slot b _ (neL b o e) hb (neC b o e hx) e1 (I.base.free b o e n hx);exact⟨sl',e2⟩
 ·obtain⟨o',e1⟩:=I.base.there b o e hx
  exact free b o' (neC b o e hx) e1 (I.base.free b o e n hx)
 ·obtain⟨o',e1⟩:=I.base.there b o e hx
  exact there b o' (neC b o e hx) e1
 ·obtain⟨m1,e1⟩:=I.base.tbls b ps e
  obtain⟨m2,e2⟩:=tbls b _ e1;exact⟨m1++m2,by rw[e2,Array.append_assoc]⟩
 ·obtain⟨m,hn,hl⟩:=I.loc
  refine⟨m,ns m hn,λi x v e1 e2 e3=>?_⟩;obtain⟨u,r,l⟩:=hl i x v e1 e2 e3;refine⟨u,r,?_⟩;rcases l with l |⟨k,c,e,z⟩
  ·exact .inl l
  ·exact .inr ⟨k,c,e,cellK x c e _ z⟩
 ·obtain⟨v,z⟩:=I.cell x c e
  exact⟨v,cellK x c e v z⟩
 ·obtain⟨m,⟨o,_,_,ho,_⟩,_⟩:=I.loc
  exact free _ o (λz=>(hch _ z).2.1 rfl) ho I.free
 ·obtain⟨v,o,ho,hd⟩:=I.cell x c e
  exact free c o (λz=>(hch c z).2.2.1 x c e rfl) ho (I.freeC x c e)
 ·obtain⟨e,n,ne,nf,d⟩:=I.pin p hp
  have nch:p.1 ∉ch:=λz=>(hch p.1 z).2.2.2 p hp rfl;exact⟨keep p.1 p.2 ne nf nch e n,free p.1 p.2 nch e n,ne,nf,d⟩
theorem Inv.un{t':Nat}(I:Inv X pins σ H s)(u:Un X.fs [] H H' s.heap h')(hok:HOk X.prog X.w H' h'):Inv X pins σ H' {s with heap:=h',toks:=t'}:=by
 obtain⟨m,⟨o,es,ep,ho,r⟩,_⟩:=id I.loc;obtain⟨sl,hL⟩:=u.any ho I.free (by simp)
 exact I.step (g':=s.gens) (d':=s.drawn) (ch:=[]) (λ_ z=>nomatch z) (λb o _ hb _ e n=>u.keep b o e n hb (by simp)) (λb o _ hb _ e n=>u.slot b o e n hb (by simp)) (λb o _ e n=>u.free b o e n (by simp)) (λb o _ e=>u.there b o e (by simp)) u.tups u.frzs u.tbls (λm' hm=>by
  obtain⟨o',es',ep',ho',r'⟩:=hm;rw[ho]at ho';cases ho';exact⟨_,es',ep',hL,r'⟩) hok I.bare
theorem Inv.call {g':Array GenState} {t':Nat} {d':Drawn} {ch:List Addr} (I:Inv X pins σ H s) (u:Un (frs X.stack) ch H H' s.heap h') (hok:HOk X.prog X.w H' h') (hg:AllBare g')
  (hch:∀b∈ch,(b∈X.ex\/X.s₀.heap.objs.size<=b)/\b≠X.env.locals/\(∀x c,X.env.cells.lookup x=some c->c≠b)/\∀p∈X.pn++pins,p.1≠b) :
  Inv X pins σ H' {s with heap:=h',gens:=g',drawn:=d',toks:=t'}:=by
 obtain⟨m,⟨o,es,ep,ho,r⟩,_⟩:=id I.loc;obtain⟨sl,hL⟩:=u.any ho I.free λz=>(hch _ z).2.1 rfl
 exact I.step (ch:=ch) hch (λb o hL hb hc e n=>u.keep b o e n (λz=>(zMC (I.stkSub b z)).elim hL hb) hc) (λb o _ _ hc e n=>u.any e n hc) (λb o hc e n=>u.free b o e n hc) (λb o hc e=>u.there b o e hc) u.tups u.frzs u.tbls (λm' hm=>by
  obtain⟨o',es',ep',ho',r'⟩:=hm;rw[ho]at ho';cases ho';exact⟨_,es',ep',hL,r'⟩) hok hg
theorem Inv.turned {t':Nat} {it:Addr} (I:Inv X pins σ H s) (k:∀b o,b≠it->s.heap.get? b=some o->h'.get? b=some o) (hn:H it=none) (hL:it≠X.env.locals)
  (h1:it∈X.ex\/X.s₀.heap.objs.size<=it) (h2:∀x c,X.env.cells.lookup x=some c->c≠it) (h3:∀p∈X.pn++pins,p.1≠it):Inv X pins σ H {s with heap:=h',toks:=t'}:=by
 have nit:∀b u,H b=some u->b≠it:=λb u e z=>by rw[z,hn]at e;cases e
 refine I.step (g':=s.gens) (d':=s.drawn) (ch:=[it]) (λb hb=>?_) (λb o _ _ hc e _=>k b o (λz=>hc (by simp[z])) e) (λb o _ _ hc e _=>⟨o.slots,k b o (λz=>hc (by simp[z])) e⟩) (λ_ _ _ _ n=>n)
  (λb o hc e=>⟨o,k b o (λz=>hc (by simp[z])) e⟩) (λ_ _ e=>e) (λ_ _ _ e=>e) (λb ps e=>⟨#[],by rw[e];simp⟩) (λm hm=>?_) (λb u e=>?_) I.bare
 ·have e:b=it:=by simpa using hb
  subst e;exact⟨h1,hL,h2,h3⟩
 ·obtain⟨o,es,ep,ho,r⟩:=hm
  exact⟨o,es,ep,k _ o (Ne.symm hL) ho,r⟩
 ·refine(I.hok b u e).stay (λc v hc q=>k c v ?_ q) (λ_ q=>q) λ_ _ q=>q
  rcases hc with z |z
  ·rw[z];exact nit b u e
  ·exact nit c _ z
theorem Inv.tok(I:Inv X pins σ H s)(t:Nat):Inv X pins σ H {s with toks:=t}:=I.un (h':=s.heap) (t':=t) Un.refl I.hok
theorem Inv.kept{t':Nat}(I:Inv X pins σ H s)(k:∀b u,s.heap.get? b=some u->h'.get? b=some u):Inv X pins σ H {s with heap:=h',toks:=t'}:=I.un (Un.kept k) (I.hok.kept k)
theorem Inv.laid {a:Addr} {o:HO} {t':Nat} (I:Inv X pins σ H s) (k:∀b u,s.heap.get? b=some u->h'.get? b=some u) (hp:s.heap.objs.size<=a) (new:ObjOk X.prog X.w (upd H a o) h' a o) :
  Inv X pins σ (upd H a o) {s with heap:=h',toks:=t'}:=I.un (Un.laid k hp (I.hok.fresh hp)) (I.hok.laid k hp new)
theorem Inv.write {x e:Addr} {o:HO} {t':Nat} (I:Inv X pins σ H s) (mu:Mut (H x)) (he:e=x\/H e=some (.own x)) (k:∀b u,b≠e->s.heap.get? b=some u->h'.get? b=some u) (heo:∃u,h'.get? e=some u)
  (new:ObjOk X.prog X.w (upd H x o) h' x o):Inv X pins σ (upd H x o) {s with heap:=h',toks:=t'}:=I.un (Un.write mu he k heo) (I.hok.write mu he k heo new)
theorem Inv.weak{σ':List (Option V)}(I:Inv X pins σ H s)(hl:σ'.length=σ.length)(w:∀(i:Nat) v,σ'[i]?=some (some v)->σ[i]?=some (some v)):Inv X pins σ' H s:=
 ⟨I.ok,I.os,I.bare,I.base,let ⟨m,hn,hl'⟩:=I.loc;⟨m,hn,λi x v e1 e2 e3=>hl' i x v e1 (w i v e2) e3⟩,I.cell,I.free,I.freeC,I.pin,I.hok,hl.trans I.len⟩
theorem Inv.pins_of{a:List (Addr×Obj)}(I:Inv X pins σ H s)(h:∀p∈a,s.heap.get? p.1=some p.2/\H p.1=none/\p.1≠X.env.locals/\p.1 ∉X.fs/\∀v,p.2.data≠.cell v):Inv X a σ H s:=
 ⟨I.ok,I.os,I.bare,I.base,I.loc,I.cell,I.free,I.freeC,λp b=>(zMA b).elim (λz=>I.pin p (zR _ z)) (h p),I.hok,I.len⟩
theorem xmo{N:List Str}(c:N.Nodup){i j:Nat}{x:Str}(a:N[i]?=some x)(b:N[j]?=some x):i=j:=by
 obtain⟨h1,f⟩:=zES a;obtain⟨h2,e⟩:=zES b;exact(List.getElem_inj c).mp (f.trans e.symm)
theorem xiv {M:Model} {A:Around} {E:Value->Shared->Prop} {i:Nat} {x:Str} {v:V} {u:Value} {Q:Unit->Shared->Prop} (I:Inv X pins σ H s) (hN:X.N.Nodup) (hi:X.N[i]?=some x) (hx:Loc X.env.scope x) (r:RelV v u)
  (h:∀s',Inv X pins (σ.set i (some v)) H s'->(∃a,Heap.SameBut a s.heap s'.heap/\(a=X.env.locals\/X.env.cells.lookup x=some a))->Q () s') (hf:X.fn x=true\/X.env.scope.names.lookup x=some .local:=by first |exact .inl rfl |exact .inr rfl |assumption):wpAny M A (storeName X.env x u) Q E s:=by
 obtain⟨m,hn,hl⟩:=id I.loc;have hcls:(X.env.scope.kind == .class || (X.env.scope.kind == .module && X.env.locals != X.env.globals))=false:=by rw[I.ok.kind];rfl
 have hiσ:i<σ.length:=by rw[I.len];exact(zES hi).1
 have cne:=I.cne
 have tracked:∀{a:Addr} {h':Heap},(∃o,s.heap.get? a=some o/\H a=none)->Heap.SameBut a s.heap h'->HOk X.prog X.w H h':=λ{a h'} ha hs b ob e=>by
  obtain⟨_,_,hfree⟩:=ha;refine(I.hok b ob e).stay (λc w' hc q=>(hs.2 c ?_).trans q) (λ_ q=>q) λ_ _ q=>q;rintro rfl;rcases hc with rfl |hc
  ·rw[hfree]at e;cases e
  ·rw[hfree]at hc;cases hc
 rcases hx with hk |hk
 ·refine wpAny_storeName_local hk hn (λh' hn' hs=>?_) hcls
  obtain⟨oL,_,_,hoL,_⟩:=id hn;refine h _ ⟨I.ok,I.os,I.bare,⟨λb o e n hb hx=>?_,λb o e n hb hx=>?_,I.base.free,λb o e hx=>?_,I.base.tups,I.base.frzs,I.base.tbls⟩,⟨_,hn',λj y v' e1 e2 e3=>?_⟩,λy c e=>?_,I.free,I.freeC,λp hp=>?_,tracked ⟨oL,hoL,I.free⟩ hs,by simpa using I.len⟩ ⟨_,hs,.inl rfl⟩
  ·exact(hs.2 b (qD (qE (z6 e) I.ok.above))).trans (I.base.keep b o e n hb hx)
  ·obtain⟨sl,e1⟩:=I.base.slot b o e n hb hx
   exact⟨sl,(hs.2 b (qD (qE (z6 e) I.ok.above))).trans e1⟩
  ·obtain⟨o',e1⟩:=I.base.there b o e hx
   exact⟨o',(hs.2 b (qD (qE (z6 e) I.ok.above))).trans e1⟩
  ·by_cases hj:j=i
   ·subst hj
    rw[hi]at e1;cases e1;rw[List.getElem?_set_self hiσ]at e2;cases e2;exact⟨u,r,.inl ⟨hk,by simp⟩⟩
   ·rw[List.getElem?_set_ne (Ne.symm hj)]at e2
    obtain⟨u',r',q⟩:=hl j y v' e1 e2 e3;refine⟨u',r',?_⟩;rcases q with⟨k,e⟩ |⟨k,c,e,z⟩
    ·refine .inl ⟨k,?_⟩
     have:y≠x:=λe=>hj (xmo hN e1 (e ▸ hi));simp[this,e]
    ·exact .inr ⟨k,c,e,z.sameBut hs (cne y c e)⟩
  ·obtain⟨w',z⟩:=I.cell y c e
   exact⟨w',z.sameBut hs (cne y c e)⟩
  ·obtain⟨e,n,ne,nf,d⟩:=I.pin p hp
   exact⟨(hs.2 p.1 ne).trans e,n,ne,nf,d⟩
 ·have hfn:X.fn x=true:=by
   rcases hf with z |z
   ·exact z
   ·rw[z]at hk;cases hk
  obtain⟨c,hc⟩:=I.ok.has x (.inl hk);obtain⟨w',z⟩:=I.cell x c hc;refine wpAny_storeName_cell I.ok.kind hk hc z (λh' hc' hs=>?_);obtain⟨oc,hoc,hocd⟩:=id z;refine h {s with heap:=h'} ⟨I.ok,I.os,I.bare,⟨λb o e n hb hx=>?_,λb o e n hb hx=>?_,I.base.free,λb o e hx=>?_,I.base.tups,I.base.frzs,I.base.tbls⟩,⟨m,hn.sameBut hs (Ne.symm (cne x c hc)),λj y v' e1 e2 e3=>?_⟩,λy c' e=>?_,I.free,I.freeC,λp hp=>?_,tracked ⟨oc,hoc,I.freeC x c hc⟩ hs,by simpa using I.len⟩ ⟨c,hs,.inr hc⟩
  ·exact(hs.2 b (qD (qE (z6 e) (I.ok.cab x c hfn hc)))).trans (I.base.keep b o e n hb hx)
  ·obtain⟨sl,e1⟩:=I.base.slot b o e n hb hx
   exact⟨sl,(hs.2 b (qD (qE (z6 e) (I.ok.cab x c hfn hc)))).trans e1⟩
  ·obtain⟨o',e1⟩:=I.base.there b o e hx
   exact⟨o',(hs.2 b (qD (qE (z6 e) (I.ok.cab x c hfn hc)))).trans e1⟩
  ·by_cases hj:j=i
   ·subst hj
    rw[hi]at e1;cases e1;rw[List.getElem?_set_self hiσ]at e2;cases e2;exact⟨u,r,.inr ⟨.inl hk,c,hc,hc'⟩⟩
   ·rw[List.getElem?_set_ne (Ne.symm hj)]at e2
    obtain⟨u',r',q⟩:=hl j y v' e1 e2 e3;refine⟨u',r',?_⟩;rcases q with q |⟨k,c',e,z'⟩
    ·exact .inl q
    ·refine .inr ⟨k,c',e,z'.sameBut hs ?_⟩
     rintro rfl;exact hj (xmo hN e1 (I.ok.inj _ _ _ e hc ▸ hi))
  ·by_cases hcc:c'=c
   ·subst hcc;exact⟨_,hc'⟩
   ·obtain⟨w2,z2⟩:=I.cell y c' e
    exact⟨w2,z2.sameBut hs hcc⟩
  ·obtain⟨e,n,ne,nf,d⟩:=I.pin p hp
   refine⟨(hs.2 p.1 ?_).trans e,n,ne,nf,d⟩;intro q;rw[q,hoc]at e;have q':oc=p.2:=qC e;exact d w' (by rw[<- q'];exact hocd)
theorem xl4 {M:Model} {A:Around} {E:Value->Shared->Prop} {i:Nat} {x:Str} {v:V} {u:Value} {Q:Unit->Shared->Prop} (I:Inv X pins σ H s) (c:X.N.Nodup) (hi:X.N[i]?=some x) (a:Loc X.env.scope x) (r:RelV v u)
  (h:∀s',Inv X pins (σ.set i (some v)) H s'->Q () s') (b:X.fn x=true\/X.env.scope.names.lookup x=some .local:=by first |exact .inl rfl |exact .inr rfl |assumption):wpAny M A (storeName X.env x u) Q E s:=
 xiv I c hi a r (λs' e _=>h s' e) b
theorem Inv.call' {s':Shared} {ch:List Addr} (I:Inv X pins σ H s) (ho:s'.os=s.os) (u:Un (frs X.stack) ch H H' s.heap s'.heap) (hok:HOk X.prog X.w H' s'.heap) (hg:AllBare s'.gens)
  (hch:∀b∈ch,(b∈X.ex\/X.s₀.heap.objs.size<=b)/\b≠X.env.locals/\(∀x c,X.env.cells.lookup x=some c->c≠b)/\∀p∈X.pn++pins,p.1≠b):Inv X pins σ H' s':=by
 obtain⟨h',g',d',t',o'⟩:=s';have e:o'=s.os:=ho;subst e;exact I.call (g':=g') (t':=t') (d':=d') u hok hg hch
end
abbrev XK:=Value->Option Addr->Hp->Prop
abbrev St:=List (Option V)
abbrev VK:=V->Hp->Prop
abbrev TE:=St->Hp->VK->Prop
abbrev TT:=St->Hp->(Bool->Hp->Prop)->Prop
abbrev TA:=St->Hp->(List V->Hp->Prop)->Prop
structure Ends where
 nx:St->Hp->Prop
 rt:VK
 bk:St->Hp->Prop:=λ_ _=>False
 ct:St->Hp->Prop:=λ_ _=>False
abbrev TS:=Ends->St->Hp->Prop
def EP(X:Cx)(pins:List (Addr×Obj))(σ:St)(Q:VK)(u:Value)(s':Shared):Prop:=∃v H',Inv X pins σ H' s'/\RelV v u/\Q v H'
def TP(X:Cx)(pins:List (Addr×Obj))(σ:St)(Q:Bool->Hp->Prop)(b:Bool)(s':Shared):Prop:=∃H',Inv X pins σ H' s'/\Q b H'
def AP(X:Cx)(pins:List (Addr×Obj))(σ:St)(Q:List V->Hp->Prop)(us:List Value)(s':Shared):Prop:=∃vs H',Inv X pins σ H' s'/\Vals vs us/\Q vs H'
def SP(X:Cx)(pins:List (Addr×Obj))(D:Ends)(f:Flow)(s':Shared):Prop:=
 match f with
 |.next=>∃σ' H',Inv X pins σ' H' s'/\D.nx σ' H'
 |.brk=>∃σ' H',Inv X pins σ' H' s'/\D.bk σ' H'
 |.cont=>∃σ' H',Inv X pins σ' H' s'/\D.ct σ' H'
 |.ret u=>∃v σ' H',Inv X pins σ' H' s'/\RelV v u/\D.rt v H'
def PE(X:Cx)(e:Expr)(t:TE):Prop:=
 ∀(pins:List (Addr×Obj)) (s:Shared) (σ:St) (H:Hp) (Q:VK),Inv X pins σ H s->t σ H Q->wpAny (model X.prog X.w) X.A (eval e X.env) (EP X pins σ Q) X.xe s
def PT(X:Cx)(e:Expr)(t:TT):Prop:=
 ∀(pins:List (Addr×Obj)) (s:Shared) (σ:St) (H:Hp) (Q:Bool->Hp->Prop),Inv X pins σ H s->t σ H Q->wpAny (model X.prog X.w) X.A (isTrue e X.env (eval e X.env)) (TP X pins σ Q) X.xe s
def PW(X:Cx)(e:Expr)(t:TT):Prop:=
 ∀(whole:Sem Value) (pins:List (Addr×Obj)) (s:Shared) (σ:St) (H:Hp) (Q:Bool->Hp->Prop),Inv X pins σ H s->t σ H Q->wpAny (model X.prog X.w) X.A (isTrue e X.env whole) (TP X pins σ Q) X.xe s
theorem PW.pt{X:Cx}{e:Expr}{t:TT}(h:PW X e t):PT X e t:=h _
def PA(X:Cx)(es:List Expr)(t:TA):Prop:=
 ∀(pos:Pos) (pins:List (Addr×Obj)) (s:Shared) (σ:St) (H:Hp) (Q:List V->Hp->Prop),Inv X pins σ H s->t σ H Q->wpAny (model X.prog X.w) X.A (spliced (backTo pos (starEach es X.env))) (AP X pins σ Q) X.xe s
def PS(X:Cx)(st:Stmt)(t:TS):Prop:=
 ∀(pins:List (Addr×Obj)) (s:Shared) (σ:St) (H:Hp) (D:Ends),Inv X pins σ H s->t D σ H->wpAny (model X.prog X.w) X.A (exec st X.env) (SP X pins D) X.xe s
def PSs(X:Cx)(st:List Stmt)(t:TS):Prop:=
 ∀(pins:List (Addr×Obj)) (s:Shared) (σ:St) (H:Hp) (D:Ends),Inv X pins σ H s->t D σ H->wpAny (model X.prog X.w) X.A (execs st X.env) (SP X pins D) X.xe s
theorem thn{α:Type}{t:Sem α}{Q Q':α->Shared->Prop}{M:Model}{A:Around}{E:Value->Shared->Prop}{s:Shared}(h:wpAny M A t Q E s)(hQ:∀a s,Q a s->Q' a s):wpAny M A t Q' E s:=wpAny_mono h hQ λ_ _ x=>x
section
variable {X:Cx}
def tVar(i:Nat):TE:=λσ H Q=>∃v,σ[i]?=some (some v)/\Q v H
def tC(v:V):TE:=λ_ H Q=>Q v H
theorem xvo{i:Nat}{x:Str}{pos:Pos}(p:X.N[i]?=some x)(j:Vis X.env.scope x)(hd:(x == ("__debug__":Str))=false:=by decide)(f:(x == ("__classdict__":Str))=false:=by decide):PE X (.Name x pos) (tVar i):=by
 intro pins s σ H Q I h;obtain⟨v,e,h⟩:=h;obtain⟨m,hn,o⟩:=I.loc;obtain⟨u,r,l⟩:=o i x v p e j;have fin:EP X pins σ Q u s:=⟨v,H,I,r,h⟩;rcases l with⟨b,n⟩ |⟨b,c,g,a⟩
 ·exact wpAny_Name (wpAny_loadName_local I.ok.kind b hn n fin) hd
 ·rcases b with b |b
  ·exact wpAny_Name (wpAny_loadName_cell I.ok.kind b g a fin) hd
  ·exact wpAny_Name (wpAny_loadName_free I.ok.kind b g a fin f) hd
theorem pI{i j pos}:PE X (.Constant (.int i) j pos) (tC (.int i)):=λ_ _ _ H _ I h=>wpAny_Constant_int ⟨.int i,H,I.tok _,⟨_,rfl⟩,h⟩
theorem xe5{b j pos}:PE X (.Constant (.bool b) j pos) (tC (.bl b)):=λ_ _ _ H _ I h=>Constant_bool ⟨.bl b,H,I,rfl,h⟩
theorem xer{j pos}:PE X (.Constant .none j pos) (tC .non):=λ_ _ _ H _ I h=>Constant_none ⟨.non,H,I,rfl,h⟩
theorem pS{x j pos}:PE X (.Constant (.str x) j pos) (tC (.str x)):=λ_ _ _ H _ I h=>Calls.Constant_str ⟨.str x,H,I.tok _,⟨_,rfl⟩,h⟩
def Gl(X:Cx)(x:Str):Prop:=X.env.kindOf x=some .globalImplicit
theorem xih {E:Value->Shared->Prop} {pins:List (Addr×Obj)} {s:Shared} {σ:St} {H:Hp} {x:Str} {u:Value} {pos:Pos} {Q:Value->Shared->Prop} (I:Inv X pins σ H s) (b:Gl X x) (a:X.mg x=some u) (h:Q u s)
  (hd:(x == ("__debug__":Str))=false:=by decide):wpAny (model X.prog X.w) X.A (eval (.Name x pos) X.env) Q E s:=
 Calls.Name_function_global I.ok.kind b (Calls.loadGlobal_global (by rw[I.ok.glob];exact I.mod.glob.keeps I.bk) a h) hd
theorem xgk {E:Value->Shared->Prop} {pins:List (Addr×Obj)} {s:Shared} {σ:St} {H:Hp} {x:Str} {u:Value} {pos:Pos} {Q:Value->Shared->Prop} (I:Inv X pins σ H s) (c:Gl X x) (b:X.mg x=none) (a:bootBuiltins x=some u) (h:Q u s)
  (hn:x≠"__name__":=by decide) (hd:(x == ("__debug__":Str))=false:=by decide):wpAny (model X.prog X.w) X.A (eval (.Name x pos) X.env) Q E s:=by
 obtain⟨e,h1,h2⟩:=I.mod.blt;exact Calls.Name_function_global I.ok.kind c (Calls.loadGlobal_builtin (by rw[I.ok.glob];exact I.mod.glob.keeps I.bk) b (by rw[I.ok.blt];exact h1.keeps I.bk) ((h2 x hn).trans a) h) hd
theorem xts{x:Str}{v:V}{u:Value}{pos:Pos}(hg:Gl X x)(hm:X.mg x=some u)(r:RelV v u)(hd:(x == ("__debug__":Str))=false:=by decide):PE X (.Name x pos) (tC v):=
 λ_ _ _ H _ I h=>xih I hg hm ⟨v,H,I,r,h⟩ hd
theorem xtu{x:Str}{v:V}{u:Value}{pos:Pos}(c:Gl X x)(b:X.mg x=none)(a:bootBuiltins x=some u)(r:RelV v u)(hn:x≠"__name__":=by decide)(hd:(x == ("__debug__":Str))=false:=by decide):PE X (.Name x pos) (tC v):=
 λ_ _ _ H _ I h=>xgk I c b a ⟨v,H,I,r,h⟩ hn hd
variable {a b:Expr}{ta tb:TE}{pos:Pos}
def tB(t:TE):TT:=λσ H Q=>t σ H λx H1=>∃c,x=.bl c/\Q c H1
theorem xhb{e:Expr}{t:TE}(h:PE X e t)(he:∀whole,isTrue e X.env whole=(do let v <- whole;standAt e.pos;holding [v] (truthy v)):=by intro _;rfl):PT X e (tB t):=by
 intro pins s σ H Q I hw;refine isTrue_plain (thn (h pins s σ H _ I hw) λv s1 ⟨x,H1,I1,r1,q1⟩=>?_) (he _);obtain⟨d,rfl,q⟩:=q1;cases r1;exact wpAny_truthy_bool ⟨H1,I1,q⟩
variable {tA tB':TT}{rest:List Expr}
def tAnd(t u:TT):TT:=λσ H Q=>t σ H λc H1=>if c=true then u σ H1 Q else Q false H1
def tOr(t u:TT):TT:=λσ H Q=>t σ H λc H1=>if c=true then Q true H1 else u σ H1 Q
def tNot(t:TT):TT:=λσ H Q=>t σ H λc H1=>Q (!c) H1
theorem xb8(b:PT X a tA):PW X (.BoolOp .And [a] pos) tA:=by
 intro f pins s σ H Q I h;refine isTrue_and (thn (b pins s σ H Q I h) λc g e=>?_)
 cases c with
 |true=>exact isTrue_and_nil e
 |false=>exact e
theorem xha(b:PT X a tA):PW X (.BoolOp .Or [a] pos) tA:=by
 intro f pins s σ H Q I h;refine isTrue_or (thn (b pins s σ H Q I h) λc g e=>?_)
 cases c with
 |false=>exact isTrue_or_nil e
 |true=>exact e
theorem xcr(l:PT X a tA)(j:PW X (.BoolOp .And (b::rest) pos) tB'):PW X (.BoolOp .And (a::b::rest) pos) (tAnd tA tB'):=by
 intro g pins s σ H Q I h;refine isTrue_and (thn (l pins s σ H _ I h) λc i ⟨H1,f,e⟩=>?_)
 cases c with
 |true=>exact j g pins i σ H1 Q f e
 |false=>exact⟨H1,f,e⟩
theorem xjd(l:PT X a tA)(j:PW X (.BoolOp .Or (b::rest) pos) tB'):PW X (.BoolOp .Or (a::b::rest) pos) (tOr tA tB'):=by
 intro g pins s σ H Q I h;refine isTrue_or (thn (l pins s σ H _ I h) λc i ⟨H1,f,e⟩=>?_)
 cases c with
 |true=>exact⟨H1,f,e⟩
 |false=>exact j g pins i σ H1 Q f e
theorem xmi(b:PT X a tA):PT X (.UnaryOp .Not a pos) (tNot tA):=by
 intro pins s σ H Q I h;exact isTrue_not (b pins s σ H (λc H1=>Q (!c) H1) I h)
def xw1(ta tb:TE):TE:=λσ H Q=>ta σ H λx H1=>∃c,x=.bl c/\if c=true then tb σ H1 Q else Q (.bl false) H1
def xwx(ta:TE):TE:=λσ H Q=>ta σ H λx H1=>∃c,x=.bl c/\Q (.bl (!c)) H1
theorem xvp{op}{t:TE}(h:PE X a t):PE X (.BoolOp op [a] pos) t:=λpins s σ H Q I b=>BoolOp_one (h pins s σ H Q I b)
theorem xvt(l:PE X a ta)(j:PE X (.BoolOp .And (b::rest) pos) tb):PE X (.BoolOp .And (a::b::rest) pos) (xw1 ta tb):=by
 intro pins s σ H Q I h;refine BoolOp_and (thn (l pins s σ H _ I h) λv g ⟨x,H1,f,i,e⟩=>?_);obtain⟨c,rfl,e⟩:=e;cases i;refine wpAny_truthy_bool ?_
 cases c with
 |true=>exact j pins g σ H1 Q f e
 |false=>exact⟨.bl false,H1,f,rfl,e⟩
theorem xvq(f:PE X a ta):PE X (.UnaryOp .Not a pos) (xwx ta):=by
 intro pins s σ H Q I h;refine UnaryOp_ (thn (f pins s σ H _ I h) λv i ⟨x,H1,g,e,b⟩=>?_);obtain⟨c,rfl,b⟩:=b;cases e;exact not_of (wpAny_truthy_bool ⟨.bl (!c),H1,g,rfl,b⟩)
def tIf(t:TT)(ta tb:TE):TE:=λσ H Q=>t σ H λc H1=>if c=true then ta σ H1 Q else tb σ H1 Q
theorem xe4{c:Expr}(i:PT X c tA)(l:PE X a ta)(j:PE X b tb):PE X (.IfExp c a b pos) (tIf tA ta tb):=by
 intro pins s σ H Q I h;refine wpAny_IfExp (thn (i pins s σ H _ I h) λd e ⟨H1,g,f⟩=>?_)
 cases d with
 |true=>exact l pins e σ H1 Q g f
 |false=>exact j pins e σ H1 Q g f
end
def SqL(K:Fg)(H:Hp)(a:Addr)(xs:List V):Prop:=
 Rd H a (.lst xs) ∨
  ∃(o:Obj) (its:Array Value) (n:Nat),K.lookup a=some o/\o.cls=.type "list"/\o.dict=none/\o.data=.seq its n/\its.size<=sizeLine/\Vals xs its.toList
def SqT(K:Fg)(H:Hp)(a:Addr)(xs:List V):Prop:=
 Rd H a (.tup xs) ∨
  ∃(o:Obj) (its:Array Value) (n:Nat),K.lookup a=some o/\o.cls=.type "tuple"/\o.data=.seq its n/\its.size<=sizeLine/\Vals xs its.toList
def absV:Value->Option V
 |.none=>some .non
 |.bool b=>some (.bl b)
 |.int i _=>some (.int i)
 |.str x _=>some (.str x)
 |.bytes b _=>some (.byt b)
 |.float b _=>some (.flt b)
 |.ref a=>some (.ref a)
 |.type n=>some (.ty n)
 |_=>none
theorem RelV.abs{x:V}{u:Value}(r:RelV x u):absV u=some x:=by
 cases x with
 |non=>cases r;rfl
 |bl _=>cases r;rfl
 |int _=>obtain⟨t,rfl⟩:=r;rfl
 |str _=>obtain⟨t,rfl⟩:=r;rfl
 |byt _=>obtain⟨t,rfl⟩:=r;rfl
 |flt _=>obtain⟨t,rfl⟩:=r;rfl
 |ref _=>cases r;rfl
 |ty _=>cases r;rfl
theorem RelV.inj{x y:V}{u:Value}(r:RelV x u)(q:RelV y u):x=y:=qC (r.abs.symm.trans q.abs)
theorem Vals.inj:∀{xs ys:List V} {us:List Value},Vals xs us->Vals ys us->xs=ys
 |_,_,_,.nil,.nil=>rfl
 |_,_,_,.cons r t,.cons a t'=>by rw[r.inj a,Vals.inj t t']
section
variable {X:Cx}{pins:List (Addr×Obj)}{σ:St}{H:Hp}{s:Shared}{a:Addr}{xs ys:List V}
theorem SqL.of{K:Fg}(h:H a=some (.lst xs)):SqL K H a xs:=.inl (.inl h)
noncomputable def zC:=@SqL.of
theorem SqT.of{K:Fg}(h:H a=some (.tup xs)):SqT K H a xs:=.inl (.inl h)
noncomputable def zB:=@SqT.of
theorem Inv.list(I:Inv X pins σ H s)(h:SqL X.K H a xs):∃its:List Value,Vals xs its/\PlainL s.heap a its.toArray/\xs.length<=sizeLine:=by
 rcases h with h |⟨o,its,n,b,c,hd,hs,hz,r⟩
 ·obtain⟨z,its,n,r,e⟩:=h.ok I.hok
  exact⟨its,r,⟨_,n,e,rfl,rfl,rfl⟩,z⟩
 ·refine⟨its.toList,r,⟨o,n,I.kIn a o b,c,hd,by simpa using hs⟩,?_⟩
  have e:=r.length;simp only[Array.length_toList]at e;omega
theorem Inv.tuple(I:Inv X pins σ H s)(h:SqT X.K H a xs):∃its:List Value,Vals xs its/\IsTup s.heap a its.toArray/\xs.length<=sizeLine:=by
 rcases h with h |⟨o,its,n,b,f,hs,hz,r⟩
 ·obtain⟨z,its,r,o,e,c,n,d,_⟩:=h.ok I.hok
  exact⟨its,r,⟨o,e,c,n,d⟩,z⟩
 ·refine⟨its.toList,r,⟨o,I.kIn a o b,f,n,by simpa using hs⟩,?_⟩
  have e:=r.length;simp only[Array.length_toList]at e;omega
theorem Inv.list_inj(I:Inv X pins σ H s)(h:SqL X.K H a xs)(h':SqL X.K H a ys):xs=ys:=by
 obtain⟨its,r,⟨o,n,e,_,_,d⟩,_⟩:=I.list h;obtain⟨its',c,⟨o',g,b,_,_,d'⟩,_⟩:=I.list h';rw[e]at b;cases b;rw[d]at d';injection d' with f _;have:its=its':=by simpa using congrArg Array.toList f
 subst this;exact r.inj c
theorem Inv.tuple_inj(I:Inv X pins σ H s)(h:SqT X.K H a xs)(h':SqT X.K H a ys):xs=ys:=by
 obtain⟨its,r,⟨o,e,_,n,d⟩,_⟩:=I.tuple h;obtain⟨its',c,⟨o',b,_,g,d'⟩,_⟩:=I.tuple h';rw[e]at b;cases b;rw[d]at d';injection d' with f _;have:its=its':=by simpa using congrArg Array.toList f
 subst this;exact r.inj c
end
abbrev Cx.wish(X:Cx)(E:Value->Shared->Prop):Cx:={X with xe:=E}
abbrev Cx.nox(X:Cx):Cx:=X.wish λ_ _=>False
theorem Cx.Ok.wish{X:Cx}(ok:X.Ok)(E:Value->Shared->Prop):(X.wish E).Ok:=
 ⟨ok.mod,ok.kind,ok.glob,ok.blt,ok.above,ok.inj,ok.has,ok.cab,ok.hd,ok.frames,ok.stk,ok.exf,ok.bs,ok.bsz,ok.noex,ok.exfs,ok.funs,ok.frf⟩
theorem Cx.Ok.unwish{X:Cx}{E:Value->Shared->Prop}(ok:(X.wish E).Ok):X.Ok:=
 ⟨ok.mod,ok.kind,ok.glob,ok.blt,ok.above,ok.inj,ok.has,ok.cab,ok.hd,ok.frames,ok.stk,ok.exf,ok.bs,ok.bsz,ok.noex,ok.exfs,ok.funs,ok.frf⟩
section
variable {X:Cx}{pins:List (Addr×Obj)}{σ:St}{H:Hp}{s:Shared}{E:Value->Shared->Prop}
theorem Inv.wish(I:Inv X pins σ H s)(E:Value->Shared->Prop):Inv (X.wish E) pins σ H s:=⟨I.ok.wish E,I.os,I.bare,I.base,I.loc,I.cell,I.free,I.freeC,I.pin,I.hok,I.len⟩
theorem Inv.unwish(I:Inv (X.wish E) pins σ H s):Inv X pins σ H s:=⟨I.ok.unwish,I.os,I.bare,I.base,I.loc,I.cell,I.free,I.freeC,I.pin,I.hok,I.len⟩
theorem SP.unwish{D:Ends}{f:Flow}{s':Shared}(h:SP (X.wish E) pins D f s'):SP X pins D f s':=by
 cases f with
 |next=>obtain⟨a,H',I,q⟩:=h;exact⟨a,H',I.unwish,q⟩
 |brk=>obtain⟨a,H',I,q⟩:=h;exact⟨a,H',I.unwish,q⟩
 |cont=>obtain⟨a,H',I,q⟩:=h;exact⟨a,H',I.unwish,q⟩
 |ret u=>obtain⟨v,a,H',I,r,q⟩:=h;exact⟨v,a,H',I.unwish,r,q⟩
theorem PSs.nox{st:List Stmt}{t:TS}(h:PSs X.nox st t):PSs X st t:=λpins s σ H D I a=>
 wpAny_mono (h pins s σ H D (I.wish _) a) (λ_ _ q=>q.unwish) λ_ _ z=>False.elim z
end
section
variable {X:Cx}{st:Stmt}{rest:List Stmt}{t u:TS}{e:Expr}{te:TE}{pos:Pos}
def xwy:TS:=λD σ H=>D.nx σ H
def tSeq(t u:TS):TS:=λD σ H=>t {D with nx:=u D} σ H
theorem pQ:PSs X [] xwy:=λ_ _ σ H _ I h=>wpAny_execs_nil ⟨σ,H,I,h⟩
theorem zpn(h1:PS X st t)(h2:PSs X rest u):PSs X (st::rest) (tSeq t u):=by
 intro pins s σ H D I h;refine wpAny_execs_cons (thn (h1 pins s σ H {D with nx:=u D} I h) λf b q=>?_)
 cases f with
 |next=>
  obtain⟨a,H',c,q⟩:=q;exact h2 pins b a H' D c q
 |ret v=>exact q
 |brk=>exact q
 |cont=>exact q
theorem zpo(h1:PS X st t):PSs X [st] t:=by
 intro pins s σ H D I h;refine wpAny_execs_cons (thn (h1 pins s σ H D I h) λf a q=>?_)
 cases f with
 |next=>exact wpAny_execs_nil q
 |ret v=>exact q
 |brk=>exact q
 |cont=>exact q
theorem Inv.quiet{pins:List (Addr×Obj)}{σ:St}{H:Hp}{s:Shared}(I:Inv X pins σ H s):interactive X.env=false:=by simp[interactive,I.ok.kind]
def xwz(te:TE):TS:=λD σ H=>te σ H λ_ H1=>D.nx σ H1
theorem xb0(b:PE X e te)(hs:swapsWith e none pos.line X.env=pure false:=by rfl):PS X (.Expr e pos) (xwz te):=by
 intro pins s σ H D I h;exact wpAny_Expr_any (thn (b pins s σ H _ I h) λv f ⟨x,H1,c,g,a⟩=>⟨σ,H1,c,a⟩) I.quiet hs
def tRet(te:TE):TS:=λD σ H=>te σ H D.rt
theorem xag(c:PE X e te):PS X (.Return (some e) pos) (tRet te):=by
 intro pins s σ H D I h;exact wpAny_Return_some (thn (c pins s σ H _ I h) λv g ⟨x,H1,f,a,b⟩=>⟨x,σ,H1,f,a,b⟩)
def tIfS(c:TT)(t u:TS):TS:=λD σ H=>c σ H λb H1=>if b=true then t D σ H1 else u D σ H1
theorem xa6{c:Expr}{a b:List Stmt}{tc:TT}(i:PT X c tc)(l:PSs X a t)(j:PSs X b u):PS X (.If c a b pos) (tIfS tc t u):=by
 intro pins s σ H D I h;refine wpAny_If (thn (i pins s σ H _ I h) λd e ⟨H1,g,f⟩=>?_)
 cases d with
 |true=>exact l pins e σ H1 D g f
 |false=>exact j pins e σ H1 D g f
end
abbrev TG:=V->St->Hp->(St->Hp->Prop)->Prop
abbrev TGs:=List V->St->Hp->(St->Hp->Prop)->Prop
def PG(X:Cx)(target:Expr)(t:TG):Prop:=
 ∀(pins:List (Addr×Obj)) (s:Shared) (σ:St) (H:Hp) (v:V) (u:Value) (Q:St->Hp->Prop),Inv X pins σ H s->RelV v u->t v σ H Q->
  wpAny (model X.prog X.w) X.A (assign target X.env u) (λ_ s'=>∃σ' H',Inv X pins σ' H' s'/\Q σ' H') X.xe s
def PGs(X:Cx)(ts:List Expr)(t:TGs):Prop:=
 ∀(pins:List (Addr×Obj)) (s:Shared) (σ:St) (H:Hp) (vs:List V) (us:List Value) (Q:St->Hp->Prop),Inv X pins σ H s->Vals vs us->t vs σ H Q->
  wpAny (model X.prog X.w) X.A (assignInOrder ((assignEach ts X.env).map (·.2)) us) (λ_ s'=>∃σ' H',Inv X pins σ' H' s'/\Q σ' H') X.xe s
abbrev TSet:=V->V->V->Hp->(Hp->Prop)->Prop
def PSet(X:Cx)(t:TSet):Prop:=
 ∀(pins:List (Addr×Obj)) (s:Shared) (σ:St) (H:Hp) (o i v:V) (ov iv u:Value) (Q:Hp->Prop),Inv X pins σ H s->RelV o ov->RelV i iv->RelV v u->t o i v H Q->
  wpAny (model X.prog X.w) X.A (setItem ov iv u) (λ_ s'=>∃H',Inv X pins σ H' s'/\Q H') X.xe s
section
variable {X:Cx}{pos:Pos}
def xfl(i:Nat):TG:=λv σ H Q=>Q (σ.set i (some v)) H
theorem xou{i:Nat}{x:Str}(c:X.N.Nodup)(hi:X.N[i]?=some x)(a:Loc X.env.scope x)(b:X.fn x=true\/X.env.scope.names.lookup x=some .local:=by first |exact .inl rfl |exact .inr rfl |assumption):PG X (.Name x pos) (xfl i):=by
 intro pins s σ H v u Q I r h;exact wpAny_assign_Name (xl4 I c hi a r (λs' e=>⟨_,H,e,h⟩) b)
def gNil:TGs:=λvs σ H Q=>vs=[]/\Q σ H
def xxp(t:TG)(u:TGs):TGs:=λvs σ H Q=>∃v r,vs=v::r/\t v σ H λσ' H'=>u r σ' H' Q
theorem xa9:PGs X [] gNil:=by
 intro pins s σ H vs us Q I r h;obtain⟨e,h⟩:=h;subst e;cases r;exact assignInOrder_nil ⟨σ,H,I,h⟩
theorem xad {e:Expr} {es:List Expr} {t:TG} {u:TGs} (h1:PG X e t) (h2:PGs X es u)
  (hs:(assignEach (e::es) X.env).map (·.2)=assign e X.env::(assignEach es X.env).map (·.2):=by rfl):PGs X (e::es) (xxp t u):=by
 intro pins s σ H vs us Q I r h;obtain⟨v,j,g,h⟩:=h;subst g
 cases r with
 |cons r c=>
  rw[hs];refine assignInOrder_cons (thn (h1 pins s σ H _ _ _ I r h) λ_ b ⟨a,H1,i,f⟩=>?_);exact h2 pins b a H1 _ _ Q i c f
def gTup(K:Fg)(n:Nat)(t:TGs):TG:=λv σ H Q=>∃a xs,v=.ref a/\SqT K H a xs/\xs.length=n/\t xs σ H Q
theorem xvn {es:List Expr} {k:Nat} {t:TGs} {n:Nat} (p:X.calm=true) (h:PGs X es t)
  (hn:(assignEach es X.env).length=n:=by rfl) (f:(assignEach es X.env).findIdx? (·.1)=none:=by rfl):PG X (.Tuple es k pos) (gTup X.K n t):=by
 intro pins s σ H v u Q I r c;obtain⟨a,xs,w,l,m,c⟩:=c;subst w;cases r;obtain⟨its,g,j,hz⟩:=I.tuple l;refine assign_Tuple_tuple (I.ok.hd p) j (by simp[hn,<- m,g.length]) f λh' i=>?_;have x:Inv X pins σ H {s with heap:=h'}:=I.kept (t':=s.toks) λb o e=>i b o (qD (z6 e)) e;exact h pins _ σ H xs _ Q x (by simpa using g) c
def gSub(to ti:TE)(t:TSet):TG:=λv σ H Q=>to σ H λo H1=>ti σ H1 λi H2=>t o i v H2 λH3=>Q σ H3
theorem xsn {o i:Expr} {to c:TE} {t:TSet} (p:PE X o to) (hi:PE X i c) (hs:PSet X t)
  (w:∀v,assign (.Subscript o i pos) X.env v=(do
   let a <- holding [v] (eval o X.env)
   let b <- holding [v,a] (eval i X.env)
   standAt pos
   holding [v,a,b] (setItem a b v)
   release [v,a,b] []):=by intro _;rfl):PG X (.Subscript o i pos) (gSub to c t):=by
 intro pins s σ H v u Q I r h;rw[w];refine zX (qL (thn (p pins s σ H _ I h) λa f ⟨x,H1,G,j,n⟩=>?_));refine zX (qL (thn (hi pins f σ H1 _ G n) λb e ⟨y,H2,C,g,m⟩=>?_));refine zX (wpAny_standAt (zX (qL (thn (hs pins e σ H2 x y v a b u _ C j g r m) λ_ M ⟨J,z,l⟩=>?_))));exact wpAny_release ⟨σ,J,z,l⟩
def tAsg(te:TE)(g:TG):TS:=λD σ H=>te σ H λx H1=>g x σ H1 D.nx
theorem xdo {tg e:Expr} {te:TE} {g:TG} (j:PE X e te) (i:PG X tg g) (hs:swapsWithSole [tg] e pos.line X.env=pure false:=by rfl) (f:swappedStores [tg] e X.env=pure none:=by rfl)
  (h1:(assignEach [tg] X.env).map (·.2)=[assign tg X.env]:=by rfl):PS X (.Assign [tg] e pos) (tAsg te g):=by
 intro pins s σ H D I h;refine wpAny_Assign_stores (thn (j pins s σ H _ I h) λv a ⟨x,H1,l,b,c⟩=>?_) hs f;rw[h1];exact thn (i pins a σ H1 x v _ l b c) λ_ m q=>q
theorem xvk {i:Nat} {x:Str} {e:Expr} {te:TE} {pos':Pos} (hN:X.N.Nodup) (hi:X.N[i]?=some x) (hx:Loc X.env.scope x) (he:PE X e te) (hs:swapsWith e (some (.Name x pos')) pos.line X.env=pure false:=by rfl) (hf:X.fn x=true\/X.env.scope.names.lookup x=some .local:=by first |exact .inl rfl |exact .inr rfl |assumption) :
  PS X (.Assign [.Name x pos'] e pos) (tAsg te (xfl i)):=by
 intro pins s σ H D I h;refine wpAny_Assign_Name (thn (he pins s σ H _ I h) λv s1 ⟨y,H1,I1,r1,q1⟩=>?_) hs;exact xl4 I1 hN hi hx r1 (λs2 I2=>⟨_,H1,I2,q1⟩) hf
end
structure It where
 go:Nat->Hp->Prop
 yld:Nat->Hp->V->Hp->Prop
 stop:Nat->Hp->Prop
def FpOk(X:Cx)(pins:List (Addr×Obj))(H:Hp)(b:Addr):Prop:=
 H b=none/\b≠X.env.locals/\b ∉X.fs/\(b∈X.ex\/X.s₀.heap.objs.size<=b)/\(∀x c,X.env.cells.lookup x=some c->c≠b)/\∀p∈X.pn++pins,p.1≠b
theorem Inv.fpOk{X:Cx}{pins:List (Addr×Obj)}{σ:St}{H H':Hp}{s:Shared}{b:Addr}(I:Inv X pins σ H s)(a:s.heap.objs.size<=b)(hn:H' b=none):FpOk X pins H' b:=by
 refine⟨hn,Nat.ne_of_gt (qE I.lt a),I.nofs a,.inr (zY I.sz a),λx c e z=>?_,λp f z=>?_⟩
 ·obtain⟨v,q⟩:=I.cell x c e
  exact absurd (qE q.lt (by rw[z];exact a)) (qH _)
 ·exact absurd (qE (z6 (I.pin p f).1) (by rw[z];exact a)) (qH _)
structure Turn(P:Program)(w:World)(K:Fg)(tg:Expr)(J:It)(fp:List Addr)(it:Addr)(tn:Nat->Heap->Prop):Prop where
 mem:it∈fp
 obj:∀i h,tn i h->∀b∈fp,∃o,h.get? b=some o/\∀v,o.data≠.cell v
 keep:∀i h h',tn i h->(∀b∈fp,∀o,h.get? b=some o->h'.get? b=some o)->tn i h'
 item:∀(X:Cx),X.prog=P->X.w=w->X.K=K->X.calm=true->∀(i:Nat) (pins:List (Addr×Obj)) (s:Shared) (σ:St) (H:Hp) (E:Value->Shared->Prop),Inv X pins σ H s->(∀b∈fp,FpOk X pins H b)->tn i s.heap->J.go i H->
  wpAny (model P w) X.A (pyNext (.ref it)) (λr s1=>∃u,r=some u ∧
   wpAny (model P w) X.A (letOwnedTupleGo tg (.ref it) u) (λ_ s2=>∃x H',Inv X pins σ H' s2/\RelV x u/\J.yld i H x H'/\tn (i+1) s2.heap/\∀b∈fp,H' b=none) E s1) E s
 done:∀(X:Cx),X.prog=P->X.w=w->X.K=K->X.calm=true->∀(i:Nat) (pins:List (Addr×Obj)) (s:Shared) (σ:St) (H:Hp) (E:Value->Shared->Prop),Inv X pins σ H s->(∀b∈fp,FpOk X pins H b)->tn i s.heap->J.stop i H->
  wpAny (model P w) X.A (pyNext (.ref it)) (λr s1=>r=none/\Inv X pins σ H s1) E s
 self:∀(A:Around) (i:Nat) (s:Shared) (Q:Value->Shared->Prop) (E:Value->Shared->Prop),tn i s.heap->Q (.ref it) s->wpAny (model P w) A (pyIter (.ref it)) Q E s
abbrev TI:=St->Hp->(It->Hp->Prop)->Prop
def PIE(X:Cx)(pins:List (Addr×Obj))(σ:St)(tg:Expr)(R:It->Hp->Prop)(itv:Value)(s2:Shared):Prop:=
 ∃(it:Addr) (fp:List Addr) (tn:Nat->Heap->Prop) (J:It) (H':Hp),itv=.ref it/\Inv X pins σ H' s2/\Turn X.prog X.w X.K tg J fp it tn/\tn 0 s2.heap/\(∀b∈fp,FpOk X pins H' b)/\R J H'
def PI(X:Cx)(tg iter:Expr)(wi:TI):Prop:=
 ∀(pins:List (Addr×Obj)) (s:Shared) (σ:St) (H:Hp) (R:It->Hp->Prop),Inv X pins σ H s->wi σ H R->
  wpAny (model X.prog X.w) X.A (eval iter X.env) (λv s1=>wpAny (model X.prog X.w) X.A (pyIter v) (PIE X pins σ tg R) X.xe s1) X.xe s
theorem xry {M:Model} {A:Around} {E:Value->Shared->Prop} {s:Shared} {tg:Expr} {it:Addr} {u:Value} {o:Obj} {n:String} {vs:Array Value} {Q:Unit->Shared->Prop} (ho:s.heap.get? it=some o) (hc:o.cls=.type n) (hd:o.data=.fields vs)
    (hn:["enumerate","zip","dict_itemiterator","dict_reverseitemiterator","odict_iterator","itertools.zip_longest","itertools.pairwise"].contains n=false) (hQ:Q () s):wpAny M A (letOwnedTupleGo tg (.ref it) u) Q E s:=by
  unfold letOwnedTupleGo
  cases tg <;> first
    |exact z5 hQ
    |(cases u <;> first
        |exact z5 hQ
        | (refine zX (wpAny_load ho ?_)
           rw[hc,hd];show wpAny M A (if (["enumerate","zip","dict_itemiterator","dict_reverseitemiterator","odict_iterator","itertools.zip_longest","itertools.pairwise"].contains n && vs[0]? == some (rawInt _))=true then _ else _) Q E s;rw[if_neg (by intro h;rw[hn,Bool.false_and]at h;cases h)];exact z5 hQ))
def Itl(K:Fg)(a:Addr):It:=
 ⟨λi H=>∃xs x,SqL K H a xs/\xs[i]?=some x,λi H x H'=>H'=H/\∀xs,SqL K H a xs->xs[i]?=some x,λi H=>∃xs,SqL K H a xs/\xs.length<=i⟩
def Itt(K:Fg)(a:Addr):It:=
 ⟨λi H=>∃xs x,SqT K H a xs/\xs[i]?=some x,λi H x H'=>H'=H/\∀xs,SqT K H a xs->xs[i]?=some x,λi H=>∃xs,SqT K H a xs/\xs.length<=i⟩
def Itr(lo:Int)(n:Nat):It:=⟨λi _=>i<n,λi H x H'=>H'=H/\x=.int (lo+i),λi _=>n<=i⟩
theorem xn4{P:Program}{w:World}{K:Fg}{tg:Expr}(a it:Addr):Turn P w K tg (Itl K a) [it] it (λi h=>h.IsListIter it a i) where
 mem:=by simp
 obj:=λi h st b f=>by
  have e:b=it:=by simpa using f
  subst e;obtain⟨o,e,c,d⟩:=st;exact⟨o,e,λv z=>by rw[d]at z;cases z⟩
 keep:=λi h h' st k=>st.at λo e=>k it (by simp) o e
 item:=by
  intro X y n C Y i pins s σ H E I j st r;subst y n C;obtain⟨xs,x,g,m⟩:=r;obtain⟨its,l,p,hz⟩:=I.list g;obtain⟨u,hu,ru⟩:=l.get m;obtain⟨U,O,f2,M,J,G⟩:=j it (by simp);refine wpAny_pyNext_list_item st p.isList (x:=u) (by simpa using hu) λh' st' Z=>?_;have I1:Inv X pins σ H {s with heap:=h'}:=I.turned (t':=s.toks) (λb o f e=>(Z.2 b f).trans e) U O M J G;obtain⟨o,e,c,d⟩:=id st';exact⟨u,rfl,xry (s:={s with heap:=h'}) e c d (by decide) ⟨x,H,I1,ru,⟨rfl,λys hy=>by rw[I.list_inj hy g];exact m⟩,st',λb f=>(j b f).1⟩⟩
 done:=by
  intro X y n C Y i pins s σ H E I j st r;subst y n C;obtain⟨xs,g,m⟩:=r;obtain⟨its,l,p,hz⟩:=I.list g;obtain⟨U,O,f2,M,J,G⟩:=j it (by simp);have hl:=l.length;exact wpAny_pyNext_list_end (I.ok.hd Y) st p.isList (by simp;omega) λh' eb=>⟨rfl,I.turned (t':=s.toks) (λb o f e=>eb b o f e) U O M J G⟩
 self:=λ_ _ _ _ _ st h=>wpAny_pyIter_listiter st h
theorem xna{P:Program}{w:World}{K:Fg}{tg:Expr}(a it:Addr):Turn P w K tg (Itt K a) [it] it (λi h=>h.IsTupleIter it a i) where
 mem:=by simp
 obj:=λi h st b f=>by
  have e:b=it:=by simpa using f
  subst e;obtain⟨o,e,c,d⟩:=st;exact⟨o,e,λv z=>by rw[d]at z;cases z⟩
 keep:=λi h h' st k=>st.at λo e=>k it (by simp) o e
 item:=by
  intro X y n C Y i pins s σ H E I j st r;subst y n C;obtain⟨xs,x,g,m⟩:=r;obtain⟨its,l,p,hz⟩:=I.tuple g;obtain⟨u,hu,ru⟩:=l.get m;obtain⟨U,O,f2,M,J,G⟩:=j it (by simp);refine wpAny_pyNext_tuple_item st (show s.heap.IsTuple a its.toArray from p) (x:=u) (by simpa using hu) λh' st' Z=>?_;have I1:Inv X pins σ H {s with heap:=h'}:=I.turned (t':=s.toks) (λb o f e=>(Z.2 b f).trans e) U O M J G;obtain⟨o,e,c,d⟩:=id st';exact⟨u,rfl,xry (s:={s with heap:=h'}) e c d (by decide) ⟨x,H,I1,ru,⟨rfl,λys hy=>by rw[I.tuple_inj hy g];exact m⟩,st',λb f=>(j b f).1⟩⟩
 done:=by
  intro X y n C Y i pins s σ H E I j st r;subst y n C;obtain⟨xs,g,m⟩:=r;obtain⟨its,l,p,hz⟩:=I.tuple g;obtain⟨U,O,f2,M,J,G⟩:=j it (by simp);have hl:=l.length;exact wpAny_pyNext_tuple_end (I.ok.hd Y) st (show s.heap.IsTuple a its.toArray from p) (by simp;omega) λh' eb=>⟨rfl,I.turned (t':=s.toks) (λb o f e=>eb b o f e) U O M J G⟩
 self:=λ_ _ _ _ _ st h=>wpAny_pyIter_tupleiter st h
theorem xnb{P:Program}{w:World}{K:Fg}{tg:Expr}(it:Addr)(lo:Int)(n:Nat):Turn P w K tg (Itr lo n) [it] it (λi h=>IsRangeIter h it (lo+(i:Nat)*1) ((n:Int)-(i:Nat)) 1) where
 mem:=by simp
 obj:=λi h st b a=>by
  have e:b=it:=by simpa using a
  subst e
  exact⟨_,st,λv z=>by
   have C:Data.fields _=Data.cell v:=z;cases C⟩
 keep:=λi h h' st k=>k it (by simp) _ st
 item:=by
  intro X l f m j i pins s σ H E I c st g;subst l f m;obtain⟨y,x,M,u,r,p⟩:=c it (by simp);have W:=Walks.range (prog:=X.prog) (w:=X.w) (I.ok.hd j) it lo 1 n;refine W.item i s _ _ g st λv h' tk J st' G=>?_;obtain⟨t,rfl⟩:=J;have U:Inv X pins σ H {s with heap:=h',toks:=tk}:=I.turned (λb o a e=>G b o (by simpa using a) e) y x u r p;refine⟨_,rfl,xry (s:={s with heap:=h',toks:=tk}) (n:="range_iterator") st' rfl rfl (by decide) ⟨.int (lo+i),H,U,⟨t,?_⟩,⟨rfl,rfl⟩,st',λb a=>(c b a).1⟩⟩;rw[Int.mul_one]
 done:=by
  intro X l f m j i pins s σ H E I c st g;subst l f m;obtain⟨y,x,M,u,r,p⟩:=c it (by simp);exact wpAny_pyNext_range_end (I.ok.hd j) st (by have:n<=i:=g;omega) λh' O=>⟨rfl,I.turned (t':=s.toks) (λb o a e=>O b o a e) y x u r p⟩
 self:=λ_ _ _ _ _ st h=>wpAny_pyIter_rangeiter st h
section
variable {X:Cx}{tg:Expr}
def xwc(K:Fg)(tl:TE):TI:=λσ H R=>tl σ H λx H1=>∃a,x=.ref a/\(∃xs,SqL K H1 a xs)/\R (Itl K a) H1
def iTup(K:Fg)(tl:TE):TI:=λσ H R=>tl σ H λx H1=>∃a,x=.ref a/\(∃xs,SqT K H1 a xs)/\R (Itt K a) H1
theorem xtp{l:Expr}{tl:TE}(m:PE X l tl):PI X tg l (xwc X.K tl):=by
 intro pins s σ H R I h;refine thn (m pins s σ H _ I h) λv c ⟨x,H1,f,g,i⟩=>?_;obtain⟨a,e,⟨xs,j⟩,q⟩:=i;subst e;cases g;obtain⟨its,r,p,hz⟩:=f.list j;refine wpAny_pyIter_list p.isList ?_;refine⟨c.heap.objs.size,[c.heap.objs.size],_,_,H1,rfl,f.kept (t':=c.toks) λb o e=>zPO _ e,xn4 a _,⟨_,z9 _ rfl,rfl,rfl⟩,λb n=>?_,q⟩;have e:b=c.heap.objs.size:=by simpa using n
 subst e;exact f.fpOk (zZ _) (f.hok.fresh (zZ _))
theorem xvl{l:Expr}{tl:TE}(m:PE X l tl):PI X tg l (iTup X.K tl):=by
 intro pins s σ H R I h;refine thn (m pins s σ H _ I h) λv c ⟨x,H1,f,g,i⟩=>?_;obtain⟨a,e,⟨xs,j⟩,q⟩:=i;subst e;cases g;obtain⟨its,r,p,hz⟩:=f.tuple j;refine wpAny_pyIter_tuple (show c.heap.IsTuple a its.toArray from p) ?_;refine⟨c.heap.objs.size,[c.heap.objs.size],_,_,H1,rfl,f.kept (t':=c.toks) λb o e=>zPO _ e,xna a _,⟨_,z9 _ rfl,rfl,rfl⟩,λb n=>?_,q⟩;have e:b=c.heap.objs.size:=by simpa using n
 subst e;exact f.fpOk (zZ _) (f.hok.fresh (zZ _))
theorem xmg {pins:List (Addr×Obj)} {σ:St} {H:Hp} {s:Shared} {R:It->Hp->Prop} {E:Value->Shared->Prop} {lo hi:Int} {t u v:Tok} {tk:Nat} (I:Inv X pins σ H s) (h1:-(2 ^ 62)<=lo) (h2:lo<2 ^ 62) (h3:-(2 ^ 62)<=hi) (h4:hi<2 ^ 62)
  (q:R (Itr lo (hi-lo).toNat) H):wpAny (model X.prog X.w) X.A (pyIter (.ref s.heap.objs.size)) (PIE X pins σ tg R) E {s with heap:=s.heap.push {cls:=.type "range",data:=.fields #[.int lo t,.int hi u,.int 1 v]},toks:=tk}:=by
 refine wpAny_pyIter_range (IsRange.new ..) (small_one h1 h2 h3 h4) ?_;have I1:Inv X pins σ H {s with heap:=s.heap.push {cls:=.type "range",data:=.fields #[.int lo t,.int hi u,.int 1 v]},toks:=tk}:=I.kept λb o e=>zPO _ e
 refine⟨(s.heap.push {cls:=.type "range",data:=.fields #[.int lo t,.int hi u,.int 1 v]}).objs.size,[(s.heap.push {cls:=.type "range",data:=.fields #[.int lo t,.int hi u,.int 1 v]}).objs.size],_,_,H,rfl,
  I1.kept (t':=tk) λb o e=>zPO _ e,xnb _ lo (hi-lo).toNat,?_,λb hb=>?_,q⟩
 ·have e1:lo+((0:Nat):Int)*1=lo:=by simp
  have e2:(((hi-lo).toNat:Nat):Int)-((0:Nat):Int)=Builtin.Range.rangeSize lo hi 1:=by rw[rangeSize_one];split <;> omega
  show IsRangeIter _ _ (lo+((0:Nat):Int)*1) ((((hi-lo).toNat:Nat):Int)-((0:Nat):Int)) 1;rw[e1,e2];exact z9 _ rfl
 ·have e:b=(s.heap.push {cls:=.type "range",data:=.fields #[.int lo t,.int hi u,.int 1 v]}).objs.size:=by simpa using hb
  subst e;exact I1.fpOk (zZ _) (I1.hok.fresh (zZ _))
def xxo(ta:TA):TI:=λσ H R=>ta σ H λvs H1=>∃j:Int,vs=[.int j]/\-(2 ^ 62)<=j/\j<2 ^ 62/\R (Itr 0 j.toNat) H1
def xxn(ta:TA):TI:=λσ H R=>ta σ H λvs H1=>∃i j:Int,vs=[.int i,.int j]/\(-(2 ^ 62)<=i/\i<2 ^ 62/\-(2 ^ 62)<=j/\j<2 ^ 62)/\R (Itr i (j-i).toNat) H1
theorem xcj{a:Expr}{ta:TA}{p pos:Pos}(l:Gl X "range")(i:X.mg "range"=none)(m:PA X [a] ta)(hs:starEach [a] X.env=[(false,eval a X.env)]:=by rfl):PI X tg (.Call (.Name "range" p) [a] [] pos) (xxo ta):=by
 intro pins s σ H R I h;refine Call_ (xgk I l i boot_range (PyProof.Rows.callWith_type1 (thn (m pos pins s σ H _ I h) λus o ⟨vs,H1,n,f,b⟩=>?_) hs rfl));obtain⟨j,e,b,g,q⟩:=b;subst e
 cases f with
 |cons r c=>
  cases c;obtain⟨t,rfl⟩:=r;exact call_range_1 (xmg n (by omega) (by omega) b g (by simpa using q))
theorem xot {a b:Expr} {ta:TA} {p pos:Pos} (x:Gl X "range") (w:X.mg "range"=none) (y:PA X [a,b] ta) (hs:starEach [a,b] X.env=[(false,eval a X.env),(false,eval b X.env)]:=by rfl) (c:starEach [b] X.env=[(false,eval b X.env)]:=by rfl) :
  PI X tg (.Call (.Name "range" p) [a,b] [] pos) (xxn ta):=by
 intro pins s σ H R I h;refine Call_ (xgk I x w boot_range (PyProof.Rows.callWith_type1 (thn (y pos pins s σ H _ I h) λus C ⟨vs,H1,z,l,g⟩=>?_) (by rw[hs,c]) (by rw[c];rfl)));obtain⟨i,j,e,⟨g,u,o,n⟩,q⟩:=g;subst e
 cases l with
 | cons r f=>
  cases f with
  |cons m f=>
   cases f;obtain⟨t,rfl⟩:=r;obtain⟨t',rfl⟩:=m;exact call_range_2 (xmg z g u o n q)
def tFor(wi:TI)(g:TG)(tb:TS):TS:=λD σ H=>wi σ H λJ H1=>∃W:Nat->Nat->St->Hp->Prop,(∃m,W 0 m σ H1)/\∀i m σ H,W i m σ H->
 (J.stop i H/\D.nx σ H)\/(J.go i H/\∃N:St->Hp->Prop,(∀σ' H',N σ' H'->∃m',m'<m/\W (i+1) m' σ' H')/\∀x H',J.yld i H x H'->g x σ H' λσ2 H2=>tb {D with nx:=N,ct:=N,bk:=D.nx} σ2 H2)
def xje(fp:List Addr)(h:Heap):List (Addr×Obj):=fp.filterMap λb=>(h.get? b).map λo=>(b,o)
theorem xej{a:List Addr}{h:Heap}{b:Addr}{o:Obj}(c:b∈a)(e:h.get? b=some o):(b,o)∈xje a h:=List.mem_filterMap.mpr ⟨b,c,by rw[e];rfl⟩
theorem xpc{a:List Addr}{h:Heap}{p:Addr×Obj}(c:p∈xje a h):p.1∈a/\h.get? p.1=some p.2:=by
 obtain⟨b,f,e⟩:=List.mem_filterMap.mp c
 cases q:h.get? b with
 |none=>rw[q]at e;cases e
 |some o=>
  rw[q]at e;have g:(b,o)=p:=qC e;subst g;exact⟨f,q⟩
theorem Inv.pinned{pins:List (Addr×Obj)}{σ:St}{H:Hp}{s:Shared}{a:List Addr}(I:Inv X pins σ H s)(i:∀b∈a,FpOk X pins H b)(h:∀b∈a,∃o,s.heap.get? b=some o/\∀v,o.data≠.cell v):Inv X (pins++xje a s.heap) σ H s:=
 I.pins_of λp g=>(zMA g).elim (λz=>I.pin p (zJ _ z)) λz=>by
  obtain⟨c,e⟩:=xpc z;obtain⟨m,l,j,_⟩:=i p.1 c;obtain⟨o,f,d⟩:=h p.1 c;rw[e]at f;cases f;exact⟨e,m,l,j,d⟩
theorem Inv.unpinned{pins pl:List (Addr×Obj)}{σ:St}{H:Hp}{s:Shared}(I:Inv X (pins++pl) σ H s):Inv X pins σ H s:=I.pins_of λp a=>I.pin p (zJ _ (zR _ a))
theorem xci {j:Expr} {G:List Stmt} {wi:TI} {g:TG} {tb:TS} {pos:Pos} (hp:PassesOwn (model X.prog X.w) X.A X.env X.xe) (hc:X.calm=true) (hi:PI X tg j wi) (hg:PG X tg g) (l:PSs X G tb)
  (hs:∀x,foldedSetIterable j X.env x=pure x:=by intro _;rfl):PS X (.For tg j G [] pos) (tFor wi g tb):=by
 intro pins s σ H D I h;refine wpAny_For (thn (hi pins s σ H _ I h) λv s1 h1=>thn h1 λa5 s2 h2=>?_) hs;obtain⟨it,fp,tn,J,H2,e,I2,T,a2,f2,W,⟨m0,w0⟩,Y⟩:=h2;subst e;have c:∀{H':Hp},(∀b∈fp,H' b=none)->∀b∈fp,FpOk X pins H' b:=λhn b l=>⟨hn b l,(f2 b l).2⟩;refine codeAny_forLoop_any (λn s'=>∃i U H',Inv X pins U H' s'/\tn i s'.heap/\(∀b∈fp,H' b=none)/\W i n U H') ?_ m0 ⟨0,σ,H2,I2,a2,λb l=>(f2 b l).1,w0⟩;rintro n s3 ⟨i,O,H3,I3,a0,a1,w3⟩;rcases Y i n O H3 w3 with⟨Z,qn⟩ |⟨go,N,hN,step⟩
 ·refine wpAny_passesOwn hp (thn (T.done X rfl rfl rfl hc i pins s3 O H3 X.xe I3 (c a1) a0 Z) λr s4 ⟨hr,I4⟩=>?_)
  subst hr;exact wpAny_execs_nil ⟨O,H3,I4,qn⟩
 ·refine wpAny_passesOwn hp (thn (T.item X rfl rfl rfl hc i pins s3 O H3 X.xe I3 (c a1) a0 go) λr s4 ⟨u,hr,h4⟩=>?_)
  subst hr;refine wpAny_passesOwn hp (thn h4 λ_ s5 ⟨x,H5,I5,r5,y5,M,a3⟩=>?_);have a4:=I5.pinned (c a3) (T.obj _ _ M);refine wpAny_passesOwn hp (thn (hg _ s5 O H5 x u _ a4 r5 (step x H5 y5)) λ_ s6 ⟨σ6,H6,I6,q6⟩=>?_);refine wpAny_passesOwn hp (thn (l _ s6 σ6 H6 _ I6 q6) λf s7 C=>?_)
  have p:∀{a:St} {z:Hp},Inv X (pins++xje fp s5.heap) a z s7->N a z->∃m,m<n/\∃i U H',Inv X pins U H' s7/\tn i s7.heap/\(∀b∈fp,H' b=none)/\W i m U H':=λ{a z} y n7=>by
   obtain⟨m',hm,w7⟩:=hN a z n7;refine⟨m',hm,i+1,a,z,y.unpinned,T.keep _ _ _ M λb l o e=>(y.pin (b,o) (zJ _ (zJ _ (xej l e)))).1,λb l=>?_,w7⟩;obtain⟨o,e,d⟩:=T.obj _ _ M b l;exact(y.pin (b,o) (zJ _ (zJ _ (xej l e)))).2.1
  cases f with
  |next=>obtain⟨a,z,y,n7⟩:=C;exact p y n7
  |cont=>obtain⟨a,z,y,n7⟩:=C;exact p y n7
  |brk=>obtain⟨a,z,y,C⟩:=C;exact⟨a,z,y.unpinned,C⟩
  |ret v=>obtain⟨x7,a,z,y,r7,C⟩:=C;exact⟨x7,a,z,y.unpinned,r7,C⟩
end
theorem xd5 {K:Fg} {a:Addr} {xs:List V} {g:TG} {tb:TS} {D:Ends} {σ:St} {H:Hp} (Pv:Nat->St->Hp->Prop) (h0:Pv 0 σ H) (hl:∀i σ H,i<=xs.length->Pv i σ H->SqL K H a xs)
  (hs:∀i x σ H,xs[i]?=some x->Pv i σ H->g x σ H λσ2 H2=>tb {D with nx:=Pv (i+1),ct:=Pv (i+1),bk:=D.nx} σ2 H2) (hd:∀σ H,Pv xs.length σ H->D.nx σ H) :
  ∃W:Nat->Nat->St->Hp->Prop,(∃m,W 0 m σ H)/\∀i m σ H,W i m σ H->
   ((Itl K a).stop i H/\D.nx σ H)\/((Itl K a).go i H/\∃N:St->Hp->Prop,(∀σ' H',N σ' H'->∃m',m'<m/\W (i+1) m' σ' H')/\∀x H',(Itl K a).yld i H x H'->g x σ H' λσ2 H2=>tb {D with nx:=N,ct:=N,bk:=D.nx} σ2 H2):=by
 refine⟨λi m σ H=>m=xs.length-i/\i<=xs.length/\Pv i σ H,⟨xs.length,by simp,qO _,h0⟩,?_⟩;rintro i m σ H ⟨rfl,hi,p⟩;have q:=hl i σ H hi p;by_cases hlt:i<xs.length
 ·refine .inr ⟨⟨xs,xs[i],q,by simp[hlt]⟩,Pv (i+1),λσ' H' p'=>⟨xs.length-(i+1),by omega,rfl,hlt,p'⟩,λx H' y=>?_⟩
  obtain⟨e,y⟩:=y;subst e;exact hs i x σ _ (y xs q) p
 ·have e:i=xs.length:=by omega
  subst e;exact .inl ⟨⟨xs,q,zZ _⟩,hd σ H p⟩
theorem xd4 {K:Fg} {a:Addr} {xs:List V} {g:TG} {tb:TS} {D:Ends} {σ:St} {H:Hp} (b:Nat->St->Hp->Prop) (h0:b 0 σ H) (n:∀i σ H,i<=xs.length->b i σ H->SqT K H a xs)
  (hs:∀i x σ H,xs[i]?=some x->b i σ H->g x σ H λf H2=>tb {D with nx:=b (i+1),ct:=b (i+1),bk:=D.nx} f H2) (hd:∀σ H,b xs.length σ H->D.nx σ H) :
  ∃W:Nat->Nat->St->Hp->Prop,(∃m,W 0 m σ H)/\∀i m σ H,W i m σ H->
   ((Itt K a).stop i H/\D.nx σ H)\/((Itt K a).go i H/\∃N:St->Hp->Prop,(∀h H',N h H'->∃j,j<m/\W (i+1) j h H')/\∀x H',(Itt K a).yld i H x H'->g x σ H' λf H2=>tb {D with nx:=N,ct:=N,bk:=D.nx} f H2):=by
 refine⟨λi m σ H=>m=xs.length-i/\i<=xs.length/\b i σ H,⟨xs.length,by simp,qO _,h0⟩,?_⟩;rintro i m σ H ⟨rfl,hi,p⟩;have q:=n i σ H hi p;by_cases c:i<xs.length
 ·refine .inr ⟨⟨xs,xs[i],q,by simp[c]⟩,b (i+1),λh H' l=>⟨xs.length-(i+1),by omega,rfl,c,l⟩,λx H' y=>?_⟩
  obtain⟨e,y⟩:=y;subst e;exact hs i x σ _ (y xs q) p
 ·have e:i=xs.length:=by omega
  subst e;exact .inl ⟨⟨xs,q,zZ _⟩,hd σ H p⟩
theorem xc7 {lo:Int} {n:Nat} {g:TG} {tb:TS} {D:Ends} {σ:St} {H:Hp} (b:Nat->St->Hp->Prop) (h0:b 0 σ H)
  (hs:∀i σ H,i<n->b i σ H->g (.int (lo+i)) σ H λc H2=>tb {D with nx:=b (i+1),ct:=b (i+1),bk:=D.nx} c H2) (hd:∀σ H,b n σ H->D.nx σ H) :
  ∃W:Nat->Nat->St->Hp->Prop,(∃m,W 0 m σ H)/\∀i m σ H,W i m σ H->
   ((Itr lo n).stop i H/\D.nx σ H)\/((Itr lo n).go i H/\∃N:St->Hp->Prop,(∀f H',N f H'->∃h,h<m/\W (i+1) h f H')/\∀x H',(Itr lo n).yld i H x H'->g x σ H' λc H2=>tb {D with nx:=N,ct:=N,bk:=D.nx} c H2):=by
 refine⟨λi m σ H=>m=n-i/\i<=n/\b i σ H,⟨n,by simp,qO _,h0⟩,?_⟩;rintro i m σ H ⟨rfl,hi,p⟩;by_cases a:i<n
 ·refine .inr ⟨a,b (i+1),λf H' j=>⟨n-(i+1),by omega,rfl,a,j⟩,λx H' y=>?_⟩
  obtain⟨e,y⟩:=y;subst e y;exact hs i σ _ a p
 ·have e:i=n:=by omega
  subst e;exact .inl ⟨zZ _,hd σ H p⟩
abbrev R2:=V->V->Hp->VK->Prop
def OpR(X:Cx)(f:Value->Value->Sem Value)(r:R2):Prop:=
 ∀(pins:List (Addr×Obj)) (s:Shared) (σ:St) (H:Hp) (x y:V) (v u:Value) (Q:VK),Inv X pins σ H s->RelV x v->RelV y u->r x y H Q->
  wpAny (model X.prog X.w) X.A (f v u) (EP X pins σ Q) X.xe s
def UnR(X:Cx)(f:Value->Sem Value)(r:V->Hp->VK->Prop):Prop:=
 ∀(pins:List (Addr×Obj)) (s:Shared) (σ:St) (H:Hp) (x:V) (v:Value) (Q:VK),Inv X pins σ H s->RelV x v->r x H Q->
  wpAny (model X.prog X.w) X.A (f v) (EP X pins σ Q) X.xe s
def xd9(X:Cx)(f:Value)(r:List V->Hp->VK->Prop):Prop:=
 ∀(pins:List (Addr×Obj)) (s:Shared) (σ:St) (H:Hp) (xs:List V) (us:List Value) (Q:VK),Inv X pins σ H s->Vals xs us->r xs H Q->
  wpAny (model X.prog X.w) X.A (call f us) (EP X pins σ Q) X.xe s
def tOp(r:R2)(ta tb:TE):TE:=λσ H Q=>ta σ H λx H1=>tb σ H1 λy H2=>r x y H2 Q
def tUn(r:V->Hp->VK->Prop)(ta:TE):TE:=λσ H Q=>ta σ H λx H1=>r x H1 Q
def rI(C:Int->Int->Prop)(g:Int->Int->V):R2:=λx y H Q=>∃i j,x=.int i/\y=.int j/\C i j/\Q (g i j) H
def rI0(g:Int->Int->V):R2:=λx y H Q=>∃i j,x=.int i/\y=.int j/\Q (g i j) H
def rU(g:Int->V):V->Hp->VK->Prop:=λx H Q=>∃i,x=.int i/\Q (g i) H
section
variable {X:Cx}{a b c:Expr}{ta tb tc:TE}{pos:Pos}
theorem binT (r:PE X a ta) (p:PE X b tb) {pins:List (Addr×Obj)} {s:Shared} {σ:St} {H:Hp} {R:V->V->Hp->Prop} (I:Inv X pins σ H s)
  (h:ta σ H λx H1=>tb σ H1 λy H2=>R x y H2) {Q:Value->Shared->Prop} {f:Value->Value->Sem Value}
  (o:∀v u c x y H2,Inv X pins σ H2 c->RelV x v->RelV y u->R x y H2->wpAny (model X.prog X.w) X.A (f v u) Q X.xe c) :
  wpAny (model X.prog X.w) X.A (eval a X.env) (λv g=>wpAny (model X.prog X.w) X.A (eval b X.env) (λu e=>wpAny (model X.prog X.w) X.A (f v u) Q X.xe e) X.xe g) X.xe s:=by
 refine thn (r pins s σ H _ I h) λv i ⟨x,H1,C,l,n⟩=>?_;refine thn (p pins i σ H1 _ C n) λu c ⟨y,H2,z,j,m⟩=>?_;exact o v u c x y H2 z l j m
theorem xan{op:Operator}{r:R2}(g:OpR X (binaryOp op) r)(j:PE X a ta)(i:PE X b tb):PE X (.BinOp a op b pos) (tOp r ta tb):=by
 intro pins s σ H Q I h;exact wpAny_BinOp (binT j i I h λv u c x y H2 l f e q=>g pins c σ H2 x y v u Q l f e q)
theorem xxc{op:UnaryOp}{r:V->Hp->VK->Prop}(f:UnR X (unaryOp op) r)(g:PE X a ta):PE X (.UnaryOp op a pos) (tUn r ta):=by
 intro pins s σ H Q I h;exact UnaryOp_ (thn (g pins s σ H _ I h) λv b ⟨x,H1,i,c,e⟩=>f pins b σ H1 x v Q i c e)
theorem opI {f:Value->Value->Sem Value} {C:Int->Int->Prop} {g:Int->Int->Int}
  (a:∀(i j:Int) (t u:Tok) (s:Shared) (Q:Value->Shared->Prop) (E:Value->Shared->Prop),C i j->Q (.int (g i j) s.toks) {s with toks:=s.toks+1}->wpAny (model X.prog X.w) X.A (f (.int i t) (.int j u)) Q E s) :
  OpR X f (rI C λi j=>.int (g i j)):=by
 intro pins s σ H x y v u Q I c b h;obtain⟨i,j,rfl,rfl,e,q⟩:=h;obtain⟨t,rfl⟩:=c;obtain⟨t',rfl⟩:=b;exact a i j t t' s _ _ e ⟨.int (g i j),H,I.tok _,⟨_,rfl⟩,q⟩
theorem opI0 {f:Value->Value->Sem Value} {g:Int->Int->Int}
  (a:∀(i j:Int) (t u:Tok) (s:Shared) (Q:Value->Shared->Prop) (E:Value->Shared->Prop),Q (.int (g i j) s.toks) {s with toks:=s.toks+1}->wpAny (model X.prog X.w) X.A (f (.int i t) (.int j u)) Q E s) :
  OpR X f (rI0 λi j=>.int (g i j)):=by
 intro pins s σ H x y v u Q I c b h;obtain⟨i,j,rfl,rfl,q⟩:=h;obtain⟨t,rfl⟩:=c;obtain⟨t',rfl⟩:=b;exact a i j t t' s _ _ ⟨.int (g i j),H,I.tok _,⟨_,rfl⟩,q⟩
theorem opB0 {f:Value->Value->Sem Value} {g:Int->Int->Bool}
  (a:∀(i j:Int) (t u:Tok) (s:Shared) (Q:Value->Shared->Prop) (E:Value->Shared->Prop),Q (.bool (g i j)) s->wpAny (model X.prog X.w) X.A (f (.int i t) (.int j u)) Q E s) :
  OpR X f (rI0 λi j=>.bl (g i j)):=by
 intro pins s σ H x y v u Q I c b h;obtain⟨i,j,rfl,rfl,q⟩:=h;obtain⟨t,rfl⟩:=c;obtain⟨t',rfl⟩:=b;exact a i j t t' s _ _ ⟨.bl (g i j),H,I,rfl,q⟩
def CPow(i j:Int):Prop:=0<=j/\j<=1000000/\i.natAbs<2 ^ 64
def CMul(i j:Int):Prop:=(-(2 ^ 64)<i/\i<2 ^ 64)\/(-(2 ^ 64)<j/\j<2 ^ 64)
theorem CMul.ok{i j:Int}(h:CMul i j):IntMulOk i j:=by
 rcases h with⟨h1,h2⟩ |⟨h1,h2⟩
 ·exact .of_left (intBits_le_64 h1 h2)
 ·exact .of_right (intBits_le_64 h1 h2)
theorem xbe:OpR X (binaryOp .Add) (rI0 λi j=>.int (i+j)):=opI0 λ_ _ _ _ _ _ _ q=>add_int q
theorem xcy:OpR X (binaryOp .Sub) (rI0 λi j=>.int (i-j)):=opI0 λ_ _ _ _ _ _ _ q=>sub_int q
theorem xdp:OpR X (binaryOp .Mult) (rI CMul λi j=>.int (i*j)):=opI λ_ _ _ _ _ _ _ a q=>mul_int q a.ok
theorem xcm:OpR X (binaryOp .Mod) (rI (λ_ j=>0<j) λi j=>.int (i%j)):=opI λi j _ _ _ _ _ hc q=>by
 have h1:(0:Int)<j:=hc;exact mod_int' (by omega) (by rw[Int.fmod_eq_emod_of_nonneg i (by omega)];exact q)
theorem xso:OpR X (binaryOp .Pow) (rI CPow λi j=>.int (i ^ j.toNat)):=opI λ_ _ _ _ _ _ _ a q=>pow_int_small a.1 a.2.1 a.2.2 q
theorem unI {f:Value->Sem Value} {g:Int->Int}
  (a:∀(i:Int) (t:Tok) (s:Shared) (Q:Value->Shared->Prop) (E:Value->Shared->Prop),Q (.int (g i) s.toks) {s with toks:=s.toks+1}->wpAny (model X.prog X.w) X.A (f (.int i t)) Q E s) :
  UnR X f (rU λi=>.int (g i)):=by
 intro pins s σ H x v Q I b h;obtain⟨i,rfl,q⟩:=h;obtain⟨t,rfl⟩:=b;exact a i t s _ _ ⟨.int (g i),H,I.tok _,⟨_,rfl⟩,q⟩
theorem xur:UnR X (unaryOp .USub) (rU λi=>.int (-i)):=unI λ_ _ _ _ _ q=>neg_int q
end
def scal:V->V->Bool
 |.non,.non=>true |.non,.int _=>true |.int _,.non=>true |.non,.bl _=>true |.bl _,.non=>true |.non,.str _=>true |.str _,.non=>true
 |.int _,.int _=>true |.bl _,.bl _=>true |.str _,.str _=>true |.byt _,.byt _=>true
 |.int _,.str _=>true |.str _,.int _=>true |.bl _,.str _=>true |.str _,.bl _=>true
 |_,_=>false
def rEq:R2:=λx y H Q=>scal x y=true/\Q (.bl (decide (x=y))) H
def rNe:R2:=λx y H Q=>scal x y=true/\Q (.bl (!decide (x=y))) H
theorem xqe{i j:Int}:decide (V.int i=V.int j)=(i == j):=by
 rw[Bool.eq_iff_iff];simp
theorem xsz{i j:Bool}:decide (V.bl i=V.bl j)=(i == j):=by
 rw[Bool.eq_iff_iff];simp
theorem xqd{i j:Str}:decide (V.str i=V.str j)=(i == j):=by
 rw[Bool.eq_iff_iff];simp
theorem xqf{i j:Array UInt8}:decide (V.byt i=V.byt j)=(i.toList == j.toList):=by
 rw[Bool.eq_iff_iff];cases i;cases j;simp
section
variable {X:Cx}{a b c:Expr}{ta tb tc:TE}{pos:Pos}
theorem xbs{pins:List (Addr×Obj)}{σ:St}{H:Hp}{s:Shared}{Q:VK}{k k':Bool}(I:Inv X pins σ H s)(q:Q (.bl k) H)(e:k=k'):EP X pins σ Q (.bool k') s:=by
 subst e;exact⟨.bl k,H,I,rfl,q⟩
theorem xbd:OpR X (compareOp .Eq) rEq:=by
 intro pins s σ H x y v u Q I b a h;obtain⟨hs,q⟩:=h
 cases x with
 |non=>
  cases b
  cases y with
  |non=>cases a;exact PySem.EqNone.eq_none_none (xbs I q (by simp))
  |bl j=>cases a;exact PySem.EqNone.eq_none_bool (xbs I q (by simp))
  |int j=>obtain⟨t',rfl⟩:=a;exact PySem.EqNone.eq_none_int (xbs I q (by simp))
  |str j=>obtain⟨t',rfl⟩:=a;exact PySem.EqNone.eq_none_str (xbs I q (by simp))
  |_=>exact absurd (show false=true from hs) qB
 |bl i=>
  cases b
  cases y with
  |non=>cases a;exact PySem.EqNone.eq_bool_none (xbs I q (by simp))
  |bl j=>cases a;exact eq_bool (xbs I q xsz)
  |str j=>obtain⟨t',rfl⟩:=a;exact PySem.EqMixed.eq_bool_str (xbs I q (by simp))
  |_=>exact absurd (show false=true from hs) qB
 |int i=>
  obtain⟨t,rfl⟩:=b
  cases y with
  |non=>cases a;exact PySem.EqNone.eq_int_none (xbs I q (by simp))
  |int j=>obtain⟨t',rfl⟩:=a;exact eq_int (xbs I q xqe)
  |str j=>obtain⟨t',rfl⟩:=a;exact PySem.EqMixed.eq_int_str (xbs I q (by simp))
  |_=>exact absurd (show false=true from hs) qB
 |str i=>
  obtain⟨t,rfl⟩:=b
  cases y with
  |non=>cases a;exact PySem.EqNone.eq_str_none (xbs I q (by simp))
  |bl j=>cases a;exact PySem.EqMixed.eq_str_bool (xbs I q (by simp))
  |int j=>obtain⟨t',rfl⟩:=a;exact PySem.EqMixed.eq_str_int (xbs I q (by simp))
  |str j=>obtain⟨t',rfl⟩:=a;exact eq_str (xbs I q xqd)
  |_=>exact absurd (show false=true from hs) qB
 |byt i=>
  obtain⟨t,rfl⟩:=b
  cases y with
  |byt j=>obtain⟨t',rfl⟩:=a;exact PySem.W.eq_bytes (xbs I q xqf)
  |_=>exact absurd (show false=true from hs) qB
 |_=>cases y <;> exact absurd (show false=true from hs) qB
theorem xq5:OpR X (compareOp .NotEq) rNe:=by
 intro pins s σ H x y v u Q I b a h;obtain⟨hs,q⟩:=h
 cases x with
 |non=>
  cases b
  cases y with
  |non=>cases a;exact PySem.EqNone.ne_none_none (xbs I q (by simp))
  |bl j=>cases a;exact PySem.EqNone.ne_none_bool (xbs I q (by simp))
  |int j=>obtain⟨t',rfl⟩:=a;exact PySem.EqNone.ne_none_int (xbs I q (by simp))
  |str j=>obtain⟨t',rfl⟩:=a;exact PySem.EqNone.ne_none_str (xbs I q (by simp))
  |_=>exact absurd (show false=true from hs) qB
 |bl i=>
  cases b
  cases y with
  |non=>cases a;exact PySem.EqNone.ne_bool_none (xbs I q (by simp))
  |bl j=>cases a;exact ne_bool (xbs I q (congrArg not xsz))
  |str j=>obtain⟨t',rfl⟩:=a;exact PySem.EqMixed.ne_bool_str (xbs I q (by simp))
  |_=>exact absurd (show false=true from hs) qB
 |int i=>
  obtain⟨t,rfl⟩:=b
  cases y with
  |non=>cases a;exact PySem.EqNone.ne_int_none (xbs I q (by simp))
  |int j=>obtain⟨t',rfl⟩:=a;exact ne_int (xbs I q (congrArg not xqe))
  |str j=>obtain⟨t',rfl⟩:=a;exact PySem.EqMixed.ne_int_str (xbs I q (by simp))
  |_=>exact absurd (show false=true from hs) qB
 |str i=>
  obtain⟨t,rfl⟩:=b
  cases y with
  |non=>cases a;exact PySem.EqNone.ne_str_none (xbs I q (by simp))
  |bl j=>cases a;exact PySem.EqMixed.ne_str_bool (xbs I q (by simp))
  |int j=>obtain⟨t',rfl⟩:=a;exact PySem.EqMixed.ne_str_int (xbs I q (by simp))
  |str j=>obtain⟨t',rfl⟩:=a;exact ne_str (xbs I q (congrArg not xqd))
  |_=>exact absurd (show false=true from hs) qB
 |byt i=>
  obtain⟨t,rfl⟩:=b
  cases y with
  |byt j=>obtain⟨t',rfl⟩:=a;exact PySem.W.ne_bytes (xbs I q (congrArg not xqf))
  |_=>exact absurd (show false=true from hs) qB
 |_=>cases y <;> exact absurd (show false=true from hs) qB
theorem xft:OpR X (compareOp .Lt) (rI0 λi j=>.bl (decide (i<j))):=opB0 λ_ _ _ _ _ _ _ q=>lt_int q
theorem xdu:OpR X (compareOp .Gt) (rI0 λi j=>.bl (decide (j<i))):=opB0 λ_ _ _ _ _ _ _ q=>gt_int q
theorem xvw:OpR X (compareOp .GtE) (rI0 λi j=>.bl (decide (j<=i))):=opB0 λ_ _ _ _ _ _ _ q=>ge_int q
theorem xjh:OpR X (compareOp .Is) (λx y H Q=>y=.non/\Q (.bl (decide (x=.non))) H):=by
 intro pins s σ H x y v u Q I rx ry h;obtain⟨rfl,q⟩:=h;cases ry;refine is_none_gen (xbs I q ?_)
 cases x <;> first
  |(cases rx;rfl)
  |(obtain⟨t,rfl⟩:=rx;rfl)
theorem nM(b:Expr){op:CmpOp}(h:op≠.In:=by decide)(h2:op≠.NotIn:=by decide):behindInMarks op b=false:=by
 have c:(op == CmpOp.In)=false:=by cases op <;> first |rfl |exact absurd rfl h
 have a:(op == CmpOp.NotIn)=false:=by cases op <;> first |rfl |exact absurd rfl h2
 cases b <;> simp[behindInMarks,c,a]
theorem xea{op:CmpOp}{r:R2}(ho:OpR X (compareOp op) r)(ha:PE X a ta)(hb:PE X b tb)(hm:behindInMarks op b=false):PE X (.Compare a [op] [b] pos) (tOp r ta tb):=by
 intro pins s σ H Q I h;exact wpAny_Compare1 (binT ha hb I h λv u s2 x y H2 I2 rx ry q=>ho pins s2 σ H2 x y v u Q I2 rx ry q) hm
def xwv(t:TE):TT:=λσ H Q=>t σ H λx H'=>∃k,x=.bl k/\Q k H'
theorem pR{op:CmpOp}{r:R2}(p:OpR X (compareOp op) r)(G:PE X a ta)(C:PE X b tb)(w:behindInMarks op b=false):PT X (.Compare a [op] [b] pos) (xwv (tOp r ta tb)):=by
 intro pins s σ H Q I h
 refine wpAny_isTrue_Compare1 (thn (G pins s σ H _ I h) λv g ⟨x,H1,O,l,o⟩=>thn (C pins g σ H1 _ O o) λu f ⟨y,H2,M,j,n⟩=>
  thn (p pins f σ H2 x y v u _ M l j n) λc Y ⟨z,U,J,i,k,e,m⟩=>?_) w
 subst e;cases i;exact wpAny_truthy_bool ⟨U,J,m⟩
theorem xjy:(sizeLine:Nat)<2 ^ 63:=by rw[sizeLine_eq];decide
theorem xei:OpR X (binaryOp .Add) (λx y H Q=>∃i j,x=.str i/\y=.str j/\i.length+j.length<=sizeLine/\Q (.str (i++j)) H):=by
 intro pins s σ H x y v u Q I b a h;obtain⟨i,j,rfl,rfl,hz,q⟩:=h;obtain⟨t,rfl⟩:=b;obtain⟨t',rfl⟩:=a;exact add_str (λt' tk=>⟨.str (i++j),H,I.tok _,⟨_,rfl⟩,q⟩) hz
theorem xf5{x:V}{us:List Value}(r:Vals [x] us):∃u,us=[u]/\RelV x u:=by
 cases r with
 |cons b a=>cases a;exact⟨_,rfl,b⟩
theorem xup{x y:V}{us:List Value}(r:Vals [x,y] us):∃u a,us=[u,a]/\RelV x u/\RelV y a:=by
 cases r with
 |cons f e=>
  cases e with
  |cons c b=>cases b;exact⟨_,_,rfl,f,c⟩
theorem xqo(b:X.calm=true):xd9 X (.builtin "max") (λxs H Q=>∃i j,xs=[.int i,.int j]/\Q (.int (if j > i then j else i)) H):=by
 intro pins s σ H xs us Q I r h;obtain⟨i,j,rfl,q⟩:=h;obtain⟨u,c,rfl,⟨t,rfl⟩,⟨t',rfl⟩⟩:=xup r;refine max_two_ints (I.ok.hd b) λh' tk k=>⟨_,H,I.kept k,?_,q⟩;by_cases a:j > i
 ·rw[if_pos a,if_pos a];exact⟨_,rfl⟩
 ·rw[if_neg a,if_neg a];exact⟨_,rfl⟩
theorem xkg(b:X.calm=true):xd9 X (.builtin "min") (λxs H Q=>∃i j,xs=[.int i,.int j]/\Q (.int (if j<i then j else i)) H):=by
 intro pins s σ H xs us Q I r h;obtain⟨i,j,rfl,q⟩:=h;obtain⟨u,c,rfl,⟨t,rfl⟩,⟨t',rfl⟩⟩:=xup r;refine min_two_ints (I.ok.hd b) λh' tk k=>⟨_,H,I.kept k,?_,q⟩;by_cases a:j<i
 ·rw[if_pos a,if_pos a];exact⟨_,rfl⟩
 ·rw[if_neg a,if_neg a];exact⟨_,rfl⟩
theorem xfc:xd9 X (.type "int") (λxs H Q=>(∃i,xs=[.int i]/\Q (.int i) H)\/∃k,xs=[.bl k]/\Q (.int (if k then 1 else 0)) H):=by
 intro pins s σ H xs us Q I r h;rcases h with⟨i,rfl,q⟩ |⟨k,rfl,q⟩
 ·obtain⟨u,rfl,t,rfl⟩:=xf5 r
  exact call_int_int ⟨.int i,H,I,⟨_,rfl⟩,q⟩
 ·obtain⟨u,rfl,a⟩:=xf5 r
  cases a;exact call_int_bool ⟨.int (if k then 1 else 0),H,I.tok _,⟨_,rfl⟩,q⟩
end
structure ObjM(h:Heap)(x dx C:Addr)(mA:Str->Option Value):Prop where
 obj:h.get? x=some (PySem.W.instObj C dx)
 ns:h.Ns1 dx mA
 ne:dx≠x
theorem xpo{h:Heap}{dx:Addr}{mA:Str->Option Value}(n:h.Ns1 dx mA):∃od,h.get? dx=some od/\∀name,PySem.W.lookIn name od=some (mA name):=by
 obtain⟨o,es,ep,f,hd,i,_,g⟩:=n;refine⟨o,f,λname=>?_⟩;have e:=g name;unfold nsFind findBy at e;rw[<- Array.find?_toList]at e;unfold PySem.W.lookIn;rw[hd];dsimp only;split
 ·rename_i y q
  rw[q]at e;exact congrArg some e
 ·rename_i q
  rw[q]at e
  have a:es.toList.any (·.refKey)=false:=by
   rw[List.any_eq_false];intro y c;obtain⟨z,t,b⟩:=i y (Array.mem_toList_iff.mp c);simp[DictEntry.refKey,b]
  have j:¬es.toList.any (·.refKey)=true:=by rw[a];exact qB
  rw[if_neg j];exact congrArg some e
theorem ObjM.look{h:Heap}{x dx C:Addr}{mA:Str->Option Value}(I:ObjM h x dx C mA):∃od,PySem.W.InstAt h x (PySem.W.instObj C dx) C (some od)/\∀name,PySem.W.lookIn name od=some (mA name):=
 let ⟨od,a,b⟩:=xpo I.ns
 ⟨od,⟨I.obj,rfl,rfl,a⟩,b⟩
section
variable {prog:Program}{w:World}{A:Around}{E:Value->Shared->Prop}{s:Shared}{K:Fg}{x dx C f:Addr}{mA:Str->Option Value}{name:Str}{v:Value}
theorem xui {a:Bool} {Q:Value->Shared->Prop} (X:K.In s.heap) (I:ObjM s.heap x dx C mA) (g:PySem.W.plainGet K C name=true) (f:PySem.W.hasDictIn K C=true)
  (i:PySem.W.findIn K (.ref C) name=some none) (c:mA name=some v) (b:PySem.W.handedIn v=true) (h:Q v {s with toks:=s.toks+1}) :
  wpAny (model prog w) A (getAttr (.ref x) name a) Q E s:=by
 obtain⟨od,J,e⟩:=I.look;exact PySem.W.get_value X J (PySem.W.plainGet_of g).1 (PySem.W.findObj_own f i rfl (by rw[e,c])) b h
theorem xrz {pl:Sem Bool} {Q:Value×List Value->Shared->Prop} (X:K.In s.heap) (I:ObjM s.heap x dx C mA) (a:PySem.W.plainGet K C name=true)
  (g:PySem.W.findIn K (.ref C) name=some (some (.ref f))) (c:PySem.W.isFn K (.ref f)=true) (b:mA name=none) (h:Q (.ref f,[.ref x]) s) :
  wpAny (model prog w) A (getMethod (.ref x) name pl) Q E s:=by
 obtain⟨od,J,e⟩:=I.look;exact PySem.W.method_fn X J (PySem.W.plainGet_of a).1 (PySem.W.plainGet_of a).2 g (beq_iff_eq.mp c) (by show(PySem.W.lookIn name od).map (·.isSome)=some false;rw[e,b];rfl) h
theorem xti {ns:List Str} {Q:Unit->Shared->Prop} (X:K.In s.heap) (I:ObjM s.heap x dx C mA)
  (hs:PySem.W.findIn K (.ref C) "__setattr__"=some (some (.builtin "object.__setattr__"))) (o:PySem.W.plainOver K C=true) (n:PySem.W.takerIn K C name=some none) (p:PySem.W.hasDictIn K C=true)
  (m:PySem.Within mA ns) (hsz:ns.length<=sizeLine)
  (h:∀h',ObjM h' x dx C (λy=>if y=name then some v else mA y)->Heap.SameBut dx s.heap h'->Q () {s with heap:=h',toks:=s.toks+2}) :
  wpAny (model prog w) A (setAttr (.ref x) name v) Q E s:=by
 obtain⟨od,J,O⟩:=I.look;refine PySem.W.set_plain X J hs (PySem.W.osa_open (s:={s with toks:=s.toks+1}) (r:=none) X J o n λb=>?_);obtain⟨U,u,i⟩:=PySem.W.any_some p;have l:s.heap.get? x=some ⟨.ref C,some dx,.plain,#[]⟩:=I.obj;refine zX (z5 (zX (zX (wpAny_loadPart l (zX (PySem.W.Looks.here (s:={s with toks:=s.toks+1}) (PySem.W.looks_clsIn X u) ?_))))));rw[i];refine z5 (a:=some dx) (zX (z5 (zX ?_)));refine wpAny_nsSet1 (s:={s with toks:=s.toks+1}) I.ns λh' e c=>?_;obtain⟨M,z,G,f,g,j⟩:=e.count (PySem.Within.cons name v m);refine zX (wpAny_lookBehind f (by rw[g];exact pastItsLine_dict (zY j (by rw[List.length_cons];omega))) ?_);exact z5 (h _ ⟨(c.2 _ (Ne.symm I.ne)).trans I.obj,e,I.ne⟩ c)
theorem xrq {R:Result->Shared->Prop} {vs:List Value} {kw:List (Str×Value)} (X:K.In s.heap) (hm:PySem.W.makesIn K C=true)
  (hi:PySem.W.findIn K (.ref C) "__init__"=some (some (.ref f))) (hf:PySem.W.typeIn K (.ref f)=some (.type "function"))
  (h:codeAny (model prog w) (A.under (.builtin "type.__call__" ⟨.ref C::vs,kw⟩)) (.call (.ref f) ⟨.ref (s.heap.objs.size+1)::vs,kw⟩) (PySem.W.InitBack (s.heap.objs.size+1) R)
   {s with heap:=(s.heap.push PySem.W.emptyDict).push (PySem.W.instObj C s.heap.objs.size)}) :
  codeAny (model prog w) A (.call (.ref C) ⟨vs,kw⟩) R s:=by
 obtain⟨hh,g,d,t,os⟩:=s;exact PySem.W.make_core (PySem.W.makes_of X hm) (PySem.W.looks_findIn X hi) (λself=>PySem.W.bind_fn X self hf) (.inl rfl) h
end
def putF(f:Str)(v:V):List (Str×V)->List (Str×V)
 |[]=>[(f,v)]
 |(g,x)::r=>if g=f then (g,v)::r else (g,x)::putF f v r
theorem xbq(f g:Str)(v:V):∀fs:List (Str×V),(putF f v fs).lookup g=if g=f then some v else fs.lookup g
 | []=>by
  show List.lookup g [(f,v)]=_;by_cases h:g=f
  ·have a:(g == f)=true:=beq_iff_eq.mpr h
   simp only[List.lookup,a,if_pos h]
  ·have a:(g == f)=false:=beq_eq_false_iff_ne.mpr h
   simp only[List.lookup,a,if_neg h]
 | (k,x)::r=>by
  have c:=xbq f g v r;rw[show putF f v ((k,x)::r)=(if k=f then (k,v)::r else (k,x)::putF f v r) from rfl];by_cases b:k=f
  ·rw[if_pos b]
   by_cases h:g=k
   ·have a:(g == k)=true:=beq_iff_eq.mpr h
    simp only[List.lookup,a,if_pos (h.trans b)]
   ·have a:(g == k)=false:=beq_eq_false_iff_ne.mpr h
    simp only[List.lookup,a,if_neg (λe:g=f=>h (e.trans b.symm))]
  ·rw[if_neg b]
   by_cases h:g=k
   ·have a:(g == k)=true:=beq_iff_eq.mpr h
    simp only[List.lookup,a,if_neg (λe:g=f=>b (h.symm.trans e))]
   ·have a:(g == k)=false:=beq_eq_false_iff_ne.mpr h
    simp only[List.lookup,a];exact c
theorem xgm(f:Str)(v:V):∀fs:List (Str×V),f∈(putF f v fs).map (·.1)/\∀g,g∈fs.map (·.1)->g∈(putF f v fs).map (·.1)
 |[]=>⟨by simp[putF],λg h=>by simp at h⟩
 | (k,x)::r=>by
  obtain⟨c,b⟩:=xgm f v r;rw[show putF f v ((k,x)::r)=(if k=f then (k,v)::r else (k,x)::putF f v r) from rfl];by_cases a:k=f
  ·rw[if_pos a]
   subst a;exact⟨by simp,λg h=>by simpa using h⟩
  ·rw[if_neg a]
   refine⟨?_,λg h=>?_⟩
   ·rw[List.map_cons]
    exact qF _ c
   ·rw[List.map_cons]at h⊢
    rcases zMC h with e |e
    ·exact List.mem_cons.mpr (.inl e)
    ·exact qF _ (b g e)
theorem xar(f:Str)(v:V):∀fs:List (Str×V),(putF f v fs).length<=fs.length+1
 |[]=>by simp[putF]
 |(k,x)::r=>by
  have b:=xar f v r;rw[show putF f v ((k,x)::r)=(if k=f then (k,v)::r else (k,x)::putF f v r) from rfl];by_cases a:k=f
  ·rw[if_pos a,List.length_cons,List.length_cons];omega
  ·rw[if_neg a,List.length_cons,List.length_cons];omega
theorem RelO.some_of{v:V}{o:Option Value}(r:RelO (some v) o):∃u,o=some u/\RelV v u:=by
 cases o with
 |none=>exact(show False from r).elim
 |some u=>exact⟨u,rfl,r⟩
theorem RelO.none_of{o:Option Value}(r:RelO none o):o=none:=by
 cases o with
 |none=>rfl
 |some u=>exact(show False from r).elim
theorem xp1{v:V}{u:Value}(r:RelV v u):PySem.W.handedIn u=true:=by
 cases v with
 |non=>cases (show u=Value.none from r);rfl
 |bl b=>cases (show u=Value.bool b from r);rfl
 |int i=>obtain⟨t,e⟩:=(show ∃t,u=Value.int i t from r);cases e;rfl
 |str x=>obtain⟨t,e⟩:=(show ∃t,u=Value.str x t from r);cases e;rfl
 |byt b=>obtain⟨t,e⟩:=(show ∃t,u=Value.bytes b t from r);cases e;rfl
 |flt b=>obtain⟨t,e⟩:=(show ∃t,u=Value.float b t from r);cases e;rfl
 |ref a=>cases (show u=Value.ref a from r);rfl
 |ty n=>cases (show u=Value.type n from r);rfl
section
variable {P:Program}{w:World}{H H':Hp}{h h':Heap}{a C dx:Addr}{fs fs':List (Str×V)}
theorem xij(b:HOk P w H h)(e:H a=some (.ins C dx fs)):∃mA,ObjM h a dx C mA/\(∀f,RelO (fs.lookup f) (mA f))/\PySem.Within mA (fs.map (·.1))/\fs.length<=1000/\H dx=some (.own a):=by
 obtain⟨d,z,ne,c,mA,n,r,q⟩:=(show ObjOk P w H h a (.ins C dx fs) from b a _ e);exact⟨mA,⟨c,n,ne⟩,r,q,z,d⟩
end
structure Cls(K:Fg)(C:Addr):Prop where
 pg:PySem.W.plainGet K C Str.empty=true
 hd:PySem.W.hasDictIn K C=true
 po:PySem.W.plainOver K C=true
 sa:PySem.W.findIn K (.ref C) "__setattr__"=some (some (.builtin "object.__setattr__"))
theorem Cls.get{K:Fg}{C:Addr}(c:Cls K C)(f:Str):PySem.W.plainGet K C f=true:=c.pg
def NoAttr(K:Fg)(C:Addr)(f:Str):Prop:=PySem.W.findIn K (.ref C) f=some none
theorem NoAttr.taker{K:Fg}{C:Addr}{f:Str}(n:NoAttr K C f):PySem.W.takerIn K C f=some none:=by
 unfold PySem.W.takerIn;rw[show PySem.W.findIn K (.ref C) f=some none from n];rfl
structure Meth(K:Fg)(C:Addr)(m:Str)(f:Addr):Prop where
 at_:PySem.W.findIn K (.ref C) m=some (some (.ref f))
 fn:PySem.W.isFn K (.ref f)=true
 kp:PySem.W.keepIn K (.ref f)=true
section
variable {X:Cx}{pins:List (Addr×Obj)}{σ:St}{H:Hp}{s:Shared}{a C dx:Addr}{fs:List (Str×V)}{f:Str}{v:V}{A:Around}{E:Value->Shared->Prop}
theorem xnu {b:Bool} {Q:Value->Shared->Prop} (I:Inv X pins σ H s) (e:H a=some (.ins C dx fs)) (c:Cls X.K C) (n:NoAttr X.K C f) (l:fs.lookup f=some v)
  (h:∀u s',Inv X pins σ H s'->RelV v u->Q u s'):wpAny (model X.prog X.w) A (getAttr (.ref a) f b) Q E s:=by
 obtain⟨mA,O,r,_,_,_⟩:=xij I.hok e;obtain⟨u,i,g⟩:=RelO.some_of (v:=v) (o:=mA f) (by rw[<- l];exact r f);exact xui I.kIn O (c.get f) c.hd n i (xp1 g) (h u _ (I.tok _) g)
theorem xhg {m:Str} {g:Addr} {pl:Sem Bool} {Q:Value×List Value->Shared->Prop} (I:Inv X pins σ H s) (e:H a=some (.ins C dx fs)) (c:Cls X.K C) (k:Meth X.K C m g) (l:fs.lookup m=none)
  (h:Q (.ref g,[.ref a]) s):wpAny (model X.prog X.w) A (getMethod (.ref a) m pl) Q E s:=by
 obtain⟨mA,O,r,_,_,_⟩:=xij I.hok e;have hn:mA m=none:=RelO.none_of (by rw[<- l];exact r m);exact xrz I.kIn O (c.get m) k.at_ k.fn hn h
theorem xnh {y:V} {u:Value} {Q:Unit->Shared->Prop} (I:Inv X pins σ H s) (e:H a=some (.ins C dx fs)) (c:Cls X.K C) (n:NoAttr X.K C f) (U:fs.length<1000) (p:RelV y u)
  (h:∀s',Inv X pins σ (upd H a (.ins C dx (putF f y fs))) s'->Q () s'):wpAny (model X.prog X.w) A (setAttr (.ref a) f u) Q E s:=by
 obtain⟨mA,O,r,j,_,l⟩:=xij I.hok e;have hz:(fs.map (·.1)).length<=sizeLine:=by rw[zLM,sizeLine_eq];omega
 refine xti I.kIn O c.sa c.po n.taker c.hd j hz λh' i m=>h _ ?_;have hd:∃o,h'.get? dx=some o:=let ⟨o,_,_,M,_⟩:=i.ns;⟨o,M⟩;refine I.write (x:=a) (e:=dx) (by rw[e];exact True.intro) (.inr l) (λb q J z=>(m.2 b J).trans z) hd ?_;refine⟨by rw[xai O.ne];exact l,?_,O.ne,i.obj,_,i.ns,λg=>?_,λg G=>?_⟩
 ·have:=xar f y fs;omega
 ·show RelO ((putF f y fs).lookup g) (if g=f then some u else mA g)
  rw[xbq];by_cases q:g=f
  ·rw[if_pos q,if_pos q];exact p
  ·rw[if_neg q,if_neg q];exact r g
 ·by_cases q:g=f
  ·rw[q];exact(xgm f y fs).1
  ·refine(xgm f y fs).2 g (j g λz=>G ?_)
   show(if g=f then some u else mA g)=none;rw[if_neg q];exact z
theorem Inv.made (I:Inv X pins σ H s):Inv X pins σ (upd (upd H s.heap.objs.size (.own (s.heap.objs.size+1))) (s.heap.objs.size+1) (.ins C s.heap.objs.size []))
  {s with heap:=(s.heap.push PySem.W.emptyDict).push (PySem.W.instObj C s.heap.objs.size)}:=by
 have e1:(s.heap.push PySem.W.emptyDict).get? s.heap.objs.size=some PySem.W.emptyDict:=z9 s.heap rfl
 have e2:((s.heap.push PySem.W.emptyDict).push (PySem.W.instObj C s.heap.objs.size)).get? (s.heap.objs.size+1)=some (PySem.W.instObj C s.heap.objs.size):=by
  have:=z9 (s.heap.push PySem.W.emptyDict) (o:=PySem.W.instObj C s.heap.objs.size) rfl
  rwa[Heap.size_push]at this
 have e3:(s.heap.push PySem.W.emptyDict).Ns s.heap.objs.size (λ_=>none):=⟨PySem.W.emptyDict,#[],_,e1,rfl,(λe he=>absurd he (by simp)),λ_=>rfl⟩;have I1:=I.laid (a:=s.heap.objs.size) (o:=.own (s.heap.objs.size+1)) (h':=s.heap.push PySem.W.emptyDict) (t':=s.toks) (λb u q=>zPO _ q) (zZ _) ⟨_,e1⟩;refine I1.laid (a:=s.heap.objs.size+1) (o:=.ins C s.heap.objs.size []) (t':=s.toks) (λb u q=>zPO _ q) (Nat.le_of_eq (Heap.size_push _ _)) ?_;have ne:s.heap.objs.size≠s.heap.objs.size+1:=qD (Nat.lt_succ_self _);refine⟨by rw[xai ne,ups],qO _,ne,e2,λ_=>none,(Heap.Ns1.of_empty e3).at λo q=>zPO _ q,λ_=>True.intro,λy hy=>absurd rfl hy⟩
theorem xuo {prog:Program} {w:World} {env:Env} {e:Expr} {f:Str} {pos:Pos} {s:Shared} {Q:Value->Shared->Prop} (hb:attributeBase e f env (eval e env)=eval e env)
  (h:wpAny (model prog w) A (eval e env) (λo s₁=>wpAny (model prog w) A (getAttr o f true) Q E s₁) E s):wpAny (model prog w) A (eval (.Attribute e f pos) env) Q E s:=
 Attribute_any_ h (by rw[arm_eval_Attribute,hb])
end
def tFld(K:Fg)(ta:TE)(f:Str):TE:=λσ H Q=>ta σ H λx H1=>∃a C dx fs v,x=.ref a/\H1 a=some (.ins C dx fs)/\Cls K C/\NoAttr K C f/\fs.lookup f=some v/\Q v H1
def sFld(K:Fg)(ta tv:TE)(f:Str):TS:=λD σ H=>tv σ H λy H1=>ta σ H1 λx H2=>∃a C dx fs,x=.ref a/\H2 a=some (.ins C dx fs)/\Cls K C/\NoAttr K C f/\fs.length<1000 ∧
 D.nx σ (upd H2 a (.ins C dx (putF f y fs)))
section
variable {X:Cx}{o e value:Expr}{f:Str}{pos pos' tpos:Pos}{ta tv:TE}
theorem xck(i:PE X e ta)(j:attributeBase e f X.env (eval e X.env)=eval e X.env):PE X (.Attribute e f pos) (tFld X.K ta f):=by
 intro pins s σ H Q I h;refine xuo j (thn (i pins s σ H _ I h) λu y ⟨x,H1,p,b,a,C,dx,fs,v,ex,m,c,n,l,q⟩=>?_);subst ex;obtain rfl:u=Value.ref a:=b;exact xnu p m c n l λr w o g=>⟨v,H1,o,g,q⟩
theorem xdn(p:PE X o ta)(m:PE X value tv)(hs:swapsWith value (some (.Attribute o f pos')) pos.line X.env=pure false):PS X (.Assign [.Attribute o f pos'] value pos) (sFld X.K ta tv f):=by
 intro pins s σ H D I h;refine plainObj_wpAny_Assign_Attribute (thn (m pins s σ H _ I h) λu b ⟨y,H1,G,e,q⟩=>thn (p pins b σ H1 _ G q) λj M ⟨x,H2,z,g,a,C,dx,fs,ex,r,c,n,l,i⟩=>?_) hs;subst ex;obtain rfl:j=Value.ref a:=g;exact xnh z r c n l e λJ w=>⟨σ,_,w,i⟩
end
section
variable {X:Cx}{pins:List (Addr×Obj)}{σ:St}{H:Hp}{s:Shared}{A:Around}{E:Value->Shared->Prop}{Q:Value->Shared->Prop}{c:Value}{b:Bool}
inductive TyOf(K:Fg)(H:Hp):V->Value->Prop where
 |non:TyOf K H .non (.type "NoneType")
 |bl (x:Bool):TyOf K H (.bl x) (.type "bool")
 |int (i:Int):TyOf K H (.int i) (.type "int")
 |str (x:Str):TyOf K H (.str x) (.type "str")
 |flt (x:UInt64):TyOf K H (.flt x) (.type "float")
 |lst {a:Addr} {xs:List V} (e:H a=some (.lst xs)):TyOf K H (.ref a) (.type "list")
 |frz {a:Addr} {o:Obj} {xs:List V} (e:H a=some (.frz o (.lst xs))):TyOf K H (.ref a) (.type "list")
 |tup {a:Addr} {xs:List V} (e:H a=some (.tup xs)):TyOf K H (.ref a) (.type "tuple")
 |dK {a:Addr} {kvs:List (Key×V)} (e:H a=some (.dK kvs)):TyOf K H (.ref a) (.type "dict")
 |dT {a:Addr} {kvs:List (List Key×V)} (e:H a=some (.dT kvs)):TyOf K H (.ref a) (.type "dict")
 | ins {a C dx:Addr} {fs:List (Str×V)} (e:H a=some (.ins C dx fs)) (cl:Cls K C) (ha:PySem.W.findIn K (.ref C) "__class__"=some (some (.builtin "object.__class__")))
   (hn:PySem.W.specialIn K (.builtin "object.__class__") "__get__"=some (some (.builtin "getset_descriptor.__get__"))) (htk:PySem.W.takesIn K (.builtin "object.__class__")=some true)
   (hm:PySem.W.mroIn K C (.type "object")=some true):TyOf K H (.ref a) (.ref C)
theorem xpv {x:V} {u t:Value} (I:Inv X pins σ H s) (rx:RelV x u) (ty:TyOf X.K H x t) (e:PySem.W.kitOne X.K t c=some b) (h:∀tk,Q (.bool b) {s with toks:=tk}) :
  wpAny (model X.prog X.w) A (call (.builtin "isinstance") [u,c]) Q E s:=by
 cases ty with
 |non=>cases (show u=Value.none from rx);exact PySem.W.kia_one PySem.W.kitx_none I.kIn True.intro e (λz=>nomatch z) h
 |bl y=>cases (show u=Value.bool y from rx);exact PySem.W.kia_one PySem.W.kitx_bool I.kIn True.intro e (λz=>nomatch z) h
 |int i=>obtain⟨t,q⟩:=(show ∃t,u=Value.int i t from rx);cases q;exact PySem.W.kia_one PySem.W.kitx_int I.kIn True.intro e (λz=>nomatch z) h
 |str y=>obtain⟨t,q⟩:=(show ∃t,u=Value.str y t from rx);cases q;exact PySem.W.kia_one PySem.W.kitx_str I.kIn True.intro e (λz=>nomatch z) h
 |flt y=>obtain⟨t,q⟩:=(show ∃t,u=Value.float y t from rx);cases q;exact PySem.W.kia_one PySem.W.kitx_float I.kIn True.intro e (λz=>nomatch z) h
 |@lst a xs ea=>
  cases (show u=Value.ref a from rx);obtain⟨_,_,n,_,h1⟩:=(show ObjOk X.prog X.w H s.heap a (.lst xs) from I.hok a _ ea);exact PySem.W.kia_one PySem.W.kitx_list I.kIn ⟨_,h1,rfl⟩ e (λz=>nomatch z) h
 |@frz a ob xs ea=>
  cases (show u=Value.ref a from rx);obtain⟨_,_,_,n,_,h1⟩:=(show ObjOk X.prog X.w H s.heap a (.frz ob (.lst xs)) from I.hok a _ ea);exact PySem.W.kia_one PySem.W.kitx_list I.kIn ⟨_,h1,rfl⟩ e (λz=>nomatch z) h
 |@tup a xs ea=>
  cases (show u=Value.ref a from rx);obtain⟨_,_,_,p⟩:=(show ObjOk X.prog X.w H s.heap a (.tup xs) from I.hok a _ ea);obtain⟨o,h1,h2,_⟩:=p;exact PySem.W.kia_one PySem.W.kitx_tuple I.kIn ⟨o,h1,h2⟩ e (λz=>nomatch z) h
 |@dK a kvs ea=>
  cases (show u=Value.ref a from rx);obtain⟨_,_,vs,_,p⟩:=(show ObjOk X.prog X.w H s.heap a (.dK kvs) from I.hok a _ ea);obtain⟨o,es,ep,h1,h2,_⟩:=p;exact PySem.W.kia_one PySem.W.kitx_dict I.kIn ⟨o,h1,h2.1⟩ e (λz=>nomatch z) h
 |@dT a kvs ea=>
  cases (show u=Value.ref a from rx);obtain⟨_,_,xs,_,o,es,ep,h1,h2,_⟩:=(show ObjOk X.prog X.w H s.heap a (.dT kvs) from I.hok a _ ea);exact PySem.W.kia_one PySem.W.kitx_dict I.kIn ⟨o,h1,h2.1⟩ e (λz=>nomatch z) h
 |@ins a C dx fs ea cl ha hn htk hm=>
  cases (show u=Value.ref a from rx);obtain⟨mA,O,_⟩:=xij I.hok ea;obtain⟨od,J,_⟩:=O.look;exact PySem.W.kia_one (PySem.W.kitx_own (cl.get _) cl.hd ha hn htk hm) I.kIn J e (λz=>nomatch z) h
end
structure Room(k:Nat)(A:Around):Prop where
 hd:(A.handled,A.guards)=(none,some [])
 dp:A.depth+3*k+5<recursionLimit
 un:A.units+16*k+200<cLine
theorem Room.mono{j k:Nat}{A:Around}(r:Room k A)(h:j<=k):Room j A:=⟨r.hd,by have:=r.dp;omega,by have:=r.un;omega⟩
theorem Room.deeper{k:Nat}{A:Around}(r:Room (k+1) A)(env:Env):Room k (A.deeper env):=
 ⟨r.hd,by have:=r.dp;show A.depth+1+3*k+5<_;omega,by have:=r.un;show A.units+3+16*k+200<_;omega⟩
theorem xnr{A:Around}{C:Addr}{us:List Value}{kw:List (Str×Value)}:(A.under (.builtin "type.__call__" ⟨.ref C::us,kw⟩)).depth=A.depth+1:=by
 first |rfl |simp[Around.under,Code.weight,Code.isCreation,Code.isGuard,Code.isCaller,Code.frames,Code.isFrame,guardIds]
theorem xnq{A:Around}{C:Addr}{us:List Value}{kw:List (Str×Value)}:(A.under (.builtin "type.__call__" ⟨.ref C::us,kw⟩)).units=A.units+1:=by
 first |rfl |simp[Around.under,Code.cUnits,Code.frames,Code.isFrame]
theorem xll{A:Around}{C:Addr}{us:List Value}{kw:List (Str×Value)}:(A.under (.builtin "type.__call__" ⟨.ref C::us,kw⟩)).guards=A.guards:=by
 first |rfl |(cases h:A.guards <;> simp[Around.under,Code.guards,Code.isGuard,guardIds,pushGuards,h])
theorem Room.make{k:Nat}{A:Around}(r:Room (k+1) A)(C:Addr)(us:List Value)(kw:List (Str×Value)):Room k (A.under (.builtin "type.__call__" ⟨.ref C::us,kw⟩)):=
 ⟨by show(A.handled,_)=_;rw[xll];exact r.hd,by have:=r.dp;rw[xnr];omega,by have:=r.un;rw[xnq];omega⟩
theorem Room.depth{k:Nat}{A:Around}(r:Room k A):A.depth<recursionLimit:=by have:=r.dp;omega
theorem Room.units{k:Nat}{A:Around}(r:Room k A):A.units+64<cLine:=by have:=r.un;omega
def tNil:TA:=λ_ H Q=>Q [] H
def xnd(ta:TE)(tr:TA):TA:=λσ H Q=>ta σ H λx H1=>tr σ H1 λxs H2=>Q (x::xs) H2
section
variable {X:Cx}{e:Expr}{es:List Expr}{te:TE}{t:TA}{pos:Pos}
theorem pN:PA X [] tNil:=λ_ _ _ _ H Q I h=>Calls.spliced_nil ⟨[],H,I,.nil,h⟩
theorem pc(j:PE X e te)(i:PA X es t)(hs:starEach (e::es) X.env=(false,eval e X.env)::starEach es X.env:=by rfl):PA X (e::es) (xnd te t):=by
 intro pos pins s σ H Q I h;rw[hs];show wpAny _ _ (spliced ((false,eval e X.env)::backTo pos (starEach es X.env))) _ _ s;refine Calls.spliced_cons (thn (j pins s σ H _ I h) λu a ⟨x,H1,m,c,g⟩=>?_);exact thn (i pos pins a σ H1 _ m g) λus n ⟨xs,H2,l,b,f⟩=>⟨x::xs,H2,l,.cons c b,f⟩
def tTup(t:TA):TE:=λσ H Q=>t σ H λxs H1=>xs.length<=sizeLine/\∀p,H1 p=none->Q (.ref p) (upd H1 p (.tup xs))
def tLst(t:TA):TE:=λσ H Q=>t σ H λxs H1=>xs.length<=sizeLine/\∀p,H1 p=none->Q (.ref p) (upd H1 p (.lst xs))
theorem xaz{f}(h:PA X es t):PE X (.Tuple es f pos) (tTup t):=by
 intro pins s σ H Q I g;refine wpAny_Tuple_spliced (thn (h pos pins s σ H _ I g) λus a ⟨xs,H1,c,r,z,q⟩=>⟨by rw[<- r.length];exact z,?_⟩);have i:H1 a.heap.objs.size=none:=c.hok.fresh (zZ _);refine⟨.ref a.heap.objs.size,upd H1 a.heap.objs.size (.tup xs),c.laid (t':=a.toks) (λb u e=>zPO _ e) (zZ _) ?_,rfl,q _ i⟩;exact⟨z,us,r,⟨_,z9 _ rfl,rfl,_,rfl,rfl⟩⟩
theorem xbt(h:PA X es t):PE X (.List es pos) (tLst t):=by
 intro pins s σ H Q I f;refine wpAny_List_spliced (thn (h pos pins s σ H _ I f) λus a ⟨xs,H1,c,r,z,q⟩=>⟨by rw[<- r.length];exact z,?_⟩);have g:H1 a.heap.objs.size=none:=c.hok.fresh (zZ _);refine⟨.ref a.heap.objs.size,upd H1 a.heap.objs.size (.lst xs),c.laid (t':=a.toks) (λb u e=>zPO _ e) (zZ _) ?_,rfl,q _ g⟩;exact⟨z,us,0,r,z9 _ rfl⟩
end
abbrev Sp:=List V->Hp->VK->XK->Prop
abbrev CXT:=List Env->Hp->Shared->XK->Value->Shared->Prop
structure Env0(P:Program)(w:World)(K:Fg)(mg:Str->Option Value)(base:Heap)(A:Around)(outer:List Env)(s:Shared)(H:Hp):Prop where
 frames:A.frames=some outer
 mod:Mod K mg base
 bs:∀b o,base.get? b=some o->s.heap.get? b=some o/\H b=none
 bsz:base.objs.size<=s.heap.objs.size
 funs:s.heap.FunFrames base outer
 frf:∀b∈frs outer,H b=none
 hok:HOk P w H s.heap
 bare:AllBare s.gens
def CE(outer:List Env)(P:Program)(w:World)(H:Hp)(s:Shared)(Q:VK)(u:Value)(s':Shared):Prop:=
 ∃v H',s'.os=s.os/\AllBare s'.gens/\Un (frs outer) [] H H' s.heap s'.heap/\HOk P w H' s'.heap/\RelV v u/\Q v H'
def CR(CX:CXT)(outer:List Env)(P:Program)(w:World)(H:Hp)(s:Shared)(Q:VK)(E:XK)(r:Result)(s':Shared):Prop:=
 match r with
 |.ok (.ret u)=>CE outer P w H s Q u s'
 |.ok _=>False
 |.error e=>CX outer H s E e s'
structure FnOk(P:Program)(w:World)(K:Fg)(mg:Str->Option Value)(base:Heap)(CX:CXT)(k:Nat)(f:Addr)(fd:FuncData)(ps:List Str)(sp:Sp):Prop where
 len:∀vs H Q E,sp vs H Q E->vs.length=ps.length
 run:∀(A:Around) (outer:List Env) (s:Shared) (H:Hp) (args:Args) (us:List Value) (vs:List V) (Q:VK) (E:XK),Room k A->Env0 P w K mg base A outer s H->BindsTo s fd args (ps.zip us)->Vals vs us->sp vs H Q E->
  codeAny (model P w) A (.call (.ref f) args) (CR CX outer P w H s Q E) s
theorem FnOk.mono {P:Program} {w:World} {K:Fg} {mg:Str->Option Value} {base:Heap} {CX:CXT} {j k:Nat} {f:Addr} {fd:FuncData} {ps:List Str} {sp:Sp} (F:FnOk P w K mg base CX j f fd ps sp) (h:j<=k) :
  FnOk P w K mg base CX k f fd ps sp:=⟨F.len,λA outer s H args us vs Q E a=>F.run A outer s H args us vs Q E (a.mono h)⟩
theorem FnOk.imp {P:Program} {w:World} {K:Fg} {mg:Str->Option Value} {base:Heap} {CX:CXT} {k:Nat} {f:Addr} {fd:FuncData} {ps:List Str} {sp sp':Sp} (F:FnOk P w K mg base CX k f fd ps sp)
  (h:∀vs H Q E,sp' vs H Q E->sp vs H Q E):FnOk P w K mg base CX k f fd ps sp':=
 ⟨λvs H Q E q=>F.len vs H Q E (h _ _ _ _ q),λA outer s H args us vs Q E hr he hb hv hs=>F.run A outer s H args us vs Q E hr he hb hv (h _ _ _ _ hs)⟩
theorem Env0.make {P:Program} {w:World} {K:Fg} {mg:Str->Option Value} {base:Heap} {A:Around} {outer:List Env} {s:Shared} {H:Hp} (e:Env0 P w K mg base A outer s H) (C:Addr) (us:List Value) (kw:List (Str×Value)) :
  Env0 P w K mg base (A.under (.builtin "type.__call__" ⟨.ref C::us,kw⟩)) outer s H:=⟨by first |exact e.frames |(simpa[Around.under,Code.envs,Code.isFrame,pushEnvs] using e.frames),e.mod,e.bs,e.bsz,e.funs,e.frf,e.hok,e.bare⟩
section
variable {X:Cx}{pins:List (Addr×Obj)}{σ:St}{H:Hp}{s s':Shared}
theorem Inv.env0(I:Inv X pins σ H s):Env0 X.prog X.w X.K X.mg X.base X.A X.stack s H:=
 ⟨I.ok.frames,I.ok.mod,I.bs,zY I.ok.bsz I.sz,I.stack,I.stkFree,I.hok,I.bare⟩
theorem Inv.after{Q:VK}{u:Value}(I:Inv X pins σ H s)(h:CE X.stack X.prog X.w H s Q u s'):EP X pins σ Q u s':=by
 obtain⟨v,H',os,bare,un,hok,r,q⟩:=h;obtain⟨hh,g,d,t,os'⟩:=s';obtain rfl:os'=s.os:=os;exact⟨v,H',I.call (h':=hh) (g':=g) (d':=d) (t':=t) (ch:=[]) un hok bare (λb z=>absurd z (by simp)),r,q⟩
end
def xtd(sp:Sp)(dvs:List V)(E:XK)(t:TA):TE:=λσ H Q=>t σ H λvs H1=>sp (vs++dvs) H1 Q E
def xn7(C:Addr)(m:Str)(sp:Sp)(dvs:List V)(E:XK)(ta:TE)(t:TA):TE:=λσ H Q=>ta σ H λx H1=>∃a dx fs,x=.ref a/\H1 a=some (.ins C dx fs)/\fs.lookup m=none ∧
 t σ H1 λvs H2=>sp (x::(vs++dvs)) H2 Q E
def xu3(C:Addr)(sp:Sp)(dvs:List V)(E:XK)(t:TA):TE:=λσ H Q=>t σ H λvs H1=>∀x dx,H1 x=none->H1 dx=none->dx≠x->
 sp (.ref x::(vs++dvs)) (upd (upd H1 dx (.own x)) x (.ins C dx [])) (λv H2=>v=.non/\Q (.ref x) H2) E
def Binds(K:Fg)(fd:FuncData)(ps:List Str)(ds:List Value):Prop:=
 ∀(s:Shared) (us:List Value),K.In s.heap->(us++ds).length=ps.length->BindsTo s fd ⟨us,[]⟩ (ps.zip (us++ds))
theorem Binds.all{K:Fg}{fd:FuncData}{ps:List Str}(h:∀us:List Value,us.length=ps.length->bindArgs fd ⟨us,[]⟩=pure (ps.zip us)):Binds K fd ps []:=λs us _ hl=>by
 rw[List.append_nil]at hl⊢;exact .of_eq (h us hl)
def xgx(CX:CXT)(X:Cx)(E:XK):Prop:=∀(pins:List (Addr×Obj)) (σ:St) (H:Hp) (s:Shared) (e:Value) (s':Shared),Inv X pins σ H s->CX X.stack H s E e s'->X.xe e s'
section
variable {X:Cx}{CX:CXT}{k:Nat}{f C:Addr}{fd:FuncData}{ps:List Str}{sp:Sp}{dvs:List V}{ds:List Value}{E:XK}{x m:Str}{p pos apos:Pos}{e o:Expr}{es:List Expr}{ta:TE}{t:TA}
theorem xme {pins:List (Addr×Obj)} {σ:St} {H:Hp} {s:Shared} {Q:VK} {us:List Value} {vs:List V} (F:FnOk X.prog X.w X.K X.mg X.base CX k f fd ps sp) (hr:Room k X.A) (hb:Binds X.K fd ps ds) (hd:Vals dvs ds) (hx:xgx CX X E)
  (I:Inv X pins σ H s) (r:Vals vs us) (h:sp (vs++dvs) H Q E):wpAny (model X.prog X.w) X.A (call (.ref f) us) (EP X pins σ Q) X.xe s:=by
 have r2:Vals (vs++dvs) (us++ds):=r.append hd;have hl:(us++ds).length=ps.length:=by rw[<- r2.length];exact F.len _ _ _ _ h
 refine wpAny_call (codeAny_mono (F.run X.A X.stack s H ⟨us,[]⟩ (us++ds) (vs++dvs) Q E hr I.env0 (hb s us I.kIn hl) r2 h) λr s' hq=>?_)
 cases r with
 |error e=>exact hx pins σ H s e s' I hq
 |ok fl=>
  cases fl with
  |ret u=>exact I.after hq
  |next=>exact False.elim hq
  |brk=>exact False.elim hq
  |cont=>exact False.elim hq
theorem xtt (F:FnOk X.prog X.w X.K X.mg X.base CX k f fd ps sp) (i:Room k X.A) (m:Gl X x) (j:X.mg x=some (.ref f)) (l:PySem.W.keepIn X.K (.ref f)=true) (o:Binds X.K fd ps ds) (hd:Vals dvs ds) (g:xgx CX X E)
  (u:PA X (e::es) t) (b:(x == ("__debug__":Str))=false:=by decide) (n:starEach (e::es) X.env=(false,eval e X.env)::starEach es X.env:=by rfl) (a:(backTo pos (starEach es X.env)).any (·.1)=false:=by rfl) :
  PE X (.Call (.Name x p) (e::es) [] pos) (xtd sp dvs E t):=by
 intro pins s σ H Q I h;refine wpAny_Call_Name_kw (xih I m j ?_ b);refine PySem.W.callWith_K (h₀:=X.base) I.ok.mod.kin l (thn (u pos pins s σ H _ I h) λus y ⟨vs,H1,c,r,q⟩=>⟨c.kIn,?_⟩) n a;exact xme F i o hd g c r q
theorem xtq {pl:Sem Bool} (he:PE X o ta) (c:Cls X.K C) (hm:Meth X.K C m f) (F:FnOk X.prog X.w X.K X.mg X.base CX k f fd ps sp) (hr:Room k X.A) (hb:Binds X.K fd ps ds) (hd:Vals dvs ds) (hx:xgx CX X E) (ha:PA X (e::es) t)
  (hst:starEach (e::es) X.env=(false,eval e X.env)::starEach es X.env:=by rfl) (hpl:(backTo pos (starEach es X.env)).any (·.1)=false:=by rfl)
  (ht:eval (.Call (.Attribute o m apos) (e::es) [] pos) X.env=(do
   let ov <- eval o X.env
   standAt apos.atName
   let (f,first) <- holding [ov] (getMethod ov m pl)
   callWith pos f first (backTo pos (starEach (e::es) X.env)) (backToKw pos (keywordEach [] X.env))):=by rfl) :
  PE X (.Call (.Attribute o m apos) (e::es) [] pos) (xn7 C m sp dvs E ta t):=by
 intro pins s σ H Q I h;refine PySem.W.methodCall_KW (pl:=pl) (thn (he pins s σ H _ I h) λu s1 ⟨x,H1,I1,rx,a,dx,fs,ex,ea,l,q⟩=>?_) ht;subst ex;obtain rfl:u=Value.ref a:=rx;refine xhg I1 ea c hm l ?_;refine PySem.W.callWith_K (first:=[.ref a]) (h₀:=X.base) I.ok.mod.kin hm.kp (thn (ha pos pins s1 σ H1 _ I1 q) λus s2 ⟨vs,H2,I2,r,q2⟩=>⟨I2.kIn,?_⟩) hst hpl;exact xme (us:=.ref a::us) (vs:=.ref a::vs) F hr hb hd hx I2 (.cons rfl r) q2
theorem xq2 {pl:Sem Bool} (he:PE X o ta) (c:Cls X.K C) (hm:Meth X.K C m f) (F:FnOk X.prog X.w X.K X.mg X.base CX k f fd ps sp) (hr:Room k X.A) (hb:Binds X.K fd ps ds) (hd:Vals dvs ds) (hx:xgx CX X E)
  (ht:eval (.Call (.Attribute o m apos) [] [] pos) X.env=(do
   let ov <- eval o X.env
   standAt apos.atName
   let (f,first) <- holding [ov] (getMethod ov m pl)
   callWith pos f first (backTo pos (starEach [] X.env)) (backToKw pos (keywordEach [] X.env))):=by rfl) :
  PE X (.Call (.Attribute o m apos) [] [] pos) (xn7 C m sp dvs E ta tNil):=by
 intro pins s σ H Q I h;refine PySem.W.methodCall_KW (pl:=pl) (thn (he pins s σ H _ I h) λu s1 ⟨x,H1,I1,rx,a,dx,fs,ex,ea,l,q⟩=>?_) ht;subst ex;obtain rfl:u=Value.ref a:=rx;refine xhg I1 ea c hm l ?_;exact PySem.W.callWith_K0 (first:=[.ref a]) I1.kIn hm.kp (xme (us:=[.ref a]) (vs:=[.ref a]) F hr hb hd hx I1 (.cons rfl .nil) q)
structure Mk(K:Fg)(C f:Addr):Prop where
 makes:PySem.W.makesIn K C=true
 init:PySem.W.findIn K (.ref C) "__init__"=some (some (.ref f))
 fn:PySem.W.isFn K (.ref f)=true
 kp:PySem.W.keepIn K (.ref C)=true
theorem xqz {pins:List (Addr×Obj)} {σ:St} {H:Hp} {s:Shared} {Q:VK} {us:List Value} {vs:List V} (M:Mk X.K C f) (F:FnOk X.prog X.w X.K X.mg X.base CX k f fd ps sp) (m:Room (k+1) X.A) (o:Binds X.K fd ps ds) (hd:Vals dvs ds)
  (l:xgx CX X E) (I:Inv X pins σ H s) (r:Vals vs us)
  (h:∀x dx,H x=none->H dx=none->dx≠x->sp (.ref x::(vs++dvs)) (upd (upd H dx (.own x)) x (.ins C dx [])) (λv H2=>v=.non/\Q (.ref x) H2) E) :
  wpAny (model X.prog X.w) X.A (call (.ref C) us) (EP X pins σ Q) X.xe s:=by
 have g:=h (s.heap.objs.size+1) s.heap.objs.size (I.hok.fresh (Nat.le_succ _)) (I.hok.fresh (zZ _)) (qD (Nat.lt_succ_self _));have b:=Inv.made (C:=C) I;have c:Vals (V.ref (s.heap.objs.size+1)::(vs++dvs)) (Value.ref (s.heap.objs.size+1)::(us++ds)):=.cons rfl (r.append hd)
 have n:(Value.ref (s.heap.objs.size+1)::us++ds).length=ps.length:=by
  have e:=c.length;rw[F.len _ _ _ _ g]at e;exact e.symm
 refine wpAny_call (xrq (f:=f) I.kIn M.makes M.init (beq_iff_eq.mp M.fn) (codeAny_mono (F.run _ X.stack _ _ ⟨Value.ref (s.heap.objs.size+1)::us,[]⟩ (Value.ref (s.heap.objs.size+1)::(us++ds)) _ _ E (m.make C us [])
  (b.env0.make C us []) (o _ (Value.ref (s.heap.objs.size+1)::us) b.kIn n) c g) λr s' a=>?_))
 cases r with
 |error e=>exact l pins σ _ _ e s' b a
 | ok p=>
  cases p with
  |ret u=>
   obtain⟨v,H',z,i,y,j⟩:=b.after a;subst y;exact⟨i,⟨V.ref (s.heap.objs.size+1),H',z,rfl,j⟩⟩
  |next=>exact False.elim a
  |brk=>exact False.elim a
  |cont=>exact False.elim a
theorem xtr (M:Mk X.K C f) (F:FnOk X.prog X.w X.K X.mg X.base CX k f fd ps sp) (i:Room (k+1) X.A) (l:Gl X x) (j:X.mg x=some (.ref C)) (n:Binds X.K fd ps ds) (hd:Vals dvs ds) (g:xgx CX X E)
  (o:PA X (e::es) t) (b:(x == ("__debug__":Str))=false:=by decide) (m:starEach (e::es) X.env=(false,eval e X.env)::starEach es X.env:=by rfl) (a:(backTo pos (starEach es X.env)).any (·.1)=false:=by rfl) :
  PE X (.Call (.Name x p) (e::es) [] pos) (xu3 C sp dvs E t):=by
 intro pins s σ H Q I h;refine wpAny_Call_Name_kw (xih I l j ?_ b);refine PySem.W.callWith_K (h₀:=X.base) I.ok.mod.kin M.kp (thn (o pos pins s σ H _ I h) λus u ⟨vs,H1,c,r,q⟩=>⟨c.kIn,?_⟩) m a;exact xqz M F i n hd g c r q
end
structure FnScope(N P:List Str)(sc:Scope):Prop where
 kind:sc.kind=.function
 co:sc.isCoroutine=false
 gen:sc.isGenerator=false
 nd:N.Nodup
 pre:N.take P.length=P
 par:∀x∈P,sc.names.lookup x=some .local\/sc.names.lookup x=some .cell
 nofree:∀y∈sc.names,y.2≠.free
theorem xkj{a:Str->Option NameKind}{x:Str}:∀{binds:List (Str×Value)} {m:Str->Option Value},(∀v,(x,v) ∉binds)->bindL a binds m x=m x
 |[],_,_=>rfl
 | (n,v)::r,m,h=>by
  unfold bindL;rw[xkj λw b=>h w (qF _ b)];split
  ·have:x≠n:=by rintro rfl;exact h v List.mem_cons_self
   simp[this]
  ·rfl
theorem xkl{a:Str->Option NameKind}{x:Str}:∀{binds:List (Str×Value)} {m:Str->Option Value},(∀v,(x,v) ∉binds)->bindC a binds m x=m x
 |[],_,_=>rfl
 | (n,v)::r,m,h=>by
  unfold bindC;rw[xkl λw b=>h w (qF _ b)];split
  ·rfl
  ·have:x≠n:=by rintro rfl;exact h v List.mem_cons_self
   simp[this]
theorem xkk {a:Str->Option NameKind} {x:Str} {v:Value}:∀{P:List Str} {vs:List Value} {i:Nat} {m:Str->Option Value},P.Nodup->P[i]?=some x->vs[i]?=some v->a x=some .local->
  bindL a (P.zip vs) m x=some v
 |[],_,_,_,_,h,_,_=>by simp at h
 |_::_,[],_,_,_,_,h,_=>by simp at h
 |p::P,w::vs,0,m,nd,h1,h2,b=>by
  simp at h1 h2;subst h1;subst h2;show bindL a ((p,w)::P.zip vs) m p=_;unfold bindL;rw[xkj λv c=>(List.nodup_cons.mp nd).1 (List.of_mem_zip c).1,if_pos b];simp
 |p::P,w::vs,i+1,m,nd,h1,h2,b=>by
  show bindL a ((p,w)::P.zip vs) m x=_;unfold bindL;exact xkk (i:=i) (List.nodup_cons.mp nd).2 (by simpa using h1) (by simpa using h2) b
theorem xkm {a:Str->Option NameKind} {x:Str} {v:Value}:∀{P:List Str} {vs:List Value} {i:Nat} {m:Str->Option Value},P.Nodup->P[i]?=some x->vs[i]?=some v->a x≠some .local->
  bindC a (P.zip vs) m x=some v
 |[],_,_,_,_,h,_,_=>by simp at h
 |_::_,[],_,_,_,_,h,_=>by simp at h
 |p::P,w::vs,0,m,nd,h1,h2,b=>by
  simp at h1 h2;subst h1;subst h2;show bindC a ((p,w)::P.zip vs) m p=_;unfold bindC;rw[xkl λv c=>(List.nodup_cons.mp nd).1 (List.of_mem_zip c).1,if_neg b];simp
 |p::P,w::vs,i+1,m,nd,h1,h2,b=>by
  show bindC a ((p,w)::P.zip vs) m x=_;unfold bindC;exact xkm (i:=i) (List.nodup_cons.mp nd).2 (by simpa using h1) (by simpa using h2) b
def xfq(N:List Str)(vs:List V):St:=vs.map some++List.replicate (N.length-vs.length) none
def cxOf(CX:CXT)(P:Program)(w:World)(K:Fg)(mg:Str->Option Value)(base:Heap)(N:List Str)(qual:Str)(scope:Scope)(f:Addr)(cd:Value)(A:Around)(outer:List Env)(s:Shared)(H:Hp)(E:XK):Cx where
 prog:=P
 w:=w
 K:=K
 mg:=mg
 base:=base
 A:=A.deeper (envOfC qual scope s.heap.objs.size f cd)
 N:=N
 s₀:=s
 H₀:=H
 env:=envOfC qual scope s.heap.objs.size f cd
 outer:=outer
 stack:=envOfC qual scope s.heap.objs.size f cd::outer
 ex:=[]
 calm:=true
 fn:=λ_=>true
 pn:=[]
 xe:=λe s'=>wpAny (model P w) (A.deeper (envOfC qual scope s.heap.objs.size f cd)) (leaving (envOfC qual scope s.heap.objs.size f cd) e) (λ_ s''=>CX outer H s E e s'') (λe' s''=>CX outer H s E e' s'') s'
theorem xm7{a:Scope}{n:Nat}{x:Str}(h:a.names.lookup x=some .cell):∃c,(cellsFrom n a.names []).lookup x=some c:=by
 have q:=PySem.W.cellsFrom_some a.names n [] (.inl h);exact Option.isSome_iff_exists.mp q
theorem xpw {CX:CXT} {P:Program} {w:World} {K:Fg} {mg:Str->Option Value} {base:Heap} {N ps:List Str} {j:Str} {g:Scope} {f:Addr} {I:Value} {A:Around} {outer:List Env} {s J:Shared} {H:Hp} {E:XK} {us:List Value} {vs:List V}
  (S:FnScope N ps g) (hd:A.handled=none) (l:Env0 P w K mg base A outer s H) (hl:vs.length=ps.length) (r:Vals vs us)
  (x:InCallC s s.heap.objs.size (bindL (envOfC j g s.heap.objs.size f I).kindOf (ps.zip us) λ_=>none) (cellsFrom (s.heap.objs.size+1) g.names []) (bindC (envOfC j g s.heap.objs.size f I).kindOf (ps.zip us) λ_=>none) J) :
  Inv (cxOf CX P w K mg base N j g f I A outer s H E) [] (xfq N vs) H J:=by
 have Y:ps.length<=N.length:=by have:=congrArg List.length S.pre;rw[List.length_take]at this;omega
 obtain⟨h1,tk,rfl,O⟩:=x.done;have m:∀b:Addr,b ∉(cxOf CX P w K mg base N j g f I A outer s H E).ex:=λb z=>absurd (show b∈([]:List Addr) from z) (by simp)
 refine⟨⟨l.mod,S.kind,rfl,rfl,zZ _,λy z c h1 h2=>?_,λy o=>?_,λy c _ h=>?_,λ_=>hd,Around.frames_deeper l.frames,.inr ⟨rfl,rfl⟩,λb z=>absurd z (m b),l.bs,l.bsz,λb _ _=>m b,λb z=>absurd z (m b),l.funs,l.frf⟩,
  rfl,l.bare,Un.kept O,⟨_,x.toInCall.ns,λi y v h1 h2 h3=>?_⟩,λy c h=>⟨_,x.cell y c h⟩,l.hok.fresh (zZ _),λy c h=>?_,λp G=>absurd (show p∈([]:List (Addr×Obj)) from G) (by simp),l.hok.kept O,?_⟩
 ·exact name_of_addr x.apart (zN h1) (zN h2)
 ·have o:g.names.lookup y=some .cell\/g.names.lookup y=some .free:=o
  rcases o with o |o
  ·exact xm7 o
  ·exact absurd rfl (S.nofree _ (zN o))
 ·exact Nat.le_of_lt (x.above y c (zN h))
 ·have hi:i<vs.length:=by
   unfold xfq at h2;by_cases hi:i<vs.length
   ·exact hi
   ·rw[List.getElem?_append_right (by simpa using hi)]at h2
    rw[List.getElem?_replicate]at h2;split at h2 <;> cases h2
  have Z:vs[i]?=some v:=by
   unfold xfq at h2;rw[List.getElem?_append_left (by simpa using hi),zGM]at h2
   cases e:vs[i]? with
   |none=>rw[e]at h2;cases h2
   |some a=>rw[e]at h2;cases h2;rfl
  obtain⟨u,M,U⟩:=r.get Z
  have G:ps[i]?=some y:=by
   rw[<- S.pre,List.getElem?_take_of_lt (by omega)];exact h1
  have C:ps.Nodup:=by rw[<- S.pre];exact S.nd.sublist (List.take_sublist _ _)
  refine⟨u,U,?_⟩;rcases S.par y (zMG G) with k |k
  ·exact .inl ⟨k,xkk C G M k⟩
  ·obtain⟨c,e⟩:=xm7 (n:=s.heap.objs.size+1) k
   refine .inr ⟨.inl k,c,e,?_⟩;have q:=x.cell y c e;rw[xkm C G M (by show g.names.lookup y≠_;rw[k];decide)]at q;exact q
 ·exact l.hok.fresh (Nat.le_of_lt (x.above y c (zN h)))
 ·unfold xfq
  show _=N.length;rw[zLA,zLM,List.length_replicate];omega
theorem xwf {CX:CXT} {P:Program} {w:World} {K:Fg} {mg:Str->Option Value} {base:Heap} {k:Nat} {f:Addr} {name qual:Str} {params:Arguments} {body:List Stmt} {scope:Scope} {dV kV doc pm cdv ct oc:Value} {an od:Option Addr}
  {osl:Array (Option Value)} {N ps:List Str} {sp:Sp} (lk:K.lookup f=some ⟨oc,od,.func (PySem.W.fnOf name qual params body scope dV kV doc pm an cdv ct),osl⟩) (hcd:PySem.W.codeIn K cdv qual=true) (S:FnScope N ps scope)
  (len:∀vs H Q E,sp vs H Q E->vs.length=ps.length)
  (hbody:∀(A:Around) (outer:List Env) (s:Shared) (H:Hp) (vs:List V) (Q:VK) (E:XK),Room k (A.deeper (envOfC qual scope s.heap.objs.size f cdv))->sp vs H Q E->
   ∃t,PSs (cxOf CX P w K mg base N qual scope f cdv A outer s H E) body t/\t {nx:=λ_ H'=>Q .non H',rt:=Q} (xfq N vs) H) :
  FnOk P w K mg base CX (k+1) f (PySem.W.fnOf name qual params body scope dV kV doc pm an cdv ct) ps sp:=by
 refine⟨len,λA outer s H args us vs Q E hr e0 hb r hsp=>?_⟩;have hl:=len _ _ _ _ hsp;have KX:K.In s.heap:=e0.mod.kin.keeps λb o e=>(e0.bs b o e).1;have lim:s.heap.NoLimit:=e0.mod.nolimit.keeps λb o e=>(e0.bs b o e).1
 have hkind:∀y∈ps.zip us,scope.names.lookup y.1=some .local\/(scope.names.lookup y.1=some .cell/\((cellsFrom (s.heap.objs.size+1) scope.names []).lookup y.1).isSome=true):=λ⟨n,v⟩ hy=>by
  rcases S.par n (List.of_mem_zip hy).1 with q |q
  ·exact .inl q
  ·exact .inr ⟨q,PySem.W.cellsFrom_some _ _ _ (.inl q)⟩
 refine codeAny_call_function hr.depth (KX _ _ lk) rfl S.co S.gen rfl (PySem.W.codeRec_of KX hcd) (hb _ _ _ _ ?_);refine wpAny_newFunctionEnv_cells S.kind hkind λenv he s1 x=>?_;subst he;refine⟨lim.keeps x.toInCall.keep,codeAny_func ?_⟩;obtain⟨t,ht,hq⟩:=hbody A outer s H vs Q E (hr.deeper _) hsp;have I:Inv (cxOf CX P w K mg base N qual scope f cdv A outer s H E) [] (xfq N vs) H s1:=xpw S (Prod.mk.inj hr.hd).1 e0 hl r x;refine wpAny_mono (ht [] s1 (xfq N vs) H _ I hq) (λfl s' hs=>?_) λe s' hs=>hs
 have fin:∀{σ':St} {H':Hp} {v:V} {u:Value},Inv (cxOf CX P w K mg base N qual scope f cdv A outer s H E) [] σ' H' s'->RelV v u->Q v H'->CE outer P w H s Q u s':=
  λ{σ' H' v u} J rv q=>⟨v,H',J.os,J.bare,J.base,J.hok,rv,q⟩
 cases fl with
 |ret u=>
  obtain⟨v,σ',H',J,rv,q⟩:=hs;exact fin J rv q
 |next=>
  obtain⟨σ',H',J,q⟩:=hs;exact fin (v:=V.non) (u:=Value.none) J rfl q
 |brk=>
  obtain⟨_,_,_,q⟩:=hs;exact False.elim q
 |cont=>
  obtain⟨_,_,_,q⟩:=hs;exact False.elim q
section
variable {X:Cx}{x:Str}{p pos:Pos}{e:Expr}{es:List Expr}{t:TA}{id T:String}{r:List V->Hp->VK->Prop}
def tCB(r:List V->Hp->VK->Prop)(t:TA):TE:=λσ H Q=>t σ H λvs H1=>r vs H1 Q
theorem xau (hc:xd9 X (.builtin id) r) (hg:Gl X x) (hm:X.mg x=none) (hv:bootBuiltins x=some (.builtin id)) (ha:PA X (e::es) t) (hn:x≠"__name__":=by decide) (hdb:(x == ("__debug__":Str))=false:=by decide)
  (he:starEach (e::es) X.env=(false,eval e X.env)::starEach es X.env:=by rfl) (hpl:(backTo pos (starEach es X.env)).any (·.1)=false:=by rfl):PE X (.Call (.Name x p) (e::es) [] pos) (tCB r t):=by
 intro pins s σ H Q I h;refine wpAny_Call_Name_kw (xgk I hg hm hv ?_ hn hdb);exact PyProof.Rows.callWith_builtin1 (thn (ha pos pins s σ H _ I h) λus s1 ⟨vs,H1,I1,r1,q1⟩=>hc pins s1 σ H1 vs us Q I1 r1 q1) he hpl
theorem xat (hc:xd9 X (.type T) r) (hg:Gl X x) (hm:X.mg x=none) (hv:bootBuiltins x=some (.type T)) (ha:PA X (e::es) t) (hn:x≠"__name__":=by decide) (hdb:(x == ("__debug__":Str))=false:=by decide)
  (he:starEach (e::es) X.env=(false,eval e X.env)::starEach es X.env:=by rfl) (hpl:(backTo pos (starEach es X.env)).any (·.1)=false:=by rfl):PE X (.Call (.Name x p) (e::es) [] pos) (tCB r t):=by
 intro pins s σ H Q I h;refine wpAny_Call_Name_kw (xgk I hg hm hv ?_ hn hdb);exact PyProof.Rows.callWith_type1 (thn (ha pos pins s σ H _ I h) λus s1 ⟨vs,H1,I1,r1,q1⟩=>hc pins s1 σ H1 vs us Q I1 r1 q1) he hpl
end
end L2
namespace HT
open PySem PyProof.Rows
section
variable {prog:Program}{w:World}{A:Around}{E:Value->Shared->Prop}{s:Shared}
theorem cat_tup {t b:Addr} {vs ws:List Value} {Q:Value->Shared->Prop} (ht:IsTup s.heap t vs.toArray) (hb:IsTup s.heap b ws.toArray) (hv:vs≠[])
  (h1:ws=[]->Q (.ref t) s) (h2:ws≠[]->Q (.ref s.heap.objs.size) {s with heap:=s.heap.push {cls:=.type "tuple",data:=.seq (vs++ws).toArray}})
  (hsz:vs.length+ws.length<=sizeLine):wpAny (model prog w) A (binaryOp .Add (.ref t) (.ref b)) Q E s:=by
 obtain⟨⟨cls,dd,data,sl⟩,ho,hc,n,hd⟩:=id ht;obtain⟨⟨cls2,dd2,data2,sl2⟩,ho2,hc2,n2,hd2⟩:=id hb;simp only at hc hd hc2 hd2;subst hc hd hc2 hd2;have e:vs.toArray++ws.toArray=(vs++ws).toArray:=by simp
 by_cases hw:ws=[]
 ·exact concat_meets ⟨_,ho,rfl⟩ ⟨_,ho2,rfl⟩ noFill_tuple_add seq_tuple_add PySem.F.slot_tuple_add PySem.F.entry_tuple_add (PySem.F.args_tuple_add_2 _ _)
   (tuple_addW1 t b vs.toArray ws.toArray n n2 dd dd2 sl sl2 (by simpa using hv) (by simp[hw])) ⟨ho,ho2,h1 hw⟩
 ·refine concat_meets ⟨_,ho,rfl⟩ ⟨_,ho2,rfl⟩ noFill_tuple_add seq_tuple_add PySem.F.slot_tuple_add PySem.F.entry_tuple_add (PySem.F.args_tuple_add_2 _ _)
   (tuple_addW2 t b vs.toArray ws.toArray n n2 dd dd2 sl sl2 (by simpa using hv) (by simpa using hw) (by rw[List.size_toArray,List.size_toArray];exact hsz)) ⟨ho,ho2,?_⟩
  rw[e];exact h2 hw
def sIx(n d:Nat):Option Int->Nat
 |none=>d
 |some v=>if v<0 then (v+(n:Int)).toNat else min v.toNat n
theorem sIx_none(n d:Nat):sIx n d none=d:=rfl
theorem sIx_nat(n d k:Nat):sIx n d (some (k:Int))=min k n:=by
 show(if (k:Int)<0 then ((k:Int)+(n:Int)).toNat else min (k:Int).toNat n)=min k n;rw[if_neg (by omega),Int.toNat_natCast]
end
end HT
namespace L2
open PySem PySem.Spec PyProof.Rows
abbrev TO:=St->Hp->(Option Int->Hp->Prop)->Prop
def PO(X:Cx)(e:Option Expr)(t:TO):Prop:=
 ∀(pins:List (Addr×Obj)) (s:Shared) (σ:St) (H:Hp) (Q:Option Int->Hp->Prop),Inv X pins σ H s->t σ H Q->
  wpAny (model X.prog X.w) X.A (evalPart e X.env) (λu s'=>∃o H',Inv X pins σ H' s'/\IsPart u o/\Q o H') X.xe s
def xta:TO:=λ_ H Q=>Q none H
def xww(t:TE):TO:=λσ H Q=>t σ H λx H1=>∃i,x=.int i/\Q (some i) H1
theorem xfj{ns:List Int}:∀{us:List Value},Vals (ns.map V.int) us->IntsAre us ns:=by
 induction ns with
 |nil=>intro us r;rw[List.map_nil]at r;cases r;exact .nil
 | cons n ns c=>
  intro us r;rw[List.map_cons]at r
  cases r with
  |cons b a=>
   obtain⟨t,e⟩:=b;subst e;exact .cons n t (c a)
section
variable {X:Cx}{e:Expr}{te:TE}{lo hi:Option Expr}{tl th:TO}{pos p2:Pos}
theorem xdi:PO X none xta:=by
 intro pins s σ H Q I h;rw[evalPart_none];exact z5 ⟨none,H,I,.none,h⟩
theorem xcu(h:PE X e te):PO X (some e) (xww te):=by
 intro pins s σ H Q I c;rw[evalPart_some];refine thn (h pins s σ H _ I c) λu g ⟨x,H1,f,a,b⟩=>?_;obtain⟨i,rfl,q⟩:=b;obtain⟨t,rfl⟩:=a;exact⟨some i,H1,f,.int i t,q⟩
def SlR(X:Cx)(r:V->Option Int->Option Int->Hp->VK->Prop):Prop:=
 ∀(pins:List (Addr×Obj)) (s:Shared) (σ:St) (H:Hp) (x:V) (v vl vu:Value) (lo hi:Option Int) (sl:Addr) (Q:VK),Inv X pins σ H s->RelV x v->s.heap.IsSliceOf sl vl vu .none->IsPart vl lo->IsPart vu hi->r x lo hi H Q->
  ∃T id,typeLookup (.type T) "__getitem__"=pure (some (.builtin id))/\s.TypeIs v T/\wpAny (model X.prog X.w) X.A (getItem v (.ref sl)) (EP X pins σ Q) X.xe s
def tSl(r:V->Option Int->Option Int->Hp->VK->Prop)(te:TE)(tl th:TO):TE:=λσ H Q=>te σ H λx H1=>tl σ H1 λl H2=>th σ H2 λu H3=>r x l u H3 Q
theorem xcp{r:V->Option Int->Option Int->Hp->VK->Prop}(hr:SlR X r)(he:PE X e te)(hl:PO X lo tl)(hu:PO X hi th):PE X (.Subscript e (.Slice lo hi none p2) pos) (tSl r te tl th):=by
 intro pins s σ H Q I h;refine Subscript_ (thn (he pins s σ H _ I h) λv s1 ⟨x,H1,I1,r1,q1⟩=>?_);refine wpAny_Slice (thn (hl pins s1 σ H1 _ I1 q1) λvl s2 ⟨l,H2,I2,pl,q2⟩=>thn (hu pins s2 σ H2 _ I2 q2) λvu s3 ⟨u,H3,I3,pu,q3⟩=>?_);rw[evalPart_none];refine z5 ?_;have I4:Inv X pins σ H3 {s3 with heap:=s3.heap.push {cls:=.type "slice",data:=.fields #[vl,vu,.none]}}:=I3.kept (t':=s3.toks) λb ob q=>zPO _ q;obtain⟨T,id,hT,ht,hg⟩:=hr pins {s3 with heap:=s3.heap.push {cls:=.type "slice",data:=.fields #[vl,vu,.none]}} σ H3 x v vl vu l u s3.heap.objs.size Q I4 r1 (Heap.IsSliceOf.new ..) pl pu q3;show wpAny (model X.prog X.w) X.A (subscriptTail e (.Slice lo hi none p2) v (.ref s3.heap.objs.size)) (EP X pins σ Q) X.xe {s3 with heap:=s3.heap.push {cls:=.type "slice",data:=.fields #[vl,vu,.none]}};exact tail_any (ops:=[.ref s3.heap.objs.size,v]) ht hT hg (by with_unfolding_all rfl)
def cutV(xs:List V)(lo hi:Option Int):List V:=(xs.drop (HT.sIx xs.length 0 lo)).take (HT.sIx xs.length xs.length hi-HT.sIx xs.length 0 lo)
theorem xgu(xs:List V)(lo hi:Option Int):(cutV xs lo hi).length<=xs.length:=by
 unfold cutV;rw[List.length_take,List.length_drop];omega
def xxb(K:Fg):R2:=λx y H Q=>∃a b xs ys,x=.ref a/\y=.ref b/\SqT K H a xs/\SqT K H b ys/\xs≠[]/\xs.length+ys.length<=sizeLine ∧
 (ys=[]->Q (.ref a) H)/\(ys≠[]->∀p,H p=none->Q (.ref p) (upd H p (.tup (xs++ys))))
theorem Vals.nil_iff{xs:List V}{us:List Value}(r:Vals xs us):us=[] ↔ xs=[]:=by
 cases r with
 |nil=>simp
 |cons _ _=>simp
theorem xtz:OpR X (binaryOp .Add) (xxb X.K):=by
 intro pins s σ H x y v u Q I i g h;obtain⟨a,b,xs,ys,rfl,rfl,r,p,n,hz,l,j⟩:=h;cases i;cases g;obtain⟨its,e,m,_⟩:=I.tuple r;obtain⟨f,c,p2,_⟩:=I.tuple p;refine HT.cat_tup m p2 (λz=>n (e.nil_iff.mp z)) (λz=>⟨.ref a,H,I,rfl,l (c.nil_iff.mp z)⟩) (λz=>?_) (by rw[<- e.length,<- c.length];exact hz);refine⟨.ref s.heap.objs.size,_,I.laid (t':=s.toks) (o:=.tup (xs++ys)) (λb C q=>zPO _ q) (zZ _) ?_,rfl,j (λw=>z (c.nil_iff.mpr w)) _ (I.hok.fresh (zZ _))⟩;exact⟨by rw[zLA];exact hz,_,e.append c,_,z9 _ rfl,rfl,_,rfl,rfl⟩
end
def ixN(n:Nat)(i:Int):Option Nat:=if 0<=i then (if i<n then some i.toNat else none) else if -(n:Int)<=i then some (i+n).toNat else none
def atI{α:Type}(xs:List α)(i:Int):Option α:=(ixN xs.length i).bind λj=>xs[j]?
theorem xpu{n:Nat}{i:Int}{j:Nat}(h:ixN n i=some j):seqIndex? i n=some j/\j<n/\-(n:Int)<=i/\i<n:=by
 unfold ixN at h;by_cases h0:0<=i
 ·rw[if_pos h0]at h
  by_cases h1:i<n
  ·rw[if_pos h1]at h
   have e:i.toNat=j:=qC h;exact⟨by rw[seqIndex_of h0 h1,e],by omega,by omega,h1⟩
  ·rw[if_neg h1]at h;cases h
 ·rw[if_neg h0]at h
  by_cases h1:-(n:Int)<=i
  ·rw[if_pos h1]at h
   have e:(i+n).toNat=j:=qC h;exact⟨by rw[seqIndex_neg (by omega) h1,e],by omega,h1,by omega⟩
  ·rw[if_neg h1]at h;cases h
theorem xly{α:Type}{xs:List α}{i:Int}{v:α}(h:atI xs i=some v):∃j,seqIndex? i xs.length=some j/\xs[j]?=some v/\j<xs.length/\-(xs.length:Int)<=i/\i<xs.length:=by
 unfold atI at h
 cases e:ixN xs.length i with
 |none=>rw[e]at h;cases h
 |some j=>
  rw[e]at h;obtain⟨h1,h2,b,a⟩:=xpu e;exact⟨j,h1,h,h2,b,a⟩
theorem xav{α:Type}{xs:List α}{j:Nat}{v:α}(h:xs[j]?=some v):atI xs (j:Int)=some v:=by
 have a:j<xs.length:=(zES h).1
 have e:ixN xs.length (j:Int)=some j:=by
  unfold ixN;rw[if_pos (by omega),if_pos (by omega)];simp
 unfold atI;rw[e];exact h
def xl0(b:Expr):Prop:=∀o i,subscripted b false o i=operate [o,i] (getItem o i)
def IxR(X:Cx)(r:R2):Prop:=
 ∀(value slice:Expr) (pins:List (Addr×Obj)) (s:Shared) (σ:St) (H:Hp) (x y:V) (v u:Value) (Q:VK),Inv X pins σ H s->RelV x v->RelV y u->r x y H Q->
  subscripted slice false v u=operate [v,u] (getItem v u)->wpAny (model X.prog X.w) X.A (subscriptTail value slice v u) (EP X pins σ Q) X.xe s
def MtR(X:Cx)(id:String)(r:V->List V->Hp->VK->Prop):Prop:=
 ∀(pins:List (Addr×Obj)) (s:Shared) (σ:St) (H:Hp) (x:V) (xs:List V) (v:Value) (us:List Value) (Q:VK),Inv X pins σ H s->RelV x v->Vals xs us->r x xs H Q->
  wpAny (model X.prog X.w) X.A (call (.builtin id) (v::us)) (EP X pins σ Q) X.xe s
section
variable {X:Cx}{a b:Expr}{ta tb:TE}{pos:Pos}
theorem xnk{r:R2}(hr:IxR X r)(ha:PE X a ta)(hb:PE X b tb)(hs:xl0 b):PE X (.Subscript a b pos) (tOp r ta tb):=by
 intro pins s σ H Q I h;exact Subscript_ (binT ha hb I h λv u s2 x y H2 I2 rx ry q=>hr a b pins s2 σ H2 x y v u Q I2 rx ry q (hs _ _))
def rIxL(K:Fg):R2:=λx y H Q=>∃p xs i v,x=.ref p/\y=.int i/\SqL K H p xs/\atI xs i=some v/\Q v H
def rIxT(K:Fg):R2:=λx y H Q=>∃p xs i v,x=.ref p/\y=.int i/\SqT K H p xs/\atI xs i=some v/\Q v H
def rIxS:R2:=λx y H Q=>∃z i c,x=.str z/\y=.int i/\z.length<=sizeLine/\atI z.cps.toList i=some c/\Q (.str ⟨#[c]⟩) H
theorem iL:IxR X (rIxL X.K):=by
 intro value a pins s σ H x y v u Q I g f h hs;obtain⟨p,xs,i,z,rfl,rfl,l,n,q⟩:=h;cases g;obtain⟨t,rfl⟩:=f;obtain⟨its,r,pl,hz⟩:=I.list l;obtain⟨j,h1,h2,G,C,o⟩:=xly n;obtain⟨w,e,b⟩:=r.get h2;have m:=r.length;have hn:=xjy;have fin:EP X pins σ Q w s:=⟨z,H,I,b,q⟩;by_cases h0:0<=i
 ·have c:i.toNat=j:=by
   rw[seqIndex_of h0 o]at h1;exact qC h1
  exact item_listR pl.isList h0 (by omega) (by rw[c];simpa using e) fin hs
 ·have c:(i+(its.toArray.size:Int)).toNat=j:=by
   rw[seqIndex_neg (by omega) C]at h1;rw[List.size_toArray,<- m];exact qC h1
  exact subscriptTail_builtinR (x:=w) pl.isList.typeIs slot_list_getitem.lookup
   (wpAny_getItem_list_neg (Q:=λr s'=>r=w/\EP X pins σ Q r s') pl.isList (by omega) (by rw[List.size_toArray] <;> omega) (by omega) (by rw[c];simpa using e) ⟨rfl,fin⟩) hs
theorem xwa:IxR X (rIxT X.K):=by
 intro value a pins s σ H x y v u Q I e c h hs;obtain⟨p,xs,i,z,rfl,rfl,f,l,q⟩:=h;cases e;obtain⟨t,rfl⟩:=c;obtain⟨its,r,pl,hz⟩:=I.tuple f;obtain⟨j,h1,h2,C,o,n⟩:=xly l;obtain⟨w,m,b⟩:=r.get h2;have g:=r.length;have hn:=xjy;have fin:EP X pins σ Q w s:=⟨z,H,I,b,q⟩
 exact subscriptTail_builtinR (x:=w) pl.typeIs slot_tuple_getitem.lookup
  (getItem_tuple (j:=j) (Q:=λr s'=>r=w/\EP X pins σ Q r s') pl (by omega) (by omega) (by rw[List.size_toArray,<- g];exact h1) (by simpa using m) ⟨rfl,fin⟩) hs
theorem xmt:IxR X rIxS:=by
 intro value a pins s σ H x y v u Q I e b h hs;obtain⟨z,i,c,rfl,rfl,hz,g,q⟩:=h;obtain⟨t,rfl⟩:=e;obtain⟨t',rfl⟩:=b;obtain⟨j,h1,h2,p,m,l⟩:=xly g;have f:z.cps.toList.length=z.length:=by simp[Str.length]
 rw[f]at h1 m l;have hn:=xjy
 exact tail_any (typeIs_str s z t) slot_str_getitem.lookup (getItem_str (c:=c) (by
  have o:decide (i < -(2 ^ 63:Int))=false:=zDF (by omega);have n:decide (i ≥ 2 ^ 63)=false:=zDF (by omega);rw[o,n,Bool.or_false]) (by rw[h1];simpa using h2) ⟨.str ⟨#[c]⟩,H,I.tok _,⟨_,rfl⟩,q⟩) hs
theorem xnp(its:List Value)(n j:Nat)(u:Value):Obj.mapSeq (·.setIfInBounds j u) {cls:=.type "list",data:=.seq its.toArray n}={cls:=.type "list",data:=.seq (its.set j u).toArray n}:=by
 simp[Obj.mapSeq]
theorem Inv.lst {pins:List (Addr×Obj)} {σ:St} {H:Hp} {s:Shared} {p:Addr} {xs:List V} (I:Inv X pins σ H s) (h:H p=some (.lst xs)) :
  ∃(its:List Value) (n:Nat),Vals xs its/\s.heap.get? p=some {cls:=.type "list",data:=.seq its.toArray n}/\xs.length<=sizeLine:=by
 obtain⟨z,its,n,r,e⟩:=I.hok p _ h;exact⟨its,n,r,e,z⟩
theorem Inv.lstUpd {pins:List (Addr×Obj)} {σ:St} {H:Hp} {s:Shared} {p:Addr} {xs ys:List V} {its its':List Value} {n n':Nat} {f:Obj->Obj} (I:Inv X pins σ H s) (h:H p=some (.lst xs))
  (ho:s.heap.get? p=some {cls:=.type "list",data:=.seq its.toArray n}) (hf:f {cls:=.type "list",data:=.seq its.toArray n}={cls:=.type "list",data:=.seq its'.toArray n'}) (r:Vals ys its') (hz:ys.length<=sizeLine) (t:Nat) :
  Inv X pins σ (upd H p (.lst ys)) {s with heap:=s.heap.update p f,toks:=t}:=by
 have e:(s.heap.update p f).get? p=some {cls:=.type "list",data:=.seq its'.toArray n'}:=by
  rw[Heap.get?_update_self f ho (by rw[hf] <;> rfl),hf]
 refine I.write (x:=p) (e:=p) (by rw[h];trivial) (.inl rfl) (λb u hb q=>(Heap.get?_update_other _ _ (Ne.symm hb)).trans q) ⟨_,e⟩ ?_;exact⟨hz,its',n',r,e⟩
def xw7:V->V->V->Hp->(Hp->Prop)->Prop:=λo i v H Q=>∃p xs k j,o=.ref p/\i=.int k/\H p=some (.lst xs)/\ixN xs.length k=some j/\Q (upd H p (.lst (xs.set j v)))
theorem xmd:PSet X xw7:=by
 intro pins s σ H o i v z C u Q I w x m h;obtain⟨p,xs,k,j,rfl,rfl,e,y,q⟩:=h;cases w;obtain⟨t,rfl⟩:=x;obtain⟨its,n,r,a,hz⟩:=I.lst e;obtain⟨h1,h2,g,f⟩:=xpu y;have b:=r.length;have hn:=xjy
 have l:Inv X pins σ (upd H p (.lst (xs.set j v))) {s with heap:=s.heap.update p (Obj.mapSeq (·.setIfInBounds j u))}:=
  I.lstUpd e a (xnp its n j u) (r.set m j) (by rw[List.length_set];exact hz) s.toks
 by_cases h0:0<=k
 ·have c:k.toNat=j:=by
   rw[seqIndex_of h0 f]at h1;exact qC h1
  exact PySem.W.ki_setAt a h0 (by omega) (by rw[List.size_toArray,<- b];exact f) (by rw[c];exact⟨_,l,q⟩)
 ·have c:(k+(its.toArray.size:Int)).toNat=j:=by
   rw[seqIndex_neg (by omega) g]at h1;rw[List.size_toArray,<- b];exact qC h1
  exact PySem.W.ki_setBack a (by omega) (by rw[List.size_toArray,<- b];exact g) (by omega) (by rw[c];exact⟨_,l,q⟩)
theorem xi3(lo hi:Option Int)(n:Nat):(sliceBounds lo hi none n).1=((HT.sIx n 0 lo:Nat):Int)/\(sliceBounds lo hi none n).2.1=((HT.sIx n n hi:Nat):Int)/\(sliceBounds lo hi none n).2.2=1:=by
 refine⟨?_,?_,rfl⟩
 ·cases lo with
  |none=>simp[sliceBounds,HT.sIx]
  |some i=>
   simp only[sliceBounds,HT.sIx,Option.getD_none,show(1:Int) > 0 by decide,if_true];by_cases h:i<0
   ·simp only[h,if_true] <;> omega
   ·simp only[h,if_false] <;> omega
 ·cases hi with
  |none=>simp[sliceBounds,HT.sIx]
  |some i=>
   simp only[sliceBounds,HT.sIx,Option.getD_none,show(1:Int) > 0 by decide,if_true];by_cases h:i<0
   ·simp only[h,if_true] <;> omega
   ·simp only[h,if_false] <;> omega
theorem xhv(its:List Value)(lo hi:Option Int):slicePick its.toArray lo hi none=((its.drop (HT.sIx its.length 0 lo)).take (HT.sIx its.length its.length hi-HT.sIx its.length 0 lo)).toArray:=by
 obtain⟨h1,h2,a⟩:=xi3 lo hi its.toArray.size;unfold slicePick;rw[h1,h2,a];simp only[sliceRange_one,pick_run,List.size_toArray] <;> rfl
def rSlL(K:Fg):V->Option Int->Option Int->Hp->VK->Prop:=λx lo hi H Q=>∃a xs,x=.ref a/\SqL K H a xs/\∀p,H p=none->Q (.ref p) (upd H p (.lst (cutV xs lo hi)))
theorem xdh:SlR X (rSlL X.K):=by
 intro pins s σ H x v l j lo hi sl Q I f hs pl g h;obtain⟨a,xs,rfl,i,q⟩:=h;cases f;obtain⟨its,r,e,hz⟩:=I.list i;have c:=r.length;refine⟨"list",_,slot_list_getitem.lookup,e.isList.typeIs,?_⟩;refine wpAny_getItem_list_slice e.isList hs pl g .none (by simp) ?_ (by rw[List.size_toArray] <;> omega);rw[xhv,<- c];refine⟨.ref s.heap.objs.size,_,I.laid (t':=s.toks) (o:=.lst (cutV xs lo hi)) (λb m q=>zPO _ q) (zZ _) ?_,rfl,q _ (I.hok.fresh (zZ _))⟩;exact⟨zY (xgu xs lo hi) hz,_,0,(r.drop (HT.sIx xs.length 0 lo)).take (HT.sIx xs.length xs.length hi-HT.sIx xs.length 0 lo),z9 _ rfl⟩
def xg6:V->Bool
 |.non=>true
 |.bl _=>true
 |.int _=>true
 |.str _=>true
 |_=>false
def eqV:V->V->Bool
 |.non,.non=>true
 |.bl a,.bl b=>a == b
 |.bl a,.int b=>(if a then 1 else 0) == b
 |.int a,.bl b=>a == (if b then 1 else 0)
 |.int a,.int b=>a == b
 |.str a,.str b=>a == b
 |_,_=>false
theorem xwh{A:Around}{s:Shared}{y x:V}{u v:Value}(e:RelV y u)(c:RelV x v)(g:xg6 y=true)(f:xg6 x=true):SeqAt.EqAt A s u v (eqV y x):=by
 cases y with
 |non=>
  cases e
  cases x with
  |non=>cases c;exact SeqAt.EqAt.same _
  |bl b=>cases c;exact SeqAt.EqAt.none_bool b
  |int b=>obtain⟨t,rfl⟩:=c;exact SeqAt.EqAt.none_int b t
  |str b=>obtain⟨t,rfl⟩:=c;exact SeqAt.EqAt.none_str b t
  |_=>exact absurd (show false=true from f) qB
 |bl a=>
  cases e
  cases x with
  |non=>cases c;exact SeqAt.EqAt.bool_none a
  |bl b=>cases c;exact SeqAt.EqAt.bool_bool a b
  |int b=>obtain⟨t,rfl⟩:=c;exact SeqAt.EqAt.bool_int a b t
  |str b=>obtain⟨t,rfl⟩:=c;exact SeqAt.EqAt.bool_str a b t
  |_=>exact absurd (show false=true from f) qB
 |int a=>
  obtain⟨t',rfl⟩:=e
  cases x with
  |non=>cases c;exact SeqAt.EqAt.int_none a t'
  |bl b=>cases c;exact SeqAt.EqAt.int_bool a t' b
  |int b=>obtain⟨t,rfl⟩:=c;exact SeqAt.EqAt.int_int a t' b t
  |str b=>obtain⟨t,rfl⟩:=c;exact SeqAt.EqAt.int_str a t' b t
  |_=>exact absurd (show false=true from f) qB
 |str a=>
  obtain⟨t',rfl⟩:=e
  cases x with
  |non=>cases c;exact SeqAt.EqAt.str_none a t'
  |bl b=>cases c;exact SeqAt.EqAt.str_bool a t' b
  |int b=>obtain⟨t,rfl⟩:=c;exact SeqAt.EqAt.str_int a t' b t
  |str b=>obtain⟨t,rfl⟩:=c;exact SeqAt.EqAt.str_str a t' b t
  |_=>exact absurd (show false=true from f) qB
 |_=>exact absurd (show false=true from g) qB
def eqU(x:V)(u:Value):Bool:=match u with
 |.none=>eqV .non x
 |.bool b=>eqV (.bl b) x
 |.int i _=>eqV (.int i) x
 |.str z _=>eqV (.str z) x
 |_=>false
theorem xp9{x y:V}{u:Value}(r:RelV y u)(f:xg6 y=true):eqU x u=eqV y x:=by
 cases y with
 |non=>cases r;rfl
 |bl b=>cases r;rfl
 |int i=>obtain⟨t,rfl⟩:=r;rfl
 |str z=>obtain⟨t,rfl⟩:=r;rfl
 |_=>exact absurd (show false=true from f) qB
theorem xlz{x:V}:∀{xs:List V} {us:List Value},Vals xs us->xs.all xg6=true->us.any (eqU x)=xs.any λy=>eqV y x
 |_,_,.nil,_=>rfl
 |y::xs,u::us,.cons r t,f=>by
  rw[List.all_cons,Bool.and_eq_true]at f;rw[List.any_cons,List.any_cons,xp9 r f.1,xlz t f.2]
theorem xf1{A:Around}{s:Shared}{x:V}{v:Value}(b:RelV x v)(c:xg6 x=true):∀{xs:List V} {us:List Value},Vals xs us->xs.all xg6=true->∀u∈us,SeqAt.EqAt A s u v (eqU x u)
 |_,_,.nil,_=>λu a=>by cases a
 |y::xs,u::us,.cons r t,f=>λe a=>by
  rw[List.all_cons,Bool.and_eq_true]at f;rcases zMC a with rfl |a
  ·rw[xp9 r f.1];exact xwh r b f.1 c
  ·exact xf1 b c t f.2 e a
def inV(x:V)(xs:List V):Bool:=xs.any λy=>eqV y x
def rIn(K:Fg)(neg:Bool):R2:=λx y H Q=>∃p xs,y=.ref p/\(SqL K H p xs\/SqT K H p xs)/\xg6 x=true/\xs.all xg6=true/\Q (.bl (if neg then !inV x xs else inV x xs)) H
theorem xfm:OpR X (compareOp .NotIn) (rIn X.K true):=by
 intro pins s σ H x y v u Q I c f h;obtain⟨p,xs,rfl,a,e,fs,q⟩:=h;cases f;rcases a with a |a
 ·obtain⟨its,r,pl,hz⟩:=I.list a
  refine SeqAt.notIn_listAt (eqU x) pl.isList (λw b=>xf1 c e r fs w (by simpa using b)) ⟨.bl _,H,I,rfl,?_⟩;rw[show its.toArray.any (eqU x)=its.any (eqU x) by simp,xlz r fs];exact q
 ·obtain⟨its,r,pl,hz⟩:=I.tuple a
  refine SeqAt.notIn_tupleAt (eqU x) pl (λw b=>xf1 c e r fs w (by simpa using b)) ⟨.bl _,H,I,rfl,?_⟩;rw[show its.toArray.any (eqU x)=its.any (eqU x) by simp,xlz r fs];exact q
theorem xkh:xd9 X (.builtin "len") (λxs H Q=>∃p ys,xs=[.ref p]/\(SqL X.K H p ys\/SqT X.K H p ys)/\Q (.int ys.length) H):=by
 intro pins s σ H xs us Q I r h;obtain⟨p,ys,rfl,b,q⟩:=h;obtain⟨u,rfl,e⟩:=xf5 r;cases e;have hn:=xjy;rcases b with b |b
 ·obtain⟨its,c,pl,hz⟩:=I.list b
  have a:=c.length;exact Calls.call_len_list pl.isList (by simp only[List.size_toArray] <;> omega) ⟨.int ys.length,H,I.tok _,⟨s.toks+1,by rw[List.size_toArray,a]⟩,q⟩
 ·obtain⟨its,c,pl,hz⟩:=I.tuple b
  have a:=c.length;exact len_tuple pl (by simp only[List.size_toArray] <;> omega) ⟨.int ys.length,H,I.tok _,⟨s.toks+1,by rw[List.size_toArray,a]⟩,q⟩
theorem xb4:xd9 X (.type "list") (λxs H Q=>∃p ys,xs=[.ref p]/\(SqL X.K H p ys\/SqT X.K H p ys)/\∀l,H l=none->Q (.ref l) (upd H l (.lst ys))):=by
 intro pins s σ H xs us Q I r h;obtain⟨p,ys,rfl,g,q⟩:=h;obtain⟨u,rfl,x⟩:=xf5 r;cases x
 have fin:∀(its:List Value),Vals ys its->ys.length<=sizeLine->∀(h':Heap) (c:Nat),(∀b o',s.heap.get? b=some o'->h'.get? b=some o')->
   h'.get? s.heap.objs.size=some {cls:=.type "list",dict:=none,data:=.seq its.toArray c,slots:=#[]}->EP X pins σ Q (.ref s.heap.objs.size) {s with heap:=h'}:=λits a hz h' c f e=>
  ⟨.ref s.heap.objs.size,_,I.laid (t':=s.toks) f (zZ _) (show ObjOk X.prog X.w _ h' _ (.lst ys) from⟨hz,its,c,a,e⟩),rfl,q _ (I.hok.fresh (zZ _))⟩
 rcases g with g |g
 ·obtain⟨its,a,pl,hz⟩:=I.list g
  have i:=a.length;obtain⟨o,j,m,n,hd⟩:=pl.isList;exact call_list_seq p (.inl rfl) j m hd (λh' c f e=>fin its a hz h' c f e) (by simp only[List.size_toArray] <;> omega)
 ·obtain⟨its,a,pl,hz⟩:=I.tuple g
  have i:=a.length;obtain⟨o,j,m,n,hd⟩:=pl;exact call_list_seq p (.inr rfl) j m hd (λh' c f e=>fin its a hz h' c f e) (by simp only[List.size_toArray] <;> omega)
theorem xip:xd9 X (.type "tuple") (λxs H Q=>∃p ys,xs=[.ref p]/\((SqL X.K H p ys/\∀l,H l=none->Q (.ref l) (upd H l (.tup ys)))\/(SqT X.K H p ys/\Q (.ref p) H))):=by
 intro pins s σ H xs us Q I r h;obtain⟨p,ys,rfl,h⟩:=h;obtain⟨u,rfl,i⟩:=xf5 r;cases i;rcases h with⟨c,q⟩ |⟨c,q⟩
 ·obtain⟨its,a,pl,hz⟩:=I.list c
  have f:=a.length;refine call_tuple_list pl.isList (λh' j=>?_) (by simp only[List.size_toArray] <;> omega);have g:Inv X pins σ H {s with heap:=h'}:=I.kept (t':=s.toks) j
  have m:Inv X pins σ (upd H h'.objs.size (.tup ys)) {s with heap:=h'.push {cls:=.type "tuple",data:=.seq its.toArray}}:=
   g.laid (t':=s.toks) (λb o e=>zPO _ e) (zZ _) (show ObjOk X.prog X.w _ _ _ (.tup ys) from⟨hz,its,a,_,z9 _ rfl,rfl,_,rfl,rfl⟩)
  exact⟨.ref h'.objs.size,_,m,rfl,q _ (g.hok.fresh (zZ _))⟩
 ·obtain⟨its,a,pl,hz⟩:=I.tuple c
  exact call_tuple_same pl ⟨.ref p,H,I,rfl,q⟩
def tyV(K:Fg)(T:String)(x:V)(H:Hp):Prop:=match x with
 |.str _=>T="str"
 |.int _=>T="int"
 | .ref p=>(T="list"/\∃xs,SqL K H p xs)\/(T="tuple"/\∃o,K.lookup p=some o/\o.cls=.type "tuple"/\o.dict=none) ∨
   (T="dict"/\((∃kvs,H p=some (.dK kvs))\/∃kvs,H p=some (.dT kvs)))\/(T="set"/\∃S n,H p=some (.set S n))
 |_=>False
theorem xsf {pins:List (Addr×Obj)} {σ:St} {H:Hp} {s:Shared} {T:String} {x:V} {v:Value} (I:Inv X pins σ H s) (r:RelV x v) (f:tyV X.K T x H) :
  s.TypeIs v T/\∀a,v=.ref a->∃h,s.heap.get? a=some h/\h.dict=none:=by
 cases x with
 |str z=>
  obtain⟨t,rfl⟩:=r;cases (show T="str" from f);exact⟨typeIs_str s z t,λ_ e=>nomatch e⟩
 |int i=>
  obtain⟨t,rfl⟩:=r;cases (show T="int" from f);exact⟨typeIs_int s i t,λ_ e=>nomatch e⟩
 | ref p=>
  cases r;rcases f with⟨rfl,xs,j⟩ |⟨rfl,o,b,l,hd⟩ |⟨rfl,b⟩ |⟨rfl,S,n,b⟩
  ·obtain⟨its,_,pl,_⟩:=I.list j
   refine⟨pl.isList.typeIs,λa e=>?_⟩;cases e;obtain⟨o,n,e,c,hd,_⟩:=pl;exact⟨o,e,hd⟩
  ·refine⟨⟨o,I.kIn p o b,l⟩,λa e=>?_⟩
   cases e;exact⟨o,I.kIn _ o b,hd⟩
  ·have z:∃o,s.heap.get? p=some o/\o.ExactDict:=by
    rcases b with⟨kvs,b⟩ |⟨kvs,b⟩
    ·obtain⟨_,_,_,_,o,_,_,e,ex,_⟩:=I.hok p _ b
     exact⟨o,e,ex⟩
    ·obtain⟨_,_,_,_,o,_,_,e,ex,_⟩:=I.hok p _ b
     exact⟨o,e,ex⟩
   obtain⟨o,e,ex⟩:=z;refine⟨⟨o,e,ex.1⟩,λa g=>?_⟩;cases g;exact⟨o,e,ex.2.1⟩
  ·obtain⟨o,_,_,_,e,ex,_⟩:=I.hok p _ b
   refine⟨⟨o,e,ex.1⟩,λa g=>?_⟩;cases g;exact⟨o,e,ex.2.1⟩
 |_=>exact False.elim f
def tBM0(K:Fg)(T:String)(r:V->List V->Hp->VK->Prop)(to:TE):TE:=λσ H Q=>to σ H λx H1=>tyV K T x H1/\r x [] H1 Q
def tBM(K:Fg)(T:String)(r:V->List V->Hp->VK->Prop)(to:TE)(t:TA):TE:=λσ H Q=>to σ H λx H1=>tyV K T x H1/\t σ H1 λxs H2=>r x xs H2 Q
variable {o e:Expr}{es:List Expr}{to:TE}{t:TA}{name:Str}{apos cpos:Pos}{T id:String}{r:V->List V->Hp->VK->Prop}
theorem xvs (pa:PlainAttrs T) (c:Slot T name id) (e:typeOf (.builtin id)=pure (.type "method_descriptor")) (n:MtR X id r) (m:PE X o to)
  (b:attributeBase o name X.env (eval o X.env)=eval o X.env:=by rfl) (a:(apos.endLine == cpos.line)=true:=by rfl):PE X (.Call (.Attribute o name apos) [] [] cpos) (tBM0 X.K T r to):=by
 intro pins s σ H Q I h;refine wpAny_Call_method0_late b a (thn (m pins s σ H _ I h) λv j ⟨x,H1,g,f,i,l⟩=>?_);obtain⟨h1,h2⟩:=xsf g f i;exact⟨T,id,pa,c,e,h1,h2,Calls.callWith_builtin rfl (PySem.evalArgs_none (n pins j σ H1 x [] v [] Q g f .nil l))⟩
theorem xdj (pa:PlainAttrs T) (f:Slot T name id) (i:typeOf (.builtin id)=pure (.type "method_descriptor")) (G:MtR X id r) (C:PE X o to) (J:PA X (e::es) t)
  (c:attributeBase o name X.env (eval o X.env)=eval o X.env:=by rfl)
  (g:((backTo cpos (starEach (e::es) X.env)).all (λx=>!x.1) && (backToKw cpos (keywordEach [] X.env)).all (λx=>x.1.isSome)
   && decide ((e::es).length+([]:List Keyword).length+(if ([]:List Keyword).isEmpty then 0 else 1)<30))=true:=by rfl)
  (b:(apos.endLine == cpos.line)=true:=by rfl) (hs:starEach (e::es) X.env=(false,eval e X.env)::starEach es X.env:=by rfl) (a:(backTo cpos (starEach es X.env)).any (·.1)=false:=by rfl) :
  PE X (.Call (.Attribute o name apos) (e::es) [] cpos) (tBM X.K T r to t):=by
 intro pins s σ H Q I h;refine wpAny_Call_method_late c g b rfl (thn (C pins s σ H _ I h) λv u ⟨x,H1,m,j,n,z⟩=>?_);obtain⟨h1,h2⟩:=xsf m j n;refine⟨T,id,pa,f,i,h1,h2,?_⟩;have l:=J cpos pins u σ H1 _ m z;rw[hs]at l⊢;refine Calls.callWith_builtin (by show(false || (backTo cpos (starEach es X.env)).any (·.1))=false;rw[a] <;> rfl) (Calls.evalArgs_plain ?_);exact thn l λus p ⟨vs,H2,M,w,y⟩=>G pins p σ H2 x vs v us Q M j w y
end
def MtM(X:Cx)(id:String)(r:V->List V->Hp->VK->Prop):Prop:=
 ∀(pins:List (Addr×Obj)) (s:Shared) (σ:St) (H:Hp) (x:V) (xs:List V) (v:Value) (us:List Value) (Q:VK),Inv X pins σ H s->RelV x v->Vals xs us->r x xs H Q->
  wpAny (model X.prog X.w) X.A (call (.builtin id) (v::us)) (EP X pins σ Q) X.xe s
theorem Vals.one:∀{x:V} {us:List Value},Vals [x] us->∃u,us=[u]/\RelV x u
 |_,_,.cons r .nil=>⟨_,rfl,r⟩
theorem Vals.two:∀{x y:V} {us:List Value},Vals [x,y] us->∃u v,us=[u,v]/\RelV x u/\RelV y v
 |_,_,_,.cons r (.cons q .nil)=>⟨_,_,rfl,r,q⟩
theorem Vals.zero:∀{us:List Value},Vals [] us->us=[]
 |_,.nil=>rfl
theorem Vals.eraseIdx:∀{xs:List V} {us:List Value} (i:Nat),Vals xs us->Vals (xs.eraseIdx i) (us.eraseIdx i)
 |_,_,_,.nil=>.nil
 |_,_,0,.cons _ t=>t
 |_,_,i+1,.cons r t=>.cons r (Vals.eraseIdx i t)
theorem Vals.reverse{xs:List V}{us:List Value}(h:Vals xs us):Vals xs.reverse us.reverse:=by
 induction h with
 |nil=>exact .nil
 |cons r t a=>rw[List.reverse_cons,List.reverse_cons];exact Vals.append a (.cons r .nil)
theorem xj0{α:Type}:∀(l:List α) (i:Nat),(l.eraseIdx i).length<=l.length
 |[],_=>zZ _
 |_::_,0=>Nat.le_succ _
 |_::r,i+1=>zI (xj0 r i)
section
variable {X:Cx}{pins:List (Addr×Obj)}{σ:St}{H:Hp}{s:Shared}{l b:Addr}{xs ys zs:List V}
theorem Inv.lset {its its':List Value} {n:Nat} {f:Array Value->Array Value} {t':Nat} (I:Inv X pins σ H s) (h:H l=some (.lst xs))
  (e:s.heap.get? l=some {cls:=.type "list",data:=.seq its.toArray n}) (c:f its.toArray=its'.toArray) (a:Vals ys its') (hz:ys.length<=sizeLine) :
  Inv X pins σ (upd H l (.lst ys)) {s with heap:=s.heap.update l (Obj.mapSeq f),toks:=t'}:=by
 have q:=PySem.IsL.update e f;rw[c]at q;refine I.write (x:=l) (e:=l) (by rw[h];exact trivial) (.inl rfl) (λi u g b=>(Heap.get?_update_other s.heap (Obj.mapSeq f) (Ne.symm g)).trans b) ⟨_,q⟩ ?_;exact⟨hz,its',_,a,q⟩
theorem Inv.lnew {its:List Value} {t':Nat} (I:Inv X pins σ H s) (a:Vals ys its) (hz:ys.length<=sizeLine) :
  Inv X pins σ (upd H s.heap.objs.size (.lst ys)) {s with heap:=s.heap.push {cls:=.type "list",data:=.seq its.toArray},toks:=t'}:=
 I.laid (λ_ _ q=>zPO _ q) (zZ _) ⟨hz,its,0,a,z9 _ rfl⟩
theorem Inv.fresh(I:Inv X pins σ H s):H s.heap.objs.size=none:=I.hok.fresh (zZ _)
theorem Inv.lstM(I:Inv X pins σ H s)(a:H l=some (.lst xs)):xs.length<=sizeLine/\∃(its:List Value) (n:Nat),Vals xs its/\xs.length=its.length/\s.heap.get? l=some {cls:=.type "list",data:=.seq its.toArray n}:=by
 obtain⟨z,its,n,r,e⟩:=I.hok l _ a;exact⟨z,its,n,r,r.length,e⟩
end
section
variable {X:Cx}
def xtm:V->List V->Hp->VK->Prop:=λx vs H Q=>∃l xs y,x=.ref l/\vs=[y]/\H l=some (.lst xs)/\xs.length<sizeLine/\Q .non (upd H l (.lst (xs++[y])))
theorem xbn:MtM X "list.append" xtm:=by
 intro pins s σ H x vs v us Q I b c h;obtain⟨l,xs,y,rfl,rfl,a,hz,q⟩:=h;cases b;obtain⟨u,rfl,f⟩:=c.one;obtain⟨z,its,n,r,g,e⟩:=I.lstM a;refine call_meets F.slot_list_append ⟨_,e,rfl⟩ F.entry_list_append (F.args_list_append_2 _ _) (PySem.list_append l its.toArray n u (by rw[List.size_toArray];omega)) ⟨e,?_⟩;refine⟨.non,_,I.lset (its':=its++[u]) a e (by simp) (r.append (.cons f .nil)) ?_,rfl,q⟩;rw[zLA,List.length_singleton];omega
def xvi:V->List V->Hp->VK->Prop:=λx vs H Q=>∃l xs i k y,x=.ref l/\vs=[.int i]/\H l=some (.lst xs)/\-(2 ^ 63)<=i/\i<2 ^ 63/\seqIndex? i xs.length=some k/\xs[k]?=some y/\Q y (upd H l (.lst (xs.eraseIdx k)))
theorem xie:MtM X "list.pop" xvi:=by
 intro pins s σ H x vs v us Q I c f h;obtain⟨l,xs,i,k,y,rfl,rfl,b,h1,h2,p,j,q⟩:=h;cases c;obtain⟨u,rfl,g⟩:=f.one;obtain⟨t,rfl⟩:=g;obtain⟨z,its,n,r,o,e⟩:=I.lstM b;obtain⟨w,m,a⟩:=r.get j
 refine call_meets F.slot_list_pop ⟨_,e,rfl⟩ F.entry_list_pop (F.args_list_pop_2 _ _)
  (MeetsSeq.list_pop_at l its.toArray n i t k w (fitsIndex_both h1 h2) (by rw[List.size_toArray,<- o];exact p) (by rw[<- Array.getElem?_toList];exact m) (by rw[List.size_toArray];omega)) ⟨e,?_⟩
 refine⟨y,_,I.lset (its':=its.eraseIdx k) b e ?_ (r.eraseIdx k) ?_,a,q⟩
 ·show its.toArray.eraseIdxIfInBounds k=(its.eraseIdx k).toArray
  rw[List.eraseIdxIfInBounds_toArray]
 ·have:=xj0 xs k
  omega
def xq0:V->List V->Hp->VK->Prop:=λx vs H Q=>∃l xs,x=.ref l/\vs=[]/\H l=some (.lst xs)/\Q .non (upd H l (.lst xs.reverse))
theorem xno:MtM X "list.reverse" xq0:=by
 intro pins s σ H x vs v us Q I c f h;obtain⟨l,xs,rfl,rfl,b,q⟩:=h;cases c;have a:=f.zero;subst a;obtain⟨z,its,n,r,g,e⟩:=I.lstM b;refine call_meets F.slot_list_reverse ⟨_,e,rfl⟩ F.entry_list_reverse (F.args_list_reverse_1 _) (AutoSeq1.list_reverse_list_0 l its.toArray n (by rw[List.size_toArray];omega)) ⟨e,?_⟩;refine⟨.non,_,I.lset (its':=its.reverse) b e (by simp) r.reverse ?_,rfl,q⟩;rw[List.length_reverse];omega
def rCat:R2:=λx y H Q=>∃l b xs zs,x=.ref l/\y=.ref b/\H l=some (.lst xs)/\H b=some (.lst zs)/\xs.length+zs.length<=sizeLine/\∀p,H p=none->Q (.ref p) (upd H p (.lst (xs++zs)))
theorem xes:OpR X (binaryOp .Add) rCat:=by
 intro pins s σ H x y v u Q I f c h;obtain⟨l,b,xs,zs,rfl,rfl,j,m,hz,q⟩:=h;cases f;cases c;obtain⟨z,its,n,r,G,e⟩:=I.lstM j;obtain⟨w,a,C,g,i,p⟩:=I.lstM m;refine PySem.P.add_list e p ?_ (by rw[List.size_toArray,List.size_toArray];omega);have o:its.toArray++a.toArray=(its++a).toArray:=by simp
 rw[o];exact⟨.ref _,_,I.lnew (t':=s.toks) (r.append g) (by rw[zLA];omega),rfl,q _ I.fresh⟩
end
end L2
namespace Att
open PySem PySem.W PySem.Calls PyProof.Rows
theorem xgo{P:Params}{h:Heap}:∀(ns:List Int) (vs:List Value),WellAll P h vs (ns.map WData.int)->IntsAre vs ns:=by
 intro ns
 induction ns with
 |nil=>
  intro vs w;rw[List.map_nil]at w;cases w;exact .nil
 | cons n ns c=>
  intro vs w;rw[List.map_cons]at w
  cases w with
  |cons a b=>
   cases a;exact .cons _ _ (c _ b)
theorem xoo {l:OpenLaw} {n:Nat} (hn:l.most=some n) {P:Params} {h:Heap} {args:List WData} {b:List Value}
  (c:l.row.toRowW.claim.pre args=true) (j:WellAll P h b args) :
  ∃a vs ns,b=[Value.ref a]/\args=[WData.list (ns.map WData.int)]/\h.get? a=some {cls:=.type "list",data:=.seq vs.toArray}/\IntsAre vs ns/\ns.length<=n:=by
 have m:WShape.hasAll [] args [.list .int]=true:=(pre_splitW c).1;have o:l.pre.holds [] {args:=args}=true:=(pre_splitW c).2;obtain⟨d,r,rfl,h1,h2⟩:=hasAllW_cons m;obtain rfl:=hasAllW_nil h2;obtain⟨xs,rfl,x⟩:=hasW_list h1;obtain⟨ns,rfl⟩:=items_int x
 have e:ns.length<=n:=by
  unfold OpenLaw.pre at o
  have i:(WTm.not (.lt (.lit (.int (n:Int))) (.len (.arg 0)))).holds [] {args:=[.list (ns.map .int)]}=true:=by
   have i:=(holds_andW o).1;rw[hn]at i;exact i
  have g:=condW_of i (w_not (w_lt w_lit (w_len_list (w_arg rfl))));rw[zLM]at g;refine Nat.le_of_not_lt λq=>?_;have u:(n:Int)<((ns.length:Nat):Int):=by omega
  first
   |(rw[zDT u]at g;exact absurd g (by decide))
   |(simp at g;omega)
 cases j with
 |cons s p=>
  cases p
  cases s with
  |list w f=>exact⟨_,_,ns,rfl,rfl,w,xgo ns _ f,e⟩
theorem xor(l:OpenLaw)(args:List WData):l.row.toRowW.claim.post args (.bool true) args=true:=
 postW_of (r:=l.row.toRowW) (X:=(true == true))
  (show WShape.has [] (.bool true) .bool=true by first |rfl |decide |simp[WShape.has,WShape.arms,WShape.armsAll])
  (show(WTm.eq .res (.lit (.bool true))).value [] {args:=args,res:=some (.bool true),after:=args}=some (.bool (true == true)) from w_eq_bool (w_res rfl) w_lit) rfl
theorem attach_call {l:OpenLaw} {n:Nat} {q:Program} {loose:List Str} {XP:(Str->Option Value)->Heap->Prop} {YP:World->Heap->Prop} {d:DefRec}
  (hn:l.most=some n) (hdf:d.params.defaults=[])
  (call:∀(w:World) (s₀ s₁:Shared) (mg mb:Str->Option Value) (fa:Addr) (o:Obj) (pm cd doc:Value) (a:Addr) (vs:List Value) (ns:List Int),
   Ground q loose [] XP w s₀ mg mb s₁.heap->YP w s₁.heap->
   s₁.heap.get? fa=some o->o.data=.func (docDef d.name d.params d.body d.scope pm cd doc)->s₁.heap.CodeRec cd d.name->mg d.name=some (.ref fa)->
   s₁.heap.get? a=some {cls:=.type "list",data:=.seq vs.toArray}->IntsAre vs ns->ns.length<=n->s₁.gens=#[]->
   codeAny (model l.prog w) callerA (.call (.ref fa) ⟨[.ref a],[]⟩) (λr s'=>r=.ok (.ret (.bool true))/\OldK s₁.heap s'.heap/\s'.os=s₁.os/\AllBare s'.gens) s₁) :
  WalkO q loose XP YP l.row.toRowW d [] (λf vs=>PySem.call f vs):=by
 intro w s₀ s₁ mg mb G Y fa o pm cd doc dV kV ho hd hcd hD hmg hg args vals as hpre hlay hrd hwl hlo;obtain rfl:dV=.none:=Dflts.none hD hdf;obtain rfl:kV=.none:=Dflts.noKw hD;obtain⟨a,vs,ns,rfl,rfl,hobj,hints,hlen⟩:=xoo hn hpre hwl;refine enter_call (codeAny_mono (call w s₀ s₁ mg mb fa o pm cd doc a vs ns G Y ho (fd_plain hd) hcd hmg hobj hints hlen hg) λr s' hq=>?_);obtain⟨rfl,h2,h3,h4⟩:=hq;exact⟨.inl ⟨.bool true,.bool true,[],rfl,λ_=>rfl,.bool true,xor l _,λ_=>⟨List.Pairwise.nil,λ_ hm=>(nomatch hm)⟩⟩,h2,h3,h4⟩
end Att
namespace L2
open PySem PySem.Spec PyProof.Rows
theorem xir:∀{vs:List Value} {ns:List Int},IntsAre vs ns->Vals (ns.map V.int) vs
 |_,_,.nil=>.nil
 |_,_,.cons n t h=>.cons ⟨t,rfl⟩ (xir h)
def Only(H:Hp):Prop:=∀b,H b=none\/∃o xs,H b=some (.frz o (.lst xs))
theorem xrs {P:Program} {w:World} {K:Fg} {mg mb:Str->Option Value} {CX:CXT} {k:Nat} {fa a:Addr} {fd:FuncData} {x:Str} {sp:Sp} {s₁:Shared} {vs:List Value} {ns:List Int}
  (KX:K.In s₁.heap) (hns:s₁.heap.Ns mainGlobals mg) (hb:s₁.heap.Ns builtinsNs mb) (hbb:∀x:Str,x≠"__name__"->mb x=bootBuiltins x) (hlim:s₁.heap.NoLimit) (hg:s₁.gens=#[])
  (ha:s₁.heap.get? a=some {cls:=.type "list",data:=.seq vs.toArray}) (hi:IntsAre vs ns) (hl:ns.length<=sizeLine) (hr:Room k callerA)
  (F:∀base:Heap,K.In base->base.Ns mainGlobals mg->FnOk P w K mg base CX k fa fd [x] sp) (hbind:∀(s:Shared) (u:Value),BindsTo s fd ⟨[u],[]⟩ [(x,u)])
  (hsp:∀H:Hp,Only H->SqL K H a (ns.map V.int)->sp [.ref a] H (λv _=>v=.bl true) λ_ _ _=>False)
  (hCX:∀H e s',CX [] H s₁ (λ_ _ _=>False) e s'->False) :
  codeAny (model P w) callerA (.call (.ref fa) ⟨[.ref a],[]⟩) (λr s'=>r=.ok (.ret (.bool true))/\OldK s₁.heap s'.heap/\s'.os=s₁.os/\AllBare s'.gens) s₁:=by
 have rv:=xir hi;have lenV:=hi.length
 have core:∀H:Hp,Only H->SqL K H a (ns.map V.int)->HOk P w H s₁.heap->(∀b,H b≠none->b=a)->(H a≠none->K.lookup a=none)->
   codeAny (model P w) callerA (.call (.ref fa) ⟨[.ref a],[]⟩) (λr s'=>r=.ok (.ret (.bool true))/\OldK s₁.heap s'.heap/\s'.os=s₁.os/\AllBare s'.gens) s₁:=by
  intro H hO hS hok hA hK;have base_of:∀{b:Addr} {o:Obj},s₁.heap.get? b=some o->H b=none->(hidT s₁.heap H).get? b=some o:=λe n=>xrw e n
  have noA:∀{b:Addr} {o:Obj} {es:Array DictEntry} {ep:Nat},s₁.heap.get? b=some o->o.data=.dict es ep->H b=none:=λ{b o es ep} e d=>by
   cases q:H b with
   |none=>rfl
   |some u=>
    have e':b=a:=hA b (by rw[q];simp);subst e';rw[ha]at e;cases e;have d':Data.seq vs.toArray _=Data.dict es ep:=d;cases d'
  have nsK:∀{b:Addr} {m:Str->Option Value},s₁.heap.Ns b m->(hidT s₁.heap H).Ns b m:=λ{b m} ⟨o,es,ep,e,d,r⟩=>⟨o,es,ep,base_of e (noA e d),d,r⟩
  have hKb:K.In (hidT s₁.heap H):=λb o e=>base_of (KX b o e) (by
   cases q:H b with
   |none=>rfl
   |some u=>
    have e':b=a:=hA b (by rw[q];simp);subst e';rw[hK (by rw[q];simp)]at e;cases e)
  have hM:Mod K mg (hidT s₁.heap H):=⟨hKb,nsK hns,⟨mb,nsK hb,hbb⟩,let ⟨mc,h1,h2⟩:=hlim;⟨mc,nsK h1,h2⟩⟩;have e0:Env0 P w K mg (hidT s₁.heap H) callerA [] s₁ H:=⟨rfl,hM,λb o e=>xt1 e,Nat.le_of_eq (xpy _ _),trivial,λb hb=>absurd (show b∈([]:List Addr) from hb) (by simp),hok,.of_eq hg⟩;refine codeAny_mono ((F _ hKb (nsK hns)).run callerA [] s₁ H ⟨[.ref a],[]⟩ [.ref a] [.ref a] _ _ hr e0 (hbind s₁ (.ref a)) (.cons rfl .nil) (hsp H hO hS)) λr s' h=>?_
  cases r with
  |error e=>exact(hCX H e s' h).elim
  | ok fl=>
   cases fl with
   |next=>exact False.elim h
   |brk=>exact False.elim h
   |cont=>exact False.elim h
   | ret u=>
    obtain⟨v,H',os,bare,un,hok',r',q⟩:=h;have q':v=.bl true:=q;subst q';obtain rfl:u=Value.bool true:=r';refine⟨rfl,OldK.of_keep λb o e=>?_,os,bare⟩
    cases q:H b with
    |none=>exact un.keep b o e q (by intro z;exact absurd (show b∈([]:List Addr) from z) (by simp)) (by simp)
    | some u=>
     rcases hO b with z |⟨ob,xs,z⟩
     ·rw[q]at z;cases z
     ·have z2:=un.frzs b ob _ z
      obtain⟨e1,_⟩:=hok b _ z;obtain⟨e2,_⟩:=hok' b _ z2;rw[e]at e1;cases e1;exact e2
 cases hk:K.lookup a with
 |some o=>
  have e:=KX a o hk;rw[ha]at e;cases e;refine core (λ_=>none) (λ_=>.inl rfl) (.inr ⟨_,vs.toArray,_,hk,rfl,rfl,rfl,by rw[List.size_toArray,lenV];exact hl,by simpa using rv⟩) (λb u z=>by have z':(none:Option HO)=some u:=z;cases z') (λb z=>absurd rfl z) λz=>absurd rfl z
 | none=>
  refine core (λb=>if b=a then some (.frz {cls:=.type "list",data:=.seq vs.toArray} (.lst (ns.map V.int))) else none) (λb=>?_) (.inl (.inr ⟨{cls:=.type "list",data:=.seq vs.toArray},if_pos rfl⟩)) (λb u z=>?_) (λb z=>?_) λ_=>hk
  ·by_cases hb:b=a
   ·exact .inr ⟨_,_,if_pos hb⟩
   ·exact .inl (if_neg hb)
  ·by_cases hb:b=a
   ·have z':=(if_pos hb).symm.trans z
    cases z';subst hb;exact⟨ha,by rw[zLM];exact hl,vs,_,rv,ha⟩
   ·have z':=(if_neg hb).symm.trans z
    cases z'
  ·by_cases hb:b=a
   ·exact hb
   ·exact absurd (if_neg hb) z
abbrev KOf{K:Fg}{h:Heap}(_:K.In h):Fg:=K
theorem walk_of {l:PySem.W.OpenLaw} {n k:Nat} {q:Program} {loose:List Str} {XP:(Str->Option Value)->Heap->Prop} {YP:World->Heap->Prop} {d:DefRec} {K:Params->Fg} {CX:World->CXT} {sp:World->Sp} {x:Str}
  (hn:l.most=some n) (hn2:n<=sizeLine) (hdf:d.params.defaults=[]) (hr:Room k callerA)
  (hY:∀(w:World) (h:Heap),YP w h->(K w.params).In h)
  (F:∀(w:World) (mg:Str->Option Value) (fa:Addr) (h:Heap),(K w.params).In h->h.Ns mainGlobals mg->mg d.name=some (.ref fa)->
   ∃fd:FuncData,(∀(s:Shared) (u:Value),BindsTo s fd ⟨[u],[]⟩ [(x,u)]) ∧
    ∀base:Heap,(K w.params).In base->base.Ns mainGlobals mg->FnOk l.prog w (K w.params) mg base (CX w) k fa fd [x] (sp w))
  (hsp:∀(w:World) (H:Hp) (a:Addr) (ns:List Int),ns.length<=n->Only H->SqL (K w.params) H a (ns.map V.int)->sp w [.ref a] H (λv _=>v=.bl true) λ_ _ _=>False)
  (hCX:∀(w:World) (H:Hp) (s:Shared) (e:Value) (s':Shared),CX w [] H s (λ_ _ _=>False) e s'->False) :
  PySem.W.WalkO q loose XP YP l.row.toRowW d [] (λf vs=>PySem.call f vs):=by
 refine Att.attach_call hn hdf λw s₀ s₁ mg mb fa o pm cd doc a vs ns G Y ho hd hcd hmg hobj hints hlen hg=>?_;have KX:=hY w _ Y;obtain⟨fd,hb,hF⟩:=F w mg fa _ KX G.T.g hmg;exact xrs KX G.T.g G.T.b G.T.builtins G.T.nolimit hg hobj hints (zY hlen hn2) hr hF hb (λH hO hS=>hsp w H a ns hlen hO hS) λH e s'=>hCX w H s₁ e s'
def xdb(s:Stmt):Arguments:=match s with
 |.FunctionDef _ a _ _ _ _ _ _ _ _=>a
 |_=>{posonlyargs:=[],args:=[],vararg:=none,kwonlyargs:=[],kw_defaults:=[],kwarg:=none,defaults:=[]}
def xcw(s:Stmt):List Stmt:=match s with
 |.FunctionDef _ _ b _ _ _ _ _ _ _=>b
 |_=>[]
def xac(s:Stmt):Scope:=match s with
 |.FunctionDef _ _ _ _ _ _ sc _ _ _=>sc
 |_=>{kind:=.function,names:=[],isGenerator:=false,isCoroutine:=false}
abbrev CX0:CXT:=λ_ _ _ _ _ _=>False
abbrev E0:XK:=λ_ _ _=>False
theorem xoy{X:Cx}:xgx CX0 X E0:=λ_ _ _ _ _ _ _ h=>h.elim
structure Fun(K:Fg)(x qual:Str)(st:Stmt)(f:Addr)(fd:FuncData):Prop where
 ex:∃(oc:Value) (od:Option Addr) (kV doc pm:Value) (an:Option Addr) (cdv ct:Value) (osl:Array (Option Value)),
  fd=PySem.W.fnOf x qual (xdb st) (xcw st) (xac st) .none kV doc pm an cdv ct/\K.lookup f=some ⟨oc,od,.func fd,osl⟩/\PySem.W.codeIn K cdv qual=true
 kp:PySem.W.keepIn K (.ref f)=true
section
variable {P:Program}{w:World}{K:Fg}{mg:Str->Option Value}{base:Heap}
theorem Fun.ok {x qual:Str} {st:Stmt} {f:Addr} {fd:FuncData} {N ps:List Str} {k:Nat} {sp:Sp} (F:Fun K x qual st f fd) (S:FnScope N ps (xac st)) (len:∀vs H Q E,sp vs H Q E->vs.length=ps.length)
  (hbody:∀(cdv:Value) (A:Around) (outer:List Env) (s:Shared) (H:Hp) (vs:List V) (Q:VK) (E:XK),Room k (A.deeper (envOfC qual (xac st) s.heap.objs.size f cdv))->sp vs H Q E->
   ∃t,PSs (cxOf CX0 P w K mg base N qual (xac st) f cdv A outer s H E).nox (xcw st) t/\t {nx:=λ_ H'=>Q .non H',rt:=Q} (xfq N vs) H):FnOk P w K mg base CX0 (k+1) f fd ps sp:=by
 obtain⟨oc,od,kV,doc,pm,an,cdv,ct,osl,rfl,lk,hcd⟩:=F.ex;refine xwf lk hcd S len λA outer s H vs Q E hr hsp=>?_;obtain⟨t,h,q⟩:=hbody cdv A outer s H vs Q E hr hsp;exact⟨t,h.nox,q⟩
theorem xwe {x a:Str} {st:Stmt} {f:Addr} {j:Value} {od i:Option Addr} {g:Array (Option Value)} {kV e h b ct:Value} (l:K.lookup f=some ⟨j,od,.func (PySem.W.fnOf x a (xdb st) (xcw st) (xac st) .none kV e h i b ct),g⟩)
  (c:PySem.W.codeIn K b a=true) (k:PySem.W.keepIn K (.ref f)=true):Fun K x a st f (PySem.W.fnOf x a (xdb st) (xcw st) (xac st) .none kV e h i b ct):=⟨⟨j,od,kV,e,h,i,b,ct,g,rfl,l,c⟩,k⟩
end
theorem xep{A:Around}{k:Nat}(a:Room k A):A.units+1<cLine:=zT (Nat.add_le_add_left (by decide:1<=64) _) a.units
section
variable {X:Cx}
theorem pv (i:Nat) {x:Str} {pos:Pos} (c:X.N[i]?=some x:=by rfl) (b:Vis X.env.scope x:=by first |exact Or.inl rfl |exact Or.inr (Or.inl rfl) |exact Or.inr (Or.inr rfl)) (hd:(x == ("__debug__":Str))=false:=by decide)
  (a:(x == ("__classdict__":Str))=false:=by decide):PE X (.Name x pos) (tVar i):=xvo c b hd a
end
theorem iteF{A B:Prop}(h:B):if false=true then A else B:=by
 rw[if_neg qB];exact h
theorem iteT{A B:Prop}(h:A):if true=true then A else B:=by
 rw[if_pos rfl];exact h
theorem ite2{c A B:Prop}[Decidable c](h1:c->A)(h2:¬c->B):if c then A else B:=by
 by_cases h:c
 ·rw[if_pos h]
  exact h1 h
 ·rw[if_neg h]
  exact h2 h
def Same(H H':Hp):Prop:=∀b o,H b=some o->H' b=some o
theorem Same.refl(H:Hp):Same H H:=λ_ _ h=>h
theorem Same.trans{H H1 H2:Hp}(a:Same H H1)(b:Same H1 H2):Same H H2:=λc o h=>b c o (a c o h)
theorem Same.seq{K:Fg}{H H':Hp}{a:Addr}{xs:List V}(e:Same H H')(h:SqL K H a xs):SqL K H' a xs:=by
 rcases h with(h |⟨o,h⟩) |h
 ·exact .inl (.inl (e _ _ h))
 ·exact .inl (.inr ⟨o,e _ _ h⟩)
 ·exact .inr h
def clOf(env:Env):List (Str×NameKind)->List (Str×Addr)->List (Str×Addr)
 |[],cs=>cs
 |(n,k)::r,cs=>clOf env r (if k == .free then match env.cells.lookup n with |some a=>(n,a)::cs |none=>cs else cs)
theorem xke{env:Env}{x:Str}{c:Addr}:∀{ns:List (Str×NameKind)} {cs:List (Str×Addr)},(∀p∈cs,env.cells.lookup p.1=some p.2)->(clOf env ns cs).lookup x=some c->env.cells.lookup x=some c
 |[],cs,h,e=>by
  unfold clOf at e;exact h (x,c) (zN e)
 | (n,k)::r,cs,h,e=>by
  unfold clOf at e;refine xke (ns:=r) ?_ e;intro p b;split at b
  ·split at b
   ·rename_i a f
    rcases zMC b with rfl |b
    ·exact f
    ·exact h p b
   ·exact h p b
  ·exact h p b
theorem xeu{x:Str}:∀{cs:List (Str×Addr)},(∃c,(x,c)∈cs)->∃c,cs.lookup x=some c
 |[],⟨_,h⟩=>nomatch h
 | (n,a)::r,⟨c,h⟩=>by
  rw[List.lookup_cons]
  cases e:x == n with
  |true=>exact⟨a,rfl⟩
  | false=>
   rcases zMC h with h |h
   ·cases h
    rw[beq_self_eq_true]at e;cases e
   ·exact xeu ⟨c,h⟩
theorem xm6{env:Env}{x:Str}:∀{ns:List (Str×NameKind)} {cs:List (Str×Addr)},((∃c,(x,c)∈cs)\/((x,NameKind.free)∈ns/\∃c,env.cells.lookup x=some c))->∃c,(x,c)∈clOf env ns cs
 |[],cs,h=>by
  unfold clOf;rcases h with h |⟨h,_⟩
  ·exact h
  ·cases h
 | (n,k)::r,cs,h=>by
  unfold clOf;refine xm6 (ns:=r) ?_;rcases h with⟨c,h⟩ |⟨h,c,a⟩
  ·refine .inl ⟨c,?_⟩
   split
   ·split
    ·exact qF _ h
    ·exact h
   ·exact h
  ·rcases zMC h with h |h
   ·cases h
    refine .inl ⟨c,?_⟩;rw[if_pos (by decide),a];exact List.mem_cons_self
   ·exact .inr ⟨h,c,a⟩
theorem xfa{a:Scope}{env:Env}(h:∀p∈a.names,p.2=NameKind.free->∃c,env.cells.lookup p.1=some c):closureFor a env=pure (clOf env a.names []):=by
 have go:∀(ns:List (Str×NameKind)) (cs:List (Str×Addr)),(∀p∈ns,p.2=NameKind.free->∃c,env.cells.lookup p.1=some c)->
   (forIn ns cs λ(x:Str×NameKind) (r:List (Str×Addr))=>(if (x.2 == NameKind.free)=true then do
     let y <- cellOf env x.1
     pure (ForInStep.yield ((x.1,y)::r)) else pure (ForInStep.yield r):Sem (ForInStep (List (Str×Addr)))))=(pure (clOf env ns cs):Sem (List (Str×Addr))):=by
  intro ns
  induction ns with
  |nil=>intro cs _;rfl
  | cons p r f=>
   intro cs e;obtain⟨n,k⟩:=p;rw[List.forIn_cons];unfold clOf;by_cases g:k=NameKind.free
   ·subst g
    obtain⟨c,i⟩:=e (n,.free) List.mem_cons_self rfl;have l:cellOf env n=pure c:=by unfold cellOf;rw[i]
    simp only[beq_self_eq_true,if_true,l,i,pure_bind];exact f _ λq b=>e q (qF _ b)
   ·have j:(k == NameKind.free)=false:=by simpa using g
    simp only[j,Bool.false_eq_true,if_false,pure_bind];exact f _ λq b=>e q (qF _ b)
 unfold closureFor;have:=go a.names [] h;simp only[bind_pure_comp,id_map']at this⊢;rw[this];rfl
theorem xc5 {env:Env} {x:Str} {k':NameKind}:∀{ns:List (Str×NameKind)},
  (ns.map λ(n,k)=>if (k == NameKind.free && env.scope.kind == .function && env.kindOf n == some .cell) then (n,NameKind.cell) else (n,k)).lookup x=some k'->
  ∃k,ns.lookup x=some k/\(k'=k\/(k=.free/\k'=.cell))
 |[],h=>by simp at h
 | (n,k)::r,h=>by
  have h':List.lookup x ((if (k == NameKind.free && env.scope.kind == .function && env.kindOf n == some .cell)=true then (n,NameKind.cell) else (n,k))::(r.map λ(n,k)=>if (k == NameKind.free && env.scope.kind == .function && env.kindOf n == some .cell) then (n,NameKind.cell) else (n,k)))=some k':=h;rw[List.lookup_cons];by_cases a:(k == NameKind.free && env.scope.kind == .function && env.kindOf n == some .cell)=true
  ·rw[if_pos a,List.lookup_cons]at h'
   cases e:x == n with
   |true=>
    rw[e]at h';cases h';refine⟨k,rfl,.inr ⟨?_,rfl⟩⟩;rw[Bool.and_eq_true,Bool.and_eq_true]at a;exact eq_of_beq a.1.1
   |false=>
    rw[e]at h';exact xc5 h'
  ·rw[if_neg a,List.lookup_cons]at h'
   cases e:x == n with
   |true=>
    rw[e]at h';cases h';exact⟨_,rfl,.inl rfl⟩
   |false=>
    rw[e]at h';exact xc5 h'
theorem xey {env:Env} {x:Str} {k:NameKind}:∀{ns:List (Str×NameKind)},ns.lookup x=some k->
  ∃k',(ns.map λ(n,k)=>if (k == NameKind.free && env.scope.kind == .function && env.kindOf n == some .cell) then (n,NameKind.cell) else (n,k)).lookup x=some k'/\(k'=k\/(k=.free/\k'=.cell))
 |[],h=>by simp at h
 | (n,b)::r,h=>by
  show ∃k',List.lookup x ((if (b == NameKind.free && env.scope.kind == .function && env.kindOf n == some .cell)=true then (n,NameKind.cell) else (n,b))::(r.map λ(n,k)=>if (k == NameKind.free && env.scope.kind == .function && env.kindOf n == some .cell) then (n,NameKind.cell) else (n,k)))=some k'/\_;rw[List.lookup_cons]at h;by_cases a:(b == NameKind.free && env.scope.kind == .function && env.kindOf n == some .cell)=true
  ·rw[if_pos a,List.lookup_cons]
   cases e:x == n with
   |true=>
    rw[e]at h;cases h;refine⟨_,rfl,.inr ⟨?_,rfl⟩⟩;rw[Bool.and_eq_true,Bool.and_eq_true]at a;exact eq_of_beq a.1.1
   |false=>
    rw[e]at h;exact xey h
  ·rw[if_neg a,List.lookup_cons]
   cases e:x == n with
   |true=>
    rw[e]at h;cases h;exact⟨_,rfl,.inl rfl⟩
   |false=>
    rw[e]at h;exact xey h
abbrev Cap:=List (Option Nat)
def capt(ix:Cap)(σ:St):St:=ix.map λo=>(o.bind λj=>σ[j]?).join
def xr9(N N':List Str)(sc sc':Scope)(ix:Cap):Bool:=
 (ix.length == N'.length) && (sc'.kind == .function) &&
 (sc'.names.all λp=>p.2 != .cell && (p.2 != .local || sc'.names.lookup p.1 == some .local) && (p.2 != .free || (sc.names.lookup p.1 == some .cell || sc.names.lookup p.1 == some .free))) &&
 (List.range ix.length).all λk=>match ix[k]? with
  |some (some j)=>match N'[k]? with
   |some x=>N[j]? == some x && sc'.names.lookup x == some .free
   |none=>false
  |_=>true
structure CapOk(N N':List Str)(sc sc':Scope)(ix:Cap):Prop where
 len:ix.length=N'.length
 kind:sc'.kind=.function
 nocell:∀p∈sc'.names,p.2≠.cell
 loc:∀p∈sc'.names,p.2=.local->sc'.names.lookup p.1=some .local
 fre:∀p∈sc'.names,p.2=.free->sc.names.lookup p.1=some .cell\/sc.names.lookup p.1=some .free
 cap:∀(k j:Nat),ix[k]?=some (some j)->∃x,N'[k]?=some x/\N[j]?=some x/\sc'.names.lookup x=some .free
theorem xm8{N g:List Str}{i a:Scope}{ix:Cap}(h:xr9 N g i a ix=true):CapOk N g i a ix:=by
 unfold xr9 at h;simp only[Bool.and_eq_true,List.all_eq_true,beq_iff_eq]at h;obtain⟨⟨⟨s,r⟩,f⟩,o⟩:=h;refine⟨s,r,λp b=>?_,λp b m=>?_,λp b n=>?_,λk j l=>?_⟩
 ·have:=(f p b).1.1
  simpa using this
 ·have:=(f p b).1.2
  rw[m]at this;simpa using this
 ·have:=(f p b).2
  rw[n]at this;simpa using this
 ·have c:k<ix.length:=(zES l).1
  have:=o k (List.mem_range.mpr c);rw[l]at this;simp only at this
  cases e:g[k]? with
  |none=>rw[e]at this;simp at this
  |some x=>
   rw[e]at this;simp only[Bool.and_eq_true,beq_iff_eq]at this;exact⟨x,rfl,this.1,this.2⟩
abbrev Cx.comp(X:Cx)(sc:Scope)(N':List Str)(C:Addr)(s₀:Shared)(H₀:Hp)(ex:List Addr):Cx:=
 {X with N:=N',s₀:=s₀,H₀:=H₀,env:=compEnvC sc (clOf X.env sc.names []) C X.env,outer:=X.stack,stack:=X.stack,ex:=ex,fn:=λ_=>false,pn:=[],xe:=λ_ _=>False}
def Ext(σ σ':St):Prop:=σ.length=σ'.length/\∀(i:Nat) v,σ[i]?=some (some v)->σ'[i]?=some (some v)
theorem xgs{σ:St}{i:Nat}{v:Option V}(h:σ[i]?=some none):Ext σ (σ.set i v):=by
 refine⟨by simp,λj w e=>?_⟩;by_cases a:i=j
 ·subst a;rw[h]at e;cases e
 ·rw[List.getElem?_set_ne a];exact e
def PTs(X:Cx)(ifs:List Expr)(t:TT):Prop:=
 ∀(pins:List (Addr×Obj)) (s:Shared) (σ:St) (H:Hp) (Q:Bool->Hp->Prop),Inv X pins σ H s->t σ H Q->
  wpAny (model X.prog X.w) X.A (forIn ifs true λc r=>if r=true then do let ok <- isTrue c X.env (eval c X.env);pure (ForInStep.yield ok) else pure (ForInStep.yield r)) (TP X pins σ Q) X.xe s
def tYes:TT:=λ_ H Q=>Q true H
theorem xbp{X:Cx}:PTs X [] tYes:=λ_ _ _ H _ I h=>wpAny_tests_nil ⟨H,I,h⟩
theorem xdt{X:Cx}{c:Expr}{t:TT}(h:PT X c t):PTs X [c] t:=λa s σ H Q I b=>wpAny_tests_one (h a s σ H Q I b)
def xff(J:It)(ix:Cap)(g:TG)(tt:TT)(te:TE)(σ:St)(H1:Hp)(Q:VK):Prop:=∃W:Nat->Nat->List V->Hp->Prop,(∃m,W 0 m [] H1)/\∀i m ys H,W i m ys H->
 (J.stop i H/\∀D,H D=none->Q (.ref D) (upd H D (.lst ys))) ∨
 (J.go i H/\ys.length<sizeLine/\∀x H',J.yld i H x H'->g x (capt ix σ) H' λσ2 H2=>Ext (capt ix σ) σ2/\tt σ2 H2 λb H3=>
  if b=true then te σ2 H3 λy H4=>∃m',m'<m/\W (i+1) m' (ys++[y]) H4 else ∃m',m'<m/\W (i+1) m' ys H3)
def xtc(ix:Cap)(wi:TI)(g:TG)(tt:TT)(te:TE):TE:=λσ H Q=>wi σ H λJ H1=>xff J ix g tt te σ H1 Q
theorem HOk.track{P:Program}{w:World}{H:Hp}{h:Heap}{a:Addr}{o:HO}(x:HOk P w H h)(hn:H a=none)(new:ObjOk P w (upd H a o) h a o):HOk P w (upd H a o) h:=λb u e=>by
 by_cases f:b=a
 ·subst f;rw[ups]at e;cases e;exact new
 ·rw[xai f]at e
  exact(x b u e).stay (λc v _ q=>q) (λc q=>by rw[xai (neN q hn)];exact q) λc xs q=>by rw[xai (neN q hn)];exact q
theorem xeq {prog:Program} {w:World} {A:Around} {R:Result->Shared->Prop} {s:Shared} {i a f:Expr} {g:List Expr} {b:Scope} {pos:Pos} {it acc:Value} {env:Env} (I:Nat->Shared->Prop)
  (j:∀ n s,I n s->wpAny (model prog w) A (pyNext it) (λr p=>match r with
   |none=>R (.ok .next) p
   | some v=>wpAny (model prog w) A (letOwnedTupleGo a it v) (λ_ l=>wpAny (model prog w) A (assign a env v) (λ_ C=>
     wpAny (model prog w) A (forIn g true λc r=>if r=true then do let ok <- isTrue c env (eval c env);pure (ForInStep.yield ok) else pure (ForInStep.yield r)) (λok o=>
      if ok=true then wpAny (model prog w) A (eval i env) (λx z=>
       wpAny (model prog w) A (call (.builtin "list.append") [acc,x]) (λ_ y=>∃m,m<n/\I m y) (notedBy (model prog w) A env λe s'=>R (.error e) s') z) (notedBy (model prog w) A env λe s'=>R (.error e) s') o
      else ∃m,m<n/\I m o) (notedBy (model prog w) A env λe s'=>R (.error e) s') C) (notedBy (model prog w) A env λe s'=>R (.error e) s') l) (notedBy (model prog w) A env λe s'=>R (.error e) s') p) (notedBy (model prog w) A env λe s'=>R (.error e) s') s)
  (n:Nat) (h:I n s) :
  codeAny (model prog w) A (.compLoop (.ListComp i [⟨a,f,g,0⟩] b pos) 0 it acc env) R s:=by
 refine codeAny_loop rfl I (λn s U=>?_) n h;show wpAny _ A ((compTurn (.ListComp i [⟨a,f,g,0⟩] b pos) 0 it acc env).onRaise (λx=>do noteFrame x env;theTreesLotGoes x)) _ _ s;refine wpAny_noted ?_;rw[compTurn_list];refine zX (wpAny_standAt (zX (wpAny_mono (j n s U) (λr p h₁=>?_) λ_ _ h'=>h')))
 cases r with
 |none=>exact z5 h₁
 | some v=>
  refine zX (wpAny_mono h₁ (λ_ l u=>?_) λ_ _ h'=>h');refine zX (wpAny_mono u (λ_ C O=>zX (wpAny_mono O (λok o G=>?_) λ_ _ h'=>h')) λ_ _ h'=>h')
  cases ok with
  |false=>exact z5 ⟨rfl,G⟩
  |true=>
   exact zX (zX (wpAny_mono G (λx z M=>zX (wpAny_mono M (λ_ y J=>z5 (z5 ⟨rfl,J⟩)) λ_ _ h'=>h')) λ_ _ h'=>h'))
section
variable {X:Cx}
theorem xhd{M:Model}{A:Around}{α:Type}{t:Sem α}{Q:α->Shared->Prop}{E:Value->Shared->Prop}{s:Shared}(h:wpAny M A t Q (λ_ _=>False) s):wpAny M A t Q E s:=wpAny_mono h (λ_ _ q=>q) λ_ _ z=>z.elim
theorem xhi {elt tg iter:Expr} {ifs:List Expr} {sc:Scope} {pos:Pos} {N':List Str} {ix:Cap} {g:TG} {tt:TT} {te:TE} {pins:List (Addr×Obj)} {σ:St} {s:Shared} {Q:VK} {RR:Value->Addr->Result->Shared->Prop} {E:Value->Shared->Prop}
  {itv:Value} (hc:X.calm=true) (ok:CapOk X.N N' X.env.scope sc ix)
  (hg:∀C s₀ H₀ ex,PG (X.comp sc N' C s₀ H₀ ex) tg g) (ht:∀C s₀ H₀ ex,PTs (X.comp sc N' C s₀ H₀ ex) ifs tt) (he:∀C s₀ H₀ ex,PE (X.comp sc N' C s₀ H₀ ex) elt te)
  (hi:PIE X pins σ tg (λJ H1=>xff J ix g tt te σ H1 Q) itv s)
  (fin:∀(D C:Addr) (s':Shared) (H':Hp) (m:Str->Option Value),Inv X pins σ H' s'->Q (.ref D) H'->s'.heap.Ns C m->H' C=none->C≠X.env.locals->X.s₀.heap.objs.size<=C->(∀x c,X.env.cells.lookup x=some c->c≠C)->(∀p∈X.pn++pins,p.1≠C)->
   RR (.ref D) C (.ok .next) s') :
  wpAny (model X.prog X.w) X.A (newList []) (λacc s₃=>wpAny (model X.prog X.w) X.A (newFunctionEnv sc X.env.globals (clOf X.env sc.names []) [] X.env.qual none .none (some X.env)) (λcenv s₄=>
   codeAny (model X.prog X.w) X.A (.compStart (.ListComp elt [⟨tg,iter,ifs,0⟩] sc pos) 0 itv acc {cenv with scope:=relabel sc X.env}) (RR acc cenv.locals) s₄) E s₃) E s:=by
 obtain⟨it,fp,tn,J,H2,rfl,I2,T,st2,f2,W,⟨m0,w0⟩,turn⟩:=hi;refine wpAny_newObj_type (wpAny_newFunctionEnv ok.nocell (by intro y hy;simp at hy) (λh₁ hns₁ hsb₁=>?_) ok.kind);dsimp only at hns₁ hsb₁⊢;generalize hHD:s.heap.push {cls:=.type "list",dict:=none,data:=.seq ([]:List Value).toArray}=hD at hns₁ hsb₁⊢;have hCs:hD.objs.size=s.heap.objs.size+1:=by rw[<- hHD,Heap.size_push]
 have upC:s.heap.objs.size<hD.objs.size:=by rw[hCs];exact Nat.lt_succ_self _
 have hDC:s.heap.objs.size≠hD.objs.size:=by rw[hCs];exact qD (Nat.lt_succ_self _)
 have below:∀b o,s.heap.get? b=some o->b≠hD.objs.size/\b≠s.heap.objs.size:=λb o e=>by
  have:=z6 e;exact⟨qD (by rw[hCs];exact Nat.lt_succ_of_lt this),qD this⟩
 have old:∀b o,s.heap.get? b=some o->h₁.get? b=some o:=λb o e=>hsb₁.extBut b o (below b o e).1 (zPO _ (hHD ▸ zPO _ e));have hacc:h₁.get? s.heap.objs.size=some {cls:=.type "list",data:=.seq ([]:List Value).toArray 0}:=hsb₁.extBut _ _ hDC (zPO _ (hHD ▸ z9 _ rfl));have fpo:∀b∈fp,b<s.heap.objs.size:=λb hb=>let ⟨o,e,_⟩:=T.obj _ _ st2 b hb;z6 e;have cellX:∀x c,(clOf X.env sc.names []).lookup x=some c->X.env.cells.lookup x=some c:=λx c e=>xke (λp hp=>absurd hp (by simp)) e;have cellLt:∀x c,X.env.cells.lookup x=some c->c<s.heap.objs.size:=λx c e=>let ⟨v,z⟩:=I2.cell x c e;z.lt
 have hasC:∀x,(x,NameKind.free)∈sc.names->∃c,(clOf X.env sc.names []).lookup x=some c:=λx hx=>by
  have h1:=I2.ok.has x (ok.fre (x,.free) hx rfl);exact xeu (xm6 (.inr ⟨hx,h1⟩))
 have okX:(X.comp sc N' hD.objs.size s H2 fp).Ok:=by
  refine⟨I2.ok.mod,ok.kind,I2.ok.glob,I2.ok.blt,?_,?_,?_,?_,I2.ok.hd,I2.ok.frames,.inl rfl,?_,I2.bs,zY I2.ok.bsz I2.sz,?_,?_,I2.stack,I2.stkFree⟩
  ·exact Nat.le_of_lt upC
  ·intro x y c h1 h2
   exact I2.ok.inj x y c (cellX x c h1) (cellX y c h2)
  ·intro x hx
   have hx':(relabel sc X.env).names.lookup x=some .cell\/(relabel sc X.env).names.lookup x=some .free:=hx
   have:∃k,sc.names.lookup x=some k/\(k=.free\/k=.cell):=by
    rcases hx' with h |h
    ·obtain⟨k,e,z⟩:=xc5 h
     rcases z with z |⟨z,_⟩
     ·exact⟨k,e,.inr z.symm⟩
     ·exact⟨k,e,.inl z⟩
    ·obtain⟨k,e,z⟩:=xc5 h
     rcases z with z |⟨_,z⟩
     ·exact⟨k,e,.inl z.symm⟩
     ·cases z
   obtain⟨k,e,z⟩:=this;rcases z with rfl |rfl
   ·exact hasC x (zN e)
   ·exact absurd rfl (ok.nocell _ (zN e))
  ·intro x c h _
   cases h
  ·intro b hb
   refine⟨?_,λx c e=>(f2 b hb).2.2.2.2.1 x c (cellX x c e)⟩;exact qD (by rw[hCs];exact Nat.lt_succ_of_lt (fpo b hb))
  ·intro b o e hb
   rcases(f2 b hb).2.2.2.1 with z |z
   ·exact I2.ok.noex b o e z
   ·exact absurd (qE (z6 (I2.ok.bs b o e).1) z) (qH _)
  ·intro b hb z
   rcases zMC (I2.stkSub b z) with z |z
   ·exact(f2 b hb).2.1 z
   ·exact(f2 b hb).2.2.1 z
 have hnD:H2 s.heap.objs.size=none:=I2.hok.fresh (zZ _);have hnC:H2 hD.objs.size=none:=I2.hok.fresh (Nat.le_of_lt upC)
 have nofsD:∀a,s.heap.objs.size<=a->a ∉frs X.stack:=λa ha z=>by
  rcases zMC (I2.stkSub a z) with z |z
  ·exact absurd (qE I2.lt ha) (by rw[z];exact qH _)
  ·exact I2.nofs ha z
 have xfq:Inv (X.comp sc N' hD.objs.size s H2 fp) [(s.heap.objs.size,{cls:=.type "list",data:=.seq ([]:List Value).toArray 0})] (capt ix σ) H2 {s with heap:=h₁,toks:=s.toks+([]:List (Str×Value)).length}:=by
  refine⟨okX,rfl,I2.bare,Un.kept old,⟨_,hns₁,?_⟩,λx c e=>?_,hnC,λx c e=>I2.freeC x c (cellX x c e),λp hp=>?_,I2.hok.kept old,?_⟩
  ·intro i x v hN hv hvis
   have hl:i<ix.length:=by rw[ok.len];exact(zES hN).1
   have hv':(ix.map λo=>(o.bind λj=>σ[j]?).join)[i]?=some (some v):=hv;rw[zGM,zGA hl]at hv';have hv'':((ix[i].bind λj=>σ[j]?).join)=some v:=qC hv'
   cases ej:ix[i] with
   |none=>rw[ej]at hv'';cases hv''
   | some j=>
    rw[ej]at hv''
    have hσ:σ[j]?=some (some v):=by
     have z:(σ[j]?).join=some v:=hv''
     cases q:σ[j]? with
     |none=>rw[q]at z;cases z
     |some o=>rw[q]at z;exact congrArg some z
    obtain⟨x',e1,e2,e3⟩:=ok.cap i j (by rw[zGA hl,ej]);rw[show N'[i]?=some x from hN]at e1;cases e1;have hk:=ok.fre (x,.free) (zN e3) rfl;obtain⟨m,hm,hl'⟩:=I2.loc;obtain⟨u,ru,lk⟩:=hl' j x v e2 hσ (hk.elim (λz=>.inr (.inl z)) λz=>.inr (.inr z));refine⟨u,ru,.inr ⟨?_,?_⟩⟩
    ·show(relabel sc X.env).names.lookup x=some .cell\/(relabel sc X.env).names.lookup x=some .free
     obtain⟨k',q1,q2⟩:=xey (env:=X.env) e3;rcases q2 with q2 |⟨_,q2⟩
     ·exact .inr (q1.trans (congrArg some q2))
     ·exact .inl (q1.trans (congrArg some q2))
    ·obtain⟨c,hc'⟩:=hasC x (zN e3)
     refine⟨c,hc',?_⟩;rcases lk with⟨z,_⟩ |⟨_,c',ec,⟨o,ho,hd⟩⟩
     ·have z':X.env.scope.names.lookup x=some .local:=z
      rcases hk with hk |hk
      ·rw[z']at hk;cases hk
      ·rw[z']at hk;cases hk
     ·rw[cellX x c hc']at ec
      cases ec;exact⟨o,old _ _ ho,hd⟩
  ·obtain⟨v,o,ho,hd⟩:=I2.cell x c (cellX x c e)
   exact⟨v,o,old _ _ ho,hd⟩
  ·have e:p=(s.heap.objs.size,{cls:=.type "list",data:=.seq ([]:List Value).toArray 0}):=by simpa using hp
   subst e;exact⟨hacc,hnD,hDC,nofsD _ (zZ _),λv z=>by cases z⟩
  ·show(ix.map _).length=N'.length
   rw[zLM];exact ok.len
 have st1:tn 0 h₁:=T.keep _ _ _ st2 λb hb o e=>old b o e
 have loop:∀s₃:Shared,s₃={s with heap:=h₁,toks:=s.toks+([]:List (Str×Value)).length}->
   codeAny (model X.prog X.w) X.A (.compLoop (.ListComp elt [⟨tg,iter,ifs,0⟩] sc pos) 0 (.ref it) (.ref s.heap.objs.size) (compEnvC sc (clOf X.env sc.names []) hD.objs.size X.env))
    (RR (.ref s.heap.objs.size) hD.objs.size) s₃:=by
  rintro s₃ rfl
  have fpI:∀{H':Hp} {o:Obj},(∀b∈fp,H' b=none)->∀b∈fp,FpOk (X.comp sc N' hD.objs.size s H2 fp) [(s.heap.objs.size,o)] H' b:=λ{H' o} hn b hb=>by
   have hlt:=fpo b hb;refine⟨hn b hb,(okX.exf b hb).1,okX.exfs b hb,.inl hb,(okX.exf b hb).2,λp hp=>?_⟩;have e:p=(s.heap.objs.size,o):=by simpa using hp
   subst e;exact Nat.ne_of_gt hlt
  refine xeq (λn s'=>∃i ys its k H',Inv (X.comp sc N' hD.objs.size s H2 fp) [(s.heap.objs.size,{cls:=.type "list",data:=.seq its.toArray k})] (capt ix σ) H' s'/\Vals ys its/\ys.length<=sizeLine/\tn i s'.heap/\(∀b∈fp,H' b=none)/\W i n ys H')
   ?_ m0 ⟨0,[],[],0,H2,xfq,.nil,qO _,st1,λb hb=>(f2 b hb).1,w0⟩
  rintro n s4 ⟨i,ys,its,k,H4,I4,r4,z4,st4,fr4,w4⟩;rcases turn i n ys H4 w4 with⟨stop,q⟩ |⟨go,hz,step⟩
  ·refine xhd (thn (T.done (X.comp sc N' hD.objs.size s H2 fp) rfl rfl rfl hc i _ s4 _ H4 (λ_ _=>False) I4 (fpI fr4) st4 stop) λr s5 ⟨hr,I5⟩=>?_)
   subst hr;show RR (.ref s.heap.objs.size) hD.objs.size (.ok .next) s5;obtain⟨pD,nD,_,_,_⟩:=I5.pin (s.heap.objs.size,{cls:=.type "list",data:=.seq its.toArray k}) (by simp);obtain⟨m5,hm5,_⟩:=I5.loc;have okD:HOk X.prog X.w (upd H4 s.heap.objs.size (.lst ys)) s5.heap:=I5.hok.track nD ⟨z4,its,k,r4,pD⟩
   have un:Un (frs X.stack) fp H2 (upd H4 s.heap.objs.size (.lst ys)) s.heap s5.heap:=by
    have B:Un (frs X.stack) fp H2 H4 s.heap s5.heap:=I5.base;have ne:∀b u,H2 b=some u->b≠s.heap.objs.size:=λb u e=>neN e hnD;refine⟨B.keep,B.slot,λb o e n hb=>?_,B.there,λb xs e=>?_,λb o u e=>?_,λb ps e=>?_⟩
    ·rw[xai (below b o e).2];exact B.free b o e n hb
    ·rw[xai (ne b _ e)];exact B.tups b xs e
    ·rw[xai (ne b _ e)];exact B.frzs b o u e
    ·rw[xai (ne b _ e)];exact B.tbls b ps e
   have IX:Inv X pins σ (upd H4 s.heap.objs.size (.lst ys)) s5:=I2.call' (ch:=fp) I5.os un okD I5.bare λb hb=>⟨(f2 b hb).2.2.2.1,(f2 b hb).2.1,(f2 b hb).2.2.2.2.1,(f2 b hb).2.2.2.2.2⟩;refine fin _ _ s5 _ m5 IX (q _ nD) hm5 ?_ (Nat.ne_of_gt (Nat.lt_trans I2.lt upC)) (Nat.le_of_lt (zT I2.sz upC)) (λx c e=>qD (Nat.lt_trans (cellLt x c e) upC)) (λp hp=>qD (Nat.lt_trans (z6 (I2.pin p hp).1) upC));rw[xai (Ne.symm hDC)];exact I5.free
  ·refine xhd (thn (T.item (X.comp sc N' hD.objs.size s H2 fp) rfl rfl rfl hc i _ s4 _ H4 (λ_ _=>False) I4 (fpI fr4) st4 go) λr s5 ⟨u,hr,h5⟩=>?_)
   subst hr;refine xhd (thn h5 λ_ s6 ⟨x,H6,I6,r6,y6,st6,fr6⟩=>?_);have I6':=I6.pinned (fpI fr6) (T.obj _ _ st6);refine xhd (thn (hg _ _ _ _ _ s6 _ H6 x u _ I6' r6 (step x H6 y6)) λ_ s7 ⟨σ7,H7,I7,x7,q7⟩=>?_);refine xhd (thn (ht _ _ _ _ _ s7 σ7 H7 _ I7 q7) λb s8 ⟨H8,I8,q8⟩=>?_)
   have back:∀{s9:Shared} {H9:Hp},Inv (X.comp sc N' hD.objs.size s H2 fp) ([(s.heap.objs.size,{cls:=.type "list",data:=.seq its.toArray k})]++xje fp s6.heap) σ7 H9 s9->
     Inv (X.comp sc N' hD.objs.size s H2 fp) [(s.heap.objs.size,{cls:=.type "list",data:=.seq its.toArray k})] (capt ix σ) H9 s9/\tn (i+1) s9.heap/\(∀b∈fp,H9 b=none):=λ{s9 H9} J9=>by
    refine⟨(J9.unpinned).weak x7.1 x7.2,T.keep _ _ _ st6 λb hb o e=>(J9.pin (b,o) (zJ _ (zJ _ (xej hb e)))).1,λb hb=>?_⟩;obtain⟨o,e,d⟩:=T.obj _ _ st6 b hb;exact(J9.pin (b,o) (zJ _ (zJ _ (xej hb e)))).2.1
   cases b with
   |false=>
    rw[if_neg qB]at q8⊢;obtain⟨m',hm,w8⟩:=q8;obtain⟨J8,st8,fr8⟩:=back I8;exact⟨m',hm,i+1,ys,its,k,H8,J8,r4,z4,st8,fr8,w8⟩
   | true=>
    rw[if_pos rfl]at q8⊢;refine xhd (thn (he _ _ _ _ _ s8 σ7 H8 _ I8 q8) λy s9 ⟨v9,H9,I9,r9,q9⟩=>?_);obtain⟨m',hm,w9⟩:=q9;obtain⟨J9,st9,fr9⟩:=back I9;obtain⟨pD,nD,neC,nf,_⟩:=J9.pin (s.heap.objs.size,{cls:=.type "list",data:=.seq its.toArray k}) (by simp);have hlen:=r4.length;refine call_meets F.slot_list_append ⟨_,pD,rfl⟩ F.entry_list_append (F.args_list_append_2 _ _) (PySem.list_append s.heap.objs.size its.toArray k y (by rw[List.size_toArray];omega)) ⟨pD,?_⟩;have q:=PySem.IsL.update pD (·.push y);have ep:its.toArray.push y=(its++[y]).toArray:=by simp
    dsimp only at q;rw[ep]at q;obtain⟨k',q⟩:∃k',(s9.heap.update s.heap.objs.size (Obj.mapSeq (·.push y))).get? s.heap.objs.size=some {cls:=.type "list",data:=.seq (its++[y]).toArray k'}:=⟨_,q⟩;have J0:Inv (X.comp sc N' hD.objs.size s H2 fp) [] (capt ix σ) H9 s9:=J9.pins_of λp hp=>absurd hp (by simp)
    have J1:Inv (X.comp sc N' hD.objs.size s H2 fp) [] (capt ix σ) H9 {s9 with heap:=s9.heap.update s.heap.objs.size (Obj.mapSeq (·.push y))}:=
     J0.turned (it:=s.heap.objs.size) (t':=s9.toks) (λb o hb e=>(Heap.get?_update_other _ _ (Ne.symm hb)).trans e) nD neC (.inr (zZ _)) (λx c e=>qD (cellLt x c (cellX x c e))) λp hp=>absurd hp (by simp)
    refine⟨m',hm,i+1,ys++[v9],its++[y],k',H9,J1.pins_of λp hp=>?_,r4.append (.cons r9 .nil),?_,T.keep _ _ _ st9 λb hb o e=>(Heap.get?_update_other _ _ ?_).trans e,fr9,w9⟩
    ·have e:p=_:=zMO hp
     subst e;exact⟨q,nD,neC,nf,λv z=>by cases z⟩
    ·rw[zLA,List.length_singleton];omega
    ·exact Nat.ne_of_gt (fpo b hb)
 exact codeAny_compStart_list (loop _ rfl) (T.self _ 0 _ _ _ st1 (loop _ rfl))
theorem Inv.letGo {pins:List (Addr×Obj)} {σ:St} {H:Hp} {s:Shared} {C:Addr} {h':Heap} (I:Inv X pins σ H s) (hs:Heap.SameBut C s.heap h') (h0:H C=none) (h1:C≠X.env.locals) (h2:X.s₀.heap.objs.size<=C) (h3:∀x c,X.env.cells.lookup x=some c->c≠C)
  (h4:∀p∈X.pn++pins,p.1≠C):Inv X pins σ H {s with heap:=h'}:=I.turned (t':=s.toks) (λb o hb e=>(hs.2 b hb).trans e) h0 h1 (.inr h2) h3 h4
theorem xbj {elt tg iter:Expr} {ifs:List Expr} {sc:Scope} {pos:Pos} (N':List Str) (ix:Cap) {wi:TI} {g:TG} {tt:TT} {te:TE} (hc:X.calm=true) (hok:xr9 X.N N' X.env.scope sc ix=true)
  (hi:PI X tg iter wi) (hg:∀C s₀ H₀ ex,PG (X.comp sc N' C s₀ H₀ ex) tg g) (ht:∀C s₀ H₀ ex,PTs (X.comp sc N' C s₀ H₀ ex) ifs tt) (he:∀C s₀ H₀ ex,PE (X.comp sc N' C s₀ H₀ ex) elt te)
  (hs:∀x,foldedSetIterable iter X.env x=pure x:=by intro _;rfl):PE X (.ListComp elt [⟨tg,iter,ifs,0⟩] sc pos) (xtc ix wi g tt te):=by
 intro pins s σ H Q I h;have ok:=xm8 hok;rw[eval_ListComp];refine wpAny_comprehension_free (use:=none) rfl hs (xfa λp hp hk=>I.ok.has p.1 (ok.fre p hp hk)) ok.kind ok.loc (thn (hi pins s σ H _ I h) λv s1 h1=>thn h1 λitv s2 h2=>?_);refine xhi (RR:=λacc C=>compPost (model X.prog X.w) X.A X.xe none (EP X pins σ Q) acc C) hc ok hg ht he h2 ?_;intro D C s' H' m I' q hm h0 h1 h2 h3 h4;exact⟨m,hm,λh' hsb=>⟨.ref D,H',I'.letGo hsb h0 h1 h2 h3 h4,rfl,q⟩⟩
theorem xcx {elt tg iter:Expr} {ifs:List Expr} {sc:Scope} {pos spos py:Pos} {i:Nat} {y:Str} (N':List Str) (ix:Cap) {wi:TI} {g:TG} {tt:TT} {te:TE} (hc:X.calm=true) (hok:xr9 X.N N' X.env.scope sc ix=true)
  (hN:X.N.Nodup) (hy:X.N[i]?=some y) (hx:Loc X.env.scope y)
  (hi:PI X tg iter wi) (hg:∀C s₀ H₀ ex,PG (X.comp sc N' C s₀ H₀ ex) tg g) (ht:∀C s₀ H₀ ex,PTs (X.comp sc N' C s₀ H₀ ex) ifs tt) (he:∀C s₀ H₀ ex,PE (X.comp sc N' C s₀ H₀ ex) elt te)
  (hs:∀x,foldedSetIterable iter X.env x=pure x:=by intro _;rfl) (hsw:swapsWith (.ListComp elt [⟨tg,iter,ifs,0⟩] sc pos) (some (.Name y py)) spos.line X.env=pure true:=by rfl)
  (hf:X.fn y=true\/X.env.scope.names.lookup y=some .local:=by first |exact .inl rfl |exact .inr rfl |assumption) :
  PS X (.Assign [.Name y py] (.ListComp elt [⟨tg,iter,ifs,0⟩] sc pos) spos) (tAsg (xtc ix wi g tt te) (xfl i)):=by
 intro pins s σ H D I h;have ok:=xm8 hok;rw[exec_Assign_Name_used _ _ _ _ hsw];refine zX (wpAny_standAt (zX ?_));show wpAny _ X.A (do let _ <- comprehension (.ListComp elt [⟨tg,iter,ifs,0⟩] sc pos) sc X.env _ (newList []) false (eval iter X.env) (some (assign (.Name y py) X.env))) _ _ s
 refine zX (wpAny_mono (wpAny_comprehension_free (use:=some (assign (.Name y py) X.env)) (Q:=λ_ s'=>SP X pins D .next s') rfl hs (xfa λp hp hk=>I.ok.has p.1 (ok.fre p hp hk)) ok.kind ok.loc
  (thn (hi pins s σ H _ I h) λv s1 h1=>thn h1 λitv s2 h2=>?_)) (λ_ s' hq=>z5 (z5 hq)) λ_ _ e=>e)
 refine xhi (Q:=λx H1=>xfl i x σ H1 D.nx) (RR:=λacc C=>compPost (model X.prog X.w) X.A X.xe (some (assign (.Name y py) X.env)) (λ_ s'=>SP X pins D .next s') acc C) hc ok hg ht he h2 ?_;intro Dl C s' H' m I' q hm h0 h1 h2 h3 h4;refine wpAny_assign_Name (xiv I' hN hy hx (v:=.ref Dl) rfl (λs3 I3 sb=>?_) hf);obtain⟨a,hsb,ha⟩:=sb
 have hne:C≠a:=by
  rcases ha with e |e
  ·rw[e];exact h1
  ·exact Ne.symm (h3 y a e)
 exact⟨m,hm.sameBut hsb hne,λh' hs'=>⟨_,H',I3.letGo hs' h0 h1 h2 h3 h4,q⟩⟩
end
section
variable {ix:Cap}{tt:TT}{te:TE}{g:TG}{σ:St}{H:Hp}{Q:VK}
def Nxt(Pv:Nat->List V->Hp->Prop)(n i:Nat)(ys:List V):VK:=λy H2=>∃m',m'<n-i/\m'=n-(i+1)/\i+1<=n/\(ys++[y]).length=i+1/\Pv (i+1) (ys++[y]) H2
theorem nxt{a:Nat->List V->Hp->Prop}{n i:Nat}{ys:List V}{y:V}{b:Hp}(hi:i<n)(c:ys.length=i)(h:a (i+1) (ys++[y]) b):Nxt a n i ys y b:=
 ⟨n-(i+1),by omega,rfl,hi,by rw[zLA,List.length_singleton,c],h⟩
theorem xdz {lo:Int} {n j:Nat} (Pv:Nat->List V->Hp->Prop) (hj:(capt ix σ)[j]?=some none) (h0:Pv 0 [] H) (hn:n<sizeLine)
  (hs:∀i ys H,i<n->ys.length=i->Pv i ys H->te ((capt ix σ).set j (some (.int (lo+i)))) H (Nxt Pv n i ys))
  (hd:∀ys H,ys.length=n->Pv n ys H->∀D,H D=none->Q (.ref D) (upd H D (.lst ys))):xff (Itr lo n) ix (xfl j) tYes te σ H Q:=by
 refine⟨λi m ys H=>m=n-i/\i<=n/\ys.length=i/\Pv i ys H,⟨n,by simp,qO _,rfl,h0⟩,?_⟩;rintro i m ys H ⟨rfl,hi,hl,p⟩;by_cases hlt:i<n
 ·refine .inr ⟨hlt,by omega,λx H' y=>?_⟩
  obtain⟨e,y⟩:=y;subst e y;refine⟨xgs hj,?_⟩;unfold tYes;dsimp only;rw[if_pos rfl];exact hs i ys _ hlt hl p
 ·have e:i=n:=by omega
  subst e;exact .inl ⟨zZ _,hd ys H hl p⟩
theorem xgv {K:Fg} {a:Addr} {xs:List V} {j:Nat} (Pv:Nat->List V->Hp->Prop) (hj:(capt ix σ)[j]?=some none) (h0:Pv 0 [] H) (hn:xs.length<sizeLine) (hl':∀i ys H,i<=xs.length->Pv i ys H->SqL K H a xs)
  (hs:∀i x ys H,xs[i]?=some x->ys.length=i->Pv i ys H->te ((capt ix σ).set j (some x)) H (Nxt Pv xs.length i ys))
  (hd:∀ys H,ys.length=xs.length->Pv xs.length ys H->∀D,H D=none->Q (.ref D) (upd H D (.lst ys))):xff (Itl K a) ix (xfl j) tYes te σ H Q:=by
 refine⟨λi m ys H=>m=xs.length-i/\i<=xs.length/\ys.length=i/\Pv i ys H,⟨xs.length,by simp,qO _,rfl,h0⟩,?_⟩;rintro i m ys H ⟨rfl,hi,hl,p⟩;have q:=hl' i ys H hi p;by_cases hlt:i<xs.length
 ·refine .inr ⟨⟨xs,xs[i],q,by simp[hlt]⟩,by omega,λv H' y=>?_⟩
  obtain⟨e,y⟩:=y;subst e;refine⟨xgs hj,?_⟩;unfold tYes;dsimp only;rw[if_pos rfl];exact hs i v ys _ (y xs q) hl p
 ·have e:i=xs.length:=by omega
  subst e;exact .inl ⟨⟨xs,q,zZ _⟩,hd ys H hl p⟩
theorem xf4 {K:Fg} {a:Addr} {xs:List V} {j:Nat} (b:Nat->List V->Hp->Prop) (h:(capt ix σ)[j]?=some none) (h0:b 0 [] H) (hn:xs.length<sizeLine) (f:∀i ys H,i<=xs.length->b i ys H->SqT K H a xs)
  (hs:∀i x ys H,xs[i]?=some x->ys.length=i->b i ys H->te ((capt ix σ).set j (some x)) H (Nxt b xs.length i ys))
  (hd:∀ys H,ys.length=xs.length->b xs.length ys H->∀D,H D=none->Q (.ref D) (upd H D (.lst ys))):xff (Itt K a) ix (xfl j) tYes te σ H Q:=by
 refine⟨λi m ys H=>m=xs.length-i/\i<=xs.length/\ys.length=i/\b i ys H,⟨xs.length,by simp,qO _,rfl,h0⟩,?_⟩;rintro i m ys H ⟨rfl,hi,g,p⟩;have q:=f i ys H hi p;by_cases c:i<xs.length
 ·refine .inr ⟨⟨xs,xs[i],q,by simp[c]⟩,by omega,λv l y=>?_⟩
  obtain⟨e,y⟩:=y;subst e;refine⟨xgs h,?_⟩;unfold tYes;dsimp only;rw[if_pos rfl];exact hs i v ys _ (y xs q) g p
 ·have e:i=xs.length:=by omega
  subst e;exact .inl ⟨⟨xs,q,zZ _⟩,hd ys H g p⟩
end
section
variable {X:Cx}
def xxv(i j:Int):Prop:=0<j/\j<2 ^ 64
theorem xcn:OpR X (binaryOp .FloorDiv) (rI xxv λi j=>.int (i / j)):=opI λi j _ _ _ _ _ a q=>by
 have f:(0:Int)<j:=a.1;have e:j<2 ^ 64:=a.2;refine floordiv_int (by omega) (by rw[Int.fdiv_eq_ediv_of_nonneg i (by omega)];exact q) (.inl (PyProof.noPylong_of_log2 ?_));have b:j.natAbs<2 ^ 64:=by omega
 have h0:j.natAbs≠0:=by omega
 have c:j.natAbs.log2<64:=(Nat.log2_lt h0).mpr b;omega
theorem xnf{ys:List Str}:∀{us:List Value},Vals (ys.map V.str) us->StrsAre us ys:=by
 induction ys with
 |nil=>intro us r;rw[List.map_nil]at r;cases r;exact .nil
 | cons n ns c=>
  intro us r;rw[List.map_cons]at r
  cases r with
  |cons b a=>
   obtain⟨t,e⟩:=b;subst e;exact .cons n t (c a)
def xw9(K:Fg):V->List V->Hp->VK->Prop:=λx vs H Q=>∃(sep:Str) (p:Addr) (ys:List Str),x=.str sep/\vs=[.ref p]/\SqL K H p (ys.map V.str)/\(ys.map (·.length)).sum+ys.length*sep.length<=16777216/\Q (.str (Txt.join sep ys)) H
theorem xt7:MtR X "str.join" (xw9 X.K):=by
 intro a s σ H x vs v us Q I c e h;obtain⟨b,p,ys,rfl,rfl,g,hz,q⟩:=h;obtain⟨t,rfl⟩:=c;obtain⟨u,rfl,f⟩:=e.one;cases f;obtain⟨its,r,pl,_⟩:=I.list g;exact join_list pl.isList (by simpa using xnf r) hz λt' k=>⟨.str _,H,I.tok k,⟨t',rfl⟩,q⟩
def rSlS:V->Option Int->Option Int->Hp->VK->Prop:=λx lo hi H Q=>∃z:Str,x=.str z/\z.length<=sizeLine/\Q (.str (Txt.slice z lo hi)) H
theorem xsl:SlR X rSlS:=by
 intro f s σ H x v G C y hi sl Q I w hs pl r h;obtain⟨z,rfl,hz,q⟩:=h;obtain⟨t,rfl⟩:=w;refine⟨"str",_,F.slot_str_getitem.lookup,typeIs_str _ _ _,?_⟩
 have m:∀(o:Str),o=Txt.slice z y hi->o.length<=sizeLine/\∀t' k,EP X f σ Q (.str o t') {s with toks:=k}:=λo e=>by
  subst e;exact⟨zY (Txt.slice_le z _ _) hz,λt' k=>⟨.str _,H,I.tok k,⟨t',rfl⟩,q⟩⟩
 obtain⟨g,a,c,b⟩:=hs
 cases pl with
 |none=>
  cases r with
  |none=>exact wpAny_getItem_str_slice (l:=none) (u:=none) (st:=none) ⟨g,a,c,b⟩ rfl (post_val_or_str (m _ rfl))
  |int j n=>exact wpAny_getItem_str_slice (l:=none) (u:=some (j,n)) (st:=none) ⟨g,a,c,b⟩ rfl (post_val_or_str (m _ rfl))
 |int i p=>
  cases r with
  |none=>exact wpAny_getItem_str_slice (l:=some (i,p)) (u:=none) (st:=none) ⟨g,a,c,b⟩ rfl (post_val_or_str (m _ rfl))
  |int j n=>exact wpAny_getItem_str_slice (l:=some (i,p)) (u:=some (j,n)) (st:=none) ⟨g,a,c,b⟩ rfl (post_val_or_str (m _ rfl))
theorem xsa(C:X.calm=true):xd9 X (.builtin "all") (λxs H Q=>∃(p:Addr) (bs:List Bool),xs=[.ref p]/\SqL X.K H p (bs.map V.bl)/\Q (.bl (bs.all id)) H):=by
 intro a s σ H xs us Q I r h;obtain⟨p,bs,rfl,z,q⟩:=h;obtain⟨u,rfl,g⟩:=xf5 r;cases g;obtain⟨its,n,pl,hz⟩:=I.list z;have c:=n.length;rw[zLM]at c;have j:p<s.heap.objs.size:=by obtain⟨_,e,_⟩:=pl.isList;exact z6 e
 refine call_all_walk (wpAny_pyIter_list pl.isList ?_);refine⟨s.heap.objs.size,_,_,_,_,_,λi=>bs.getD i true,rfl,Walks.list (A:=X.A.in1) (I.ok.hd C) s.heap.objs.size p (qD j) its.toArray,⟨⟨_,z9 _ rfl,rfl,rfl⟩,pl.isList.push _⟩,?_,?_⟩
 ·intro i v s' Q' E' y m
  have f:its[i]?=some v:=by simpa using y
  have hi:i<bs.length:=by
   have:=(zES f).1;omega
  obtain⟨u',e,g⟩:=n.get (i:=i) (x:=V.bl bs[i]) (by rw[zGM,zGA hi] <;> rfl);rw[f]at e;cases e;cases g;dsimp only at m;rw[List.getD_eq_getElem?_getD,zGA hi]at m;exact wpAny_truthy_bool m
 ·intro h' tk w
  have Z:Inv X a σ H {s with heap:=s.heap.push {cls:=.type "list_iterator",data:=.fields #[.ref p,.int 0 0]}}:=I.kept (t':=s.toks) λb o e=>zPO _ e;obtain⟨U,O,f2,M,J,G⟩:=I.fpOk (b:=s.heap.objs.size) (zZ _) (I.hok.fresh (zZ _));have Y:Inv X a σ H {s with heap:=h',toks:=tk}:=Z.turned (λb o l e=>w b o (by simpa using l) e) U O M J G;refine⟨.bl _,H,Y,rfl,?_⟩
  have e:(List.range its.toArray.size).all (λi=>bs.getD i true)=bs.all id:=by
   rw[List.size_toArray,<- c];rw[Bool.eq_iff_iff];simp only[List.all_eq_true,List.mem_range,id];constructor
   ·intro h b l
    obtain⟨i,hi,e⟩:=zMI l;have:=h i hi;rw[List.getD_eq_getElem?_getD,zGA hi]at this;rw[<- e];exact this
   ·intro h i hi
    rw[List.getD_eq_getElem?_getD,zGA hi];exact h _ (qP hi)
  rw[e];exact q
theorem xlw:xd9 X (.builtin "isinstance") (λxs H Q=>∃x y c t b,xs=[x,y]/\(∀u,RelV y u->u=c)/\TyOf X.K H x t/\PySem.W.kitOne X.K t c=some b/\Q (.bl b) H):=by
 intro a s σ H xs us Q I r h;obtain⟨x,y,c,t,b,rfl,j,f,e,q⟩:=h;obtain⟨u,v,rfl,i,g⟩:=r.two;obtain rfl:=j v g;exact xpv I i f e λtk=>⟨.bl b,H,I.tok tk,rfl,q⟩
end
def SameBut(a:Addr)(H H':Hp):Prop:=∀b o,H b=some o->b≠a->H' b=some o
theorem SameBut.refl(a:Addr)(H:Hp):SameBut a H H:=λ_ _ h _=>h
theorem SameBut.trans{a:Addr}{H f c:Hp}(h:SameBut a H f)(k:SameBut a f c):SameBut a H c:=λb o e n=>k b o (h b o e n) n
theorem SameBut.upd(a:Addr)(H:Hp)(o:HO):SameBut a H (upd H a o):=λb u e n=>by rw[xai n];exact e
theorem Same.but{a:Addr}{H c:Hp}(h:Same H c):SameBut a H c:=λb o e _=>h b o e
theorem Same.new{H:Hp}{p:Addr}(h:H p=none)(o:HO):Same H (upd H p o):=λb u q=>by rw[xai (neN q h)];exact q
noncomputable def zA:=@Same.new
theorem xae{H a:Hp}{p:Addr}(h:Same H a)(n:a p=none):H p=none:=by
 cases e:H p with
 |none=>rfl
 |some o=>rw[h p o e]at n;cases n
structure DefTx(K:Fg)(mg:Str->Option Value)(x:Str)(st:Stmt)(ps:List Str):Prop where
 ex:∃(f:Addr) (fd:FuncData),Fun K x x st f fd/\mg x=some (.ref f)/\∀us:List Value,us.length=ps.length->bindArgs fd ⟨us,[]⟩=pure (ps.zip us)
structure DefIs(P:Program)(w:World)(K:Fg)(mg:Str->Option Value)(base:Heap)(n:Nat)(x:Str)(ps:List Str)(sp:Sp):Prop where
 ex:∃(f:Addr) (fd:FuncData),FnOk P w K mg base CX0 n f fd ps sp/\Binds K fd ps []/\PySem.W.keepIn K (.ref f)=true/\mg x=some (.ref f)/\∃oc od osl,K.lookup f=some ⟨oc,od,.func fd,osl⟩
theorem xp3{K:Fg}{x:Str}{st:Stmt}{f:Addr}{c:FuncData}(F:Fun K x x st f c):∃b od a,K.lookup f=some ⟨b,od,.func c,a⟩:=by
 obtain⟨b,od,kV,e,h,i,g,ct,a,_,l,_⟩:=F.ex;exact⟨b,od,a,l⟩
section
variable {P:Program}{w:World}{K:Fg}{mg:Str->Option Value}{base:Heap}{n m:Nat}{x:Str}{ps N:List Str}{sp:Sp}{st:Stmt}
theorem DefIs.mono(D:DefIs P w K a base n x ps sp)(h:n<=m):DefIs P w K a base m x ps sp:=by
 obtain⟨f,b,F,r⟩:=D.ex;exact⟨f,b,F.mono h,r⟩
theorem DefIs.imp{a:Sp}(D:DefIs P w K b base n x ps sp)(h:∀vs H Q E,a vs H Q E->sp vs H Q E):DefIs P w K b base n x ps a:=by
 obtain⟨f,c,F,r⟩:=D.ex;exact⟨f,c,F.imp h,r⟩
theorem DefIs.of (T:DefTx K e x st ps) (S:FnScope N ps (xac st)) (len:∀vs H Q E,sp vs H Q E->vs.length=ps.length)
  (c:∀(f:Addr) (a:Value) (A:Around) (outer:List Env) (s:Shared) (H:Hp) (vs:List V) (Q:VK) (E:XK),Room n (A.deeper (envOfC x (xac st) s.heap.objs.size f a))->sp vs H Q E->
   ∃t,PSs (cxOf CX0 P w K e base N x (xac st) f a A outer s H E).nox (xcw st) t/\t {nx:=λ_ j=>Q .non j,rt:=Q} (xfq N vs) H):DefIs P w K e base (n+1) x ps sp:=by
 obtain⟨f,i,F,m,b⟩:=T.ex;exact⟨f,i,F.ok S len (λa A outer s H vs Q E g h=>c f a A outer s H vs Q E g h),Binds.all b,F.kp,m,xp3 F⟩
theorem DefIs.none(T:DefTx K a x st ps)(no:∀vs H Q E,¬sp vs H Q E):DefIs P w K a base n x ps sp:=by
 obtain⟨f,c,F,m,b⟩:=T.ex;exact⟨f,c,⟨λvs H Q E h=>absurd h (no vs H Q E),λA outer s H args us vs Q E _ _ _ _ h=>absurd h (no vs H Q E)⟩,Binds.all b,F.kp,m,xp3 F⟩
end
section
variable {X:Cx}{n:Nat}{x:Str}{ps:List Str}{sp:Sp}{e:Expr}{es:List Expr}{p pos:Pos}{t:TA}
theorem pd (D:DefIs X.prog X.w X.K X.mg X.base n x ps sp) (g:Room n X.A) (j:PA X (e::es) t) (h:Gl X x:=by rfl) (c:(x == ("__debug__":Str))=false:=by decide)
  (i:starEach (e::es) X.env=(false,eval e X.env)::starEach es X.env:=by rfl) (a:(backTo pos (starEach es X.env)).any (·.1)=false:=by rfl):PE X (.Call (.Name x p) (e::es) [] pos) (xtd sp [] E0 t):=by
 obtain⟨f,l,F,b,k,m,_⟩:=D.ex;exact xtt F g h m k b .nil xoy j c i a
theorem xlb{i:Int}(hm:∃t,X.mg x=some (.int i t))(hg:Gl X x:=by rfl)(hd:(x == ("__debug__":Str))=false:=by decide):PE X (.Name x pos) (tC (.int i)):=by
 obtain⟨t,h⟩:=hm;exact xts hg h ⟨t,rfl⟩ hd
theorem xvr{T:String}(b:X.mg x=none)(a:bootBuiltins x=some (.type T))(c:Gl X x:=by rfl)(hn:x≠"__name__":=by decide)(hd:(x == ("__debug__":Str))=false:=by decide):PE X (.Name x pos) (tC (.ty T)):=xtu c b a rfl hn hd
end
def Fed(a:Addr)(H H':Hp):Prop:=SameBut a H H'/\∃p q:Int,H' a=some (.lst [.int p,.int q])
theorem Fed.trans{a:Addr}{H c b:Hp}(h:Fed a H c)(k:Fed a c b):Fed a H b:=⟨h.1.trans k.1,k.2⟩
theorem Fed.of{a:Addr}{H:Hp}{p q:Int}:Fed a H (upd H a (.lst [.int p,.int q])):=⟨SameBut.upd a H _,p,q,ups⟩
theorem Fed.refl{a:Addr}{H:Hp}{p q:Int}(h:H a=some (.lst [.int p,.int q])):Fed a H H:=⟨SameBut.refl a H,p,q,h⟩
theorem Fed.same{a:Addr}{H c b:Hp}(h:Fed a H c)(s:Same c b):Fed a H b:=by
 obtain⟨k,p,q,e⟩:=h;exact⟨k.trans s.but,p,q,s _ _ e⟩
theorem Fed.back{a:Addr}{H H0 H':Hp}(n:H a=none)(s:Same H H0)(h:Fed a H0 H'):Same H H':=λb o e=>h.1 b o (s b o e) (neN e n)
theorem deftx_mk {K:Fg} {h:Heap} {n:Str->Option Value} (X:K.In h) (G:h.Ns mainGlobals n) {x:Str} {st:Stmt} {ps:List Str} {f:Addr} {o:Value} {od j:Option Addr} {m:Array (Option Value)} {kV g i e ct:Value}
  (a:PySem.W.nsIn K mainGlobals x=some (some (.ref f))) (l:K.lookup f=some ⟨o,od,.func (PySem.W.fnOf x x (xdb st) (xcw st) (xac st) .none kV g i j e ct),m⟩)
  (c:PySem.W.codeIn K e x=true) (k:PySem.W.keepIn K (.ref f)=true)
  (b:∀(kV g i:Value) (j:Option Addr) (e ct:Value) (us:List Value),us.length=ps.length->bindArgs (PySem.W.fnOf x x (xdb st) (xcw st) (xac st) .none kV g i j e ct) ⟨us,[]⟩=pure (ps.zip us)):DefTx K n x st ps:=by
 have F:=xwe (st:=st) l c k;exact⟨f,_,F,PySem.W.mg_of X G a,b kV g i j e ct⟩
theorem law_top {P:Program} {w:World} {K:Fg} {mg:Str->Option Value} {n:Nat} {x y:Str} {st:Stmt} {sp:Sp} {fa:Addr} (T:DefTx K mg x st [y]) (hmg:mg x=some (.ref fa)) (D:∀base,DefIs P w K mg base n x [y] sp) :
  ∃fd:FuncData,(∀(s:Shared) (u:Value),BindsTo s fd ⟨[u],[]⟩ [(y,u)])/\∀base:Heap,K.In base->base.Ns mainGlobals mg->FnOk P w K mg base CX0 n fa fd [y] sp:=by
 obtain⟨f,fd,F,m,b⟩:=T.ex;rw[hmg]at m;cases m;refine⟨fd,λs u=>.of_eq (b [u] rfl),λbase _ _=>?_⟩;obtain⟨f',fd',G,_,_,m',oc,od,osl,l⟩:=(D base).ex;rw[hmg]at m';cases m';obtain⟨oc2,od2,osl2,l2⟩:=xp3 F;rw[l]at l2;cases l2;exact G
theorem gint_mk{K:Fg}{h:Heap}{b:Str->Option Value}(X:K.In h)(G:h.Ns mainGlobals b){x:Str}{i:Int}{t:Tok}(a:PySem.W.nsIn K mainGlobals x=some (some (.int i t))):∃t,b x=some (.int i t):=⟨t,PySem.W.mg_of X G a⟩
end L2
end
section
namespace Zt
open PySem
section
variable {prog:Program}{w:World}{A:Around}{E:Value->Shared->Prop}{s:Shared}
theorem xpg {it l:Addr} {i:Nat} {items} {x:Value} {Q:Value->Shared->Prop} (a:s.heap.IsTupleIter it l i)
  (g:s.heap.IsTuple l items) (f:items[i]?=some x)
  (j:∀h',h'.IsTupleIter it l (i+1)->Heap.SameBut it s.heap h'->Q x {s with heap:=h'}) :
  wpAny (model prog w) A (Builtin.SmallTypes.nextOf (.ref it)) Q E s:=by
 obtain⟨o,b,h,hd⟩:=id a;obtain⟨m,c,_,n,e⟩:=g;unfold Builtin.SmallTypes.nextOf
 refine zX (wpAny_callSpecial?_slot (name:=Str.ofString "__next__") a.typeIs F.slot_tuple_iterator_next
  (wpAny_call_entry F.slot_tuple_iterator_next a.typeIs F.entry_tuple_iterator_next ?_ (F.args_tuple_iterator_next_1 _)))
 show wpAny _ _ (field (.ref it) 0 >>= _) _ _ s;refine zX (qK b hd (x:=.ref l) rfl ?_);show wpAny _ _ (if (Value.ref l == Value.none)=true then _ else _) _ _ s;rw[if_neg (show ¬((Value.ref l == Value.none)=true) from qB)];show wpAny _ _ (field (.ref it) 1 >>= _) _ _ s;refine zX (qK b hd (x:=.int i 0) rfl ?_);show wpAny _ _ (seqItems? (.ref l) >>= _) _ _ s;refine zX (wpAny_seqItems c e ?_);simp only[Int.toNat_natCast,f];refine zX (wpAny_setField b hd (by simp) (z5 ⟨x,rfl,z5 (j _ ?_ (Heap.SameBut.update ..))⟩))
 exact⟨_,Heap.get?_update_self _ b (Obj.isFreed_of_fields (Obj.data_mapFields hd _)),(Obj.cls_mapFields ..).trans h,by
  rw[Obj.data_mapFields hd];simp[rawInt]⟩
theorem xrl {it l:Addr} {i:Nat} {items} {Q:Value->Shared->Prop} (h:A.handled=none)
  (b:s.heap.IsTupleIter it l i) (n:s.heap.IsTuple l items) (j:items[i]?=none)
  (p:∀h' e,Heap.ExtBut it s.heap h'->(∃o,h'.get? e=some o/\o.cls=.type "StopIteration")->E (.ref e) {s with heap:=h'}) :
  wpAny (model prog w) A (Builtin.SmallTypes.nextOf (.ref it)) Q E s:=by
 obtain⟨o,f,y,hd⟩:=id b;obtain⟨r,c,_,u,g⟩:=n;unfold Builtin.SmallTypes.nextOf
 refine zX (wpAny_callSpecial?_slot (name:=Str.ofString "__next__") b.typeIs F.slot_tuple_iterator_next
  (wpAny_call_entry F.slot_tuple_iterator_next b.typeIs F.entry_tuple_iterator_next ?_ (F.args_tuple_iterator_next_1 _)))
 show wpAny _ _ (field (.ref it) 0 >>= _) _ _ s;refine zX (qK f hd (x:=.ref l) rfl ?_);show wpAny _ _ (if (Value.ref l == Value.none)=true then _ else _) _ _ s;rw[if_neg (show ¬((Value.ref l == Value.none)=true) from qB)];show wpAny _ _ (field (.ref it) 1 >>= _) _ _ s;refine zX (qK f hd (x:=.int i 0) rfl ?_);show wpAny _ _ (seqItems? (.ref l) >>= _) _ _ s;refine zX (wpAny_seqItems c g ?_);simp only[Int.toNat_natCast,j];refine zX (wpAny_rule (zX (wpAny_setField f hd (by simp) ?_)));show wpAny _ _ (newExc (.type "StopIteration") [] >>= _) _ _ _;refine zX ?_;simp only[newExc,newTuple];refine zX (wpAny_newObj_type ?_ (by size_fits));refine zX (m:=firstArgMember _ _) (wpAny_of_eq (a:=Value.none) (by first |rfl |(simp only[firstArgMember];rfl)) ?_);refine wpAny_newObj_type ?_ (by size_fits);simp only[raiseNew];refine zX (wpAny_handled ?_)
 first |rw[show A.in1.handled=none from h] |rw[h]
 refine zX (z5 (wpAny_throw ?_));exact p _ _ (((Heap.SameBut.update ..).extBut.push _).push _) ⟨_,z9 _ rfl,rfl⟩
structure Nx(prog:Program)(w:World)(it l:Addr)(xs:Array Value)(P:Heap->Nat->Prop):Prop where
 item:∀{A:Around} {E:Value->Shared->Prop} {s:Shared} {Q:Value->Shared->Prop} {i:Nat} {x:Value},P s.heap i->xs[i]?=some x->(∀h',P h' (i+1)->Heap.SameBut it s.heap h'->Q x {s with heap:=h'})->wpAny (model prog w) A (Builtin.SmallTypes.nextOf (.ref it)) Q E s
 last:∀{A:Around} {E:Value->Shared->Prop} {s:Shared} {Q:Value->Shared->Prop} {i:Nat},A.handled=none->P s.heap i->xs[i]?=none->(∀h' e,Heap.ExtBut it s.heap h'->(∃o,h'.get? e=some o/\o.cls=.type "StopIteration")->E (.ref e) {s with heap:=h'})->wpAny (model prog w) A (Builtin.SmallTypes.nextOf (.ref it)) Q E s
 kept:∀{h h':Heap} {i:Nat},P h i->(∀o,h.get? it=some o->h'.get? it=some o)->(∀o,h.get? l=some o->h'.get? l=some o)->P h' i
 there:∀{h:Heap} {i:Nat},P h i->∃o,h.get? it=some o
theorem Nx.ext{it l a:Addr}{xs:Array Value}{P:Heap->Nat->Prop}(N:Nx prog w it l xs P){h h':Heap}{i:Nat}(p:P h i)(e:Heap.ExtBut a h h')(c:it≠a)(b:l≠a):P h' i:=N.kept p (λo q=>e _ _ c q) λo q=>e _ _ b q
theorem nxT{it l:Addr}{xs:Array Value}(f:l≠it):Nx prog w it l xs λh k=>h.IsTupleIter it l k/\h.IsTuple l xs where
 item:=λp c i=>xpg p.1 p.2 c λh' a s=>i h' ⟨a,p.2.extBut s.extBut f⟩ s
 last:=λg p c j=>xrl g p.1 p.2 c j
 kept:=λp a b=>⟨p.1.at a,p.2.at b⟩
 there:=λp=>by obtain⟨o,e,_⟩:=p.1;exact⟨o,e⟩
end
end Zt
end
section
namespace L2
open PySem PySem.Spec PyProof.Rows
abbrev TJ:=St->Hp->Str->VK->Prop
def PJ(X:Cx)(es:List Expr)(t:TJ):Prop:=
 ∀(pins:List (Addr×Obj)) (s:Shared) (σ:St) (H:Hp) (out:Str) (Q:VK),Inv X pins σ H s->t σ H out Q->wpAny (model X.prog X.w) X.A (joinParts out (evalEach es X.env)) (EP X pins σ Q) X.xe s
section
variable {X:Cx}
def rNeE(K:Fg):R2:=λx y H Q=>∃a b xs,x=.ref a/\y=.ref b/\SqL K H a xs/\SqL K H b []/\Q (.bl (!xs.isEmpty)) H
theorem xvv(m:X.A.units<cLine):OpR X (compareOp .NotEq) (rNeE X.K):=by
 intro f s σ H x y v u Q I o n h;obtain⟨a,b,xs,rfl,rfl,C,z,q⟩:=h;cases o;cases n;obtain⟨its,r,i,_⟩:=I.list C;obtain⟨l,p,g,_⟩:=I.list z;have c:=r.length;have w:=p.length
 cases xs with
 | nil=>
  refine PySem.EqBoolInt.of_rcne (SeqAt.RcNeAt.lists (e:=λ_=>true) i.isList g.isList (by simp only[List.size_toArray];omega) m λj G J=>?_) ⟨.bl _,H,I,rfl,?_⟩
  ·simp only[List.size_toArray]at G
   simp at c;omega
  ·have:its=[]:=List.eq_nil_of_length_eq_zero (by simpa using c.symm)
   subst this;exact q
 |cons x xs=>
  refine PySem.EqBoolInt.of_rcne (SeqAt.RcNeAt.lists_lengths i.isList g.isList (by simp only[List.size_toArray];simp at c w⊢;omega) m) ⟨.bl _,H,I,rfl,?_⟩;simpa using q
end
section
variable {es:List Expr}{env:Env}
theorem so{c k p}:starEach (.Constant c k p::es) env=(false,eval (.Constant c k p) env)::starEach es env:=rfl
theorem zsn{x p}:starEach (.Name x p::es) env=(false,eval (.Name x p) env)::starEach es env:=rfl
theorem zsc{a b c d}:starEach (.Call a b c d::es) env=(false,eval (.Call a b c d) env)::starEach es env:=rfl
theorem xa5{a b c d}:starEach (.BinOp a b c d::es) env=(false,eval (.BinOp a b c d) env)::starEach es env:=rfl
theorem ss{a b c}:starEach (.Subscript a b c::es) env=(false,eval (.Subscript a b c) env)::starEach es env:=rfl
theorem zsT{a b c}:starEach (.Tuple a b c::es) env=(false,eval (.Tuple a b c) env)::starEach es env:=rfl
theorem xhm{a b}:starEach (.List a b::es) env=(false,eval (.List a b) env)::starEach es env:=rfl
theorem xl6{a b c d}:starEach (.Compare a b c d::es) env=(false,eval (.Compare a b c d) env)::starEach es env:=rfl
theorem xn8{a b c}:starEach (.BoolOp a b c::es) env=(false,eval (.BoolOp a b c) env)::starEach es env:=rfl
theorem xb2{a b c d}:starEach (.ListComp a b c d::es) env=(false,eval (.ListComp a b c d) env)::starEach es env:=rfl
theorem xqu{a b c d}:starEach (.IfExp a b c d::es) env=(false,eval (.IfExp a b c d) env)::starEach es env:=rfl
theorem xb7{a b c}:starEach (.Attribute a b c::es) env=(false,eval (.Attribute a b c) env)::starEach es env:=rfl
end
end L2
end
section
namespace M
open PySem
inductive D where
 |int (i:Int)
 |str (x:Str)
 |tup (ds:List D)
inductive All2{α β:Type}(R:α->β->Prop):List α->List β->Prop where
 |nil:All2 R [] []
 |cons {a b as bs} (h:R a b) (t:All2 R as bs):All2 R (a::as) (b::bs)
theorem All2.length{α β:Type}{R:α->β->Prop}{as:List α}{bs:List β}(h:All2 R as bs):as.length=bs.length:=by
 induction h with
 |nil=>rfl
 |cons _ _ a=>simp[a]
theorem All2.imp{α β:Type}{R S:α->β->Prop}{as:List α}{bs:List β}(h:All2 R as bs)(f:∀a b,R a b->S a b):All2 S as bs:=by
 induction h with
 |nil=>exact .nil
 |cons h _ c=>exact .cons (f _ _ h) c
theorem All2.get{α β:Type}{R:α->β->Prop}{as:List α}{bs:List β}(h:All2 R as bs):∀{i:Nat} {a:α},as[i]?=some a->∃b,bs[i]?=some b/\R a b:=by
 induction h with
 |nil=>intro i a e;simp at e
 |cons h _ c=>
  intro i a e
  cases i with
  |zero=>simp at e;subst e;exact⟨_,by simp,h⟩
  |succ i=>simpa using c (i:=i) (a:=a) (by simpa using e)
def S(s:String):Str:=Str.ofString s
def xe8(c:Nat):Bool:=97<=c && c<=122
def xrn(x:List Nat):Bool:=1<=x.length && x.length<=6 && x.all xe8 && x != [110,117,109] && x != [105,116]
def Name(x:Str):Prop:=xrn x.cps.toList=true
def L(x:Str):List Nat:=x.cps.toList
def ofL(l:List Nat):Str:=⟨l.toArray⟩
theorem xef(l:List Nat):L (ofL l)=l:=rfl
theorem xv0(x:Str):ofL (L x)=x:=by
 cases x;rfl
theorem xqr{x y:Str}(h:L x=L y):x=y:=by
 rw[<- xv0 x,<- xv0 y,h]
theorem xeo(x y:Str):L (x++y)=L x++L y:=by
 show(x.cps++y.cps).toList=_;simp[L]
theorem xfe(x:Str):(L x).length=x.length:=by
 simp[L,Str.length]
end M
end
section
namespace M
open PySem L2
mutual
def RelD(H:Hp):V->D->Prop
 |v,.int i=>v=.int i
 |v,.str x=>v=.str x
 |v,.tup ds=>∃a vs,v=.ref a/\H a=some (.tup vs)/\RelDs H vs ds
def RelDs(H:Hp):List V->List D->Prop
 |vs,[]=>vs=[]
 |vs,d::ds=>∃v r,vs=v::r/\RelD H v d/\RelDs H r ds
end
mutual
theorem RelD.same{H H':Hp}(s:Same H H'):∀{v:V} (d:D),RelD H v d->RelD H' v d
 |v,.int i,h=>h
 |v,.str x,h=>h
 |v,.tup ds,⟨a,vs,e,ha,h⟩=>⟨a,vs,e,s _ _ ha,RelDs.same s ds h⟩
theorem RelDs.same{H H':Hp}(s:Same H H'):∀{vs:List V} (ds:List D),RelDs H vs ds->RelDs H' vs ds
 |vs,[],h=>h
 |vs,d::ds,⟨v,r,e,h1,h2⟩=>⟨v,r,e,RelD.same s d h1,RelDs.same s ds h2⟩
end
theorem RelDs.length{H:Hp}:∀{vs:List V} {ds:List D},RelDs H vs ds->vs.length=ds.length
 |vs,[],h=>by rw[show vs=[] from h];rfl
 |vs,d::ds,⟨v,r,e,_,a⟩=>by rw[e,List.length_cons,List.length_cons,RelDs.length a]
theorem RelDs.append{H:Hp}:∀{vs us:List V} {ds es:List D},RelDs H vs ds->RelDs H us es->RelDs H (vs++us) (ds++es)
 |vs,us,[],es,h,k=>by rw[show vs=[] from h];exact k
 |vs,us,d::ds,es,⟨v,r,e,b,a⟩,k=>by subst e;exact⟨v,r++us,rfl,b,RelDs.append a k⟩
theorem RelDs.get{H:Hp}:∀{vs:List V} {ds:List D} {i:Nat} {v:V},RelDs H vs ds->vs[i]?=some v->∃d,ds[i]?=some d/\RelD H v d
 |vs,[],i,v,h,e=>by rw[show vs=[] from h]at e;simp at e
 |vs,d::ds,0,v,⟨u,r,a,g,_⟩,e=>by
  subst a;simp at e;subst e;exact⟨d,rfl,g⟩
 |vs,d::ds,i+1,v,⟨u,r,a,_,f⟩,e=>by
  subst a;obtain⟨x,b,c⟩:=RelDs.get (i:=i) (v:=v) f (by simpa using e);exact⟨x,by simpa using b,c⟩
theorem iteKF{c A B:Prop}[Decidable c](h:decide c=false)(b:B):if decide c=true then A else B:=by
 rw[h];exact b
theorem iteKT{c A B:Prop}[Decidable c](h:decide c=true)(a:A):if decide c=true then A else B:=by
 rw[h];exact a
mutual
theorem RelD.tups{H H':Hp}(s:∀b vs,H b=some (.tup vs)->H' b=some (.tup vs)):∀{v:V} (d:D),RelD H v d->RelD H' v d
 |v,.int i,h=>h
 |v,.str x,h=>h
 |v,.tup ds,⟨a,vs,e,ha,h⟩=>⟨a,vs,e,s _ _ ha,RelDs.tups s ds h⟩
theorem RelDs.tups{H H':Hp}(s:∀b vs,H b=some (.tup vs)->H' b=some (.tup vs)):∀{vs:List V} (ds:List D),RelDs H vs ds->RelDs H' vs ds
 |vs,[],h=>h
 |vs,d::ds,⟨v,r,e,h1,h2⟩=>⟨v,r,e,RelD.tups s d h1,RelDs.tups s ds h2⟩
end
theorem xal{a:Addr}{H c:Hp}(g:∃p q:Int,H a=some (.lst [.int p,.int q]))(f:Fed a H c):∀b vs,H b=some (.tup vs)->c b=some (.tup vs):=λb vs e=>f.1 b _ e λz=>by
 obtain⟨p,q,h⟩:=g;rw[z,h]at e;cases e
def xdm(c:Nat):Str:=⟨#[c]⟩
theorem xj3:∀cs:List Nat,Txt.join (S "") (cs.map xdm)=ofL cs:=by
 have h:∀cs:List Nat,L (Str.join (S "") (cs.map xdm))=cs:=by
  intro cs
  induction cs with
  |nil=>rfl
  | cons c r a=>
   cases r with
   |nil=>rfl
   |cons d r=>
    show L (xdm c++S ""++Str.join (S "") ((d::r).map xdm))=_;rw[xeo,xeo,a];have e:L (S "")=[]:=by walk_at"k"
    rw[e];rfl
 intro cs;apply xqr;show L (Builtin.Str.glued (S "") (cs.map xdm))=cs;rw[StrLaws.glued_eq_join,h]
theorem xkv(cs:List Nat):((cs.map xdm).map (·.length)).sum=cs.length:=by
 induction cs with
 |nil=>rfl
 |cons c r a=>
  show(xdm c).length+((r.map xdm).map (·.length)).sum=r.length+1;rw[a,show(xdm c).length=1 from rfl];omega
theorem xm9{α:Type}{cs:List α}{r:Int}(h0:0<=r)(h:r<(cs.length:Int)):∃c∈cs,atI cs r=some c:=by
 have a:r.toNat<cs.length:=by omega
 have b:r=((r.toNat:Nat):Int):=by omega
 refine⟨cs[r.toNat],qP a,?_⟩;have q:atI cs ((r.toNat:Nat):Int)=some cs[r.toNat]:=xav (zGA a);rw[<- b]at q;exact q
end M
end
section
namespace L2
open PySem PySem.Spec PyProof.Rows
section
variable {κ:Type}[DecidableEq κ]
def valV(kvs:List (κ×V))(k:κ):Option V:=(kvs.find? λkv=>decide (kv.1=k)).map (·.2)
def putK(kvs:List (κ×V))(k:κ)(v:V):List (κ×V):=
 if (kvs.any λkv=>decide (kv.1=k))=true then kvs.map (λkv=>if kv.1=k then (kv.1,v) else kv) else kvs++[(k,v)]
theorem xcb{p:κ×V}{r:List (κ×V)}{k:κ}(e:p.1=k):valV (p::r) k=some p.2:=by simp[valV,List.find?_cons,e]
theorem xcc{p:κ×V}{r:List (κ×V)}{k:κ}(e:¬p.1=k):valV (p::r) k=valV r k:=by simp[valV,List.find?_cons,e]
theorem xfx(k:κ):∀kvs:List (κ×V),(kvs.any λa=>decide (a.1=k))=(valV kvs k).isSome
 |[]=>rfl
 |p::r=>by
  rw[List.any_cons];by_cases e:p.1=k
  ·simp only[xcb e,zDT e,Bool.true_or,Option.isSome_some]
  ·rw[xcc e,zDF e,Bool.false_or];exact xfx k r
theorem xl2(k j:κ)(y:V):∀kvs:List (κ×V),valV (kvs.map λa=>if a.1=k then (a.1,y) else a) j=(valV kvs j).map λx=>if j=k then y else x
 |[]=>rfl
 | p::r=>by
  have b:=xl2 k j y r;rw[List.map_cons];by_cases h:p.1=k
  ·rw[if_pos h]
   by_cases e:p.1=j
   ·rw[xcb (p:=(p.1,y)) e,xcb e,Option.map_some,if_pos (e.symm.trans h)]
   ·rw[xcc (p:=(p.1,y)) e,xcc e,b]
  ·rw[if_neg h]
   by_cases e:p.1=j
   ·rw[xcb (p:=p) e,xcb e,Option.map_some,if_neg (λz=>h (e.trans z))]
   ·rw[xcc (p:=p) e,xcc e,b]
theorem xis(k j:κ)(y:V):∀kvs:List (κ×V),valV kvs k=none->valV (kvs++[(k,y)]) j=if j=k then some y else valV kvs j
 |[],_=>by
  by_cases e:k=j
  ·rw[if_pos e.symm];exact xcb (p:=(k,y)) e
  ·rw[if_neg (λz=>e z.symm)];exact xcc (p:=(k,y)) e
 |p::r,hn=>by
  rw[List.cons_append];have a:¬p.1=k:=λz=>by rw[xcb z]at hn;cases hn
  rw[xcc a]at hn;have b:=xis k j y r hn;by_cases e:p.1=j
  ·rw[xcb e,xcb e,if_neg (λz=>a (e.trans z))]
  ·rw[xcc e,xcc e,b]
theorem xhl(kvs:List (κ×V))(k j:κ)(y:V):valV (putK kvs k y) j=if j=k then some y else valV kvs j:=by
 unfold putK;by_cases a:(kvs.any λb=>decide (b.1=k))=true
 ·rw[if_pos a,xl2]
  rw[xfx]at a;by_cases e:j=k
  ·obtain⟨x,c⟩:=Option.isSome_iff_exists.mp a
   rw[if_pos e,e,c,Option.map_some,if_pos rfl]
  ·rw[if_neg e]
   cases valV kvs j with
   |none=>rfl
   |some x=>rw[Option.map_some,if_neg e]
 ·rw[if_neg a]
  refine xis k j y kvs ?_;rw[xfx]at a
  cases q:valV kvs k with
  |none=>rfl
  |some x=>rw[q]at a;exact(a rfl).elim
theorem xdk(kvs:List (κ×V))(k:κ)(v:V):(putK kvs k v).length<=kvs.length+1:=by
 unfold putK;split
 ·rw[zLM];omega
 ·rw[zLA,List.length_cons,List.length_nil];omega
theorem RelO.isSome_eq{o:Option V}{u:Option Value}(r:RelO o u):o.isSome=u.isSome:=by
 cases o with
 |none=>cases u with
  |none=>rfl
  |some _=>exact(show False from r).elim
 |some _=>cases u with
  |none=>exact(show False from r).elim
  |some _=>rfl
theorem RelO.getD{o:Option V}{u:Option Value}{d:V}{d':Value}(r:RelO o u)(rd:RelV d d'):RelV (o.getD d) (u.getD d'):=by
 cases o with
 |none=>cases u with
  |none=>exact rd
  |some _=>exact(show False from r).elim
 |some _=>cases u with
  |none=>exact(show False from r).elim
  |some _=>exact r
theorem KV.val{kvs:List (κ×V)}{vs:List (κ×Value)}(r:KV kvs vs)(k:κ):RelO (valV kvs k) (valueAt vs k):=by
 unfold KV at r
 induction r with
 |nil=>exact True.intro
 | @cons p q ps qs h t ih=>
  obtain⟨h1,h2⟩:=h;by_cases e:p.1=k
  ·have e':q.1=k:=h1.symm.trans e
   have b:valueAt (q::qs) k=some q.2:=by simp[valueAt,List.find?_cons,e']
   rw[xcb e,b];exact h2
  ·have e':¬q.1=k:=λz=>e (h1.trans z)
   have b:valueAt (q::qs) k=valueAt qs k:=by simp[valueAt,List.find?_cons,e']
   rw[xcc e,b];exact ih
theorem KV.any{kvs:List (κ×V)}{vs:List (κ×Value)}(r:KV kvs vs)(k:κ):(kvs.any λa=>decide (a.1=k))=vs.any λa=>decide (a.1=k):=by
 unfold KV at r
 induction r with
 |nil=>rfl
 |cons h t b=>rw[List.any_cons,List.any_cons,b,h.1]
theorem KV.repl {kvs:List (κ×V)} {vs:List (κ×Value)} (r:KV kvs vs) (k:κ) {y:V} {u:Value} (c:RelV y u) :
  KV (kvs.map λa=>if a.1=k then (a.1,y) else a) (vs.map λa=>if a.1=k then (a.1,u) else a):=by
 unfold KV at r⊢
 induction r with
 |nil=>exact .nil
 |@cons p q ps i h t f=>
  rw[List.map_cons,List.map_cons];refine .cons ?_ f;obtain⟨b,g⟩:=h;by_cases e:p.1=k
  ·rw[if_pos e,if_pos (b.symm.trans e)];exact⟨b,c⟩
  ·rw[if_neg e,if_neg (λz=>e (b.trans z))];exact⟨b,g⟩
theorem KV.put{kvs:List (κ×V)}{vs:List (κ×Value)}(r:KV kvs vs)(k:κ){y:V}{u:Value}(a:RelV y u):KV (putK kvs k y) (stored vs k u):=by
 unfold putK stored;rw[r.any k];by_cases e:(vs.any λb=>decide (b.1=k))=true
 ·rw[if_pos e,if_pos e];exact r.repl k a
 ·rw[if_neg e,if_neg e];exact Paired.snoc r ⟨rfl,a⟩
theorem KV.length{kvs:List (κ×V)}{vs:List (κ×Value)}(r:KV kvs vs):kvs.length=vs.length:=Paired.length r
end
theorem xnt{P:Program}{w:World}{k:Key}{u:Value}(r:RelV (kV k) u):(xbu P w).is k u=true:=by
 cases k with
 |inl i=>obtain⟨t,e⟩:=(show ∃t,u=Value.int i t from r);subst e;exact xlk P w i t
 |inr x=>obtain⟨t,e⟩:=(show ∃t,u=Value.str x t from r);subst e;exact xlj P w x t
theorem xj4{P:Program}{w:World}:∀{ks:List Key} {us:List Value},Vals (ks.map kV) us->ItemsAre (xbu P w) ks us
 |[],_,r=>by rw[List.map_nil]at r;cases r;exact .nil
 |k::ks,_,r=>by
  rw[List.map_cons]at r
  cases r with
  |cons h t=>exact .cons (xnt h) (xj4 t)
abbrev KT(H:Hp):List (List Key×V)->List (List Key×Addr×Value)->Prop:=Paired λp q=>p.1=q.1/\H q.2.1=some (.tup (p.1.map kV))/\RelV p.2 q.2.2
theorem KT.val{H:Hp}{kvs:List (List Key×V)}{xs:List (List Key×Addr×Value)}(r:KT H kvs xs)(k:List Key):RelO (valV kvs k) ((atKey xs k).map (·.2)):=by
 induction r with
 |nil=>exact True.intro
 | @cons p q ps a h t g=>
  obtain⟨f,_,i⟩:=h;by_cases e:p.1=k
  ·have c:q.1=k:=f.symm.trans e
   have b:atKey (q::a) k=some q.2:=by simp[atKey,List.find?_cons,c]
   rw[xcb e,b];exact i
  ·have c:¬q.1=k:=λz=>e (f.trans z)
   have b:atKey (q::a) k=atKey a k:=by simp[atKey,List.find?_cons,c]
   rw[xcc e,b];exact g
theorem KT.repl {H:Hp} {kvs:List (List Key×V)} {xs:List (List Key×Addr×Value)} (r:KT H kvs xs) (k:List Key) {y:V} {u:Value} (f:RelV y u) :
  KT H (kvs.map λb=>if b.1=k then (b.1,y) else b) (xs.map (putAt k u)):=by
 induction r with
 |nil=>exact .nil
 |@cons p q ps j h t g=>
  rw[List.map_cons,List.map_cons];refine .cons ?_ g;obtain⟨a,c,i⟩:=h;unfold putAt;by_cases e:p.1=k
  ·rw[if_pos e,if_pos (a.symm.trans e)];exact⟨a,c,f⟩
  ·rw[if_neg e,if_neg (λz=>e (a.trans z))];exact⟨a,c,i⟩
theorem KT.put {H:Hp} {kvs:List (List Key×V)} {xs:List (List Key×Addr×Value)} (r:KT H kvs xs) (k:List Key) {b:Addr} {y:V} {u:Value} (f:H b=some (.tup (k.map kV))) (a:RelV y u) :
  KT H (putK kvs k y) (storedH xs k b u):=by
 have e:(kvs.any λc=>decide (c.1=k))=(atKey xs k).isSome:=by
  rw[xfx,(r.val k).isSome_eq,Option.isSome_map]
 unfold putK storedH;rw[e];by_cases q:(atKey xs k).isSome=true
 ·rw[if_pos q,if_pos q];exact r.repl k a
 ·rw[if_neg q,if_neg q];exact Paired.snoc r ⟨rfl,f,a⟩
theorem KT.keeps{H a:Hp}{kvs:List (List Key×V)}{xs:List (List Key×Addr×Value)}(r:KT H kvs xs)(c:∀b ys,H b=some (.tup ys)->a b=some (.tup ys)):KT a kvs xs:=
 Paired.mapP r λ_ _ z=>⟨z.1,c _ _ z.2.1,z.2.2⟩
section
variable {P:Program}{w:World}{H:Hp}{h:Heap}{a:Addr}
theorem xvh{u:HO}(ok:HOk P w H h)(e:Rd H a u):ObjOk P w H h a u:=e.ok ok
theorem xnw{kvs:List (Key×V)}(ok:HOk P w H h)(e:Rd H a (.dK kvs)):kvs.length<=sizeLine/\(a == sysModules)=false/\∃vs,KV kvs vs/\h.DictOf (xbu P w) a vs:=
 show ObjOk P w H h a (.dK kvs) from xvh ok e
theorem xlt{kvs:List (Key×V)}(ok:HOk P w H h)(e:H a=some (.dK kvs)):kvs.length<=sizeLine/\(a == sysModules)=false/\∃vs,KV kvs vs/\h.DictOf (xbu P w) a vs:=xnw ok (.inl e)
theorem xms{ks:List Key}(ok:HOk P w H h)(e:H a=some (.tup (ks.map kV))):(tupleKind (xbu P w)).is h ks a:=by
 obtain⟨_,its,r,o,h1,h2,n,h3,_⟩:=(show ObjOk P w H h a (.tup (ks.map kV)) from ok a _ e);exact⟨o,its.toArray,n,h1,h2,h3,by simpa using xj4 r⟩
theorem xqa {kvs:List (List Key×V)} (ok:HOk P w H h) (e:Rd H a (.dT kvs)):kvs.length<=sizeLine/\(a == sysModules)=false ∧
  ∃xs,KT H kvs xs/\h.DictOfH (tupleKind (xbu P w)) a xs:=by
 obtain⟨z,y,xs,r,o,es,ep,s,n,j,i,g⟩:=(show ObjOk P w H h a (.dT kvs) from xvh ok e);refine⟨z,y,xs,r,o,es,ep,s,n,j,i,λx b=>?_,g⟩
 have all:∀{l:List (List Key×V)} {m:List (List Key×Addr×Value)},KT H l m->∀x∈m,(tupleKind (xbu P w)).is h x.1 x.2.1:=by
  intro l m q
  induction q with
  |nil=>intro x b;exact nomatch b
  | @cons p q ps u c t f=>
   intro x b;rcases zMC b with e |b
   ·subst e
    exact xms ok (by rw[<- c.1];exact c.2.1)
   ·exact f x b
 exact all r x b
theorem xxq {kvs:List (List Key×V)} (ok:HOk P w H h) (e:H a=some (.dT kvs)):kvs.length<=sizeLine/\(a == sysModules)=false ∧
  ∃xs,KT H kvs xs/\h.DictOfH (tupleKind (xbu P w)) a xs:=xqa ok (.inl e)
end
def DGet(H:Hp)(a:Addr)(y:V)(r:Option V):Prop:=
 (∃kvs k,Rd H a (.dK kvs)/\y=kV k/\r=valV kvs k)\/∃kvs k b,Rd H a (.dT kvs)/\y=.ref b/\H b=some (.tup (k.map kV))/\r=valV kvs k
def DPut(H:Hp)(a:Addr)(y v:V)(H':Hp):Prop:=
 (∃kvs k,H a=some (.dK kvs)/\y=kV k/\kvs.length<sizeLine/\H'=upd H a (.dK (putK kvs k v))) ∨
 ∃kvs k b,H a=some (.dT kvs)/\y=.ref b/\H b=some (.tup (k.map kV))/\kvs.length<sizeLine/\H'=upd H a (.dT (putK kvs k v))
theorem DGet.k{H:Hp}{a:Addr}{kvs:List (Key×V)}{k:Key}(e:H a=some (.dK kvs)):DGet H a (kV k) (valV kvs k):=.inl ⟨kvs,k,.inl e,rfl,rfl⟩
theorem DPut.k{H:Hp}{a:Addr}{kvs:List (Key×V)}{k:Key}{v:V}(e:H a=some (.dK kvs))(b:kvs.length<sizeLine):DPut H a (kV k) v (upd H a (.dK (putK kvs k v))):=.inl ⟨kvs,k,e,rfl,b,rfl⟩
section
variable {X:Cx}{pins:List (Addr×Obj)}{σ:St}{H:Hp}{s:Shared}{a:Addr}{y v:V}{u r:Value}{o:Option V}{A:Around}{E:Value->Shared->Prop}
theorem Inv.big(I:Inv X pins σ H s):sysModules<s.heap.objs.size:=by
 have h:mainGlobals<s.heap.objs.size:=(I.mod.glob.keeps I.bk).lt;exact Nat.lt_trans (by decide) h
theorem xqh {Q:Value->Shared->Prop} (hu:A.units+1<cLine) (I:Inv X pins σ H s) (g:DGet H a y (some v)) (ry:RelV y u) (h:∀w' s',Inv X pins σ H s'->RelV v w'->Q w' s') :
  wpAny (model X.prog X.w) A (getItem (.ref a) u) Q E s:=by
 rcases g with⟨kvs,k,e,ey,l⟩ |⟨kvs,k,b,e,ey,eb,l⟩
 ·subst ey
  obtain⟨z,hd,vs,rel,dd⟩:=xnw I.hok e;obtain⟨w',hw,rw'⟩:=RelO.some_of (v:=v) (o:=valueAt vs k) (by rw[l];exact rel.val k);exact wpAny_getItem_of (xnt ry) dd.mapOf hw (h w' _ (I.tok _) rw')
 ·subst ey
  cases (show u=Value.ref b from ry);obtain⟨z,hd,xs,rel,dd⟩:=xqa I.hok e;obtain⟨w',hw,rw'⟩:=RelO.some_of (v:=v) (o:=(atKey xs k).map (·.2)) (by rw[l];exact rel.val k);obtain⟨p,hp,hp2⟩:=zMS hw;refine wpAny_getItem_heap (tupleKind_room_in1 hu) (xms I.hok eb) dd hp ?_;rw[hp2];exact h w' _ (I.tok _) rw'
theorem xio {h':Heap} {t':Nat} {ob:HO} (I:Inv X pins σ H s) (mu:Mut (H a)) (hs:Heap.SameBut a s.heap h') (he:∃q,h'.get? a=some q) (new:ObjOk X.prog X.w (upd H a ob) h' a ob) :
  Inv X pins σ (upd H a ob) {s with heap:=h',toks:=t'}:=
 I.write (x:=a) (e:=a) mu (.inl rfl) (λb q hb z=>(hs.2 b hb).trans z) he new
theorem xkc {P:Program} {w:World} {e:Hp} {h':Heap} {kvs:List (Key×V)} {vs:List (Key×Value)} (z:kvs.length<=sizeLine) (hd:(a == sysModules)=false) (b:KV kvs vs) (c:h'.DictOf (xbu P w) a vs) :
  ObjOk P w e h' a (.dK kvs):=⟨z,hd,vs,b,c⟩
theorem xqg {H':Hp} {Q:Unit->Shared->Prop} (hu:A.units+1<cLine) (I:Inv X pins σ H s) (g:DPut H a y v H') (ry:RelV y u) (rv:RelV v r) (h:∀s',Inv X pins σ H' s'->Q () s') :
  wpAny (model X.prog X.w) A (setItem (.ref a) u r) Q E s:=by
 rcases g with⟨kvs,k,e,ey,l,eH⟩ |⟨kvs,k,b,e,ey,eb,l,eH⟩
 ·subst ey eH
  obtain⟨z,hd,vs,rel,dd⟩:=xlt I.hok e;have hz:vs.length<=sizeLine:=by rw[<- rel.length];exact z
  have hl:(putK kvs k v).length<=sizeLine:=by have:=xdk kvs k v;omega
  refine wpAny_setItem_pairs (hsz:=hz) (xnt ry) dd λh' dd' hs=>h _ ?_;have he:∃q,h'.get? a=some q:=let ⟨q,_,_,hq,_⟩:=dd';⟨q,hq⟩;exact xio I (by rw[e];exact True.intro) hs he (xkc hl hd (rel.put k rv) dd')
 ·subst ey eH
  cases (show u=Value.ref b from ry);obtain⟨z,hd,xs,rel,dd⟩:=xxq I.hok e;have hz:xs.length<=sizeLine:=by rw[<- Paired.length rel];exact z
  have hl:(putK kvs k v).length<=sizeLine:=by have:=xdk kvs k v;omega
  refine wpAny_setItem_heap (hsz:=hz) (tupleKind_room_in1 hu) (xms I.hok eb) dd λh' dd' hs=>h _ ?_;obtain⟨q,es,ep,hq,h2,h3,h4,_,h5⟩:=dd';refine xio I (by rw[e];exact True.intro) hs ⟨q,hq⟩ ⟨hl,hd,_,(rel.put k eb rv).keeps λc ys ec=>?_,q,es,ep,hq,h2,h3,h4,h5⟩;rw[xai (xxe ec e (λz=>nomatch z))];exact ec
end
def NoSl(i:Expr):Prop:=∀ov iv,subscripted i false ov iv=operate [ov,iv] (getItem ov iv)
theorem xte {prog:Program} {w:World} {A:Around} {E:Value->Shared->Prop} {s:Shared} {env:Env} {value a:Expr} {pos:Pos} {T id:String} {Q:Value->Shared->Prop}
  (l:typeLookup (.type T) "__getitem__"=pure (some (.builtin id))) (hs:NoSl a)
  (h:wpAny (model prog w) A (eval value env) (λo f=>wpAny (model prog w) A (eval a env) (λi b=>b.TypeIs o T/\wpAny (model prog w) A (getItem o i) Q E b) E f) E s) :
  wpAny (model prog w) A (eval (.Subscript value a pos) env) Q E s:=by
 refine Subscript_ (wpAny_mono h (λo f h₁=>wpAny_mono h₁ (λi b c=>?_) λ_ _ x=>x) λ_ _ x=>x);obtain⟨g,c⟩:=c;unfold subscriptTail;refine zX ?_;rw[getitemInPython_of_ne g.not_modules];refine zX (wpAny_specialOf g l ?_)
 have fin:wpAny (model prog w) A (subscripted a false o i) (λr e=>wpAny (model prog w) A (letTemporaryGo value o r >>= λ_=>pure r) Q E e) E b:=by
  rw[hs o i];exact wpAny_operating (wpAny_mono c (λr e j=>zX (wpAny_letTemporaryGo (z5 j))) λ_ _ x=>x)
 first
  |exact z5 (zX fin)
  |exact zX (z5 (zX fin))
  |exact zX fin
theorem xlu{X:Cx}{pins:List (Addr×Obj)}{σ:St}{H:Hp}{s:Shared}{a:Addr}{y:V}{o:Option V}(I:Inv X pins σ H s)(g:DGet H a y o):s.TypeIs (.ref a) "dict":=by
 rcases g with⟨kvs,k,e,_,_⟩ |⟨kvs,k,b,e,_,_,_⟩
 ·obtain⟨_,_,vs,_,c⟩:=xnw I.hok e
  exact c.typeIs
 ·obtain⟨_,_,xs,_,c⟩:=xqa I.hok e
  exact c.typeIs
def xw0(td ty:TE):TE:=λσ H Q=>td σ H λx H1=>ty σ H1 λy H2=>∃a v,x=.ref a/\DGet H2 a y (some v)/\Q v H2
def xw6(td ty tv:TE):TS:=λD σ H=>tv σ H λv H1=>td σ H1 λx H2=>ty σ H2 λy H3=>∃a H4,x=.ref a/\DPut H3 a y v H4/\D.nx σ H4
section
variable {X:Cx}{o i e value:Expr}{pos pos' tpos:Pos}{td ty tv:TE}
theorem xcs(n:X.A.units+1<cLine)(p:PE X o td)(hi:PE X i ty)(hs:NoSl i):PE X (.Subscript o i pos) (xw0 td ty):=by
 intro pins s σ H Q I h;refine xte PySem.F.slot_dict_getitem.lookup hs (thn (p pins s σ H _ I h) λu e ⟨x,C,w,j,m⟩=>thn (hi pins e σ C _ w m) λO M ⟨y,z,c,f,a,v,ex,g,l⟩=>?_);subst ex;obtain rfl:u=Value.ref a:=j;exact⟨xlu c g,xqh n c g f λG J r b=>⟨v,z,r,b,l⟩⟩
theorem xgd (w:X.A.units+1<cLine) (z:PE X o td) (hi:PE X i ty) (p:PE X value tv) (hs:swapsWith value (some (.Subscript o i pos')) pos.line X.env=pure false) :
  PS X (.Assign [.Subscript o i pos'] value pos) (xw6 td ty tv):=by
 intro pins s σ H D I h;refine wpAny_Assign_Subscript (thn (p pins s σ H _ I h) λr c ⟨v,Y,M,j,n⟩=>thn (z pins c σ Y _ M n) λu b ⟨x,U,J,f,m⟩=>thn (hi pins b σ U _ J m) λiv s3 ⟨y,H3,G,e,a,O,ex,g,l⟩=>?_) hs;subst ex;obtain rfl:u=Value.ref a:=f;exact xqg w G g e j λZ C=>⟨σ,O,C,l⟩
end
theorem xr5{P:Program}{w:World}{H:Hp}(h:Heap)(a:sysModules<h.objs.size):ObjOk P w H (h.push {cls:=.type "dict",data:=.dict #[]}) h.objs.size (.dK []):=
 ⟨qO _,beq_eq_false_iff_ne.mpr (Ne.symm (qD a)),[],.nil,Heap.DictOf.new h⟩
def xu5:TE:=λ_ H Q=>∀p,H p=none->Q (.ref p) (upd H p (.dK []))
section
variable {X:Cx}{pos:Pos}
theorem xh2:PE X (.Dict [] [] pos) xu5:=λpins s σ H Q I h=>
 wpAny_Dict_empty ⟨.ref s.heap.objs.size,_,I.laid (a:=s.heap.objs.size) (o:=.dK []) (t':=s.toks) (λ_ _ q=>zPO _ q) (zZ _) (xr5 s.heap I.big),rfl,h _ (I.hok.fresh (zZ _))⟩
end
def xdc(kvs more:List (Key×V)):List (Key×V):=more.foldl (λacc kv=>putK acc kv.1 kv.2) kvs
theorem KV.merge:∀{more:List (Key×V)} {rs:List (Key×Value)} {kvs:List (Key×V)} {vs:List (Key×Value)},KV more rs->KV kvs vs->KV (xdc kvs more) (merged vs rs):=by
 intro more rs kvs vs r;unfold KV at r
 induction r generalizing kvs vs with
 |nil=>intro q;exact q
 | @cons p q ps c h t b=>
  intro a
  have e:KV (putK kvs p.1 p.2) (stored vs q.1 q.2):=by
   have:=a.put p.1 h.2;rw[<- h.1];exact this
  exact b e
theorem xe7:∀(more kvs:List (Key×V)),(xdc kvs more).length<=kvs.length+more.length
 |[],kvs=>by show kvs.length<=kvs.length+0;omega
 |p::r,kvs=>by
  have b:=xe7 r (putK kvs p.1 p.2);have a:=xdk kvs p.1 p.2;show(xdc (putK kvs p.1 p.2) r).length<=_;rw[List.length_cons];omega
structure M2(X:Cx)(o:Expr)(m:Str)(apos:Pos)(e f:Expr)(cpos:Pos):Prop where
 base:attributeBase o m X.env (eval o X.env)=eval o X.env
 few:((backTo cpos (starEach [e,f] X.env)).all (λx=>!x.1) && (backToKw cpos (keywordEach [] X.env)).all (λx=>x.1.isSome)
  && decide (([e,f]:List Expr).length+([]:List Keyword).length+(if ([]:List Keyword).isEmpty then 0 else 1)<30))=true
 line:(apos.endLine == cpos.line)=true
 trees:backTo cpos (starEach [e,f] X.env)=[(false,eval e X.env),(false,eval f X.env)]
def IsD(H:Hp)(a:Addr):Prop:=(∃kvs,Rd H a (.dK kvs))\/∃kvs,Rd H a (.dT kvs)
theorem xj5 {X:Cx} {pins:List (Addr×Obj)} {σ:St} {H:Hp} {s:Shared} {a:Addr} (I:Inv X pins σ H s) (d:IsD H a) :
  s.TypeIs (.ref a) "dict"/\(∀b,Value.ref a=.ref b->∃c,s.heap.get? b=some c/\c.dict=none)/\(a == sysModules)=false:=by
 rcases d with⟨kvs,e⟩ |⟨kvs,e⟩
 ·obtain⟨_,hd,vs,_,f⟩:=xnw I.hok e
  refine⟨f.typeIs,λb q=>?_,hd⟩;cases q;obtain⟨c,_,_,h,g,_⟩:=f;exact⟨c,h,g.2.1⟩
 ·obtain⟨_,hd,xs,_,f⟩:=xqa I.hok e
  refine⟨f.typeIs,λb q=>?_,hd⟩;cases q;obtain⟨c,_,_,h,g,_⟩:=f;exact⟨c,h,g.2.1⟩
section
variable {X:Cx}{pins:List (Addr×Obj)}{σ:St}{H:Hp}{s:Shared}{a:Addr}{y d:V}{u r:Value}{o:Option V}{A:Around}{E:Value->Shared->Prop}
theorem xwk {Q:Value->Shared->Prop} (hu:A.units+1<cLine) (I:Inv X pins σ H s) (g:DGet H a y o) (ry:RelV y u) (rd:RelV d r) (h:∀w' s',Inv X pins σ H s'->RelV (o.getD d) w'->Q w' s') :
  wpAny (model X.prog X.w) A (call (.builtin "dict.get") [.ref a,u,r]) Q E s:=by
 rcases g with⟨kvs,k,e,ey,l⟩ |⟨kvs,k,b,e,ey,eb,l⟩
 ·subst ey
  obtain⟨z,hd,vs,rel,dd⟩:=xnw I.hok e;refine call_meetsIn PySem.F.slot_dict_get dd.typeIs PySem.F.entry_dict_get (PySem.F.args_dict_get_3 _ _ _) (meets_dict_get_default (xbu X.prog X.w) a (xnt ry) hd r) ⟨_,dd.mapOf,h _ _ (I.tok _) ?_⟩;rw[l];exact(rel.val k).getD rd
 ·subst ey
  cases (show u=Value.ref b from ry);obtain⟨z,hd,xs,rel,dd⟩:=xqa I.hok e;refine call_meetsIn PySem.F.slot_dict_get dd.typeIs PySem.F.entry_dict_get (PySem.F.args_dict_get_3 _ _ _) (meetsH_dict_get_default (tupleKind (xbu X.prog X.w)) a b hd r) ⟨tupleKind_room_in1 hu,k,xs,xms I.hok eb,dd,h _ _ (I.tok _) ?_⟩;rw[l];exact(rel.val k).getD rd
end
def xu6(td ty tx:TE):TE:=λσ H Q=>td σ H λx H1=>∃a,x=.ref a/\IsD H1 a/\ty σ H1 λy H2=>tx σ H2 λz H3=>∃o,DGet H3 a y o/\Q (o.getD z) H3
section
variable {X:Cx}{o e f:Expr}{apos cpos:Pos}{td ty tx:TE}
theorem xmj(J:X.A.units+1<cLine)(M:PE X o td)(U:PE X e ty)(O:PE X f tx)(m:M2 X o "get" apos e f cpos):PE X (.Call (.Attribute o "get" apos) [e,f] [] cpos) (xu6 td ty tx):=by
 intro pins s σ H Q I h;refine wpAny_Call_method m.base m.few m.line PySem.F.plainAttrs_dict PySem.F.slot_dict_get PySem.F.type_dict_get (thn (M pins s σ H _ I h) λu l ⟨x,H1,c,r,a,ex,d,G⟩=>?_);subst ex;obtain rfl:u=Value.ref a:=r;obtain⟨i,t2,_⟩:=xj5 c d;refine⟨i,t2,?_⟩;rw[m.trees]
 refine Calls.callWith_builtin rfl (Calls.evalArgs_plain (Calls.spliced_cons (thn (U pins l σ H1 _ c G) λiv j ⟨y,H2,I2,p,C⟩=>
  Calls.spliced_cons (thn (O pins j σ H2 _ I2 C) λfv s3 ⟨z,H3,Z,n,ov,g,w⟩=>Calls.spliced_nil ?_))))
 exact xwk J Z g p n λw' s4 Y b=>⟨_,H3,Y,b,w⟩
end
section
variable {X:Cx}{pins:List (Addr×Obj)}{σ:St}{H:Hp}{s:Shared}{a:Addr}{kvs:List (Key×V)}{A:Around}{E:Value->Shared->Prop}
theorem xr6{Q:Value->Shared->Prop}(I:Inv X pins σ H s)(e:Rd H a (.dK kvs))(h:∀p s',H p=none->Inv X pins σ (upd H p (.dK kvs)) s'->Q (.ref p) s'):wpAny (model X.prog X.w) A (call (.type "dict") [.ref a]) Q E s:=by
 obtain⟨z,hd,vs,c,i⟩:=xnw I.hok e;refine kt_call_dict hd i (by rw[<- c.length];exact z) λh' f hs=>?_;refine h _ _ (I.hok.fresh (zZ _)) (I.laid (a:=s.heap.objs.size) (o:=.dK kvs) (t':=s.toks) (λb q g=>?_) (zZ _) (xkc z (beq_eq_false_iff_ne.mpr (Ne.symm (qD I.big))) c f));exact(hs.2 b (qD (z6 g))).trans (zPO _ g)
end
section
variable {κ:Type}[DecidableEq κ]
theorem xli:∀{l:List κ} {k:κ},l.Nodup->¬k∈l->(l++[k]).Nodup
 |[],k,_,_=>by simp
 |a::r,k,h,b=>by
  obtain⟨e,c⟩:=List.nodup_cons.mp h;show(a::(r++[k])).Nodup;refine List.nodup_cons.mpr ⟨λm=>?_,xli c λm=>b (List.mem_cons.mpr (Or.inr m))⟩;rcases zMA m with q |q
  ·exact e q
  ·exact b (List.mem_cons.mpr (Or.inl (zMO q).symm))
end
section
variable {X:Cx}
theorem xhj:xd9 X (.type "dict") (λxs H Q=>∃a kvs,xs=[V.ref a]/\H a=some (.dK kvs)/\∀p,H p=none->Q (.ref p) (upd H p (.dK kvs))):=by
 intro pins s σ H xs us Q I r h;obtain⟨a,kvs,rfl,ha,q⟩:=h;obtain⟨u,rfl,ru⟩:=xf5 r;cases ru;exact xr6 I (.inl ha) λp s' hp I'=>⟨.ref p,_,I',rfl,q p hp⟩
end
section
variable {ix:Cap}{tt:TT}{te:TE}{g:TG}{σ:St}{H:Hp}{Q:VK}
def NxtG(Pv:Nat->List V->Hp->Prop)(n i:Nat)(ys:List V):VK:=λy H2=>∃m',m'<n-i/\m'=n-(i+1)/\i+1<=n/\(ys++[y]).length<=i+1/\Pv (i+1) (ys++[y]) H2
def NxtN(Pv:Nat->List V->Hp->Prop)(n i:Nat)(ys:List V):Hp->Prop:=λH2=>∃m',m'<n-i/\m'=n-(i+1)/\i+1<=n/\ys.length<=i+1/\Pv (i+1) ys H2
theorem nxtG{a:Nat->List V->Hp->Prop}{n i:Nat}{ys:List V}{y:V}{b:Hp}(hi:i<n)(c:ys.length<=i)(h:a (i+1) (ys++[y]) b):NxtG a n i ys y b:=
 ⟨n-(i+1),by omega,rfl,hi,by rw[zLA,List.length_singleton];omega,h⟩
theorem nxtN{a:Nat->List V->Hp->Prop}{n i:Nat}{ys:List V}{b:Hp}(hi:i<n)(c:ys.length<=i)(h:a (i+1) ys b):NxtN a n i ys b:=
 ⟨n-(i+1),by omega,rfl,hi,by omega,h⟩
theorem xbo {K:Fg} {a:Addr} {xs:List V} (c:Nat->List V->Hp->Prop) (h0:c 0 [] H) (hn:xs.length<sizeLine) (j:∀i ys H,i<=xs.length->c i ys H->SqT K H a xs)
  (hs:∀i x ys H,xs[i]?=some x->i<xs.length->ys.length<=i->c i ys H->g x (capt l σ) H λh u=>Ext (capt l σ) h/\r h u λb o=>if b=true then s h o (NxtG c xs.length i ys) else NxtN c xs.length i ys o)
  (hd:∀ys H,ys.length<=xs.length->c xs.length ys H->∀D,H D=none->Q (.ref D) (upd H D (.lst ys))):xff (Itt K a) l g r s σ H Q:=by
 refine⟨λi m ys H=>m=xs.length-i/\i<=xs.length/\ys.length<=i/\c i ys H,⟨xs.length,by simp,qO _,zZ _,h0⟩,?_⟩;rintro i m ys H ⟨rfl,hi,n,p⟩;have q:=j i ys H hi p;by_cases f:i<xs.length
 ·refine .inr ⟨⟨xs,xs[i],q,by simp[f]⟩,by omega,λv w y=>?_⟩
  obtain⟨e,y⟩:=y;subst e;exact hs i v ys _ (y xs q) f n p
 ·have e:i=xs.length:=by omega
  subst e;exact .inl ⟨⟨xs,q,zZ _⟩,hd ys H n p⟩
theorem xd0 {K:Fg} {a:Addr} {xs:List V} (c:Nat->List V->Hp->Prop) (h0:c 0 [] H) (hn:xs.length<sizeLine) (j:∀i ys H,i<=xs.length->c i ys H->SqL K H a xs)
  (hs:∀i x ys H,xs[i]?=some x->i<xs.length->ys.length<=i->c i ys H->g x (capt l σ) H λh u=>Ext (capt l σ) h/\r h u λb o=>if b=true then s h o (NxtG c xs.length i ys) else NxtN c xs.length i ys o)
  (hd:∀ys H,ys.length<=xs.length->c xs.length ys H->∀D,H D=none->Q (.ref D) (upd H D (.lst ys))):xff (Itl K a) l g r s σ H Q:=by
 refine⟨λi m ys H=>m=xs.length-i/\i<=xs.length/\ys.length<=i/\c i ys H,⟨xs.length,by simp,qO _,zZ _,h0⟩,?_⟩;rintro i m ys H ⟨rfl,hi,n,p⟩;have q:=j i ys H hi p;by_cases f:i<xs.length
 ·refine .inr ⟨⟨xs,xs[i],q,by simp[f]⟩,by omega,λv w y=>?_⟩
  obtain⟨e,y⟩:=y;subst e;exact hs i v ys _ (y xs q) f n p
 ·have e:i=xs.length:=by omega
  subst e;exact .inl ⟨⟨xs,q,zZ _⟩,hd ys H n p⟩
theorem ext2{σ:St}{i j:Nat}{v w:Option V}(h:σ[i]?=some none)(k:σ[j]?=some none):Ext σ ((σ.set i v).set j w):=by
 refine⟨by simp,λn c e=>?_⟩;have b:i≠n:=λz=>by subst z;rw[h]at e;cases e
 have a:j≠n:=λz=>by subst z;rw[k]at e;cases e
 rw[List.getElem?_set_ne a,List.getElem?_set_ne b];exact e
end
section
variable {X:Cx}
def xvj:V->List V->Hp->VK->Prop:=λx vs H Q=>∃l,∃ys:List Str,∃z j,x=.ref l/\vs=[.str z]/\H l=some (.lst (ys.map V.str))/\ys.findIdx? (λy=>decide (y=z))=some j/\Q (.int (j:Nat)) H
theorem xro:MtM X "list.index" xvj:=by
 intro p s σ H x vs v us Q I C G h;obtain⟨l,ys,z,j,rfl,rfl,Z,Y,q⟩:=h;cases C;obtain⟨u,rfl,J⟩:=G.one;obtain⟨o,its,n,r,U,e⟩:=I.lstM Z
 have fs:(ys.map V.str).all xg6=true:=by
  rw[List.all_eq_true];intro y b;obtain⟨y',_,rfl⟩:=zMP b;rfl
 obtain⟨h1,h2,h3⟩:=List.findIdx?_eq_some_iff_getElem.mp Y;rw[zLM]at U o
 have a:∀i (hi:i<ys.length) (f:i<its.toArray.size),eqU (.str z) its.toArray[i]=decide (ys[i]=z):=λi hi f=>by
  obtain⟨w,e',M⟩:=r.get (i:=i) (x:=.str ys[i]) (by rw[zGM,zGA hi];rfl)
  have g:its.toArray[i]=w:=by
   have:its[i]?=some its[i]:=zGA (by omega);rw[e']at this;simpa using (qC this).symm
  rw[g,xp9 M rfl];show(ys[i] == z)=_;rw[Bool.eq_iff_iff];simp
 refine call_meets F.slot_list_index ⟨_,e,rfl⟩ F.entry_list_index (F.args_list_index_2 _ _) (SeqAt.list_indexAt l its.toArray n none #[] u (eqU (.str z)) j (by simp;omega) ?_ ?_ ?_) ⟨e,λy b=>xf1 J rfl r fs y (by simpa using b),⟨.int j,H,I.tok _,⟨_,rfl⟩,q⟩⟩
 ·rw[sizeLine_eq]at o
  omega
 ·rw[a j h1 (by simp;omega)]
  exact h2
 ·intro m O c
  rw[a m (by omega) O];have:=h3 m c;simpa using this
end
theorem xiu:∀{ns:List Int},(∀n∈ns,0<=n/\n<=1000000)->0<=ns.sum/\ns.sum<=1000000*(ns.length:Int)
 |[],_=>by simp
 |n::ns,h=>by
  have c:=h n (by simp);have b:=xiu (ns:=ns) λm a=>h m (qF _ a);rw[List.sum_cons,List.length_cons];push_cast;omega
section
variable {X:Cx}
theorem xkf(x:X.calm=true):xd9 X (.builtin "sum") (λxs H Q=>∃p,∃ns:List Int,xs=[.ref p]/\SqL X.K H p (ns.map V.int)/\(∀n∈ns,0<=n/\n<=1000000)/\ns.length<=1000/\Q (.int ns.sum) H):=by
 intro b s σ H xs us Q I r h;obtain⟨p,ns,rfl,m,g,c,q⟩:=h;obtain⟨u,rfl,l⟩:=xf5 r;cases l;obtain⟨its,i,pl,hz⟩:=I.list m;have hi:=xfj i;obtain⟨xs,e⟩:=hi.allInts.items;have a:ns=xs.toList.map (·.1):=by rw[<- hi.numsOf,<- nums_intItems,<- e]
 have f:=pl.isList;rw[e]at f;have hsz:xs.size=ns.length:=by rw[a,zLM,Array.length_toList]
 refine sum_intList (I.ok.hd x) f (λj w=>?_) λh' tk t' k=>⟨.int ns.sum,H,I.kept k,?_,q⟩
 ·have o:numAt xs j∈ns:=by
   rw[a,numAt_eq];exact getD_mem (by rw[zLM,Array.length_toList];exact w)
  have C:=g _ o;have z:=xiu (ns:=ns.take (j+1)) λn hn=>g n (qN hn);have y:(ns.take (j+1)).length<=1000:=zY (List.length_take_le _ _) (by omega);rw[preSum_eq,<- a];unfold InLong;omega
 ·refine⟨t',?_⟩
  rw[preSum_eq,<- a,zTL (by omega)]
theorem xqn(z:X.calm=true):xd9 X (.builtin "max") (λxs H Q=>∃p,∃ns:List Int,xs=[.ref p]/\SqL X.K H p (ns.map V.int)/\ns≠[]/\∀m,m∈ns->(∀n∈ns,n<=m)->Q (.int m) H):=by
 intro f s σ H xs us Q I r h;obtain⟨p,ns,rfl,x,c,q⟩:=h;obtain⟨u,rfl,o⟩:=xf5 r;cases o;obtain⟨its,l,pl,hz⟩:=I.list x;have hi:=xfj l;obtain⟨xs,e⟩:=hi.allInts.items;have b:ns=xs.toList.map (·.1):=by rw[<- hi.numsOf,<- nums_intItems,<- e]
 have g:=pl.isList;rw[e]at g;have hsz:xs.size=ns.length:=by rw[b,zLM,Array.length_toList]
 have G:0<ns.length:=List.length_pos_iff.mpr c;refine max_intList (I.ok.hd z) g (by omega) λv h' tk w k=>?_;obtain⟨t,rfl⟩:=intItems_at w;obtain⟨J,C⟩:=argBest_gt (numAt xs) (xs.size-1);refine⟨.int _,H,I.kept k,⟨t,rfl⟩,q _ ?_ λa i=>?_⟩
 ·rw[b,numAt_eq]
  exact getD_mem (by rw[zLM,Array.length_toList];omega)
 ·rw[b]at i
  obtain⟨j,y,rfl⟩:=mem_getD i;rw[zLM,Array.length_toList]at y;rw[<- numAt_eq];exact C j (by omega)
end
section
variable {X:Cx}{K:Fg}
theorem xuc(h:X.K=K):IxR X (rIxT K):=by subst h;exact xwa
theorem xrt(h:X.K=K):IxR X (rIxL K):=by subst h;exact iL
theorem xah(h:X.K=K):xd9 X (.builtin "len") (λxs H Q=>∃p ys,xs=[.ref p]/\(SqL K H p ys\/SqT K H p ys)/\Q (.int ys.length) H):=by subst h;exact xkh
theorem xbc {es:List Expr} {k:Nat} {t:TGs} {n:Nat} {pos:Pos} (c:X.K=K) (b:X.calm=true) (h:PGs X es t)
  (hn:(assignEach es X.env).length=n:=by rfl) (a:(assignEach es X.env).findIdx? (·.1)=none:=by rfl):PG X (.Tuple es k pos) (gTup K n t):=by subst c;exact xvn b h hn a
end
section
variable {X:Cx}{pins:List (Addr×Obj)}{σ:St}{H:Hp}{s:Shared}{h':Heap}
theorem Inv.turnedM{t':Nat}{fp:List Addr}(I:Inv X pins σ H s)(k:∀b o,b ∉fp->s.heap.get? b=some o->h'.get? b=some o)(hf:∀b∈fp,FpOk X pins H b):Inv X pins σ H {s with heap:=h',toks:=t'}:=by
 have nit:∀b u,H b=some u->b ∉fp:=λb u e z=>by rw[(hf b z).1]at e;cases e
 refine I.step (g':=s.gens) (d':=s.drawn) (ch:=fp) (λb hb=>?_) (λb o _ _ hc e _=>k b o hc e) (λb o _ _ hc e _=>⟨o.slots,k b o hc e⟩) (λ_ _ _ _ n=>n)
  (λb o hc e=>⟨o,k b o hc e⟩) (λ_ _ e=>e) (λ_ _ _ e=>e) (λb ps e=>⟨#[],by rw[e];simp⟩) (λm hm=>?_) (λb u e=>?_) I.bare
 ·obtain⟨f0,f1,f2,f3,f4,f5⟩:=hf b hb
  exact⟨f3,f1,f4,f5⟩
 ·obtain⟨o,es,ep,ho,r⟩:=hm
  exact⟨o,es,ep,k _ o (λz=>(hf _ z).2.1 rfl) ho,r⟩
 ·refine(I.hok b u e).stay (λc v hc q=>k c v ?_ q) (λ_ q=>q) λ_ _ q=>q
  rcases hc with z |z
  ·rw[z];exact nit b u e
  ·exact nit c _ z
end
theorem xgp{h:Heap}{o u:Obj}{b:Addr}(e:(h.push o).get? b=some u)(q:b≠h.objs.size):h.get? b=some u:=by
 rwa[Heap.get?_push_ne h b o q]at e
end L2
end
section
namespace M
open PySem L2
structure Kn where
 name:Str
 rc:Bool
 parts:List (Str×Str)
def Kn.sort(k:Kn):Str:=if k.rc=true then S "rec" else S "alt"
def xlv(p:Str×Str):D:=.tup [.str p.1,.str p.2]
def xd8(ps:List (Str×Str)):D:=.tup (ps.map xlv)
def Kn.d(k:Kn):D:=.tup [.str k.name,.str k.sort,xd8 k.parts]
def xee(ks:List Kn):D:=.tup (ks.map Kn.d)
def kAt(ks:List Kn)(x:Str):Option Kn:=ks.find? λk=>decide (k.name=x)
def xw4:Option Kn->V
 |some k=>.str k.sort
 |none=>.non
def xmk:Option Kn->D
 |some k=>xd8 k.parts
 |none=>.tup []
def KsAt(H:Hp)(v:V)(ks:List Kn):Prop:=RelD H v (xee ks)/\ks.length<=100/\∀k∈ks,k.parts.length<=100
theorem KsAt.same{H a:Hp}{v:V}{ks:List Kn}(h:KsAt H v ks)(s:Same H a):KsAt a v ks:=⟨h.1.same s _,h.2⟩
abbrev En:=Str->Option D
def En.put(e:En)(x:Str)(d:D):En:=λy=>if y=x then some d else e y
def EnAt(H:Hp)(p:Addr)(m:Nat)(e:En):Prop:=
 ∃kvs,H p=some (.dK kvs)/\kvs.length<=m/\∀x,(e x=none->valV kvs (Sum.inr x)=none)/\∀d,e x=some d->∃v,valV kvs (Sum.inr x)=some v/\RelD H v d
theorem EnAt.same{H b:Hp}{p:Addr}{m:Nat}{e:En}(h:EnAt H p m e)(s:Same H b):EnAt b p m e:=by
 obtain⟨kvs,g,f,a⟩:=h;refine⟨kvs,s _ _ g,f,λx=>⟨(a x).1,λd hd=>?_⟩⟩;obtain⟨v,c,r⟩:=(a x).2 d hd;exact⟨v,c,r.same s _⟩
theorem EnAt.mono{H:Hp}{p:Addr}{m a:Nat}{e:En}(h:EnAt H p m e)(l:m<=a):EnAt H p a e:=by
 obtain⟨kvs,c,f,b⟩:=h;exact⟨kvs,c,by omega,b⟩
theorem EnAt.put {H a:Hp} {p q:Addr} {m:Nat} {e:En} {kvs:List (Key×V)} (l:H p=some (.dK kvs)) (n:kvs.length<=m) (h:∀x,(e x=none->valV kvs (Sum.inr x)=none)/\∀d,e x=some d->∃v,valV kvs (Sum.inr x)=some v/\RelD H v d)
  (s:Same H a) {x:Str} {v:V} {d:D} (g:RelD a v d) (j:a q=some (.dK (putK kvs (Sum.inr x) v))):EnAt a q (m+1) (e.put x d):=by
 refine⟨_,j,by have:=xdk kvs (Sum.inr x) v;omega,λy=>?_⟩;rw[xhl];unfold En.put;by_cases c:y=x
 ·subst c
  rw[if_pos rfl,if_pos rfl];refine⟨λz=>(by cases z),λd' f=>?_⟩;cases f;exact⟨v,rfl,g⟩
 ·have b:¬(Sum.inr y:Key)=Sum.inr x:=λz=>c (Sum.inr.inj z)
  rw[if_neg c,if_neg b];refine⟨(h y).1,λd' f=>?_⟩;obtain⟨u,i,r⟩:=(h y).2 d' f;exact⟨u,i,r.same s _⟩
def opV(s:Str)(x y:Int):Int:=
 if s=S "+" then (x+y)%4294967296 else if s=S "-" then (x-y)%4294967296 else if s=S "*" then x*y%4294967296 else if s=S "<" then (if x<y then 1 else 0) else (if x=y then 1 else 0)
def Nm(x:Int):Prop:=0<=x/\x<4294967296
theorem xvy(s:Str)(x y:Int):Nm (opV s x y):=by
 have h:∀z:Int,Nm (z%4294967296):=λz=>⟨zQ _ (by decide),zO _ (by decide)⟩;unfold opV;split
 ·exact h _
 split
 ·exact h _
 split
 ·exact h _
 split
 ·split <;> exact⟨by decide,by decide⟩
 ·split <;> exact⟨by decide,by decide⟩
abbrev tNum(n:Int):D:=.tup [.str (S "num"),.int n]
abbrev tBox(x:Str):D:=.tup [.str (S "box"),.str x]
abbrev tOpD(s:Str)(a b:D):D:=.tup [.str (S "op"),.str s,a,b]
abbrev tRec(k:Str)(es:List D):D:=.tup [.str (S "rec"),.str k,.tup es]
abbrev tGet(a:D)(f:Str):D:=.tup [.str (S "get"),a,.str f]
abbrev tTag(k t:Str)(a:D):D:=.tup [.str (S "tag"),.str k,.str t,a]
abbrev dArm(r:Str×Str×D):D:=.tup [.str r.1,.str r.2.1,r.2.2]
abbrev xne(a:D)(rs:List (Str×Str×D)):D:=.tup [.str (S "case"),a,.tup (rs.map dArm)]
abbrev tIfD(a b c:D):D:=.tup [.str (S "if"),a,b,c]
def xew(env:En)(d v:D):Prop:=(∃n,d=tNum n/\v=.int n)\/∃x,env x=some v/\d=tBox x
def NodeEv(ks:List Kn)(R:En->D->D->Prop)(env:En)(d v:D):Prop:=
 (∃s a b x y,R env a (.int x)/\R env b (.int y)/\Nm x/\Nm y/\d=tOpD s a b/\v=.int (opV s x y)) ∨
 (∃k es vs,es.length<=1000/\All2 (R env) es vs/\d=tRec k es/\v=.tup [.str k,.tup vs]) ∨
 (∃a k vs f kn i,R env a (.tup [.str k,.tup vs])/\kAt ks k=some kn/\(kn.parts.map (·.1)).findIdx? (λz=>decide (z=f))=some i/\vs[i]?=some v/\d=tGet a f) ∨
 (∃k t a x,R env a x/\d=tTag k t a/\v=.tup [.str k,.str t,x]) ∨
 (∃a rs k t x y e,rs.length<=1000/\R env a (.tup [.str k,.str t,x])/\rs.find? (λr=>decide (r.1=t))=some (t,y,e)/\R (env.put y x) e v/\d=xne a rs) ∨
 (∃a b c x,R env a (.int x)/\R env (if x=0 then c else b) v/\d=tIfD a b c)
def Ev(ks:List Kn):Nat->En->D->D->Prop
 |0=>xew
 |n+1=>λenv d v=>xew env d v\/NodeEv ks (Ev ks n) env d v
def xqq(env:En)(d:D)(k:Str):Prop:=(∃n,Nm n/\d=tNum n/\k=S "num")\/∃x,env x=some (.str k)/\d=tBox x
def xjg(kn:Kn)(f:Str):Option Str:=(kn.parts.find? λp=>decide (p.1=f)).map (·.2)
abbrev RKn:=En->D->Str->Prop
def OpKd(R:RKn):RKn:=λenv d k=>∃s a b,R env a (S "num")/\R env b (S "num")/\d=tOpD s a b/\k=S "num"
def xxs(ks:List Kn)(R:RKn):RKn:=λenv d k=>∃es kn,kAt ks k=some kn/\kn.rc=true/\All2 (λe (p:Str×Str)=>R env e p.2) es kn.parts/\d=tRec k es
def xxt(ks:List Kn)(R:RKn):RKn:=λenv d k=>∃a k1 f kn,R env a k1/\kAt ks k1=some kn/\kn.rc=true/\xjg kn f=some k/\d=tGet a f
def xxr(ks:List Kn)(R:RKn):RKn:=λenv d k=>∃t a kn k1,kAt ks k=some kn/\kn.rc=false/\xjg kn t=some k1/\R env a k1/\d=tTag k t a
def xwq (cs:Prop) (ks:List Kn) (R:RKn):RKn:=λenv d k=>cs/\∃a,∃rs:List (Str×Str×D),∃k1 kn,R env a k1/\kAt ks k1=some kn/\kn.rc=false/\rs≠[]/\rs.length=kn.parts.length/\(rs.map (·.1)).Nodup ∧
  (∀r∈rs,env r.2.1=none/\∃k2,xjg kn r.1=some k2/\R (env.put r.2.1 (.str k2)) r.2.2 k)/\d=xne a rs
def IfKd(R:RKn):RKn:=λenv d k=>∃a b c,R env a (S "num")/\R env b k/\R env c k/\d=tIfD a b c
def NodeKd(cs:Prop)(ks:List Kn)(R:RKn):RKn:=λenv d k=>OpKd R env d k\/xxs ks R env d k\/xxt ks R env d k\/xxr ks R env d k\/xwq cs ks R env d k\/IfKd R env d k
def Kd(cs:Prop)(ks:List Kn):Nat->En->D->Str->Prop
 |0=>xqq
 |n+1=>λenv d k=>xqq env d k\/NodeKd cs ks (Kd cs ks n) env d k
theorem xc8{α:Type}{p:α->Bool}{xs:List α}{i:Nat}{a:α}(h:(xs.take i).find? p=none)(c:xs[i]?=some a):(p a=true->xs.find? p=some a)/\(p a=false->(xs.take (i+1)).find? p=none):=by
 have hi:i<xs.length:=(zES c).1;have e:xs[i]=a:=(zES c).2;refine⟨λb=>?_,λb=>?_⟩
 ·have f:xs=xs.take i++a::xs.drop (i+1):=by
   rw[<- e,<- List.drop_eq_getElem_cons hi,List.take_append_drop]
  rw[f,List.find?_append,h];simp[b]
 ·rw[zTA,c,List.find?_append,h]
  simp[b]
theorem Same.new2{H:Hp}{p:Addr}(h:H p=none)(o c:HO):Same H (upd (upd H p o) p c):=λb u q=>by
 have a:=neN q h;rw[xai a,xai a];exact q
mutual
def D.deep:D->Nat
 |.int _=>0
 |.str _=>0
 |.tup ds=>xgt ds+1
def xgt:List D->Nat
 |[]=>0
 |d::ds=>max d.deep (xgt ds)
end
theorem xed:∀{ds:List D} {d:D},d∈ds->d.deep<=xgt ds
 | e::ds,d,h=>by
  show d.deep<=max e.deep (xgt ds);rcases zMC h with rfl |h
  ·omega
  ·have:=xed h
   omega
theorem xen{n:Nat}:∀{ds:List D},(∀d∈ds,d.deep<=n)->xgt ds<=n
 |[],_=>qO _
 |e::ds,h=>by
  show max e.deep (xgt ds)<=n;have b:=h e (by simp);have a:=xen (ds:=ds) λd hd=>h d (qF _ hd);omega
section
variable {X:Cx}{pins:List (Addr×Obj)}{σ:St}{H:Hp}{s:Shared}
theorem xfo{vs:List V}{its:List Value}(r:Vals vs its){j:Nat}(a:j<its.toArray.size):∃x,vs[j]?=some x/\RelV x its.toArray[j]:=by
 have b:=r.length;have h:j<its.length:=by simpa using a
 obtain⟨u,e,q⟩:=r.get (i:=j) (x:=vs[j]'(by omega)) (zGA _)
 have g:its.toArray[j]=u:=by
  have:its[j]?=some its[j]:=zGA h;rw[e]at this;simpa using (qC this).symm
 exact⟨vs[j]'(by omega),zGA _,by rw[g];exact q⟩
theorem xp7(I:Inv X pins σ H s):∀(n:Nat) (d:D) {x y:V} {u v:Value} {A:Around},d.deep<=n->RelD H x d->RelD H y d->RelV x u->RelV y v->A.units+n<cLine->SeqAt.EqAt A s u v true
 |n,.int i,x,y,u,v,A,_,hx,hy,ru,rv,_=>by
  cases hx;cases hy;obtain⟨t,rfl⟩:=ru;obtain⟨t',rfl⟩:=rv;have:=SeqAt.EqAt.int_int (A:=A) (s:=s) i t i t';rw[beq_self_eq_true]at this;exact this
 |n,.str z,x,y,u,v,A,_,hx,hy,ru,rv,_=>by
  cases hx;cases hy;obtain⟨t,rfl⟩:=ru;obtain⟨t',rfl⟩:=rv;have:=SeqAt.EqAt.str_str (A:=A) (s:=s) z t z t';rw[beq_self_eq_true]at this;exact this
 |0,.tup ds,x,y,u,v,A,h,_,_,_,_,_=>absurd h (Nat.not_succ_le_zero _)
 | n + 1,.tup ds,x,y,u,v,A,h,hx,hy,ru,rv,hA=>by
  obtain⟨a,vs,rfl,ha,rvs⟩:=hx;obtain⟨b,ws,rfl,hb,rws⟩:=hy;obtain rfl:u=.ref a:=ru;obtain rfl:v=.ref b:=rv;by_cases hab:a=b
  ·subst hab
   exact SeqAt.EqAt.same _
  ·obtain⟨its,r1,p1,_⟩:=I.tuple (zB (K:=X.K) ha)
   obtain⟨its2,r2,p2,_⟩:=I.tuple (zB (K:=X.K) hb);have l1:=r1.length;have l2:=r2.length;have l3:=rvs.length;have l4:=rws.length;have:=SeqAt.EqAt.of_refs hab (SeqAt.RcAt.tuples (A:=A) (e:=λ_=>true) p1 p2 (by omega) λj h1 h2=>?_)
   ·have e:((List.range (min its.toArray.size its2.toArray.size)).all (λ_=>true) && its.toArray.size == its2.toArray.size)=true:=by
     rw[show its.toArray.size=its2.toArray.size by simp only[List.size_toArray];omega];simp
    rw[e]at this;exact this
   ·obtain⟨x1,e1,q1⟩:=xfo r1 h1
    obtain⟨x2,e2,q2⟩:=xfo r2 h2;obtain⟨d1,f1,g1⟩:=rvs.get e1;obtain⟨d2,f2,g2⟩:=rws.get e2;rw[f1]at f2;cases f2;refine xp7 I n d1 ?_ g1 g2 q1 q2 (by show A.units+1+n<cLine;omega);have:=xed (zMG f1);have h':xgt ds+1<=n+1:=h;omega
end
def five:List Nat:=[113,120,122,118,119]
def nmA(cs:List Nat)(a:Nat)(b:Int)(k:Nat):List Nat:=cs.take a++(97+((b+5*(k:Int))%26).toNat)::cs.drop a
def nmB(cs:List Nat)(a:Nat)(b:Int)(k:Nat):List Nat:=nmA cs a b (k-k%2)++List.replicate (k%2) 113
def xnz(nms:List Str):Prop:=nms.length=26/\nms.Nodup/\∀z∈nms,Name z
theorem xgj(cs:List Nat)(a:Nat)(b:Int)(k:Nat):(nmA cs a b k).length=cs.length+1:=by
 unfold nmA;rw[zLA,List.length_cons,List.length_take,List.length_drop];omega
theorem xgi(cs:List Nat)(a:Nat)(b:Int)(k:Nat):(nmB cs a b k).length=cs.length+1+k%2:=by
 unfold nmB;rw[zLA,xgj,List.length_replicate]
theorem xpf{cs:List Nat}{a:Nat}{b:Int}{k j:Nat}(e:k<26)(f:j<26)(h:nmA cs a b k=nmA cs a b j):k=j:=by
 unfold nmA at h;have c:=List.append_cancel_left h;have g:=(zS c).1;omega
theorem xt6{cs:List Nat}{a:Nat}{b:Int}{k j:Nat}(g:k<26)(i:j<26)(h:nmB cs a b k=nmB cs a b j):k=j:=by
 have e:=congrArg List.length h;rw[xgi,xgi]at e;have c:k%2=j%2:=by omega
 unfold nmB at h;rw[c]at h;have f:=List.append_cancel_right h;have l:=xpf (by omega) (by omega) f;omega
theorem xjt{f:Nat->Str}(h:∀k j,k<26->j<26->f k=f j->k=j):((List.range 26).map f).Nodup:=by
 refine List.pairwise_map.mpr (List.Pairwise.imp_of_mem (λhi b a e=>?_) (List.pairwise_lt_range (n:=26)));have:=h _ _ (List.mem_range.mp hi) (List.mem_range.mp b) e;omega
theorem xgq:∀c∈five,xe8 c=true:=by decide
theorem xjz(i:Int):xe8 (97+(i%26).toNat)=true:=by
 unfold xe8;have b:0<=i%26:=zQ _ (by decide);have a:i%26<26:=zO _ (by decide);rw[Bool.and_eq_true,decide_eq_true_eq,decide_eq_true_eq];omega
theorem xpi{l:List Nat}(i:1<=l.length)(h:l.length<=6)(f:∀c∈l,xe8 c=true)(a:l.length=1\/∃c∈l,c∈five):Name (ofL l):=by
 show xrn l=true;unfold xrn
 have ne:∀z:List Nat,z.length≠1->(∀c∈z,c ∉five)->(l != z)=true:=λz hz g=>by
  rw[bne_iff_ne];intro e;subst e;rcases a with a |⟨c,b,a⟩
  ·exact hz a
  ·exact g c b a
 rw[ne [110,117,109] (by decide) (by decide),ne [105,116] (by decide) (by decide),zDT i,zDT h,List.all_eq_true.mpr f];rfl
theorem mem_nmA{cs:List Nat}{a:Nat}{b:Int}{k c:Nat}:c∈nmA cs a b k ↔ c∈cs\/c=97+((b+5*(k:Int))%26).toNat:=by
 unfold nmA;rw[List.mem_append,List.mem_cons]
 have e:c∈cs ↔ c∈cs.take a\/c∈cs.drop a:=by
  rw[<- List.mem_append,List.take_append_drop]
 rw[e];constructor
 ·rintro(h |h |h)
  ·exact .inl (.inl h)
  ·exact .inr h
  ·exact .inl (.inr h)
 ·rintro((h |h) |h)
  ·exact .inl h
  ·exact .inr (.inr h)
  ·exact .inr (.inl h)
theorem xrk{cs:List Nat}{a:Nat}{b:Int}{k:Nat}(g:cs.length<=4)(e:∀c∈cs,c∈five):Name (ofL (nmA cs a b k)):=by
 refine xpi (by rw[xgj];omega) (by rw[xgj];omega) (λc f=>?_) ?_
 ·rcases mem_nmA.mp f with h |h
  ·exact xgq c (e c h)
  ·rw[h];exact xjz _
 ·cases cs with
  |nil=>exact .inl (by rw[xgj];rfl)
  |cons c r=>exact .inr ⟨c,mem_nmA.mpr (.inl (by simp)),e c (by simp)⟩
theorem xrj{cs:List Nat}{a:Nat}{b:Int}{k:Nat}(i:cs.length<=4)(f:∀c∈cs,c∈five):Name (ofL (nmB cs a b k)):=by
 refine xpi (by rw[xgi];omega) (by rw[xgi];omega) (λc e=>?_) ?_
 ·unfold nmB at e
  rcases zMA e with e |e
  ·rcases mem_nmA.mp e with h |h
   ·exact xgq c (f c h)
   ·rw[h];exact xjz _
  ·rw[(List.mem_replicate.mp e).2];decide
 ·by_cases g:k%2=0
  ·cases cs with
   |nil=>exact .inl (by rw[xgi,g];rfl)
   |cons c r=>exact .inr ⟨c,by unfold nmB;exact zR _ (mem_nmA.mpr (.inl (by simp))),f c (by simp)⟩
  ·refine .inr ⟨113,?_,by decide⟩
   unfold nmB;exact zJ _ (List.mem_replicate.mpr ⟨by omega,rfl⟩)
theorem nmsA{cs:List Nat}{a:Nat}{b:Int}(h:cs.length<=4)(i:∀c∈cs,c∈five):xnz ((List.range 26).map λk=>ofL (nmA cs a b k)):=by
 refine⟨by simp,xjt λk j f g e=>xpf f g (congrArg L e),λz hz=>?_⟩;obtain⟨k,_,rfl⟩:=zMP hz;exact xrk h i
theorem nmsB{cs:List Nat}{a:Nat}{b:Int}(h:cs.length<=4)(i:∀c∈cs,c∈five):xnz ((List.range 26).map λk=>ofL (nmB cs a b k)):=by
 refine⟨by simp,xjt λk j f g e=>xt6 f g (congrArg L e),λz hz=>?_⟩;obtain⟨k,_,rfl⟩:=zMP hz;exact xrj h i
theorem xqy(x:Str){j:Int}(h0:0<=j)(a:j<=x.length):Txt.slice x none (some j)=ofL ((L x).take j.toNat):=by
 have e:Txt.slice x none (some j)=StrLaws.sliceText x none (some j):=rfl;rw[e,StrLaws.sliceText_to ⟨h0,by rw[show x.cps.toList.length=x.length by simp[Str.length]];exact a⟩];show ofL ((((L x).drop 0).take (j-0).toNat))=_;rw[List.drop_zero,Int.sub_zero]
theorem xng(x:Str){j:Int}(h0:0<=j)(a:j<=x.length):Txt.slice x (some j) none=ofL ((L x).drop j.toNat):=by
 have e:Txt.slice x (some j) none=StrLaws.sliceText x (some j) none:=rfl;rw[e,StrLaws.sliceText_from ⟨h0,by rw[show x.cps.toList.length=x.length by simp[Str.length]];exact a⟩];apply xqr;show((L x).drop j.toNat).take _=(L x).drop j.toNat;refine zTL ?_;rw[List.length_drop];show(L x).length-j.toNat<=(((L x).length:Int)-j).toNat;omega
theorem xpp{i:Int}(h0:0<=i)(h:i<26):atI (S "abcdefghijklmnopqrstuvwxyz").cps.toList i=some (97+i.toNat):=by
 have all:∀k,k<26->(S "abcdefghijklmnopqrstuvwxyz").cps.toList[k]?=some (97+k):=by walk_at"k"
 have a:i=((i.toNat:Nat):Int):=by omega
 have q:=xav (all i.toNat (by omega));rw[<- a]at q;exact q
theorem xuj{i:Int}(h0:0<=i)(h:i<5):∃c∈five,atI (S "qxzvw").cps.toList i=some c:=by
 have e:(S "qxzvw").cps.toList=five:=by walk_at"k"
 rw[e];exact xm9 h0 h
theorem xph(cs:List Nat)(a ch:Nat):ofL (cs.take a)++(⟨#[ch]⟩:Str)++ofL (cs.drop a)=ofL (cs.take a++ch::cs.drop a):=by
 apply xqr;rw[xeo,xeo,xef,xef,xef];show cs.take a++[ch]++cs.drop a=_;simp
end M
namespace L2
open PySem PySem.Spec PyProof.Rows
theorem xtx{X:Cx}:OpR X (binaryOp .Mult) (λx y H Q=>∃i n,x=.str i/\y=.int n/\(n=0\/n=1)/\Q (.str (if n=1 then i else Str.empty)) H):=by
 intro pins s σ H x y v u Q I rx ry h;obtain⟨i,n,rfl,rfl,hn,q⟩:=h;obtain⟨t,rfl⟩:=rx;obtain⟨t',rfl⟩:=ry;refine SB.mul ?_ λt' k=>⟨.str _,H,I.tok k,⟨t',rfl⟩,?_⟩
 ·rcases hn with rfl |rfl
  ·exact⟨by decide,λh=>absurd (by decide) h,λh=>absurd (by decide) h⟩
  ·exact⟨by decide,λ_ h=>by simp at h,λ_ h=>by simp at h⟩
 ·have e:Txt.mul i n=if n=1 then i else Str.empty:=by
   rcases hn with rfl |rfl
   ·rfl
   ·unfold Txt.mul
    rw[if_neg (by decide),if_pos (by simp),if_pos rfl]
  rw[e];exact q
end L2
end
section
namespace M
open PySem L2
structure KWf(ks:List Kn):Prop where
 nd:(ks.map Kn.name).Nodup
 nm:∀k∈ks,Name k.name
 ref:∀(i:Nat) (k:Kn),ks[i]?=some k->∀p∈k.parts,p.2=S "num"\/∃j,∃k':Kn,j<i/\ks[j]?=some k'/\k'.name=p.2
 alt:∀k∈ks,k.rc=false->k.parts≠[]
 few:ks.length<=6
 pts:∀k∈ks,k.parts.length<=5
 pnd:∀k:Kn,k∈ks->(k.parts.map (λp:Str×Str=>p.1)).Nodup
 pnm:∀k:Kn,k∈ks->∀p∈k.parts,Name p.1
theorem xe0{x:Str}(h:Name x):x≠S "num":=λe=>by
 rw[e]at h;exact absurd (show xrn (S "num").cps.toList=true from h) (by walk_at"k")
theorem KWf.nil:KWf []:=⟨List.nodup_nil,(λ_ h=>nomatch h),(λi k h=>by simp at h),(λ_ h=>nomatch h),qO _,(λ_ h=>nomatch h),(λ_ h=>nomatch h),(λ_ h=>nomatch h)⟩
theorem xel{α:Type}{f:α->Str}:∀{xs:List α} {i:Nat} {a:α},(xs.map f).Nodup->xs[i]?=some a->xs.find? (λz=>decide (f z=f a))=some a
 |x::xs,0,a,nd,h=>by
  simp at h;subst h;rw[List.find?_cons,zDT rfl]
 |x::xs,i+1,a,nd,h=>by
  have h':xs[i]?=some a:=by simpa using h
  rw[List.map_cons,List.nodup_cons]at nd;have b:f x≠f a:=λe=>nd.1 (by rw[e];exact qG (zMG h'));rw[List.find?_cons,zDF b];exact xel nd.2 h'
theorem KWf.at{ks:List Kn}(w:KWf ks){i:Nat}{k:Kn}(h:ks[i]?=some k):kAt ks k.name=some k:=xel (f:=Kn.name) w.nd h
theorem KWf.no{ks:List Kn}{x:Str}(h:∀k∈ks,k.name≠x):kAt ks x=none:=by
 unfold kAt;rw[List.find?_eq_none];intro k a;simpa using h k a
theorem KWf.num{ks:List Kn}(w:KWf ks):kAt ks (S "num")=none:=KWf.no λk a=>xe0 (w.nm k a)
def KIn(ks:List Kn)(n:Nat)(x:Str):Prop:=x=S "num"\/∃j k,j<n/\ks[j]?=some k/\k.name=x
theorem KIn.mono{ks:List Kn}{n m:Nat}{x:Str}(h:KIn ks n x)(l:n<=m):KIn ks m x:=by
 rcases h with h |⟨j,k,a,h⟩
 ·exact .inl h
 ·exact .inr ⟨j,k,by omega,h⟩
theorem KIn.ap{ks more:List Kn}{n:Nat}{x:Str}(h:KIn ks n x):KIn (ks++more) n x:=by
 rcases h with h |⟨j,k,b,a,c⟩
 ·exact .inl h
 ·exact .inr ⟨j,k,b,by rw[List.getElem?_append_left (zES a).1];exact a,c⟩
theorem KIn.of{ks:List Kn}{x:Str}(h:x=S "num"\/∃k∈ks,k.name=x):KIn ks ks.length x:=by
 rcases h with h |⟨k,b,h⟩
 ·exact .inl h
 ·obtain⟨j,a,e⟩:=zMI b
  exact .inr ⟨j,k,a,by rw[<- e];exact zGA a,h⟩
theorem KWf.snoc {ks:List Kn} (w:KWf ks) {k:Kn} (o:k.name ∉ks.map Kn.name) (n:Name k.name) (m:∀p∈k.parts,KIn ks ks.length p.2) (l:k.rc=false->k.parts≠[]) (r:ks.length<6) (j:k.parts.length<=5)
  (h:(k.parts.map (·.1)).Nodup) (g:∀p∈k.parts,Name p.1):KWf (ks++[k]):=by
 have c:∀{q:Kn->Prop},(∀z∈ks,q z)->q k->∀z∈ks++[k],q z:=λa b z hz=>by
  rcases zMA hz with hz |hz
  ·exact a z hz
  ·rw[zMO hz];exact b
 refine⟨?_,c w.nm n,?_,c w.alt l,by rw[zLA,List.length_singleton];omega,c w.pts j,c w.pnd h,c w.pnm g⟩
 ·rw[zAP]
  exact xli w.nd o
 ·intro i z hz p f
  by_cases hi:i<ks.length
  ·rw[List.getElem?_append_left hi]at hz
   exact KIn.ap (w.ref i z hz p f)
  ·rw[List.getElem?_append_right (by omega)]at hz
   have e:i-ks.length=0:=by
    have:=(zES hz).1;simp at this;omega
   rw[e]at hz;simp at hz;subst hz;exact(m p f).ap.mono (by omega)
def maxD:List Int->Int
 |[]=>0
 |n::ns=>max n (maxD ns)
theorem xpl:∀{ns:List Int} {n:Int},n∈ns->n<=maxD ns
 | m::ns,n,h=>by
  show n<=max m (maxD ns);rcases zMC h with rfl |h
  ·omega
  ·have:=xpl h
   omega
theorem xif:∀{ns:List Int},ns≠[]->(∀n∈ns,0<=n)->maxD ns∈ns
 |[n],_,h=>by
  have h0:=h n (by simp);show max n 0∈[n];rw[Int.max_eq_left h0];simp
 |n::m::ns,_,h=>by
  have a:=xif (ns:=m::ns) (by simp) λx b=>h x (qF _ b);show max n (maxD (m::ns))∈n::m::ns;rcases Int.le_total n (maxD (m::ns)) with e |e
  ·rw[Int.max_eq_right e];exact qF _ a
  ·rw[Int.max_eq_left e];simp
theorem xt8{ns:List Int}{m:Int}(hn:ns≠[])(h0:∀n∈ns,0<=n)(a:m∈ns)(h:∀n∈ns,n<=m):m=maxD ns:=by
 have c:=xpl a;have b:=h _ (xif hn h0);omega
def szF:Nat->List Kn->Str->Int
 |0,_,_=>1
 |n+1,ks,x=>match kAt ks x with
  |none=>1
  |some k=>1+(if k.rc=true then (k.parts.map λp=>szF n ks p.2).sum else maxD (k.parts.map λp=>szF n ks p.2))
theorem xf7{ks:List Kn}(e:∀k∈ks,k.parts.length<=5):∀(n:Nat) (x:Str),1<=szF n ks x/\szF n ks x<=6 ^ n
 |0,x=>by simp[szF]
 | n + 1,x=>by
  unfold szF;have u:(1:Int)<=6 ^ n:=Int.pow_pos (by decide);have w:(6:Int) ^ (n+1)=6*6 ^ n:=by rw[Int.pow_succ,Int.mul_comm]
  cases j:kAt ks x with
  |none=>simp only;omega
  | some k=>
   simp only;have c:=e k (zMF j)
   have all:∀m∈k.parts.map (λp=>szF n ks p.2),1<=m/\m<=6 ^ n:=λm b=>by
    obtain⟨p,_,rfl⟩:=zMP b;exact xf7 e n p.2
   have i:(k.parts.map (λp=>szF n ks p.2)).length<=5:=by rw[zLM];exact c
   generalize k.parts.map (λp=>szF n ks p.2)=ns at all i⊢
   have hs:∀(l:List Int),(∀m∈l,1<=m/\m<=(6:Int) ^ n)->0<=l.sum/\l.sum<=l.length*6 ^ n:=by
    intro l
    induction l with
    |nil=>intro _;simp
    |cons a r g=>
     intro h;have s:=h a (by simp);have o:=g λm b=>h m (qF _ b);rw[List.sum_cons,List.length_cons];push_cast;rw[Int.add_mul];omega
   have b:0<=maxD ns/\maxD ns<=6 ^ n:=by
    by_cases f:ns=[]
    ·subst f;simp[maxD];omega
    ·have:=all _ (xif f λm b=>by have:=all m b;omega)
     omega
   have s:=hs ns all;have o:(ns.length:Int)*6 ^ n<=5*6 ^ n:=Int.mul_le_mul_of_nonneg_right (by omega) (by omega);split <;> omega
def KsSeq(H:Hp)(v:V)(ks:List Kn):Prop:=∃a vs,v=.ref a/\(H a=some (.lst vs)\/H a=some (.tup vs))/\RelDs H vs (ks.map Kn.d)
theorem KsSeq.same{H b:Hp}{v:V}{ks:List Kn}(h:KsSeq H v ks)(s:Same H b):KsSeq b v ks:=by
 obtain⟨a,vs,e,f,c⟩:=h;exact⟨a,vs,e,f.imp (s _ _) (s _ _),c.same s _⟩
theorem KWf.ksAt{ks:List Kn}(w:KWf ks){H:Hp}{v:V}(h:RelD H v (xee ks)):KsAt H v ks:=⟨h,by have:=w.few;omega,λk a=>by have:=w.pts k a;omega⟩
theorem KsAt.seq{H:Hp}{v:V}{ks:List Kn}(h:KsAt H v ks):KsSeq H v ks:=by
 obtain⟨a,vs,e,c,b⟩:=h.1;exact⟨a,vs,e,.inr c,b⟩
def xgy:Option Kn->Str
 |some k=>k.sort
 |none=>S "num"
end M
namespace L2
open PySem PySem.Spec PyProof.Rows
theorem xvm{X:Cx}{b it:Expr}{e c:TI}(g:PI X b it e)(f:PI X b it c):PI X b it (λσ H R=>e σ H R\/c σ H R):=λa s σ H R I h=>by
 rcases h with h |h
 ·exact g a s σ H R I h
 ·exact f a s σ H R I h
end L2
namespace L2
theorem xdv{σ:St}{H:Hp}{A B:Hp->Prop}(h:A H):tYes σ H (λb a=>if b=true then A a else B a):=by
 unfold tYes;show if true=true then A H else B H;rw[if_pos rfl];exact h
end L2
namespace M
open PySem L2
theorem Fed.put{f p:Addr}{H c:Hp}(h:Fed f H c)(i:H p=none)(j:p≠f)(o:HO):Fed f H (upd c p o):=by
 obtain⟨s,x,y,e⟩:=h;refine⟨λb u a g=>?_,x,y,?_⟩
 ·rw[xai (neN a i)]
  exact s b u a g
 ·rw[xai (Ne.symm j)]
  exact e
theorem xc0{H:Hp}{p:Addr}{us:List V}(h:H p=some (.lst us))(o:HO):∀b vs,H b=some (.tup vs)->upd H p o b=some (.tup vs):=λb vs a=>by
 rw[xai λe=>by rw[e,h]at a;cases a];exact a
theorem xid{ks:List Kn}{r:Int}(h0:0<=r)(h:r<1+(ks.length:Int)):∃x,atI ([V.str (S "num")]++(ks.map Kn.name).map V.str) r=some (.str x)/\KIn ks ks.length x:=by
 have e:[V.str (S "num")]++(ks.map Kn.name).map V.str=(S "num"::ks.map Kn.name).map V.str:=rfl;obtain⟨z,hz,b⟩:=xm9 (cs:=(S "num"::ks.map Kn.name).map V.str) h0 (by rw[zLM,List.length_cons,zLM];push_cast;omega);obtain⟨y,a,rfl⟩:=zMP hz;refine⟨y,by rw[e];exact b,?_⟩;rcases zMC a with rfl |a
 ·exact .inl rfl
 ·obtain⟨k,c,rfl⟩:=zMP a
  exact KIn.of (.inr ⟨k,c,rfl⟩)
theorem xl3{ys:List Str}{i:Nat}(h:i<ys.length):atI (ys.map V.str) (0+(i:Int))=some (.str ys[i]):=by
 rw[Int.zero_add];exact xav (by rw[zGM,zGA h];rfl)
theorem xwl{a:List Str}(h:a.length=26):cutV (a.map V.str) (some 8) (some 12)=((a.drop 8).take 4).map V.str:=by
 unfold cutV HT.sIx;rw[zLM,h,List.map_take,List.map_drop];rfl
def xwo(nms:List Str)(ks:List Kn):Prop:=KWf ks/\ks.length<=4/\ks.map Kn.name=nms.take ks.length/\∀k∈ks,k.parts.length<=4/\k.parts.map (·.1)=((nms.drop 8).take 4).take k.parts.length
theorem xpx{A:Around}{k:Nat}(a:Room k A):A.units+200<cLine:=by
 have:=a.un;omega
def nuT:Nat->List Kn->Str->D
 |0,_,_=>tNum 0
 | n+1,ks,x=>match kAt ks x with
  |none=>tNum 0
  |some k=>if k.rc=true then tRec x (k.parts.map λp=>nuT n ks p.2) else match k.parts with
   |[]=>tNum 0
   |p::_=>tTag x p.1 (nuT n ks p.2)
def nuV:Nat->List Kn->Str->D
 |0,_,_=>.int 0
 | n+1,ks,x=>match kAt ks x with
  |none=>.int 0
  |some k=>if k.rc=true then .tup [.str x,.tup (k.parts.map λp=>nuV n ks p.2)] else match k.parts with
   |[]=>.int 0
   |p::_=>.tup [.str x,.str p.1,nuV n ks p.2]
theorem KIn.look{ks:List Kn}(a:KWf ks){m:Nat}{x:Str}(h:KIn ks m x):(x=S "num"/\kAt ks x=none)\/∃j k,m=j+1/\kAt ks x=some k/\k.name=x/\k∈ks/\∀p∈k.parts,KIn ks j p.2:=by
 rcases h with rfl |⟨j,k,f,b,rfl⟩
 ·exact .inl ⟨rfl,a.num⟩
 ·refine .inr ⟨m-1,k,by omega,a.at b,rfl,zMG b,λp e=>?_⟩
  rcases a.ref j k b p e with z |⟨i,c,hi,z⟩
  ·exact .inl z
  ·exact .inr ⟨i,c,by omega,z⟩
def NuAt (ks:List Kn) (m:Nat) (x:Str):Prop:=
  (x=S "num"/\kAt ks x=none/\nuT (m+1) ks x=tNum 0/\nuV (m+1) ks x=.int 0) ∨
  ∃ j k,m=j+1/\kAt ks x=some k/\k.name=x/\k∈ks/\(∀p∈k.parts,KIn ks j p.2)/\x≠S "num" ∧
    ((k.rc=true/\nuT (m+1) ks x=tRec x (k.parts.map λp=>nuT m ks p.2)/\nuV (m+1) ks x=.tup [.str x,.tup (k.parts.map λp=>nuV m ks p.2)]) ∨
     (k.rc=false/\∃p r,k.parts=p::r/\nuT (m+1) ks x=tTag x p.1 (nuT m ks p.2)/\nuV (m+1) ks x=.tup [.str x,.str p.1,nuV m ks p.2]))
theorem KIn.nu{ks:List Kn}(b:KWf ks){m:Nat}{x:Str}(h:KIn ks m x):NuAt ks m x:=by
 rcases h.look b with⟨rfl,e⟩ |⟨j,k,rfl,e,hn,c,i⟩
 ·refine .inl ⟨rfl,e,?_,?_⟩
  ·unfold nuT;rw[e]
  ·unfold nuV;rw[e]
 ·refine .inr ⟨j,k,rfl,e,hn,c,i,by rw[<- hn];exact xe0 (b.nm k c),?_⟩
  cases a:k.rc with
  | true=>
   refine .inl ⟨rfl,?_,?_⟩
   ·conv=>lhs;unfold nuT
    rw[e];show(if k.rc=true then _ else _)=_;rw[if_pos a]
   ·conv=>lhs;unfold nuV
    rw[e];show(if k.rc=true then _ else _)=_;rw[if_pos a]
  | false=>
   obtain⟨p,r,f⟩:∃p r,k.parts=p::r:=by
    cases g:k.parts with
    |nil=>exact absurd g (b.alt k c a)
    |cons p r=>exact⟨p,r,rfl⟩
   refine .inr ⟨rfl,p,r,f,?_,?_⟩
   ·conv=>lhs;unfold nuT
    rw[e];show(if k.rc=true then _ else _)=_;rw[if_neg (by rw[a];decide),f]
   ·conv=>lhs;unfold nuV
    rw[e];show(if k.rc=true then _ else _)=_;rw[if_neg (by rw[a];decide),f]
end M
end
section
namespace L2
open PySem PySem.Spec PyProof.Rows
theorem xxi{P:Program}{w:World}{k:Key}{v:Value}(h:(xbu P w).is k v=true):RelV (kV k) v:=by
 cases k with
 |inl i=>
  have h':Value.isInt i v=true:=h;unfold Value.isInt at h';split at h' <;> simp_all [RelV,kV]
 |inr x=>
  have h':Value.isStrOf x v=true:=h;unfold Value.isStrOf at h';split at h' <;> simp_all [RelV,kV]
theorem KV.get{κ:Type}{kvs:List (κ×V)}{vs:List (κ×Value)}(r:KV kvs vs){i:Nat}{p:κ×V}{q:κ×Value}(a:kvs[i]?=some p)(b:vs[i]?=some q):p.1=q.1:=by
 unfold KV at r
 induction r generalizing i with
 |nil=>simp at a
 | cons h t c=>
  cases i with
  |zero=>
   simp at a b;subst a b;exact h.1
  |succ i=>exact c (by simpa using a) (by simpa using b)
theorem xtv{X:Cx}:OpR X (compareOp .IsNot) (λx y H Q=>y=.bl true/\∃b,x=.bl b/\Q (.bl (!b)) H):=by
 intro pins s σ H x y v u Q I rx ry h;obtain⟨rfl,b,rfl,q⟩:=h;cases rx;cases ry;cases b <;> exact z5 (xbs I q rfl)
end L2
end
section
namespace M
open PySem L2
theorem xit{ks:List Kn}{k:Kn}{x:Str}(h:kAt ks x=some k)(n:Nat):szF (n+1) ks x=1+(if k.rc=true then (k.parts.map λp=>szF n ks p.2).sum else maxD (k.parts.map λp=>szF n ks p.2)):=by
 conv=>lhs;unfold szF
 rw[h]
theorem xex {ks:List Kn} {x:Str} (h:kAt ks x=none):∀n,szF n ks x=1
  |0=>rfl
  | n + 1 => by conv => lhs;unfold szF
                rw[h]
theorem xqt{ks:List Kn}(w:KWf ks)(j:Nat):∀(x:Str),KIn ks j x->∀n,j+1<=n->szF n ks x=szF (j+1) ks x:=by
 induction j with
 |zero=>
  intro x h n hn;rcases h.look w with⟨rfl,e⟩ |⟨i,k,b,_⟩
  ·rw[xex e,xex e]
  ·cases b
 | succ j c=>
  intro x h n hn;rcases h.look w with⟨rfl,e⟩ |⟨i,k,b,e,_,_,f⟩
  ·rw[xex e,xex e]
  ·cases b
   obtain⟨m,rfl⟩:∃m,n=m+1:=⟨n-1,by omega⟩;have this:(k.parts.map λp=>szF m ks p.2)=k.parts.map λp=>szF (j+1) ks p.2:=zP λp a=>c p.2 (f p a) m (by omega);rw[xit e,xit e,this]
def sz(ks:List Kn)(x:Str):Int:=szF 7 ks x
theorem xu7{ks:List Kn}(w:KWf ks):sz ks (S "num")=1:=xex w.num _
theorem xw2{ks:List Kn}(w:KWf ks)(x:Str):1<=sz ks x:=(xf7 w.pts 7 x).1
def inSz(k:Kn)(f:Str->Int):Int:=if k.rc=true then (k.parts.map λp=>f p.2).sum else maxD (k.parts.map λp=>f p.2)
theorem xhf{k:Kn}{f g:Str->Int}(h:∀p∈k.parts,f p.2=g p.2):inSz k f=inSz k g:=by
 unfold inSz;rw[List.map_congr_left (g:=λp=>g p.2) h]
theorem xw3{ks:List Kn}(w:KWf ks){i:Nat}{k:Kn}(h:ks[i]?=some k):sz ks k.name=1+inSz k (sz ks):=by
 have c:=w.few;have hi:i<ks.length:=(zES h).1;show szF 7 ks k.name=_;rw[xit (w.at h)];show 1+inSz k (szF 6 ks)=_;rw[xhf (g:=sz ks)];intro p b;have a:KIn ks 5 p.2:=KIn.mono (n:=i) (w.ref i k h p b) (by omega);exact(xqt w 5 p.2 a 7 (by omega)).symm
theorem xv9{ks more:List Kn}{x:Str}{k:Kn}(h:kAt ks x=some k):kAt (ks++more) x=some k:=by
 unfold kAt at h⊢;rw[List.find?_append,h];rfl
theorem xsg{ks more:List Kn}(w:KWf ks)(b:KWf (ks++more)):∀(n:Nat) (x:Str),KIn ks ks.length x->szF n (ks++more) x=szF n ks x
 |0,_,_=>rfl
 |n+1,x,h=>by
  rcases h.look w with⟨rfl,e⟩ |⟨i,k,f,e,_,_,c⟩
  ·rw[xex e,xex b.num]
  ·rw[xit e,xit (xv9 e),List.map_congr_left (g:=λp=>szF n ks p.2) λp a=>xsg w b n p.2 ((c p a).mono (by omega))]
theorem xu8{ks more:List Kn}(w:KWf ks)(a:KWf (ks++more)){x:Str}(h:KIn ks ks.length x):sz (ks++more) x=sz ks x:=xsg w a 7 x h
def Fit(ks:List Kn):Prop:=∀k∈ks,sz ks k.name<=30
theorem Fit.nil:Fit []:=λ_ h=>nomatch h
theorem Fit.snoc{ks:List Kn}{k:Kn}(w:KWf ks)(a:KWf (ks++[k]))(f:Fit ks)(c:∀p∈k.parts,KIn ks ks.length p.2)(e:inSz k (sz ks)<=29):Fit (ks++[k]):=by
 intro z hz;rcases zMA hz with hz |hz
 ·rw[xu8 w a (KIn.of (.inr ⟨z,hz,rfl⟩))]
  exact f z hz
 ·rw[zMO hz,xw3 a (i:=ks.length) (by simp),xhf (g:=sz ks) λp b=>xu8 w a (c p b)]
  omega
end M
end
section
end
section
end
section
namespace L2
open PySem PySem.Spec PyProof.Rows
section
variable {X:Cx}{pins:List (Addr×Obj)}{σ:St}{H:Hp}{s:Shared}{C:Addr}{Q:VK}{us:List Value}{vs:List V}{CX:CXT}{k:Nat}{f:Addr}{fd:FuncData}{ps:List Str}{sp:Sp}{E:XK}
theorem xlp{h:Heap}{o u:Obj}{b:Addr}(e:(h.push o).get? b=some u)(q:b≠h.objs.size):h.get? b=some u:=by
 rwa[Heap.get?_push_ne h b o q]at e
variable {x:Str}{p pos:Pos}{e:Expr}{es:List Expr}{t:TA}
variable {o value:Expr}{fl:Str}{pos':Pos}{ta tv:TE}
end
section
variable {X:Cx}{pins:List (Addr×Obj)}{σ:St}{H:Hp}{s:Shared}{h':Heap}
theorem Inv.turnedL{t':Nat}{fp:List Addr}(I:Inv X pins σ H s)(k:∀b o,b ∉fp->s.heap.get? b=some o->h'.get? b=some o)(hf:∀b∈fp,FpOk X pins H b):Inv X pins σ H {s with heap:=h',toks:=t'}:=by
 have nit:∀b u,H b=some u->b ∉fp:=λb u e z=>by rw[(hf b z).1]at e;cases e
 refine I.step (g':=s.gens) (d':=s.drawn) (ch:=fp) (λb hb=>?_) (λb o _ _ hc e _=>k b o hc e) (λb o _ _ hc e _=>⟨o.slots,k b o hc e⟩) (λ_ _ _ _ n=>n)
  (λb o hc e=>⟨o,k b o hc e⟩) (λ_ _ e=>e) (λ_ _ _ e=>e) (λb ps e=>⟨#[],by rw[e];simp⟩) (λm hm=>?_) (λb u e=>?_) I.bare
 ·obtain⟨f0,f1,f2,f3,f4,f5⟩:=hf b hb
  exact⟨f3,f1,f4,f5⟩
 ·obtain⟨o,es,ep,ho,r⟩:=hm
  exact⟨o,es,ep,k _ o (λz=>(hf _ z).2.1 rfl) ho,r⟩
 ·refine(I.hok b u e).stay (λc v hc q=>k c v ?_ q) (λ_ q=>q) λ_ _ q=>q
  rcases hc with z |z
  ·rw[z];exact nit b u e
  ·exact nit c _ z
end
open PySem.W in
def ad(K:Frag)(x:Str):Addr:=match nsIn K mainGlobals x with |some (some (.ref C))=>C |_=>0
theorem xwm{K:Fg}{x:Str}{C:Addr}(e:PySem.W.nsIn K mainGlobals x=some (some (.ref C))):ad K x=C:=by unfold ad;rw[e]
def xc9(s:Stmt)(j:Nat):Stmt:=match s with
 |.ClassDef _ _ _ b _ _ _ _ _ _ _=>b.getD j (.Pass ⟨0,0,0,0⟩)
 |_=>.Pass ⟨0,0,0,0⟩
end L2
end
section
namespace L2
open PySem PySem.Spec PyProof.Rows M
section
variable {X:Cx}
def xsm(K:Fg):R2:=λx y H Q=>∃a b xs ys,x=.ref a/\y=.ref b/\SqT K H a xs/\SqT K H b ys/\xs.length+ys.length<=sizeLine ∧
 (xs=[]->Q (.ref b) H)/\(xs≠[]->ys=[]->Q (.ref a) H)/\(xs≠[]->ys≠[]->∀p,H p=none->Q (.ref p) (upd H p (.tup (xs++ys))))
theorem xq6:OpR X (binaryOp .Add) (xsm X.K):=by
 intro c s σ H x y v u Q I r p h;obtain⟨a,b,xs,ys,rfl,rfl,G,C,hz,Y,U,O⟩:=h;by_cases f:xs=[]
 ·cases r
  cases p;obtain⟨its,M,p1,_⟩:=I.tuple G;obtain⟨e,r2,Z,_⟩:=I.tuple C;obtain⟨⟨cls,dd,data,sl⟩,w,z,n,hd⟩:=id p1;obtain⟨⟨J,m,o,l⟩,g,j,n2,i⟩:=id Z;simp only at z hd j i;subst z hd j i
  exact concat_meets ⟨_,w,rfl⟩ ⟨_,g,rfl⟩ noFill_tuple_add seq_tuple_add PySem.F.slot_tuple_add PySem.F.entry_tuple_add (PySem.F.args_tuple_add_2 _ _)
   (tuple_addW0 a b its.toArray e.toArray n n2 dd m sl l (by rw[M.nil_iff.mpr f];rfl)) ⟨w,g,⟨.ref b,H,I,rfl,Y f⟩⟩
 ·exact xtz c s σ H _ _ v u Q I r p ⟨a,b,xs,ys,rfl,rfl,G,C,f,hz,U f,O f⟩
end
end L2
end
section
namespace PySem
open Sem (wp)
section
variable {prog:Program}{w:World}{A:Around}{E:Value->Shared->Prop}{s:Shared}
theorem xe9 {a:Addr} {xs:Array Value} {k:Nat} {sl:Array (Option Value)} {name:Str} {Q:Option Value->Shared->Prop}
  (hx:s.heap.get? a=some {cls:=.type "list",dict:=none,data:=.seq xs k,slots:=sl}) (hmiss:typeLookup (.type "list") name=pure none) (hname:(["__module__","__name__","__qualname__","__doc__","__annotations__"]:List Str).contains name=false) (hA:A.handled=none)
  (h:∀h' tk,(∀b o,s.heap.get? b=some o->h'.get? b=some o)->Q none {s with heap:=h',toks:=tk}) (hsz:name.length+100<=sizeLine) :
  wpAny (model prog w) A (getAttr? (.ref a) name) Q E s:=by
 obtain⟨hp,g,d,tk,os⟩:=s;have hT:∀tk',(⟨hp,g,d,tk',os⟩:Shared).TypeIs (.ref a) "list":=λ_=>⟨_,hx,rfl⟩;have f1:=sub_AttributeError;have f3:=F.slot_list_getattribute.lookup;have f4:=F.slot_list_getattribute.bind (.ref a);have f5:=am_list_getattr_none;unfold getAttr? getAttrBy? getAttrBy
 repeat (any_goals (first |assumption |exact hT _ |((with_reducible show wpAny _ _ (call (Value.builtin "list.__getattribute__") _ _) _ _ _);refine call_meets F.slot_list_getattribute (hT _) am_entry_list_getattribute (F.args_list_getattribute_2 _ _) (meets_getattribute_miss_list a xs k sl name _ hmiss hname hsz) ⟨hx,hA,λh' tk' e hx'=>?_⟩) |wp_step))
 obtain⟨t',u',he⟩:=hx'.there;show wpAny _ _ (getattributeRaised _ _ _ _ _ _ _) _ _ _;unfold getattributeRaised
 repeat (any_goals (first |assumption |wp_step))
 all_goals first |exact h _ _ hx'.keeps |skip
end
end PySem
namespace L2
open PySem PySem.Spec PyProof.Rows
theorem xc6:plainId "dict.update.loop"=true:=by walk_at"k"
theorem xev:entryFor table "dict.update.loop"=some Builtin.«dict.update.loop»:=entryFor_of_fast (by kernel_rfl)
section
variable {prog:Program}{w:World}{A:Around}{K:Type}[DecidableEq K]{knd:KeyKind prog w K}
def PairsAt(knd:KeyKind prog w K)(h:Heap):List Value->List (K×Value)->Prop
 |[],[]=>True
 |it::its,p::ps=>(∃a key,it=.ref a/\h.IsTuple a #[key,p.2]/\knd.is p.1 key=true)/\PairsAt knd h its ps
 |_,_=>False
theorem PairsAt.keep{h h':Heap}:∀{its:List Value} {ps:List (K×Value)},PairsAt knd h its ps->(∀a xs,h.IsTuple a xs->h'.IsTuple a xs)->PairsAt knd h' its ps
 |[],[],_,_=>trivial
 |it::its,p::ps,⟨⟨a,b,e,f,c⟩,r⟩,k=>⟨⟨a,b,e,k _ _ f,c⟩,PairsAt.keep r k⟩
 |[],_::_,h,_=>h.elim
 |_::_,[],h,_=>h.elim
theorem xku{h:Heap}{a d:Addr}{xs:Array Value}{kvs:List (K×Value)}(g:h.IsTuple a xs)(hd:h.DictOf knd d kvs):a≠d:=λe=>by
 subst e;obtain⟨o,i,j,_⟩:=g;obtain⟨t,_,_,f,c,_⟩:=hd;have b:=c.1;have:o=t:=qC (i.symm.trans f);subst this;rw[j]at b;exact absurd (Value.type.inj b) (by decide)
theorem xf6{h:Heap}{a I l:Addr}{i:Nat}{xs:Array Value}(f:h.IsTuple a xs)(hd:h.IsListIter I l i):a≠I:=λe=>by
 subst e;obtain⟨o,g,j,_⟩:=f;obtain⟨t,c,b,_⟩:=hd;have:o=t:=qC (g.symm.trans c);subst this;rw[j]at b;exact absurd (Value.type.inj b) (by decide)
theorem xqs {R:Result->Shared->Prop} {I l d:Addr} {its:List Value} {ps:List (K×Value)} (hh:A.in1.handled=none) (a0:l≠I) (a7:l≠d) (G:I≠d) :
    ∀(k i:Nat) (s:Shared) (f:List (K×Value)),its.length-i=k->i<=its.length->s.heap.IsListIter I l i->s.heap.IsList l its.toArray->s.heap.DictOf knd d f->PairsAt knd s.heap (its.drop i) (ps.drop i)->f.length+(its.length-i)<=sizeLine->
    (∀h' tk,h'.DictOf knd d (merged f (ps.drop i))->(∀b o,b≠d->b≠I->s.heap.get? b=some o->h'.get? b=some o)->R (.ok (.ret .none)) {s with heap:=h',toks:=tk})->
    codeAny (model prog w) A (.builtin "dict.update.loop" ⟨[.ref d,.ref I,rawInt i,.none],[]⟩) R s:=by
  intro k
  induction k with
  | zero=>
    intro i s f hk hi g hl hd j hsz hR;have C:i=its.length:=by omega
    have W:=Walks.list (prog:=prog) (w:=w) (A:=A.in1) hh I l a0 its.toArray;refine codeAny_builtin xev ?_;rw[Around.under_plainId xc6 _];show wpAny _ A.in1 (pyNext (.ref I) >>= _) _ _ s
    refine wpAny_bind (W.done s _ _ (by have e:its.toArray.size = i := by simp[C]
                                        rw[e];exact⟨g,hl⟩) λh' tk c=>?_)
    show wpAny _ _ (Builtin.Dict.addKeywords d [] >>= _) _ _ _;refine zX (z5 (z5 ?_))
    have a5:ps.drop i=[]:=by
      rw[C,List.drop_length]at j;rw[C]
      cases hq:ps.drop its.length with
      |nil=>rfl
      |cons p r=>rw[hq]at j;exact j.elim
    refine hR h' tk ?_ λb o J n e=>c b o (by simpa using n) e;rw[a5];exact hd.at λo e=>c d o (by simpa using (Ne.symm G)) e
  | succ k ih=>
    intro i s f hk hi g hl hd j hsz hR;have m:i<its.length:=by omega
    have W:=Walks.list (prog:=prog) (w:=w) (A:=A.in1) hh I l a0 its.toArray;have a8:its.drop i=its[i]::its.drop (i+1):=List.drop_eq_getElem_cons m;rw[a8]at j
    obtain⟨p,r,z⟩:∃p r,ps.drop i=p::r:=by
      cases hq:ps.drop i with
      |nil=>rw[hq]at j;exact j.elim
      |cons p r=>exact⟨p,r,rfl⟩
    have Y:ps.drop (i+1)=r:=by rw[<- List.tail_drop,z];rfl
    rw[z]at j;obtain⟨⟨a,x,ea,U,a1⟩,y⟩:=j;refine codeAny_builtin xev ?_;rw[Around.under_plainId xc6 _];show wpAny _ A.in1 (pyNext (.ref I) >>= _) _ _ s;refine zX (W.item i s _ _ (by simpa using m) ⟨g,hl⟩ λv h' tk hP u c=>?_)
    have hv:v=.ref a:=by
      have:its[i]?=some v:=by simpa using hP
      rw[zGA m,ea]at this;exact(qC this).symm
    subst hv;have O:h'.IsTuple a #[x,p.2]:=U.at λo e=>c a o (by simpa using xf6 U g) e;have a3:h'.DictOf knd d f:=hd.at λo e=>c d o (by simpa using (Ne.symm G)) e;obtain⟨oa,Z,ab,na,a9⟩:=id O;refine zX (qL (zX (wpAny_tryCatch ?_)));unfold Builtin.Dict.pairItems;refine zX (wpAny_typeOf ⟨oa,Z,ab⟩ ?_);rw[if_pos (by decide)];refine zX (wpAny_seqItems Z a9 (z5 ?_));show wpAny _ _ (holding [x,p.2] (dictSet d x p.2)) _ _ _;refine qL (wpAny_dictSet_pairs a1 a3 (λh2 aa h=>?_) (by omega));have M:h2.IsListIter I l (i+1)/\h2.IsList l its.toArray:=⟨u.1.at λo e=>(h.2 I G).trans e,u.2.at λo e=>(h.2 l a7).trans e⟩;refine z5 ⟨plainId_quiet xc6 _,ih (i+1) _ _ (by omega) m M.1 M.2 aa ?_ ?_ λh3 a4 a2 a6=>?_⟩
    · rw[Y]
      exact y.keep λb xs J=>by
        have h1:h'.IsTuple b xs:=J.at λo e=>c b o (by simpa using xf6 J g) e;exact h1.at λo e=>(h.2 b (xku h1 a3)).trans e
    · have:=stored_length_le f p.1 p.2
      omega
    · refine hR h3 a4 ?_ λb o J n e=>a6 b o J n ((h.2 b J).trans (c b o (by simpa using n) e))
      rw[z];rw[Y]at a2;exact a2
end
theorem xjx:typeLookup (.type "list") "keys"=pure none:=am_miss_of_fast (by kernel_rfl)
section
variable {prog:Program}{w:World}{A:Around}{E:Value->Shared->Prop}{s:Shared}{K:Type}[DecidableEq K]{knd:KeyKind prog w K}
theorem xkd {l:Addr} {its:List Value} {n:Nat} {ps:List (K×Value)} {Q:Value->Shared->Prop} (hh:A.handled=none) (hl:s.heap.get? l=some {cls:=.type "list",data:=.seq its.toArray n}) (hp:PairsAt knd s.heap its ps) (hsz:its.length<=sizeLine)
  (h:∀h' tk,h'.DictOf knd s.heap.objs.size (merged [] ps)->(∀b o,s.heap.get? b=some o->h'.get? b=some o)->Q (.ref s.heap.objs.size) {s with heap:=h',toks:=tk}) :
  wpAny (model prog w) A (call (.type "dict") [.ref l]) Q E s:=by
 refine callType_codes (Q₁:=λobj s₁=>obj=.ref s.heap.objs.size/\s₁={s with heap:=s.heap.push {cls:=.type "dict",data:=.dict #[]}}) F.kt_called_dict (F.kt_typeCall_dict_1 _) F.entry_dict_init (kt_code_dict_new _ ⟨rfl,rfl⟩) ?_;rintro obj s₁ ⟨rfl,rfl⟩;have hnew:(s.heap.push {cls:=.type "dict",data:=.dict #[]}).DictOf knd s.heap.objs.size []:=Heap.DictOf.new s.heap;have ext0:∀b o,s.heap.get? b=some o->(s.heap.push {cls:=.type "dict",data:=.dict #[]}).get? b=some o:=λb o e=>zPO _ e;have hl0:=ext0 _ _ hl;have hT:(⟨s.heap.push {cls:=.type "dict",data:=.dict #[]},s.gens,s.drawn,s.toks,s.os⟩:Shared).TypeIs (.ref l) "list":=⟨_,hl0,rfl⟩;have hdl:l≠s.heap.objs.size:=λe=>absurd (z6 hl) (by rw[e];exact qH _);refine⟨hnew.typeIs,F.args_dict_init_2 _ _,?_⟩;unfold Builtin.«dict.__init__»;refine zX ?_;unfold Builtin.Dict.selfAndRest;refine zX (wpAny_notOrdered_dict hnew.typeIs ?_);show wpAny _ _ (pure (s.heap.objs.size,[Value.ref l])) _ _ _;refine z5 ?_;show wpAny _ _ (Builtin.Dict.updateFrom "dict.__init__" s.heap.objs.size (.ref l) [] .none) _ _ _;unfold Builtin.Dict.updateFrom;refine zX (wpAny_typeOf hT ?_);rw[if_pos (by decide)];refine zX (xe9 (sl:=#[]) hl0 xjx (by walk_at"k") hh (λh1 tk1 k1=>?_) (by walk_at"k"));rw[if_pos (show(none:Option Value).isNone=true from rfl)];refine zX (wpAny_rule ?_);have hl1:=k1 _ _ hl0;have hL1:h1.IsList l its.toArray:=⟨_,hl1,rfl,_,rfl⟩
 refine zX (wpAny_pyIter_list hL1 (z5 ⟨plainId_quiet xc6 _,?_⟩));have hsz1:s.heap.objs.size<h1.objs.size:=z6 (k1 _ _ (z9 _ rfl));have hlI:l<h1.objs.size:=z6 hl1;have ext2:∀b o,h1.get? b=some o->(h1.push {cls:=.type "list_iterator",data:=.fields #[.ref l,.int 0 0]}).get? b=some o:=λb o e=>zPO _ e;refine xqs (knd:=knd) (A:=A.in1) (ps:=ps) (l:=l) (d:=s.heap.objs.size) (its:=its) hh (qD hlI) hdl (Nat.ne_of_gt hsz1) its.length 0 _ [] (Nat.sub_zero _) (qO _) ⟨_,z9 _ rfl,rfl,rfl⟩ (hL1.push _) (hnew.at λo e=>ext2 _ _ (k1 _ _ e)) (hp.keep λa xs ha=>ha.at λo e=>ext2 _ _ (k1 _ _ (ext0 _ _ e))) (by simpa using hsz) λh3 tk3 hd3 hk3=>?_;refine⟨rfl,h h3 tk3 hd3 λb o e=>hk3 b o ?_ ?_ (ext2 _ _ (k1 _ _ (ext0 _ _ e)))⟩
 ·exact λz=>absurd (z6 e) (by rw[z];exact qH _)
 ·exact λz=>absurd (z6 e) (by rw[z];exact Nat.not_lt_of_gt hsz1)
end
def PairsV(H:Hp):List V->List (Key×V)->Prop
 |[],[]=>True
 |y::ys,kv::kvs=>(∃b,y=.ref b/\H b=some (.tup [kV kv.1,kv.2]))/\PairsV H ys kvs
 |_,_=>False
theorem PairsV.same{H a:Hp}(s:∀b us,H b=some (.tup us)->a b=some (.tup us)):∀{ys:List V} {kvs:List (Key×V)},PairsV H ys kvs->PairsV a ys kvs
 |[],[],_=>trivial
 |y::ys,f::kvs,⟨⟨b,e,c⟩,r⟩=>⟨⟨b,e,s _ _ c⟩,PairsV.same s r⟩
 |[],_::_,h=>h.elim
 |_::_,[],h=>h.elim
theorem PairsV.append{H:Hp}:∀{ys zs:List V} {kvs more:List (Key×V)},PairsV H ys kvs->PairsV H zs more->PairsV H (ys++zs) (kvs++more)
 |[],zs,[],more,_,k=>k
 |y::ys,zs,a::kvs,more,⟨h,r⟩,k=>⟨h,PairsV.append r k⟩
 |[],_,_::_,_,h,_=>h.elim
 |_::_,_,[],_,h,_=>h.elim
theorem PairsV.length{H:Hp}:∀{ys:List V} {kvs:List (Key×V)},PairsV H ys kvs->ys.length=kvs.length
 |[],[],_=>rfl
 |y::ys,a::kvs,⟨_,r⟩=>by rw[List.length_cons,List.length_cons,PairsV.length r]
 |[],_::_,h=>h.elim
 |_::_,[],h=>h.elim
section
variable {X:Cx}
theorem xmm{a:List (Addr×Obj)}{σ:St}{H:Hp}{s:Shared}(I:Inv X a σ H s):∀{ys:List V} {its:List Value} {kvs:List (Key×V)},Vals ys its->PairsV H ys kvs->∃ps,KV kvs ps/\PairsAt (xbu X.prog X.w) s.heap its ps
 |[],_,[],r,_=>by cases r;exact⟨[],.nil,trivial⟩
 | y::ys,_,j::kvs,r,⟨⟨b,o,n⟩,rest⟩=>by
  subst o
  cases r with
  |cons h t=>
   obtain⟨ps,m,l⟩:=xmm I t rest;obtain⟨c,g,i,_⟩:=I.tuple (zB (K:=X.K) n);obtain⟨f,e,rfl,u,p⟩:=g.two;exact⟨(j.1,e)::ps,.cons ⟨rfl,p⟩ m,⟨b,f,h,i,xnt u⟩,l⟩
 |[],_,_::_,_,h=>h.elim
 |_::_,_,[],_,h=>h.elim
theorem xcq(hc:X.calm=true):xd9 X (.type "dict") (λxs H Q=>∃a ys,∃kvs:List (Key×V),xs=[.ref a]/\H a=some (.lst ys)/\PairsV H ys kvs/\∀p,H p=none->Q (.ref p) (upd H p (.dK (xdc [] kvs)))):=by
 intro pins s σ H xs us Q I r h;obtain⟨a,ys,kvs,rfl,ha,hp,q⟩:=h;obtain⟨u,rfl,ru⟩:=xf5 r;obtain rfl:u=.ref a:=ru;obtain⟨hz,its,n,rv,hl⟩:=(show ObjOk X.prog X.w H s.heap a (.lst ys) from I.hok a _ ha);obtain⟨ps,hk,hpa⟩:=xmm I rv hp;have hyl:=hp.length;refine xkd (knd:=xbu X.prog X.w) (I.ok.hd hc) hl hpa (by rw[<- rv.length];exact hz) λh' tk dd' k'=>?_
 have hz':(xdc [] kvs).length<=sizeLine:=by
  have:=xe7 kvs [];rw[List.length_nil]at this;omega
 exact⟨.ref s.heap.objs.size,_,I.laid (a:=s.heap.objs.size) (o:=.dK (xdc [] kvs)) (t':=tk) k' (zZ _) (xkc hz' (beq_eq_false_iff_ne.mpr (Ne.symm (qD I.big))) (hk.merge .nil) dd'),rfl,q _ (I.hok.fresh (zZ _))⟩
end
end L2
end
section
namespace L2
open PySem PySem.Spec PySem.W PyProof.Rows M
theorem KV.get2{κ:Type}{kvs:List (κ×V)}{vs:List (κ×Value)}(r:KV kvs vs){i:Nat}{q:κ×Value}(a:vs[i]?=some q):∃v,kvs[i]?=some (q.1,v)/\RelV v q.2:=by
 unfold KV at r
 induction r generalizing i with
 |nil=>simp at a
 | @cons p c as bs h t b=>
  cases i with
  |zero=>
   simp at a;subst a;exact⟨p.2,by simp[<- h.1],h.2⟩
  |succ i=>exact b (by simpa using a)
end L2
end
section
namespace M
open PySem L2
inductive Vk(ks:List Kn):Str->D->Prop
 |num (i:Int) (h:Nm i):Vk ks (S "num") (.int i)
 |rc {x:Str} {k:Kn} {ws:List D} (hk:kAt ks x=some k) (hr:k.rc=true) (hl:ws.length=k.parts.length) (h:∀(i:Nat) (w:D) (p:Str×Str),ws[i]?=some w->k.parts[i]?=some p->Vk ks p.2 w):Vk ks x (.tup [.str x,.tup ws])
 |al {x:Str} {k:Kn} {p:Str×Str} {w:D} (hk:kAt ks x=some k) (hr:k.rc=false) (hp:p∈k.parts) (h:Vk ks p.2 w):Vk ks x (.tup [.str x,.str p.1,w])
theorem xg8{ks:List Kn}(b:KWf ks){x:Str}{v:D}(c:x=S "num")(h:Vk ks x v):∃i,Nm i/\v=.int i:=by
 cases h with
 |num i hi=>exact⟨i,hi,rfl⟩
 |rc a=>rw[c,b.num]at a;cases a
 |al a=>rw[c,b.num]at a;cases a
theorem xsc{ks:List Kn}(e:KWf ks){x:Str}{k:Kn}{v:D}(c:kAt ks x=some k)(f:k.rc=true)(h:Vk ks x v):∃ws,ws.length=k.parts.length/\(∀(i:Nat) w p,ws[i]?=some w->k.parts[i]?=some p->Vk ks p.2 w)/\v=.tup [.str x,.tup ws]:=by
 cases h with
 |num i hi=>rw[e.num]at c;cases c
 |rc b a g h=>
  rw[c]at b;cases b;exact⟨_,g,h,rfl⟩
 |al b a=>
  rw[c]at b;cases b;rw[f]at a;cases a
theorem xsd{ks:List Kn}(e:KWf ks){x:Str}{k:Kn}{v:D}(c:kAt ks x=some k)(f:k.rc=false)(h:Vk ks x v):∃p∈k.parts,∃w,Vk ks p.2 w/\v=.tup [.str x,.str p.1,w]:=by
 cases h with
 |num i hi=>rw[e.num]at c;cases c
 |rc b a=>
  rw[c]at b;cases b;rw[f]at a;cases a
 |@al _ _ p w b a g h=>
  rw[c]at b;cases b;exact⟨p,g,w,h,rfl⟩
theorem xkp{ks:List Kn}(a:KWf ks):∀(m:Nat) (x:Str) (v:D),KIn ks m x->Vk ks x v->v.deep<=2*m
 | 0,x,v,b,h=>by
  rcases b.look a with⟨e,_⟩ |⟨j,k,e,_⟩
  ·obtain⟨i,_,rfl⟩:=xg8 a e h
   exact qO _
  ·cases e
 | m + 1,x,v,b,h=>by
  rcases b.look a with⟨e,_⟩ |⟨j,k,e,c,hn,r,n⟩
  ·obtain⟨i,_,rfl⟩:=xg8 a e h
   exact qO _
  ·cases e
   cases o:k.rc with
   | true=>
    obtain⟨ws,s,g,rfl⟩:=xsc a c o h
    have:xgt ws<=2*m:=xen λd hd=>by
     obtain⟨i,hi,e⟩:=zMI hd;have f:i<k.parts.length:=by omega
     exact xkp a m _ d (n _ (qP f)) (g i d k.parts[i] (by rw[<- e];exact zGA hi) (zGA f))
    show max 0 (max (xgt ws+1) 0)+1<=2*(m+1);omega
   |false=>
    obtain⟨p,l,w,g,rfl⟩:=xsd a c o h;have:=xkp a m _ w (n p l) g;show max 0 (max 0 (max w.deep 0))+1<=2*(m+1);omega
def FitB(ks:List Kn)(bs:List (Str×Str))(env:En):Prop:=∀p∈bs,∃v,env p.1=some v/\Vk ks p.2 v
theorem FitB.put{ks:List Kn}{bs:List (Str×Str)}{env:En}{y k:Str}{v:D}(h:FitB ks bs env)(c:∀p∈bs,p.1≠y)(e:Vk ks k v):FitB ks (bs++[(y,k)]) (env.put y v):=λp a=>by
 unfold En.put;rcases zMA a with a |a
 ·obtain⟨b,g,f⟩:=h p a
  exact⟨b,by rw[if_neg (c p a)];exact g,f⟩
 ·rw[zMO a]
  exact⟨v,by rw[if_pos rfl],e⟩
def Sg(s:Str):Prop:=s=S "+"\/s=S "-"\/s=S "*"\/s=S "<"\/s=S "="
def SgD(d:D):Prop:=∀s a b,d=tOpD s a b->Sg s
def Evs(ks:List Kn):Nat->En->D->D->Prop
 |0=>xew
 |n+1=>λenv d v=>xew env d v\/(NodeEv ks (Evs ks n) env d v/\SgD d)
theorem All2.imp3{α β:Type}{R c:α->β->Prop}(k:∀a b,R a b->c a b):∀{as:List α} {bs:List β},All2 R as bs->All2 c as bs
 |_,_,.nil=>.nil
 |_,_,.cons h t=>.cons (k _ _ h) (All2.imp3 k t)
theorem NodeEv.mono{ks:List Kn}{R n:En->D->D->Prop}(k:∀env d v,R env d v->n env d v){env:En}{d v:D}(h:NodeEv ks R env d v):NodeEv ks n env d v:=by
 rcases h with⟨s,a,b,x,y,g,l,r⟩ |⟨j,es,vs,m,g,r⟩ |⟨a,j,vs,f,o,i,g,r⟩ |⟨j,t,a,x,g,r⟩ |⟨a,rs,j,t,x,y,e,m,g,p,l,r⟩ |⟨a,b,c,x,g,l,r⟩
 ·exact .inl ⟨s,a,b,x,y,k _ _ _ g,k _ _ _ l,r⟩
 ·exact .inr (.inl ⟨j,es,vs,m,g.imp3 (k env),r⟩)
 ·exact .inr (.inr (.inl ⟨a,j,vs,f,o,i,k _ _ _ g,r⟩))
 ·exact .inr (.inr (.inr (.inl ⟨j,t,a,x,k _ _ _ g,r⟩)))
 ·exact .inr (.inr (.inr (.inr (.inl ⟨a,rs,j,t,x,y,e,m,k _ _ _ g,p,k _ _ _ l,r⟩))))
 ·exact .inr (.inr (.inr (.inr (.inr ⟨a,b,c,x,k _ _ _ g,k _ _ _ l,r⟩))))
theorem xmz{ks:List Kn}:∀(n:Nat) (env:En) (d v:D),Evs ks n env d v->Ev ks n env d v
 |0,_,_,_,h=>h
 |n+1,env,d,v,h=>by
  rcases h with h |⟨h,_⟩
  ·exact .inl h
  ·exact .inr (h.mono (xmz n))
theorem xnn{h:Str}{r:List D}(c:h≠S "op"):SgD (.tup (.str h::r)):=λs a b e=>by
 have g:=D.tup.inj e;have f:=(zS g).1;exact absurd (D.str.inj f) c
theorem xw5{s:Str}{a b:D}(h:Sg s):SgD (tOpD s a b):=λs' i g e=>by
 have f:=D.tup.inj e;have c:=(zS (zS f).2).1;rw[<- D.str.inj c];exact h
def TmOk(ks:List Kn)(n:Nat)(bs:List (Str×Str))(d:D)(x:Str):Prop:=∀env,FitB ks bs env->∃v,Evs ks n env d v/\Vk ks x v
theorem xp6{ks:List Kn}{n:Nat}{env:En}{d v:D}(h:xew env d v):Evs ks n env d v:=by
 cases n with
 |zero=>exact h
 |succ n=>exact .inl h
theorem xuu{ks:List Kn}{n:Nat}{bs:List (Str×Str)}{i:Int}(h:Nm i):TmOk ks n bs (tNum i) (S "num"):=λenv _=>⟨.int i,xp6 (.inl ⟨i,rfl,rfl⟩),.num i h⟩
theorem xuw{ks:List Kn}{n:Nat}{bs:List (Str×Str)}{y x:Str}(h:(y,x)∈bs):TmOk ks n bs (tBox y) x:=λenv a=>by
 obtain⟨v,c,b⟩:=a _ h;exact⟨v,xp6 (.inr ⟨y,c,rfl⟩),b⟩
theorem xwr{ks:List Kn}(c:KWf ks){n:Nat}{bs:List (Str×Str)}{s:Str}{a b:D}(hs:Sg s)(m:TmOk ks n bs a (S "num"))(l:TmOk ks n bs b (S "num")):TmOk ks (n+1) bs (tOpD s a b) (S "num"):=λenv e=>by
 obtain⟨u,p,g⟩:=m env e;obtain⟨v,o,f⟩:=l env e;obtain⟨i,hi,rfl⟩:=xg8 c rfl g;obtain⟨j,h,rfl⟩:=xg8 c rfl f;exact⟨_,.inr ⟨.inl ⟨s,a,b,i,j,p,o,hi,h,rfl,rfl⟩,xw5 hs⟩,.num _ (xvy s i j)⟩
theorem xn5{ks:List Kn}{n:Nat}{bs:List (Str×Str)}{env:En}(c:FitB ks bs env):∀{es:List D} {ps:List (Str×Str)},All2 (λe (p:Str×Str)=>TmOk ks n bs e p.2) es ps->∃vs,All2 (Evs ks n env) es vs/\vs.length=ps.length/\∀(i:Nat) w p,vs[i]?=some w->ps[i]?=some p->Vk ks p.2 w
 |_,_,.nil=>⟨[],.nil,rfl,λi w p h=>by simp at h⟩
 | _,_,.cons h t=>by
  obtain⟨v,m,l⟩:=h env c;obtain⟨vs,j,g,f⟩:=xn5 c t;refine⟨v::vs,.cons m j,by rw[List.length_cons,List.length_cons,g],λi w p a b=>?_⟩
  cases i with
  |zero=>
   simp at a b;subst a b;exact l
  |succ i=>exact f i w p (by simpa using a) (by simpa using b)
theorem xut{ks:List Kn}{n:Nat}{bs:List (Str×Str)}{x:Str}{k:Kn}{es:List D}(c:kAt ks x=some k)(a:k.rc=true)(b:k.parts.length<=1000)(h:All2 (λe (p:Str×Str)=>TmOk ks n bs e p.2) es k.parts):TmOk ks (n+1) bs (tRec x es) x:=λenv f=>by
 obtain⟨vs,j,i,g⟩:=xn5 f h;exact⟨_,.inr ⟨.inr (.inl ⟨x,es,vs,by rw[h.length];exact b,j,rfl,rfl⟩),xnn (by walk_at"k")⟩,.rc c a i g⟩
theorem xj7{f:Str}:∀{l:List Str} {i:Nat},l.Nodup->l[i]?=some f->l.findIdx? (λz=>decide (z=f))=some i
 |[],i,_,h=>by simp at h
 |y::l,0,_,h=>by
  simp at h;subst h;simp[List.findIdx?_cons]
 |y::l,i+1,nd,h=>by
  have b:f∈l:=zMG (by simpa using h);have a:¬y=f:=λe=>by subst e;exact(List.nodup_cons.mp nd).1 b
  rw[List.findIdx?_cons,zDF a];have:=xj7 (l:=l) (i:=i) (List.nodup_cons.mp nd).2 (by simpa using h);simp[this]
theorem xuv{ks:List Kn}(f:KWf ks){n:Nat}{bs:List (Str×Str)}{y:Str}{k:Kn}{a:D}{p:Str×Str}(c:kAt ks y=some k)(l:k.rc=true)(m:p∈k.parts)(h:TmOk ks n bs a y):TmOk ks (n+1) bs (tGet a p.1) p.2:=λenv r=>by
 obtain⟨v,u,s⟩:=h env r;obtain⟨ws,w,j,rfl⟩:=xsc f c l s;obtain⟨i,hi,e⟩:=zMI m;have b:i<ws.length:=by omega
 have o:=zMF c;have g:k.parts[i]?=some p:=by rw[<- e];exact zGA hi
 exact⟨ws[i],.inr ⟨.inr (.inr (.inl ⟨a,y,ws,p.1,k,i,u,c,xj7 (f.pnd k o) (by rw[zGM,g];rfl),zGA b,rfl⟩)),xnn (by walk_at"k")⟩,j i _ p (zGA b) g⟩
theorem xus{ks:List Kn}{n:Nat}{bs:List (Str×Str)}{x:Str}{k:Kn}{a:D}{p:Str×Str}(e:kAt ks x=some k)(b:k.rc=false)(c:p∈k.parts)(h:TmOk ks n bs a p.2):TmOk ks (n+1) bs (tTag x p.1 a) x:=λenv f=>by
 obtain⟨v,i,g⟩:=h env f;exact⟨_,.inr ⟨.inr (.inr (.inr (.inl ⟨x,p.1,a,v,i,rfl,rfl⟩))),xnn (by walk_at"k")⟩,.al e b c g⟩
theorem xs7 {ks:List Kn} (c:KWf ks) {n:Nat} {bs:List (Str×Str)} {x y:Str} {k:Kn} {a:D} {rs:List (Str×Str×D)} (u:kAt ks y=some k) (l:k.rc=false) (G:TmOk ks n bs a y) (s:rs.length<=1000) (nd:(rs.map (·.1)).Nodup)
  (h:∀p∈k.parts,∃z e,(p.1,z,e)∈rs/\(∀q∈bs,q.1≠z)/\TmOk ks n (bs++[(z,p.2)]) e x):TmOk ks (n+1) bs (xne a rs) x:=λenv b=>by
 obtain⟨v,O,M⟩:=G env b;obtain⟨p,m,w,j,rfl⟩:=xsd c u l M;obtain⟨z,e,o,hz,C⟩:=h p m;obtain⟨g,J,I⟩:=C _ (b.put hz j);obtain⟨i,hi,U⟩:=zMI o;have:=xel (f:=λr:Str×Str×D=>r.1) (xs:=rs) (i:=i) (a:=(p.1,z,e)) nd (by rw[<- U];exact zGA hi);exact⟨g,.inr ⟨.inr (.inr (.inr (.inr (.inl ⟨a,rs,y,p.1,w,z,e,s,O,this,J,rfl⟩)))),xnn (by walk_at"k")⟩,I⟩
theorem xws{ks:List Kn}(j:KWf ks){n:Nat}{bs:List (Str×Str)}{x:Str}{a b c:D}(p:TmOk ks n bs a (S "num"))(o:TmOk ks n bs b x)(m:TmOk ks n bs c x):TmOk ks (n+1) bs (tIfD a b c) x:=λenv f=>by
 obtain⟨u,h,l⟩:=p env f;obtain⟨i,hi,rfl⟩:=xg8 j rfl l;by_cases h0:i=0
 ·obtain⟨v,g,e⟩:=m env f
  exact⟨v,.inr ⟨.inr (.inr (.inr (.inr (.inr ⟨a,b,c,i,h,by rw[if_pos h0];exact g,rfl⟩)))),xnn (by walk_at"k")⟩,e⟩
 ·obtain⟨v,g,e⟩:=o env f
  exact⟨v,.inr ⟨.inr (.inr (.inr (.inr (.inr ⟨a,b,c,i,h,by rw[if_neg h0];exact g,rfl⟩)))),xnn (by walk_at"k")⟩,e⟩
def smS(f:Str->Int)(k:Kn):Int:=if k.rc=true then (k.parts.map λp=>f p.2).sum else match k.parts with |[]=>0 |p::_=>f p.2
def hiS(f:Str->Int)(k:Kn):Int:=if k.rc=true then maxD (k.parts.map λp=>f p.2) else match k.parts with |[]=>0 |p::_=>f p.2
theorem xi1{f g:Str->Int}{k:Kn}(h:∀p∈k.parts,f p.2=g p.2):smS f k=smS g k:=by
 unfold smS;rw[List.map_congr_left h]
 cases a:k.parts with
 |nil=>rfl
 |cons p r=>
  show(if k.rc=true then _ else f p.2)=(if k.rc=true then _ else g p.2);rw[h p (by rw[a];simp)]
theorem xj8{f g:Str->Int}{k:Kn}(h:∀p∈k.parts,f p.2=g p.2):hiS f k=hiS g k:=by
 unfold hiS;rw[List.map_congr_left h]
 cases a:k.parts with
 |nil=>rfl
 |cons p r=>
  show(if k.rc=true then _ else f p.2)=(if k.rc=true then _ else g p.2);rw[h p (by rw[a];simp)]
def smF:Nat->List Kn->Str->Int
 |0,_,_=>1
 |n+1,ks,x=>match kAt ks x with
  |none=>1
  |some k=>1+smS (smF n ks) k
def hiF:Nat->List Kn->Str->Int
 |0,_,_=>1
 |n+1,ks,x=>match kAt ks x with
  |none=>1
  |some k=>1+hiS (hiF n ks) k
theorem xeh{n:Nat}{ks:List Kn}{x:Str}(h:kAt ks x=none):smF (n+1) ks x=1:=by unfold smF;rw[h]
theorem xf0{n:Nat}{ks:List Kn}{x:Str}{k:Kn}(h:kAt ks x=some k):smF (n+1) ks x=1+smS (smF n ks) k:=by
 show(match kAt ks x with |none=>1 |some k=>1+smS (smF n ks) k)=_;rw[h]
theorem xek{n:Nat}{ks:List Kn}{x:Str}(h:kAt ks x=none):hiF (n+1) ks x=1:=by unfold hiF;rw[h]
theorem xf3{n:Nat}{ks:List Kn}{x:Str}{k:Kn}(h:kAt ks x=some k):hiF (n+1) ks x=1+hiS (hiF n ks) k:=by
 show(match kAt ks x with |none=>1 |some k=>1+hiS (hiF n ks) k)=_;rw[h]
theorem xve{ks:List Kn}(f:KWf ks):∀(m:Nat) (x:Str),KIn ks m x->smF (m+2) ks x=smF (m+1) ks x/\hiF (m+2) ks x=hiF (m+1) ks x:=by
 intro m
 induction m with
 |zero=>
  intro x h;rcases h.look f with⟨_,e⟩ |⟨j,k,c,_⟩
  ·exact⟨(xeh e).trans (xeh e).symm,(xek e).trans (xek e).symm⟩
  ·cases c
 | succ m g=>
  intro x h;rcases h.look f with⟨_,e⟩ |⟨j,k,c,b,hn,l,i⟩
  ·exact⟨(xeh e).trans (xeh e).symm,(xek e).trans (xek e).symm⟩
  ·cases c
   rw[xf0 b,xf0 b,xf3 b,xf3 b,xi1 λp a=>(g p.2 (i p a)).1,xj8 λp a=>(g p.2 (i p a)).2];exact⟨rfl,rfl⟩
def smK(ks:List Kn)(x:Str):Int:=smF 7 ks x
def hiK(ks:List Kn)(x:Str):Int:=hiF 7 ks x
theorem xvc{ks:List Kn}(b:KWf ks){m:Nat}{x:Str}(h:KIn ks m x)(c:m<=6):smF (m+1) ks x=smK ks x/\hiF (m+1) ks x=hiK ks x:=by
 have:∀k,smF (m+k+1) ks x=smF (m+1) ks x/\hiF (m+k+1) ks x=hiF (m+1) ks x:=λk=>by
  induction k with
  |zero=>exact⟨rfl,rfl⟩
  |succ k a=>
   have u:=xve b (m+k) x (h.mono (by omega));exact⟨u.1.trans a.1,u.2.trans a.2⟩
 have u:=this (6-m);rw[show m+(6-m)+1=7 by omega]at u;exact⟨u.1.symm,u.2.symm⟩
theorem xom{ks:List Kn}(a:KWf ks):smK ks (S "num")=1/\hiK ks (S "num")=1:=⟨xeh a.num,xek a.num⟩
theorem xvd{ks:List Kn}(wf:KWf ks){x:Str}{k:Kn}(hk:kAt ks x=some k):smK ks x=1+smS (smK ks) k/\hiK ks x=1+hiS (hiK ks) k:=by
 have hm:=zMF hk
 have hx:k.name=x:=by
  have:=zU hk;exact z0 this
 have hin:KIn ks 6 x:=(KIn.of (.inr ⟨k,hm,hx⟩)).mono wf.few;rcases hin.look wf with⟨_,e⟩ |⟨j,k',e0,hk',hn,hm',hp⟩
 ·rw[e]at hk;cases hk
 ·cases e0
  rw[hk]at hk';cases hk';exact⟨(xf0 (n:=6) hk).trans (congrArg (λz=>1+z) (xi1 λp hp'=>(xvc wf (hp p hp') (by omega)).1)),(xf3 (n:=6) hk).trans (congrArg (λz=>1+z) (xj8 λp hp'=>(xvc wf (hp p hp') (by omega)).2))⟩
theorem xi2{ks:List Kn}(g:∀k∈ks,k.parts.length<=5):∀(n:Nat) (x:Str),(1<=smF n ks x/\smF n ks x<=6 ^ n)/\(1<=hiF n ks x/\hiF n ks x<=n+1)
 |0,x=>⟨⟨Int.le_refl _,Int.le_refl _⟩,⟨Int.le_refl _,Int.le_refl _⟩⟩
 | n + 1,x=>by
  have o:(1:Int)<=6 ^ n:=Int.pow_pos (by decide);have m:(6:Int) ^ (n+1)=6*6 ^ n:=by rw[Int.pow_succ,Int.mul_comm]
  cases b:kAt ks x with
  |none=>
   rw[xeh b,xek b];exact⟨⟨Int.le_refl _,by rw[m];omega⟩,Int.le_refl _,by push_cast;omega⟩
  | some k=>
   rw[xf0 b,xf3 b];have j:=g k (zMF b);have f:=λy=>xi2 g n y
   have hs:∀(l:List (Str×Str)),0<=(l.map λp=>smF n ks p.2).sum/\(l.map λp=>smF n ks p.2).sum<=l.length*6 ^ n:=by
    intro l
    induction l with
    |nil=>simp
    |cons a r c=>
     have h:=(f a.2).1;rw[List.map_cons,List.sum_cons,List.length_cons];push_cast;rw[Int.add_mul];omega
   have i:∀(l:List (Str×Str)),0<=maxD (l.map λp=>hiF n ks p.2)/\maxD (l.map λp=>hiF n ks p.2)<=n+1:=by
    intro l
    induction l with
    |nil=>show 0<=(0:Int)/\(0:Int)<=n+1;omega
    |cons a r c=>
     have h:=(f a.2).2;have e:maxD ((a::r).map λp=>hiF n ks p.2)=max (hiF n ks a.2) (maxD (r.map λp=>hiF n ks p.2)):=rfl;rw[e];omega
   have h:=hs k.parts;have w:(k.parts.length:Int)*6 ^ n<=5*6 ^ n:=Int.mul_le_mul_of_nonneg_right (by omega) (by omega);have u:=i k.parts;unfold smS hiS;push_cast
   cases k.rc with
   |true=>
    rw[if_pos rfl,if_pos rfl];refine⟨⟨?_,?_⟩,?_,?_⟩ <;> omega
   | false=>
    rw[if_neg (by decide),if_neg (by decide)]
    cases k.parts with
    |nil=>
     refine⟨⟨?_,?_⟩,?_,?_⟩ <;> dsimp only <;> omega
    |cons p r=>
     have s:=f p.2;refine⟨⟨?_,?_⟩,?_,?_⟩ <;> dsimp only <;> omega
theorem xmc{ks:List Kn}(a:KWf ks)(x:Str):1<=smK ks x/\smK ks x<=279936/\1<=hiK ks x/\hiK ks x<=8:=by
 have:=xi2 a.pts 7 x;have e:(6:Int) ^ 7=279936:=by decide
 unfold smK hiK;omega
end M
end
section
namespace L2
open PySem PySem.Spec PyProof.Rows M
section
variable {X:Cx}
def rEqE(K:Fg):R2:=λx y H Q=>∃a b xs,x=.ref a/\y=.ref b/\SqL K H a xs/\SqL K H b []/\Q (.bl xs.isEmpty) H
theorem xvx(m:X.A.units<cLine):OpR X (compareOp .Eq) (rEqE X.K):=by
 intro f s σ H x y v u Q I o n h;obtain⟨a,b,xs,rfl,rfl,C,z,q⟩:=h;cases o;cases n;obtain⟨its,r,i,_⟩:=I.list C;obtain⟨l,p,g,_⟩:=I.list z;have c:=r.length;have w:=p.length
 cases xs with
 | nil=>
  refine SeqAt.eq_listAt (e:=λ_=>true) i.isList g.isList (by simp only[List.size_toArray];omega) m (λj G J=>?_) ⟨.bl _,H,I,rfl,?_⟩
  ·simp only[List.size_toArray]at G
   simp at c;omega
  ·have:its=[]:=List.eq_nil_of_length_eq_zero (by simpa using c.symm)
   subst this;exact q
 |cons x xs=>
  refine PySem.EqBoolInt.of_rc (SeqAt.RcAt.lists_lengths i.isList g.isList (by simp only[List.size_toArray];simp at c w⊢;omega) m) ⟨.bl _,H,I,rfl,?_⟩;simpa using q
end
end L2
end
section
end
section
end
section
end
section
end
section
end
section
end
section
end
section
end
section
namespace M
open PySem L2
def byN(j:Nat):Str:=ofL [98,121,97+j]
theorem xun{i j:Nat}(h:byN i=byN j):i=j:=by
 have:=congrArg L h;unfold byN at this;rw[xef,xef]at this;simp at this;exact this
def NoBy(x:Str):Prop:=∀j:Nat,x≠byN j
theorem xxf{l:List Nat}(h:l[0]?≠some 98\/l[1]?≠some 121):NoBy (ofL l):=λj e=>by
 have:=congrArg L e;unfold byN at this;rw[xef,xef]at this;subst this;simp at h
theorem xlr{c:Nat}(h:c∈five):c≠98/\c≠121:=by
 revert h;unfold five;simp;omega
theorem xss{cs:List Nat}(h:∀c∈cs,c∈five)(a:Nat)(b:Int)(k:Nat)(t:List Nat)(i:∀c∈t,c∈five):NoBy (ofL (nmA cs a b k++t)):=by
 apply xxf;unfold nmA
 cases g:cs.take a with
 |nil=>
  right;rw[List.nil_append,List.cons_append,List.getElem?_cons_succ];intro e;have f:=zMG e;rcases zMA f with f |f
  ·exact(xlr (h _ (List.mem_of_mem_drop f))).2 rfl
  ·exact(xlr (i _ f)).2 rfl
 |cons c r=>
  left;intro e;simp at e;have:c∈cs.take a:=by rw[g];simp
  exact(xlr (h c (qN this))).1 e
theorem xt5{cs:List Nat}{a:Nat}{b:Int}(e:∀c∈cs,c∈five):∀z∈((List.range 26).map λk=>ofL (nmA cs a b k)),NoBy z:=λz hz=>by
 obtain⟨k,_,rfl⟩:=zMP hz;have:=xss e a b k [] (λ_ h=>nomatch h);rw[List.append_nil]at this;exact this
theorem xt3{cs:List Nat}{a:Nat}{b:Int}(f:∀c∈cs,c∈five):∀z∈((List.range 26).map λk=>ofL (nmB cs a b k)),NoBy z:=λz hz=>by
 obtain⟨k,_,rfl⟩:=zMP hz;unfold nmB;exact xss f a b _ _ λc e=>by rw[List.eq_of_mem_replicate e];decide
theorem xr4{i:Nat}(h:i<8):atI (S "abcdefgh").cps.toList (i:Int)=some (97+i):=by
 have all:∀k,k<8->(S "abcdefgh").cps.toList[k]?=some (97+k):=by walk_at"k"
 exact xav (all i h)
theorem xsb(i:Nat):S "by"++(⟨#[97+i]⟩:Str)=byN i:=by
 apply xqr;rw[xeo,show L (S "by")=[98,121] by walk_at"k"];rfl
def BxAt(H:Hp)(f:Addr)(bv:V)(bs:List (Str×Str)):Prop:=∃bl us,bv=.ref bl/\H bl=some (.lst us)/\RelDs H us (bs.map xlv)/\bl≠f
def xxw(bs:List (Str×Str))(m:Nat):Prop:=∀b∈bs,∀j,j<m->b.1≠byN j
def PNB(ks:List Kn):Prop:=∀k∈ks,∀p∈k.parts,NoBy p.1
structure TIn(H:Hp)(f:Addr)(kv bv:V)(ks:List Kn)(bs:List (Str×Str))(m:Nat):Prop where
 fd:∃p q:Int,H f=some (.lst [.int p,.int q])
 kd:RelD H kv (xee ks)
 wf:KWf ks
 nb:PNB ks
 bx:BxAt H f bv bs
 nd:(bs.map (·.1)).Nodup
 bl:bs.length+m<=30
 fr:xxw bs m
 kn:∀b∈bs,KIn ks 6 b.2
theorem TIn.same{H c:Hp}{f:Addr}{a b:V}{ks:List Kn}{bs:List (Str×Str)}{m:Nat}(h:TIn H f a b ks bs m)(s:Same H c):TIn c f a b ks bs m:=by
 obtain⟨p,q,i⟩:=h.fd;obtain⟨l,us,e,j,g,n⟩:=h.bx;exact⟨⟨p,q,s _ _ i⟩,h.kd.same s _,h.wf,h.nb,⟨l,us,e,s _ _ j,g.same s _,n⟩,h.nd,h.bl,h.fr,h.kn⟩
theorem TIn.fed{H c:Hp}{f:Addr}{a b:V}{ks:List Kn}{bs:List (Str×Str)}{m:Nat}(h:TIn H f a b ks bs m)(s:Fed f H c):TIn c f a b ks bs m:=by
 obtain⟨j,us,e,i,g,n⟩:=h.bx;exact⟨s.2,h.kd.tups (xal h.fd s) _,h.wf,h.nb,⟨j,us,e,s.1 _ _ i n,g.tups (xal h.fd s) _,n⟩,h.nd,h.bl,h.fr,h.kn⟩
theorem TIn.down{H:Hp}{f:Addr}{c e:V}{ks:List Kn}{bs:List (Str×Str)}{m a:Nat}(h:TIn H f c e ks bs m)(l:a<=m):TIn H f c e ks bs a:=
 ⟨h.fd,h.kd,h.wf,h.nb,h.bx,h.nd,by have:=h.bl;omega,λb g j i=>h.fr b g j (by omega),h.kn⟩
end M
end
section
set_option maxHeartbeats 400000
end
section
namespace L2
open PySem PySem.Spec PyProof.Rows M
section
variable {X:Cx}{K:Fg}
theorem xa1{b:Expr}(e:X.K=K){l:Expr}{a:TE}(c:PE X l a):PI X b l (iTup K a):=by subst e;exact xvl c
theorem xbm{b:Expr}(e:X.K=K){l:Expr}{a:TE}(c:PE X l a):PI X b l (xwc K a):=by subst e;exact xtp c
theorem xbx(a:X.K=K):xd9 X (.type "tuple") (λxs H Q=>∃p ys,xs=[.ref p]/\((SqL K H p ys/\∀l,H l=none->Q (.ref l) (upd H l (.tup ys)))\/(SqT K H p ys/\Q (.ref p) H))):=by subst a;exact xip
theorem xmw(a:X.K=K):OpR X (binaryOp .Add) (xsm K):=by subst a;exact xq6
end
section
variable {X:Cx}
theorem va(i:Nat){x:Str}{p:Pos}{es:List Expr}{t:TA}(c:PA X es t)(e:X.N[i]?=some x:=by rfl)(b:Vis X.env.scope x:=by first |exact Or.inl rfl |exact Or.inr (Or.inl rfl) |exact Or.inr (Or.inr rfl))(hd:(x == ("__debug__":Str))=false:=by decide)(a:(x == ("__classdict__":Str))=false:=by decide):PA X (.Name x p::es) (xnd (tVar i) t):=pc (pv i e b hd a) c zsn
theorem v1(i:Nat){x:Str}{p:Pos}(c:X.N[i]?=some x:=by rfl)(b:Vis X.env.scope x:=by first |exact Or.inl rfl |exact Or.inr (Or.inl rfl) |exact Or.inr (Or.inr rfl))(hd:(x == ("__debug__":Str))=false:=by decide)(a:(x == ("__classdict__":Str))=false:=by decide):PA X [.Name x p] (xnd (tVar i) tNil):=va i pN c b hd a
theorem psn(i:Nat){x:Str}{e:Expr}{b:TE}{pos a:Pos}(h:X.N.Nodup)(g:PE X e b)(hi:X.N[i]?=some x:=by rfl)(c:Loc X.env.scope x:=by first |exact Or.inl rfl |exact Or.inr rfl)(hs:swapsWith e (some (.Name x a)) pos.line X.env=pure false:=by rfl)(f:X.fn x=true\/X.env.scope.names.lookup x=some .local:=by first |exact .inl rfl |exact .inr rfl |assumption):PS X (.Assign [.Name x a] e pos) (tAsg b (xfl i)):=xvk h hi c g hs f
theorem pgn(i:Nat){x:Str}{pos:Pos}(c:X.N.Nodup)(hi:X.N[i]?=some x:=by rfl)(a:Loc X.env.scope x:=by first |exact Or.inl rfl |exact Or.inr rfl)(b:X.fn x=true\/X.env.scope.names.lookup x=some .local:=by first |exact .inl rfl |exact .inr rfl |assumption):PG X (.Name x pos) (xfl i):=xou c hi a b
theorem px(K:Fg){a b:Expr}{e c:TE}{pos:Pos}(g:PE X a e)(f:PE X b c)(h:X.K=K:=by rfl)(hs:xl0 b:=by exact λ_ _=>rfl):PE X (.Subscript a b pos) (tOp (rIxT K) e c):=xnk (xuc h) g f hs
theorem pxl(K:Fg){a b:Expr}{e c:TE}{pos:Pos}(g:PE X a e)(f:PE X b c)(h:X.K=K:=by rfl)(hs:xl0 b:=by exact λ_ _=>rfl):PE X (.Subscript a b pos) (tOp (rIxL K) e c):=xnk (xrt h) g f hs
theorem pgc(i:Nat){x:Str}{pos:Pos}(hi:X.N[i]?=some x:=by rfl)(hN:X.N.Nodup:=by exact z0 (by kernel_rfl))(hx:Loc X.env.scope x:=by exact Or.inl rfl)(hf:X.fn x=true\/X.env.scope.names.lookup x=some .local:=by first |exact .inl rfl |exact .inr rfl |assumption):PG X (.Name x pos) (xfl i):=xou hN hi hx hf
end
end L2
end
section
namespace L2
open PySem PySem.Spec PyProof.Rows
open PySem.W in
def xs0(K:Frag)(x:Str)(fs:List Str):Bool:=
 plainGet K (ad K x) Str.empty && (hasDictIn K (ad K x) && (plainOver K (ad K x) && (findIn K (.ref (ad K x)) "__setattr__" == some (some (.builtin "object.__setattr__")) && (makesIn K (ad K x) && (keepIn K (.ref (ad K x)) &&
 fs.all λf=>findIn K (.ref (ad K x)) f == some none)))))
structure DTab(K:Fg)(x:Str)(fs:List Str):Prop where
 cl:Cls K (ad K x)
 ms:PySem.W.makesIn K (ad K x)=true
 kp:PySem.W.keepIn K (.ref (ad K x))=true
 no:∀f∈fs,NoAttr K (ad K x) f
theorem dtab_of{K:Fg}{x:Str}{fs:List Str}(e:xs0 K x fs=true):DTab K x fs:=by
 unfold xs0 at e;simp only[Bool.and_eq_true,List.all_eq_true,beq_iff_eq]at e;obtain⟨i,h,g,f,c,b,a⟩:=e;exact⟨⟨i,h,g,f⟩,c,b,a⟩
structure MethTx(K:Fg)(q:Str)(C:Addr)(m:Str)(st:Stmt)(ps:List Str)(dss:List (List Value)):Prop where
 ex:∃(f:Addr) (dV kV doc pm:Value) (an:Option Addr) (cdv ct oc:Value) (od:Option Addr) (osl:Array (Option Value)),PySem.W.findIn K (.ref C) m=some (some (.ref f))/\PySem.W.isFn K (.ref f)=true/\PySem.W.keepIn K (.ref f)=true ∧
  K.lookup f=some ⟨oc,od,.func (PySem.W.fnOf m q (xdb st) (xcw st) (xac st) dV kV doc pm an cdv ct),osl⟩/\PySem.W.codeIn K cdv q=true/\∀ds∈dss,Binds K (PySem.W.fnOf m q (xdb st) (xcw st) (xac st) dV kV doc pm an cdv ct) ps ds
theorem meth_mk {K:Fg} {x q m:Str} {C f:Addr} {st:Stmt} {ps:List Str} {r:Value} {od p:Option Addr} {o:Array (Option Value)} {kV g j e ct:Value} (a:PySem.W.nsIn K mainGlobals x=some (some (.ref C)))
  (i:PySem.W.findIn K (.ref C) m=some (some (.ref f))) (n:PySem.W.isFn K (.ref f)=true)
  (l:K.lookup f=some ⟨r,od,.func (PySem.W.fnOf m q (xdb st) (xcw st) (xac st) .none kV g j p e ct),o⟩) (c:PySem.W.codeIn K e q=true) (k:PySem.W.keepIn K (.ref f)=true)
  (b:∀(kV g j:Value) (p:Option Addr) (e ct:Value) (us:List Value),us.length=ps.length->bindArgs (PySem.W.fnOf m q (xdb st) (xcw st) (xac st) .none kV g j p e ct) ⟨us,[]⟩=pure (ps.zip us)):MethTx K q (ad K x) m st ps [[]]:=by
 rw[xwm a];exact⟨f,_,kV,g,j,p,e,ct,r,od,o,i,n,k,l,c,λds h=>by rw[zMO h];exact Binds.all (b kV g j p e ct)⟩
theorem meth_mkD {K:Fg} {x q m:Str} {C f T:Addr} {st:Stmt} {ps:List Str} {oc:Value} {od an:Option Addr} {osl:Array (Option Value)} {kV doc pm cdv ct:Value} {o:Obj} {N:Nat} (a:PySem.W.nsIn K mainGlobals x=some (some (.ref C)))
  (i:PySem.W.findIn K (.ref C) m=some (some (.ref f))) (n:PySem.W.isFn K (.ref f)=true)
  (l:K.lookup f=some ⟨oc,od,.func (PySem.W.fnOf m q (xdb st) (xcw st) (xac st) (.ref T) kV doc pm an cdv ct),osl⟩) (c:PySem.W.codeIn K cdv q=true) (k:PySem.W.keepIn K (.ref f)=true) (d:K.lookup T=some o) (e:o.data=.seq #[.none] N)
  (b:∀(s:Shared) (T:Addr) (kV doc pm:Value) (an:Option Addr) (cdv ct:Value) (us ds:List Value),K.In s.heap->K.lookup T=some o->o.data=.seq #[.none] N->ds=[.none]\/ds=[]->(us++ds).length=ps.length->BindsTo s (PySem.W.fnOf m q (xdb st) (xcw st) (xac st) (.ref T) kV doc pm an cdv ct) ⟨us,[]⟩ (ps.zip (us++ds))):MethTx K q (ad K x) m st ps [[.none],[]]:=by
 rw[xwm a];exact⟨f,_,kV,doc,pm,an,cdv,ct,oc,od,osl,i,n,k,l,c,λds h s us hk hl=>b s T kV doc pm an cdv ct us ds hk d e (by simpa using h) hl⟩
structure MethIs(P:Program)(w:World)(K:Fg)(mg:Str->Option Value)(base:Heap)(n:Nat)(C:Addr)(m:Str)(ps:List Str)(dss:List (List Value))(sp:Sp):Prop where
 ex:∃(f:Addr) (fd:FuncData),Meth K C m f/\FnOk P w K mg base CX0 n f fd ps sp/\∀ds∈dss,Binds K fd ps ds
section
variable {P:Program}{w:World}{K:Fg}{mg:Str->Option Value}{base:Heap}{n n':Nat}{q m:Str}{C:Addr}{st:Stmt}{ps N:List Str}{sp:Sp}{dss:List (List Value)}
theorem MethIs.mono(D:MethIs P w K e base n C m ps a sp)(h:n<=c):MethIs P w K e base c C m ps a sp:=by
 obtain⟨f,g,M,F,b⟩:=D.ex;exact⟨f,g,M,F.mono h,b⟩
theorem MethIs.of (T:MethTx K q C m st ps j) (S:FnScope N ps (xac st)) (len:∀vs H Q E,sp vs H Q E->vs.length=ps.length)
  (e:∀(f:Addr) (a:Value) (A:Around) (outer:List Env) (s:Shared) (H:Hp) (vs:List V) (Q:VK) (E:XK),Room n (A.deeper (envOfC q (xac st) s.heap.objs.size f a))->sp vs H Q E->
   ∃t,PSs (cxOf CX0 P w K r base N q (xac st) f a A outer s H E).nox (xcw st) t/\t {nx:=λ_ y=>Q .non y,rt:=Q} (xfq N vs) H):MethIs P w K r base (n+1) C m ps j sp:=by
 obtain⟨f,I,kV,x,z,J,a,ct,G,od,o,i,p,k,l,c,b⟩:=T.ex;refine⟨f,_,⟨i,p,k⟩,xwf l c S len λA outer s H vs Q E u g=>?_,b⟩;obtain⟨t,h,q⟩:=e f a A outer s H vs Q E u g;exact⟨t,h.nox,q⟩
end
section
variable {X:Cx}{n:Nat}{x m:Str}{ps:List Str}{sp:Sp}{p pos apos:Pos}{fs:List Str}{C:Addr}{dss:List (List Value)}{ds:List Value}{dvs:List V}{e o:Expr}{es:List Expr}{t:TA}{ta:TE}
theorem xcl {pl:Sem Bool} (D:MethIs X.prog X.w X.K X.mg X.base n C m ps [[]] sp) (c:Cls X.K C) (p:Room n X.A) (r:PE X o j) (s:PA X (e::es) t)
  (g:starEach (e::es) X.env=(false,eval e X.env)::starEach es X.env:=by rfl) (h:(backTo pos (starEach es X.env)).any (·.1)=false:=by rfl)
  (l:eval (.Call (.Attribute o m a) (e::es) [] pos) X.env=(do
   let i <- eval o X.env
   standAt a.atName
   let (f,first) <- holding [i] (getMethod i m pl)
   callWith pos f first (backTo pos (starEach (e::es) X.env)) (backToKw pos (keywordEach [] X.env))):=by rfl):PE X (.Call (.Attribute o m a) (e::es) [] pos) (xn7 C m sp [] E0 j t):=by
 obtain⟨f,u,M,F,b⟩:=D.ex;exact xtq r c M F p (b [] (by simp)) .nil xoy s g h l
theorem xdw {pl:Sem Bool} (D:MethIs X.prog X.w X.K X.mg X.base n C m ps [[]] sp) (c:Cls X.K C) (i:Room n X.A) (j:PE X o g)
  (h:eval (.Call (.Attribute o m a) [] [] pos) X.env=(do
   let e <- eval o X.env
   standAt a.atName
   let (f,first) <- holding [e] (getMethod e m pl)
   callWith pos f first (backTo pos (starEach [] X.env)) (backToKw pos (keywordEach [] X.env))):=by rfl):PE X (.Call (.Attribute o m a) [] [] pos) (xn7 C m sp [] E0 g tNil):=by
 obtain⟨f,l,M,F,b⟩:=D.ex;exact xq2 j c M F i (b [] (by simp)) .nil xoy h
theorem xjf (D:MethIs X.prog X.w X.K X.mg X.base n (ad X.K x) "__init__" ps dss sp) (M:DTab X.K x fs) (hr:Room (n+1) X.A) (hm:X.mg x=some (.ref (ad X.K x))) (hds:ds∈dss) (hd:Vals dvs ds) (ha:PA X (e::es) t) (hg:Gl X x:=by rfl) (hdb:(x == ("__debug__":Str))=false:=by decide)
  (he:starEach (e::es) X.env=(false,eval e X.env)::starEach es X.env:=by rfl) (hpl:(backTo pos (starEach es X.env)).any (·.1)=false:=by rfl):PE X (.Call (.Name x p) (e::es) [] pos) (xu3 (ad X.K x) sp dvs E0 t):=by
 obtain⟨f,fd,N,F,b⟩:=D.ex;exact xtr ⟨M.ms,N.at_,N.fn,M.kp⟩ F hr hg hm (b ds hds) hd xoy ha hdb he hpl
end
section
variable {X:Cx}
theorem Inv.reH {pins:List (Addr×Obj)} {σ:St} {H:Hp} {s:Shared} {a:Addr} {o u:HO} (I:Inv X pins σ H s) (ha:H a=some o) (n1:∀xs,o≠.tup xs) (n2:∀ps,o≠.tbl ps) (n3:∀x,o≠.own x) (nz:∀ob v,X.H₀ a≠some (.frz ob v))
  (new:ObjOk X.prog X.w (upd H a u) s.heap a u):Inv X pins σ (upd H a u) s:=by
 have hn:∀{b:Addr},H b=none->upd H a u b=none:=λ{b} e=>by
  rw[xai λz=>by rw[z,ha]at e;cases e];exact e
 have hs:∀{b:Addr} {v:HO},H b=some v->v≠o->upd H a u b=some v:=λ{b v} e ne=>by
  rw[xai λz=>by rw[z,ha]at e;exact ne (qC e).symm];exact e
 refine⟨I.ok,I.os,I.bare,⟨I.base.keep,I.base.slot,λb ob e n hx=>hn (I.base.free b ob e n hx),I.base.there,λb xs e=>hs (I.base.tups b xs e) λz=>n1 xs z.symm,λb ob v e=>?_,λb ps e=>?_⟩,I.loc,I.cell,hn I.free,λx c e=>hn (I.freeC x c e),λp hp=>?_,λb v e=>?_,I.len⟩
 ·rw[xai λz=>by subst z;exact nz ob v e]
  exact I.base.frzs b ob v e
 ·obtain⟨more,e'⟩:=I.base.tbls b ps e
  exact⟨more,hs e' λz=>n2 _ z.symm⟩
 ·obtain⟨q1,q2,q3⟩:=I.pin p hp
  exact⟨q1,hn q2,q3⟩
 ·by_cases hb:b=a
  ·subst hb
   rw[ups]at e;cases e;exact new
  ·rw[xai hb]at e
   exact(I.hok b v e).stay (λ_ _ _ q=>q) (λc q=>hs q λz=>n3 _ z.symm) λc xs q=>hs q λz=>n1 _ z.symm
def NoFz(H0:Hp)(a:Addr):Prop:=∀ob u,H0 a≠some (.frz ob u)
theorem Inv.noFz{b:List (Addr×Obj)}{σ:St}{H:Hp}{s:Shared}{a:Addr}{kvs:List (Key×V)}(I:Inv X b σ H s)(f:H a=some (.dK kvs)):NoFz X.H₀ a:=λc u e=>by
 have:=I.base.frzs a c u e;rw[f]at this;cases this
theorem Inv.freeze{pins:List (Addr×Obj)}{σ:St}{H:Hp}{s:Shared}{a:Addr}{ob:Obj}{kvs:List (Key×V)}(I:Inv X pins σ H s)(ha:H a=some (.dK kvs))(e:s.heap.get? a=some ob):Inv X pins σ (upd H a (.frz ob (.dK kvs))) s:=by
 refine I.reH ha (λ_ z=>by cases z) (λ_ z=>by cases z) (λ_ z=>by cases z) (I.noFz ha) ⟨e,?_⟩;obtain⟨z,y,r⟩:=(show ObjOk X.prog X.w H s.heap a (.dK kvs) from I.hok a _ ha);exact⟨z,y,r⟩
theorem Inv.thaw{b:List (Addr×Obj)}{σ:St}{H:Hp}{s:Shared}{a:Addr}{c:Obj}{kvs:List (Key×V)}(I:Inv X b σ H s)(e:H a=some (.frz c (.dK kvs)))(f:NoFz X.H₀ a):Inv X b σ (upd H a (.dK kvs)) s:=by
 obtain⟨_,z,y,r⟩:=(show ObjOk X.prog X.w H s.heap a (.frz c (.dK kvs)) from I.hok a _ e);exact I.reH e (λ_ z=>by cases z) (λ_ z=>by cases z) (λ_ z=>by cases z) f ⟨z,y,r⟩
theorem xmx{P:Program}{w:World}{H:Hp}{h:Heap}{a:Addr}{o:Obj}{kvs:List (Key×V)}{es:Array DictEntry}{ep:Nat}(ok:HOk P w H h)(e:H a=some (.frz o (.dK kvs)))(hd:o.data=.dict es ep):∃vs,KV kvs vs/\h.DictAt (xbu P w) a vs ep:=by
 obtain⟨f,_,_,vs,r,i,es',g,b,c,d,q⟩:=(show ObjOk P w H h a (.frz o (.dK kvs)) from ok a _ e);rw[f]at b;cases b;rw[hd]at d;cases d;exact⟨vs,r,o,es,f,c,hd,q⟩
end
section
variable {X:Cx}
def Itm(a:Addr)(o:Obj)(kvs:List (Key×V)):It:=
 ⟨λi H=>H a=some (.frz o (.dK kvs))/\i<kvs.length,λi H x H'=>∃p kv,x=.ref p/\H p=none/\kvs[i]?=some kv/\H'=upd H p (.tup [kV kv.1,kv.2]),λi H=>H a=some (.frz o (.dK kvs))/\kvs.length<=i⟩
theorem xnc{P:Program}{w:World}{K:Fg}{r:List Expr}{x1}{pos:Pos}{a it:Addr}{o:Obj}{kvs:List (Key×V)}{es:Array DictEntry}{ep:Nat}(a0:a≠it)(hd:o.data=.dict es ep):Turn P w K (.Tuple r x1 pos) (Itm a o kvs) [it] it (λi h=>∃ok m,IsItemIter h it a i kvs.length ep ok m) where
 mem:=by simp
 obj:=λi h st b j=>by
  have e:b=it:=by simpa using j
  subst e;obtain⟨_,_,e⟩:=st;exact⟨_,e,λv z=>by cases z⟩
 keep:=λi h h' st k=>by
  obtain⟨ok,m,e⟩:=st;exact⟨ok,m,k it (by simp) _ e⟩
 item:=by
  intro X O C U hc i c s σ H E I x st J;subst O C U;obtain⟨M,hi⟩:=J;obtain⟨vs,f,dat⟩:=xmx I.hok M hd;have u:=f.length;have l:i<vs.length:=by omega
  obtain⟨ok,m,st⟩:=st;rw[u]at st;refine wpAny_pyNext_items_item (kvs:=vs) (k:=vs[i].1) (v:=vs[i].2) st dat (by rw[zGA l]) λg h1 n a1 a3 a4 a5=>⟨_,rfl,?_⟩;refine wpAny_letOwnedTupleGo_items a1 λh2 b1 b2=>?_;have ek:=KV.get f (zGA hi) (zGA l);obtain⟨v,hv,rv⟩:=KV.get2 f (zGA l);have G:H s.heap.objs.size=none:=I.hok.fresh (zZ _);have y:it<s.heap.objs.size:=z6 st;have g1:(s.heap.push {cls:=.type "tuple",data:=.seq #[g,vs[i].2]}).get? s.heap.objs.size=some {cls:=.type "tuple",data:=.seq #[g,vs[i].2]}:=z9 _ rfl
  have I1:Inv X c σ (upd H s.heap.objs.size (.tup [kV vs[i].1,v])) {s with heap:=s.heap.push {cls:=.type "tuple",data:=.seq #[g,vs[i].2]}}:=
   I.laid (t':=s.toks) (λb o q=>zPO _ q) (zZ _) ⟨by show 2<=sizeLine;decide,[g,vs[i].2],.cons (xxi n) (.cons rv .nil),⟨_,g1,rfl,_,rfl,rfl⟩⟩
  have p:∀b∈[it],FpOk X c (upd H s.heap.objs.size (.tup [kV vs[i].1,v])) b:=λb j=>by
   refine⟨?_,(x b j).2⟩;have e:b=it:=by simpa using j
   subst e;rw[xai (qD y)];exact(x b j).1
  have I2:Inv X c σ (upd H s.heap.objs.size (.tup [kV vs[i].1,v])) {s with heap:=h2}:=
   I1.turnedL (t':=s.toks) (λb o j q=>by
    have Z:b≠it:=by simpa using j
    have q1:h1.get? b=some o:=by
     by_cases z:b=s.heap.objs.size
     ·subst z
      have Y:(s.heap.push {cls:=.type "tuple",data:=.seq #[g,vs[i].2]}).get? s.heap.objs.size=some o:=q;rw[g1]at Y;cases Y;exact a3
     ·exact a5 b o Z (xlp q z)
    exact(b2.2 b Z).trans q1) p
  rw[<- u]at b1;exact⟨.ref s.heap.objs.size,_,I2,rfl,⟨_,_,rfl,G,hv,rfl⟩,⟨_,_,b1⟩,λb j=>(p b j).1⟩
 done:=by
  intro X O C U hc i c s σ H E I x st J;subst O C U;obtain⟨M,hi⟩:=J;obtain⟨vs,f,dat⟩:=xmx I.hok M hd;have u:=f.length;obtain⟨ok,m,st⟩:=st;rw[u]at st;obtain⟨f0,f1,f2,f3,f4,f5⟩:=x it (by simp);exact wpAny_pyNext_items_end (I.ok.hd hc) (kvs:=vs) st dat (List.getElem?_eq_none (by omega)) λh' eb=>⟨rfl,I.turned (t':=s.toks) (λb o j e=>eb b o j e) f0 f1 f3 f4 f5⟩
 self:=λ_ _ _ _ _ st h=>by
  obtain⟨ok,m,st⟩:=st;exact PySem.W.kcp_self st h
def xwd(H0:Hp)(td:TE):TI:=λσ H R=>td σ H λx H1=>∃a,∃kvs:List (Key×V),x=.ref a/\H1 a=some (.dK kvs)/\∀o,NoFz H0 a->R (Itm a o kvs) (upd H1 a (.frz o (.dK kvs)))
theorem xq1 {elts:List Expr} {x1} {tp:Pos} {o:Expr} {td:TE} {apos q2:Pos} (ho:PE X o td) (hbase:attributeBase o "items" X.env (eval o X.env)=eval o X.env:=by rfl) (hline:(apos.endLine == q2.line)=true:=by rfl) :
  PI X (.Tuple elts x1 tp) (.Call (.Attribute o "items" apos) [] [] q2) (xwd X.H₀ td):=by
 intro pins s σ H R I h;refine wpAny_Call_method0_late hbase hline (thn (ho pins s σ H _ I h) λv s1 ⟨x,H1,I1,r1,q1⟩=>?_);obtain⟨a,kvs,e,ha,q⟩:=q1;subst e;obtain rfl:v=.ref a:=r1;obtain⟨t1,t2,_⟩:=xj5 I1 (.inl ⟨kvs,.inl ha⟩);obtain⟨z,hd,vs,rel,dd⟩:=xlt I1.hok ha;have hlen:=rel.length;refine⟨"dict","dict.items",PySem.F.plainAttrs_dict,PySem.F.slot_dict_items,PySem.F.type_dict_items,t1,t2,Calls.callWith_builtin rfl (PySem.evalArgs_none ?_)⟩;refine call_meetsIn PySem.F.slot_dict_items dd.typeIs PySem.F.entry_dict_items (PySem.F.args_dict_items_1 _) (meets_dict_items (xbu X.prog X.w) a hd) ⟨⟨vs,dd⟩,?_⟩;obtain⟨ep,hat⟩:=(dd.push {cls:=.type "dict_items",data:=.fields #[.ref a]}).dictAt;obtain⟨ob,es,hob,hx,hdat,_⟩:=id hat;refine wpAny_pyIter_items (kvs:=vs) (ep:=ep) ⟨_,z9 _ rfl,rfl,rfl⟩ hat ?_;have I2:Inv X pins σ H1 {s1 with heap:=s1.heap.push {cls:=.type "dict_items",data:=.fields #[.ref a]}}:=I1.kept (t':=s1.toks) λb o e=>zPO _ e;have I3:=I2.freeze ha hob;have hn:upd H1 a (.frz ob (.dK kvs)) (s1.heap.push {cls:=.type "dict_items",data:=.fields #[.ref a]}).objs.size=none:=I3.hok.fresh (zZ _);refine⟨(s1.heap.push {cls:=.type "dict_items",data:=.fields #[.ref a]}).objs.size,[(s1.heap.push {cls:=.type "dict_items",data:=.fields #[.ref a]}).objs.size],_,_,_,rfl,I3.kept (t':=s1.toks) λb o e=>zPO _ e,xnc (λz=>?_) hdat,⟨.none,.none,?_⟩,λb hb=>?_,q ob (I1.noFz ha)⟩
 ·rw[<- z,ups]at hn
  cases hn
 ·rw[hlen]
  exact z9 _ rfl
 ·have e:b=(s1.heap.push {cls:=.type "dict_items",data:=.fields #[.ref a]}).objs.size:=by simpa using hb
  subst e;exact I3.fpOk (zZ _) hn
theorem xow{e:Expr}{t:TE}(h:PE X e t):PE X e (λσ H Q=>t σ H λv H'=>∃a o,∃kvs:List (Key×V),H' a=some (.frz o (.dK kvs))/\NoFz X.H₀ a/\Q v (upd H' a (.dK kvs))):=by
 intro pins s σ H Q I hh;refine thn (h pins s σ H _ I hh) λu s' ⟨v,H',I',r,a,o,kvs,ea,nz,q⟩=>?_;exact⟨v,_,I'.thaw ea nz,r,q⟩
theorem xnx {a:Addr} {o:Obj} {kvs:List (Key×V)} {ix:Cap} {g:TG} {tt:TT} {te:TE} {σ:St} {H1:Hp} {Q:VK} (Pv:Nat->List V->Hp->Prop) (h0:Pv 0 [] H1) (hn:kvs.length<sizeLine) (hl':∀i ys H,i<=kvs.length->Pv i ys H->H a=some (.frz o (.dK kvs)))
  (hs:∀i kv p ys H,kvs[i]?=some kv->i<kvs.length->ys.length<=i->H p=none->Pv i ys H->g (.ref p) (capt ix σ) (upd H p (.tup [kV kv.1,kv.2])) λσ2 H2=>Ext (capt ix σ) σ2/\tt σ2 H2 λb H3=>if b=true then te σ2 H3 (NxtG Pv kvs.length i ys) else NxtN Pv kvs.length i ys H3)
  (hd:∀ys H,ys.length<=kvs.length->Pv kvs.length ys H->∀D,H D=none->Q (.ref D) (upd H D (.lst ys))):xff (Itm a o kvs) ix g tt te σ H1 Q:=by
 refine⟨λi m ys H=>m=kvs.length-i/\i<=kvs.length/\ys.length<=i/\Pv i ys H,⟨kvs.length,by simp,qO _,zZ _,h0⟩,?_⟩;rintro i m ys H ⟨rfl,hi,hl,p⟩;have q:=hl' i ys H hi p;by_cases hlt:i<kvs.length
 ·refine .inr ⟨⟨q,hlt⟩,by omega,λv H' y=>?_⟩
  obtain⟨pp,kv,rfl,hp,hk,rfl⟩:=y;exact hs i kv pp ys _ hk hlt hl hp p
 ·have e:i=kvs.length:=by omega
  subst e;exact .inl ⟨⟨q,zZ _⟩,hd ys H hl p⟩
end
section
variable {X:Cx}
theorem xfb{K:Fg}(h:X.K=K):xd9 X (.type "list") (λxs H Q=>∃p ys,xs=[.ref p]/\(SqL K H p ys\/SqT K H p ys)/\∀l,H l=none->Q (.ref l) (upd H l (.lst ys))):=by subst h;exact xb4
end
theorem ext1{σ:St}{i:Nat}{v:Option V}(h:σ[i]?=some none):Ext σ (σ.set i v):=by
 refine⟨by simp,λn b e=>?_⟩;have a:i≠n:=λz=>by subst z;rw[h]at e;cases e
 rw[List.getElem?_set_ne a];exact e
theorem ext4{σ:St}{i j k l:Nat}{u v w x:Option V}(h:σ[i]?=some none)(o:σ[j]?=some none)(m:σ[k]?=some none)(g:σ[l]?=some none):Ext σ ((((σ.set i u).set j v).set k w).set l x):=by
 refine⟨by simp,λn p e=>?_⟩;have f:i≠n:=λz=>by subst z;rw[h]at e;cases e
 have c:j≠n:=λz=>by subst z;rw[o]at e;cases e
 have b:k≠n:=λz=>by subst z;rw[m]at e;cases e
 have a:l≠n:=λz=>by subst z;rw[g]at e;cases e
 rw[List.getElem?_set_ne a,List.getElem?_set_ne b,List.getElem?_set_ne c,List.getElem?_set_ne f];exact e
theorem xju:∀(kvs acc:List (Key×V)),((acc++kvs).map (·.1)).Nodup->xdc acc kvs=acc++kvs
 |[],acc,_=>by show acc=_;rw[List.append_nil]
 | a::kvs,acc,h=>by
  have hn:(acc.any λp=>decide (p.1=a.1))=false:=by
   rw[List.any_eq_false];intro p b e;rw[zAP,List.nodup_append]at h;exact h.2.2 p.1 (qG b) a.1 (by simp) (z0 e)
  have e:putK acc a.1 a.2=acc++[a]:=by
   unfold putK;rw[if_neg (by rw[hn];decide)]
  show xdc (putK acc a.1 a.2) kvs=_;rw[e,xju kvs (acc++[a]) (by rw[List.append_assoc];exact h),List.append_assoc];rfl
theorem xdr{kvs:List (Key×V)}(h:(kvs.map (·.1)).Nodup):xdc [] kvs=kvs:=xju kvs [] h
section
variable {X:Cx}
def ItV(a:Addr)(o:Obj)(kvs:List (Key×V)):It:=
 ⟨λi H=>H a=some (.frz o (.dK kvs))/\i<kvs.length,λi H x H'=>H'=H/\∃kv,kvs[i]?=some kv/\x=kv.2,λi H=>H a=some (.frz o (.dK kvs))/\kvs.length<=i⟩
theorem xkt{P:Program}{w:World}{K:Fg}{Y:Expr}{a it:Addr}{o:Obj}{kvs:List (Key×V)}{es:Array DictEntry}{ep:Nat}(a0:a≠it)(hd:o.data=.dict es ep):Turn P w K Y (ItV a o kvs) [it] it (λi h=>h.IsValIter it a i kvs.length ep) where
 mem:=by simp
 obj:=λi h st b j=>by
  have e:b=it:=by simpa using j
  subst e;obtain⟨o,e,c,d⟩:=st;exact⟨o,e,λv z=>by rw[d]at z;cases z⟩
 keep:=λi h h' st k=>st.at λo e=>k it (by simp) o e
 item:=by
  intro X x p y U i g s σ H E I n st r;subst x p y;obtain⟨u,hi⟩:=r;obtain⟨vs,f,dat⟩:=xmx I.hok u hd;have m:=f.length;obtain⟨O,M,f2,J,G,C⟩:=n it (by simp);have l:i<vs.length:=by omega
  refine wpAny_pyNext_values_item (kvs:=vs) (k:=vs[i].1) (v:=vs[i].2) (by rw[<- m];exact st) dat (by rw[zGA l]) λh' st' Z=>?_;have I1:Inv X g σ H {s with heap:=h'}:=I.turned (t':=s.toks) (λb o j e=>(Z.2 b j).trans e) O M J G C;rw[<- m]at st';obtain⟨o',e,c,d⟩:=id st';obtain⟨v,hv,rv⟩:=KV.get2 f (zGA l);exact⟨vs[i].2,rfl,xry (s:={s with heap:=h'}) e c d (by decide) ⟨v,H,I1,rv,⟨rfl,_,hv,rfl⟩,st',λb j=>(n b j).1⟩⟩
 done:=by
  intro X x p y U i g s σ H E I n st r;subst x p y;obtain⟨u,hi⟩:=r;obtain⟨vs,f,dat⟩:=xmx I.hok u hd;have m:=f.length;obtain⟨O,M,f2,J,G,C⟩:=n it (by simp);exact wpAny_pyNext_values_end (I.ok.hd U) (kvs:=vs) (by rw[<- m];exact st) dat (List.getElem?_eq_none (by omega)) λh' eb=>⟨rfl,I.turned (t':=s.toks) (λb o j e=>eb b o j e) O M J G C⟩
 self:=λ_ _ _ _ _ st h=>wpAny_pyIter_valiter st h
def xxm(H0:Hp)(td:TE):TI:=λσ H R=>td σ H λx H1=>∃a,∃kvs:List (Key×V),x=.ref a/\H1 a=some (.dK kvs)/\∀o,NoFz H0 a->R (ItV a o kvs) (upd H1 a (.frz o (.dK kvs)))
theorem xos {tg:Expr} {o:Expr} {td:TE} {apos q2:Pos} (ho:PE X o td) (hbase:attributeBase o "values" X.env (eval o X.env)=eval o X.env:=by rfl) (hline:(apos.endLine == q2.line)=true:=by rfl) :
  PI X tg (.Call (.Attribute o "values" apos) [] [] q2) (xxm X.H₀ td):=by
 intro pins s σ H R I h;refine wpAny_Call_method0_late hbase hline (thn (ho pins s σ H _ I h) λv s1 ⟨x,H1,I1,r1,q1⟩=>?_);obtain⟨a,kvs,e,ha,q⟩:=q1;subst e;obtain rfl:v=.ref a:=r1;obtain⟨t1,t2,_⟩:=xj5 I1 (.inl ⟨kvs,.inl ha⟩);obtain⟨z,hd,vs,rel,dd⟩:=xlt I1.hok ha;have hlen:=rel.length;refine⟨"dict","dict.values",PySem.F.plainAttrs_dict,PySem.F.slot_dict_values,PySem.F.type_dict_values,t1,t2,Calls.callWith_builtin rfl (PySem.evalArgs_none ?_)⟩;refine call_meetsIn PySem.F.slot_dict_values dd.typeIs PySem.F.entry_dict_values (PySem.F.args_dict_values_1 _) (meets_dict_values (xbu X.prog X.w) a hd) ⟨⟨vs,dd⟩,?_⟩;obtain⟨ep,hat⟩:=(dd.push {cls:=.type "dict_values",data:=.fields #[.ref a]}).dictAt;obtain⟨ob,es,hob,hx,hdat,_⟩:=id hat;refine wpAny_pyIter_values (kvs:=vs) (ep:=ep) ⟨_,z9 _ rfl,rfl,rfl⟩ hat ?_;have I2:Inv X pins σ H1 {s1 with heap:=s1.heap.push {cls:=.type "dict_values",data:=.fields #[.ref a]}}:=I1.kept (t':=s1.toks) λb o e=>zPO _ e;have I3:=I2.freeze ha hob;have hn:upd H1 a (.frz ob (.dK kvs)) (s1.heap.push {cls:=.type "dict_values",data:=.fields #[.ref a]}).objs.size=none:=I3.hok.fresh (zZ _);refine⟨(s1.heap.push {cls:=.type "dict_values",data:=.fields #[.ref a]}).objs.size,[(s1.heap.push {cls:=.type "dict_values",data:=.fields #[.ref a]}).objs.size],_,_,_,rfl,I3.kept (t':=s1.toks) λb o e=>zPO _ e,xkt (λz=>?_) hdat,⟨_,z9 _ rfl,rfl,by rw[hlen];rfl⟩,λb hb=>?_,q ob (I1.noFz ha)⟩
 ·rw[<- z,ups]at hn
  cases hn
 ·have e:b=(s1.heap.push {cls:=.type "dict_values",data:=.fields #[.ref a]}).objs.size:=by simpa using hb
  subst e;exact I3.fpOk (zZ _) hn
variable {o:Expr}{td:TE}{p1 q1 q2 apos:Pos}
end
section
variable {prog:Program}{w:World}{A:Around}{E:Value->Shared->Prop}{s:Shared}
theorem xhe{h h':Heap}{l b:Addr}{items:Array Value}(x:h.IsList l items)(e:Heap.ExtBut b h h')(n:l≠b):h'.IsList l items:=let ⟨o,a,r⟩:=x;⟨o,e l o n a,r⟩
theorem xgn{h:Heap}{l:Addr}{items:Array Value}{o:Obj}(x:h.IsList l items):(h.push o).IsList l items:=let ⟨q,a,r⟩:=x;⟨q,zPO _ a,r⟩
theorem xkb {it t:Addr} {items:Array Value} (c:t≠it):∀(n i:Nat) (s:Shared) (Q:List Value->Shared->Prop),s.heap.IsListIter it t i->s.heap.IsList t items->i+n<=items.size->
  (∀h',h'.IsListIter it t (i+n)->Heap.SameBut it s.heap h'->Q ((items.toList.drop i).take n) {s with heap:=h'})->wpAny (model prog w) A (draw (.ref it) n) Q E s
 |0,i,s,Q,a,_,_,j=>by
  show wpAny _ _ (pure []) Q E s;exact z5 (by simpa using j s.heap a (Heap.SameBut.refl ..))
 |n+1,i,s,Q,a,l,o,j=>by
  have e:i<items.size:=by omega
  show wpAny _ _ (pyNext (.ref it) >>= _) Q E s;refine zX (wpAny_pyNext_list_item a l (x:=items[i]) (by simp[e]) λh₁ g b=>?_);refine zX (qL (xkb c n (i+1) _ _ g (xhe l b.extBut c) (by omega) λm f h=>z5 ?_));have hd:items.toList.drop i=items[i]::items.toList.drop (i+1):=by simp[List.drop_eq_getElem_cons,e]
  have:=j m (by rw[show i+(n+1)=i+1+n by omega];exact f) (b.trans h);rw[hd,List.take_succ_cons]at this;exact this
theorem xfp {t:Addr} {items:Array Value} {Q:List Value->Shared->Prop} (p:A.handled=none) (a:s.heap.IsList t items)
  (r:∀h',Heap.ExtBut s.heap.objs.size s.heap h'->Q items.toList {s with heap:=h'}):wpAny (model prog w) A (unpackItems (.ref t) items.size none) Q E s:=by
 have f:t≠s.heap.objs.size:=by obtain⟨o,n,_⟩:=a;exact qD (z6 n)
 unfold unpackItems;refine zX ?_
 ·unfold notIterableAtAll
  refine zX (wpAny_specialOf a.typeIs slot_list_iter.lookup ?_);refine z5 ?_;simp only[Bool.false_eq_true,if_false];refine zX (qL (wpAny_pyIter_list a ?_));refine zX (qL (xkb f items.size 0 _ _ ⟨_,z9 _ rfl,rfl,rfl⟩ (xgn a) (by omega) λh₁ g c=>?_))
  have h:List.take items.size (List.drop 0 items.toList)=items.toList:=by
   rw[List.drop_zero];exact zTL (by simp)
  rw[h];rw[if_neg (by simp)];have i:h₁.IsList t items:=xhe (xgn a) c.extBut f;refine zX (qL (wpAny_pyNext_list_end p g i (by simp) λm j=>?_));simp only[Option.isSome_none,Bool.false_eq_true,if_false];refine z5 (r m λb o l e=>j b o l (c.extBut b o l (zPO _ e)))
theorem xks {t:Addr} {items:Array Value} {a:List (Bool×(Value->Sem Unit))} {Q:Unit->Shared->Prop} (e:A.handled=none) (c:s.heap.IsList t items)
  (hn:a.length=items.size) (b:a.findIdx? (·.1)=none)
  (h:∀h',Heap.ExtBut s.heap.objs.size s.heap h'->wpAny (model prog w) A (assignInOrder (a.map (·.2)) items.toList) Q E {s with heap:=h'}) :
  wpAny (model prog w) A (unpack (.ref t) a) Q E s:=by
 unfold unpack;rw[hn,b];exact zX (qL (xfp e c h))
end
section
variable {X:Cx}{K:Fg}
def gLst(K:Fg)(n:Nat)(t:TGs):TG:=λv σ H Q=>∃a xs,v=.ref a/\SqL K H a xs/\xs.length=n/\t xs σ H Q
theorem xov {es:List Expr} {k:Nat} {t:TGs} {n:Nat} {pos:Pos} (x:X.K=K) (w:X.calm=true) (h:PGs X es t)
  (hn:(assignEach es X.env).length=n:=by rfl) (g:(assignEach es X.env).findIdx? (·.1)=none:=by rfl):PG X (.Tuple es k pos) (gLst K n t):=by
 subst x;intro c s σ H v u Q I r f;obtain⟨a,xs,y,m,p,f⟩:=f;subst y;cases r;obtain⟨its,i,l,hz⟩:=I.list m;rw[assign_Tuple];refine zX (wpAny_standAt (xks (I.ok.hd w) l.isList (by simp[hn,<- p,i.length]) g λh' j=>?_));have z:Inv X c σ H {s with heap:=h'}:=I.kept (t':=s.toks) λb o e=>j b o (qD (z6 e)) e;exact h c _ σ H xs _ Q z (by simpa using i) f
end
end L2
end
section
namespace L2
open PySem PySem.Spec PySem.W PyProof.Rows M
def xtb(td:TE):TE:=λσ H Q=>td σ H λx H1=>∃a,∃kvs:List (Key×V),x=.ref a/\H1 a=some (.dK kvs)/\Q .non (upd H1 a (.dK []))
section
variable {X:Cx}{o:Expr}{td:TE}{apos cpos:Pos}
theorem xox(u:PE X o m)(C:attributeBase o "clear" X.env (eval o X.env)=eval o X.env:=by rfl)(y:(f.endLine == e.line)=true:=by rfl):PE X (.Call (.Attribute o "clear" f) [] [] e) (xtb m):=by
 intro b s σ H Q I h;refine wpAny_Call_method0_late C y (thn (u b s σ H _ I h) λv G ⟨x,J,j,p,a,kvs,ex,i,q⟩=>?_);subst ex;obtain rfl:v=.ref a:=p;obtain⟨n,t2,_⟩:=xj5 j (.inl ⟨kvs,.inl i⟩);obtain⟨z,hd,vs,g,l⟩:=xlt j.hok i;refine⟨"dict","dict.clear",PySem.F.plainAttrs_dict,PySem.F.slot_dict_clear,PySem.F.type_dict_clear,n,t2,Calls.callWith_builtin rfl (PySem.evalArgs_none ?_)⟩;refine call_meetsIn PySem.F.slot_dict_clear l.typeIs PySem.F.entry_dict_clear (PySem.F.args_dict_clear_1 _) (meets_dict_clear (knd:=xbu X.prog X.w) a) ⟨vs,l,by rw[<- g.length];exact z,λh' c hs=>?_⟩;exact⟨.non,_,xio j (by rw[i];exact True.intro) hs (let ⟨q,_,_,r,_⟩:=c;⟨q,r⟩) (xkc (kvs:=[]) (qO _) hd .nil c),rfl,q⟩
end
def EqW(P:Program)(w:World)(A:Around)(s:Shared)(y x:Value):Prop:=∀(E:Value->Shared->Prop) (Q:Bool->Shared->Prop),Q true s->wpAny (model P w) A (eqBool y x) Q E s
theorem xs4 {P:Program} {w:World} {l b:Addr} {us zs:Array Value} {n m:Nat} {I G:Option Addr} {j i:Array (Option Value)} (hz:us.size=zs.size) :
  MeetsIn P w (Builtin.«tuple.__ne__» ⟨[.ref l,.ref b],[]⟩) (λA R s=>s.heap.get? l=some {cls:=.type "tuple",dict:=I,data:=.seq us n,slots:=j}/\s.heap.get? b=some {cls:=.type "tuple",dict:=G,data:=.seq zs m,slots:=i} ∧
   (∀p∈us.toList.zip zs.toList,EqW P w A.in1 s p.1 p.2)/\R (.ok (.ret (.bool false))) s):=
 .of_wp λA R s h=>by
  obtain⟨h0,C,J,g,o⟩:=s;obtain⟨r,z,u,h⟩:=h;have M:=AutoSeq1.sub_tuple_tuple
  wp_walk using AutoSeq1.wpAny_loadPart' r,AutoSeq1.wpAny_loadPart' z,wpAny_forIn_list _ (λrest c s'=>c.1=none/\s'=⟨h0,C,J,g,o⟩/\∀p∈rest,p∈us.toList.zip zs.toList) _
  case turn=>
   rintro⟨y,x⟩ rest c s' ⟨e,rfl,f⟩;refine zX (u (y,x) (f _ (by simp)) _ _ ?_)
   wp_walk
   exact⟨rfl,rfl,λp a=>f p (by simp[a])⟩
  case fin=>
   rintro⟨U,O⟩ s' ⟨e,rfl,_⟩;simp only at e;subst e
   wp_walk
   exact⟨_,rfl,by simpa[Builtin.Tuple.tupleCompareSizes,bne,hz] using h⟩
  case h=>exact⟨rfl,rfl,λp a=>a⟩
section
variable {X:Cx}
theorem xm1{P:Program}{w:World}{A:Around}{s:Shared}{y x:Value}(h:SeqAt.EqAt A s y x true):EqW P w A s y x:=λE Q q=>h P w E Q q
end
end L2
end
section
namespace L2
open PySem PySem.Spec PyProof.Rows
open PySem.W in
def xs3(K:Frag)(x m:Str):Bool:=
 specialIn K (.ref (ad K x)) "__getattribute__" == some (some (.builtin "type.__getattribute__")) && (readsIn K (ad K x) (.type "type") &&
 (match findCls K (.ref (ad K x)) (.type "type") m,findIn K (.ref (ad K x)) m with
  |some (.val a),some (some b)=>a == b
  |_,_=>false))
structure CTab(K:Fg)(x m:Str):Prop where
 ga:PySem.W.specialIn K (.ref (ad K x)) "__getattribute__"=some (some (.builtin "type.__getattribute__"))
 rd:PySem.W.readsIn K (ad K x) (.type "type")=true
 fc:∀f:Addr,PySem.W.findIn K (.ref (ad K x)) m=some (some (.ref f))->PySem.W.findCls K (.ref (ad K x)) (.type "type") m=some (.val (.ref f))
theorem ctab_of{K:Fg}{x m:Str}(e:xs3 K x m=true):CTab K x m:=by
 unfold xs3 at e;simp only[Bool.and_eq_true,beq_iff_eq]at e;obtain⟨l,j,b⟩:=e;refine⟨l,j,λf i=>?_⟩;rw[i]at b
 cases h:PySem.W.findCls K (.ref (ad K x)) (.type "type") m with
 |none=>rw[h]at b;cases b
 | some r=>
  cases r with
  |val a=>
   rw[h]at b;have:a=Value.ref f:=by simpa using b
   rw[this]
  |get g a c n=>rw[h]at b;cases b
section
variable {X:Cx}{n:Nat}{x m:Str}{ps:List Str}{sp:Sp}{p pos apos:Pos}{e:Expr}{es:List Expr}{t:TA}
theorem xq4 {pl:Sem Bool} (D:MethIs X.prog X.w X.K X.mg X.base n (ad X.K x) m ps [[]] sp) (c:CTab X.K x m) (C:Room n X.A) (G:X.mg x=some (.ref (ad X.K x))) (O:PA X (e::es) t) (J:Gl X x:=by rfl) (l:(x == ("__debug__":Str))=false:=by decide)
  (i:starEach (e::es) X.env=(false,eval e X.env)::starEach es X.env:=by rfl) (j:(backTo pos (starEach es X.env)).any (·.1)=false:=by rfl)
  (z:eval (.Call (.Attribute (.Name x p) m a) (e::es) [] pos) X.env=(do
   let o <- eval (.Name x p) X.env
   standAt a.atName
   let (f,first) <- holding [o] (getMethod o m pl)
   callWith pos f first (backTo pos (starEach (e::es) X.env)) (backToKw pos (keywordEach [] X.env))):=by rfl):PE X (.Call (.Attribute (.Name x p) m a) (e::es) [] pos) (xtd sp [] E0 t):=by
 obtain⟨f,Z,M,F,b⟩:=D.ex;intro g s σ H Q I h;refine PySem.W.methodCall_KW (pl:=pl) (xih I J G ?_ l) z;refine PySem.W.method_cls I.kIn c.ga (PySem.W.cls_value I.kIn c.rd (c.fc f M.at_) rfl ?_);have U:=I.tok (s.toks+1);refine PySem.W.callWith_K (h₀:=X.base) I.ok.mod.kin M.kp (thn (O pos g _ σ H _ U h) λus Y ⟨vs,H2,u,r,y⟩=>⟨u.kIn,?_⟩) i j;exact xme F C (b [] (by simp)) .nil xoy u r y
end
end L2
end
section
namespace L2
open PySem PySem.Spec PySem.W PyProof.Rows M
open PySem.AutoSeq1 (wpAny_loadPart')
open PySem.MeetsSeq PySem.MeetsSeq2 PySem.MeetsSeq3 PySem.SeqRoads2 PySem.SeqAt
theorem xjw {P:Program} {w:World} (l b:Addr) (us zs:Array Value) (n m:Nat) (U O:Option Addr) (C z:Array (Option Value)) (hz:us.size=zs.size) (c:Bool) (k:Nat) :
  ∀ i:Nat,us.size-i=k->MeetsIn P w (Builtin.«list.__eq__.loop» ⟨[.ref l,.ref b,rawInt i,rawInt (if c=true then 2 else 3)],[]⟩)
   (λA R s=>s.heap.get? l=some {cls:=.type "list",dict:=U,data:=.seq us n,slots:=C}/\s.heap.get? b=some {cls:=.type "list",dict:=O,data:=.seq zs m,slots:=z} ∧
    (∀j (Z:j<us.size) (Y:j<zs.size),EqW P w A.in1 s us[j] zs[j])/\R (.ok (.ret (.bool c))) s):=by
 induction k with
 | zero=>
  intro i M A R s h;obtain⟨J,g,d,tk,G⟩:=s;obtain⟨p,r,x,h⟩:=h;have f:us[((i:Nat):Int).toNat]?=none:=by simp;omega
  have e:zs[((i:Nat):Int).toNat]?=none:=by simp;omega
  cases c with
  |true=>
   simp only[if_true]
   wp_walk using wpAny_loadPart' p,wpAny_loadPart' r
   rw[f,e]
   wp_walk using wpAny_loadPart' p,wpAny_loadPart' r
   show R (.ok (.ret (.bool (us.size == zs.size)))) _;rw[hz];simpa using h
  |false=>
   simp only[Bool.false_eq_true,if_false]
   wp_walk using wpAny_loadPart' p,wpAny_loadPart' r
   rw[f,e]
   wp_walk using wpAny_loadPart' p,wpAny_loadPart' r
   show R (.ok (.ret (.bool (us.size != zs.size)))) _;rw[hz];simpa using h
 | succ k I=>
  intro i M A R s h;obtain⟨J,g,d,tk,G⟩:=s;obtain⟨p,r,x,h⟩:=h;have u:i<us.size:=by omega
  have a:i<zs.size:=by omega
  have f:us[((i:Nat):Int).toNat]?=some us[i]:=by simp[u]
  have e:zs[((i:Nat):Int).toNat]?=some zs[i]:=by simp[a]
  have y:((i:Int)+1)=((i+1:Nat):Int):=by push_cast;rfl
  have o:=I (i+1) (by omega)
  cases c with
  | true=>
   simp only[if_true]at o⊢
   wp_walk using wpAny_loadPart' p,wpAny_loadPart' r
   rw[f,e];refine zX (x i u a _ _ ?_)
   wp_walk
   rw[y]
   exact⟨plainId_quiet plain_eq_loop _,codeAny_builtin entry_eq_loop (by
    rw[Around.under_plainId plain_eq_loop _];exact o A R _ ⟨p,r,x,h⟩)⟩
  | false=>
   simp only[Bool.false_eq_true,if_false]at o⊢
   wp_walk using wpAny_loadPart' p,wpAny_loadPart' r
   rw[f,e];refine zX (x i u a _ _ ?_)
   wp_walk
   rw[y]
   exact⟨plainId_quiet plain_eq_loop _,codeAny_builtin entry_eq_loop (by
    rw[Around.under_plainId plain_eq_loop _];exact o A R _ ⟨p,r,x,h⟩)⟩
theorem xua {P:Program} {w:World} {l b:Addr} {us zs:Array Value} {n m:Nat} {o i:Option Addr} {c a:Array (Option Value)} (hz:us.size=zs.size) :
  MeetsIn P w (Builtin.«list.__eq__» ⟨[.ref l,.ref b],[]⟩)
   (λA R s=>s.heap.get? l=some {cls:=.type "list",dict:=o,data:=.seq us n,slots:=c}/\s.heap.get? b=some {cls:=.type "list",dict:=i,data:=.seq zs m,slots:=a} ∧
    (∀j (z:j<us.size) (y:j<zs.size),EqW P w A.in1 s us[j] zs[j])/\R (.ok (.ret (.bool true))) s):=by
 intro A R s h;obtain⟨x,g,d,tk,u⟩:=s;obtain⟨e,f,r,h⟩:=h;have C:=AutoSeq1.sub_list_list;have p:¬(us.size != zs.size)=true:=by simp[hz]
 wp_walk using wpAny_loadPart' e,wpAny_loadPart' f
 exact⟨plainId_quiet plain_eq_loop _,codeAny_builtin entry_eq_loop (by
  rw[Around.under_plainId plain_eq_loop _];exact xjw l b us zs n m o i c a hz true _ 0 rfl A R _ ⟨e,f,r,h⟩)⟩
theorem xt9 {P:Program} {w:World} {l b:Addr} {us zs:Array Value} {n m:Nat} {o i:Option Addr} {c a:Array (Option Value)} (hz:us.size=zs.size) :
  MeetsIn P w (Builtin.«list.__ne__» ⟨[.ref l,.ref b],[]⟩)
   (λA R s=>s.heap.get? l=some {cls:=.type "list",dict:=o,data:=.seq us n,slots:=c}/\s.heap.get? b=some {cls:=.type "list",dict:=i,data:=.seq zs m,slots:=a} ∧
    (∀j (z:j<us.size) (y:j<zs.size),EqW P w A.in1 s us[j] zs[j])/\R (.ok (.ret (.bool false))) s):=by
 intro A R s h;obtain⟨x,g,d,tk,u⟩:=s;obtain⟨e,f,r,h⟩:=h;have C:=AutoSeq1.sub_list_list;have p:¬(us.size != zs.size)=true:=by simp[hz]
 wp_walk using wpAny_loadPart' e,wpAny_loadPart' f
 exact⟨plainId_quiet plain_eq_loop _,codeAny_builtin entry_eq_loop (by
  rw[Around.under_plainId plain_eq_loop _];exact xjw l b us zs n m o i c a hz false _ 0 rfl A R _ ⟨e,f,r,h⟩)⟩
theorem xs5 {P:Program} {w:World} {l b:Addr} {us zs:Array Value} {n m:Nat} {I G:Option Addr} {j i:Array (Option Value)} (hz:us.size=zs.size) :
  MeetsIn P w (Builtin.«tuple.__eq__» ⟨[.ref l,.ref b],[]⟩) (λA R s=>s.heap.get? l=some {cls:=.type "tuple",dict:=I,data:=.seq us n,slots:=j}/\s.heap.get? b=some {cls:=.type "tuple",dict:=G,data:=.seq zs m,slots:=i} ∧
   (∀p∈us.toList.zip zs.toList,EqW P w A.in1 s p.1 p.2)/\R (.ok (.ret (.bool true))) s):=
 .of_wp λA R s h=>by
  obtain⟨h0,C,J,g,o⟩:=s;obtain⟨r,z,u,h⟩:=h;have M:=AutoSeq1.sub_tuple_tuple
  wp_walk using AutoSeq1.wpAny_loadPart' r,AutoSeq1.wpAny_loadPart' z,wpAny_forIn_list _ (λrest c s'=>c.1=none/\s'=⟨h0,C,J,g,o⟩/\∀p∈rest,p∈us.toList.zip zs.toList) _
  case turn=>
   rintro⟨y,x⟩ rest c s' ⟨e,rfl,f⟩;refine zX (u (y,x) (f _ (by simp)) _ _ ?_)
   wp_walk
   exact⟨rfl,rfl,λp a=>f p (by simp[a])⟩
  case fin=>
   rintro⟨U,O⟩ s' ⟨e,rfl,_⟩;simp only at e;subst e
   wp_walk
   exact⟨_,rfl,by simpa[Builtin.Tuple.tupleCompareSizes,hz] using h⟩
  case h=>exact⟨rfl,rfl,λp a=>a⟩
end L2
end
section
namespace L2
open PySem PySem.Spec PySem.W PyProof.Rows M
open PySem.SeqAt
abbrev opC(c:Bool):CmpOp:=if c=true then .Eq else .NotEq
def RcW(P:Program)(w:World)(A:Around)(s:Shared)(c:Bool)(y x:Value):Prop:=∀(E:Value->Shared->Prop) (Q:Value->Shared->Prop),Q (.bool c) s->wpAny (model P w) A (compareOp (opC c) y x) Q E s
theorem xp8{P:Program}{w:World}{A:Around}{s:Shared}{a b:Addr}(h:RcW P w A s true (.ref a) (.ref b)):EqW P w A s (.ref a) (.ref b):=by
 by_cases e:a=b
 ·subst e
  exact xm1 (EqAt.same _)
 intro E Q q;unfold eqBool;refine qL ?_;refine wpAny_ite_split (λc=>absurd (by have:=eq_of_beq c;injection this) e) (λ_=>?_);exact zX (h E _ (wpAny_truthy_bool q))
def EqA(H:Hp)(x y:V):Prop:=(∃d:D,RelD H x d/\RelD H y d/\d.deep<=100)\/∃a b us zs ds,x=.ref a/\y=.ref b/\H a=some (.lst us)/\H b=some (.lst zs)/\RelDs H us ds/\RelDs H zs ds/\xgt ds<=100
def EqS(H:Hp):Nat->V->V->Prop
 |0,x,y=>EqA H x y
 |n+1,x,y=>EqS H n x y\/(∃a b us zs,x=.ref a/\y=.ref b/\((H a=some (.tup us)/\H b=some (.tup zs))\/(H a=some (.lst us)/\H b=some (.lst zs)))/\us.length=zs.length/\∀(i:Nat) u z,us[i]?=some u->zs[i]?=some z->EqS H n u z) ∨
  ∃a b,∃k1 k2:List (Key×V),x=.ref a/\y=.ref b/\H a=some (.dK k1)/\H b=some (.dK k2)/\k1.length=k2.length/\∀p∈k1,∃v,valV k2 p.1=some v/\EqA H p.2 v
theorem EqS.mono{H:Hp}{n:Nat}{x y:V}(h:EqS H n x y):∀m,EqS H (n+m) x y
 |0=>h
 |m+1=>.inl (EqS.mono h m)
theorem EqS.dat{H:Hp}{n:Nat}{x y:V}(h:EqA H x y):EqS H n x y:=by
 have:=EqS.mono (n:=0) h n
 rwa[Nat.zero_add]at this
section
variable {X:Cx}{pins:List (Addr×Obj)}{σ:St}{H:Hp}{s:Shared}{A:Around}
theorem xub (I:Inv X O σ H s) {a b:Addr} {us zs:List V} (ha:H a=some (.lst us)) (hb:H b=some (.lst zs)) (hl:us.length=zs.length) (U:A.units<cLine)
  (he:∀(i:Nat) u z (G C:Value),us[i]?=some u->zs[i]?=some z->RelV u G->RelV z C->EqW X.prog X.w A.in1 s G C) (c:Bool):RcW X.prog X.w A s c (.ref a) (.ref b):=by
 intro E Q q;obtain⟨p,M,o1,_⟩:=I.list (zC (K:=X.K) ha);obtain⟨o,J,o2,_⟩:=I.list (zC (K:=X.K) hb);have e1:=M.length;have e2:=J.length;have hi:=o1.isList;have r:=o2.isList;obtain⟨⟨cls,dd,data,sl⟩,f,Y,n,hd⟩:=id hi;obtain⟨⟨a0,a2,y,a1⟩,e,m,n2,l⟩:=id r;simp only at Y hd m l;subst Y hd m l;have g:Value.bool c≠Value.notImplemented:=λx=>nomatch x;have hz:p.toArray.size=o.toArray.size:=by simp only[List.size_toArray];omega
 have h:∀j (h1:j<p.toArray.size) (Z:j<o.toArray.size),EqW X.prog X.w A.in1 s p.toArray[j] o.toArray[j]:=λj h1 Z=>by
  obtain⟨x1,f1,g1⟩:=xfo M h1;obtain⟨x2,f2,g2⟩:=xfo J Z;exact he j x1 x2 _ _ f1 f2 g1 g2
 cases c with
 |true=>exact wpAny_richCompare_same_room (op:=.Eq) ⟨_,f,rfl⟩ ⟨_,e,rfl⟩ PySem.F.slot_list_eq (call_meetsIn PySem.F.slot_list_eq ⟨_,f,rfl⟩ PySem.F.entry_list_eq (PySem.F.args_list_eq_2 _ _) (xua hz) ⟨f,e,h,g,q⟩) U
 |false=>exact wpAny_richCompare_same_room (op:=.NotEq) ⟨_,f,rfl⟩ ⟨_,e,rfl⟩ PySem.F.slot_list_ne (call_meetsIn PySem.F.slot_list_ne ⟨_,f,rfl⟩ PySem.F.entry_list_ne (PySem.F.args_list_ne_2 _ _) (xt9 hz) ⟨f,e,h,g,q⟩) U
theorem xs6 (I:Inv X Y σ H s) {a b:Addr} {us zs:List V} (ha:H a=some (.tup us)) (hb:H b=some (.tup zs)) (hl:us.length=zs.length) (Z:A.units<cLine)
  (he:∀(i:Nat) u z (M J:Value),us[i]?=some u->zs[i]?=some z->RelV u M->RelV z J->EqW X.prog X.w A.in1 s M J) (c:Bool):RcW X.prog X.w A s c (.ref a) (.ref b):=by
 intro E Q q;obtain⟨y,U,p1,_⟩:=I.tuple (zB (K:=X.K) ha);obtain⟨r,O,p2,_⟩:=I.tuple (zB (K:=X.K) hb);have e1:=U.length;have e2:=O.length;obtain⟨⟨cls,dd,data,sl⟩,g,hc,n,hd⟩:=id p1;obtain⟨⟨a0,a2,G,a1⟩,f,o,n2,m⟩:=id p2;simp only at hc hd o m;subst hc hd o m;have h:Value.bool c≠Value.notImplemented:=λx=>nomatch x;have hz:y.toArray.size=r.toArray.size:=by simp only[List.size_toArray];omega
 have l:∀p∈y.toArray.toList.zip r.toArray.toList,EqW X.prog X.w A.in1 s p.1 p.2:=λp hp=>by
  obtain⟨j,C,e⟩:=zMI hp;rw[List.length_zip]at C;have h1:j<y.toArray.size:=by simp at C⊢;omega
  have h2:j<r.toArray.size:=by simp at C⊢;omega
  obtain⟨x1,f1,g1⟩:=xfo U h1;obtain⟨x2,f2,g2⟩:=xfo O h2;rw[<- e,List.getElem_zip];exact he j x1 x2 _ _ f1 f2 (by simpa using g1) (by simpa using g2)
 cases c with
 |true=>exact wpAny_richCompare_same_room (op:=.Eq) ⟨_,g,rfl⟩ ⟨_,f,rfl⟩ PySem.F.slot_tuple_eq (call_meetsIn PySem.F.slot_tuple_eq ⟨_,g,rfl⟩ PySem.F.entry_tuple_eq (PySem.F.args_tuple_eq_2 _ _) (xs5 hz) ⟨g,f,l,h,q⟩) Z
 |false=>exact wpAny_richCompare_same_room (op:=.NotEq) ⟨_,g,rfl⟩ ⟨_,f,rfl⟩ PySem.F.slot_tuple_ne (call_meetsIn PySem.F.slot_tuple_ne ⟨_,g,rfl⟩ PySem.F.entry_tuple_ne (PySem.F.args_tuple_ne_2 _ _) (xs4 hz) ⟨g,f,l,h,q⟩) Z
theorem xsx(I:Inv X r σ H s){x y:V}{u v:Value}(h:EqA H x y)(l:RelV x u)(i:RelV y v)(hu:A.units+110<cLine):EqAt A s u v true:=by
 rcases h with⟨d,g,f,hd⟩ |⟨a,b,us,zs,ds,rfl,rfl,Y,U,n,m,hd⟩
 ·exact xp7 I 100 d hd g f l i (by omega)
 ·obtain rfl:u=.ref a:=l
  obtain rfl:v=.ref b:=i;by_cases c:a=b
  ·subst c
   exact EqAt.same _
  obtain⟨O,p,G,_⟩:=I.list (zC (K:=X.K) Y);obtain⟨i2,o,C,_⟩:=I.list (zC (K:=X.K) U);have e1:=p.length;have e2:=o.length;have e3:=n.length;have e4:=m.length;have:=EqAt.of_refs c (RcAt.lists (A:=A) (e:=λ_=>true) G.isList C.isList (by simp only[List.size_toArray];omega) (by omega) λj g f=>?_)
  ·have e:(List.range O.toArray.size).all (λ_=>true)=true:=by simp
   rw[e]at this;exact this
  ·obtain⟨x1,f1,g1⟩:=xfo p g
   obtain⟨x2,f2,Z⟩:=xfo o f;obtain⟨d1,z,M⟩:=n.get f1;obtain⟨d2,w,J⟩:=m.get f2;rw[z]at w;cases w;exact xp7 I 100 d1 (zY (xed (zMG z)) hd) M J g1 Z (by show A.units+1+100<cLine;omega)
theorem xm3(I:Inv X i σ H s)(l:A.units+110<cLine){j:List (Key×V)}{a:List (Key×Value)}(h:KV j a):∀(ks:List (Key×V)) (us:List (Key×Value)),KV ks us->(∀p∈ks,∃v,valV j p.1=some v/\EqA H p.2 v)->KeqHits A s a us true
 |[],us,r,_=>by cases r;exact .nil
 | k::ks,us,r,hd=>by
  cases r with
  | @cons _ m _ f w n=>
   obtain⟨v,z,x⟩:=hd k (by simp);have c:=h.val k.1;rw[z]at c
   cases g:valueAt a k.1 with
   |none=>rw[g]at c;exact c.elim
   |some y=>
    rw[g]at c;obtain⟨G,C⟩:=m;obtain⟨rfl,u⟩:=w;have:=KeqHits.hit (e:=true) (b:=true) g (xsx I x u c l) (xm3 I l h ks f n λp o=>hd p (qF _ o));exact this
theorem xwj (I:Inv X o σ H s) {a b:Addr} {m n:List (Key×V)} (C:H a=some (.dK m)) (y:H b=some (.dK n)) (M:m.length=n.length) (J:A.units+111<cLine)
  (x:∀p∈m,∃v,valV n p.1=some v/\EqA H p.2 v) (c:Bool):RcW X.prog X.w A s c (.ref a) (.ref b):=by
 intro E Q q;obtain⟨z,j,vs,h,u⟩:=xlt I.hok C;obtain⟨G,i,g,e,l⟩:=xlt I.hok y;have U:=h.length;have O:=e.length;have f:=xm3 (A:=A.in1) I (by show A.units+1+110<cLine;omega) e m vs h x;have r:(vs.length == g.length && true)=true:=by rw[show vs.length=g.length by omega];simp
 cases c with
 |true=>exact keq_eq j i u l (by omega) (λ_=>f) (by rw[r];exact q)
 |false=>exact keq_ne j i u l (by omega) (λ_=>f) (by rw[r];exact q)
theorem xuk(I:Inv X r σ H s):∀(n:Nat) {x y:V} {u v:Value} {A:Around},EqS H n x y->RelV x u->RelV y v->A.units+120+n<cLine->EqW X.prog X.w A s u v
 |0,x,y,u,v,A,h,e,c,C=>xm1 (xsx I h e c (by omega))
 | n+1,x,y,u,v,A,h,e,c,C=>by
  rcases h with h |⟨a,b,us,zs,rfl,rfl,h,l,p⟩ |⟨a,b,Y,U,rfl,rfl,j,g,l,p⟩
  ·exact xuk I n h e c (by omega)
  ·obtain rfl:u=.ref a:=e
   obtain rfl:v=.ref b:=c;have f:∀(i:Nat) u z (o m:Value),us[i]?=some u->zs[i]?=some z->RelV u o->RelV z m->EqW X.prog X.w A.in1 s o m:=λi u z o m O M J G=>xuk I n (p i u z O M) J G (by show A.units+1+120+n<cLine;omega);rcases h with⟨j,g⟩ |⟨j,g⟩
   ·exact xp8 (xs6 I j g l (by omega) f true)
   ·exact xp8 (xub I j g l (by omega) f true)
  ·obtain rfl:u=.ref a:=e
   obtain rfl:v=.ref b:=c;exact xp8 (xwj I j g l (by omega) p true)
def rEqZ(c:Bool):R2:=λx y H Q=>EqS H 12 x y/\(∃a b,x=.ref a/\y=.ref b)/\Q (.bl c) H
theorem rcS(I:Inv X a0 σ H s)(c:Bool):∀(n:Nat) {a b:Addr} {A:Around},EqS H n (.ref a) (.ref b)->A.units+120+n<cLine->RcW X.prog X.w A s c (.ref a) (.ref b)
 | 0,a,b,A,h,hA=>by
  rcases h with⟨d,x,Z,hd⟩ |⟨a',b',us,zs,ds,j,g,f,e,p,o,hd⟩
  ·cases d with
   |int i=>exact nomatch x
   |str z=>exact nomatch x
   |tup ds=>
    obtain⟨a',us,j,f,p⟩:=x;obtain⟨b',zs,g,e,o⟩:=Z;cases j;cases g;refine xs6 I f e (by rw[p.length,o.length]) (by omega) (λi u z m l J G U O=>?_) c;obtain⟨d1,C,g1⟩:=p.get J;obtain⟨d2,y,g2⟩:=o.get G;rw[C]at y;cases y;have h':xgt ds+1<=100:=hd;exact xm1 (xp7 I 100 d1 (zY (xed (zMG C)) (by omega)) g1 g2 U O (by show A.units+1+100<cLine;omega))
  ·cases j
   cases g;refine xub I f e (by rw[p.length,o.length]) (by omega) (λi u z m l J G U O=>?_) c;obtain⟨d1,C,g1⟩:=p.get J;obtain⟨d2,y,g2⟩:=o.get G;rw[C]at y;cases y;exact xm1 (xp7 I 100 d1 (zY (xed (zMG C)) hd) g1 g2 U O (by show A.units+1+100<cLine;omega))
 | n+1,a,b,A,h,hA=>by
  rcases h with h |⟨a',b',us,zs,j,g,h,M,Y⟩ |⟨a',b',J,G,j,g,f,e,M,Y⟩
  ·exact rcS I c n h (by omega)
  ·cases j
   cases g;have r:∀(i:Nat) u z (m l:Value),us[i]?=some u->zs[i]?=some z->RelV u m->RelV z l->EqW X.prog X.w A.in1 s m l:=λi u z m l x Z h3 h4=>xuk I n (Y i u z x Z) h3 h4 (by show A.units+1+120+n<cLine;omega);rcases h with⟨f,e⟩ |⟨f,e⟩
   ·exact xs6 I f e M (by omega) r c
   ·exact xub I f e M (by omega) r c
  ·cases j
   cases g;exact xwj I f e M (by omega) Y c
theorem xsp(j:X.A.units+200<cLine)(c:Bool):OpR X (compareOp (opC c)) (rEqZ c):=by
 intro e s σ H x y v u Q I g f h;obtain⟨i,⟨a,b,rfl,rfl⟩,q⟩:=h;obtain rfl:v=.ref a:=g;obtain rfl:u=.ref b:=f;exact rcS I c 12 i (by omega) _ _ ⟨.bl c,H,I,rfl,q⟩
theorem xo1(a:X.A.units+200<cLine):OpR X (compareOp .Eq) (rEqZ true):=xsp a true
theorem xfh(a:X.A.units+200<cLine):OpR X (compareOp .NotEq) (rEqZ false):=xsp a false
end
end L2
end
section
namespace Zt
open PySem PySem.Spec PyProof.Rows
abbrev IsTri(h:Heap)(T:Addr)(a b c:Value):Prop:=h.get? T=some {cls:=.type "tuple",data:=.seq #[a,b,c]}
theorem apt{a b:Nat}(h:a≠b:=by omega):a≠b:=h
section
variable {prog:Program}{w:World}{A:Around}{E:Value->Shared->Prop}{s:Shared}
theorem nxL{it l:Addr}{xs:Array Value}(f:l≠it):Nx prog w it l xs λh k=>h.IsListIter it l k/\h.IsList l xs where
 item:=λp c i=>wpAny_nextOf_list_item p.1 p.2 c λh' a s=>i h' ⟨a,p.2.extBut s.extBut f⟩ s
 last:=λg p c j=>wpAny_nextOf_list_end g p.1 p.2 c j
 kept:=λp a b=>⟨p.1.at a,p.2.at b⟩
 there:=λp=>by obtain⟨o,e,_⟩:=p.1;exact⟨o,e⟩
theorem xkr {T:Addr} {a b c x:Value} {k:Nat} {Q:Unit->Shared->Prop} (e:IsTri s.heap T a b c)
  (h:∀h',h'.get? T=some {cls:=.type "tuple",data:=.seq ((#[a,b,c]:Array Value).setIfInBounds k x)}->Heap.SameBut T s.heap h'->Q () {s with heap:=h'}):wpAny (model prog w) A (updateSeq T (·.setIfInBounds k x)) Q E s:=by
 refine wpAny_updateSeq e rfl (h _ ?_ (Heap.SameBut.update ..));rw[Heap.get?_update_self _ e rfl];simp[Obj.mapSeq]
theorem first3 {Y U O:Heap->Nat->Prop} {B l1 l2 l3 k:Nat} {xs ys vs:Array Value} {x y v a b c:Value} {Q:Value->Shared->Prop} (L1:l1<B) (L2:l2<B) (L3:l3<B)
  (hz:IsZip s.heap (B+5) (B+3) (B+4) .none) (a1:IsTri s.heap (B+3) (.ref B) (.ref (B+1)) (.ref (B+2))) (a0:IsTri s.heap (B+4) a b c)
  (i:Nx prog w B l1 xs Y) (h:Nx prog w (B+1) l2 ys U) (g:Nx prog w (B+2) l3 vs O) (h1:Y s.heap k) (h2:U s.heap k) (h3:O s.heap k) (hx:xs[k]?=some x) (hy:ys[k]?=some y) (hv:vs[k]?=some v)
  (hQ:∀h',IsZip h' (B+5) (B+3) (B+4) (rawInt s.heap.objs.size)->IsTri h' (B+4) x y v->Y h' (k+1)->U h' (k+1)->O h' (k+1)->IsTri h' s.heap.objs.size x y v->h'.objs.size=s.heap.objs.size+1->
   (∀c o,c≠B+5->c≠B+4->c≠B->c≠B+1->c≠B+2->s.heap.get? c=some o->h'.get? c=some o)->Q (.ref s.heap.objs.size) {s with heap:=h'}) :
  wpAny (model prog w) A (Builtin.«zip.__next__» ⟨[.ref (B+5)],[]⟩) (λfin s'=>∃v,fin=.done (.ret v)/\Q v s') E s:=by
 show wpAny _ _ (field (.ref (B+5)) 2 >>= _) _ _ _;refine zX (qK hz rfl (x:=.bool false) rfl ?_);show wpAny _ _ (field (.ref (B+5)) 3 >>= _) _ _ _;refine zX (qK hz rfl (x:=.ref (B+3)) rfl (zX (wpAny_seqItems a1 rfl ?_)));show wpAny _ _ (Builtin.SmallTypes.ownedTupleIsFree (.ref (B+5)) >>= _) _ _ _;refine zX ?_;unfold Builtin.SmallTypes.ownedTupleIsFree;refine zX (qK hz rfl (x:=.none) rfl (z5 ?_));simp only[if_true];refine zX (wpAny_rule (zX (qK hz rfl (x:=.ref (B+4)) rfl ?_)));refine zX (wpAny_setField_rec hz (by simp) λg1 z1 z=>?_)
 replace z1:IsZip g1 (B+5) (B+3) (B+4) .ellipsis:=z1
 refine zX ?_;simp only[List.zipIdx_cons,List.zipIdx_nil,List.forIn_cons,List.forIn_nil];refine zX (zX (wpAny_onRaise ?_));show wpAny _ _ (Builtin.SmallTypes.nextOf (.ref B) >>= _) _ _ _;refine zX (i.item (i.ext h1 z.extBut apt apt) hx λg2 p1 u=>z5 ?_);have t2:IsTri g2 (B+4) a b c:=u.extBut _ _ apt (z.extBut _ _ apt a0);refine zX (wpAny_seqItems t2 rfl (zX (xkr t2 λg3 t3 r=>?_)))
 replace t3:IsTri g3 (B+4) x b c:=t3
 refine zX (wpAny_letGo (z5 ?_));refine zX (zX (wpAny_onRaise ?_));show wpAny _ _ (Builtin.SmallTypes.nextOf (.ref (B+1)) >>= _) _ _ _;refine zX (h.item (h.ext (h.ext (h.ext h2 z.extBut apt apt) u.extBut apt apt) r.extBut apt apt) hy λg4 p2 p=>z5 ?_);have t4:IsTri g4 (B+4) x b c:=p.extBut _ _ apt t3;refine zX (wpAny_seqItems t4 rfl (zX (xkr t4 λg5 t5 n=>?_)))
 replace t5:IsTri g5 (B+4) x y c:=t5
 refine zX (wpAny_letGo (z5 ?_));refine zX (zX (wpAny_onRaise ?_));show wpAny _ _ (Builtin.SmallTypes.nextOf (.ref (B+2)) >>= _) _ _ _;refine zX (g.item (g.ext (g.ext (g.ext (g.ext (g.ext h3 z.extBut apt apt) u.extBut apt apt) r.extBut apt apt) p.extBut apt apt) n.extBut apt apt) hv λg6 p3 m=>z5 ?_);have t6:IsTri g6 (B+4) x y c:=m.extBut _ _ apt t5;refine zX (wpAny_seqItems t6 rfl (zX (xkr t6 λf M l=>?_)))
 replace M:IsTri f (B+4) x y v:=M
 refine zX (wpAny_letGo (z5 (z5 ?_)));refine zX (wpAny_seqItems M rfl (zX (wpAny_newTuple ?_)));have sz:f.objs.size=s.heap.objs.size:=by rw[l.1,m.1,n.1,p.1,r.1,u.1,z.1]
 have z7:IsZip f (B+5) (B+3) (B+4) .ellipsis:=l.extBut _ _ apt (m.extBut _ _ apt (n.extBut _ _ apt (p.extBut _ _ apt (r.extBut _ _ apt (u.extBut _ _ apt z1)))))
 have k7:∀c o,c≠B+5->c≠B+4->c≠B->c≠B+1->c≠B+2->s.heap.get? c=some o->f.get? c=some o:=λc o j G n3 n4 n5 e=>
  l.extBut _ _ G (m.extBut _ _ n5 (n.extBut _ _ G (p.extBut _ _ n4 (r.extBut _ _ G (u.extBut _ _ n3 (z.extBut _ _ j e))))))
 have q1:Y f (k+1):=i.ext (i.ext (i.ext (i.ext (i.ext p1 r.extBut apt apt) p.extBut apt apt) n.extBut apt apt) m.extBut apt apt) l.extBut apt apt;have q2:U f (k+1):=h.ext (h.ext (h.ext p2 n.extBut apt apt) m.extBut apt apt) l.extBut apt apt;have q3:O f (k+1):=g.ext p3 l.extBut apt apt;have C:B+5<f.objs.size:=z6 z7;show wpAny _ _ (Builtin.SmallTypes.ownedTupleHandOut (.ref (B+5)) (.ref f.objs.size) >>= _) _ _ _;refine zX ?_;unfold Builtin.SmallTypes.ownedTupleHandOut;have z8:IsZip (f.push {cls:=.type "tuple",data:=.seq #[x,y,v]}) (B+5) (B+3) (B+4) .ellipsis:=zPO _ z7;refine zX (wpAny_setField_rec z8 (by simp) λg9 Z e9=>?_)
 replace Z:IsZip g9 (B+5) (B+3) (B+4) (rawInt f.objs.size):=Z
 refine wpAny_setField_rec Z (by simp) λI J ef=>?_
 replace J:IsZip I (B+5) (B+3) (B+4) (rawInt f.objs.size):=J
 have up:∀c o,c≠B+5->f.get? c=some o->I.get? c=some o:=λc o j e=>ef.extBut _ _ j (e9.extBut _ _ j (zPO _ e));have tt:IsTri I f.objs.size x y v:=ef.extBut _ _ (Nat.ne_of_gt C) (e9.extBut _ _ (Nat.ne_of_gt C) (z9 _ rfl));have s8:I.objs.size=f.objs.size+1:=by rw[ef.1,e9.1,Heap.size_push]
 rw[sz]at J tt s8;refine z5 ⟨_,rfl,?_⟩;show Q (.ref f.objs.size) _;rw[sz];exact hQ I J (up _ _ apt M) (i.kept q1 (λo e=>up _ o apt e) λo e=>up _ o apt e) (h.kept q2 (λo e=>up _ o apt e) λo e=>up _ o apt e) (g.kept q3 (λo e=>up _ o apt e) λo e=>up _ o apt e) tt s8 λc o j G n3 n4 n5 e=>up c o j (k7 c o j G n3 n4 n5 e)
theorem end3 {r:Heap->Nat->Prop} {B l k:Nat} {xs:Array Value} {Q:Fin->Shared->Prop} (G:A.handled=none) (Y:l<B)
  (hz:IsZip s.heap (B+5) (B+3) (B+4) .none) (h:IsTri s.heap (B+3) (.ref B) (.ref (B+1)) (.ref (B+2))) (u:Nx prog w B l xs r) (M:r s.heap k) (C:xs[k]?=none)
  (J:∀h' e,(∀c o,c≠B+5->c≠B->s.heap.get? c=some o->h'.get? c=some o)->(∃o,h'.get? e=some o/\o.cls=.type "StopIteration")->E (.ref e) {s with heap:=h'}) :
  wpAny (model prog w) A (Builtin.«zip.__next__» ⟨[.ref (B+5)],[]⟩) Q E s:=by
 show wpAny _ _ (field (.ref (B+5)) 2 >>= _) _ _ _;refine zX (qK hz rfl (x:=.bool false) rfl ?_);show wpAny _ _ (field (.ref (B+5)) 3 >>= _) _ _ _;refine zX (qK hz rfl (x:=.ref (B+3)) rfl (zX (wpAny_seqItems h rfl ?_)));show wpAny _ _ (Builtin.SmallTypes.ownedTupleIsFree (.ref (B+5)) >>= _) _ _ _;refine zX ?_;unfold Builtin.SmallTypes.ownedTupleIsFree;refine zX (qK hz rfl (x:=.none) rfl (z5 ?_));simp only[if_true];refine zX (wpAny_rule (zX (qK hz rfl (x:=.ref (B+4)) rfl ?_)));refine zX (wpAny_setField_rec hz (by simp) λU f p=>?_)
 replace f:IsZip U (B+5) (B+3) (B+4) .ellipsis:=f
 refine zX ?_;simp only[List.zipIdx_cons,List.zipIdx_nil,List.forIn_cons,List.forIn_nil];refine zX (zX (wpAny_onRaise ?_));show wpAny _ _ (Builtin.SmallTypes.nextOf (.ref B) >>= _) _ _ _;refine zX (u.last G (u.ext M p.extBut apt apt) C λO e n I=>?_);obtain⟨y,a,b⟩:=I;have i:IsZip O (B+5) (B+3) (B+4) .ellipsis:=n _ _ apt f;have g:e≠B+5:=λx=>by subst x;rw[i]at a;cases a;simp at b
 refine wpAny_setField_rec i (by simp) λg3 _ m=>J g3 e (λc o j z x=>m.extBut _ _ j (n _ _ z (p.extBut _ _ j x))) ⟨y,m.extBut _ _ g a,b⟩
theorem first2 {I G:Heap->Nat->Prop} {B l1 l2 k:Nat} {xs ys:Array Value} {x y a b:Value} {Q:Value->Shared->Prop} (L1:l1<B) (L2:l2<B)
  (hz:IsZip s.heap (B+4) (B+2) (B+3) .none) (a0:IsPair s.heap (B+2) (.ref B) (.ref (B+1))) (Z:IsPair s.heap (B+3) a b)
  (h:Nx prog w B l1 xs I) (g:Nx prog w (B+1) l2 ys G) (h1:I s.heap k) (h2:G s.heap k) (hx:xs[k]?=some x) (hy:ys[k]?=some y)
  (hQ:∀h',IsZip h' (B+4) (B+2) (B+3) (rawInt s.heap.objs.size)->IsPair h' (B+3) x y->I h' (k+1)->G h' (k+1)->IsPair h' s.heap.objs.size x y->h'.objs.size=s.heap.objs.size+1->
   (∀c o,c≠B+4->c≠B+3->c≠B->c≠B+1->s.heap.get? c=some o->h'.get? c=some o)->Q (.ref s.heap.objs.size) {s with heap:=h'}) :
  wpAny (model prog w) A (Builtin.«zip.__next__» ⟨[.ref (B+4)],[]⟩) (λfin s'=>∃v,fin=.done (.ret v)/\Q v s') E s:=by
 show wpAny _ _ (field (.ref (B+4)) 2 >>= _) _ _ _;refine zX (qK hz rfl (x:=.bool false) rfl ?_);show wpAny _ _ (field (.ref (B+4)) 3 >>= _) _ _ _;refine zX (qK hz rfl (x:=.ref (B+2)) rfl (zX (wpAny_seqItems a0 rfl ?_)));show wpAny _ _ (Builtin.SmallTypes.ownedTupleIsFree (.ref (B+4)) >>= _) _ _ _;refine zX ?_;unfold Builtin.SmallTypes.ownedTupleIsFree;refine zX (qK hz rfl (x:=.none) rfl (z5 ?_));simp only[if_true];refine zX (wpAny_rule (zX (qK hz rfl (x:=.ref (B+3)) rfl ?_)));refine zX (wpAny_setField_rec hz (by simp) λg1 M r=>?_)
 replace M:IsZip g1 (B+4) (B+2) (B+3) .ellipsis:=M
 refine zX ?_;simp only[List.zipIdx_cons,List.zipIdx_nil,List.forIn_cons,List.forIn_nil];refine zX (zX (wpAny_onRaise ?_));show wpAny _ _ (Builtin.SmallTypes.nextOf (.ref B) >>= _) _ _ _;refine zX (h.item (h.ext h1 r.extBut apt apt) hx λg2 p1 p=>z5 ?_);have t2:IsPair g2 (B+3) a b:=p.extBut _ _ apt (r.extBut _ _ apt Z);refine zX (wpAny_seqItems t2 rfl (zX (wpAny_updateSeq_pair t2 λg3 O n=>?_)))
 replace O:IsPair g3 (B+3) x b:=O
 refine zX (wpAny_letGo (z5 ?_));refine zX (zX (wpAny_onRaise ?_));show wpAny _ _ (Builtin.SmallTypes.nextOf (.ref (B+1)) >>= _) _ _ _;refine zX (g.item (g.ext (g.ext (g.ext h2 r.extBut apt apt) p.extBut apt apt) n.extBut apt apt) hy λg4 p2 m=>z5 ?_);have t4:IsPair g4 (B+3) x b:=m.extBut _ _ apt O;refine zX (wpAny_seqItems t4 rfl (zX (wpAny_updateSeq_pair t4 λg5 z l=>?_)))
 replace z:IsPair g5 (B+3) x y:=z
 refine zX (wpAny_letGo (z5 (z5 ?_)));refine zX (wpAny_seqItems z rfl (zX (wpAny_newTuple ?_)));have sz:g5.objs.size=s.heap.objs.size:=by rw[l.1,m.1,n.1,p.1,r.1]
 have z7:IsZip g5 (B+4) (B+2) (B+3) .ellipsis:=l.extBut _ _ apt (m.extBut _ _ apt (n.extBut _ _ apt (p.extBut _ _ apt M)))
 have k7:∀c o,c≠B+4->c≠B+3->c≠B->c≠B+1->s.heap.get? c=some o->g5.get? c=some o:=λc o f C Y U e=>
  l.extBut _ _ C (m.extBut _ _ U (n.extBut _ _ C (p.extBut _ _ Y (r.extBut _ _ f e))))
 have q1:I g5 (k+1):=h.ext (h.ext (h.ext p1 n.extBut apt apt) m.extBut apt apt) l.extBut apt apt;have q2:G g5 (k+1):=g.ext p2 l.extBut apt apt;have i:B+4<g5.objs.size:=z6 z7;show wpAny _ _ (Builtin.SmallTypes.ownedTupleHandOut (.ref (B+4)) (.ref g5.objs.size) >>= _) _ _ _;refine zX ?_;unfold Builtin.SmallTypes.ownedTupleHandOut;have z8:IsZip (g5.push {cls:=.type "tuple",data:=.seq #[x,y]}) (B+4) (B+2) (B+3) .ellipsis:=zPO _ z7;refine zX (wpAny_setField_rec z8 (by simp) λg9 J e9=>?_)
 replace J:IsZip g9 (B+4) (B+2) (B+3) (rawInt g5.objs.size):=J
 refine wpAny_setField_rec J (by simp) λj u ef=>?_
 replace u:IsZip j (B+4) (B+2) (B+3) (rawInt g5.objs.size):=u
 have up:∀c o,c≠B+4->g5.get? c=some o->j.get? c=some o:=λc o f e=>ef.extBut _ _ f (e9.extBut _ _ f (zPO _ e));have tt:IsPair j g5.objs.size x y:=ef.extBut _ _ (Nat.ne_of_gt i) (e9.extBut _ _ (Nat.ne_of_gt i) (z9 _ rfl));have s8:j.objs.size=g5.objs.size+1:=by rw[ef.1,e9.1,Heap.size_push]
 rw[sz]at u tt s8;refine z5 ⟨_,rfl,?_⟩;show Q (.ref g5.objs.size) _;rw[sz];exact hQ j u (up _ _ apt z) (h.kept q1 (λo e=>up _ o apt e) λo e=>up _ o apt e) (g.kept q2 (λo e=>up _ o apt e) λo e=>up _ o apt e) tt s8 λc o f C Y U e=>up c o f (k7 c o f C Y U e)
theorem end2 {r:Heap->Nat->Prop} {B l k:Nat} {xs:Array Value} {Q:Fin->Shared->Prop} (G:A.handled=none) (Y:l<B)
  (hz:IsZip s.heap (B+4) (B+2) (B+3) .none) (h:IsPair s.heap (B+2) (.ref B) (.ref (B+1))) (u:Nx prog w B l xs r) (M:r s.heap k) (C:xs[k]?=none)
  (J:∀h' e,(∀c o,c≠B+4->c≠B->s.heap.get? c=some o->h'.get? c=some o)->(∃o,h'.get? e=some o/\o.cls=.type "StopIteration")->E (.ref e) {s with heap:=h'}) :
  wpAny (model prog w) A (Builtin.«zip.__next__» ⟨[.ref (B+4)],[]⟩) Q E s:=by
 show wpAny _ _ (field (.ref (B+4)) 2 >>= _) _ _ _;refine zX (qK hz rfl (x:=.bool false) rfl ?_);show wpAny _ _ (field (.ref (B+4)) 3 >>= _) _ _ _;refine zX (qK hz rfl (x:=.ref (B+2)) rfl (zX (wpAny_seqItems h rfl ?_)));show wpAny _ _ (Builtin.SmallTypes.ownedTupleIsFree (.ref (B+4)) >>= _) _ _ _;refine zX ?_;unfold Builtin.SmallTypes.ownedTupleIsFree;refine zX (qK hz rfl (x:=.none) rfl (z5 ?_));simp only[if_true];refine zX (wpAny_rule (zX (qK hz rfl (x:=.ref (B+3)) rfl ?_)));refine zX (wpAny_setField_rec hz (by simp) λU f p=>?_)
 replace f:IsZip U (B+4) (B+2) (B+3) .ellipsis:=f
 refine zX ?_;simp only[List.zipIdx_cons,List.zipIdx_nil,List.forIn_cons,List.forIn_nil];refine zX (zX (wpAny_onRaise ?_));show wpAny _ _ (Builtin.SmallTypes.nextOf (.ref B) >>= _) _ _ _;refine zX (u.last G (u.ext M p.extBut apt apt) C λO e n I=>?_);obtain⟨y,a,b⟩:=I;have i:IsZip O (B+4) (B+2) (B+3) .ellipsis:=n _ _ apt f;have g:e≠B+4:=λx=>by subst x;rw[i]at a;cases a;simp at b
 refine wpAny_setField_rec i (by simp) λg3 _ m=>J g3 e (λc o j z x=>m.extBut _ _ j (n _ _ z (p.extBut _ _ j x))) ⟨y,m.extBut _ _ g a,b⟩
end
end Zt
end
section
namespace Zt
open PySem PySem.Spec PyProof.Rows
theorem xn1(a b c:Value):checkTypeCall "zip" ⟨[a,b,c],[]⟩=pure ():=by kernel_rfl
theorem xrm(a b c:Value):checkBuiltinCall "zip.__new__" ⟨[.type "zip",a,b,c],[]⟩=pure ():=by kernel_rfl
theorem xrh(a b c d:Value):argsOk "object.__init__" ⟨[a,b,c,d],[]⟩:=by kernel_rfl
abbrev lIt(l:Addr):Obj:={cls:=.type "list_iterator",data:=.fields #[.ref l,.int 0 0]}
abbrev tIt(l:Addr):Obj:={cls:=.type "tuple_iterator",data:=.fields #[.ref l,.int 0 0]}
abbrev g3(h:Heap)(l1 l2 l3:Addr):Heap:=((h.push (lIt l1)).push (lIt l2)).push (tIt l3)
abbrev g4(h:Heap)(l1 l2 l3:Addr):Heap:=(g3 h l1 l2 l3).push {cls:=.type "tuple",data:=.seq #[.ref h.objs.size,.ref (h.push (lIt l1)).objs.size,.ref ((h.push (lIt l1)).push (lIt l2)).objs.size]}
abbrev g5(h:Heap)(l1 l2 l3:Addr):Heap:=(g4 h l1 l2 l3).push {cls:=.type "tuple",data:=.seq #[.none,.none,.none]}
abbrev g6(h:Heap)(l1 l2 l3:Addr):Heap:=(g5 h l1 l2 l3).push {cls:=.type "zip",data:=.fields #[.none,.bool false,.bool false,.ref (g3 h l1 l2 l3).objs.size,.ref (g4 h l1 l2 l3).objs.size]}
theorem xv3 (a b c:Addr) (xs ys vs:Array Value) :
  Meets (Builtin.«zip.__new__» ⟨[.type "zip",.ref a,.ref b,.ref c],[]⟩) (λ_ R s=>s.heap.IsList a xs/\s.heap.IsList b ys/\s.heap.IsTuple c vs ∧
   R (.ok (.ret (.ref (g5 s.heap a b c).objs.size))) {s with heap:=g6 s.heap a b c}):=
 .of_wp λprog w A R s h=>by
  obtain⟨f,g,d,tk,e⟩:=s;obtain⟨l,j,i,h⟩:=h;have m:=sub_zip;have p:Heap.IsList (Shared.heap ⟨f,g,d,tk,e⟩) a xs:=l;have o:Heap.IsList (Shared.heap ⟨f.push (lIt a),g,d,tk,e⟩) b ys:=Heap.IsList.push j _;have n:Heap.IsTuple (Shared.heap ⟨(f.push (lIt a)).push (lIt b),g,d,tk,e⟩) c vs:=Heap.IsTuple.push (Heap.IsTuple.push i _) _
  wp_walk using wpAny_pyIter_list p,wpAny_pyIter_list o,wpAny_pyIter_tuple n
  exact⟨_,rfl,h⟩
section
variable {prog:Program}{w:World}{A:Around}{E:Value->Shared->Prop}{s:Shared}
theorem call3 {f g i:Addr} {xs ys vs:Array Value} {Q:Value->Shared->Prop} (y:s.heap.IsList f xs) (x:s.heap.IsList g ys) (u:s.heap.IsTuple i vs)
  (h:∀h',IsZip h' (s.heap.objs.size+5) (s.heap.objs.size+3) (s.heap.objs.size+4) .none->IsTri h' (s.heap.objs.size+3) (.ref s.heap.objs.size) (.ref (s.heap.objs.size+1)) (.ref (s.heap.objs.size+2))->(∃a b c,IsTri h' (s.heap.objs.size+4) a b c)->
   h'.IsListIter s.heap.objs.size f 0->h'.IsListIter (s.heap.objs.size+1) g 0->h'.IsTupleIter (s.heap.objs.size+2) i 0->(∀c o,s.heap.get? c=some o->h'.get? c=some o)->Q (.ref (s.heap.objs.size+5)) {s with heap:=h'}) :
  wpAny (model prog w) A (call (.type "zip") [.ref f,.ref g,.ref i]) Q E s:=by
 refine callType_new F.called_zip (by decide) (xn1 _ _ _) (xrm _ _ _) (λr=>xrh r _ _ _) F.entry_zip_new (xv3 f g i xs ys vs) ⟨y,x,u,?_⟩;have n:(s.heap.push (lIt f)).objs.size=s.heap.objs.size+1:=Heap.size_push ..;have m:((s.heap.push (lIt f)).push (lIt g)).objs.size=s.heap.objs.size+2:=by rw[Heap.size_push,n]
 have l:(g3 s.heap f g i).objs.size=s.heap.objs.size+3:=by rw[Heap.size_push,m]
 have j:(g4 s.heap f g i).objs.size=s.heap.objs.size+4:=by rw[Heap.size_push,l]
 have C:(g5 s.heap f g i).objs.size=s.heap.objs.size+5:=by rw[Heap.size_push,j]
 have G:∀{c o},(g5 s.heap f g i).get? c=some o->(g6 s.heap f g i).get? c=some o:=λe=>zPO _ e;have I:∀{c o},(g4 s.heap f g i).get? c=some o->(g6 s.heap f g i).get? c=some o:=λe=>G (zPO _ e);have J:∀{c o},(g3 s.heap f g i).get? c=some o->(g6 s.heap f g i).get? c=some o:=λe=>I (zPO _ e);have p:∀{c o},((s.heap.push (lIt f)).push (lIt g)).get? c=some o->(g6 s.heap f g i).get? c=some o:=λe=>J (zPO _ e);have z:(g6 s.heap f g i).get? (g5 s.heap f g i).objs.size=some _:=z9 _ rfl;have M:(g6 s.heap f g i).get? (g4 s.heap f g i).objs.size=some _:=G (z9 _ rfl);have O:(g6 s.heap f g i).get? (g3 s.heap f g i).objs.size=some _:=I (z9 _ rfl);have U:(g6 s.heap f g i).get? ((s.heap.push (lIt f)).push (lIt g)).objs.size=some _:=J (z9 _ rfl);have Y:(g6 s.heap f g i).get? (s.heap.push (lIt f)).objs.size=some _:=p (z9 _ rfl);have Z:(g6 s.heap f g i).get? s.heap.objs.size=some _:=p (zPO _ (z9 _ rfl));show _/\_;rw[l,j,C]at z;rw[j]at M;rw[n,m,l]at O;rw[m]at U;rw[n]at Y;rw[C];exact⟨⟨_,z,rfl⟩,h _ z O ⟨_,_,_,M⟩ ⟨_,Z,rfl,rfl⟩ ⟨_,Y,rfl,rfl⟩ ⟨_,U,rfl,rfl⟩ λc o e=>p (zPO _ (zPO _ e))⟩
theorem next_stop {z:Addr} {Q:Option Value->Shared->Prop} (hT:s.TypeIs (.ref z) "zip") {K:Heap->Prop}
  (h:∀{A':Around} {R:Fin->Shared->Prop} {E':Value->Shared->Prop},A'.handled=A.handled->(∀h' e,K h'->(∃o,h'.get? e=some o/\o.cls=.type "StopIteration")->E' (.ref e) {s with heap:=h'})->wpAny (model prog w) A' (Builtin.«zip.__next__» ⟨[.ref z],[]⟩) R E' s)
  (hQ:∀h',K h'->Q none {s with heap:=h'}):wpAny (model prog w) A (pyNext (.ref z)) Q E s:=by
 unfold pyNext
 refine zX (wpAny_attempt (wpAny_callSpecial?_slot (name:=Str.ofString "__next__") hT F.slot_zip_next
  (wpAny_call_entry F.slot_zip_next hT F.entry_zip_next (h rfl λh' e hk he=>?_) (F.args_zip_next_1 _))))
 obtain⟨o,ho,hc⟩:=he;refine zX (wpAny_isInstance (T:="StopIteration") (b:=true) ⟨o,ho,hc⟩ isSubtype_stop ?_);exact z5 (hQ _ hk)
end
end Zt
namespace L2
open PySem PySem.Spec PyProof.Rows
theorem apt{a b:Nat}(h:a≠b:=by omega):a≠b:=h
section
variable {X:Cx}
def Itz3 (K:Fg) (a b c:Addr):It:=
  ⟨λi H=>∃xs ys zs x y z,SqL K H a xs/\SqL K H b ys/\SqT K H c zs/\xs[i]?=some x/\ys[i]?=some y/\zs[i]?=some z,λi H x H'=>∃p u v r,x=.ref p/\H p=none/\H'=upd H p (.tup [u,v,r])/\(∀xs,SqL K H a xs->xs[i]?=some u)/\(∀ys,SqL K H b ys->ys[i]?=some v)/\∀zs,SqT K H c zs->zs[i]?=some r,
   λi H=>∃xs ys zs,SqL K H a xs/\SqL K H b ys/\SqT K H c zs/\xs.length<=i⟩
theorem xn3 {P:Program} {w:World} {K:Fg} {a9:List Expr} {x1} {pos:Pos} {a b c B:Nat} (La:a<B) (Lb:b<B) (Lc:c<B) :
  Turn P w K (.Tuple a9 x1 pos) (Itz3 K a b c) [B+5,B+3,B+4,B,B+1,B+2] (B+5) (λi h=>IsZip h (B+5) (B+3) (B+4) .none/\Zt.IsTri h (B+3) (.ref B) (.ref (B+1)) (.ref (B+2))/\(∃u v r,Zt.IsTri h (B+4) u v r)/\h.IsListIter B a i/\h.IsListIter (B+1) b i/\h.IsTupleIter (B+2) c i) where
 mem:=by simp
 obj:=λi h st c g=>by
  obtain⟨l,n,⟨u,v,r,Z⟩,C,Y,U⟩:=st;simp only[List.mem_cons,List.not_mem_nil,or_false]at g;rcases g with rfl |rfl |rfl |rfl |rfl |rfl
  ·exact⟨_,l,λv z=>by cases z⟩
  ·exact⟨_,n,λv z=>by cases z⟩
  ·exact⟨_,Z,λv z=>by cases z⟩
  ·obtain⟨o,e,c,d⟩:=C
   exact⟨o,e,λv z=>by rw[d]at z;cases z⟩
  ·obtain⟨o,e,c,d⟩:=Y
   exact⟨o,e,λv z=>by rw[d]at z;cases z⟩
  ·obtain⟨o,e,c,d⟩:=U
   exact⟨o,e,λv z=>by rw[d]at z;cases z⟩
 keep:=λi h h' st k=>by
  obtain⟨l,n,⟨u,v,r,Z⟩,C,Y,U⟩:=st;exact⟨k (B+5) (by simp) _ l,k (B+3) (by simp) _ n,⟨u,v,r,k (B+4) (by simp) _ Z⟩,C.at λo q=>k B (by simp) o q,Y.at λo q=>k (B+1) (by simp) o q,U.at λo q=>k (B+2) (by simp) o q⟩
 item:=by
  intro X hP hw hK g i f s σ H E I hf st hg;subst hP hw hK;obtain⟨xs,ys,zs,x,y,z,hq,J,G,hx,hy,a0⟩:=hg;obtain⟨its,rv,p,hz⟩:=I.list hq;obtain⟨its',ac,p',al⟩:=I.list J;obtain⟨aj,ab,p3,ak⟩:=I.tuple G;obtain⟨u,hu,ru⟩:=rv.get hx;obtain⟨O,ah,af⟩:=ac.get hy;obtain⟨M,ag,ae⟩:=ab.get a0;obtain⟨l,n,⟨_,_,_,Z⟩,C,Y,U⟩:=st;have hT:s.TypeIs (.ref (B+5)) "zip":=⟨_,l,rfl⟩;unfold pyNext
  refine zX (wpAny_attempt (wpAny_callSpecial?_slot (name:=Str.ofString "__next__") hT F.slot_zip_next
   (wpAny_call_entry F.slot_zip_next hT F.entry_zip_next
    (Zt.first3 La Lb Lc l n Z (Zt.nxL apt) (Zt.nxL apt) (Zt.nxT apt) ⟨C,p.isList⟩ ⟨Y,p'.isList⟩ ⟨U,p3⟩ (x:=u) (y:=O) (v:=M) (by simpa using hu) (by simpa using ah) (by simpa using ag) λh1 a1 a2 a3 a4 aa a5 a6 a7=>z5 ⟨_,rfl,wpAny_letOwnedTupleGo_zip a1 λh2 b1 b2=>?_⟩) (F.args_zip_next_1 _))))
  have ai:H s.heap.objs.size=none:=I.hok.fresh (zZ _);have g1:(s.heap.push {cls:=.type "tuple",data:=.seq #[u,O,M]}).get? s.heap.objs.size=some {cls:=.type "tuple",data:=.seq #[u,O,M]}:=z9 _ rfl
  have I1:Inv X f σ (upd H s.heap.objs.size (.tup [x,y,z])) {s with heap:=s.heap.push {cls:=.type "tuple",data:=.seq #[u,O,M]},toks:=s.toks}:=
   I.laid (λb o q=>zPO _ q) (zZ _) ⟨by show 3<=sizeLine;decide,[u,O,M],.cons ru (.cons af (.cons ae .nil)),⟨_,g1,rfl,_,rfl,rfl⟩⟩
  have lt:∀c∈[B+5,B+3,B+4,B,B+1,B+2],c≠s.heap.objs.size:=λc g=>by
   have l5:(B+5:Nat)<s.heap.objs.size:=z6 l;simp only[List.mem_cons,List.not_mem_nil,or_false]at g;rcases g with e |e |e |e |e |e <;> rw[e] <;> exact apt
  have a8:∀c∈[B+5,B+3,B+4,B,B+1,B+2],FpOk X f (upd H s.heap.objs.size (.tup [x,y,z])) c:=λc g=>by
   refine⟨?_,(hf c g).2⟩;rw[xai (lt c g)];exact(hf c g).1
  have I2:Inv X f σ (upd H s.heap.objs.size (.tup [x,y,z])) {s with heap:=h2,toks:=s.toks}:=
   I1.turnedM (t':=s.toks) (λc o hb q=>by
    have m:c≠B+5/\c≠B+3/\c≠B+4/\c≠B/\c≠B+1/\c≠B+2:=by simpa using hb
    have q1:h1.get? c=some o:=by
     by_cases e:c=s.heap.objs.size
     ·subst e
      have q':(s.heap.push {cls:=.type "tuple",data:=.seq #[u,O,M]}).get? s.heap.objs.size=some o:=q;rw[g1]at q';cases q';exact a5
     ·exact a7 c o m.1 m.2.2.1 m.2.2.2.1 m.2.2.2.2.1 m.2.2.2.2.2 (xgp q e)
    exact(b2.2 c m.1).trans q1) a8
  refine⟨.ref s.heap.objs.size,_,I2,rfl,⟨_,x,y,z,rfl,ai,rfl,λzs j=>by rw[I.list_inj j hq];exact hx,λzs j=>by rw[I.list_inj j J];exact hy,λzs j=>by rw[I.tuple_inj j G];exact a0⟩,⟨b1,?_,⟨_,_,_,(b2.2 _ apt).trans a2⟩,a3.1.at λo q=>(b2.2 _ apt).trans q,a4.1.at λo q=>(b2.2 _ apt).trans q,aa.1.at λo q=>(b2.2 _ apt).trans q⟩,λc g=>(a8 c g).1⟩;exact(b2.2 _ apt).trans (a7 _ _ apt apt apt apt apt n)
 done:=by
  intro X hP hw hK g i f s σ H E I hf st hg;subst hP hw hK;obtain⟨xs,ys,zs,hq,J,G,hx⟩:=hg;obtain⟨its,rv,p,hz⟩:=I.list hq;obtain⟨l,n,Z,C,Y,U⟩:=st;have hl:=rv.length
  refine Zt.next_stop (K:=λh'=>∀c o,c≠B+5->c≠B->s.heap.get? c=some o->h'.get? c=some o) ⟨_,l,rfl⟩ (λ{A' R E'} ha hE=>Zt.end3 (ha.trans (I.ok.hd g)) La l n (Zt.nxL apt) ⟨C,p.isList⟩ (by simp;omega) hE) λh' kk=>⟨rfl,I.turnedM (t':=s.toks) (λc o hb q=>by
   have m:c≠B+5/\c≠B+3/\c≠B+4/\c≠B/\c≠B+1/\c≠B+2:=by simpa using hb
   exact kk c o m.1 m.2.2.2.1 q) hf⟩
 self:=λ_ _ _ _ _ st h=>wpAny_pyIter_zip st.1 h
def ItzL (K:Fg) (a b:Addr):It:=
  ⟨λi H=>∃xs ys x y,SqL K H a xs/\SqL K H b ys/\xs[i]?=some x/\ys[i]?=some y,λi H x H'=>∃p u v,x=.ref p/\H p=none/\H'=upd H p (.tup [u,v])/\(∀xs,SqL K H a xs->xs[i]?=some u)/\∀ys,SqL K H b ys->ys[i]?=some v,
   λi H=>∃xs ys,SqL K H a xs/\SqL K H b ys/\xs.length<=i⟩
theorem xn2 {P:Program} {w:World} {K:Fg} {U:List Expr} {x1} {pos:Pos} {a b B:Nat} (La:a<B) (Lb:b<B) :
  Turn P w K (.Tuple U x1 pos) (ItzL K a b) [B+4,B+2,B+3,B,B+1] (B+4) (λi h=>IsZip h (B+4) (B+2) (B+3) .none/\IsPair h (B+2) (.ref B) (.ref (B+1))/\(∃u v,IsPair h (B+3) u v)/\h.IsListIter B a i/\h.IsListIter (B+1) b i) where
 mem:=by simp
 obj:=λi h st c g=>by
  obtain⟨j,l,⟨u,v,M⟩,n,J⟩:=st;simp only[List.mem_cons,List.not_mem_nil,or_false]at g;rcases g with rfl |rfl |rfl |rfl |rfl
  ·exact⟨_,j,λv z=>by cases z⟩
  ·exact⟨_,l,λv z=>by cases z⟩
  ·exact⟨_,M,λv z=>by cases z⟩
  ·obtain⟨o,e,c,d⟩:=n
   exact⟨o,e,λv z=>by rw[d]at z;cases z⟩
  ·obtain⟨o,e,c,d⟩:=J
   exact⟨o,e,λv z=>by rw[d]at z;cases z⟩
 keep:=λi h h' st k=>by
  obtain⟨j,l,⟨u,v,M⟩,n,J⟩:=st;exact⟨k (B+4) (by simp) _ j,k (B+2) (by simp) _ l,⟨u,v,k (B+3) (by simp) _ M⟩,n.at λo q=>k B (by simp) o q,J.at λo q=>k (B+1) (by simp) o q⟩
 item:=by
  intro X hP hw hK g i f s σ H E I hf st hg;subst hP hw hK;obtain⟨xs,ys,x,y,Z,C,hx,hy⟩:=hg;obtain⟨its,rv,p,hz⟩:=I.list Z;obtain⟨its',a0,p',ab⟩:=I.list C;obtain⟨u,hu,ru⟩:=rv.get hx;obtain⟨G,a9,a8⟩:=a0.get hy;obtain⟨j,l,⟨_,_,M⟩,n,J⟩:=st;have hT:s.TypeIs (.ref (B+4)) "zip":=⟨_,j,rfl⟩;unfold pyNext
  refine zX (wpAny_attempt (wpAny_callSpecial?_slot (name:=Str.ofString "__next__") hT F.slot_zip_next
   (wpAny_call_entry F.slot_zip_next hT F.entry_zip_next
    (Zt.first2 La Lb j l M (Zt.nxL apt) (Zt.nxL apt) ⟨n,p.isList⟩ ⟨J,p'.isList⟩ (x:=u) (y:=G) (by simpa using hu) (by simpa using a9) λh1 a1 a2 a3 a4 a5 a6 a7=>z5 ⟨_,rfl,wpAny_letOwnedTupleGo_zip a1 λh2 b1 Y=>?_⟩) (F.args_zip_next_1 _))))
  have aa:H s.heap.objs.size=none:=I.hok.fresh (zZ _);have g1:(s.heap.push {cls:=.type "tuple",data:=.seq #[u,G]}).get? s.heap.objs.size=some {cls:=.type "tuple",data:=.seq #[u,G]}:=z9 _ rfl
  have I1:Inv X f σ (upd H s.heap.objs.size (.tup [x,y])) {s with heap:=s.heap.push {cls:=.type "tuple",data:=.seq #[u,G]},toks:=s.toks}:=
   I.laid (λb o q=>zPO _ q) (zZ _) ⟨by show 2<=sizeLine;decide,[u,G],.cons ru (.cons a8 .nil),⟨_,g1,rfl,_,rfl,rfl⟩⟩
  have lt:∀c∈[B+4,B+2,B+3,B,B+1],c≠s.heap.objs.size:=λc g=>by
   have l5:(B+4:Nat)<s.heap.objs.size:=z6 j;simp only[List.mem_cons,List.not_mem_nil,or_false]at g;rcases g with e |e |e |e |e <;> rw[e] <;> exact apt
  have O:∀c∈[B+4,B+2,B+3,B,B+1],FpOk X f (upd H s.heap.objs.size (.tup [x,y])) c:=λc g=>by
   refine⟨?_,(hf c g).2⟩;rw[xai (lt c g)];exact(hf c g).1
  have I2:Inv X f σ (upd H s.heap.objs.size (.tup [x,y])) {s with heap:=h2,toks:=s.toks}:=
   I1.turnedM (t':=s.toks) (λc o hb q=>by
    have m:c≠B+4/\c≠B+2/\c≠B+3/\c≠B/\c≠B+1:=by simpa using hb
    have q1:h1.get? c=some o:=by
     by_cases e:c=s.heap.objs.size
     ·subst e
      have q':(s.heap.push {cls:=.type "tuple",data:=.seq #[u,G]}).get? s.heap.objs.size=some o:=q;rw[g1]at q';cases q';exact a5
     ·exact a7 c o m.1 m.2.2.1 m.2.2.2.1 m.2.2.2.2 (xgp q e)
    exact(Y.2 c m.1).trans q1) O
  refine⟨.ref s.heap.objs.size,_,I2,rfl,⟨_,x,y,rfl,aa,rfl,λzs r=>by rw[I.list_inj r Z];exact hx,λzs r=>by rw[I.list_inj r C];exact hy⟩,⟨b1,?_,⟨_,_,(Y.2 _ apt).trans a2⟩,a3.1.at λo q=>(Y.2 _ apt).trans q,a4.1.at λo q=>(Y.2 _ apt).trans q⟩,λc g=>(O c g).1⟩;exact(Y.2 _ apt).trans (a7 _ _ apt apt apt apt l)
 done:=by
  intro X hP hw hK g i f s σ H E I hf st hg;subst hP hw hK;obtain⟨xs,ys,Z,C,hx⟩:=hg;obtain⟨its,rv,p,hz⟩:=I.list Z;obtain⟨j,l,M,n,J⟩:=st;have hl:=rv.length
  refine Zt.next_stop (K:=λh'=>∀c o,c≠B+4->c≠B->s.heap.get? c=some o->h'.get? c=some o) ⟨_,j,rfl⟩ (λ{A' R E'} ha hE=>Zt.end2 (ha.trans (I.ok.hd g)) La j l (Zt.nxL apt) ⟨n,p.isList⟩ (by simp;omega) hE) λh' kk=>⟨rfl,I.turnedM (t':=s.toks) (λc o hb q=>by
   have m:c≠B+4/\c≠B+2/\c≠B+3/\c≠B/\c≠B+1:=by simpa using hb
   exact kk c o m.1 m.2.2.2.1 q) hf⟩
 self:=λ_ _ _ _ _ st h=>wpAny_pyIter_zip st.1 h
def xxl(K:Fg)(ta:TA):TI:=λσ H R=>ta σ H λvs H1=>∃a b c,vs=[.ref a,.ref b,.ref c]/\(∃xs,SqL K H1 a xs)/\(∃ys,SqL K H1 b ys)/\(∃zs,SqT K H1 c zs)/\R (Itz3 K a b c) H1
def xxk(K:Fg)(ta:TA):TI:=λσ H R=>ta σ H λvs H1=>∃a b,vs=[.ref a,.ref b]/\(∃xs,SqL K H1 a xs)/\(∃ys,SqL K H1 b ys)/\R (ItzL K a b) H1
theorem xtn {a b:Expr} {r:TA} {p pos:Pos} {l:List Expr} {G} {J:Pos} (hg:Gl X "zip") (hm:X.mg "zip"=none) (ha:PA X [a,b] r) (hs:starEach [a,b] X.env=[(false,eval a X.env),(false,eval b X.env)]:=by rfl) (i:starEach [b] X.env=[(false,eval b X.env)]:=by rfl) :
  PI X (.Tuple l G J) (.Call (.Name "zip" p) [a,b] [] pos) (xxk X.K r):=by
 intro g s σ H R I h;refine Call_ (xgk I hg hm PyProof.Rows.boot_zip (PyProof.Rows.callWith_type1 (thn (ha pos g s σ H _ I h) λus f ⟨vs,H1,m,M,O⟩=>?_) (by rw[hs,i]) (by rw[i];rfl)));obtain⟨Y,U,e,⟨xs,hx⟩,⟨ys,hy⟩,q⟩:=O;subst e;obtain⟨u1,u2,rfl,e1,e2⟩:=M.two;cases e1;cases e2;obtain⟨its,rx,tx,a4⟩:=m.list hx;obtain⟨a0,ry,o,a3⟩:=m.list hy;have a1:Y<f.heap.objs.size:=by obtain⟨_,e,_⟩:=tx.isList;exact z6 e
 have a2:U<f.heap.objs.size:=by obtain⟨_,e,_⟩:=o.isList;exact z6 e
 refine call_zip_2 tx.isList o.isList λh1 n C y x w _ Z=>wpAny_pyIter_zip n ?_;refine⟨f.heap.objs.size+4,[f.heap.objs.size+4,f.heap.objs.size+2,f.heap.objs.size+3,f.heap.objs.size,f.heap.objs.size+1],_,_,H1,rfl,m.kept (t':=f.toks) Z,xn2 a1 a2,⟨n,C,⟨_,_,y⟩,x,w⟩,λc u=>?_,q⟩
 have j:f.heap.objs.size<=c:=by
  simp only[List.mem_cons,List.not_mem_nil,or_false]at u;rcases u with z |z |z |z |z <;> subst z <;> first |exact Nat.le_add_right _ _ |exact zZ _
 exact m.fpOk j (m.hok.fresh j)
theorem xr1 {K:Fg} {a b:Addr} {xs ys:List V} {g:TG} {tb:TS} {D:Ends} {σ:St} {H:Hp} (hxy:xs.length=ys.length) (Pv:Nat->St->Hp->Prop) (h0:Pv 0 σ H) (hl:∀i σ H,i<=xs.length->Pv i σ H->SqL K H a xs/\SqL K H b ys)
  (hs:∀i x y σ H p,xs[i]?=some x->ys[i]?=some y->Pv i σ H->H p=none->g (.ref p) σ (upd H p (.tup [x,y])) λσ2 H2=>tb {D with nx:=Pv (i+1),ct:=Pv (i+1),bk:=D.nx} σ2 H2) (hd:∀σ H,Pv xs.length σ H->D.nx σ H) :
  ∃W:Nat->Nat->St->Hp->Prop,(∃m,W 0 m σ H)/\∀i m σ H,W i m σ H->
   ((ItzL K a b).stop i H/\D.nx σ H)\/((ItzL K a b).go i H/\∃N:St->Hp->Prop,(∀σ' H',N σ' H'->∃m',m'<m/\W (i+1) m' σ' H')/\∀x H',(ItzL K a b).yld i H x H'->g x σ H' λσ2 H2=>tb {D with nx:=N,ct:=N,bk:=D.nx} σ2 H2):=by
 refine⟨λi m σ H=>m=xs.length-i/\i<=xs.length/\Pv i σ H,⟨xs.length,by simp,qO _,h0⟩,?_⟩;rintro i m σ H ⟨rfl,hi,p⟩;have q:=hl i σ H hi p;by_cases hlt:i<xs.length
 ·refine .inr ⟨⟨xs,ys,xs[i],ys[i]'(by omega),q.1,q.2,by simp[hlt],by simp[<- hxy,hlt]⟩,Pv (i+1),λσ' H' p'=>⟨xs.length-(i+1),by omega,rfl,hlt,p'⟩,λx H' y=>?_⟩
  obtain⟨pp,u,v,rfl,hp,rfl,hu,hv⟩:=y;exact hs i u v σ H pp (hu xs q.1) (hv ys q.2) p hp
 ·have e:i=xs.length:=by omega
  subst e;exact .inl ⟨⟨xs,ys,q.1,q.2,zZ _⟩,hd σ H p⟩
theorem xr2 {K:Fg} {a b c:Addr} {xs ys zs:List V} {g:TG} {C:TS} {D:Ends} {σ:St} {H:Hp} (s:xs.length=ys.length) (o:xs.length=zs.length) (h:Nat->St->Hp->Prop) (h0:h 0 σ H) (Z:∀i σ H,i<=xs.length->h i σ H->SqL K H a xs/\SqL K H b ys/\SqT K H c zs)
  (hs:∀i x y z σ H p,xs[i]?=some x->ys[i]?=some y->zs[i]?=some z->h i σ H->H p=none->g (.ref p) σ (upd H p (.tup [x,y,z])) λl w=>C {D with nx:=h (i+1),ct:=h (i+1),bk:=D.nx} l w) (hd:∀σ H,h xs.length σ H->D.nx σ H) :
  ∃W:Nat->Nat->St->Hp->Prop,(∃m,W 0 m σ H)/\∀i m σ H,W i m σ H->
   ((Itz3 K a b c).stop i H/\D.nx σ H)\/((Itz3 K a b c).go i H/\∃N:St->Hp->Prop,(∀n j,N n j->∃G,G<m/\W (i+1) G n j)/\∀x j,(Itz3 K a b c).yld i H x j->g x σ j λl w=>C {D with nx:=N,ct:=N,bk:=D.nx} l w):=by
 refine⟨λi m σ H=>m=xs.length-i/\i<=xs.length/\h i σ H,⟨xs.length,by simp,qO _,h0⟩,?_⟩;rintro i m σ H ⟨rfl,hi,p⟩;have q:=Z i σ H hi p;by_cases f:i<xs.length
 ·refine .inr ⟨⟨xs,ys,zs,xs[i],ys[i]'(by omega),zs[i]'(by omega),q.1,q.2.1,q.2.2,by simp[f],by simp[<- s,f],by simp[<- o,f]⟩,h (i+1),λn j J=>⟨xs.length-(i+1),by omega,rfl,f,J⟩,λx j y=>?_⟩
  obtain⟨I,u,v,r,rfl,Y,rfl,O,M,U⟩:=y;exact hs i u v r σ H I (O xs q.1) (M ys q.2.1) (U zs q.2.2) p Y
 ·have e:i=xs.length:=by omega
  subst e;exact .inl ⟨⟨xs,ys,zs,q.1,q.2.1,q.2.2,zZ _⟩,hd σ H p⟩
theorem xto {a b c:Expr} {y:TA} {p pos:Pos} {l:List Expr} {x1} {tp:Pos} (hg:Gl X "zip") (hm:X.mg "zip"=none) (ha:PA X [a,b,c] y) (hs:starEach [a,b,c] X.env=(false,eval a X.env)::starEach [b,c] X.env:=by rfl) (r:starEach [b,c] X.env=[(false,eval b X.env),(false,eval c X.env)]:=by rfl) :
  PI X (.Tuple l x1 tp) (.Call (.Name "zip" p) [a,b,c] [] pos) (xxl X.K y):=by
 intro i s σ H R I h;refine Call_ (xgk I hg hm PyProof.Rows.boot_zip (PyProof.Rows.callWith_type1 (thn (ha pos i s σ H _ I h) λus f ⟨vs,H1,g,r1,q1⟩=>?_) (by rw[hs]) (by rw[r];rfl)));obtain⟨J,G,C,e,⟨xs,hx⟩,⟨ys,hy⟩,⟨zs,hz⟩,q⟩:=q1;subst e
 obtain⟨o,n,m,rfl,e1,e2,e3⟩:∃o n m,us=[o,n,m]/\RelV (.ref J) o/\RelV (.ref G) n/\RelV (.ref C) m:=by
  cases r1 with
  | cons O t1=>cases t1 with
   |cons h2 t2=>cases t2 with
    |cons h3 t3=>cases t3;exact⟨_,_,_,rfl,O,h2,h3⟩
 cases e1;cases e2;cases e3;obtain⟨its,rx,tx,a7⟩:=g.list hx;obtain⟨a4,ry,x,a6⟩:=g.list hy;obtain⟨a0,rz,w,a5⟩:=g.tuple hz;have a1:J<f.heap.objs.size:=by obtain⟨_,e,_⟩:=tx.isList;exact z6 e
 have a2:G<f.heap.objs.size:=by obtain⟨_,e,_⟩:=x.isList;exact z6 e
 have a3:C<f.heap.objs.size:=by obtain⟨_,e,_⟩:=w;exact z6 e
 refine Zt.call3 tx.isList x.isList w λO u z2 z3 Z Y U kp=>wpAny_pyIter_zip u ?_;refine⟨f.heap.objs.size+5,[f.heap.objs.size+5,f.heap.objs.size+3,f.heap.objs.size+4,f.heap.objs.size,f.heap.objs.size+1,f.heap.objs.size+2],_,_,H1,rfl,g.kept (t':=f.toks) kp,xn3 a1 a2 a3,⟨u,z2,z3,Z,Y,U⟩,λc M=>?_,q⟩
 have j:f.heap.objs.size<=c:=by
  simp only[List.mem_cons,List.not_mem_nil,or_false]at M;rcases M with z |z |z |z |z |z <;> subst z <;> first |exact Nat.le_add_right _ _ |exact zZ _
 exact g.fpOk j (g.hok.fresh j)
end
section
variable {X:Cx}{o e f:Expr}{td ty tx:TE}{apos cpos:Pos}
def xu4(td ty tx:TE):TE:=λσ H Q=>td σ H λx H1=>∃a,x=.ref a/\IsD H1 a/\ty σ H1 λy H2=>tx σ H2 λz H3=>∃kvs:List (Key×V),∃k,y=kV k/\H3 a=some (.dK kvs)/\kvs.length<sizeLine/\(∀v,valV kvs k=some v->Q v H3)/\(valV kvs k=none->Q z (upd H3 a (.dK (putK kvs k z))))
theorem xq3(ho:PE X o td)(he:PE X e Z)(hf:PE X f tx)(m:M2 X o "setdefault" r e f p):PE X (.Call (.Attribute o "setdefault" r) [e,f] [] p) (xu4 td Z tx):=by
 intro c s σ H Q I h;refine wpAny_Call_method m.base m.few m.line PySem.F.plainAttrs_dict PySem.F.slot_dict_setdefault PySem.F.type_dict_setdefault (thn (ho c s σ H _ I h) λu s1 ⟨x,H1,Y,rx,a,ex,d,q1⟩=>?_);subst ex;obtain rfl:u=Value.ref a:=rx;obtain⟨t1,t2,_⟩:=xj5 Y d;refine⟨t1,t2,?_⟩;rw[m.trees]
 refine Calls.callWith_builtin rfl (Calls.evalArgs_plain (Calls.spliced_cons (thn (he c s1 σ H1 _ Y q1) λiv s2 ⟨y,H2,I2,ry,q2⟩=>
  Calls.spliced_cons (thn (hf c s2 σ H2 _ I2 q2) λfv s3 ⟨z,H3,J,M,kvs,k,ey,O,hz,qa,qb⟩=>Calls.spliced_nil ?_))))
 subst ey;obtain⟨z1,l,vs,i,U⟩:=xlt J.hok O;have l1:=i.length;have g:=i.val k;refine call_meetsIn PySem.F.slot_dict_setdefault U.typeIs PySem.F.entry_dict_setdefault (PySem.F.args_dict_setdefault_3 _ _ _) (kt_meets_setdefault (xbu X.prog X.w) a (xnt ry) l fv) ⟨vs,U,by omega,λv G=>?_,λG h' n hs=>?_⟩
 ·rw[G]at g
  cases j:valV kvs k with
  |none=>rw[j]at g;exact g.elim
  |some C=>rw[j]at g;exact⟨C,H3,J.kept (t':=s3.toks+1) λb ob q=>q,g,qa C j⟩
 ·rw[G]at g
  cases j:valV kvs k with
  |some C=>rw[j]at g;exact g.elim
  |none=>exact⟨z,_,xio J (by rw[O];exact True.intro) hs (let ⟨q,_,_,hq,_⟩:=n;⟨q,hq⟩) (xkc (zY (xdk kvs k z) hz) l (i.put k M) n),M,qb j⟩
end
end L2
end
section
namespace L2
open PySem PySem.Spec PySem.W PyProof.Rows M
open PySem.SeqAt
theorem xqj {a:Addr} {o:Obj} {kvs:List (Key×V)} {ix:Cap} {g:TG} {tt:TT} {te:TE} {σ:St} {H1:Hp} {Q:VK} (Pv:Nat->List V->Hp->Prop) (h0:Pv 0 [] H1) (hn:kvs.length<sizeLine) (hl':∀i ys H,i<=kvs.length->Pv i ys H->H a=some (.frz o (.dK kvs)))
  (hs:∀i kv ys H,kvs[i]?=some kv->i<kvs.length->ys.length<=i->Pv i ys H->g kv.2 (capt ix σ) H λσ2 H2=>Ext (capt ix σ) σ2/\tt σ2 H2 λb H3=>if b=true then te σ2 H3 (NxtG Pv kvs.length i ys) else NxtN Pv kvs.length i ys H3)
  (hd:∀ys H,ys.length<=kvs.length->Pv kvs.length ys H->∀D,H D=none->Q (.ref D) (upd H D (.lst ys))):xff (ItV a o kvs) ix g tt te σ H1 Q:=by
 refine⟨λi m ys H=>m=kvs.length-i/\i<=kvs.length/\ys.length<=i/\Pv i ys H,⟨kvs.length,by simp,qO _,zZ _,h0⟩,?_⟩;rintro i m ys H ⟨rfl,hi,hl,p⟩;have q:=hl' i ys H hi p;by_cases hlt:i<kvs.length
 ·refine .inr ⟨⟨q,hlt⟩,by omega,λv H' y=>?_⟩
  obtain⟨rfl,kv,hk,rfl⟩:=y;exact hs i kv ys _ hk hlt hl p
 ·have e:i=kvs.length:=by omega
  subst e;exact .inl ⟨⟨q,zZ _⟩,hd ys H hl p⟩
section
variable {X:Cx}
def xxa:R2:=λx y H Q=>∃a b us zs,x=.ref a/\y=.ref b/\H a=some (.lst us)/\H b=some (.lst zs)/\us.length≠zs.length/\Q (.bl false) H
theorem xty(m:X.A.units+200<cLine):OpR X (compareOp .Eq) (λx y H Q=>rEqZ true x y H Q\/xxa x y H Q):=by
 intro c s σ H x y v u Q I f e h;rcases h with h |⟨a,b,us,zs,rfl,rfl,o,n,w,q⟩
 ·exact xo1 m c s σ H x y v u Q I f e h
 obtain rfl:v=.ref a:=f;obtain rfl:u=.ref b:=e;obtain⟨r,i,l,_⟩:=I.list (zC (K:=X.K) o);obtain⟨p,g,j,_⟩:=I.list (zC (K:=X.K) n);have C:=i.length;have z:=g.length;exact PySem.EqBoolInt.of_rc (SeqAt.RcAt.lists_lengths l.isList j.isList (by simp only[List.size_toArray,bne_iff_ne];omega) (by omega)) ⟨.bl false,H,I,rfl,q⟩
def xw8:R2:=λx y H Q=>∃a b c l m us zs,x=.ref a/\y=.ref b/\H a=some (.tup [.str c,.ref l])/\H b=some (.tup [.str c,.ref m])/\H l=some (.lst us)/\H m=some (.lst zs)/\us.length≠zs.length/\Q (.bl true) H
theorem xo0(hu:X.A.units+200<cLine):OpR X (compareOp .NotEq) (λx y H Q=>rEqZ false x y H Q\/xw8 x y H Q):=by
 intro f s σ H x y v u Q I p o h;rcases h with h |⟨a,b,c,l,m,us,zs,rfl,rfl,ha,hb,i,r,g,q⟩
 ·exact xfh hu f s σ H x y v u Q I p o h
 obtain rfl:v=.ref a:=p;obtain rfl:u=.ref b:=o;obtain⟨i1,J,Y,_⟩:=I.tuple (zB (K:=X.K) ha);obtain⟨i2,G,U,_⟩:=I.tuple (zB (K:=X.K) hb);obtain⟨i3,C,O,_⟩:=I.list (zC (K:=X.K) i);obtain⟨i4,z,M,_⟩:=I.list (zC (K:=X.K) r);have e3:=C.length;have e4:=z.length;have Z:l≠m:=λe=>by rw[e,r]at i;cases i;exact g rfl
 obtain⟨w,rfl⟩:∃t,i1=[.str c t,.ref l]:=by
  cases J with
  |cons e t=>cases t with
   |cons n t2=>cases t2;obtain⟨t,rfl⟩:=e;exact⟨t,by rw[show _=Value.ref l from n]⟩
 obtain⟨t2,rfl⟩:∃t,i2=[.str c t,.ref m]:=by
  cases G with
  |cons e t=>cases t with
   |cons n t2=>cases t2;obtain⟨t,rfl⟩:=e;exact⟨t,by rw[show _=Value.ref m from n]⟩
 refine PySem.EqBoolInt.of_rcne (SeqAt.RcNeAt.tuples (e:=λj=>j == 0) Y U (by omega) λj h1 h2=>?_) ⟨.bl true,H,I,rfl,q⟩;rcases j with _ |_ |j
 ·have:=EqAt.str_str (A:=X.A.in1) (s:=s) c w c t2
  simpa using this
 ·exact EqAt.of_refs Z (RcAt.lists_lengths O.isList M.isList (by simp only[List.size_toArray,bne_iff_ne];omega) (by show X.A.units+1<cLine;omega))
 ·simp at h1;omega
theorem xtw{K:Fg}(b:X.K=K)(a:X.A.units<cLine):OpR X (compareOp .NotEq) (rNeE K):=by subst b;exact xvv a
end
end L2
end
section
namespace M
open PySem L2
structure NmsR(nms:List Str):Prop where
 len:nms.length=26
 n0:(nms.take 8).Nodup
 n8:((nms.drop 8).take 4).Nodup
 n12:((nms.drop 12).take 6).Nodup
 n18:(nms.drop 18).Nodup
 nm:∀z∈nms,Name z
theorem NmsR.of{a:List Str}(h:xnz a):NmsR a:=⟨h.1,h.2.1.sublist (List.take_sublist _ _),h.2.1.sublist ((List.take_sublist _ _).trans (List.drop_sublist _ _)),h.2.1.sublist ((List.take_sublist _ _).trans (List.drop_sublist _ _)),h.2.1.sublist (List.drop_sublist _ _),h.2.2⟩
theorem NmsR.cut{a:List Str}(h:xnz a):NmsR (a.take 8++a.take 4++a.take 6++a.take 8):=by
 have j:=h.1;have tk:∀k,k<=26->(a.take k).length=k:=λk l=>by rw[List.length_take];omega
 have c:∀k,(a.take k).Nodup:=λk=>h.2.1.sublist (List.take_sublist _ _);have b:=tk 8 (by omega);have e:=tk 4 (by omega);have l6:=tk 6 (by omega)
 have i:(a.take 8++a.take 4++a.take 6++a.take 8).drop 8=a.take 4++a.take 6++a.take 8:=by
  rw[List.append_assoc,List.append_assoc,List.drop_left' b,List.append_assoc]
 have g:(a.take 8++a.take 4++a.take 6++a.take 8).drop 12=a.take 6++a.take 8:=by
  rw[List.append_assoc (a.take 8++a.take 4),List.drop_left' (by rw[zLA,b,e])]
 have f:(a.take 8++a.take 4++a.take 6++a.take 8).drop 18=a.take 8:=List.drop_left' (by rw[zLA,zLA,b,e,l6]);refine⟨by simp only[zLA,b,e,l6],?_,?_,?_,?_,λz hz=>?_⟩
 ·rw[List.append_assoc,List.append_assoc,List.take_left' b]
  exact c 8
 ·rw[i,List.append_assoc,List.take_left' e]
  exact c 4
 ·rw[g,List.take_left' l6]
  exact c 6
 ·rw[f]
  exact c 8
 ·have:z∈a:=by
   simp only[List.mem_append]at hz;rcases hz with((hz |hz) |hz) |hz <;> exact qN hz
  exact h.2.2 z this
theorem NmsR.at0{a:List Str}(h:NmsR a){i j:Nat}{z:Str}(hi:i<8)(g:j<8)(c:a[i]?=some z)(b:a[j]?=some z):i=j:=by
 have n:=h.len;have m:(a.take 8)[i]?=some z:=by rw[List.getElem?_take,if_pos hi];exact c
 have l:(a.take 8)[j]?=some z:=by rw[List.getElem?_take,if_pos g];exact b
 obtain⟨f,c⟩:=zES m;obtain⟨e,b⟩:=zES l;exact(List.getElem_inj (h₀:=f) (h₁:=e) h.n0).mp (c.trans b.symm)
theorem NmsR.at18{a:List Str}(h:NmsR a){i j:Nat}{z:Str}(hi:18<=i)(m:18<=j)(c:a[i]?=some z)(b:a[j]?=some z):i=j:=by
 have l:(a.drop 18)[i-18]?=some z:=by rw[List.getElem?_drop,show 18+(i-18)=i by omega];exact c
 have g:(a.drop 18)[j-18]?=some z:=by rw[List.getElem?_drop,show 18+(j-18)=j by omega];exact b
 obtain⟨f,c⟩:=zES l;obtain⟨e,b⟩:=zES g;have:=(List.getElem_inj (h₀:=f) (h₁:=e) h.n18).mp (c.trans b.symm);omega
theorem xvu{a:List Str}(h:NmsR a)(i:Nat):(((a.drop 8).take 4).take i).Nodup/\∀z∈((a.drop 8).take 4).take i,Name z:=by
 have hs:(((a.drop 8).take 4).take i).Sublist a:=((List.take_sublist _ _).trans (List.take_sublist _ _)).trans (List.drop_sublist _ _);exact⟨h.n8.sublist (List.take_sublist _ _),λz hz=>h.nm z (hs.subset hz)⟩
theorem NmsR.ahead{a:List Str}(h:NmsR a){i:Nat}(hi:i<8)(c:i<a.length):a[i] ∉a.take i:=λb=>by
 obtain⟨j,f,e⟩:=zMI b;rw[List.length_take]at f;rw[List.getElem_take]at e;have:=h.at0 (i:=j) (j:=i) (by omega) hi (List.getElem?_eq_some_iff.mpr ⟨by omega,e⟩) (zGA c);omega
def ArmN(ks:List Kn)(z:Str):Prop:=(∃j,z=byN j)\/∃k∈ks,∃p∈k.parts,p.1=z
def FitK(ks:List Kn)(bs:List (Str×Str))(env:En):Prop:=(∀p∈bs,env p.1=some (.str p.2))/\∀z,ArmN ks z->(∀q∈bs,q.1≠z)->env z=none
theorem FitK.put{ks:List Kn}{bs:List (Str×Str)}{env:En}{y k:Str}(h:FitK ks bs env)(f:∀p∈bs,p.1≠y):FitK ks (bs++[(y,k)]) (env.put y (.str k)):=by
 refine⟨λp a=>?_,λz hz e=>?_⟩
 ·unfold En.put
  rcases zMA a with a |a
  ·rw[if_neg (f p a)];exact h.1 p a
  ·rw[zMO a,if_pos rfl]
 ·unfold En.put
  have b:y≠z:=e (y,k) (by simp);rw[if_neg (Ne.symm b)];exact h.2 z hz λq c=>e q (by simp[c])
def TmK(ks:List Kn)(n:Nat)(bs:List (Str×Str))(d:D)(x:Str):Prop:=∀env,FitK ks bs env->Kd True ks n env d x
def TmB(ks:List Kn)(n:Nat)(bs:List (Str×Str))(d:D)(x:Str):Prop:=TmOk ks n bs d x/\TmK ks n bs d x
theorem xpt{ks:List Kn}{n:Nat}{env:En}{d:D}{x:Str}(h:xqq env d x):Kd True ks n env d x:=by
 cases n with
 |zero=>exact h
 |succ n=>exact .inl h
theorem xu1{ks:List Kn}{n:Nat}{bs:List (Str×Str)}{i:Int}(h:Nm i):TmB ks n bs (tNum i) (S "num"):=⟨xuu h,λenv _=>xpt (.inl ⟨i,h,rfl,rfl⟩)⟩
theorem xn6{ks:List Kn}{n:Nat}{bs:List (Str×Str)}{y x:Str}(h:(y,x)∈bs):TmB ks n bs (tBox y) x:=⟨xuw h,λenv a=>xpt (.inr ⟨y,a.1 _ h,rfl⟩)⟩
theorem xwt{ks:List Kn}(g:KWf ks){n:Nat}{bs:List (Str×Str)}{s:Str}{a b:D}(hs:Sg s)(f:TmB ks n bs a (S "num"))(e:TmB ks n bs b (S "num")):TmB ks (n+1) bs (tOpD s a b) (S "num"):=
 ⟨xwr g hs f.1 e.1,λenv c=>.inr (.inl ⟨s,a,b,f.2 env c,e.2 env c,rfl,rfl⟩)⟩
theorem xu0{ks:List Kn}{n:Nat}{bs:List (Str×Str)}{x:Str}{k:Kn}{es:List D}(b:kAt ks x=some k)(a:k.rc=true)(c:k.parts.length<=1000)(h:All2 (λe (p:Str×Str)=>TmB ks n bs e p.2) es k.parts):TmB ks (n+1) bs (tRec x es) x:=
 ⟨xut b a c (h.imp λ_ _ h=>h.1),λenv f=>.inr (.inr (.inl ⟨es,k,b,a,h.imp λ_ _ h=>h.2 env f,rfl⟩))⟩
theorem xlc{k:Kn}{p:Str×Str}(nd:(k.parts.map (·.1)).Nodup)(b:p∈k.parts):xjg k p.1=some p.2:=by
 unfold xjg;obtain⟨i,hi,e⟩:=zMI b;have:=xel (f:=λr:Str×Str=>r.1) (xs:=k.parts) (i:=i) (a:=p) nd (by rw[<- e];exact zGA hi);rw[this];rfl
theorem xu2{ks:List Kn}(c:KWf ks){n:Nat}{bs:List (Str×Str)}{y:Str}{k:Kn}{a:D}{p:Str×Str}(b:kAt ks y=some k)(e:k.rc=true)(f:p∈k.parts)(h:TmB ks n bs a y):TmB ks (n+1) bs (tGet a p.1) p.2:=
 ⟨xuv c b e f h.1,λenv g=>.inr (.inr (.inr (.inl ⟨a,y,p.1,k,h.2 env g,b,e,xlc (c.pnd k (zMF b)) f,rfl⟩)))⟩
theorem xuz{ks:List Kn}(f:KWf ks){n:Nat}{bs:List (Str×Str)}{x:Str}{k:Kn}{a:D}{p:Str×Str}(b:kAt ks x=some k)(c:k.rc=false)(e:p∈k.parts)(h:TmB ks n bs a p.2):TmB ks (n+1) bs (tTag x p.1 a) x:=
 ⟨xus b c e h.1,λenv g=>.inr (.inr (.inr (.inr (.inl ⟨p.1,a,k,p.2,b,c,xlc (f.pnd k (zMF b)) e,h.2 env g,rfl⟩))))⟩
theorem xb9{α β:Type}{f:α->β}:∀{l:List α},(l.map f).Nodup->∀{a b:α},a∈l->b∈l->f a=f b->a=b
 |[],_,a,_,i,_,_=>nomatch i
 | c::l,nd,a,b,i,j,e=>by
  rw[List.map_cons,List.nodup_cons]at nd;rcases zMC i with h |h <;> rcases zMC j with g |g
  ·rw[h,g]
  ·rw[h]at e
   exact absurd (by rw[e];exact qG g) nd.1
  ·rw[g]at e
   exact absurd (by rw[<- e];exact qG h) nd.1
  ·exact xb9 nd.2 h g e
theorem xs9 {ks:List Kn} (j:KWf ks) {n:Nat} {bs:List (Str×Str)} {x y:Str} {k:Kn} {a:D} {rs:List (Str×Str×D)} (m:kAt ks y=some k) (l:k.rc=false) (w:TmB ks n bs a y) (C:rs.length<=1000) (nd:(rs.map (·.1)).Nodup)
  (b:rs.length=k.parts.length) (c:∀r∈rs,∃p∈k.parts,p.1=r.1)
  (h:∀p∈k.parts,∃z e,(p.1,z,e)∈rs/\(∀q∈bs,q.1≠z)/\ArmN ks z/\TmB ks n (bs++[(z,p.2)]) e x):TmB ks (n+1) bs (xne a rs) x:=by
 have u:=zMF m;refine⟨xs7 j m l w.1 C nd λp g=>?_,λenv o=>.inr (.inr (.inr (.inr (.inr (.inl ⟨True.intro,a,rs,y,k,w.2 env o,m,l,?_,b,nd,λr f=>?_,rfl⟩)))))⟩
 ·obtain⟨z,e,s,i,g3,g4⟩:=h p g
  exact⟨z,e,s,i,g4.1⟩
 ·intro e
  have h0:k.parts=[]:=List.eq_nil_of_length_eq_zero (by rw[<- b,e];rfl);exact j.alt k u l h0
 ·obtain⟨p,g,e⟩:=c r f
  obtain⟨z,I,s,i,g3,g4⟩:=h p g;have G:r=(p.1,z,I):=xb9 nd f s e.symm;subst G;exact⟨o.2 z g3 i,p.2,xlc (j.pnd k u) g,g4.2 _ (o.put i)⟩
theorem xwu{ks:List Kn}(i:KWf ks){n:Nat}{bs:List (Str×Str)}{x:Str}{a b c:D}(h:TmB ks n bs a (S "num"))(g:TmB ks n bs b x)(f:TmB ks n bs c x):TmB ks (n+1) bs (tIfD a b c) x:=
 ⟨xws i h.1 g.1 f.1,λenv e=>.inr (.inr (.inr (.inr (.inr (.inr ⟨a,b,c,h.2 env e,g.2 env e,f.2 env e,rfl⟩)))))⟩
theorem NodeKd.mono{cs:Prop}{ks:List Kn}{R n:RKn}(k:∀env d x,R env d x->n env d x){env:En}{d:D}{x:Str}(h:NodeKd cs ks R env d x):NodeKd cs ks n env d x:=by
 rcases h with⟨s,a,b,e,g,r⟩ |⟨es,i,e,g,j,r⟩ |⟨a,l,f,i,e,r⟩ |⟨t,a,i,l,e,g,j,m,r⟩ |⟨u,a,rs,l,i,e,g,j,m,z,y,w,r⟩ |⟨a,b,c,e,g,j,r⟩
 ·exact .inl ⟨s,a,b,k _ _ _ e,k _ _ _ g,r⟩
 ·exact .inr (.inl ⟨es,i,e,g,j.imp λ_ _ h=>k _ _ _ h,r⟩)
 ·exact .inr (.inr (.inl ⟨a,l,f,i,k _ _ _ e,r⟩))
 ·exact .inr (.inr (.inr (.inl ⟨t,a,i,l,e,g,j,k _ _ _ m,r⟩)))
 ·refine .inr (.inr (.inr (.inr (.inl ⟨u,a,rs,l,i,k _ _ _ e,g,j,m,z,y,λr p=>?_,r⟩))))
  obtain⟨G,o,C,g3⟩:=w r p;exact⟨G,o,C,k _ _ _ g3⟩
 ·exact .inr (.inr (.inr (.inr (.inr ⟨a,b,c,k _ _ _ e,k _ _ _ g,k _ _ _ j,r⟩))))
theorem xv8{cs:Prop}{ks:List Kn}:∀(n:Nat) (env:En) (d:D) (x:Str),Kd cs ks n env d x->Kd cs ks (n+1) env d x
 |0,_,_,_,h=>.inl h
 |n+1,env,d,x,h=>by
  rcases h with h |h
  ·exact .inl h
  ·exact .inr (h.mono (xv8 n))
theorem xxh{cs:Prop}{ks:List Kn}{n m:Nat}(l:n<=m){env:En}{d:D}{x:Str}(h:Kd cs ks n env d x):Kd cs ks m env d x:=by
 obtain⟨k,rfl⟩:∃k,m=n+k:=⟨m-n,by omega⟩;clear l
 induction k with
 |zero=>exact h
 |succ k a=>exact xv8 _ _ _ _ a
def NoMo(x:Str):Prop:=x≠S "more"
theorem xxd{l:List Nat}(h:l[0]?≠some 109\/l[1]?≠some 111):NoMo (ofL l):=λe=>by
 have:=congrArg L e;rw[xef,show L (S "more")=[109,111,114,101] by walk_at"k"]at this;subst this;simp at h
theorem xlq{c:Nat}(h:c∈five):c≠109/\c≠111:=by
 revert h;unfold five;simp;omega
theorem xsr{cs:List Nat}(h:∀c∈cs,c∈five)(a:Nat)(b:Int)(k:Nat)(t:List Nat)(i:∀c∈t,c∈five):NoMo (ofL (nmA cs a b k++t)):=by
 apply xxd;unfold nmA
 cases g:cs.take a with
 |nil=>
  right;rw[List.nil_append,List.cons_append,List.getElem?_cons_succ];intro e;have f:=zMG e;rcases zMA f with f |f
  ·exact(xlq (h _ (List.mem_of_mem_drop f))).2 rfl
  ·exact(xlq (i _ f)).2 rfl
 |cons c r=>
  left;intro e;simp at e;have:c∈cs.take a:=by rw[g];simp
  exact(xlq (h c (qN this))).1 e
theorem xt4{cs:List Nat}{a:Nat}{b:Int}(e:∀c∈cs,c∈five):∀z∈((List.range 26).map λk=>ofL (nmA cs a b k)),NoMo z:=λz hz=>by
 obtain⟨k,_,rfl⟩:=zMP hz;have:=xsr e a b k [] (λ_ h=>nomatch h);rw[List.append_nil]at this;exact this
theorem xt2{cs:List Nat}{a:Nat}{b:Int}(f:∀c∈cs,c∈five):∀z∈((List.range 26).map λk=>ofL (nmB cs a b k)),NoMo z:=λz hz=>by
 obtain⟨k,_,rfl⟩:=zMP hz;unfold nmB;exact xsr f a b _ _ λc e=>by rw[List.eq_of_mem_replicate e];decide
theorem DGet.rd{H:Hp}{a:Addr}{kvs:List (Key×V)}{k:Key}(e:Rd H a (.dK kvs)):DGet H a (kV k) (valV kvs k):=.inl ⟨kvs,k,e,rfl,rfl⟩
inductive Row where
 |set (x:Str) (t:D)
 |send (c:Str) (t:D)
 |take (l c x:Str)
 |tell (t:D)
 |go (g:Nat)
 |cond (t:D) (g:Nat)
 |fin
def Row.hd:Row->Str
 |.set _ _=>S "set"
 |.send _ _=>S "send"
 |.take _ _ _=>S "take"
 |.tell _=>S "tell"
 |.go _=>S "go"
 |.cond _ _=>S "if"
 |.fin=>S "end"
def Row.as:Row->List D
 |.set x t=>[.str x,t]
 |.send c t=>[.str c,t]
 |.take l c x=>[.str l,.str c,.str x]
 |.tell t=>[t]
 |.go g=>[.int g]
 |.cond t g=>[t,.int g]
 |.fin=>[]
def Row.d(r:Row):D:=.tup (.str r.hd::r.as)
abbrev Chn:=Str×Str×Str×Str
def dChn(c:Chn):D:=.tup [.str c.1,.str c.2.1,.str c.2.2.1,.str c.2.2.2]
structure Hand where
 name:Str
 boxes:List (Str×Str)
 rows:List Row
def Hand.d(h:Hand):D:=.tup [.str h.name,xd8 h.boxes,.tup (h.rows.map Row.d)]
structure Mak where
 kinds:List Kn
 chans:List Chn
 hands:List Hand
def Mak.d(m:Mak):D:=.tup [xee m.kinds,.tup (m.chans.map dChn),.tup (m.hands.map Hand.d)]
def xdy(m:Mak)(x:Str):Option Hand:=m.hands.find? λh=>decide (h.name=x)
def xfw(ks:List Kn)(cs:List Chn)(h:Str)(bs:List (Str×Str))(n:Nat):Row->Prop
 |.set x t=>∃k,(x,k)∈bs/\TmOk ks 21 bs t k
 |.send c t=>∃ch∈cs,ch.1=c/\ch.2.1=h/\TmOk ks 21 bs t ch.2.2.2
 |.take _ c x=>∃ch∈cs,ch.1=c/\ch.2.2.1=h/\(x,ch.2.2.2)∈bs
 |.tell t=>TmOk ks 21 bs t (S "num")
 |.go g=>g<n
 |.cond t g=>TmOk ks 21 bs t (S "num")/\g<n
 |.fin=>True
def Row.ends:Row->Prop
 |.go _=>True
 |.fin=>True
 |_=>False
structure HandOk(ks:List Kn)(cs:List Chn)(h:Hand):Prop where
 nd:(h.boxes.map (·.1)).Nodup
 few:h.boxes.length<=5
 kin:∀b∈h.boxes,KIn ks 6 b.2
 len:h.rows.length<=30
 ok:∀r∈h.rows,xfw ks cs h.name h.boxes h.rows.length r
 last:∃r,h.rows.getLast?=some r/\r.ends
structure MakOk(m:Mak):Prop where
 wf:KWf m.kinds
 cnd:(m.chans.map (·.1)).Nodup
 cfew:m.chans.length<=6
 ckin:∀c∈m.chans,KIn m.kinds 6 c.2.2.2
 hnd:(m.hands.map Hand.name).Nodup
 hfew:m.hands.length<=4
 hok:∀h∈m.hands,HandOk m.kinds m.chans h
def putA(bx:List (Str×D))(x:Str)(d:D):List (Str×D):=
 if (bx.any λb=>decide (b.1=x))=true then bx.map (λb=>if b.1=x then (b.1,d) else b) else bx++[(x,d)]
def enOf(bx:List (Str×D)):En:=λx=>(bx.find? λb=>decide (b.1=x)).map (·.2)
def KvD(H:Hp):List (Key×V)->List (Str×D)->Prop
 |[],[]=>True
 |kv::kvs,b::bs=>kv.1=Sum.inr b.1/\RelD H kv.2 b.2/\KvD H kvs bs
 |_,_=>False
theorem KvD.tups{H a:Hp}(s:∀b vs,H b=some (.tup vs)->a b=some (.tup vs)):∀{kvs:List (Key×V)} {bx:List (Str×D)},KvD H kvs bx->KvD a kvs bx
 |[],[],_=>trivial
 |g::kvs,b::bs,⟨f,e,c⟩=>⟨f,e.tups s _,KvD.tups s c⟩
 |[],_::_,h=>h.elim
 |_::_,[],h=>h.elim
theorem KvD.length{H:Hp}:∀{kvs:List (Key×V)} {bx:List (Str×D)},KvD H kvs bx->kvs.length=bx.length
 |[],[],_=>rfl
 |c::kvs,b::bs,⟨_,_,a⟩=>by rw[List.length_cons,List.length_cons,KvD.length a]
 |[],_::_,h=>h.elim
 |_::_,[],h=>h.elim
theorem KvD.keys{H:Hp}:∀{kvs:List (Key×V)} {bx:List (Str×D)},KvD H kvs bx->kvs.map (·.1)=bx.map λb=>(Sum.inr b.1:Key)
 |[],[],_=>rfl
 |e::kvs,b::bs,⟨c,_,a⟩=>by rw[List.map_cons,List.map_cons,KvD.keys a,c]
 |[],_::_,h=>h.elim
 |_::_,[],h=>h.elim
theorem KvD.snoc{H:Hp}{v:V}{x:Str}{d:D}(r:RelD H v d):∀{kvs:List (Key×V)} {bx:List (Str×D)},KvD H kvs bx->KvD H (kvs++[(Sum.inr x,v)]) (bx++[(x,d)])
 |[],[],_=>⟨rfl,r,trivial⟩
 |f::kvs,b::bs,⟨e,c,a⟩=>⟨e,c,KvD.snoc r a⟩
 |[],_::_,h=>h.elim
 |_::_,[],h=>h.elim
theorem xud{a b:Str}:((Sum.inr a:Key)=Sum.inr b)=(a=b):=propext ⟨λh=>Sum.inr.inj h,λh=>congrArg _ h⟩
theorem KvD.any{H:Hp}{x:Str}:∀{kvs:List (Key×V)} {bx:List (Str×D)},KvD H kvs bx->(kvs.any λa=>decide (a.1=Sum.inr x))=bx.any λb=>decide (b.1=x)
 |[],[],_=>rfl
 |a::kvs,b::bs,⟨e,_,c⟩=>by
  rw[List.any_cons,List.any_cons,KvD.any c,e];simp only[xud]
 |[],_::_,h=>h.elim
 |_::_,[],h=>h.elim
theorem KvD.map{H:Hp}{v:V}{x:Str}{d:D}(r:RelD H v d):∀{kvs:List (Key×V)} {bx:List (Str×D)},KvD H kvs bx->KvD H (kvs.map λc=>if c.1=Sum.inr x then (c.1,v) else c) (bx.map λb=>if b.1=x then (b.1,d) else b)
 |[],[],_=>trivial
 | c::kvs,b::bs,⟨a,g,f⟩=>by
  refine⟨?_,?_,KvD.map r f⟩ <;> dsimp only
  ·by_cases e:b.1=x
   ·rw[if_pos (by rw[a,e]),if_pos e];exact a
   ·rw[if_neg (by rw[a];exact λz=>e (Sum.inr.inj z)),if_neg e];exact a
  ·by_cases e:b.1=x
   ·rw[if_pos (by rw[a,e]),if_pos e];exact r
   ·rw[if_neg (by rw[a];exact λz=>e (Sum.inr.inj z)),if_neg e];exact g
 |[],_::_,h=>h.elim
 |_::_,[],h=>h.elim
theorem KvD.put{H:Hp}{v:V}{x:Str}{d:D}{kvs:List (Key×V)}{bx:List (Str×D)}(h:KvD H kvs bx)(r:RelD H v d):KvD H (putK kvs (Sum.inr x) v) (putA bx x d):=by
 unfold putK putA;rw[h.any];split
 ·exact h.map r
 ·exact h.snoc r
theorem KvD.val{H:Hp}{x:Str}:∀{kvs:List (Key×V)} {bx:List (Str×D)},KvD H kvs bx->(enOf bx x=none->valV kvs (Sum.inr x)=none)/\∀d,enOf bx x=some d->∃v,valV kvs (Sum.inr x)=some v/\RelD H v d
 |[],[],_=>⟨λ_=>rfl,λd e=>by cases e⟩
 | j::kvs,b::bs,⟨c,i,g⟩=>by
  have f:=KvD.val (x:=x) g;by_cases e:b.1=x
  ·have a:enOf (b::bs) x=some b.2:=by unfold enOf;rw[List.find?_cons,zDT e];rfl
   rw[a,xcb (by rw[c,e])];exact⟨λz=>(by cases z),λd z=>⟨_,rfl,by cases z;exact i⟩⟩
  ·have a:enOf (b::bs) x=enOf bs x:=by unfold enOf;rw[List.find?_cons,zDF e]
   rw[a,xcc (by rw[c];exact λz=>e (Sum.inr.inj z))];exact f
 |[],_::_,h=>h.elim
 |_::_,[],h=>h.elim
theorem KvD.en{H:Hp}{p:Addr}{kvs:List (Key×V)}{bx:List (Str×D)}{m:Nat}(a:H p=some (.dK kvs))(h:KvD H kvs bx)(b:bx.length<=m):EnAt H p m (enOf bx):=
 ⟨kvs,a,by rw[h.length];exact b,λx=>h.val⟩
theorem xwi(bx:List (Str×D))(x:Str)(d:D):enOf (putA bx x d)=(enOf bx).put x d:=by
 funext y
 unfold En.put enOf putA;split
 ·rename_i h
  induction bx with
  |nil=>simp at h
  | cons b bs j=>
   rw[List.map_cons,List.find?_cons,List.find?_cons];by_cases e:b.1=x
   ·rw[if_pos e]
    by_cases a:y=x
    ·subst a
     rw[if_pos rfl,zDT e];rfl
    ·have l:¬b.1=y:=λz=>a (z.symm.trans e)
     rw[if_neg a,zDF l];show(List.find? _ (bs.map _)).map _=(List.find? _ bs).map _;by_cases f:(bs.any λb=>decide (b.1=x))=true
     ·have:=j f
      rw[if_neg a]at this;exact this
     ·have c:∀z∈bs,¬z.1=x:=λz hz i=>f (List.any_eq_true.mpr ⟨z,hz,zDT i⟩)
      rw[List.map_congr_left (g:=id) λz hz=>by rw[if_neg (c z hz)];rfl,List.map_id]
   ·rw[if_neg e]
    have f:(bs.any λb=>decide (b.1=x))=true:=by
     rw[List.any_cons,zDF e,Bool.false_or]at h;exact h
    by_cases a:b.1=y
    ·rw[zDT a,if_neg (λz=>e (a.trans z))]
    ·rw[zDF a]
     exact j f
 ·rename_i h
  have c:∀z∈bx,¬z.1=x:=λz hz i=>h (List.any_eq_true.mpr ⟨z,hz,zDT i⟩);rw[List.find?_append];by_cases a:y=x
  ·subst a
   rw[if_pos rfl,List.find?_eq_none.mpr λz hz=>by simpa using c z hz];simp
  ·rw[if_neg a,List.find?_singleton,zDF (λz=>a z.symm)]
   simp
theorem xe3{bx:List (Str×D)}{x:Str}{d:D}(h:x∈bx.map (·.1)):(putA bx x d).map (·.1)=bx.map (·.1):=by
 unfold putA;obtain⟨b,a,e⟩:=zMP h;rw[if_pos (List.any_eq_true.mpr ⟨b,a,zDT e⟩),List.map_map]
 exact zP λz _=>by
  show(if z.1=x then (z.1,d) else z).1=z.1;split <;> rfl
theorem xrx{a b:Str}{r c:List D}(h:a≠b):D.tup (.str a::r)≠D.tup (.str b::c):=λe=>h (D.str.inj (zS (D.tup.inj e)).1)
theorem xj1{env:En}{d v a:D}(h:xew env d v)(h':xew env d a):v=a:=by
 rcases h with⟨n,rfl,rfl⟩ |⟨x,c,rfl⟩ <;> rcases h' with⟨m,e,rfl⟩ |⟨y,b,e⟩
 ·cases e
  rfl
 ·exact absurd e (xrx (by walk_at"k"))
 ·exact absurd e (xrx (by walk_at"k"))
 ·cases e
  rw[c]at b;exact qC b
theorem xj2{ks:List Kn}{R:En->D->D->Prop}{env:En}{d v a:D}(h:xew env d v)(h':NodeEv ks R env d a):False:=by
 rcases h with⟨n,rfl,rfl⟩ |⟨x,b,rfl⟩ <;> rcases h' with⟨_,_,_,_,_,_,_,_,_,e,_⟩ |⟨_,_,_,_,_,e,_⟩ |⟨_,_,_,_,_,_,_,_,_,_,e⟩ |⟨_,_,_,_,_,e,_⟩ |⟨_,_,_,_,_,_,_,_,_,_,_,e⟩ |⟨_,_,_,_,_,_,e⟩ <;> exact absurd e (xrx (by walk_at"k"))
theorem xkn{R:D->D->Prop}(u:∀a v c,R a v->R a c->v=c):∀{es vs b:List D},All2 R es vs->All2 R es b->vs=b
 |_,_,_,.nil,.nil=>rfl
 |_,_,_,.cons h t,.cons h' t'=>by rw[u _ _ _ h h',xkn u t t']
theorem xp5{ks:List Kn}:∀(n:Nat) (env:En) (d v w:D),Ev ks n env d v->Ev ks n env d w->v=w
 |0,_,_,_,_,h,h'=>xj1 h h'
 | n + 1,env,d,v,w,h,h'=>by
  have m:=xp5 (ks:=ks) n;rcases h with h |h <;> rcases h' with h' | h'
  ·exact xj1 h h'
  ·exact(xj2 h h').elim
  ·exact(xj2 h' h).elim
  rcases h with⟨s,a,b,x,y,g,u,_,_,rfl,rfl⟩ |⟨k,es,vs,_,g,rfl,rfl⟩ |⟨a,k,vs,f,kn,i,g,u,M,h4,rfl⟩ |⟨k,t,a,x,g,rfl,rfl⟩ |⟨a,rs,k,t,x,y,e0,_,g,u,M,rfl⟩ |⟨a,b,c,x,g,u,rfl⟩ <;>
  rcases h' with⟨s',z,b',C,O,j,o,_,_,e,rfl⟩ |⟨k',es',G,_,j,e,rfl⟩ |⟨z,k',G,f',a0,i',j,o,g3,g4,e⟩ |⟨k',t',z,C,j,e,rfl⟩ |⟨z,I,k',t',C,O,a1,_,j,o,g3,e⟩ |⟨z,b',c',C,j,o,e⟩ <;>
  first |exact absurd e (xrx (by walk_at"k")) |skip
  ·cases e
   have:=m _ _ _ _ g j;have h:=m _ _ _ _ u o;cases this;cases h;rfl
  ·cases e
   rw[xkn (λa v w=>m env a v w) g j]
  ·cases e
   have:=m _ _ _ _ g j;cases this;rw[u]at o;cases o;rw[M]at g3;cases g3;rw[h4]at g4;exact qC g4
  ·cases e
   rw[m _ _ _ _ g j]
  ·have e1:=(zS (zS (D.tup.inj e)).2).1
   have e2:=D.tup.inj (zS (zS (zS (D.tup.inj e)).2).2).1
   have e3:rs=I:=by
    have:∀{l p:List (Str×Str×D)},l.map dArm=p.map dArm->l=p:=by
     intro l
     induction l with
     |nil=>intro p h;cases p with |nil=>rfl |cons _ _=>cases h
     | cons r l J=>
      intro p h
      cases p with
      |nil=>cases h
      |cons r' p=>
       rw[List.map_cons,List.map_cons]at h;have q:=zS h;obtain⟨r1,r2,r3⟩:=r;obtain⟨Z,Y,U⟩:=r';have q1:=q.1;cases q1;rw[J q.2]
    exact this e2
   subst e1 e3;have:=m _ _ _ _ g j;cases this;rw[u]at o;cases o;exact m _ _ _ _ M g3
  ·cases e
   have:=m _ _ _ _ g j;cases this;exact m _ _ _ _ u o
noncomputable def wv(ks:List Kn)(bx:List (Str×D))(t:D):D:=open Classical in if h:∃v,Ev ks 21 (enOf bx) t v then h.choose else .int 0
theorem xhk{ks:List Kn}{bs:List (Str×Str)}{bx:List (Str×D)}{t:D}{k:Str}(h:TmOk ks 21 bs t k)(f:FitB ks bs (enOf bx)):Ev ks 21 (enOf bx) t (wv ks bx t)/\Vk ks k (wv ks bx t):=by
 obtain⟨v,b,c⟩:=h _ f;have a:∃v,Ev ks 21 (enOf bx) t v:=⟨v,xmz _ _ _ _ b⟩;have e:wv ks bx t=a.choose:=by unfold wv;rw[dif_pos a]
 rw[e,xp5 _ _ _ _ _ a.choose_spec (xmz _ _ _ _ b)];exact⟨xmz _ _ _ _ b,c⟩
abbrev Lts:=List (Str×List D)
def getL(cs:Lts)(c:Str):Option (List D):=(cs.find? λp=>decide (p.1=c)).map (·.2)
def modL(f:List D->List D)(c:Str):Lts->Lts
 |[]=>[]
 |p::ps=>if p.1=c then (p.1,f p.2)::ps else p::modL f c ps
theorem xca{p:Str×List D}{ps:Lts}{c:Str}:getL (p::ps) c=if p.1=c then some p.2 else getL ps c:=by
 unfold getL;rw[List.find?_cons];by_cases e:p.1=c
 ·rw[zDT e,if_pos e];rfl
 ·rw[zDF e,if_neg e]
theorem xdx(f:List D->List D)(c:Str):∀cs:Lts,(modL f c cs).map (·.1)=cs.map (·.1)
 |[]=>rfl
 |p::ps=>by
  unfold modL;split
  ·rfl
  ·rw[List.map_cons,List.map_cons,xdx f c ps]
theorem xik{f:List D->List D}{c b:Str}:∀{cs:Lts},getL (modL f c cs) b=if b=c then (getL cs c).map f else getL cs b
 |[]=>by show none=_;split <;> rfl
 | p::ps=>by
  unfold modL;by_cases e:p.1=c
  ·rw[if_pos e,xca,xca,xca,if_pos e]
   by_cases a:b=c
   ·rw[if_pos a,if_pos (show p.1=b by rw[e,a])];rfl
   ·have:¬p.1=b:=λz=>a (z.symm.trans e)
    rw[if_neg a,if_neg this,if_neg this]
  ·rw[if_neg e,xca,xca,xca,if_neg e,xik]
   by_cases a:b=c
   ·rw[if_neg (λz=>e (z.trans a))]
    rw[if_pos a,if_pos a]
   ·rw[if_neg a,if_neg a]
theorem xil{cs:Lts}{c:Str}(h:c∈cs.map (·.1)):∃ds,getL cs c=some ds/\(c,ds)∈cs:=by
 induction cs with
 |nil=>exact nomatch h
 | cons p ps a=>
  rw[xca];by_cases e:p.1=c
  ·rw[if_pos e]
   exact⟨p.2,rfl,by rw[<- e];simp⟩
  ·rw[if_neg e]
   rcases zMC h with h |h
   ·exact absurd h.symm e
   ·obtain⟨ds,f,b⟩:=a h
    exact⟨ds,f,qF _ b⟩
def Chg(la:Addr)(xs:List V)(H H':Hp):Prop:=∀b o,H b=some o->H' b=some (if b=la then .lst xs else o)
theorem Chg.upd{a:Addr}{xs:List V}{H:Hp}:Chg a xs H (upd H a (.lst xs)):=λb o e=>by
 by_cases h:b=a
 ·subst h;rw[ups,if_pos rfl]
 ·rw[xai h,if_neg h];exact e
theorem Chg.pre{a:Addr}{xs:List V}{H g f:Hp}(s:Same H g)(c:Chg a xs g f):Chg a xs H f:=λb o e=>c b o (s b o e)
theorem Chg.ne{a:Addr}{xs:List V}{H f:Hp}(c:Chg a xs H f){b:Addr}{o:HO}(e:H b=some o)(h:b≠a):f b=some o:=by
 have:=c b o e
 rwa[if_neg h]at this
theorem Chg.at{a:Addr}{xs:List V}{H b:Hp}(c:Chg a xs H b){o:HO}(e:H a=some o):b a=some (.lst xs):=by
 have:=c a o e
 rwa[if_pos rfl]at this
theorem Chg.tups{a:Addr}{us xs:List V}{H f:Hp}(c:Chg a xs H f)(h:H a=some (.lst us)):∀b vs,H b=some (.tup vs)->f b=some (.tup vs):=λb vs e=>c.ne e λz=>by subst z;rw[h]at e;cases e
theorem Same.tups{H a:Hp}(s:Same H a):∀b vs,H b=some (.tup vs)->a b=some (.tup vs):=λb vs e=>s b _ e
def LsAt(H:Hp):List (Key×V)->Lts->List Addr->Prop
 |[],[],[]=>True
 |kv::kvs,c::cs,a::L=>kv=(Sum.inr c.1,.ref a)/\(∃us,H a=some (.lst us)/\RelDs H us c.2)/\LsAt H kvs cs L
 |_,_,_=>False
theorem LsAt.keep{H f:Hp}(s:∀b vs,H b=some (.tup vs)->f b=some (.tup vs)):∀{kvs:List (Key×V)} {cs:Lts} {L:List Addr},(∀a∈L,∀us,H a=some (.lst us)->f a=some (.lst us))->LsAt H kvs cs L->LsAt f kvs cs L
 |[],[],[],_,_=>trivial
 |m::kvs,c::cs,a::L,k,⟨e,⟨us,l,j⟩,i⟩=>⟨e,⟨us,k a (by simp) us l,j.tups s _⟩,LsAt.keep s (λb g=>k b (qF _ g)) i⟩
 |[],[],_::_,_,h=>h.elim
 |[],_::_,_,_,h=>h.elim
 |_::_,[],_,_,h=>h.elim
 |_::_,_::_,[],_,h=>h.elim
theorem LsAt.same{H b:Hp}(s:Same H b){kvs:List (Key×V)}{cs:Lts}{L:List Addr}(h:LsAt H kvs cs L):LsAt b kvs cs L:=LsAt.keep (Same.tups s) (λa _ us e=>s _ _ e) h
theorem LsAt.lens{H:Hp}:∀{kvs:List (Key×V)} {cs:Lts} {L:List Addr},LsAt H kvs cs L->kvs.length=cs.length/\L.length=cs.length
 |[],[],[],_=>⟨rfl,rfl⟩
 |b::kvs,c::cs,a::L,⟨_,_,h⟩=>by
  have:=LsAt.lens h;exact⟨by rw[List.length_cons,List.length_cons,this.1],by rw[List.length_cons,List.length_cons,this.2]⟩
 |[],[],_::_,h=>h.elim
 |[],_::_,_,h=>h.elim
 |_::_,[],_,h=>h.elim
 |_::_,_::_,[],h=>h.elim
theorem LsAt.snoc{H:Hp}{c:Str}{a:Addr}{us:List V}{ds:List D}(b:H a=some (.lst us))(r:RelDs H us ds):∀{kvs:List (Key×V)} {cs:Lts} {L:List Addr},LsAt H kvs cs L->LsAt H (kvs++[(Sum.inr c,.ref a)]) (cs++[(c,ds)]) (L++[a])
 |[],[],[],_=>⟨rfl,⟨us,b,r⟩,trivial⟩
 |i::kvs,c::cs,a::L,⟨e,g,f⟩=>⟨e,g,LsAt.snoc b r f⟩
 |[],[],_::_,h=>h.elim
 |[],_::_,_,h=>h.elim
 |_::_,[],_,h=>h.elim
 |_::_,_::_,[],h=>h.elim
theorem LsAt.idx{H:Hp}:∀{kvs:List (Key×V)} {cs:Lts} {L:List Addr} {i:Nat} {b:Key×V},LsAt H kvs cs L->kvs[i]?=some b->∃c a us,cs[i]?=some c/\b=(Sum.inr c.1,.ref a)/\H a=some (.lst us)/\RelDs H us c.2
 |[],[],[],i,b,_,e=>by simp at e
 |kv'::kvs,c::cs,a::L,0,b,⟨m,⟨us,g,f⟩,_⟩,e=>by
  simp at e;subst e;exact⟨c,a,us,rfl,m,g,f⟩
 |kv'::kvs,c::cs,a::L,i+1,b,⟨_,_,h⟩,e=>by
  obtain⟨n,o,us,l,j⟩:=LsAt.idx (i:=i) h (by simpa using e);exact⟨n,o,us,by simpa using l,j⟩
 |[],[],_::_,_,_,h,_=>h.elim
 |[],_::_,_,_,_,h,_=>h.elim
 |_::_,[],_,_,_,h,_=>h.elim
 |_::_,_::_,[],_,_,h,_=>h.elim
theorem LsAt.keys{H:Hp}:∀{kvs:List (Key×V)} {cs:Lts} {L:List Addr},LsAt H kvs cs L->kvs.map (·.1)=cs.map λc=>(Sum.inr c.1:Key)
 |[],[],[],_=>rfl
 |b::kvs,c::cs,a::L,⟨e,_,h⟩=>by rw[List.map_cons,List.map_cons,LsAt.keys h,e]
 |[],[],_::_,h=>h.elim
 |[],_::_,_,h=>h.elim
 |_::_,[],_,h=>h.elim
 |_::_,_::_,[],h=>h.elim
theorem xj6{α:Type}{f:α->Str}{l:List α}(h:(l.map f).Nodup):(l.map λa=>(Sum.inr (f a):Key)).Nodup:=List.pairwise_map.mpr ((List.pairwise_map.mp h).imp λh z=>h (Sum.inr.inj z))
theorem LsAt.there{H:Hp}:∀{kvs:List (Key×V)} {cs:Lts} {L:List Addr},LsAt H kvs cs L->∀a∈L,∃us,H a=some (.lst us)
 |[],[],[],_,a,h=>nomatch h
 |i::kvs,c::cs,a::L,⟨_,⟨us,g,_⟩,f⟩,b,e=>by
  rcases zMC e with rfl |e
  ·exact⟨us,g⟩
  ·exact LsAt.there f b e
 |[],[],_::_,h,_,_=>h.elim
 |[],_::_,_,h,_,_=>h.elim
 |_::_,[],_,h,_,_=>h.elim
 |_::_,_::_,[],h,_,_=>h.elim
theorem LsAt.get {H:Hp} {c:Str}:∀{kvs:List (Key×V)} {cs:Lts} {L:List Addr} {ds:List D},LsAt H kvs cs L->L.Nodup->getL cs c=some ds->
  ∃la us,valV kvs (Sum.inr c)=some (.ref la)/\la∈L/\H la=some (.lst us)/\RelDs H us ds/\∀(H':Hp) (us':List V) (f:List D->List D),Chg la us' H H'->RelDs H' us' (f ds)->LsAt H' kvs (modL f c cs) L
 |[],[],[],ds,_,_,e=>nomatch e
 | kv::kvs,p::cs,a::L,ds,⟨e,⟨us,h1,h2⟩,h3⟩,nd,hg=>by
  subst e;rw[List.nodup_cons]at nd;rw[xca]at hg;by_cases ec:p.1=c
  ·rw[if_pos ec]at hg
   cases hg;refine⟨a,us,by rw[xcb (by rw[ec])],by simp,h1,h2,λH' us' f ch r=>?_⟩;unfold modL;rw[if_pos ec];refine⟨rfl,⟨us',ch.at h1,r⟩,LsAt.keep (ch.tups h1) (λb hb vs q=>ch.ne q λz=>nd.1 (by rw[<- z];exact hb)) h3⟩
  ·rw[if_neg ec]at hg
   obtain⟨la,us2,g1,g2,g3,g4,g5⟩:=LsAt.get h3 nd.2 hg;refine⟨la,us2,by rw[xcc (λz=>ec (Sum.inr.inj z))];exact g1,qF _ g2,g3,g4,λH' us' f ch r=>?_⟩;unfold modL;rw[if_neg ec];refine⟨rfl,⟨us,ch.ne h1 λz=>nd.1 (by rw[z];exact g2),h2.tups (ch.tups g3) _⟩,g5 H' us' f ch r⟩
 |[],[],_::_,_,h,_,_=>h.elim
 |[],_::_,_,_,h,_,_=>h.elim
 |_::_,[],_,_,h,_,_=>h.elim
 |_::_,_::_,[],_,h,_,_=>h.elim
def StAt(H:Hp)(sa p:Addr)(k:Nat)(bx:List (Str×D)):Prop:=H sa=some (.tup [.int k,.ref p])/\∃kvs,H p=some (.dK kvs)/\KvD H kvs bx
theorem StAt.keep{H a:Hp}{c p:Addr}{k:Nat}{bx:List (Str×D)}(h:StAt H c p k bx)(s:∀b vs,H b=some (.tup vs)->a b=some (.tup vs))(e:∀o,H p=some o->a p=some o):StAt a c p k bx:=by
 obtain⟨i,kvs,g,f⟩:=h;exact⟨s _ _ i,kvs,e _ g,f.tups s⟩
theorem StAt.same{H b:Hp}{a p:Addr}{k:Nat}{bx:List (Str×D)}(h:StAt H a p k bx)(s:Same H b):StAt b a p k bx:=h.keep (Same.tups s) λo e=>s _ _ e
theorem StAt.chg{H i:Hp}{a p b:Addr}{us xs:List V}{k:Nat}{bx:List (Str×D)}(h:StAt H a p k bx)(f:H b=some (.lst us))(c:Chg b xs H i):StAt i a p k bx:=h.keep (c.tups f) λo e=>c.ne e λz=>by
 obtain⟨_,kvs,g,_⟩:=h;rw[z,f]at g;cases g
theorem hdT{x y:Str}(h:x=y):decide (V.str x=V.str y)=true:=zDT (congrArg V.str h)
theorem hdF{x y:Str}(h:x≠y):decide (V.str x=V.str y)=false:=zDF λz=>h (V.str.inj z)
theorem xug{r:Row}(h:∀g,r≠.go g):r.hd≠S "go":=by cases r <;> first |exact absurd rfl (h _) |(show S _≠S _;decide +kernel)
theorem xuf{r:Row}(h:∀t g,r≠.cond t g):r.hd≠S "if":=by cases r <;> first |exact absurd rfl (h _ _) |(show S _≠S _;decide +kernel)
theorem xp0{r:Row}(h:r≠.fin):r.hd≠S "end":=by cases r <;> first |exact absurd rfl h |(show S _≠S _;decide +kernel)
theorem xfk{r:Row}(h:∀l c x,r≠.take l c x):r.hd≠S "take":=by cases r <;> first |exact absurd rfl (h _ _ _) |(show S _≠S _;decide +kernel)
theorem xpz{r:Row}(h:∀c t,r≠.send c t):r.hd≠S "send":=by cases r <;> first |exact absurd rfl (h _ _) |(show S _≠S _;decide +kernel)
theorem xsu{r:Row}(h:∀x t,r≠.set x t):r.hd≠S "set":=by cases r <;> first |exact absurd rfl (h _ _) |(show S _≠S _;decide +kernel)
theorem xue{r:Row}(h:∀t,r≠.tell t):r.hd≠S "tell":=by cases r <;> first |exact absurd rfl (h _) |(show S _≠S _;decide +kernel)
open Classical in
noncomputable def xcv(ks:List Kn)(bx:List (Str×D))(k:Nat):Row->Nat
 |.go g=>g
 |.cond t g=>if wv ks bx t=.int 0 then k+1 else g
 |_=>k+1
noncomputable def xdq(ks:List Kn)(bx:List (Str×D))(l:D):Row->List (Str×D)
 |.set x t=>putA bx x (wv ks bx t)
 |.take _ _ x=>putA bx x l
 |_=>bx
structure LSt where
 row:Nat
 bx:List (Str×D)
 com:Lts
 goi:Lts
 told:List D
 many:Nat
def Row.shut(com:Lts):Row->Bool
 |.fin=>true
 |.take _ c _=>((getL com c).getD []).isEmpty
 |_=>false
def Row.letter(com:Lts):Row->D
 |.take _ c _=>((getL com c).getD []).headD (.int 0)
 |_=>.int 0
def Row.com(com:Lts):Row->Lts
 |.take _ c _=>modL List.tail c com
 |_=>com
noncomputable def Row.goi(ks:List Kn)(bx:List (Str×D))(goi:Lts):Row->Lts
 |.send c t=>modL (λl=>l++[wv ks bx t]) c goi
 |_=>goi
noncomputable def Row.told(ks:List Kn)(bx:List (Str×D))(told:List D):Row->List D
 |.tell t=>told++[wv ks bx t]
 |_=>told
noncomputable def LSt.next(ks:List Kn)(s:LSt)(r:Row):LSt:=⟨xcv ks s.bx s.row r,xdq ks s.bx (r.letter s.com) r,r.com s.com,r.goi ks s.bx s.goi,r.told ks s.bx s.told,s.many+1⟩
structure LOk(m:Mak)(h:Hand)(s:LSt):Prop where
 row:s.row<h.rows.length
 keys:s.bx.map (·.1)=h.boxes.map (·.1)
 fit:FitB m.kinds h.boxes (enOf s.bx)
 com:s.com.map (·.1)=(m.chans.filter λc=>decide (c.2.2.1=h.name)).map (·.1)
 goi:s.goi.map (·.1)=(m.chans.filter λc=>decide (c.2.1=h.name)).map (·.1)
 cok:∀c∈m.chans,∀ds,getL s.com c.1=some ds->∀d∈ds,Vk m.kinds c.2.2.2 d
 gok:∀p∈s.goi,p.2.length<=s.many/\∀d∈p.2,d.deep<=12
 tok:s.told.length<=s.many/\∀d∈s.told,d.deep<=12
theorem xh1{f:Str}{v u:V}:∀{fs:List (Str×V)},fs.lookup f=some u->(putF f v fs).length=fs.length
 |[],h=>nomatch h
 | (g,x)::r,h=>by
  unfold putF;by_cases e:g=f
  ·rw[if_pos e];rfl
  ·rw[if_neg e,List.length_cons,List.length_cons]
   rw[List.lookup_cons,show(f == g)=false from beq_eq_false_iff_ne.mpr (Ne.symm e)]at h;rw[xh1 h]
def Lms:List Str:=[Str.ofString "step",Str.ofString "stand",Str.ofString "told",Str.ofString "sent",Str.ofString "left",Str.ofString "count"]
structure Lf(fs:List (Str×V))(mv:V)(h:Str)(sa ca ga ta:Addr)(n:Int):Prop where
 mkv:fs.lookup (Str.ofString "make")=some mv
 nm:fs.lookup (Str.ofString "name")=some (.str h)
 nw:fs.lookup (Str.ofString "now")=some (.ref sa)
 cm:fs.lookup (Str.ofString "coming")=some (.ref ca)
 gn:fs.lookup (Str.ofString "going")=some (.ref ga)
 tl:fs.lookup (Str.ofString "tellings")=some (.ref ta)
 mn:fs.lookup (Str.ofString "many")=some (.int n)
 len:fs.length<=7
 no:∀f∈Lms,fs.lookup f=none
theorem Lf.init{j:V}{h:Str}{i o m c:Addr}:Lf (putF (Str.ofString "many") (.int 0) (putF (Str.ofString "tellings") (.ref c) (putF (Str.ofString "going") (.ref m) (putF (Str.ofString "coming") (.ref o) (putF (Str.ofString "now") (.ref i) (putF (Str.ofString "name") (.str h) (putF (Str.ofString "make") j []))))))) j h i o m c 0:=by
 have ne:∀{f g:Str} {v u:V} {fs:List (Str×V)},fs.lookup g=some u->g≠f->(putF f v fs).lookup g=some u:=λe n=>by rw[xbq,if_neg n];exact e
 have b:∀{f:Str} {v:V} {fs:List (Str×V)},(putF f v fs).lookup f=some v:=by intro f v fs;rw[xbq,if_pos rfl]
 have a:∀{g:Str} {v:V} {fs:List (Str×V)},(∀f∈Lms,fs.lookup f=none)->(∀f∈Lms,f≠g)->∀f∈Lms,(putF g v fs).lookup f=none:=λh n f l=>by rw[xbq,if_neg (n f l)];exact h f l
 refine⟨?_,?_,?_,?_,?_,?_,b,?_,?_⟩
 ·exact ne (ne (ne (ne (ne (ne b (by walk_at"k")) (by walk_at"k")) (by walk_at"k")) (by walk_at"k")) (by walk_at"k")) (by walk_at"k")
 ·exact ne (ne (ne (ne (ne b (by walk_at"k")) (by walk_at"k")) (by walk_at"k")) (by walk_at"k")) (by walk_at"k")
 ·exact ne (ne (ne (ne b (by walk_at"k")) (by walk_at"k")) (by walk_at"k")) (by walk_at"k")
 ·exact ne (ne (ne b (by walk_at"k")) (by walk_at"k")) (by walk_at"k")
 ·exact ne (ne b (by walk_at"k")) (by walk_at"k")
 ·exact ne b (by walk_at"k")
 ·refine zY (xar _ _ _) (zI (zY (xar _ _ _) (zI (zY (xar _ _ _) (zI (zY (xar _ _ _) (zI (zY (xar _ _ _) (zI (zY (xar _ _ _) (zI (zY (xar _ _ _) ?_))))))))))))
  exact zZ _
 ·exact a (a (a (a (a (a (a (λ_ _=>rfl) (by walk_at"k")) (by walk_at"k")) (by walk_at"k")) (by walk_at"k")) (by walk_at"k")) (by walk_at"k")) (by walk_at"k")
theorem Lf.now{fs:List (Str×V)}{c:V}{h:Str}{j i g b:Addr}{n:Int}(l:Lf fs c h j i g b n)(a:Addr):Lf (putF (Str.ofString "now") (.ref a) fs) c h a i g b n:=by
 refine⟨?_,?_,?_,?_,?_,?_,?_,by rw[xh1 l.nw];exact l.len,λf e=>by rw[xbq,if_neg ((by walk_at"k":∀f∈Lms,f≠Str.ofString "now") f e)];exact l.no f e⟩ <;> rw[xbq]
 ·rw[if_neg (by walk_at"k")];exact l.mkv
 ·rw[if_neg (by walk_at"k")];exact l.nm
 ·rw[if_pos rfl]
 ·rw[if_neg (by walk_at"k")];exact l.cm
 ·rw[if_neg (by walk_at"k")];exact l.gn
 ·rw[if_neg (by walk_at"k")];exact l.tl
 ·rw[if_neg (by walk_at"k")];exact l.mn
theorem Lf.many{fs:List (Str×V)}{e:V}{h:Str}{b j i a:Addr}{n:Int}(l:Lf fs e h b j i a n)(c:Int):Lf (putF (Str.ofString "many") (.int c) fs) e h b j i a c:=by
 refine⟨?_,?_,?_,?_,?_,?_,?_,by rw[xh1 l.mn];exact l.len,λf g=>by rw[xbq,if_neg ((by walk_at"k":∀f∈Lms,f≠Str.ofString "many") f g)];exact l.no f g⟩ <;> rw[xbq]
 ·rw[if_neg (by walk_at"k")];exact l.mkv
 ·rw[if_neg (by walk_at"k")];exact l.nm
 ·rw[if_neg (by walk_at"k")];exact l.nw
 ·rw[if_neg (by walk_at"k")];exact l.cm
 ·rw[if_neg (by walk_at"k")];exact l.gn
 ·rw[if_neg (by walk_at"k")];exact l.tl
 ·rw[if_pos rfl]
structure LnA where
 dx:Addr
 sa:Addr
 p:Addr
 ca:Addr
 ga:Addr
 ta:Addr
 Lc:List Addr
 Lg:List Addr
structure LnAt(H:Hp)(C x:Addr)(mv:V)(h:Str)(a:LnA)(st:LSt):Prop where
 ob:∃fs,H x=some (.ins C a.dx fs)/\Lf fs mv h a.sa a.ca a.ga a.ta st.many
 sta:StAt H a.sa a.p st.row st.bx
 com:∃kc,H a.ca=some (.dK kc)/\LsAt H kc st.com a.Lc
 goi:∃kg,H a.ga=some (.dK kg)/\LsAt H kg st.goi a.Lg
 tel:∃ut,H a.ta=some (.lst ut)/\RelDs H ut st.told
 nd:(a.ta::(a.Lc++a.Lg)).Nodup
def LnA.F(a:LnA)(x:Addr):List Addr:=x::a.p::a.ca::a.ga::a.ta::(a.Lc++a.Lg)
theorem LnAt.keep{H f:Hp}{C x:Addr}{g:V}{h:Str}{a:LnA}{st:LSt}(l:LnAt H C x g h a st)(s:∀b vs,H b=some (.tup vs)->f b=some (.tup vs))(k:∀b∈a.F x,∀o,H b=some o->f b=some o):LnAt f C x g h a st:=by
 obtain⟨⟨fs,I,G⟩,z,⟨m,y,w⟩,⟨j,u,r⟩,⟨i,p,n⟩,nd⟩:=l;exact⟨⟨fs,k x (by simp[LnA.F]) _ I,G⟩,z.keep s λo e=>k _ (by simp[LnA.F]) o e,⟨m,k _ (by simp[LnA.F]) _ y,w.keep s λb c us e=>k b (by simp[LnA.F,c]) _ e⟩,⟨j,k _ (by simp[LnA.F]) _ u,r.keep s λb c us e=>k b (by simp[LnA.F,c]) _ e⟩,⟨i,k _ (by simp[LnA.F]) _ p,n.tups s _⟩,nd⟩
theorem LnAt.same{H f:Hp}{C x:Addr}{c:V}{h:Str}{a:LnA}{st:LSt}(l:LnAt H C x c h a st)(s:Same H f):LnAt f C x c h a st:=l.keep (Same.tups s) λb _ o e=>s b o e
theorem LnAt.stepped {H c:Hp} {C x:Addr} {G:V} {h:Str} {a:LnA} {st st':LSt} {g r:Addr} {fs fs2:List (Str×V)} (l:LnAt H C x G h a st) (U:c x=some (.ins C a.dx fs)) (O:Lf fs2 G h g a.ca a.ga a.ta st'.many) (y:StAt c g r st'.row st'.bx)
  (com:∃m,c a.ca=some (.dK m)/\LsAt c m st'.com a.Lc) (goi:∃I,c a.ga=some (.dK I)/\LsAt c I st'.goi a.Lg) (w:∃u,c a.ta=some (.lst u)/\RelDs c u st'.told)
  (fr:∀b o,H b=some o->b ∉a.F x->c b=some o) (M:∀b vs,H b=some (.tup vs)->c b=some (.tup vs)) (s:r=a.p\/H r=none) :
  LnAt (upd c x (.ins C a.dx fs2)) C x G h {a with sa:=g,p:=r} st'/\(∀b o,H b=some o->b ∉a.F x->upd c x (.ins C a.dx fs2) b=some o)/\(∀b vs,H b=some (.tup vs)->upd c x (.ins C a.dx fs2) b=some (.tup vs))/\∀b∈({a with sa:=g,p:=r}:LnA).F x,b∈a.F x\/H b=none:=by
 have ne:∀b o,c b=some o->(∀fs,o≠.ins C a.dx fs)->upd c x (.ins C a.dx fs2) b=some o:=λb o e n=>by
  rw[xai λz=>by rw[z,U]at e;exact n fs (qC e).symm];exact e
 have f:∀b vs,c b=some (.tup vs)->upd c x (.ins C a.dx fs2) b=some (.tup vs):=λb vs e=>ne b _ e λfs z=>by cases z
 have ls:∀{kvs cs L},LsAt c kvs cs L->LsAt (upd c x (.ins C a.dx fs2)) kvs cs L:=λh=>h.keep f λb _ us e=>ne b _ e λfs z=>by cases z
 refine⟨⟨⟨fs2,ups,O⟩,?_,?_,?_,?_,l.nd⟩,λb o e n=>?_,λb vs e=>f b vs (M b vs e),λb J=>?_⟩
 ·obtain⟨j,kvs,i,Y⟩:=y
  exact⟨f _ _ j,kvs,ne _ _ i (λfs z=>by cases z),Y.tups f⟩
 ·obtain⟨m,j,i⟩:=com
  exact⟨m,ne _ _ j (λfs z=>by cases z),ls i⟩
 ·obtain⟨m,j,i⟩:=goi
  exact⟨m,ne _ _ j (λfs z=>by cases z),ls i⟩
 ·obtain⟨u,j,i⟩:=w
  exact⟨u,ne _ _ j (λfs z=>by cases z),i.tups f _⟩
 ·rw[xai λz=>n (by rw[z];simp[LnA.F])]
  exact fr b o e n
 ·simp only[LnA.F,List.mem_cons]at J⊢
  rcases J with h |h |h |h |h |h
  ·exact .inl (.inl h)
  ·rcases s with s |s
   ·exact .inl (.inr (.inl (h.trans s)))
   ·exact .inr (by rw[h];exact s)
  ·exact .inl (.inr (.inr (.inl h)))
  ·exact .inl (.inr (.inr (.inr (.inl h))))
  ·exact .inl (.inr (.inr (.inr (.inr (.inl h)))))
  ·exact .inl (.inr (.inr (.inr (.inr (.inr h)))))
theorem LsAt.val{H:Hp}{c:Str}:∀{kvs:List (Key×V)} {cs:Lts} {L:List Addr},LsAt H kvs cs L->(getL cs c=none->valV kvs (Sum.inr c)=none)/\∀ds,getL cs c=some ds->∃f us,valV kvs (Sum.inr c)=some (.ref f)/\H f=some (.lst us)/\RelDs H us ds
 |[],[],[],_=>⟨λ_=>rfl,λds e=>by cases e⟩
 | m::kvs,p::cs,a::L,⟨e,⟨us,l,j⟩,i⟩=>by
  subst e;have g:=LsAt.val (c:=c) i;rw[xca];by_cases b:p.1=c
  ·rw[if_pos b,xcb (by rw[b])]
   exact⟨λz=>(by cases z),λds z=>by cases z;exact⟨a,us,rfl,l,j⟩⟩
  ·rw[if_neg b,xcc (λz=>b (Sum.inr.inj z))]
   exact g
 |[],[],_::_,h=>h.elim
 |[],_::_,_,h=>h.elim
 |_::_,[],_,h=>h.elim
 |_::_,_::_,[],h=>h.elim
theorem xri{ks:List Kn}(b:KWf ks):∀(m:Nat) (x:Str),KIn ks m x->Vk ks x (nuV (m+1) ks x)
 | 0,x,h=>by
  rcases h.nu b with⟨rfl,_,_,e⟩ |⟨j,k,f,_⟩
  ·rw[e]
   exact .num 0 ⟨by decide,by decide⟩
  ·cases f
 | m+1,x,h=>by
  rcases h.nu b with⟨rfl,_,_,e⟩ |⟨j,k,f,n,hn,u,l,_,s⟩
  ·rw[e]
   exact .num 0 ⟨by decide,by decide⟩
  ·cases f
   rcases s with⟨c,_,e⟩ |⟨c,p,r,o,_,e⟩
   ·rw[e]
    refine .rc n c (by rw[zLM]) λi w p g a=>?_;rw[zGM,a]at g;cases g;exact xri b m p.2 (l p (zMG a))
   ·rw[e]
    exact .al n c (by rw[o];simp) (xri b m p.2 (l p (by rw[o];simp)))
theorem xgr{α:Type}{f:α->Str}{p:α->Bool}{l:List α}(nd:(l.map f).Nodup){a:α}(j:a∈l)(h:f a∈(l.filter p).map f):p a=true:=by
 obtain⟨b,i,e⟩:=zMP h;obtain⟨g,c⟩:=List.mem_filter.mp i;have:b=a:=xb9 nd g j e;rw[<- this];exact c
theorem LOk.bxlen{m:Mak}{h:Hand}{s:LSt}(o:LOk m h s)(a:HandOk m.kinds m.chans h):s.bx.length<=5:=by
 have:=congrArg List.length o.keys;rw[zLM,zLM]at this;have:=a.few;omega
theorem xd2{ks:List Kn}(b:KWf ks){x:Str}{v:D}(a:KIn ks 6 x)(h:Vk ks x v):v.deep<=12:=xkp b 6 x v a h
theorem xim{ks:List Kn}{bs:List (Str×Str)}{bx:List (Str×D)}{x k:Str}{d:D}(nd:(bs.map (·.1)).Nodup)(f:FitB ks bs (enOf bx))(b:(x,k)∈bs)(c:Vk ks k d):FitB ks bs (enOf (putA bx x d)):=λp a=>by
 rw[xwi];unfold En.put;by_cases e:p.1=x
 ·have:p=(x,k):=xb9 nd a b e
  subst this;exact⟨d,if_pos rfl,c⟩
 ·obtain⟨v,h,g⟩:=f p a
  exact⟨v,by rw[if_neg e];exact h,g⟩
theorem HandOk.pos{ks:List Kn}{cs:List Chn}{h:Hand}(o:HandOk ks cs h):0<h.rows.length:=by
 obtain⟨r,e,_⟩:=o.last
 cases b:h.rows with
 |nil=>rw[b]at e;cases e
 |cons a l=>simp
theorem xmf{ks:List Kn}{cs:List Chn}{h:Hand}(o:HandOk ks cs h){bx:List (Str×D)}{k:Nat}{r:Row}(f:h.rows[k]?=some r)(i:r≠.fin):xcv ks bx k r<h.rows.length:=by
 have n:=(zES f).1;have a:=o.ok r (zMG f)
 have step:¬r.ends->k+1<h.rows.length:=λj=>by
  rcases Nat.lt_or_ge (k+1) h.rows.length with z |z
  ·exact z
  ·obtain⟨m,e,b⟩:=o.last
   have:h.rows.getLast?=some r:=by
    rw[List.getLast?_eq_getElem?,show h.rows.length-1=k by omega];exact f
   rw[this]at e;cases e;exact absurd b j
 cases r with
 |fin=>exact absurd rfl i
 |go g=>exact a
 | cond t g=>
  by_cases e:wv ks bx t=.int 0
  ·rw[show xcv ks bx k (.cond t g)=k+1 from if_pos e]
   exact step λh=>h
  ·rw[show xcv ks bx k (.cond t g)=g from if_neg e]
   exact a.2
 |set x t=>exact step λh=>h
 |send c t=>exact step λh=>h
 |take l c x=>exact step λh=>h
 |tell t=>exact step λh=>h
theorem xpk{f:List D->List D}{c:Str}{p:Str×List D}:∀{cs:Lts},p∈modL f c cs->p∈cs\/∃q∈cs,p=(q.1,f q.2)
 |[],h=>nomatch h
 | q::cs,h=>by
  unfold modL at h;split at h
  ·rcases zMC h with h |h
   ·exact .inr ⟨q,by simp,h⟩
   ·exact .inl (qF _ h)
  ·rcases zMC h with h |h
   ·exact .inl (by rw[h];simp)
   ·rcases xpk h with h |⟨a,b,e⟩
    ·exact .inl (qF _ h)
    ·exact .inr ⟨a,qF _ b,e⟩
theorem LOk.next{m:Mak}{h:Hand}{s:LSt}{r:Row}(g:MakOk m)(J:h∈m.hands)(o:LOk m h s)(Z:h.rows[s.row]?=some r)(Y:r.shut s.com=false):LOk m h (s.next m.kinds r):=by
 have w:=g.hok h J;have a:=w.ok r (zMG Z);have I:r≠.fin:=λe=>by subst e;cases Y
 have U:=g.wf;refine⟨xmf w Z I,?_,?_,?_,?_,?_,?_,?_⟩
 ·show(xdq m.kinds s.bx (r.letter s.com) r).map (·.1)=_
  rw[<- o.keys]
  cases r with
  |set x t=>
   obtain⟨k,i,_⟩:=a;exact xe3 (by rw[o.keys];exact qG i)
  |take l c x=>
   obtain⟨ch,_,_,_,i⟩:=a;exact xe3 (by rw[o.keys];exact qG i)
  |_=>rfl
 ·show FitB m.kinds h.boxes (enOf (xdq m.kinds s.bx (r.letter s.com) r))
  cases r with
  |set x t=>
   obtain⟨k,i,C⟩:=a;exact xim w.nd o.fit i (xhk C o.fit).2
  | take l c x=>
   obtain⟨ch,f,rfl,z,i⟩:=a;refine xim w.nd o.fit i ?_
   have M:ch.1∈s.com.map (·.1):=by
    rw[o.com];exact qG (List.mem_filter.mpr ⟨f,zDT z⟩)
   obtain⟨ds,u,_⟩:=xil M;have n:((getL s.com ch.1).getD []).isEmpty=false:=Y;show Vk m.kinds ch.2.2.2 (((getL s.com ch.1).getD []).headD (.int 0));rw[u]at n⊢
   cases ds with
   |nil=>cases n
   |cons d ds=>exact o.cok ch f _ u d (by simp)
  |_=>exact o.fit
 ·show(r.com s.com).map (·.1)=_
  rw[<- o.com]
  cases r with
  |take l c x=>exact xdx _ _ _
  |_=>rfl
 ·show(r.goi m.kinds s.bx s.goi).map (·.1)=_
  rw[<- o.goi]
  cases r with
  |send c t=>exact xdx _ _ _
  |_=>rfl
 ·show ∀c∈m.chans,∀ds,getL (r.com s.com) c.1=some ds->∀d∈ds,Vk m.kinds c.2.2.2 d
  intro c f ds u d hd
  cases r with
  | take l c' x=>
   have b:getL (modL List.tail c' s.com) c.1=some ds:=u;rw[xik]at b;by_cases e:c.1=c'
   ·rw[if_pos e]at b
    obtain⟨O,h0,rfl⟩:=zMS b;exact o.cok c f O (by rw[e];exact h0) d (List.mem_of_mem_tail hd)
   ·rw[if_neg e]at b
    exact o.cok c f ds b d hd
  |_=>exact o.cok c f ds u d hd
 ·show ∀p∈r.goi m.kinds s.bx s.goi,p.2.length<=s.many+1/\∀d∈p.2,d.deep<=12
  have old:∀p∈s.goi,p.2.length<=s.many+1/\∀d∈p.2,d.deep<=12:=λp j=>⟨by have:=(o.gok p j).1;omega,(o.gok p j).2⟩
  cases r with
  | send c t=>
   obtain⟨ch,f,_,_,C⟩:=a;intro p j;rcases xpk (show p∈modL _ c s.goi from j) with j |⟨q,hq,rfl⟩
   ·exact old p j
   ·have G:=o.gok q hq
    refine⟨by rw[zLA,List.length_singleton];omega,λd hd=>?_⟩;rcases zMA hd with hd |hd
    ·exact G.2 d hd
    ·rw[zMO hd]
     exact xd2 U (g.ckin ch f) (xhk C o.fit).2
  |_=>exact old
 ·show(r.told m.kinds s.bx s.told).length<=s.many+1/\∀d∈r.told m.kinds s.bx s.told,d.deep<=12
  have y:=o.tok
  cases r with
  | tell t=>
   refine⟨by show(s.told++[_]).length<=_;rw[zLA,List.length_singleton];omega,λd hd=>?_⟩;rcases zMA (show d∈s.told++[_] from hd) with hd |hd
   ·exact y.2 d hd
   ·rw[zMO hd]
    exact xd2 U (.inl rfl) (xhk a o.fit).2
  |_=>exact⟨by have:=y.1;show s.told.length<=_;omega,y.2⟩
structure HSt where
 sd:Str->Nat×List (Str×D)
 bt:Str->List D
 tl:Str->List D
 ct:Str->Nat
def upF{α:Type}(f:Str->α)(x:Str)(v:α):Str->α:=λz=>if z=x then v else f z
theorem xao{α:Type}{f:Str->α}{x:Str}{v:α}:upF f x v x=v:=if_pos rfl
theorem xa3{α:Type}{f:Str->α}{x z:Str}{v:α}(h:z≠x):upF f x v z=f z:=if_neg h
def Row.shutF(bt:Str->List D):Row->Bool
 |.fin=>true
 |.take _ c _=>(bt c).isEmpty
 |_=>false
def Row.letF(bt:Str->List D):Row->D
 |.take _ c _=>(bt c).headD (.int 0)
 |_=>.int 0
noncomputable def Row.btF(ks:List Kn)(bx:List (Str×D))(bt:Str->List D):Row->Str->List D
 |.take _ c _=>upF bt c (bt c).tail
 |.send c t=>upF bt c (bt c++[wv ks bx t])
 |_=>bt
noncomputable def HSt.go(ks:List Kn)(s:HSt)(h:Str)(r:Row):HSt:=
 ⟨upF s.sd h (xcv ks (s.sd h).2 (s.sd h).1 r,xdq ks (s.sd h).2 (r.letF s.bt) r),r.btF ks (s.sd h).2 s.bt,upF s.tl h (r.told ks (s.sd h).2 (s.tl h)),upF s.ct h (s.ct h+1)⟩
structure HOk(m:Mak)(s:HSt)(N:Nat):Prop where
 row:∀h∈m.hands,(s.sd h.name).1<h.rows.length
 keys:∀h∈m.hands,(s.sd h.name).2.map (·.1)=h.boxes.map (·.1)
 fit:∀h∈m.hands,FitB m.kinds h.boxes (enOf (s.sd h.name).2)
 cok:∀c∈m.chans,(s.bt c.1).length<=N/\∀d∈s.bt c.1,Vk m.kinds c.2.2.2 d
 tok:∀h∈m.hands,(s.tl h.name).length<=N/\∀d∈s.tl h.name,d.deep<=12
theorem HOk.mono{m:Mak}{s:HSt}{N b:Nat}(o:HOk m s N)(h:N<=b):HOk m s b:=⟨o.row,o.keys,o.fit,λc a=>⟨zY (o.cok c a).1 h,(o.cok c a).2⟩,λc a=>⟨zY (o.tok c a).1 h,(o.tok c a).2⟩⟩
theorem HOk.bxlen{m:Mak}{s:HSt}{N:Nat}(o:HOk m s N)(a:MakOk m){h:Hand}(b:h∈m.hands):(s.sd h.name).2.length<=5:=by
 have:=congrArg List.length (o.keys h b);rw[zLM,zLM]at this;have:=(a.hok h b).few;omega
theorem HOk.go{m:Mak}{s:HSt}{N:Nat}(f:MakOk m)(o:HOk m s N){h:Hand}(I:h∈m.hands){r:Row}(O:h.rows[(s.sd h.name).1]?=some r)(M:r.shutF s.bt=false):HOk m (s.go m.kinds h.name r) (N+1):=by
 have y:=f.hok h I;have b:=y.ok r (zMG O);have G:r≠.fin:=λe=>by subst e;cases M
 have Y:=f.wf;have fit:=o.fit h I;have nm:∀{h':Hand},h'∈m.hands->h'≠h->h'.name≠h.name:=λa n z=>n (xb9 f.hnd a I z);have g:(s.go m.kinds h.name r).sd h.name=(xcv m.kinds (s.sd h.name).2 (s.sd h.name).1 r,xdq m.kinds (s.sd h.name).2 (r.letF s.bt) r):=xao;have i:∀{h':Hand},h'∈m.hands->h'≠h->(s.go m.kinds h.name r).sd h'.name=s.sd h'.name:=λa n=>xa3 (nm a n);refine⟨λh' a=>?_,λh' a=>?_,λh' a=>?_,λc u=>?_,λh' a=>?_⟩
 ·by_cases e:h'=h
  ·subst e
   rw[g];exact xmf y O G
  ·rw[i a e];exact o.row h' a
 ·by_cases e:h'=h
  ·subst e
   rw[g,<- o.keys h' a];show(xdq m.kinds (s.sd h'.name).2 (r.letF s.bt) r).map (·.1)=_
   cases r with
   |set x t=>
    obtain⟨k,j,_⟩:=b;exact xe3 (by rw[o.keys h' a];exact qG j)
   |take l c x=>
    obtain⟨ch,_,_,_,j⟩:=b;exact xe3 (by rw[o.keys h' a];exact qG j)
   |_=>rfl
  ·rw[i a e];exact o.keys h' a
 ·by_cases e:h'=h
  ·subst e
   rw[g];show FitB m.kinds h'.boxes (enOf (xdq m.kinds (s.sd h'.name).2 (r.letF s.bt) r))
   cases r with
   |set x t=>
    obtain⟨k,j,C⟩:=b;exact xim y.nd fit j (xhk C fit).2
   |take l c x=>
    obtain⟨ch,u,rfl,a0,j⟩:=b;refine xim y.nd fit j ?_;have w:(s.bt ch.1).isEmpty=false:=M;show Vk m.kinds ch.2.2.2 ((s.bt ch.1).headD (.int 0));have Z:=(o.cok ch u).2
    cases U:s.bt ch.1 with
    |nil=>rw[U]at w;cases w
    |cons d ds=>exact Z d (by rw[U];simp)
   |_=>exact fit
  ·rw[i a e];exact o.fit h' a
 ·show(r.btF m.kinds (s.sd h.name).2 s.bt c.1).length<=N+1/\∀d∈r.btF m.kinds (s.sd h.name).2 s.bt c.1,Vk m.kinds c.2.2.2 d
  have old:(s.bt c.1).length<=N+1/\∀d∈s.bt c.1,Vk m.kinds c.2.2.2 d:=⟨Nat.le_succ_of_le (o.cok c u).1,(o.cok c u).2⟩
  cases r with
  | take l p x=>
   show(upF s.bt p _ c.1).length<=_/\∀d∈upF s.bt p _ c.1,_;by_cases e:c.1=p
   ·rw[<- e,xao]
    refine⟨?_,λd hd=>old.2 d (List.mem_of_mem_tail hd)⟩;rw[List.length_tail];have:=old.1;omega
   ·rw[xa3 e];exact old
  | send p t=>
   show(upF s.bt p _ c.1).length<=_/\∀d∈upF s.bt p _ c.1,_;by_cases e:c.1=p
   ·rw[<- e,xao]
    refine⟨?_,λd hd=>?_⟩
    ·rw[zLA,List.length_singleton]
     have:=(o.cok c u).1;omega
    ·rcases zMA hd with hd |hd
     ·exact old.2 d hd
     ·rw[zMO hd]
      obtain⟨ch,J,e1,_,C⟩:=b;have:ch=c:=xb9 f.cnd J u (e1.trans e.symm);subst this;exact(xhk C fit).2
   ·rw[xa3 e];exact old
  |_=>exact old
 ·show(upF s.tl h.name (r.told m.kinds (s.sd h.name).2 (s.tl h.name)) h'.name).length<=N+1/\∀d∈upF s.tl h.name (r.told m.kinds (s.sd h.name).2 (s.tl h.name)) h'.name,d.deep<=12
  have old:=o.tok h' a;by_cases e:h'=h
  ·subst e
   rw[xao]
   cases r with
   | tell t=>
    refine⟨by show(s.tl h'.name++[_]).length<=_;rw[zLA,List.length_singleton];have:=old.1;omega,λd hd=>?_⟩;rcases zMA (show d∈s.tl h'.name++[_] from hd) with hd |hd
    ·exact old.2 d hd
    ·rw[zMO hd]
     exact xd2 Y (.inl rfl) (xhk b fit).2
   |_=>exact⟨Nat.le_succ_of_le old.1,old.2⟩
  ·rw[xa3 (nm a e)]
   exact⟨Nat.le_succ_of_le old.1,old.2⟩
def mapK(ns:List Str)(f:Str->V):List (Key×V):=ns.map λx=>(Sum.inr x,f x)
theorem xpm(ns:List Str)(f:Str->V):(mapK ns f).map (·.1)=ns.map λx=>(Sum.inr x:Key):=by
 unfold mapK;rw[List.map_map];rfl
theorem xig{ns:List Str}{f:Str->V}(h:ns.Nodup):((mapK ns f).map (·.1)).Nodup:=by
 rw[xpm];exact xj6 (f:=λx:Str=>x) (by rw[List.map_id'];exact h)
theorem xf2{f:Str->V}{x:Str}:∀{ns:List Str},x∈ns->valV (mapK ns f) (Sum.inr x)=some (f x)
 | y::ns,h=>by
  show valV ((Sum.inr y,f y)::mapK ns f) _=_;by_cases e:y=x
  ·rw[xcb (by rw[e]),e]
  ·rw[xcc (λz=>e (Sum.inr.inj z))]
   rcases zMC h with h |h
   ·exact absurd h.symm e
   ·exact xf2 h
theorem xmq{f:Str->V}{x:Str}{v:V}{ns:List Str}(h:x∈ns):putK (mapK ns f) (Sum.inr x) v=mapK ns (upF f x v):=by
 have b:((mapK ns f).any λa=>decide (a.1=(Sum.inr x:Key)))=true:=List.any_eq_true.mpr ⟨(Sum.inr x,f x),List.mem_map.mpr ⟨x,h,rfl⟩,zDT rfl⟩;unfold putK;rw[if_pos b];unfold mapK;rw[List.map_map];refine zP λz _=>?_;show(if (Sum.inr z:Key)=Sum.inr x then ((Sum.inr z:Key),v) else (Sum.inr z,f z))=(Sum.inr z,upF f x v z);unfold upF;by_cases e:z=x
 ·rw[if_pos (by rw[e]),if_pos e]
 ·rw[if_neg (λq=>e (Sum.inr.inj q)),if_neg e]
theorem xfi{f g:Str->V}{ns:List Str}(h:∀x∈ns,f x=g x):mapK ns f=mapK ns g:=zP λx a=>by rw[h x a]
theorem xmr(ns:List Str)(f:Str->V):(mapK ns f).length=ns.length:=zLM ..
def Hms:List Str:=[Str.ofString "step",Str.ofString "weave",Str.ofString "still",Str.ofString "stays",Str.ofString "stand",Str.ofString "told",Str.ofString "letters",Str.ofString "count"]
abbrev hn(m:Mak):List Str:=m.hands.map Hand.name
abbrev cn(m:Mak):List Str:=m.chans.map (·.1)
structure HsA where
 dx:Addr
 sd:Addr
 bd:Addr
 td:Addr
 cd:Addr
 sa:Str->Addr
 pa:Str->Addr
 la:Str->Addr
 ta:Str->Addr
structure Hf(fs:List (Str×V))(mv:V)(a:HsA):Prop where
 mkv:fs.lookup (Str.ofString "make")=some mv
 st:fs.lookup (Str.ofString "stands")=some (.ref a.sd)
 bt:fs.lookup (Str.ofString "between")=some (.ref a.bd)
 tl:fs.lookup (Str.ofString "tellings")=some (.ref a.td)
 ct:fs.lookup (Str.ofString "counts")=some (.ref a.cd)
 len:fs.length<=5
 no:∀f∈Hms,fs.lookup f=none
def hFs(a:HsA):List (Str×V):=putF (Str.ofString "counts") (.ref a.cd) (putF (Str.ofString "tellings") (.ref a.td) (putF (Str.ofString "between") (.ref a.bd) (putF (Str.ofString "stands") (.ref a.sd) [])))
theorem Hf.init{i:V}{a:HsA}:Hf (putF (Str.ofString "make") i (hFs a)) i a:=by
 have ne:∀{f g:Str} {v u:V} {fs:List (Str×V)},fs.lookup g=some u->g≠f->(putF f v fs).lookup g=some u:=λe n=>by rw[xbq,if_neg n];exact e
 have c:∀{f:Str} {v:V} {fs:List (Str×V)},(putF f v fs).lookup f=some v:=by intro f v fs;rw[xbq,if_pos rfl]
 have b:∀{g:Str} {v:V} {fs:List (Str×V)},(∀f∈Hms,fs.lookup f=none)->(∀f∈Hms,f≠g)->∀f∈Hms,(putF g v fs).lookup f=none:=λh n f j=>by rw[xbq,if_neg (n f j)];exact h f j
 refine⟨c,?_,?_,?_,?_,?_,?_⟩
 ·exact ne (ne (ne (ne c (by walk_at"k")) (by walk_at"k")) (by walk_at"k")) (by walk_at"k")
 ·exact ne (ne (ne c (by walk_at"k")) (by walk_at"k")) (by walk_at"k")
 ·exact ne (ne c (by walk_at"k")) (by walk_at"k")
 ·exact ne c (by walk_at"k")
 ·exact zY (xar _ _ _) (zI (zY (xar _ _ _) (zI (zY (xar _ _ _) (zI (zY (xar _ _ _) (zI (zY (xar _ _ _) (zZ _)))))))))
 ·exact b (b (b (b (b (λ_ _=>rfl) (by walk_at"k")) (by walk_at"k")) (by walk_at"k")) (by walk_at"k")) (by walk_at"k")
structure HsIn(H:Hp)(m:Mak)(a:HsA)(s:HSt):Prop where
 hsd:H a.sd=some (.dK (mapK (hn m) λz=>.ref (a.sa z)))
 hbd:H a.bd=some (.dK (mapK (cn m) λz=>.ref (a.la z)))
 htd:H a.td=some (.dK (mapK (hn m) λz=>.ref (a.ta z)))
 hcd:H a.cd=some (.dK (mapK (hn m) λz=>.int (s.ct z:Nat)))
 sta:∀z∈hn m,StAt H (a.sa z) (a.pa z) (s.sd z).1 (s.sd z).2
 let_:∀z∈cn m,∃us,H (a.la z)=some (.lst us)/\RelDs H us (s.bt z)
 tel:∀z∈hn m,∃us,H (a.ta z)=some (.lst us)/\RelDs H us (s.tl z)
 nl:∀z∈cn m,∀y∈cn m,a.la z=a.la y->z=y
 nt:∀z∈hn m,∀y∈hn m,a.ta z=a.ta y->z=y
 nlt:∀z∈cn m,∀y∈hn m,a.la z≠a.ta y
 n1:a.sd≠a.bd/\a.sd≠a.td/\a.sd≠a.cd/\a.cd≠a.bd/\a.cd≠a.td
 np:∀z∈hn m,a.pa z≠a.sd/\a.pa z≠a.cd
structure HsAt(H:Hp)(C x:Addr)(mv:V)(m:Mak)(a:HsA)(s:HSt):Prop where
 ob:∃fs,H x=some (.ins C a.dx fs)/\Hf fs mv a
 inn:HsIn H m a s
def HsA.F(a:HsA)(m:Mak)(x b:Addr):Prop:=b=x\/b=a.sd\/b=a.bd\/b=a.td\/b=a.cd\/(∃z∈cn m,b=a.la z)\/∃z∈hn m,b=a.ta z\/b=a.pa z
theorem HsIn.keep{H i:Hp}{m:Mak}{a:HsA}{s:HSt}{x:Addr}(h:HsIn H m a s)(c:∀b vs,H b=some (.tup vs)->i b=some (.tup vs))(k:∀b,a.F m x b->∀o,H b=some o->i b=some o):HsIn i m a s:=by
 refine⟨k _ (.inr (.inl rfl)) _ h.hsd,k _ (.inr (.inr (.inl rfl))) _ h.hbd,k _ (.inr (.inr (.inr (.inl rfl)))) _ h.htd,k _ (.inr (.inr (.inr (.inr (.inl rfl))))) _ h.hcd,λz hz=>?_,λz hz=>?_,λz hz=>?_,h.nl,h.nt,h.nlt,h.n1,h.np⟩
 ·exact(h.sta z hz).keep c λo e=>k _ (.inr (.inr (.inr (.inr (.inr (.inr ⟨z,hz,.inr rfl⟩)))))) o e
 ·obtain⟨us,g,f⟩:=h.let_ z hz
  exact⟨us,k _ (.inr (.inr (.inr (.inr (.inr (.inl ⟨z,hz,rfl⟩)))))) _ g,f.tups c _⟩
 ·obtain⟨us,g,f⟩:=h.tel z hz
  exact⟨us,k _ (.inr (.inr (.inr (.inr (.inr (.inr ⟨z,hz,.inl rfl⟩)))))) _ g,f.tups c _⟩
theorem HsIn.there{H:Hp}{m:Mak}{a:HsA}{s:HSt}(i:HsIn H m a s):∀b,a.F m a.sd b->∃o,H b=some o/\∀C d f,o≠.ins C d f:=by
 intro b g;rcases g with rfl |rfl |rfl |rfl |rfl |⟨z,hz,rfl⟩ |⟨z,hz,rfl |rfl⟩
 ·exact⟨_,i.hsd,λ_ _ _ e=>by cases e⟩
 ·exact⟨_,i.hsd,λ_ _ _ e=>by cases e⟩
 ·exact⟨_,i.hbd,λ_ _ _ e=>by cases e⟩
 ·exact⟨_,i.htd,λ_ _ _ e=>by cases e⟩
 ·exact⟨_,i.hcd,λ_ _ _ e=>by cases e⟩
 ·obtain⟨us,c,_⟩:=i.let_ z hz
  exact⟨_,c,λ_ _ _ e=>by cases e⟩
 ·obtain⟨us,c,_⟩:=i.tel z hz
  exact⟨_,c,λ_ _ _ e=>by cases e⟩
 ·obtain⟨_,kvs,c,_⟩:=i.sta z hz
  exact⟨_,c,λ_ _ _ e=>by cases e⟩
theorem HsAt.keep{H c:Hp}{C x:Addr}{e:V}{m:Mak}{a:HsA}{s:HSt}(h:HsAt H C x e m a s)(f:∀b vs,H b=some (.tup vs)->c b=some (.tup vs))(k:∀b,a.F m x b->∀o,H b=some o->c b=some o):HsAt c C x e m a s:=by
 obtain⟨⟨fs,j,i⟩,g⟩:=h;exact⟨⟨fs,k x (.inl rfl) _ j,i⟩,g.keep f k⟩
theorem HsAt.same{H f:Hp}{C x:Addr}{c:V}{m:Mak}{a:HsA}{s:HSt}(h:HsAt H C x c m a s)(q:Same H f):HsAt f C x c m a s:=h.keep (Same.tups q) λb _ o e=>q b o e
theorem HsAt.there{H:Hp}{C x:Addr}{f:V}{m:Mak}{a:HsA}{s:HSt}(h:HsAt H C x f m a s):∀b,a.F m x b->∃o,H b=some o/\∀vs,o≠.tup vs:=by
 obtain⟨⟨fs,c,_⟩,i⟩:=h;intro b g;rcases g with rfl |rfl |rfl |rfl |rfl |⟨z,hz,rfl⟩ |⟨z,hz,rfl |rfl⟩
 ·exact⟨_,c,λvs e=>by cases e⟩
 ·exact⟨_,i.hsd,λvs e=>by cases e⟩
 ·exact⟨_,i.hbd,λvs e=>by cases e⟩
 ·exact⟨_,i.htd,λvs e=>by cases e⟩
 ·exact⟨_,i.hcd,λvs e=>by cases e⟩
 ·obtain⟨us,c,_⟩:=i.let_ z hz
  exact⟨_,c,λvs e=>by cases e⟩
 ·obtain⟨us,c,_⟩:=i.tel z hz
  exact⟨_,c,λvs e=>by cases e⟩
 ·obtain⟨_,kvs,c,_⟩:=i.sta z hz
  exact⟨_,c,λvs e=>by cases e⟩
theorem HsAt.stepped {H g:Hp} {C x:Addr} {mv:V} {m:Mak} {a:HsA} {s s':HSt} {h:Str} {u w:Addr} (l:HsAt H C x mv m a s) (hh:h∈hn m)
  (a1:s'.sd=upF s.sd h (s'.sd h)) (a2:s'.ct=upF s.ct h (s.ct h+1))
  (a0:StAt g u w (s'.sd h).1 (s'.sd h).2) (lt:∀z∈cn m,∃us,g (a.la z)=some (.lst us)/\RelDs g us (s'.bt z)) (tl:∀z∈hn m,∃us,g (a.ta z)=some (.lst us)/\RelDs g us (s'.tl z))
  (f:∀b o,H b=some o->(∀us,o≠.lst us)->g b=some o) (fr:∀b o,H b=some o->¬a.F m x b->g b=some o) (r:w=a.pa h\/H w=none) :
  let I:=upd (upd g a.sd (.dK (putK (mapK (hn m) λz=>.ref (a.sa z)) (Sum.inr h) (.ref u)))) a.cd (.dK (putK (mapK (hn m) λz=>.int (s.ct z:Nat)) (Sum.inr h) (.int ((s.ct h:Int)+1))))
  let G:HsA:={a with sa:=upF a.sa h u,pa:=upF a.pa h w}
  HsAt I C x mv m G s'/\(∀b o,H b=some o->¬a.F m x b->I b=some o)/\(∀b vs,H b=some (.tup vs)->I b=some (.tup vs))/\∀b,G.F m x b->a.F m x b\/H b=none:=by
 intro I G;obtain⟨⟨fs,hx,J⟩,i⟩:=l;obtain⟨m1,m2,m3,m4,m5⟩:=i.n1;have U:=f _ _ i.hsd λus e=>by cases e
 have Y:=f _ _ i.hcd λus e=>by cases e
 have oth:∀b o,g b=some o->b≠a.sd->b≠a.cd->I b=some o:=λb o e n1 n2=>by
  show upd (upd g _ _) _ _ b=_;rw[xai n2,xai n1];exact e
 have y:∀b o,g b=some o->(∀O,o≠.dK O)->I b=some o:=λb o e n=>oth b o e (λz=>by rw[z,U]at e;exact n _ (qC e).symm) λz=>by rw[z,Y]at e;exact n _ (qC e).symm
 have j:∀b vs,g b=some (.tup vs)->I b=some (.tup vs):=λb vs e=>y b _ e λO z=>by cases z
 have M:∀z∈hn m,G.pa z≠a.sd/\G.pa z≠a.cd:=λz hz=>by
  show upF a.pa h w z≠_/\upF a.pa h w z≠_;by_cases e:z=h
  ·subst e
   rw[xao];rcases r with r |r
   ·rw[r];exact i.np z hz
   ·exact⟨λq=>(by rw[q,i.hsd]at r;cases r),λq=>(by rw[q,i.hcd]at r;cases r)⟩
  ·rw[xa3 e];exact i.np z hz
 refine⟨⟨⟨fs,y _ _ (f _ _ hx λus e=>by cases e) (λO e=>by cases e),⟨J.mkv,J.st,J.bt,J.tl,J.ct,J.len,J.no⟩⟩,?_⟩,λb o e n=>?_,λb vs e=>?_,λb hb=>?_⟩
 ·refine⟨?_,?_,?_,?_,λz hz=>?_,λz hz=>?_,λz hz=>?_,i.nl,i.nt,i.nlt,i.n1,M⟩
  ·show upd (upd g _ _) _ _ a.sd=_
   rw[xai m3,ups,xmq hh];refine congrArg some (congrArg HO.dK (xfi λz _=>?_));show upF _ h _ z=V.ref (upF a.sa h u z);unfold upF;split <;> rfl
  ·exact oth _ _ (f _ _ i.hbd λus e=>by cases e) (Ne.symm m1) (Ne.symm m4)
  ·exact oth _ _ (f _ _ i.htd λus e=>by cases e) (Ne.symm m2) (Ne.symm m5)
  ·show upd (upd g _ _) _ _ a.cd=_
   rw[ups,xmq hh];refine congrArg some (congrArg HO.dK (xfi λz _=>?_));rw[a2];unfold upF;split
   ·show V.int _=V.int ((s.ct h+1:Nat):Int)
    congr 1
   ·rfl
  ·have p:=M z hz
   show StAt I (upF a.sa h u z) (upF a.pa h w z) _ _;rw[a1];by_cases e:z=h
   ·subst e
    rw[xao,xao,xao];have q:(G.pa z)=w:=xao;rw[q]at p;exact a0.keep j λo e=>oth _ _ e p.1 p.2
   ·rw[xa3 e,xa3 e,xa3 e]
    have q:(G.pa z)=a.pa z:=xa3 e;rw[q]at p;obtain⟨c,kvs,Z,h3⟩:=i.sta z hz;have nt:∀b vs,H b=some (.tup vs)->g b=some (.tup vs):=λb vs e=>f _ _ e λus z=>by cases z
    exact⟨j _ _ (nt _ _ c),kvs,oth _ _ (f _ _ Z λus z=>by cases z) p.1 p.2,h3.tups λb vs e=>j _ _ (nt _ _ e)⟩
  ·obtain⟨us,c,Z⟩:=lt z hz
   exact⟨us,y _ _ c (λO e=>by cases e),Z.tups j _⟩
  ·obtain⟨us,c,Z⟩:=tl z hz
   exact⟨us,y _ _ c (λO e=>by cases e),Z.tups j _⟩
 ·exact oth _ _ (fr b o e n) (λz=>n (.inr (.inl z))) λz=>n (.inr (.inr (.inr (.inr (.inl z)))))
 ·exact j _ _ (f _ _ e λus z=>by cases z)
 ·rcases hb with c |c |c |c |c |c |⟨z,hz,c |c⟩
  ·exact .inl (.inl c)
  ·exact .inl (.inr (.inl c))
  ·exact .inl (.inr (.inr (.inl c)))
  ·exact .inl (.inr (.inr (.inr (.inl c))))
  ·exact .inl (.inr (.inr (.inr (.inr (.inl c)))))
  ·exact .inl (.inr (.inr (.inr (.inr (.inr (.inl c))))))
  ·exact .inl (.inr (.inr (.inr (.inr (.inr (.inr ⟨z,hz,.inl c⟩))))))
  ·by_cases e:z=h
   ·subst e
    have q:(G.pa z)=w:=xao;rw[q]at c;rcases r with r |r
    ·exact .inl (.inr (.inr (.inr (.inr (.inr (.inr ⟨z,hz,.inr (c.trans r)⟩))))))
    ·exact .inr (by rw[c];exact r)
   ·have q:(G.pa z)=a.pa z:=xa3 e
    rw[q]at c;exact .inl (.inr (.inr (.inr (.inr (.inr (.inr ⟨z,hz,.inr c⟩))))))
def begM(mk:Mak)(hd:Hand):List (Str×D):=hd.boxes.map λb=>(b.1,nuV 7 mk.kinds b.2)
def hs0(mk:Mak):HSt:=⟨λz=>(0,match xdy mk z with |some hd=>begM mk hd |none=>[]),λ_=>[],λ_=>[],λ_=>0⟩
theorem xec{mk:Mak}(b:MakOk mk){hd:Hand}(a:hd∈mk.hands):xdy mk hd.name=some hd:=by
 unfold xdy
 cases e:mk.hands.find? λh=>decide (h.name=hd.name) with
 |none=>exact absurd (zDT rfl) (List.find?_eq_none.mp e hd a)
 |some f=>
  have c:=z0 (zU (p:=λh:Hand=>decide (h.name=hd.name)) e);rw[xb9 b.hnd (zMF e) a c]
theorem xmv{mk:Mak}(a:MakOk mk){hd:Hand}(b:hd∈mk.hands):(hs0 mk).sd hd.name=(0,begM mk hd):=by
 show(0,match xdy mk hd.name with |some hd=>begM mk hd |none=>[])=_;rw[xec a b]
theorem xin{bx:List (Str×D)}(nd:(bx.map (·.1)).Nodup){b:Str×D}(h:b∈bx):enOf bx b.1=some b.2:=by
 unfold enOf
 cases e:bx.find? λc=>decide (c.1=b.1) with
 |none=>exact absurd (zDT rfl) (List.find?_eq_none.mp e b h)
 |some c=>
  have a:=z0 (zU (p:=λc:Str×D=>decide (c.1=b.1)) e);rw[xb9 nd (zMF e) h a];rfl
theorem hok0{mk:Mak}(a:MakOk mk):HOk mk (hs0 mk) 0:=by
 have bk:∀hd:Hand,(begM mk hd).map (·.1)=hd.boxes.map (·.1):=λhd=>by
  unfold begM;rw[List.map_map];rfl
 refine⟨λh b=>?_,λh b=>?_,λh b=>?_,λc g=>⟨zZ _,λd hd=>nomatch hd⟩,λh b=>⟨zZ _,λd hd=>nomatch hd⟩⟩
 ·rw[xmv a b];exact(a.hok h b).pos
 ·rw[xmv a b];exact bk h
 ·rw[xmv a b]
  intro p e;have f:(p.1,nuV 7 mk.kinds p.2)∈begM mk h:=List.mem_map.mpr ⟨p,e,rfl⟩;exact⟨_,xin (by rw[bk];exact(a.hok h b).nd) f,xri a.wf 6 p.2 ((a.hok h b).kin p e)⟩
theorem HOk.bxdeep{m:Mak}{s:HSt}{N:Nat}(o:HOk m s N)(a:MakOk m){h:Hand}(f:h∈m.hands):∀b∈(s.sd h.name).2,b.2.deep<=12:=λb i=>by
 have c:=a.hok h f;have l:((s.sd h.name).2.map (·.1)).Nodup:=by rw[o.keys h f];exact c.nd
 have:b.1∈h.boxes.map (·.1):=by rw[<- o.keys h f];exact qG i
 obtain⟨q,g,e⟩:=zMP this;obtain⟨v,j,n⟩:=o.fit h f q g;rw[e,xin l i]at j;cases j;exact xd2 a.wf (c.kin q g) n
theorem xfg{ns:List Str}(nd:ns.Nodup){i:Nat}{z:Str}(hz:ns[i]?=some z):∀y∈ns.take i,y≠z:=λy c e=>by
 subst e;obtain⟨j,f,a⟩:=List.getElem_of_mem c;rw[List.length_take]at f;rw[List.getElem_take]at a;obtain⟨hi,b⟩:=zES hz;have:=(List.getElem_inj nd).mp (a.trans b.symm);omega
theorem xdf{ns:List Str}{i:Nat}{z:Str}(hz:ns[i]?=some z):ns.take (i+1)=ns.take i++[z]:=by rw[zTA,hz];rfl
theorem xjv{ns:List Str}(nd:ns.Nodup){f:Str->V}{i:Nat}{z:Str}{v:V}(hz:ns[i]?=some z):mapK (ns.take (i+1)) (upF f z v)=mapK (ns.take i) f++[(Sum.inr z,v)]:=by
 rw[xdf hz];unfold mapK;rw[zAP,List.map_congr_left (g:=λx=>((Sum.inr x:Key),f x)) λy a=>by rw[xa3 (xfg nd hz y a)]];show _++[((Sum.inr z:Key),upF f z v z)]=_;rw[xao]
theorem xuq{f:Str->Addr}{z:Str}{l:Addr}:(λy=>V.ref (upF f z l y))=upF (λy=>V.ref (f y)) z (.ref l):=by
 funext y
 unfold upF;split <;> rfl
structure EmpAt(H H':Hp)(ns:List Str)(i:Nat)(ys:List V)(la:Str->Addr):Prop where
 pr:PairsV H' ys (mapK (ns.take i) λz=>.ref (la z))
 at_:∀z∈ns.take i,H' (la z)=some (.lst [])/\H (la z)=none
 inj:∀z∈ns.take i,∀y∈ns.take i,la z=la y->z=y
theorem EmpAt.snoc {H g:Hp} {ns:List Str} {i:Nat} {ys:List V} {j:Str->Addr} (e:EmpAt H g ns i ys j) (s:Same H g) (nd:ns.Nodup) {z:Str} (hz:ns[i]?=some z) {l t:Addr} (m:g l=none) (r:upd g l (.lst []) t=none) :
  EmpAt H (upd (upd g l (.lst [])) t (.tup [.str z,.ref l])) ns (i+1) (ys++[.ref t]) (upF j z l):=by
 have o:=zA m (.lst []);have n:=zA r (.tup [.str z,.ref l]);have c:=o.trans n;have f:=xfg nd hz;refine⟨?_,λy b=>?_,λy b h a q=>?_⟩
 ·rw[xuq,xjv nd hz]
  exact(e.pr.same (Same.tups c)).append ⟨⟨t,rfl,ups⟩,trivial⟩
 ·rw[xdf hz]at b
  rcases zMA b with b |b
  ·rw[xa3 (f y b)]
   exact⟨c _ _ (e.at_ y b).1,(e.at_ y b).2⟩
  ·rw[zMO b,xao]
   exact⟨n _ _ ups,xae s m⟩
 ·rw[xdf hz]at b a
  have old:∀u∈ns.take i,j u≠l:=λu p q=>by have:=(e.at_ u p).1;rw[q,m]at this;cases this
  rcases zMA b with b |b <;> rcases zMA a with a |a
  ·rw[xa3 (f y b),xa3 (f h a)]at q
   exact e.inj y b h a q
  ·rw[zMO a,xa3 (f y b),xao]at q
   exact absurd q (old y b)
  ·rw[zMO b,xa3 (f h a),xao]at q
   exact absurd q.symm (old h a)
  ·rw[zMO b,zMO a]
structure NewSt(H H':Hp)(ns:List Str)(i:Nat)(ys:List V)(s:HSt)(sa pa:Str->Addr):Prop where
 pr:PairsV H' ys (mapK (ns.take i) λz=>.ref (sa z))
 at_:∀z∈ns.take i,StAt H' (sa z) (pa z) (s.sd z).1 (s.sd z).2/\H (pa z)=none
theorem NewSt.snoc {H g f:Hp} {ns:List Str} {i:Nat} {ys:List V} {s:HSt} {h pa:Str->Addr} (e:NewSt H g ns i ys s h pa) (q:Same H g) (m:Same g f) (nd:ns.Nodup) {z:Str} (hz:ns[i]?=some z) {a p t:Addr} (o:g p=none) (st:StAt f a p (s.sd z).1 (s.sd z).2) (n:f t=none) :
  NewSt H (upd f t (.tup [.str z,.ref a])) ns (i+1) (ys++[.ref t]) s (upF h z a) (upF pa z p):=by
 have j:=zA n (.tup [.str z,.ref a]);have c:=m.trans j;have l:=xfg nd hz;refine⟨?_,λy b=>?_⟩
 ·rw[xuq,xjv nd hz]
  exact(e.pr.same (Same.tups c)).append ⟨⟨t,rfl,ups⟩,trivial⟩
 ·rw[xdf hz]at b
  rcases zMA b with b |b
  ·rw[xa3 (l y b),xa3 (l y b)]
   exact⟨(e.at_ y b).1.same c,(e.at_ y b).2⟩
  ·rw[zMO b,xao,xao]
   exact⟨st.same j,xae q o⟩
end M
end
section
namespace L2
open PySem PySem.Spec PyProof.Rows
section
variable {X:Cx}
def xtl:V->List V->Hp->VK->Prop:=λx vs H Q=>∃(l:Addr) (xs:List V) (i:Nat) (y:V),x=.ref l/\vs=[.int i,y]/\H l=some (.lst xs)/\i<=xs.length/\xs.length<1000/\Q .non (upd H l (.lst (xs.take i++y::xs.drop i)))
theorem xpj:MtM X "list.insert" xtl:=by
 intro c s σ H x vs v us Q I o p h;obtain⟨l,xs,i,y,rfl,rfl,j,hi,hz,q⟩:=h;cases o;obtain⟨u,a,rfl,w,m⟩:=p.two;obtain⟨t,rfl⟩:=w;obtain⟨z,its,n,r,g,e⟩:=I.lstM j;have hs:its.toArray.size<=sizeLine:=by rw[List.size_toArray,<- g];exact z
 obtain⟨x,f⟩:∃x:Int,x=(i:Int):=⟨_,rfl⟩;rw[<- f]
 have C:(!Builtin.List.listFitsIndex x)=false:=by
  unfold Builtin.List.listFitsIndex;rw[zDT (show -(2 ^ 63:Int)<=x by omega),zDT (show x<(2 ^ 63:Int) by omega)];rfl
 have b:¬(!Builtin.List.listFitsIndex x)=true:=by rw[C];exact qB
 refine call_meets F.slot_list_insert ⟨_,e,rfl⟩ F.entry_list_insert (F.args_list_insert_3 _ _ _) (AutoListH.list_insert_list_int_val_1 l its.toArray n x t a b hs) ⟨e,?_⟩;subst f;refine⟨.non,_,I.lset (its':=its.take i++a::its.drop i) j e ?_ ((r.take i).append (.cons m (r.drop i))) ?_,rfl,q⟩
 ·show((its.toArray.extract 0 _).push a++its.toArray.extract _)=_
  rw[if_neg (by omega),Int.toNat_natCast,List.size_toArray,<- g,Nat.min_eq_left hi];apply Array.toList_inj.mp;simp;exact zTL (by rw[List.length_drop];omega)
 ·rw[zLA,List.length_cons,List.length_take,List.length_drop]
  have:(1000:Nat)<=sizeLine:=by decide
  omega
end
end L2
end
section
namespace M
open PySem L2
section
variable {H0 H H':Hp}{p:Addr}{n1 n2 n3 cs:List Str}{a:HsA}{s:HSt}
theorem xsy{d:Addr}{kv kv':List (Key×V)}(hd:H d=some (.dK kv)):(∀b vs,H b=some (.tup vs)->upd H d (.dK kv') b=some (.tup vs))/\(∀b vs,H b=some (.lst vs)->upd H d (.dK kv') b=some (.lst vs))/\∀b o,b≠d->H b=some o->upd H d (.dK kv') b=some o:=
 ⟨λb vs e=>(by rw[xai λz=>by rw[z,hd]at e;cases e];exact e),λb vs e=>(by rw[xai λz=>by rw[z,hd]at e;cases e];exact e),λb o n e=>by rw[xai n];exact e⟩
end
theorem xmh{kvs:List (Key×V)}{k:Key}{v:V}(h:∀p∈kvs,p.1≠k):putK kvs k v=kvs++[(k,v)]:=by
 unfold putK;rw[if_neg];intro e;obtain⟨q,b,a⟩:=List.any_eq_true.mp e;exact h q b (z0 a)
theorem Same.wr{H a:Hp}(s:Same H a){p:Addr}{o:HO}(c:H p=none):Same H (upd a p o):=λb u e=>by
 rw[xai (neN e c)];exact s _ _ e
inductive LReach(ks:List Kn)(hd:Hand):Nat->LSt->LSt->Prop
 |refl (s:LSt):LReach ks hd 0 s s
 |snoc {n:Nat} {a b:LSt} {r:Row}:LReach ks hd n a b->hd.rows[b.row]?=some r->r.shut b.com=false->LReach ks hd (n+1) a (b.next ks r)
def cTo(mk:Mak)(h:Str):List Str:=(mk.chans.filter λc=>decide (c.2.2.1=h)).map (·.1)
def xfv(mk:Mak)(h:Str):List Str:=(mk.chans.filter λc=>decide (c.2.1=h)).map (·.1)
def fL(ns:List Str)(F:Str->List D):Lts:=ns.map λc=>(c,F c)
theorem xmy{F:Str->List D}{c:Str}:∀{ns:List Str},c∈ns->getL (fL ns F) c=some (F c)
 | y::ns,h=>by
  show getL ((y,F y)::fL ns F) c=_;rw[xca];by_cases e:y=c
  ·rw[if_pos e,e]
  ·rw[if_neg e]
   rcases zMC h with h |h
   ·exact absurd h.symm e
   ·exact xmy h
theorem xem{F G:Str->List D}{ns:List Str}(h:∀c∈ns,F c=G c):fL ns F=fL ns G:=zP λc a=>by rw[h c a]
theorem xp4{F:Str->List D}{f:List D->List D}{c:Str}:∀{ns:List Str},ns.Nodup->modL f c (fL ns F)=fL ns (if c∈ns then upF F c (f (F c)) else F)
 |[],_=>rfl
 | y::ns,nd=>by
  obtain⟨g,b⟩:=List.nodup_cons.mp nd;show(if y=c then (y,f (F y))::fL ns F else (y,F y)::modL f c (fL ns F))=_;by_cases e:y=c
  ·subst e
   rw[if_pos rfl,if_pos (by simp)];show _=(y,upF F y (f (F y)) y)::fL ns _;rw[xao,xem (F:=upF F y (f (F y))) (G:=F) λc a=>xa3 λz=>g (z ▸ a)]
  ·rw[if_neg e,xp4 b]
   have h:¬c=y:=λz=>e z.symm;by_cases a:c∈ns
   ·rw[if_pos a,if_pos (qF _ a)]
    show _=(y,upF F c (f (F c)) y)::_;rw[xa3 e];rfl
   ·rw[if_neg a,if_neg (by simp[a,h])]
    rfl
def lone(mk:Mak)(h:Str)(s:HSt)(tk X:Str->List D):LSt:=⟨(s.sd h).1,(s.sd h).2,fL (cTo mk h) X,fL (xfv mk h) λc=>tk c++s.bt c,s.tl h,s.ct h⟩
def xg5(mk:Mak)(h:Str)(F:Str->List D):LSt:=⟨0,match xdy mk h with |some hd=>begM mk hd |none=>[],fL (cTo mk h) F,fL (xfv mk h) λ_=>[],[],0⟩
def Row.tk(bt tk:Str->List D):Row->Str->List D
 |.take _ c _=>upF tk c (tk c++[(bt c).headD (.int 0)])
 |_=>tk
def LRun(mk:Mak)(s:HSt)(tk:Str->List D):Prop:=∀hd∈mk.hands,∀X,LReach mk.kinds hd (s.ct hd.name) (xg5 mk hd.name λc=>tk c++X c) (lone mk hd.name s tk X)
theorem xxg(mk:Mak):LRun mk (hs0 mk) λ_=>[]:=λhd _ X=>by
 have:(lone mk hd.name (hs0 mk) (λ_=>[]) X)=xg5 mk hd.name λc=>[]++X c:=rfl;rw[this];exact .refl _
theorem xgw{mk:Mak}(a:MakOk mk){c:Chn}(b:c∈mk.chans){h:Str}:c.1∈cTo mk h ↔ c.2.2.1=h:=by
 constructor
 ·intro f
  exact z0 (xgr (p:=λc:Chn=>decide (c.2.2.1=h)) a.cnd b f)
 ·intro e
  exact qG (List.mem_filter.mpr ⟨b,zDT e⟩)
theorem xki{mk:Mak}(a:MakOk mk){c:Chn}(b:c∈mk.chans){h:Str}:c.1∈xfv mk h ↔ c.2.1=h:=by
 constructor
 ·intro f
  exact z0 (xgr (p:=λc:Chn=>decide (c.2.1=h)) a.cnd b f)
 ·intro e
  exact qG (List.mem_filter.mpr ⟨b,zDT e⟩)
theorem xs2{mk:Mak}(a:MakOk mk)(h:Str):(cTo mk h).Nodup:=zW (List.Sublist.map _ List.filter_sublist) a.cnd
theorem xiq{mk:Mak}(a:MakOk mk)(h:Str):(xfv mk h).Nodup:=zW (List.Sublist.map _ List.filter_sublist) a.cnd
theorem xuy{mk:Mak}{h:Hand}{ks:List Kn}{bx:List (Str×D)}{a tk:Str->List D}{r:Row}(g:r.shutF a=false)(ns:∀c t,r≠.send c t)(c:Str):r.tk a tk c++r.btF ks bx a c=tk c++a c:=by
 cases r with
 | take l f x=>
  show upF tk f _ c++upF a f _ c=_;by_cases e:c=f
  ·subst e
   rw[xao,xao,List.append_assoc];have b:(a c).isEmpty=false:=g
   cases i:a c with
   |nil=>rw[i]at b;cases b
   |cons d ds=>rfl
  ·rw[xa3 e,xa3 e]
 |send f t=>exact absurd rfl (ns f t)
 |_=>rfl
theorem LRun.go{mk:Mak}{s:HSt}{tk:Str->List D}(b:MakOk mk)(q:LRun mk s tk){hd:Hand}(y:hd∈mk.hands){r:Row}(U:hd.rows[(s.sd hd.name).1]?=some r)(G:r.shutF s.bt=false):LRun mk (s.go mk.kinds hd.name r) (r.tk s.bt tk):=by
 have j:=(b.hok hd y).ok r (zMG U);intro a i X;by_cases e:a=hd
 ·subst e
  have n:∀g,(lone mk a.name s tk g).next mk.kinds r=lone mk a.name (s.go mk.kinds a.name r) (r.tk s.bt tk) X->r.shut (fL (cTo mk a.name) g)=false->(∀c,tk c++g c=r.tk s.bt tk c++X c)->LReach mk.kinds a ((s.go mk.kinds a.name r).ct a.name) (xg5 mk a.name λc=>r.tk s.bt tk c++X c) (lone mk a.name (s.go mk.kinds a.name r) (r.tk s.bt tk) X):=λg k1 k2 k3=>by
   have z:=q a i g;rw[show(λc=>tk c++g c)=λc=>r.tk s.bt tk c++X c from funext k3]at z;rw[<- k1,show(s.go mk.kinds a.name r).ct a.name=s.ct a.name+1 from xao];exact .snoc z U k2
  have I:(s.go mk.kinds a.name r).sd a.name=(xcv mk.kinds (s.sd a.name).2 (s.sd a.name).1 r,xdq mk.kinds (s.sd a.name).2 (r.letF s.bt) r):=xao;have C:(s.go mk.kinds a.name r).tl a.name=r.told mk.kinds (s.sd a.name).2 (s.tl a.name):=xao;have O:(s.go mk.kinds a.name r).ct a.name=s.ct a.name+1:=xao
  have m:∀g (Y:r.letter (fL (cTo mk a.name) g)=r.letF s.bt) (u:r.com (fL (cTo mk a.name) g)=fL (cTo mk a.name) X) (Z:r.goi mk.kinds (s.sd a.name).2 (fL (xfv mk a.name) λc=>tk c++s.bt c)=fL (xfv mk a.name) λc=>r.tk s.bt tk c++r.btF mk.kinds (s.sd a.name).2 s.bt c),(lone mk a.name s tk g).next mk.kinds r=lone mk a.name (s.go mk.kinds a.name r) (r.tk s.bt tk) X:=λg Y u Z=>by
   show LSt.mk _ (xdq mk.kinds (s.sd a.name).2 (r.letter (fL (cTo mk a.name) g)) r) (r.com (fL (cTo mk a.name) g)) (r.goi mk.kinds (s.sd a.name).2 (fL (xfv mk a.name) λc=>tk c++s.bt c)) (r.told mk.kinds (s.sd a.name).2 (s.tl a.name)) (s.ct a.name+1)=LSt.mk _ _ _ _ _ _;rw[Y,u,Z,I,C,O];rfl
  have J:=xs2 b a.name;have M:=xiq b a.name
  cases r with
  | take l c x=>
   obtain⟨ch,f,rfl,o,_⟩:=j;have w:=(xgw b f).mpr o;refine n (upF X ch.1 ((s.bt ch.1).headD (.int 0)::X ch.1)) (m _ ?_ ?_ ?_) ?_ λc=>?_
   ·show((getL (fL _ _) ch.1).getD []).headD _=_
    rw[xmy w,Option.getD_some,xao];rfl
   ·show modL List.tail ch.1 (fL _ _)=_
    rw[xp4 J,if_pos w,xao];refine xem λc _=>?_;by_cases e:c=ch.1
    ·rw[e,xao];rfl
    ·rw[xa3 e,xa3 e]
   ·exact xem λc _=>(xuy (mk:=mk) (h:=a) G (by intro _ _ z;cases z) c).symm
   ·show((getL (fL _ _) ch.1).getD []).isEmpty=false
    rw[xmy w,Option.getD_some,xao];rfl
   ·show _=upF tk ch.1 _ c++X c
    by_cases e:c=ch.1
    ·rw[e,xao,xao,List.append_assoc];rfl
    ·rw[xa3 e,xa3 e]
  |send c t=>
   obtain⟨ch,f,rfl,p,_⟩:=j;have w:=(xki b f).mpr p;refine n X (m _ rfl rfl ?_) rfl λc=>rfl;show modL (λl=>l++[wv mk.kinds (s.sd a.name).2 t]) ch.1 (fL _ _)=_;rw[xp4 M,if_pos w];refine xem λc _=>?_;show upF _ ch.1 _ c=tk c++upF s.bt ch.1 _ c;by_cases e:c=ch.1
   ·rw[e,xao,xao];exact List.append_assoc ..
   ·rw[xa3 e,xa3 e]
  |fin=>cases G
  |_=>exact n X (m _ rfl rfl rfl) rfl λc=>rfl
 ·have ne:a.name≠hd.name:=λz=>e (xb9 b.hnd i y z)
  have z:=q a i X;have e1:(s.go mk.kinds hd.name r).ct a.name=s.ct a.name:=xa3 ne;have e2:(s.go mk.kinds hd.name r).sd a.name=s.sd a.name:=xa3 ne;have e3:(s.go mk.kinds hd.name r).tl a.name=s.tl a.name:=xa3 ne
  have e4:fL (cTo mk a.name) (λc=>r.tk s.bt tk c++X c)=fL (cTo mk a.name) λc=>tk c++X c:=xem λc u=>by
   cases r with
   |take l c' x=>
    obtain⟨ch,f,rfl,o,_⟩:=j;show upF tk ch.1 _ c++_=_;rw[xa3];rintro rfl;exact ne (((xgw b f).mp u).symm.trans o)
   |_=>rfl
  have e5:fL (xfv mk a.name) (λc=>r.tk s.bt tk c++(s.go mk.kinds hd.name r).bt c)=fL (xfv mk a.name) λc=>tk c++s.bt c:=xem λc u=>by
   show r.tk s.bt tk c++r.btF mk.kinds (s.sd hd.name).2 s.bt c=_
   cases r with
   |send c' t=>
    obtain⟨ch,f,rfl,p,_⟩:=j;show tk c++upF s.bt ch.1 _ c=_;rw[xa3];rintro rfl;exact ne (((xki b f).mp u).symm.trans p)
   |_=>exact xuy (mk:=mk) (h:=hd) G (by intro _ _ z;cases z) c
  unfold lone xg5 at z⊢;rw[e1,e2,e3,e4,e5];exact z
theorem LReach.path{ks:List Kn}{hd:Hand}{n:Nat}{a b:LSt}(h:LReach ks hd n a b):∃f:Nat->LSt,f 0=a/\f n=b/\∀j<n,∃r,hd.rows[(f j).row]?=some r/\r.shut (f j).com=false/\f (j+1)=(f j).next ks r:=by
 induction h with
 |refl s=>exact⟨λ_=>s,rfl,rfl,λj c=>nomatch c⟩
 | snoc _ m g l=>
  rename_i n a b r _;obtain⟨f,w,fn,fs⟩:=l;refine⟨λj=>if j<=n then f j else b.next ks r,(if_pos (qO _)).trans w,if_neg (by omega),λj c=>?_⟩;simp only;rw[if_pos (show j<=n by omega)];by_cases e:j=n
  ·subst e
   rw[if_neg (by omega),fn];exact⟨r,m,g,rfl⟩
  ·obtain⟨i,u,p,o⟩:=fs j (by omega)
   rw[if_pos (show j+1<=n by omega)];exact⟨i,u,p,o⟩
end M
end
section
namespace L2
open PySem PySem.Spec PyProof.Rows
section
variable {X:Cx}
theorem xqm(hc:X.calm=true):xd9 X (.builtin "sum") (λxs H Q=>∃p,∃ns:List Int,xs=[.ref p]/\SqL X.K H p (ns.map V.int)/\Q (.int ns.sum) H):=by
 intro pins s σ H xs us Q I r h;obtain⟨p,ns,rfl,hq,q⟩:=h;obtain⟨u,rfl,ru⟩:=xf5 r;cases ru;obtain⟨its,rv,pl,hz⟩:=I.list hq;have hi:=xfj rv;obtain⟨xs,e⟩:=hi.allInts.items;have hns:ns=xs.toList.map (·.1):=by rw[<- hi.numsOf,<- nums_intItems,<- e]
 have hl:=pl.isList;rw[e]at hl;have hsz:xs.size=ns.length:=by rw[hns,zLM,Array.length_toList]
 refine sum_intListG (I.ok.hd hc) hl λh' tk t' k=>⟨.int ns.sum,H,I.kept k,?_,q⟩;refine⟨t',?_⟩;rw[preSum_eq,<- hns,zTL (by omega)]
end
end L2
end
section
local macro_rules | `(tactic| obtain $p:rcasesPatMed:=$e:term)=>`(tactic| ((refine gcut λG hG=>?_;rcases $e:term with $p:rcasesPatMed) <;> refine hG ?_))
section
namespace L2
open PySem
abbrev qaa:List Str:=["self"]
abbrev qab:List Str:=["self","h"]
abbrev qac:List Str:=["make","h"]
abbrev qad:List Str:=["_law_kinds_here","_law_kind"]
abbrev qae:List Str:=["_law_feed_here","_law_many"]
abbrev qaf:List Str:=["kinds","term","boxes"]
abbrev qag:List Str:=["_law_feed_here","_law_kinds_here","_law_boxes_here","_law_kind","_law_room","_law_deep"]
abbrev qah:List Str:=["self","make"]
abbrev qai:List Str:=["kinds","K"]
abbrev qaj:List Str:=["_law_house","_law_make_here","_law_h","_law_took"]
abbrev qak:List Str:=["_law_feed_here","_law_kinds_here","_law_boxes_here","_law_kind"]
abbrev qal:List Str:=["make","h","stand"]
abbrev qam:List Str:=["_law_feed_here","_law_kinds_here"]
abbrev qan:List Str:=["_law_make_here"]
abbrev qao:List Str:=["self","make","h","letters","stand"]
abbrev qap:List Str:=["boxes","x","thing"]
abbrev qaq:List Str:=["kinds","kind"]
abbrev qar:List Str:=["make","h","stand","coming","going","tellings"]
abbrev qas:List Str:=["_law_script","_law_k"]
abbrev qat:List Str:=["_law_channels_here","_law_h","_law_boxes_here"]
abbrev qau:List Str:=["self","c"]
abbrev qav:List Str:=["sign","a","b"]
abbrev qaw:List Str:=["row","letters"]
abbrev qax:List Str:=["make","h","stand","letter"]
abbrev qay:List Str:=["make","row","boxes","letter"]
abbrev qaz:List Str:=["_law_feed_here","_law_kinds_here","_law_sort","_law_names_here"]
abbrev qa0:List Str:=["_law_feed_here","_law_some"]
abbrev qa1:List Str:=["_law_feed_here","_law_kinds_here","_law_channels_here","_law_h","_law_boxes_here","_law_marks"]
abbrev qa2:List Str:=["_law_feed_here","_law_kinds_here","_law_channels_here","_law_h","_law_boxes_here","_law_names_here"]
abbrev qa3:List Str:=["_law_script","_law_at","_law_names_here"]
abbrev qa4:List Str:=["_law_script","_law_at","_law_kinds_here","_law_channels_here","_law_many","_law_names_here"]
abbrev qa5:List Str:=["_law_house","_law_make_here","_law_about"]
abbrev qa6:List Str:=["things","name"]
abbrev qa7:List Str:=["kinds","value","f"]
abbrev qa8:List Str:=["make","row","stand"]
abbrev qa9:List Str:=["_law_cell","_law_many"]
abbrev qba:List Str:=["_law_feed_here"]
abbrev qbb:List Str:=["_law_feed_here","_law_names_here"]
abbrev qbc:List Str:=["_law_feed_here","_law_kinds_here","_law_boxes_here","_law_parts_here","_law_kind","_law_room","_law_deep"]
abbrev qbd:List Str:=["_law_feed_here","_law_kinds_here","_law_names_here","_law_hands_here"]
abbrev qbe:List Str:=["_law_feed_here","_law_kinds_here","_law_channels_here","_law_h","_law_names_here"]
abbrev qbf:List Str:=["_law_script","_law_at","_law_make_here"]
abbrev qbg:List Str:=["_law_before","_law_after","_law_make_here","_law_h","_law_done","_law_took"]
abbrev qbh:List Str:=["make","name","now","coming","going","tellings","many"]
end L2
namespace K36
open PySem L2 M
seal L2.PE L2.PA L2.PS L2.PSs L2.PT L2.PW L2.PI L2.PG L2.PJ L2.PTs
def top(i:Nat):Stmt:=PySem.Challenge.pw_swapstride_k36_hands_side_by_side.main.body.getD i (.Pass ⟨0,0,0,0⟩)
abbrev s__wall:Stmt:=top 0
abbrev s_row_ways:Stmt:=top 2
theorem xk7:FnScope ["row","k"] ["row","k"] (xac s_row_ways):=by walk_at"q"
abbrev s_hand_of:Stmt:=top 3
theorem xni:FnScope qac qac (xac s_hand_of):=by walk_at"q"
abbrev s_named:Stmt:=top 4
theorem sc_named:FnScope ["things","name","thing"] qa6 (xac s_named):=by walk_at"q"
abbrev s_channels_from:Stmt:=top 5
theorem xfr:FnScope qac qac (xac s_channels_from):=by walk_at"q"
abbrev s_channels_to:Stmt:=top 6
theorem xgz:FnScope qac qac (xac s_channels_to):=by walk_at"q"
abbrev s_sort_of:Stmt:=top 8
theorem sc_sort_of:FnScope ["kinds","K","name","sort","parts"] qai (xac s_sort_of):=by walk_at"q"
abbrev s_parts_of:Stmt:=top 9
theorem sc_parts_of:FnScope ["kinds","K","name","sort","parts"] qai (xac s_parts_of):=by walk_at"q"
abbrev s_with_box:Stmt:=top 12
theorem sc_with_box:FnScope ["boxes","x","thing","more"] qap (xac s_with_box):=by walk_at"q"
abbrev s_nought:Stmt:=top 14
theorem sc_nought:FnScope ["kinds","kind","parts"] qaq (xac s_nought):=by walk_at"q"
abbrev s_field:Stmt:=top 15
theorem sc_field:FnScope ["kinds","value","f","names"] qa7 (xac s_field):=by walk_at"q"
abbrev s_worth:Stmt:=top 17
theorem sc_worth:FnScope ["kinds","term","boxes","head","taken"] qaf (xac s_worth):=by walk_at"q"
abbrev s_op_worth:Stmt:=top 18
theorem xk8:FnScope qav qav (xac s_op_worth):=by walk_at"q"
abbrev s_case_worth:Stmt:=top 19
theorem sc_case_worth:FnScope ["kinds","term","boxes","value","arm"] qaf (xac s_case_worth):=by walk_at"q"
abbrev s_begin_of:Stmt:=top 21
theorem xk9:FnScope qac qac (xac s_begin_of):=by walk_at"q"
abbrev s_own_stand:Stmt:=top 22
theorem xi6:FnScope ["stand"] ["stand"] (xac s_own_stand):=by walk_at"q"
abbrev s_own_lists:Stmt:=top 23
theorem xi7:FnScope ["lists"] ["lists"] (xac s_own_lists):=by walk_at"q"
abbrev s_row_at:Stmt:=top 24
theorem xoq:FnScope qal qal (xac s_row_at):=by walk_at"q"
abbrev s_first_letter:Stmt:=top 25
theorem xgb:FnScope qaw qaw (xac s_first_letter):=by walk_at"q"
abbrev s_stride:Stmt:=top 26
theorem sc_stride:FnScope ["make","h","stand","letter","row"] qax (xac s_stride):=by walk_at"q"
abbrev s_row_behind:Stmt:=top 27
theorem sc_row_behind:FnScope ["make","row","stand","ways"] qa8 (xac s_row_behind):=by walk_at"q"
abbrev s_boxes_behind:Stmt:=top 28
theorem xgc:FnScope qay qay (xac s_boxes_behind):=by walk_at"q"
abbrev s_done:Stmt:=top 29
theorem sc_done:FnScope ["make","h","stand","coming","going","tellings","row","behind"] qar (xac s_done):=by walk_at"q"
abbrev sl_feed:Stmt:=top 37
theorem scl_feed:FnScope ["_law_script","_law_k","_law_cell"] qas (xac sl_feed):=by walk_at"q"
abbrev sl_take:Stmt:=top 38
theorem scl_take:FnScope ["_law_feed_here","_law_many","_law_digit","_law_one"] qae (xac sl_take):=by walk_at"q"
abbrev sl_names:Stmt:=top 39
theorem scl_names:FnScope ["_law_cell","_law_many","_law_letters","_law_size_here","_law_at","_law_common","_law_found"] qa9 (xac sl_names):=by walk_at"q"
abbrev sl_number:Stmt:=top 40
theorem scl_number:FnScope ["_law_feed_here","_law_form"] qba (xac sl_number):=by walk_at"q"
abbrev sl_sort_of:Stmt:=top 41
theorem scl_sort_of:FnScope ["_law_kinds_here","_law_kind","_law_name","_law_sort","_law_parts_here"] qad (xac sl_sort_of):=by walk_at"q"
abbrev sl_size:Stmt:=top 42
theorem scl_size:FnScope ["_law_kinds_here","_law_kind","_law_sort","_law_parts_here","_law_sizes"] qad (xac sl_size):=by walk_at"q"
abbrev sl_small:Stmt:=top 43
theorem scl_small:FnScope ["_law_kinds_here","_law_kind","_law_sort","_law_parts_here"] qad (xac sl_small):=by walk_at"q"
abbrev sl_parts:Stmt:=top 44
theorem scl_parts:FnScope ["_law_feed_here","_law_kinds_here","_law_sort","_law_names_here","_law_parts_here","_law_left","_law_j","_law_kind"] qaz (xac sl_parts):=by walk_at"q"
abbrev sl_kinds:Stmt:=top 45
theorem scl_kinds:FnScope ["_law_feed_here","_law_names_here","_law_kinds_here","_law_k","_law_sort"] qbb (xac sl_kinds):=by walk_at"q"
abbrev sl_boxed:Stmt:=top 46
theorem xop:FnScope qa0 qa0 (xac sl_boxed):=by walk_at"q"
abbrev sl_arms:Stmt:=top 47
theorem scl_arms:FnScope ["_law_feed_here","_law_kinds_here","_law_boxes_here","_law_parts_here","_law_kind","_law_room","_law_deep","_law_arms_here","_law_each","_law_t","_law_part","_law_x"] qbc (xac sl_arms):=by walk_at"q"
abbrev sl_whole_term:Stmt:=top 48
theorem scl_whole_term:FnScope ["_law_feed_here","_law_kinds_here","_law_boxes_here","_law_kind","_law_room","_law_deep","_law_sort","_law_parts_here","_law_one","_law_other","_law_some","_law_t","_law_part","_law_more","_law_terms","_law_f"] qag (xac sl_whole_term):=by walk_at"q"
abbrev sl_term:Stmt:=top 49
theorem scl_term:FnScope ["_law_feed_here","_law_kinds_here","_law_boxes_here","_law_kind","_law_room","_law_deep","_law_some","_law_form","_law_small_here","_law_more","_law_one","_law_first","_law_held","_law_x","_law_told","_law_sort","_law_parts_here","_law_f","_law_tags"] qag (xac sl_term):=by walk_at"q"
abbrev sl_new_term:Stmt:=top 50
theorem xi4:FnScope qak qak (xac sl_new_term):=by walk_at"q"
abbrev sl_any_kind:Stmt:=top 51
theorem scl_any_kind:FnScope qam qam (xac sl_any_kind):=by walk_at"q"
abbrev sl_channels:Stmt:=top 52
theorem scl_channels:FnScope ["_law_feed_here","_law_kinds_here","_law_names_here","_law_hands_here","_law_found","_law_turn","_law_k","_law_ends"] qbd (xac sl_channels):=by walk_at"q"
abbrev sl_boxes:Stmt:=top 53
theorem scl_boxes:FnScope ["_law_feed_here","_law_kinds_here","_law_channels_here","_law_h","_law_names_here","_law_wants","_law_c","_law_come","_law_to","_law_kind","_law_k","_law_turn"] qbe (xac sl_boxes):=by walk_at"q"
abbrev sl_into:Stmt:=top 54
theorem scl_into:FnScope ["_law_channels_here","_law_h","_law_boxes_here","_law_found","_law_c","_law_come","_law_to","_law_kind"] qat (xac sl_into):=by walk_at"q"
abbrev sl_deal:Stmt:=top 55
theorem scl_deal:FnScope ["_law_feed_here","_law_kinds_here","_law_channels_here","_law_h","_law_boxes_here","_law_marks","_law_form","_law_into_here","_law_out","_law_c","_law_x","_law_kind"] qa1 (xac sl_deal):=by walk_at"q"
abbrev sl_rows:Stmt:=top 56
theorem scl_rows:FnScope ["_law_feed_here","_law_kinds_here","_law_channels_here","_law_h","_law_boxes_here","_law_names_here","_law_marks","_law_rows_here","_law_many","_law_at","_law_form","_law_test","_law_into_here","_law_c","_law_x"] qa2 (xac sl_rows):=by walk_at"q"
abbrev sl_make:Stmt:=top 57
theorem scl_make:FnScope ["_law_script","_law_at","_law_names_here","_law_kinds_here","_law_feed_here","_law_hands_here"] qa3 (xac sl_make):=by walk_at"q"
abbrev sl_hands:Stmt:=top 58
theorem scl_hands:FnScope ["_law_script","_law_at","_law_kinds_here","_law_channels_here","_law_many","_law_names_here","_law_found","_law_k","_law_feed_here","_law_boxes_here"] qa4 (xac sl_hands):=by walk_at"q"
abbrev sl_hands_of:Stmt:=top 59
theorem xi5:FnScope qan qan (xac sl_hands_of):=by walk_at"q"
abbrev sl_weaving:Stmt:=top 60
theorem scl_weaving:FnScope ["_law_script","_law_at","_law_make_here","_law_found","_law_k","_law_feed_here"] qbf (xac sl_weaving):=by walk_at"q"
abbrev sl_state:Stmt:=top 61
theorem scl_state:FnScope ["_law_house","_law_make_here","_law_about","_law_lines","_law_found","_law_h","_law_count","_law_told","_law_stand"] qa5 (xac sl_state):=by walk_at"q"
abbrev sl_moved:Stmt:=top 62
theorem scl_moved:FnScope ["_law_before","_law_after","_law_make_here","_law_h","_law_done","_law_took","_law_one","_law_other","_law_changed","_law_channel"] qbg (xac sl_moved):=by walk_at"q"
abbrev sl_sent:Stmt:=top 63
theorem scl_sent:FnScope ["_law_house","_law_make_here","_law_h","_law_took","_law_found","_law_c","_law_come","_law_to","_law_kind"] qaj (xac sl_sent):=by walk_at"q"
abbrev sl_lone_fits:Stmt:=top 64
theorem scl_lone_fits:FnScope ["_law_house","_law_make_here","_law_h","_law_took","_law_lone","_law_k"] qaj (xac sl_lone_fits):=by walk_at"q"
abbrev s_law:Stmt:=top 65
theorem sc_law:FnScope ["_law_script","_law_names_here","_law_make_here","_law_house","_law_took","_law_h","_law_before","_law_about","_law_done","_law_after","_law_hand","_law_stand","_law_told","_law_count","_law_c","_law_letters"] ["_law_script"] (xac s_law):=by walk_at"q"
abbrev s_House_init:Stmt:=xc9 (top 31) 0
theorem xh0:FnScope qah qah (xac s_House_init):=by walk_at"q"
abbrev s_Plain_stand:Stmt:=xc9 (top 31) 1
theorem xg0:FnScope qab qab (xac s_Plain_stand):=by walk_at"q"
abbrev s_Plain_told:Stmt:=xc9 (top 31) 2
theorem xhw:FnScope qab qab (xac s_Plain_told):=by walk_at"q"
abbrev s_Plain_letters:Stmt:=xc9 (top 31) 3
theorem xfs:FnScope qau qau (xac s_Plain_letters):=by walk_at"q"
abbrev s_Plain_count:Stmt:=xc9 (top 31) 4
theorem xg1:FnScope qab qab (xac s_Plain_count):=by walk_at"q"
abbrev s_Plain_init:Stmt:=xc9 (top 33) 0
theorem xhx:FnScope qah qah (xac s_Plain_init):=by walk_at"q"
abbrev s_Plain_step:Stmt:=xc9 (top 33) 1
theorem sc_Plain_step:FnScope ["self","h","behind"] qab (xac s_Plain_step):=by walk_at"q"
abbrev s_Plain_weave:Stmt:=xc9 (top 33) 2
abbrev s_Plain_still:Stmt:=xc9 (top 33) 3
abbrev s_Plain_stays:Stmt:=xc9 (top 33) 4
abbrev s_Lone_init:Stmt:=xc9 (top 35) 0
theorem xjb:FnScope qao qao (xac s_Lone_init):=by walk_at"q"
abbrev s_Lone_step:Stmt:=xc9 (top 35) 1
theorem sc_Lone_step:FnScope ["self","behind"] qaa (xac s_Lone_step):=by walk_at"q"
abbrev s_Lone_stand:Stmt:=xc9 (top 35) 2
theorem xhy:FnScope qaa qaa (xac s_Lone_stand):=by walk_at"q"
abbrev s_Lone_told:Stmt:=xc9 (top 35) 3
theorem xi8:FnScope qaa qaa (xac s_Lone_told):=by walk_at"q"
abbrev s_Lone_sent:Stmt:=xc9 (top 35) 4
theorem xi9:FnScope qaa qaa (xac s_Lone_sent):=by walk_at"q"
abbrev s_Lone_left:Stmt:=xc9 (top 35) 5
theorem xja:FnScope qaa qaa (xac s_Lone_left):=by walk_at"q"
abbrev s_Lone_count:Stmt:=xc9 (top 35) 6
theorem xhz:FnScope qaa qaa (xac s_Lone_count):=by walk_at"q"
structure Tx(K:Fg)(mg:Str->Option Value):Prop where
 jA:DefTx K mg "_wall" s__wall ["k"]
 jB:DefTx K mg "row_ways" s_row_ways ["row","k"]
 jC:DefTx K mg "hand_of" s_hand_of qac
 jD:DefTx K mg "named" s_named qa6
 jE:DefTx K mg "channels_from" s_channels_from qac
 jF:DefTx K mg "channels_to" s_channels_to qac
 jG:DefTx K mg "sort_of" s_sort_of qai
 jH:DefTx K mg "parts_of" s_parts_of qai
 jI:DefTx K mg "with_box" s_with_box qap
 jJ:DefTx K mg "nought" s_nought qaq
 jK:DefTx K mg "field" s_field qa7
 jL:DefTx K mg "worth" s_worth qaf
 jM:DefTx K mg "op_worth" s_op_worth qav
 jN:DefTx K mg "case_worth" s_case_worth qaf
 jO:DefTx K mg "begin_of" s_begin_of qac
 jP:DefTx K mg "own_stand" s_own_stand ["stand"]
 jQ:DefTx K mg "own_lists" s_own_lists ["lists"]
 jR:DefTx K mg "row_at" s_row_at qal
 jS:DefTx K mg "first_letter" s_first_letter qaw
 jT:DefTx K mg "stride" s_stride qax
 jU:DefTx K mg "row_behind" s_row_behind qa8
 jV:DefTx K mg "boxes_behind" s_boxes_behind qay
 jW:DefTx K mg "done" s_done qar
 jX:DefTx K mg "_law_feed" sl_feed qas
 jY:DefTx K mg "_law_take" sl_take qae
 jZ:DefTx K mg "_law_names" sl_names qa9
 j0:DefTx K mg "_law_number" sl_number qba
 j1:DefTx K mg "_law_sort_of" sl_sort_of qad
 j2:DefTx K mg "_law_size" sl_size qad
 j3:DefTx K mg "_law_small" sl_small qad
 j4:DefTx K mg "_law_parts" sl_parts qaz
 j5:DefTx K mg "_law_kinds" sl_kinds qbb
 j6:DefTx K mg "_law_boxed" sl_boxed qa0
 j7:DefTx K mg "_law_arms" sl_arms qbc
 j8:DefTx K mg "_law_whole_term" sl_whole_term qag
 j9:DefTx K mg "_law_term" sl_term qag
 kA:DefTx K mg "_law_new_term" sl_new_term qak
 kB:DefTx K mg "_law_any_kind" sl_any_kind qam
 kC:DefTx K mg "_law_channels" sl_channels qbd
 kD:DefTx K mg "_law_boxes" sl_boxes qbe
 kE:DefTx K mg "_law_into" sl_into qat
 kF:DefTx K mg "_law_deal" sl_deal qa1
 kG:DefTx K mg "_law_rows" sl_rows qa2
 kH:DefTx K mg "_law_make" sl_make qa3
 kI:DefTx K mg "_law_hands" sl_hands qa4
 kJ:DefTx K mg "_law_hands_of" sl_hands_of qan
 kK:DefTx K mg "_law_weaving" sl_weaving qbf
 kL:DefTx K mg "_law_state" sl_state qa5
 kM:DefTx K mg "_law_moved" sl_moved qbg
 kN:DefTx K mg "_law_sent" sl_sent qaj
 kO:DefTx K mg "_law_lone_fits" sl_lone_fits qaj
 kP:DefTx K mg "law" s_law ["_law_script"]
 kQ:∃t,mg "WIDE"=some (.int 4294967296 t)
 kR:mg "all"=none
 kS:mg "bool"=none
 kT:mg "dict"=none
 kU:mg "int"=none
 kW:mg "isinstance"=none
 kX:mg "len"=none
 kY:mg "list"=none
 kZ:mg "max"=none
 k0:mg "min"=none
 k4:mg "range"=none
 k8:mg "sum"=none
 k9:mg "tuple"=none
 uA:mg "zip"=none
 uB:mg "Plain"=some (.ref (ad K "Plain"))
 uC:DTab K "Plain" ["make","stands","between","tellings","counts"]
 uD:mg "Lone"=some (.ref (ad K "Lone"))
 uE:DTab K "Lone" qbh
 uF:mg "House"=some (.ref (ad K "House"))
 uG:CTab K "House" "__init__"
 uH:MethTx K "House.__init__" (ad K "House") "__init__" s_House_init qah [[]]
 uI:MethTx K "House.stand" (ad K "Plain") "stand" s_Plain_stand qab [[]]
 uJ:MethTx K "House.told" (ad K "Plain") "told" s_Plain_told qab [[]]
 uK:MethTx K "House.letters" (ad K "Plain") "letters" s_Plain_letters qau [[]]
 uL:MethTx K "House.count" (ad K "Plain") "count" s_Plain_count qab [[]]
 uM:MethTx K "Plain.__init__" (ad K "Plain") "__init__" s_Plain_init qah [[]]
 uN:MethTx K "Plain.step" (ad K "Plain") "step" s_Plain_step qab [[]]
 uO:MethTx K "Plain.weave" (ad K "Plain") "weave" s_Plain_weave ["self","hands"] [[]]
 uP:MethTx K "Plain.still" (ad K "Plain") "still" s_Plain_still qaa [[]]
 uQ:MethTx K "Plain.stays" (ad K "Plain") "stays" s_Plain_stays qab [[]]
 uR:MethTx K "Lone.__init__" (ad K "Lone") "__init__" s_Lone_init qao [[.none],[]]
 uS:MethTx K "Lone.step" (ad K "Lone") "step" s_Lone_step qaa [[]]
 uT:MethTx K "Lone.stand" (ad K "Lone") "stand" s_Lone_stand qaa [[]]
 uU:MethTx K "Lone.told" (ad K "Lone") "told" s_Lone_told qaa [[]]
 uV:MethTx K "Lone.sent" (ad K "Lone") "sent" s_Lone_sent qaa [[]]
 uW:MethTx K "Lone.left" (ad K "Lone") "left" s_Lone_left qaa [[]]
 uX:MethTx K "Lone.count" (ad K "Lone") "count" s_Lone_count qaa [[]]
theorem fits{n:Nat}(h:n<=4000000):n<=sizeLine:=zY h (by decide)
theorem xa2{n:Nat}(h:n<=4000000):n<sizeLine:=zT h (by decide)
theorem bind_Lone_init {K:Fg} {o:Obj} {N:Nat} (s:Shared) (T:Addr) (kV a g:Value) (m:Option Addr) (b ct:Value) (us ds:List Value) (f:K.In s.heap) (l:K.lookup T=some o) (e:o.data=.seq #[.none] N) (hd:ds=[.none]\/ds=[]) (c:(us++ds).length=5) :
  BindsTo s (PySem.W.fnOf "__init__" "Lone.__init__" (xdb s_Lone_init) (xcw s_Lone_init) (xac s_Lone_init) (.ref T) kV a g m b ct) ⟨us,[]⟩ ((qao:List Str).zip (us++ds)):=by
 rcases hd with rfl |rfl
 ·have j:us.length=4:=by simpa using c
  match us,j with
  |[_,_,_,_],_=>exact PySem.W.binds_K f rfl l e rfl rfl
 ·have i:us.length=5:=by simpa using c
  match us,i with
  |[_,_,_,_,_],_=>exact PySem.W.binds_K f rfl l e rfl rfl
def xl7:Sp:=λvs H Q _=>∃v ks x,vs=[v,.str x]/\KsAt H v ks/\Q (xw4 (kAt ks x)) H
def xf8:Sp:=λvs H Q _=>∃v ks x,vs=[v,.str x]/\KsAt H v ks/\∀u H',Same H H'->RelD H' u (xmk (kAt ks x))->Q u H'
section
variable {P:Program}{w:World}{K:Fg}{mg:Str->Option Value}{base:Heap}{n:Nat}
theorem xhc(T:Tx K y):DefIs P w K y base (n+1) "sort_of" qai xl7:=by
 refine DefIs.of T.jG sc_sort_of (by walk_at"l") (λf O A outer s H vs Q E Z h=>?_);obtain⟨v,ks,x,rfl,I,q⟩:=h;have nd:=sc_sort_of.nd
 refine⟨_,(zpn (xci zF rfl (xa1 (K:=K) rfl (pv 0)) (xbc (K:=K) rfl rfl (xad (pgn 2 nd) (xad (pgn 3 nd) (xad (pgn 4 nd) xa9))))
   (zpo (xa6 (pR xbd (pv 2) (pv 1) (nM _)) (zpo (xag (pv 3))) pQ)))
   (zpo (xag xer))),?_⟩
 obtain⟨a,us,rfl,r,u⟩:=I.1;refine(xbi _ rfl a rfl ⟨_,zB r⟩ ?_);have G:=u.length;rw[zLM]at G;refine xd4 (xs:=us) (λi σ j=>∃o m l,σ=[some (.ref a),some (.str x),o,m,l]/\j=H/\(ks.take i).find? (λk=>decide (k.name=x))=none) (xco none none none rfl rfl rfl) (λi σ j _ p=>?_) ?_ ?_
 ·obtain⟨_,_,_,_,rfl,_⟩:=p
  exact zB r
 ·rintro i v σ j C ⟨o,m,l,rfl,rfl,hn⟩
  obtain⟨d,hd,rd⟩:=u.get C;rw[zGM]at hd;obtain⟨k,g,rfl⟩:=zMS hd;obtain⟨b,ws,rfl,J,_,_,rfl,rfl,_,_,rfl,rfl,U,_,rfl,Y,rfl⟩:=rd;refine(xaw b _ rfl (zB J) rfl _ _ rfl _ (xa8 _ rfl _ _ rfl rfl ?_));refine(xc1 _ rfl _ rfl rfl _ rfl (ite2 (λc=>?_) (λc=>?_)))
  ·have e:k.name=x:=V.str.inj (z0 c)
   have M:kAt ks x=some k:=(xc8 hn g).1 (zDT e);refine(jEA _ rfl ?_);rw[M]at q;exact q
  ·have e:¬k.name=x:=λz=>c (zDT (congrArg V.str z))
   exact(xco _ _ _ rfl rfl ((xc8 hn g).2 (zDF e)))
 ·rintro σ j ⟨o,m,l,rfl,rfl,hn⟩
  rw[zTL (by omega)]at hn;rw[show kAt ks x=none from hn]at q;exact q
theorem xez(T:Tx K C):DefIs P w K C base (n+1) "parts_of" qai xf8:=by
 refine DefIs.of T.jH sc_parts_of (by walk_at"l") (λf Y A outer s H vs Q E hr h=>?_);obtain⟨v,ks,x,rfl,M,q⟩:=h;have nd:=sc_parts_of.nd
 refine⟨_,(zpn (xci zF rfl (xa1 (K:=K) rfl (pv 0)) (xbc (K:=K) rfl rfl (xad (pgn 2 nd) (xad (pgn 3 nd) (xad (pgn 4 nd) xa9))))
   (zpo (xa6 (pR xbd (pv 2) (pv 1) (nM _)) (zpo (xag (pv 4))) pQ)))
   (zpo (xag (xaz pN)))),?_⟩
 obtain⟨a,us,rfl,r,u⟩:=M.1;refine(xbi _ rfl a rfl ⟨_,zB r⟩ ?_);have J:=u.length;rw[zLM]at J;refine xd4 (xs:=us) (λi σ j=>∃o m l,σ=[some (.ref a),some (.str x),o,m,l]/\j=H/\(ks.take i).find? (λk=>decide (k.name=x))=none) (xco none none none rfl rfl rfl) (λi σ j _ p=>?_) ?_ ?_
 ·obtain⟨_,_,_,_,rfl,_⟩:=p
  exact zB r
 ·rintro i v σ j G ⟨o,m,l,rfl,rfl,hn⟩
  obtain⟨d,hd,rd⟩:=u.get G;rw[zGM]at hd;obtain⟨k,g,rfl⟩:=zMS hd;obtain⟨b,ws,rfl,O,_,_,rfl,rfl,_,_,rfl,rfl,Z,_,rfl,y,rfl⟩:=rd;refine(xaw b _ rfl (zB O) rfl _ _ rfl _ (xa8 _ rfl _ _ rfl rfl ?_));refine(xc1 _ rfl _ rfl rfl _ rfl (ite2 (λc=>?_) (λc=>?_)))
  ·have e:k.name=x:=V.str.inj (z0 c)
   have U:kAt ks x=some k:=(xc8 hn g).1 (zDT e);refine(jEA _ rfl ?_);rw[U]at q;exact q _ _ (Same.refl _) y
  ·have e:¬k.name=x:=λz=>c (zDT (congrArg V.str z))
   exact(xco _ _ _ rfl rfl ((xc8 hn g).2 (zDF e)))
 ·rintro σ j ⟨o,m,l,rfl,rfl,hn⟩
  rw[zTL (by omega)]at hn;rw[show kAt ks x=none from hn]at q;exact⟨(by walk_at"s"),λp I=>q _ _ (zA I _) (xaq p ([]) rfl ups rfl)⟩
end
abbrev RW:=List Kn->En->D->D->Prop
def xdg(R:RW)(m:Nat):Sp:=λvs H Q _=>∃kv tv p ks d env val,vs=[kv,tv,.ref p]/\KsAt H kv ks/\RelD H tv d/\EnAt H p m env/\R ks env d val/\∀u H',Same H H'->RelD H' u val->Q u H'
def xiz:Sp:=λvs H Q _=>∃s x y,vs=[.str s,.int x,.int y]/\Nm x/\Nm y/\Q (.int (opV s x y)) H
section
variable {P:Program}{w:World}{K:Fg}{mg:Str->Option Value}{base:Heap}{n m:Nat}
theorem xlg(T:Tx K g):DefIs P w K g base (n+1) "op_worth" qav xiz:=by
 refine DefIs.of T.jM xk8 (by walk_at"l") (λf j A outer s H vs Q E p h=>?_);obtain⟨s,x,y,rfl,i,o,q⟩:=h
 refine⟨_,(zpn (xa6 (pR xbd (pv 0) pS (nM _)) (zpo (xag (xan xcm (xan xbe (pv 1) (pv 2)) (xlb T.kQ)))) pQ)
   (zpn (xa6 (pR xbd (pv 0) pS (nM _)) (zpo (xag (xan xcm (xan xcy (pv 1) (pv 2)) (xlb T.kQ)))) pQ)
   (zpn (xa6 (pR xbd (pv 0) pS (nM _)) (zpo (xag (xan xcm (xan xdp (pv 1) (pv 2)) (xlb T.kQ)))) pQ)
   (zpn (xa6 (pR xbd (pv 0) pS (nM _)) (zpo (xag (xe4 (pR xft (pv 1) (pv 2) (nM _)) pI pI))) pQ)
   (zpo (xag (xe4 (pR xbd (pv 1) (pv 2) (nM _)) pI pI))))))),?_⟩
 have pos:(0:Int)<4294967296:=by decide
 unfold opV at q;refine(xa0 _ rfl rfl _ rfl (ite2 (λc=>?_) (λc=>?_)))
 ·rw[if_pos (show s=S "+" from V.str.inj (z0 c))]at q
  exact(xbb _ rfl _ rfl _ _ rfl rfl _ (xbr _ rfl rfl pos q))
 rw[if_neg (show ¬s=S "+" from λz=>c (zDT (congrArg V.str z)))]at q;refine(xa0 _ rfl rfl _ rfl (ite2 (λc=>?_) (λc=>?_)))
 ·rw[if_pos (show s=S "-" from V.str.inj (z0 c))]at q
  exact(xbb _ rfl _ rfl _ _ rfl rfl _ (xbr _ rfl rfl pos q))
 rw[if_neg (show ¬s=S "-" from λz=>c (zDT (congrArg V.str z)))]at q;refine(xa0 _ rfl rfl _ rfl (ite2 (λc=>?_) (λc=>?_)))
 ·rw[if_pos (show s=S "*" from V.str.inj (z0 c))]at q
  obtain⟨m,l⟩:=i;exact(xb3 _ rfl _ rfl _ _ rfl rfl (jAE (.inl ⟨by omega,by omega⟩) _ (xbr _ rfl rfl pos q)))
 rw[if_neg (show ¬s=S "*" from λz=>c (zDT (congrArg V.str z)))]at q;refine(xa0 _ rfl rfl _ rfl (ite2 (λc=>?_) (λc=>?_)))
 ·rw[if_pos (show s=S "<" from V.str.inj (z0 c))]at q
  refine(xbb _ rfl _ rfl _ _ rfl rfl _ ⟨rfl,ite2 (λe=>?_) (λe=>?_)⟩)
  ·rw[if_pos (z0 e)]at q
   exact q
  ·rw[if_neg (λz=>e (zDT z))]at q
   exact q
 rw[if_neg (show ¬s=S "<" from λz=>c (zDT (congrArg V.str z)))]at q;refine(xc1 _ rfl _ rfl rfl _ rfl (ite2 (λe=>?_) (λe=>?_)))
 ·rw[if_pos (V.int.inj (z0 e))]at q
  exact q
 ·rw[if_neg (λz=>e (zDT (congrArg V.int z)))]at q
  exact q
def xiw(m:Nat):Sp:=λvs H Q _=>∃p x v d env,vs=[.ref p,.str x,v]/\EnAt H p m env/\RelD H v d/\m<=1000/\∀p' H',Same H H'->EnAt H' p' (m+1) (env.put x d)->Q (.ref p') H'
def xu9:Sp:=λvs H Q _=>∃p x v,∃kvs:List (Key×V),vs=[.ref p,.str x,v]/\H p=some (.dK kvs)/\kvs.length<=2000/\∀p' H',Same H H'->H p'=none->H' p'=some (.dK (putK kvs (Sum.inr x) v))->Q (.ref p') H'
theorem xsq(T:Tx K b):DefIs P w K b base (n+1) "with_box" qap xu9:=by
 refine DefIs.of T.jI sc_with_box (by walk_at"l") (λf j A outer s H vs Q E g h=>?_);obtain⟨p,x,v,kvs,rfl,i,l,q⟩:=h;have nd:=sc_with_box.nd;have e:=xep g
 refine⟨_,(zpn (psn 3 nd (xat xhj rfl T.kT zL (v1 0)))
   (zpn (xgd e (pv 3) (pv 1) (pv 2) rfl)
   (zpo (xag (pv 3))))),?_⟩
 refine(xa8 _ rfl p kvs rfl i (λc a=>?_));refine(xa7 _ rfl _ rfl _ rfl c _ rfl (DPut.k (k:=Sum.inr x) ups (xa2 (by omega))) (jEA _ rfl ?_));exact q c _ (Same.new2 a (.dK kvs) (.dK (putK kvs (Sum.inr x) v))) a ups
theorem xle(T:Tx K c):DefIs P w K c base (n+1) "with_box" qap (xiw m):=(xsq T).imp λvs H Q E h=>by
 obtain⟨p,x,v,d,env,rfl,⟨kvs,a,g,i⟩,e,l,q⟩:=h;exact(xda p x v kvs rfl a ⟨by omega,λb j s f h'=>q b j s (EnAt.put a g i s (e.same s _) h')⟩)
def xoj:Sp:=λvs H Q _=>∃kv vv ks k kn ws f i d,vs=[kv,vv,.str f]/\KsAt H kv ks/\RelD H vv (.tup [.str k,.tup ws])/\kAt ks k=some kn/\(kn.parts.map (·.1)).findIdx? (λz=>decide (z=f))=some i/\ws[i]?=some d/\∀u H',Same H H'->RelD H' u d->Q u H'
theorem xrg(T:Tx K Z)(a:DefIs P w K Z base n "parts_of" qai xf8):DefIs P w K Z base (n+1) "field" qa7 xoj:=by
 refine DefIs.of T.jK sc_field (by walk_at"l") (λf a4 A outer s H vs Q E hr h=>?_);obtain⟨kv,vv,ks,k,G,ws,f',i,d,rfl,hk,O,C,hi,hw,q⟩:=h;have nd:=sc_field.nd
 refine⟨_,(zpn (xcx (i:=3) ["part"] [none] rfl (by kernel_rfl) nd rfl (by walk_at"o") (xa1 (K:=K) rfl (pd a hr (va 0 (pc (px K (pv 1) pI) pN ss)))) (λ_ _ _ _=>(pgc 0)) (λ_ _ _ _=>xbp) (λ_ _ _ _=>(px K (pv 0) pI)))
   (zpo (xag (px K (px K (pv 1) pI) (xdj zD PySem.F.slot_list_index PySem.F.type_list_index xro (pv 3) (v1 2)))))),?_⟩
 obtain⟨l,us,rfl,ha,_,_,rfl,rfl,vw,_,rfl,J,rfl⟩:=O;obtain⟨c,zs,rfl,hc,y⟩:=J;refine(xap _ rfl _ rfl l _ _ (xbf _ rfl rfl (zB ha) rfl (xco _ ks k rfl hk (λu H1 s1 Y=>?_))));rw[C]at Y;obtain⟨e,ps,rfl,he,z⟩:=Y;have hl:=z.length;rw[zLM]at hl;have a2:G.parts.length<=100:=hk.2.2 G (zMF C);refine(jEAA e rfl ⟨_,zB he⟩ ?_);refine xf4 (j:=0) (xs:=ps) (λi ys I=>I=H1/\ys=((G.parts.take i).map (·.1)).map V.str) (by rfl) ⟨rfl,rfl⟩ (xa2 (by omega)) (λi ys I _ p=>by obtain⟨rfl,_⟩:=p;exact zB he) ?_ ?_
 ·rintro i x ys I hx r ⟨rfl,rfl⟩
  obtain⟨d',g,o⟩:=z.get hx;rw[zGM]at g;obtain⟨pt,U,rfl⟩:=zMS g;obtain⟨b,a0,rfl,hb,_,_,rfl,rfl,_,_,rfl,rfl,rfl⟩:=o;have hi:i<ps.length:=(zES hx).1;refine(xaa _ rfl b _ _ _ rfl rfl (zB hb) rfl (nxt hi r ⟨rfl,?_⟩));rw[zTA,U];simp
 ·rintro ys I r ⟨rfl,rfl⟩ D hD
  rw[zTL (by omega)];rw[zTL (by omega)]at r;have sD:=zA hD (.lst ((G.parts.map (·.1)).map V.str));have m:=s1.trans sD
  have M:∃v,zs[i]?=some v/\RelD H v d:=by
   have a3:i<ws.length:=(zES hw).1;have a1:=y.length;obtain⟨d',g,o⟩:=y.get (i:=i) (v:=zs[i]) (zGA (by omega));rw[hw]at g;cases g;exact(jEA (zs[i]) (zGA (by omega)) o)
  obtain⟨v,O,rv⟩:=M;refine(xaa _ rfl l _ _ _ rfl rfl (zB (m _ _ ha)) rfl ?_);refine(xa0 _ rfl (.inl (jAE rfl _ (zC ups))) _ rfl (xak D _ f' i rfl rfl ups hi ?_));exact(xak c _ _ v rfl rfl (zB (m _ _ hc)) (xav O) (q _ _ m (rv.same m _)))
def xga(R:RW)(m:Nat):Sp:=λvs H Q _=>∃kv tv p ks env a rs k t x y e val,vs=[kv,tv,.ref p]/\KsAt H kv ks/\RelD H tv (xne a rs)/\EnAt H p m env/\rs.length<=1000/\R ks env a (.tup [.str k,.str t,x])/\rs.find? (λr=>decide (r.1=t))=some (t,y,e)/\R ks (env.put y x) e val ∧
 ∀u H',Same H H'->RelD H' u val->Q u H'
theorem xh7(T:Tx K mg)(R:RW)(hm:m<=1000)(o:DefIs P w K mg base n "worth" qaf (xdg R (m+1)))(C:DefIs P w K mg base n "with_box" qap (xiw m)):DefIs P w K mg base (n+1) "case_worth" qaf (xga R m):=by
 refine DefIs.of T.jN sc_case_worth (by walk_at"l") (λf a6 A outer s H vs Q E hr h=>?_);obtain⟨kv,tv,p,ks,env,a,rs,k,t,x,y,e,val,rfl,hk,hv,he,hl,h1,hf,h2,q⟩:=h;have nd:=sc_case_worth.nd
 refine⟨_,(zpn (psn 3 nd (pd o hr (va 0 (pc (px K (pv 1) pI) (v1 2) ss))))
   (zpn (psn 4 nd (pxl K (xbj ["each","value"] [none,some 3] rfl (by kernel_rfl) (xa1 (K:=K) rfl (px K (pv 1) pI)) (λ_ _ _ _=>(pgc 0)) (λ_ _ _ _=>(xdt (pR xbd (px K (pv 0) pI) (px K (pv 1) pI) (nM _)))) (λ_ _ _ _=>(pv 0))) pI))
   (zpo (xag (pd o hr (va 0 (pc (px K (pv 4) pI) (pc (pd C hr (va 2 (pc (px K (pv 4) pI) (pc (px K (pv 3) pI) pN ss) ss))) pN zsc) ss))))))),?_⟩
 obtain⟨b,us,rfl,hb,_,_,rfl,rfl,va,_,rfl,ra,vr,_,rfl,rr,rfl⟩:=hv;obtain⟨c,ws,rfl,hc,a0⟩:=rr;refine(xap _ rfl _ rfl b _ _ (xbf _ rfl rfl (zB hb) rfl (jEA _ rfl ?_)));refine(xam _ _ _ ks _ (xba env _ rfl hk ra (he.mono (by omega)) h1 (λu H1 s1 r1=>?_)));obtain⟨g,zs,rfl,hg,_,_,rfl,rfl,_,_,rfl,rfl,vx,_,rfl,rx,rfl⟩:=r1;refine(xaa _ rfl b _ _ _ rfl rfl (zB (s1 _ _ hb)) rfl (jEAA c rfl ⟨_,zB (s1 _ _ hc)⟩ ?_));have a4:=a0.length;rw[zLM]at a4;refine xbo (xs:=ws) (λi ys H'=>H'=H1/\∃ds:List (Str×Str×D),ds=(rs.take i).filter (λr=>decide (r.1=t))/\RelDs H1 ys (ds.map dArm)) (jAEA rfl ([]) rfl rfl) (xa2 (by omega)) (λi ys H' _ p=>by obtain⟨rfl,_⟩:=p;exact zB (s1 _ _ hc)) ?_ ?_
 ·rintro i z ys H' hz hi O ⟨rfl,ds,rfl,G⟩
  obtain⟨d,hd,rd⟩:=(a0.same s1 _).get hz;rw[zGM]at hd;obtain⟨r,a1,rfl⟩:=zMS hd;have a3:=rd;obtain⟨l,zs,rfl,U,_,_,rfl,rfl,_,_,rfl,rfl,_,_,rfl,re,rfl⟩:=rd;refine⟨xgs rfl,?_⟩;refine(xaa _ rfl l _ _ _ rfl rfl (zB U) rfl (xaa _ rfl g _ _ _ rfl rfl (zB hg) rfl (jAEA rfl _ rfl (ite2 (λcc=>?_) (λcc=>?_)))))
  ·have ee:r.1=t:=V.str.inj (z0 cc)
   refine(jEA _ rfl (nxtG hi O (jAEA rfl _ rfl ?_)));rw[zTA,a1,List.filter_append,zAP];refine G.append ?_;simp only[Option.toList,List.filter_cons,zDT ee,if_true,List.filter_nil,List.map_cons,List.map_nil];exact(xaq _ ([]) rfl a3 rfl)
  ·have ee:¬r.1=t:=λz=>cc (zDT (congrArg V.str z))
   refine nxtN hi O (jAEA rfl _ rfl ?_);rw[zTA,a1,List.filter_append,zAP];simp only[Option.toList,List.filter_cons,zDF ee,Bool.false_eq_true,if_false,List.filter_nil,List.map_nil,List.append_nil];exact G
 ·rintro ys H' O ⟨rfl,ds,rfl,G⟩ D hD
  rw[zTL (by omega)]at G;have hh:(rs.filter (λr=>decide (r.1=t))).head?=some (t,y,e):=by rw[List.head?_filter,hf]
  obtain⟨rest,M⟩:∃rest,rs.filter (λr=>decide (r.1=t))=(t,y,e)::rest:=by
   cases hq:rs.filter (λr=>decide (r.1=t)) with
   |nil=>rw[hq]at hh;cases hh
   |cons z zs=>rw[hq]at hh;exact⟨zs,by rw[Option.some.inj hh]⟩
  rw[M]at G;obtain⟨Y,I,rfl,r0,_⟩:=G;have Z:=zA hD (.lst (Y::I));refine(xak D _ 0 Y rfl rfl (zC ups) (xav (j:=0) rfl) ?_);obtain⟨l,zs,rfl,U,_,_,rfl,rfl,_,_,rfl,rfl,ve,_,rfl,re,rfl⟩:=r0;have J:=s1.trans Z;have a2:SqT K (upd H' D (.lst (.ref l::I))) l [.str t,.str y,ve]:=zB (Z _ _ U);refine(xap _ rfl _ rfl l _ _ (xbf _ rfl rfl a2 rfl (xap _ rfl _ rfl l _ _ (xbf _ rfl rfl a2 rfl (xaa _ rfl g _ _ _ rfl rfl (zB (Z _ _ hg)) rfl ?_)))));refine(xam p y vx x env (jAAA rfl (he.same J) (rx.same Z _) ⟨hm,λp' H2 s2 a5=>?_⟩));exact(xam _ _ _ ks _ (xba _ _ rfl (hk.same (J.trans s2)) (re.same (Z.trans s2) _) a5 h2 (λu H3 s3 r3=>q u H3 (J.trans (s2.trans s3)) r3)))
theorem xre (T:Tx K mg) (R:RW) (g:DefIs P w K mg base n "worth" qaf (xdg R m)) (G:DefIs P w K mg base n "op_worth" qav xiz)
  (Y:DefIs P w K mg base n "field" qa7 xoj) (r:DefIs P w K mg base n "case_worth" qaf (xga R m)) :
  DefIs P w K mg base (n+1) "worth" qaf (xdg (λks env d v=>xew env d v\/NodeEv ks (R ks) env d v) m):=by
 refine DefIs.of T.jL sc_worth (by walk_at"l") (λf aa A outer s H vs Q E U h=>?_);obtain⟨kv,tv,p,ks,d,env,val,rfl,hk,O,he,hR,q⟩:=h;have nd:=sc_worth.nd;have hu:=xep U
 refine⟨_,(zpn (psn 3 nd (px K (pv 1) pI))
   (zpn (xa6 (pR xbd (pv 3) pS (nM _)) (zpo (xag (px K (pv 1) pI))) pQ)
   (zpn (xa6 (pR xbd (pv 3) pS (nM _)) (zpo (xag (xcs hu (pv 2) (px K (pv 1) pI) (λ_ _=>rfl)))) pQ)
   (zpn (xa6 (pR xbd (pv 3) pS (nM _)) (zpo (xag (pd G U (pc (px K (pv 1) pI) (pc (pd g U (va 0 (pc (px K (pv 1) pI) (v1 2) ss))) (pc (pd g U (va 0 (pc (px K (pv 1) pI) (v1 2) ss))) pN zsc) zsc) ss)))) pQ)
   (zpn (xa6 (pR xbd (pv 3) pS (nM _)) (zpo (xag (xaz (pc (px K (pv 1) pI) (pc (xat (xbx (K:=K) rfl) rfl T.k9 zK (pc (xbj ["inner","kinds","boxes"] [none,some 0,some 2] rfl (by kernel_rfl) (xa1 (K:=K) rfl (px K (pv 1) pI)) (λ_ _ _ _=>(pgc 0)) (λ_ _ _ _=>xbp) (λ_ _ _ _=>(pd g U (va 1 (va 0 (v1 2)))))) pN xb2)) pN zsc) ss)))) pQ)
   (zpn (xa6 (pR xbd (pv 3) pS (nM _)) (zpo (xag (pd Y U (va 0 (pc (pd g U (va 0 (pc (px K (pv 1) pI) (v1 2) ss))) (pc (px K (pv 1) pI) pN ss) zsc))))) pQ)
   (zpn (xa6 (pR xbd (pv 3) pS (nM _)) (zpo (xag (xaz (pc (px K (pv 1) pI) (pc (px K (pv 1) pI) (pc (pd g U (va 0 (pc (px K (pv 1) pI) (v1 2) ss))) pN zsc) ss) ss)))) pQ)
   (zpn (xa6 (pR xbd (pv 3) pS (nM _)) (zpo (xag (pd r U (va 0 (va 1 (v1 2)))))) pQ)
   (zpn (psn 4 nd (xe4 (pR xbd (pd g U (va 0 (pc (px K (pv 1) pI) (v1 2) ss))) pI (nM _)) (px K (pv 1) pI) (px K (pv 1) pI)))
   (zpo (xag (pd g U (va 0 (va 4 (v1 2))))))))))))))),?_⟩
 rcases hR with(⟨i,rfl,rfl⟩ |⟨x,hx,rfl⟩) |⟨sg,a,b,x,y,M,h2,nx,ny,rfl,rfl⟩ |⟨k,es,ws,hl,M,rfl,rfl⟩ |⟨a,k,ws,f',kn,i,M,a8,hi,hw,rfl⟩ |⟨k,t,a,x,M,rfl,rfl⟩ |⟨a,rs,k,t,x,y,e,hl,M,hf,h2,rfl⟩ |⟨a,b,c,x,M,h2,rfl⟩
 ·obtain⟨a,us,rfl,C,_,_,rfl,rfl,_,_,rfl,rfl,rfl⟩:=O
  have hS:SqT K H a [.str (S "num"),.int i]:=zB C;walk_at"rd";exact q _ _ (Same.refl _) rfl
 ·obtain⟨a,us,rfl,C,_,_,rfl,rfl,_,_,rfl,rfl,rfl⟩:=O
  have hS:SqT K H a [.str (S "box"),.str x]:=zB C;obtain⟨kvs,hp,hl,hh⟩:=he;obtain⟨v,O,rv⟩:=(hh x).2 _ hx;walk_at"rd";exact(xaq p v rfl (O ▸ DGet.k (k:=Sum.inr x) hp) (q _ _ (Same.refl _) rv))
 ·obtain⟨l,us,rfl,C,_,_,rfl,rfl,_,_,rfl,rfl,va,_,rfl,Z,vb,_,rfl,rb,rfl⟩:=O
  have hS:SqT K H l [.str (S "op"),.str sg,va,vb]:=zB C;walk_at"rd";refine(xam _ _ _ ks _ (xba env _ rfl hk Z he M (λu H1 o r1=>?_)));obtain rfl:u=.int x:=r1;have J:SqT K H1 l [.str (S "op"),.str sg,va,vb]:=zB (o _ _ C);refine(xap _ rfl _ rfl l _ _ (xbf _ rfl rfl J rfl (jEA _ rfl ?_)));refine(xam _ _ _ ks _ (xba env _ rfl (hk.same o) (rb.same o _) (he.same o) h2 (λu H2 I r2=>?_)));obtain rfl:u=.int y:=r2;exact(xcf sg x y rfl nx ny (q _ _ (o.trans I) rfl))
 ·obtain⟨l,us,rfl,C,_,_,rfl,rfl,_,_,rfl,rfl,va,_,rfl,Z,rfl⟩:=O
  obtain⟨c,a2,rfl,hc,a3⟩:=Z;have hS:SqT K H l [.str (S "rec"),.str k,.ref c]:=zB C;walk_at"rd";refine⟨⟨_,zB hc⟩,?_⟩;have l1:=a3.length;have l2:=M.length;refine xf4 (j:=0) (xs:=a2) (λi ys H'=>Same H H'/\RelDs H' ys (ws.take i)) (by rfl) ⟨Same.refl _,rfl⟩ (xa2 (by omega)) (λi ys H' _ p=>zB (p.1 _ _ hc)) ?_ ?_
  ·rintro i x ys H' hx a4 ⟨sm,a0⟩
   obtain⟨d',a9,a6⟩:=a3.get hx;obtain⟨v',a1,a5⟩:=M.get a9;have hi:i<a2.length:=(zES hx).1;refine(xbw _ rfl _ rfl _ rfl _ _ (xaf _ ks _ env _ rfl (hk.same sm) (a6.same sm _) (he.same sm) a5 (λu H2 I r2=>nxt hi a4 ⟨sm.trans I,?_⟩)));rw[zTA,a1];exact(a0.same I _).append (xaq u ([]) rfl r2 rfl)
  ·rintro ys H' a4 ⟨sm,a0⟩ D hD
   rw[zTL (by omega)]at a0;refine(jEEA D ys rfl (.inl ⟨zC ups,λl' a7=>?_⟩));have o:=zA hD (.lst ys);have I:=zA a7 (.tup ys);refine⟨(by walk_at"s"),λt ht=>?_⟩;have s3:=zA ht (.tup [.str k,.ref l']);exact q _ _ (sm.trans (o.trans (I.trans s3))) (xas t _ rfl ups _ _ rfl rfl _ (jEAA _ rfl (xaq l' ys rfl (s3 _ _ ups) (a0.same (o.trans (I.trans s3)) _)) rfl))
 ·obtain⟨l,us,rfl,C,_,_,rfl,rfl,va,_,rfl,Z,_,_,rfl,rfl,rfl⟩:=O
  have hS:SqT K H l [.str (S "get"),va,.str f']:=zB C;walk_at"rd";refine(xam _ _ _ ks _ (xba env _ rfl hk Z he M (λu H1 o r1=>?_)));have J:SqT K H1 l [.str (S "get"),va,.str f']:=zB (o _ _ C);refine(xaa _ rfl l _ _ _ rfl rfl J rfl ?_);exact(xam _ _ ks k kn (xce ws f' i val rfl (hk.same o) r1 a8 hi hw (λu H2 I r2=>q _ _ (o.trans I) r2)))
 ·obtain⟨l,us,rfl,C,_,_,rfl,rfl,_,_,rfl,rfl,_,_,rfl,rfl,va,_,rfl,Z,rfl⟩:=O
  have hS:SqT K H l [.str (S "tag"),.str k,.str t,va]:=zB C;walk_at"rd";refine(xam _ _ _ ks _ (xba env _ rfl hk Z he M (λu H1 o r1=>?_)));refine⟨(by walk_at"s"),λc hc=>?_⟩;have I:=zA hc (.tup [.str k,.str t,u]);exact q _ _ (o.trans I) (xas c _ rfl ups _ _ rfl rfl _ (xbh _ rfl rfl _ _ rfl (r1.same I _) rfl))
 ·have a1:=O
  obtain⟨l,us,rfl,C,_,_,rfl,rfl,va,_,rfl,Z,vr,_,rfl,rr,rfl⟩:=O;have hS:SqT K H l [.str (S "case"),va,vr]:=zB C;walk_at"rd";exact(xam _ _ p ks env (xam a rs k t x (xaj y e val rfl hk a1 he (jAAA hl M hf ⟨h2,q⟩))))
 ·obtain⟨l,us,rfl,C,_,_,rfl,rfl,va,_,rfl,Z,vb,_,rfl,rb,vc,_,rfl,rc,rfl⟩:=O
  have hS:SqT K H l [.str (S "if"),va,vb,vc]:=zB C;walk_at"rd";refine(xam _ _ _ ks _ (xba env _ rfl hk Z he M (λu H1 o r1=>?_)));obtain rfl:u=.int x:=r1;have J:SqT K H1 l [.str (S "if"),va,vb,vc]:=zB (o _ _ C);refine(jAEA rfl _ rfl (ite2 (λc'=>?_) (λc'=>?_)))
  ·have e:x=0:=V.int.inj (z0 c')
   rw[if_pos e]at h2;refine(xaa _ rfl l _ _ _ rfl rfl J rfl (xd3 _ rfl _ rfl (jEA _ rfl ?_)));exact(xam _ _ _ ks _ (xba env _ rfl (hk.same o) (rc.same o _) (he.same o) h2 (λu H2 I r2=>q _ _ (o.trans I) r2)))
  ·have e:¬x=0:=λz=>c' (zDT (congrArg V.int z))
   rw[if_neg e]at h2;refine(xaa _ rfl l _ _ _ rfl rfl J rfl (xd3 _ rfl _ rfl (jEA _ rfl ?_)));exact(xam _ _ _ ks _ (xba env _ rfl (hk.same o) (rb.same o _) (he.same o) h2 (λu H2 I r2=>q _ _ (o.trans I) r2)))
theorem xg7(T:Tx K a)(R:RW)(e:m<=1000)(D:DefIs P w K a base (n+1) "worth" qaf (xdg R (m+1))):DefIs P w K a base (n+3) "worth" qaf (xdg (λks env d v=>xew env d v\/NodeEv ks (R ks) env d v) m):=by
 have o:DefIs P w K a base (n+1) "worth" qaf (xdg R m):=D.imp (by
  rintro vs H Q E ⟨c,b,p,ks,d,env,val,l,j,i,h,g,f⟩;exact(xam c b p ks d (xba env val l j i (h.mono (by omega)) g f)))
 exact xre T R (o.mono (by omega)) (xlg T) (xrg T (xez T)) (xh7 T R e D (xle T))
theorem xl1(T:Tx K b):∀n m,n+m<=1000->DefIs P w K b base (2*n+3) "worth" qaf (xdg (λks=>Ev ks n) m)
 | 0,m,h=>by
  refine(xg7 (P:=P) (w:=w) (base:=base) (n:=0) (m:=m) T (λ_ _ _ _=>False) (by omega) (DefIs.none T.jL ?_)).imp ?_
  ·rintro vs H Q E ⟨_,_,_,_,_,_,_,_,_,_,_,h,_⟩
   exact h
  ·rintro vs H Q E ⟨c,a,p,ks,d,env,k,l,j,i,g,f,e⟩
   exact(xam c a p ks d (xba env k l j i g (.inl f) e))
 |n+1,m,h=>xg7 (n:=2*n+2) (m:=m) T (λks=>Ev ks n) (by omega) (xl1 T n (m+1) (by omega))
def xma(K:Fg):Sp:=λvs H Q _=>∃(a:Addr) (ns:List Int) (k:Int),vs=[.ref a,.int k]/\SqL K H a (ns.map V.int)/\ns.length<=63/\0<=k/\∀(r:Addr) (p q:Int),H r=none->Q (.ref r) (upd H r (.lst [.int p,.int q]))
def xc2:Sp:=λvs H Q _=>∃(a:Addr) (p q m:Int),vs=[.ref a,.int m]/\H a=some (.lst [.int p,.int q])/\0<m/\m<2 ^ 64/\∀(r:Int) (H':Hp),0<=r->r<m->Fed a H H'->Q (.int r) H'
theorem xlx{ns:List Int}{k:Int}(h0:0<=k)(h:k<(ns.length:Int)):∃v:Int,atI (ns.map V.int) k=some (.int v):=by
 have a:k.toNat<ns.length:=by omega
 have b:k=((k.toNat:Nat):Int):=by omega
 refine⟨ns[k.toNat],?_⟩;have q:atI (ns.map V.int) ((k.toNat:Nat):Int)=some (.int ns[k.toNat]):=xav (by rw[zGM,zGA a] <;> rfl);rw[<- b]at q;exact q
theorem xdl:2<=sizeLine:=by decide
theorem xh5(T:Tx K z):DefIs P w K z base (n+1) "_law_feed" qas (xma K):=by
 refine DefIs.of T.jX scl_feed (λvs H Q E h=>?_) (λf I A outer s H vs Q E J h=>?_)
 ·obtain⟨a,ns,k,rfl,_⟩:=h
  rfl
 obtain⟨a,ns,k,rfl,O,G,C,q⟩:=h;have nd:=scl_feed.nd;have g:(ns.map V.int).length=ns.length:=zLM _
 refine⟨_,(zpn (psn 2 nd pI)
   (zpn (xa6 (pR xft (pv 1) (xau (xah (K:=K) rfl) rfl T.kX zE (v1 0)) (nM _)) (zpo (psn 2 nd (pxl K (pv 0) (pv 1)))) pQ)
   (zpn (xa6 (PW.pt (xcr (pR xdu (xau (xah (K:=K) rfl) rfl T.kX zE (v1 0)) pI (nM _)) (xb8 (pR xbd (xan xcm (pxl K (pv 0) pI) pI) pI (nM _))))) (zpo (xag (xbt (va 2 (pc (xan xbe (xan xcm (xan xbe (xan xdp (xan xcm (pv 2) pI) pI) (xan xdp pI (pv 1))) pI) pI) pN xa5))))) pQ)
   (zpn (xa6 (PW.pt (xcr (pR xvw (pv 1) (xau (xah (K:=K) rfl) rfl T.kX zE (v1 0)) (nM _)) (xb8 (pR xdu (xau (xah (K:=K) rfl) rfl T.kX zE (v1 0)) pI (nM _))))) (zpo (psn 2 nd (xan xbe (pxl K (pv 0) (xan xcm (pv 1) (xau (xah (K:=K) rfl) rfl T.kX zE (v1 0)))) (xan xdp pI (pv 1))))) pQ)
   (zpo (xag (xbt (pc pI (pc (xan xbe (xan xcm (xan xbe (xan xdp (xan xcm (pv 2) pI) pI) (xan xdp pI (pv 1))) pI) pI) pN xa5) so)))))))),?_⟩
 have h0:0<ns.length->∃v:Int,atI (ns.map V.int) 0=some (.int v):=λh=>xlx (Int.le_refl 0) (by omega);walk_at"rd";refine ite2 (λc=>?_) (λc=>?_)
 ·have o:=z0 c
  rw[g]at o;obtain⟨v,x⟩:=xlx (ns:=ns) C o;obtain⟨y,p⟩:=h0 (by omega);walk_at"rd";refine ite2 (λj=>?_) (λj=>?_)
  ·walk_at"rd"
   refine ite2 (λu=>?_) (λu=>?_)
   ·walk_at"rd"
    exact⟨xdl,λl b=>q l _ _ b⟩
   ·walk_at"rd"
    refine ite2 (λi=>?_) (λi=>?_)
    ·have r:=z0 i
     rw[g]at r;omega
    ·refine iteF ?_
     walk_at"rd";exact⟨xdl,λl b=>q l _ _ b⟩
  ·have e:=of_decide_eq_false (Bool.eq_false_iff.mpr j)
   rw[g]at e;omega
 ·have o:=of_decide_eq_false (Bool.eq_false_iff.mpr c)
  rw[g]at o;walk_at"rd";refine ite2 (λj=>?_) (λj=>?_)
  ·have e:=z0 j
   rw[g]at e;obtain⟨y,p⟩:=h0 (by omega);walk_at"rd";refine ite2 (λu=>?_) (λu=>?_)
   ·walk_at"rd"
    exact⟨xdl,λl b=>q l _ _ b⟩
   ·walk_at"rd"
    refine ite2 (λi=>?_) (λi=>?_)
    ·walk_at"rd"
     refine ite2 (λm=>?_) (λm=>?_)
     ·obtain⟨v,x⟩:=xlx (ns:=ns) (k:=k%(ns.length:Int)) (zQ _ (by omega)) (zO _ (by omega))
      rw[<- g]at x;have M:(0:Int)<((ns.map V.int).length:Nat):=by rw[g];omega
      walk_at"rd";exact⟨xdl,λl b=>q l _ _ b⟩
     ·walk_at"rd"
      exact⟨xdl,λl b=>q l _ _ b⟩
    ·refine iteF ?_
     walk_at"rd";exact⟨xdl,λl b=>q l _ _ b⟩
  ·refine iteF ?_
   walk_at"rd";refine ite2 (λi=>?_) (λi=>?_)
   ·walk_at"rd"
    refine ite2 (λm=>?_) (λm=>?_)
    ·have e:=of_decide_eq_false (Bool.eq_false_iff.mpr j)
     exact absurd (z0 m) e
    ·walk_at"rd"
     exact⟨xdl,λl b=>q l _ _ b⟩
   ·refine iteF ?_
    walk_at"rd";exact⟨xdl,λl b=>q l _ _ b⟩
theorem xh3(T:Tx K e):DefIs P w K e base (n+1) "_law_take" qae xc2:=by
 refine DefIs.of T.jY scl_take (λvs H Q E h=>?_) (λf i A outer s H vs Q E l h=>?_)
 ·obtain⟨a,p,q,m,rfl,_⟩:=h
  rfl
 obtain⟨a,p,q,m,rfl,g,b,j,k⟩:=h;have nd:=scl_take.nd;have o:SqL K H a [.int p,.int q]:=zC g
 refine⟨_,(zpn (xa6 (pR xdu (pxl K (pv 0) pI) pI (nM _)) (zpn (psn 2 nd (xan xcm (pxl K (pv 0) pI) (pv 1)))
   (zpn (xdo (xan xcn (pxl K (pv 0) pI) (pv 1)) (xsn (pv 0) pI xmd))
   (zpo (xag (pv 2))))) pQ)
   (zpn (psn 3 nd (xan xcm (xan xdp (pxl K (pv 0) pI) pI) pI))
   (zpn (xdo (xan xbe (xan xcm (xan xbe (xan xdp (pv 3) pI) pI) pI) pI) (xsn (pv 0) pI xmd))
   (zpo (xag (xan xcm (xan xcn (xan xbe (xan xdp (pv 3) pI) (pxl K (pv 0) pI)) pI) (pv 1))))))),?_⟩
 walk_at"rd";refine ite2 (λc=>?_) (λc=>?_)
 ·walk_at"rd"
  refine k _ _ (zQ _ (by omega)) (zO _ b) Fed.of
 ·walk_at"rd"
  refine(xak _ _ _ _ rfl rfl (zC ups) rfl ?_);walk_at"rd";refine k _ _ (zQ _ (by omega)) (zO _ b) Fed.of
def xoa:Sp:=λvs H Q _=>∃c:Int,vs=[.int c,.int 26]/\∀(b:Addr) (H':Hp) (nms:List Str),Same H H'->H b=none->H' b=some (.lst (nms.map V.str))->xnz nms->(∀z∈nms,NoBy z/\NoMo z)->Q (.ref b) H'
theorem xo4(T:Tx K mg):DefIs P w K mg base (n+1) "_law_names" qa9 xoa:=by
 refine DefIs.of T.jZ scl_names (by walk_at"l") (λf a4 A outer s H vs Q E hr h=>?_);obtain⟨c,rfl,k⟩:=h;have nd:=scl_names.nd
 refine⟨_,(zpn (psn 2 nd pS)
   (zpn (psn 3 nd (xan xcm (pv 0) pI))
   (zpn (psn 4 nd (xan xcm (xan xcn (pv 0) pI) (xan xbe (pv 3) pI)))
   (zpn (psn 5 nd (xdj PySem.F.plainAttrs_str PySem.F.slot_str_join PySem.F.type_str_join xt7 pS (pc (xbj ["_law_j","_law_cell"] [none,some 0] rfl (by kernel_rfl) (xcj rfl T.k4 (v1 3)) (λ_ _ _ _=>(pgc 0)) (λ_ _ _ _=>xbp) (λ_ _ _ _=>(xnk xmt pS (xan xcm (xan xbe (xan xcn (pv 1) pI) (pv 0)) pI) (λ_ _=>rfl)))) pN xb2)))
   (zpn (psn 6 nd (xbj ["_law_k","_law_common","_law_letters","_law_at","_law_cell"] [none,some 5,some 2,some 4,some 0] rfl (by kernel_rfl) (xcj rfl T.k4 (v1 1)) (λ_ _ _ _=>(pgc 0)) (λ_ _ _ _=>xbp) (λ_ _ _ _=>(xan xei (xan xei (xcp xsl (pv 1) xdi (xcu (pv 3))) (xnk xmt (pv 2) (xan xcm (xan xbe (xan xcn (pv 4) pI) (xan xdp pI (pv 0))) pI) (λ_ _=>rfl))) (xcp xsl (pv 1) (xcu (pv 3)) xdi)))))
   (zpn (xa6 (pR xbd (xan xcm (xan xcn (pv 0) pI) pI) pI (nM _)) (zpo (xag (pv 6))) pQ)
   (zpo (xag (xbj ["_law_k","_law_found"] [none,some 6] rfl (by kernel_rfl) (xcj rfl T.k4 (v1 1)) (λ_ _ _ _=>(pgc 0)) (λ_ _ _ _=>xbp) (λ_ _ _ _=>(xan xei (pxl K (pv 1) (xan xcy (pv 0) (xan xcm (pv 0) pI))) (xan xtx pS (xan xcm (pv 0) pI))))))))))))),?_⟩
 have m0:0<=c%5:=zQ _ (by decide);have m5:c%5<5:=zO _ (by decide);refine(xa8 _ rfl _ _ rfl rfl ⟨(by show(0:Int)<5;decide),?_⟩);have hp:0<(c%5)+1:=by omega
 refine(xa8 _ rfl _ _ rfl rfl (jAEA ⟨by decide,by decide⟩ _ rfl (xaq _ _ rfl rfl (xb5 _ _ rfl rfl hp ?_))));have a0:0<=c / 5%((c%5)+1):=zQ _ (by omega);have a1:c / 5%((c%5)+1)<(c%5)+1:=zO _ hp;refine(jAEA rfl _ rfl (xbr _ rfl (by omega) (by omega) ?_));refine xdz (j:=0) (λi ys I=>I=H/\∃cs:List Nat,ys=(cs.map xdm).map V.str/\∀c∈cs,c∈five) (by rfl) (jAEA rfl ([]) rfl (λ_ h=>nomatch h)) (xa2 (by omega)) ?_ ?_
 ·rintro i ys I hi Y ⟨rfl,cs,rfl,a⟩
  refine(xa8 _ rfl _ _ rfl rfl (jAEA ⟨by decide,by decide⟩ _ rfl (xaq _ _ rfl rfl (xb5 _ _ rfl rfl (by show(0:Int)<5;decide) ?_))));obtain⟨ch,Z,a2⟩:=xuj (zQ (c / 25+(0+(i:Int))) (by decide:(5:Int)≠0)) (zO _ (by decide));refine(xaj _ _ ch rfl rfl (by walk_at"k") a2 ?_)
  exact nxt hi Y ⟨rfl,cs++[ch],by simp[xdm],λx o=>by
   rcases zMA o with o |o
   ·exact a x o
   ·rw[zMO o];exact Z⟩
 ·rintro ys I Y ⟨rfl,cs,rfl,a⟩ D hD
  rw[zLM,zLM]at Y;refine(xaj (S "") D (cs.map xdm) rfl rfl (zC ups) ?_ ?_)
  ·rw[xkv,show(S "").length=0 by walk_at"k"]
   omega
  rw[xj3];have m:=zA hD (.lst ((cs.map xdm).map V.str));generalize upd I D (.lst ((cs.map xdm).map V.str))=H1 at m⊢;have b:(ofL cs).length=cs.length:=by rw[<- xfe,xef]
  have c4:cs.length<=4:=by omega
  refine(xbi _ rfl _ rfl (by decide) ⟨by decide,?_⟩);refine xdz (j:=0) (λi ys G=>G=H1/\ys=((List.range i).map λk=>ofL (nmA cs (c / 5%(c%5+1)).toNat (c / 125) k)).map V.str) (by rfl) ⟨rfl,rfl⟩ (xa2 (by decide)) ?_ ?_
  ·rintro i ys G hi r ⟨rfl,rfl⟩
   have e0:(0+(i:Int))=(i:Int):=by omega
   have U:0<=(c / 125+5*(0+(i:Int)))%26:=zQ _ (by decide);have O:(c / 125+5*(0+(i:Int)))%26<26:=zO _ (by decide);refine(xd3 _ rfl _ rfl (xbi _ rfl _ rfl (fits (by rw[b];omega)) ?_));refine(xb3 _ rfl _ rfl _ _ rfl rfl (jAEA ⟨by decide,by decide⟩ _ rfl (xb5 _ _ rfl rfl (.inl ⟨by decide,by decide⟩) (xaq _ _ rfl rfl (xb5 _ _ rfl rfl (by show(0:Int)<26;decide) ?_)))));refine(xaj _ _ _ rfl rfl (by walk_at"k") (xpp U O) ?_);rw[xqy (ofL cs) a0 (by rw[b];omega)];refine(xb5 _ _ rfl rfl ?_ ?_)
   ·refine fits ?_
    rw[show(ofL ((L (ofL cs)).take (c / 5%(c%5+1)).toNat)).length=(cs.take (c / 5%(c%5+1)).toNat).length by rw[<- xfe,xef,xef],List.length_take];show _+1<=_;omega
   refine(xd3 _ rfl _ rfl (xbi _ rfl _ rfl (fits (by rw[b];omega)) ?_));rw[xng (ofL cs) a0 (by rw[b];omega),xef];refine(xb5 _ _ rfl rfl ?_ ?_)
   ·refine fits ?_
    rw[Str.length_append,show(ofL (cs.take (c / 5%(c%5+1)).toNat)).length=(cs.take (c / 5%(c%5+1)).toNat).length by rw[<- xfe,xef],show(ofL (cs.drop (c / 5%(c%5+1)).toNat)).length=(cs.drop (c / 5%(c%5+1)).toNat).length by rw[<- xfe,xef],List.length_take,List.length_drop];show _+1+_<=_;omega
   rw[xph];refine nxt hi r ⟨rfl,?_⟩;rw[List.range_succ,zAP,zAP,e0];rfl
  ·rintro ys G r ⟨rfl,rfl⟩ J y
   have g:=zA y (.lst (((List.range 26).map λk=>ofL (nmA cs (c / 5%(c%5+1)).toNat (c / 125) k)).map V.str));refine(xa8 _ rfl _ _ rfl rfl (jAE ⟨by decide,by decide⟩ _ (xbf _ rfl rfl (by show(0:Int)<3;decide) rfl (jEA _ rfl (ite2 (λcc=>?_) (λcc=>?_))))))
   ·exact(jEA _ rfl (k J _ _ (m.trans g) (xae m y) ups (nmsA c4 a) (λz hz=>⟨xt5 a z hz,xt4 a z hz⟩)))
   ·refine(xbi _ rfl _ rfl (by decide) ⟨by decide,?_⟩)
    obtain⟨C,l⟩:∃C,C=upd G J (.lst (((List.range 26).map λk=>ofL (nmA cs (c / 5%(c%5+1)).toNat (c / 125) k)).map V.str)):=⟨_,rfl⟩;have hb:C J=some (.lst (((List.range 26).map λk=>ofL (nmA cs (c / 5%(c%5+1)).toNat (c / 125) k)).map V.str)):=by rw[l];exact ups
    rw[<- l]at g;refine xdz (j:=0) (λi ys H4=>H4=C/\ys=((List.range i).map λk=>ofL (nmB cs (c / 5%(c%5+1)).toNat (c / 125) k)).map V.str) (by rfl) ⟨l.symm,rfl⟩ (xa2 (by decide)) ?_ ?_
    ·rintro i ys H4 hi p ⟨rfl,rfl⟩
     have a3:i<26:=hi;have er:(0+(i:Int))%2=((i%2:Nat):Int):=by omega
     have es:(0+(i:Int))-(0+(i:Int))%2=((i-i%2:Nat):Int):=by omega
     refine(xa7 _ rfl _ rfl _ rfl _ _ rfl rfl (jAE (by show(0:Int)<2;decide) _ (jEAA _ rfl rfl (xak J _ _ (.str (ofL (nmA cs (c / 5%(c%5+1)).toNat (c / 125) (i-i%2)))) rfl rfl (zC hb) ?_ ?_))))
     ·rw[es]
      refine xav ?_;rw[zGM,zGM,List.getElem?_range (by omega)];rfl
     refine(xa8 _ rfl _ _ rfl rfl (jAE (by show(0:Int)<2;decide) _ (xbr _ rfl rfl (by omega) ?_)));refine(xb5 _ _ rfl rfl ?_ ?_)
     ·refine fits ?_
      rw[show(ofL (nmA cs (c / 5%(c%5+1)).toNat (c / 125) (i-i%2))).length=cs.length+1 by rw[<- xfe,xef,xgj]];have:(if (0+(i:Int))%2=1 then S "q" else Str.empty).length<=1:=by split <;> decide +kernel
      show _+(if (0+(i:Int))%2=1 then S "q" else Str.empty).length<=_;omega
     refine nxt hi p ⟨rfl,?_⟩;rw[List.range_succ,zAP,zAP];congr 1;show[V.str _]=[V.str _];congr 2;apply xqr;rw[xeo,xef,xef];unfold nmB;congr 1;rw[er];rcases Nat.mod_two_eq_zero_or_one i with e |e
     ·rw[e];decide +kernel
     ·rw[e];decide +kernel
    ·rintro ys H4 p ⟨rfl,rfl⟩ D4 u
     have M:=zA u (.lst (((List.range 26).map λk=>ofL (nmB cs (c / 5%(c%5+1)).toNat (c / 125) k)).map V.str));exact k D4 _ _ (m.trans (g.trans M)) (xae (m.trans g) u) ups (nmsB c4 a) (λz hz=>⟨xt3 a z hz,xt2 a z hz⟩)
def xf9:Sp:=λvs H Q _=>∃v ks x,vs=[v,.str x]/\KsSeq H v ks/\∀t pv H',Same H H'->H' t=some (.tup [.str (xgy (kAt ks x)),pv])->RelD H' pv (xmk (kAt ks x))->Q (.ref t) H'
def xg9(m:Nat):Sp:=λvs H Q _=>∃v ks x,vs=[v,.str x]/\KsSeq H v ks/\KWf ks/\KIn ks m x/\∀H',Same H H'->Q (.int (szF (m+1) ks x)) H'
theorem xc3 (T:Tx K Y):DefIs P w K Y base (n+1) "_law_sort_of" qad xf9:=by
  refine DefIs.of T.j1 scl_sort_of (by walk_at"l") (λf a0 A outer s H vs Q E hr h=>?_);obtain⟨v,ks,x,rfl,⟨a,us,rfl,J,M⟩,q⟩:=h;have nd:=scl_sort_of.nd
  refine⟨_,(zpn (xci zF rfl (xvm (xbm (K:=K) rfl (pv 0)) (xa1 (K:=K) rfl (pv 0))) (xbc (K:=K) rfl rfl (xad (pgn 2 nd) (xad (pgn 3 nd) (xad (pgn 4 nd) xa9))))
      (zpo (xa6 (pR xbd (pv 2) (pv 1) (nM _)) (zpo (xag (xaz (va 3 (v1 4))))) pQ)))
      (zpo (xag (xaz (pc pS (pc (xaz pN) pN zsT) so))))),?_⟩
  have Z:=M.length;rw[zLM]at Z
  have l:∀(i:Nat) (v:V),us[i]?=some v->(ks.take i).find? (λk=>decide (k.name=x))=none->∃k b pv,ks[i]?=some k/\v=.ref b/\H b=some (.tup [.str k.name,.str k.sort,pv])/\RelD H pv (xd8 k.parts):=λi v C hn=>by
    obtain⟨d,hd,rd⟩:=M.get C;rw[zGM]at hd;obtain⟨k,g,rfl⟩:=zMS hd;obtain⟨b,ws,rfl,I,_,_,rfl,rfl,_,_,rfl,rfl,O,_,rfl,y,rfl⟩:=rd;exact(xcf k b O g rfl I y)
  rcases J with u |u
  case' inl=>
    refine .inl (xbi _ rfl a rfl ⟨_,zC u⟩ ?_);refine xd5 (xs:=us) (λi σ j=>∃r o m,σ=[some (.ref a),some (.str x),r,o,m]/\j=H/\(ks.take i).find? (λk=>decide (k.name=x))=none) (xco none none none rfl rfl rfl) (λi σ j _ p=>by obtain⟨_,_,_,_,rfl,_⟩:=p;exact zC u) ?_ ?_
  case' inr=>
    refine .inr (xbi _ rfl a rfl ⟨_,zB u⟩ ?_);refine xd4 (xs:=us) (λi σ j=>∃r o m,σ=[some (.ref a),some (.str x),r,o,m]/\j=H/\(ks.take i).find? (λk=>decide (k.name=x))=none) (xco none none none rfl rfl rfl) (λi σ j _ p=>by obtain⟨_,_,_,_,rfl,_⟩:=p;exact zB u) ?_ ?_
  all_goals first
    | (rintro i v σ j C ⟨r,o,m,rfl,rfl,hn⟩
       obtain⟨k,b,pv,g,rfl,I,y⟩:=l i v C hn;refine(xaw b _ rfl (zB I) rfl _ _ rfl _ (xa8 _ rfl _ _ rfl rfl ?_));refine(xc1 _ rfl _ rfl rfl _ rfl (ite2 (λc=>?_) (λc=>?_)))
       · have e:k.name=x:=V.str.inj (z0 c)
         have e2:kAt ks x=some k:=(xc8 hn g).1 (zDT e);refine(xbi _ rfl _ rfl (by walk_at"s") (λt G=>?_));have st:=zA G (.tup [.str k.sort,pv]);rw[e2]at q;exact q t pv _ st ups (y.same st _)
       · have e:¬k.name=x:=λz=>c (zDT (congrArg V.str z))
         exact(xco _ _ _ rfl rfl ((xc8 hn g).2 (zDF e))))
    | (rintro σ j ⟨r,o,m,rfl,rfl,hn⟩
       rw[zTL (by omega)]at hn;rw[show kAt ks x=none from hn]at q;refine⟨(by walk_at"s"),λe he=>⟨(by walk_at"s"),λt G=>?_⟩⟩;have U:=zA he (.tup []);have st:=zA G (.tup [.str (S "num"),.ref e]);exact q t (.ref e) _ (U.trans st) ups (xaq e ([]) rfl (st _ _ ups) rfl))
theorem xmn (T:Tx K mg) (G:Sp) (a:DefIs P w K mg base n "_law_sort_of" qad xf9) (g:DefIs P w K mg base n "_law_size" qad G) (M:∀j,m=j+1->G=xg9 j) (hm:m<=6) :
  DefIs P w K mg base (n+1) "_law_size" qad (xg9 m):=by
 refine DefIs.of T.j2 scl_size (by walk_at"l") (λf a5 A outer s H vs Q E hr h=>?_);obtain⟨v,ks,x,rfl,hk,u,a3,q⟩:=h;have nd:=scl_size.nd
 refine⟨_,(zpn (xdo (pd a hr (va 0 (v1 1))) (xbc (K:=K) rfl rfl (xad (pgn 2 nd) (xad (pgn 3 nd) xa9))))
   (zpn (xcx (i:=4) ["_law_name","_law_part","_law_kinds_here"] [none,none,some 0] rfl (by kernel_rfl) nd rfl (by walk_at"o") (xa1 (K:=K) rfl (pv 3)) (λ_ _ _ _=>(xbc (K:=K) (n:=2) rfl rfl (xad (pgc 0) (xad (pgc 1) xa9)))) (λ_ _ _ _=>xbp) (λ_ _ _ _=>(pd g hr (va 2 (v1 1)))))
   (zpn (xa6 (pR xbd (pv 2) pS (nM _)) (zpo (xag (xan xbe pI (xau (xqn rfl) rfl T.kZ PyProof.Rows.boot_max (v1 4))))) pQ)
   (zpo (xag (xan xbe pI (xau (xkf rfl) rfl T.k8 PyProof.Rows.boot_sum (v1 4)))))))),?_⟩
 refine(xap _ rfl _ rfl v ks x (jAA rfl hk (λt pv H1 s1 ht rp=>?_)));refine(xaw t _ rfl (zB ht) rfl _ _ rfl _ (jEAA _ rfl rfl ?_))
 have a2:∃ps:List (Str×Str),xmk (kAt ks x)=xd8 ps/\ps.length<=5/\(∀p∈ps,∃j,m=j+1/\KIn ks j p.2)/\(xgy (kAt ks x)=S "alt"->ps≠[]/\szF (m+1) ks x=1+maxD (ps.map λp=>szF m ks p.2)) ∧
   (xgy (kAt ks x)≠S "alt"->szF (m+1) ks x=1+(ps.map λp=>szF m ks p.2).sum):=by
  cases C:kAt ks x with
  |none=>
   refine(xbf ([]) rfl (by decide) (λ_ h=>nomatch h) (λh=>absurd h (by walk_at"k")) (λ_=>?_));unfold szF;rw[C];rfl
  | some k=>
   have l:k∈ks:=zMF C
   have y:k.name=x:=by
    have:=zU C;simpa using this
   refine(xbf k.parts rfl (u.pts k l) (λp hp=>?_) (λh=>?_) (λh=>?_))
   ·rcases a3 with rfl |⟨j,k',hj,a0,e⟩
    ·exact absurd y (xe0 (u.nm k l))
    ·have e2:kAt ks k'.name=some k':=u.at a0
     rw[e,C]at e2;cases e2;refine(jEA (m-1) (by omega) ?_);rcases u.ref j k a0 p hp with z |⟨i,k2,hi,z⟩
     ·exact .inl z
     ·exact .inr (jEEA i k2 (by omega) z)
   ·have o:k.rc=false:=by
     cases hc:k.rc with
     |false=>rfl
     |true=>
      have:k.sort=S "alt":=h;unfold Kn.sort at this;rw[hc,if_pos rfl]at this;exact absurd this (by walk_at"k")
    refine⟨u.alt k l o,?_⟩
    conv=>lhs;unfold szF
    rw[C];show 1+(if k.rc=true then _ else _)=_;rw[if_neg (by rw[o];decide)]
   ·have o:k.rc=true:=by
     cases hc:k.rc with
     |true=>rfl
     |false=>
      refine absurd ?_ h;show k.sort=S "alt";unfold Kn.sort;rw[hc,if_neg (by decide)]
    conv=>lhs;unfold szF
    rw[C];show 1+(if k.rc=true then _ else _)=_;rw[if_pos o]
 obtain⟨ps,a4,h5,U,a1,O⟩:=a2;rw[a4]at rp;obtain⟨e,us,rfl,he,J⟩:=rp;have hl:=J.length;rw[zLM]at hl;refine(xbi _ rfl e rfl ⟨_,zB he⟩ ?_);refine xbo (xs:=us) (λi ys H'=>Same H1 H'/\ys=((ps.take i).map λp=>szF m ks p.2).map V.int) ⟨Same.refl _,rfl⟩ (xa2 (by omega)) (λi ys H' _ p=>zB (p.1 _ _ he)) ?_ ?_
 ·rintro i z ys H' hz hi Z ⟨I,rfl⟩
  obtain⟨d,hd,rd⟩:=J.get hz;rw[zGM]at hd;obtain⟨p,hp,rfl⟩:=zMS hd;obtain⟨b,ws,rfl,hb,_,_,rfl,rfl,_,_,rfl,rfl,rfl⟩:=rd;obtain⟨j,rfl,hj⟩:=U p (zMG hp);have D':=M j rfl;subst D';refine(xaw b _ rfl (zB (I _ _ hb)) rfl _ _ rfl _ (xbr _ rfl rfl (ext2 rfl rfl) (xdv ?_)));refine(xcg _ rfl _ rfl _ ks p.2 rfl (hk.same (s1.trans I)) u ⟨hj,λH2 s2=>nxtG hi Z ⟨I.trans s2,?_⟩⟩);rw[zTA,hp];simp
 ·rintro ys H' Z ⟨I,rfl⟩ D hD
  rw[zTL (by omega)];have sD:=zA hD (.lst ((ps.map λp=>szF m ks p.2).map V.int));have r:=s1.trans (I.trans sD)
  have hb:∀n∈ps.map (λp=>szF m ks p.2),0<=n/\n<=1000000:=λn hn=>by
   obtain⟨p,_,rfl⟩:=zMP hn;have h1:=xf7 u.pts m p.2
   have h2:(6:Int) ^ m<=6 ^ 6:=by
    rcases(show m=0\/m=1\/m=2\/m=3\/m=4\/m=5\/m=6 by omega) with h |h |h |h |h |h |h <;> subst h <;> decide
   have h3:(6:Int) ^ 6=46656:=by decide
   omega
  refine(xa0 _ rfl rfl _ rfl (ite2 (λc=>?_) (λc=>?_)))
  ·obtain⟨Y,ez⟩:=a1 (V.str.inj (z0 c))
   refine(xa8 _ rfl D _ rfl (zC ups) ⟨(λz=>Y (List.map_eq_nil_iff.mp z)),λmx h1 h2=>(xaq _ _ rfl rfl ?_)⟩);have:=q _ r;rw[ez,<- xt8 (λz=>Y (List.map_eq_nil_iff.mp z)) (λn hn=>(hb n hn).1) h1 h2]at this;exact this
  ·have ez:=O (λz=>c (zDT (congrArg V.str z)))
   refine(xa8 _ rfl D _ rfl (zC ups) (jAA hb (by rw[zLM];omega) (xaq _ _ rfl rfl ?_)));have:=q _ r;rw[ez]at this;exact this
theorem xon(T:Tx K a):∀m,m<=6->DefIs P w K a base (m+2) "_law_size" qad (xg9 m)
 |0,h=>xmn (n:=1) T (λ_ _ _ _=>False) (xc3 T) (DefIs.none T.j2 λ_ _ _ _ h=>h) (λj e=>by cases e) h
 |m+1,h=>xmn (n:=m+2) T (xg9 m) (xc3 T) (xon T m (by omega)) (λj e=>by cases e;rfl) h
def xkx:Sp:=λvs H Q _=>∃(f l nb:Addr) (srt:Str) (p q:Int) (ws:List V) (ks:List Kn) (n4:List Str),vs=[.ref f,.ref l,.str srt,.ref nb]/\H f=some (.lst [.int p,.int q])/\H l=some (.lst ws)/\RelDs H ws (ks.map Kn.d)/\KWf ks ∧
 H nb=some (.lst (n4.map V.str))/\n4.length=4/\(srt=S "rec"\/srt=S "alt")/\l≠f/\nb≠f ∧
 ∀v ps (H':Hp),Fed f H H'->RelD H' v (xd8 ps)->ps.length<=4->ps.map (·.1)=n4.take ps.length->(srt=S "alt"->ps≠[])->(∀p∈ps,KIn ks ks.length p.2)->(ps.map λp=>sz ks p.2).sum<=29->Q v H'
theorem xwb{D:Ends}{σ:St}{H:Hp}{c:Bool}{B:Prop}{i:Nat}{v x:V}(a:V->St)(f:σ.set i (some v)=a v)(e:σ=a x)(b:D.nx σ H->B)(h:∀y,(y=v\/(y=x/\c=false))->D.nx (a y) H):if c=true then tAsg (tC v) (xfl i) D σ H else B:=by
 cases c with
 |false=>exact b (by rw[e];exact h x (.inr ⟨rfl,rfl⟩))
 |true=>
  show D.nx (σ.set i (some v)) H;rw[f];exact h v (.inl rfl)
theorem and2{a:TE}{σ:St}{H:Hp}{Q:VK}{c cA:Bool}(f:Q (.bl cA) H->a σ H Q)(h:∀b:Bool,(b=true->cA=true)->Q (.bl b) H):if c=true then a σ H Q else Q (.bl false) H:=by
 cases c with
 |false=>exact h false (λe=>by cases e)
 |true=>exact f (h cA id)
theorem xmp:∀{ns:List Int},(∀n∈ns,0<=n)->maxD ns<=ns.sum/\0<=ns.sum
 |[],_=>⟨Int.le_refl _,Int.le_refl _⟩
 |n::ns,h=>by
  have c:=h n (by simp);have b:=xmp (ns:=ns) λm a=>h m (by simp[a]);rw[List.sum_cons];show max n (maxD ns)<=_/\_;omega
theorem xru{ks:List Kn}(a:KWf ks){x:Str}{b:Bool}{ps:List (Str×Str)}(h:(ps.map λp=>sz ks p.2).sum<=29):inSz (Kn.mk x b ps) (sz ks)<=29:=by
 have:=xmp (ns:=ps.map λp=>sz ks p.2) λn hn=>by
  obtain⟨p,_,rfl⟩:=zMP hn;have:=xw2 a p.2;omega
 unfold inSz;show(if b=true then (ps.map λp=>sz ks p.2).sum else maxD (ps.map λp=>sz ks p.2))<=29;split <;> omega
theorem xo3 (T:Tx K mg) (a:DefIs P w K mg base n "_law_take" qae xc2) (c:DefIs P w K mg base n "_law_size" qad (xg9 6)):DefIs P w K mg base (n+1) "_law_parts" qaz xkx:=by
  refine DefIs.of T.j4 scl_parts (by walk_at"l") (λf bh A outer s H vs Q E hr h=>?_);obtain⟨J,l,nb,C,p,q,ws,ks,n4,rfl,hf,hl,a4,wf,al,h4,hs,lf,nf,k⟩:=h;have nd:=scl_parts.nd
  refine⟨_,(zpn (psn 4 nd (xbt pN))
      (zpn (psn 5 nd pI)
      (zpn (xci zF rfl (xcj rfl T.k4 (pc (xan xbe (xan xbe (pd a hr (va 0 (pc pI pN so))) (xat xfc rfl T.kU PyProof.Rows.boot_int (pc (xea xbd (pv 2) pS (nM _)) pN xl6))) (xat xfc rfl T.kU PyProof.Rows.boot_int (pc (xvt (xea xbd (pd a hr (va 0 (pc pI pN so))) pI (nM _)) (xvp (xea xbd (pv 2) pS (nM _)))) pN xn8))) pN xa5)) (pgn 6 nd)
      (zpn (psn 7 nd (pxl K (xan xes (xbt (pc pS pN so)) (xbj ["_law_row"] [none] rfl (by kernel_rfl) (xbm (K:=K) rfl (pv 1)) (λ_ _ _ _=>(pgc 0)) (λ_ _ _ _=>xbp) (λ_ _ _ _=>(px K (pv 0) pI)))) (pd a hr (va 0 (pc (xan xbe pI (xau (xah (K:=K) rfl) rfl T.kX zE (v1 1))) pN xa5)))))
      (zpn (xa6 (pR xdu (pd c hr (va 1 (v1 7))) (pv 5) (nM _)) (zpo (psn 7 nd pS)) pQ)
      (zpn (psn 5 nd (xan xcy (pv 5) (pd c hr (va 1 (v1 7)))))
      (zpo (xb0 (xdj zD zH zG xbn (pv 4) (pc (xaz (pc (pxl K (pv 3) (pv 6)) (v1 7) ss)) pN zsT))))))))
      (zpo (xag (xat (xbx (K:=K) rfl) rfl T.k9 zK (pc (xcp xdh (pv 4) xdi (xcu pI)) pN ss))))))),?_⟩
  refine⟨(by walk_at"s"),λpl a8=>?_⟩;have s0:=zA a8 (.lst []);have M:pl≠J:=Ne.symm (neN hf a8);have a2:=wf.few;have ah:=a4.length;rw[zLM]at ah;refine(xaa _ rfl J p q 4 rfl (s0 _ _ hf) (by decide) (by decide) (λr1 H1 bb ba f1=>?_));obtain⟨p1,q1,h1⟩:=f1.2;have F1:Fed J H H1:=⟨s0.but.trans f1.1,f1.2⟩;have au:H1 pl=some (.lst []):=f1.1 _ _ ups M
  have b6:∃cA cB:Bool,decide (V.str C=V.str (S "rec"))=cA/\decide (V.str C=V.str (S "alt"))=cB/\0<=(if cA=true then (1:Int) else 0)/\0<=(if cB=true then (1:Int) else 0)/\(if cA=true then (1:Int) else 0)+(if cB=true then (1:Int) else 0)<=1/\(C=S "alt"->(if cB=true then (1:Int) else 0)=1):=by
    rcases hs with rfl |rfl
    · exact(xba true false (by walk_at"k") (by walk_at"k") (by decide) (by decide) (by decide) (λe=>absurd e (by walk_at"k")))
    · exact(xba false true (by walk_at"k") (by walk_at"k") (by decide) (by decide) (by decide) (λ_=>rfl))
  obtain⟨cA,cB,eA,eB,b4,bg,bf,b3⟩:=b6;refine(jEAA _ rfl rfl (.inr (xa8 cB (congrArg (λb=>[V.bl b]) eB) r1 (if cB=true then 1 else 0) rfl rfl ?_)));refine(xaa _ rfl J p1 q1 9 rfl h1 (by decide) (by decide) (λr2 H2 b9 b8 f2=>(jAEA rfl _ rfl (and2 (cA:=decide (V.str C=V.str (S "rec"))) (λz=>(jEAA _ rfl rfl z)) (λb hb=>?_)))));rw[eA]at hb
  have be:0<=(if b=true then (1:Int) else 0)/\(if b=true then (1:Int) else 0)<=(if cA=true then (1:Int) else 0):=by
    cases b with
    |false=>exact⟨Int.le_refl _,b4⟩
    |true=>rw[hb rfl];exact⟨by decide,by decide⟩
  refine .inr (xbg b rfl _ (if b=true then 1 else 0) rfl rfl _ rfl (jAA (by omega) (by omega) ?_))
  all_goals
      have F2:Fed J H H2:=F1.trans f2;have ar:H2 pl=some (.lst []):=f2.1 _ _ au M
      refine xc7 (λi σ H'=>∃us,∃ps:List (Str×Str),∃left o6 o7,σ=[some (.ref J),some (.ref l),some (.str _),some (.ref nb),some (.ref pl),some (.int left),o6,o7]/\Fed J H H'/\H' pl=some (.lst us)/\RelDs H' us (ps.map xlv)/\ps.length=i/\ps.map (·.1)=n4.take i/\(∀p∈ps,KIn ks ks.length p.2)/\(ps.map λp=>sz ks p.2).sum+left=25/\-(i:Int)<=left)
        (xaf ([]) ([]) 25 none none rfl F2 ar rfl rfl (jAAA rfl (λ_ h=>nomatch h) rfl (by decide))) ?_ ?_
      · rintro i σ H3 hi ⟨us,ps,left,o6,o7,rfl,F,a6,I,g,a7,ab,aj,a9⟩
        have bd:i<4:=by omega
        obtain⟨p3,q3,h3⟩:=F.2;have aa:=F.1 l _ hl lf;have bc:=F.1 nb _ al nf;have ag:=a4.tups (xal (jEE p q hf) F) _;refine⟨(by walk_at"s"),λl1 ax=>?_⟩;have U:=zA ax (.lst [.str (S "num")]);refine(xbi _ rfl l rfl ⟨_,zC (U _ _ aa)⟩ ?_);refine xgv (j:=0) (xs:=ws) (λi ys H'=>H'=upd H3 l1 (.lst [.str (S "num")])/\ys=((ks.take i).map Kn.name).map V.str) (by rfl) ⟨rfl,rfl⟩ (xa2 (by omega)) (λi ys H' _ p=>by obtain⟨rfl,_⟩:=p;exact zC (U _ _ aa)) ?_ ?_
        · rintro i' x ys H' hx am ⟨rfl,rfl⟩
          obtain⟨d,hd,rd⟩:=(ag.same U _).get hx;rw[zGM]at hd;obtain⟨k',az,rfl⟩:=zMS hd;obtain⟨b,b7,rfl,hb,_,_,rfl,rfl,_,_,rfl,rfl,v3,_,rfl,r3,rfl⟩:=rd;have b0:i'<ws.length:=(zES hx).1;refine(xaa _ rfl b _ _ _ rfl rfl (zB hb) rfl (nxt b0 am ⟨rfl,?_⟩));rw[zTA,az];simp
        rintro ys H' am ⟨rfl,rfl⟩ D2 b5;rw[zTL (by omega)];have s2:=zA b5 (.lst ((ks.map Kn.name).map V.str));refine(xay l1 D2 _ _ rfl rfl (s2 _ _ ups) ups (fits (by rw[zLM,zLM];show 1+_<=_;omega)) (λl3 a0=>?_));have s3:=zA a0 (.lst ([.str (S "num")]++(ks.map Kn.name).map V.str));have u:=U.trans (s2.trans s3);have aq:l3≠J:=Ne.symm (neN (s2 _ _ (U _ _ h3)) a0);refine(xbb _ rfl _ rfl l _ rfl (.inl (zC (u _ _ aa))) _ (jEAA _ rfl rfl ?_));refine(xak J p3 q3 _ rfl (u _ _ h3) (by omega) (by omega) (λr H4 r0 ac f4=>?_));rw[ah]at ac;obtain⟨x,hx,Z⟩:=xid r0 ac;have an:H4 l3=some (.lst ([.str (S "num")]++(ks.map Kn.name).map V.str)):=f4.1 _ _ ups aq;refine(xak l3 _ _ _ rfl rfl (zC an) hx ?_);have F4:Fed J H H4:=(F.same u).trans f4;have m:=f4.1 _ _ (u _ _ a6) M;have ai:=(I.same u _).tups (xal (jEE p3 q3 (u _ _ h3)) f4) _;have aw:=F4.1 l _ hl lf;have av:=F4.1 nb _ al nf;have af:=a4.tups (xal (jEE p q hf) F4) _;have O:KsSeq H4 (.ref l) ks:=(xaq l ws rfl (.inl aw) af);refine(xcg _ rfl _ rfl _ ks x rfl O wf ⟨Z.mono a2,λH5 s5=>(xbg _ rfl _ _ rfl rfl _ rfl (xwb (x:=.str x) (λy=>[some (.ref J),some (.ref l),some (.str C),some (.ref nb),some (.ref pl),some (.int left),some (.int (0+(i:Int))),some y]) rfl rfl id (λy hy=>?_)))⟩)
        obtain⟨Y,rfl,ae,ay⟩:∃Y,y=.str Y/\KIn ks ks.length Y/\-((i:Int)+1)<=left-sz ks Y:=by
          rcases hy with rfl |⟨rfl,b1⟩
          · exact ⟨S "num", rfl, .inl rfl, by have h1:sz ks (S "num") = 1 := xu7 wf
                                              omega⟩
          · refine(jEAA _ rfl Z ?_)
            have h0:¬left<sz ks x:=of_decide_eq_false b1;omega
        · refine(xbw _ rfl _ rfl _ rfl _ ks (xbf Y rfl (O.same s5) wf (ae.mono a2) (λH6 s6=>(xaq _ _ rfl rfl ?_))))
          have a3:=s5.trans s6;have ak:=a3 _ _ m;have a1:i<n4.length:=by omega
          refine(xa0 _ rfl (.inl (jAE rfl _ (zC ak))) _ rfl (xaa _ rfl nb _ _ _ rfl rfl (zC (a3 _ _ av)) (xl3 a1) (jEAA _ rfl (by walk_at"s") (λt ht=>?_))));have G:∀o,Same H4 (upd H6 t o):=λo=>a3.trans (zA ht o);have a5:=I.length;rw[zLM]at a5;refine(xaj pl us _ rfl rfl (G _ _ _ m) (xa2 (by omega)) ?_);refine(xaf _ (ps++[(n4[i],Y)]) _ _ _ rfl (Fed.put (F4.same (G _)) a8 M _) ups ?_ (by rw[zLA,List.length_singleton,g]) (jAAA ?_ (λz hz=>?_) ?_ (by push_cast;exact ay)))
          · rw[zAP]
            refine RelDs.append ((ai.same (G _) _).tups (xc0 (G _ _ _ m) _) _) ?_;exact(xaq _ ([]) rfl (xas t _ rfl (xc0 (G _ _ _ m) _ _ _ ups) _ _ rfl rfl _ (jEAA _ rfl rfl rfl)) rfl)
          · rw[zAP,a7,zTA,zGA a1]
            rfl
          · rcases zMA hz with hz |hz
            · exact ab z hz
            · rw[zMO hz];exact ae
          · show((ps++[(n4[i],Y)]).map λp=>sz ks p.2).sum+(left-sz ks Y)=25
            rw[zAP,List.sum_append];simp only[List.map_cons,List.map_nil,List.sum_cons,List.sum_nil];omega
      · rintro σ H3 ⟨us,ps,left,o6,o7,rfl,F,a6,I,g,a7,ab,aj,a9⟩
        have a5:=I.length;rw[zLM]at a5;refine(xb3 _ rfl _ rfl pl us rfl (zC a6) (λc2 b2=>?_))
        have ao:cutV us none (some 4)=us:=by
          unfold cutV;rw[show HT.sIx us.length 0 none=0 from rfl,List.drop_zero,Nat.sub_zero];refine zTL ?_;unfold HT.sIx;simp;omega
        have U:=zA b2 (.lst (cutV us none (some 4)));refine(jEEA c2 _ rfl (.inl ⟨zC ups,λt ht=>?_⟩));have s2:=zA ht (.tup (cutV us none (some 4)));refine k _ ps _ (F.same (U.trans s2)) (xaq t us rfl (by rw[ao];exact ups) (I.same (U.trans s2) _)) (by omega) (by rw[g];exact a7) ?_ ab (by omega);intro ha e;have h9:=b3 ha;rw[e]at g;simp only[List.length_nil]at g;omega
def xof:Sp:=λvs H Q _=>∃(f nb:Addr) (p q:Int) (nms:List Str),vs=[.ref f,.ref nb]/\H f=some (.lst [.int p,.int q])/\H nb=some (.lst (nms.map V.str))/\NmsR nms/\nb≠f/\∀v ks (H':Hp),Fed f H H'->RelD H' v (xee ks)->xwo nms ks->Fit ks->Q v H'
theorem xo6(T:Tx K mg)(a:DefIs P w K mg base n "_law_take" qae xc2)(g:DefIs P w K mg base n "_law_parts" qaz xkx):DefIs P w K mg base (n+1) "_law_kinds" qbb xof:=by
 refine DefIs.of T.j5 scl_kinds (by walk_at"l") (λf aq A outer s H vs Q E hr h=>?_);obtain⟨G,nb,p,q,j,rfl,hf,ag,J,nf,k⟩:=h;have nd:=scl_kinds.nd
 refine⟨_,(zpn (psn 2 nd (xbt pN))
   (zpn (xci zF rfl (xcj rfl T.k4 (pc (pd a hr (va 0 (pc pI pN so))) pN zsc)) (pgn 3 nd)
   (zpn (psn 4 nd (pxl K (xbt (pc pS (pc pS pN so) so)) (pd a hr (va 0 (pc pI pN so)))))
   (zpo (xb0 (xdj zD zH zG xbn (pv 2) (pc (xaz (pc (pxl K (pv 1) (pv 3)) (va 4 (pc (pd g hr (va 0 (va 2 (va 4 (pc (xcp xdh (pv 1) (xcu pI) (xcu pI)) pN ss))))) pN zsc)) ss)) pN zsT))))))
   (zpo (xag (xat (xbx (K:=K) rfl) rfl T.k9 zK (v1 2)))))),?_⟩
 refine⟨(by walk_at"s"),λl hl=>?_⟩;have s0:=zA hl (.lst []);have lf:l≠G:=Ne.symm (neN hf hl);have a0:=J.len;refine(xaa _ rfl G p q 5 rfl (s0 _ _ hf) (by decide) (by decide) (λr1 H1 al ak f1=>(xbr _ rfl (by omega) (by omega) ?_)));have F1:Fed G H H1:=⟨s0.but.trans f1.1,f1.2⟩;have af:H1 l=some (.lst []):=f1.1 _ _ ups lf
 refine xc7 (λi σ H'=>∃us,∃ks:List Kn,∃o3 o4,σ=[some (.ref G),some (.ref nb),some (.ref l),o3,o4]/\Fed G H H'/\H' l=some (.lst us)/\RelDs H' us (ks.map Kn.d)/\ks.length=i/\Fit ks/\xwo j ks)
  (xce ([]) ([]) none none rfl F1 af rfl rfl Fit.nil (jAAA KWf.nil (qO _) rfl (λ_ h=>nomatch h))) ?_ ?_
 ·rintro i σ H2 hi ⟨us,ks,o3,o4,rfl,F,a3,I,M,C,wf,an,ai,ah⟩
  have ao:i<4:=by omega
  have ac:=I.length;rw[zLM]at ac;obtain⟨p2,q2,h2⟩:=F.2;refine⟨(by walk_at"s"),λl1 a7=>?_⟩;have U:=zA a7 (.lst [.str (S "rec"),.str (S "alt")]);have aa:l1≠G:=Ne.symm (neN h2 a7);refine(xaa _ rfl G p2 q2 2 rfl (U _ _ h2) (by decide) (by decide) (λr H3 r0 am f3=>?_))
  have ab:∃b:Str,atI [V.str (S "rec"),V.str (S "alt")] r=some (.str b)/\(b=S "rec"\/b=S "alt"):=by
   rcases(show r=0\/r=1 by omega) with rfl |rfl
   ·exact(jEA (S "rec") rfl (.inl rfl))
   ·exact(jEA (S "alt") rfl (.inr rfl))
  obtain⟨b,aj,u⟩:=ab;refine(xak l1 _ _ _ rfl rfl (zC (f3.1 _ _ ups aa)) aj ?_);have F3:Fed G H H3:=(F.same U).trans f3;obtain⟨p3,q3,h3⟩:=f3.2;have y:=f3.1 _ _ (U _ _ a3) lf;have Y:=(I.same U _).tups (xal (jEE p2 q2 (U _ _ h2)) f3) _;have a6:=F3.1 nb _ ag nf;have O:i<j.length:=by omega
  refine(xa0 _ rfl (.inl (jAE rfl _ (zC y))) _ rfl (xaa _ rfl nb _ _ _ rfl rfl (zC a6) (xl3 O) (jEA _ rfl ?_)));refine(xax _ rfl _ rfl _ rfl _ rfl _ rfl (xa8 _ rfl nb _ rfl (zC a6) (λc hc=>?_)));rw[xwl a0];have sc:=zA hc (.lst (((j.drop 8).take 4).map V.str));have cf:c≠G:=Ne.symm (neN h3 hc);refine(xam G l c b p3 (xce q3 us ks ((j.drop 8).take 4) rfl (sc _ _ h3) (sc _ _ y) (Y.same sc _) wf ups (jAAA (by rw[List.length_take,List.length_drop,a0];rfl) u lf ⟨cf,λv ps H4 f4 rv h4 a2 a8 Z a5=>?_⟩)));have F4:Fed G H H4:=(F3.same sc).trans f4;have m:=f4.1 _ _ (sc _ _ y) lf;have a4:=(Y.same sc _).tups (xal (jEE p3 q3 (sc _ _ h3)) f4) _;refine⟨(by walk_at"s"),λt ht=>?_⟩;have s5:∀o,Same H4 (upd H4 t o):=λo=>zA ht o;refine(xaj l us _ rfl rfl (s5 _ _ _ m) (xa2 (by omega)) ?_);have a9:=xvu J ps.length
  have a1:(Kn.mk j[i] (decide (b=S "rec")) ps).sort=b:=by
   unfold Kn.sort;rcases u with rfl |rfl
   ·rfl
   ·show(if decide (S "alt"=S "rec")=true then _ else _)=_
    rw[if_neg (by walk_at"k")]
  have x:ks.map Kn.name=j.take i:=by rw[ai,M]
  have w2:KWf (ks++[Kn.mk j[i] (decide (b=S "rec")) ps]):=by
   refine wf.snoc ?_ (J.nm _ (qP O)) Z ?_ (by omega) (by show ps.length<=5;omega) (by show(ps.map (·.1)).Nodup;rw[a2];exact a9.1) (λz hz=>a9.2 z.1 (by rw[<- a2];exact qG hz))
   ·show j[i] ∉ks.map Kn.name
    rw[x];exact J.ahead (by omega) O
   ·intro ae
    refine a8 ?_;rcases u with e |e
    ·exact absurd ae (by show ¬decide (b=S "rec")=false;rw[e];decide +kernel)
    ·exact e
  refine(xce _ (ks++[Kn.mk j[i] (decide (b=S "rec")) ps]) _ _ rfl (Fed.put (F4.same (s5 _)) hl lf _) ups ?_ (by rw[zLA,List.length_singleton,M]) (C.snoc wf w2 Z (xru wf a5)) ?_)
  ·rw[zAP]
   refine RelDs.append ((a4.same (s5 _) _).tups (xc0 (s5 _ _ _ m) _) _) ?_;refine(xaq _ ([]) rfl (xas t _ rfl (xc0 (s5 _ _ _ m) _ _ _ ups) _ _ rfl rfl _ (xbh _ rfl ?_ _ _ rfl ((rv.same (s5 _) _).tups (xc0 (s5 _ _ _ m) _) _) rfl)) rfl);show V.str b=V.str _;rw[a1]
  ·refine(jAAA w2 (by rw[zLA,List.length_singleton];omega) ?_ ?_)
   ·rw[zAP,x,zLA,List.length_singleton,M,zTA,zGA O]
    rfl
   ·intro z hz
    rcases zMA hz with hz |hz
    ·exact ah z hz
    ·rw[zMO hz]
     exact⟨h4,a2⟩
 ·rintro σ H2 ⟨us,ks,o3,o4,rfl,F,a3,I,M,C,hK⟩
  refine(jEA _ rfl (jEEA l us rfl (.inl ⟨zC a3,λt ht=>?_⟩)));have U:=zA ht (.tup us);exact k _ ks _ (F.same U) (xaq t us rfl ups (I.same U _)) hK C
def xsj:Sp:=λvs H Q _=>∃(a:Addr) (p q:Int),vs=[.ref a]/\H a=some (.lst [.int p,.int q])/\∀(i:Int) (H':Hp),Nm i->Fed a H H'->Q (.int i) H'
theorem xnl(T:Tx K x)(b:DefIs P w K x base n "_law_take" qae xc2):DefIs P w K x base (n+1) "_law_number" qba xsj:=by
 refine DefIs.of T.j0 scl_number (λvs H Q E h=>?_) (λf I A outer s H vs Q E j h=>?_)
 ·obtain⟨a,p,q,rfl,_⟩:=h
  rfl
 obtain⟨a,p,q,rfl,G,k⟩:=h;have nd:=scl_number.nd;have M:(2:Int) ^ (32:Int).toNat=4294967296:=by decide
 refine⟨_,(zpn (psn 1 nd (pd b j (va 0 (pc pI pN so))))
   (zpn (xa6 (pR xft (pv 1) pI (nM _)) (zpo (xag (pd b j (va 0 (pc pI pN so))))) pQ)
   (zpn (xa6 (pR xbd (pv 1) pI (nM _)) (zpo (xag (xan xcy (xan xcy (xan xso pI pI) pI) (pd b j (va 0 (pc pI pN so)))))) pQ)
   (zpo (xag (pd b j (va 0 (pc (xan xso pI pI) pN xa5)))))))),?_⟩
 refine(xaa _ rfl a p q 4 rfl G (by decide) (by decide) (λJ O C z l=>?_));obtain⟨o,m,r⟩:=l.2;refine(xbg _ rfl _ _ rfl rfl _ rfl ?_);refine ite2 (λc=>?_) (λc=>?_)
 ·exact(xaa _ rfl a o m 6 rfl r (by decide) (by decide) (λu y e g i=>k _ _ ⟨e,by omega⟩ (l.trans i)))
 refine(xa0 _ rfl rfl _ rfl ?_);refine ite2 (λc=>?_) (λc=>?_)
 ·refine(xb5 _ _ rfl rfl (jAA (by decide) (by decide) (by decide)) (xaq _ _ rfl rfl (xaa _ rfl a o m 6 rfl r (by decide) (by decide) (λu y e g i=>(xaq _ _ rfl rfl (k _ _ ⟨by omega,by omega⟩ (l.trans i)))))))
 ·refine(xa8 _ rfl _ _ rfl rfl (jAE (jAA (by decide) (by decide) (by decide)) a (xaj o m _ rfl r (by omega) (by omega) (λu y e g i=>k _ _ ⟨e,by omega⟩ (l.trans i)))))
theorem xab{t u:TS}{D:Ends}{σ:St}{H:Hp}(h:∀R:St->Hp->Prop,(∀σ H,u D σ H->R σ H)->t {D with nx:=R} σ H):tSeq t u D σ H:=h (u D) λ_ _ h=>h
theorem xe2{k:Kn}(h:k.rc=true):k.sort=S "rec":=by unfold Kn.sort;rw[if_pos h]
theorem xfd{k:Kn}(h:k.rc=false):k.sort=S "alt":=by unfold Kn.sort;rw[if_neg (by rw[h];decide)]
def spSm(F:List Kn->Str->Int)(m:Nat):Sp:=λvs H Q _=>∃v ks x,vs=[v,.str x]/\RelD H v (xee ks)/\KWf ks/\KIn ks m x/\∀H',Same H H'->Q (.int (F ks x)) H'
theorem xji (T:Tx K mg) (U:Sp) (g:DefIs P w K mg base n "_law_sort_of" qad xf9) (c:DefIs P w K mg base n "_law_small" qad U) (a0:∀j,m=j+1->U=spSm smK j) :
  DefIs P w K mg base (n+1) "_law_small" qad (spSm smK m):=by
 refine DefIs.of T.j3 scl_small (by walk_at"l") (λf a5 A outer s H vs Q E hr h=>?_);obtain⟨v,ks,x,rfl,hk,C,a2,q⟩:=h;have nd:=scl_small.nd
 refine⟨_,(zpn (xdo (pd g hr (va 0 (v1 1))) (xbc (K:=K) rfl rfl (xad (pgn 2 nd) (xad (pgn 3 nd) xa9))))
   (zpn (xa6 (pR xbd (pv 2) pS (nM _)) (zpo (xag (xan xbe pI (pd c hr (va 0 (pc (px K (px K (pv 3) pI) pI) pN ss)))))) pQ)
   (zpo (xag (xan xbe pI (xau (xkf rfl) rfl T.k8 PyProof.Rows.boot_sum (pc (xbj ["_law_name","_law_part","_law_kinds_here"] [none,none,some 0] rfl (by kernel_rfl) (xa1 (K:=K) rfl (pv 3)) (λ_ _ _ _=>(xbc (K:=K) (n:=2) rfl rfl (xad (pgc 0) (xad (pgc 1) xa9)))) (λ_ _ _ _=>xbp) (λ_ _ _ _=>(pd c hr (va 2 (v1 1))))) pN xb2))))))),?_⟩
 refine(xap _ rfl _ rfl v ks x (jAA rfl ((C.ksAt hk).seq) (λt a4 H1 Y ht M=>?_)));refine(xaw t _ rfl (zB ht) rfl _ _ rfl _ (jEAA _ rfl rfl ?_));rcases a2.look C with⟨rfl,o⟩ |⟨j,k,rfl,o,hn,hm,hp⟩
 ·refine(xa0 _ rfl rfl _ rfl (iteKF (zDF (by rw[o];decide +kernel)) ?_))
  rw[o]at M;obtain⟨a,us,rfl,O,l⟩:=M;obtain rfl:us=[]:=l;refine(xbi _ rfl a rfl ⟨_,zB O⟩ ?_);refine xbo (xs:=[]) (λi ys G=>G=H1/\ys=[]) ⟨rfl,rfl⟩ (xa2 (by decide)) (λi ys G _ p=>by obtain⟨rfl,_⟩:=p;exact zB O) (λi y ys G hy=>by simp at hy) ?_;rintro ys G J ⟨rfl,rfl⟩ D hD;refine(xct D ([]) rfl (zC ups) (λ_ h=>nomatch h) (by decide) (xaq _ _ rfl rfl ?_));have e:=(xom C).1;rw[e]at q;exact q _ (Y.trans (zA hD _))
 ·have D':=a0 j rfl
  subst D';rw[o]at M;obtain⟨a,us,rfl,O,l⟩:=M;have hl:=l.length;rw[zLM]at hl;have h5:=C.pts k hm;have Z:xgy (kAt ks x)=k.sort:=by rw[o];rfl
  have e:=(xvd C o).1;unfold smS at e
  cases hc:k.rc with
  | false=>
   rw[if_neg (by rw[hc];decide)]at e;refine(xa0 _ rfl rfl _ rfl (iteKT (zDT (by rw[Z,xfd hc];rfl)) ?_))
   cases I:k.parts with
   |nil=>exact absurd I (C.alt k hm hc)
   |cons p r=>
    rw[I]at l e;obtain⟨vp,rest,rfl,M,_⟩:=l;obtain⟨b,ws,rfl,hb,_,_,rfl,rfl,_,_,rfl,rfl,rfl⟩:=M;refine(xap _ rfl _ rfl a _ _ (xbf _ rfl rfl (zB O) (xav (j:=0) rfl) (xak b _ _ _ rfl rfl (zB hb) rfl ?_)));refine(xaj v ks p.2 rfl (hk.same Y _) C (hp p (by rw[I];simp)) (λH2 s2=>(xaq _ _ rfl rfl ?_)));rw[e]at q;exact q _ (Y.trans s2)
  | true=>
   rw[if_pos hc]at e;refine(xa0 _ rfl rfl _ rfl (iteKF (zDF (by rw[Z,xe2 hc];decide +kernel)) ?_));refine(xbi _ rfl a rfl ⟨_,zB O⟩ ?_);refine xbo (xs:=us) (λi ys G=>Same H1 G/\ys=((k.parts.take i).map λp=>smK ks p.2).map V.int) ⟨Same.refl _,rfl⟩ (xa2 (by omega)) (λi ys G _ p=>zB (p.1 _ _ O)) ?_ ?_
   ·rintro i y ys G hy a3 J ⟨u,rfl⟩
    obtain⟨d,hd,rd⟩:=l.get hy;rw[zGM]at hd;obtain⟨pr,a1,rfl⟩:=zMS hd;obtain⟨b,ws,rfl,hb,_,_,rfl,rfl,_,_,rfl,rfl,rfl⟩:=rd;refine(xaw b _ rfl (zB (u _ _ hb)) rfl _ _ rfl _ (xbr _ rfl rfl (ext2 rfl rfl) (xdv ?_)));refine(xcg _ rfl _ rfl v ks pr.2 rfl (hk.same (Y.trans u) _) C ⟨hp pr (zMG a1),λH2 s2=>nxtG a3 J ⟨u.trans s2,?_⟩⟩);rw[zTA,a1,zAP,zAP];rfl
   ·rintro ys G J ⟨u,rfl⟩ D hD
    rw[zTL (by omega)];refine(xct D (k.parts.map λp=>smK ks p.2) rfl (zC ups) (λz hz=>?_) (by rw[zLM];omega) (xaq _ _ rfl rfl ?_))
    ·obtain⟨p,_,rfl⟩:=zMP hz
     have:=xmc C p.2;omega
    ·rw[e]at q
     exact q _ (Y.trans (u.trans (zA hD _)))
theorem xhu(T:Tx K a):∀m,DefIs P w K a base (m+2) "_law_small" qad (spSm smK m)
 |0=>xji (n:=1) T (λ_ _ _ _=>False) (xc3 T) (DefIs.none T.j3 λ_ _ _ _ h=>h) (λj e=>by cases e)
 |m+1=>xji (n:=m+2) T (spSm smK m) (xc3 T) (xhu T m) (λj e=>by cases e;rfl)
def xqx:Sp:=λvs H Q _=>∃(f ka:Addr) (p q:Int) (us:List V) (ks:List Kn),vs=[.ref f,.ref ka]/\H f=some (.lst [.int p,.int q])/\(H ka=some (.lst us)\/H ka=some (.tup us))/\RelDs H us (ks.map Kn.d)/\ks.length<=6/\∀x H',KIn ks ks.length x->Fed f H H'->Q (.str x) H'
theorem xjm(T:Tx K mg)(c:DefIs P w K mg base n "_law_take" qae xc2):DefIs P w K mg base (n+1) "_law_any_kind" qam xqx:=by
 refine DefIs.of T.kB scl_any_kind (by walk_at"l") (λf a3 A outer s H vs Q E hr h=>?_);obtain⟨f',ka,p1,q1,us,ks,rfl,Y,a,I,a2,q⟩:=h;have nd:=scl_any_kind.nd;refine(jEA _ (zpo (xag (pxl K (xan xes (xbt (pc pS pN so)) (xbj ["_law_row"] [none] rfl (by kernel_rfl) (xvm (xbm (K:=K) rfl (pv 1)) (xa1 (K:=K) rfl (pv 1))) (λ_ _ _ _=>(pgc 0)) (λ_ _ _ _=>xbp) (λ_ _ _ _=>(px K (pv 0) pI)))) (pd c hr (va 0 (pc (xan xbe pI (xau (xah (K:=K) rfl) rfl T.kX zE (v1 1))) pN xa5)))))) ?_);refine⟨(by walk_at"s"),λl2 a1=>?_⟩;have o:=zA a1 (.lst [.str (S "num")]);have J:=I.length;rw[zLM]at J;rcases a with a |a
 ·refine .inl (xbi _ rfl ka rfl ⟨_,zC (o _ _ a)⟩ ?_)
  refine xgv (j:=0) (xs:=us) (λi ys u=>u=upd H l2 (.lst [.str (S "num")])/\ys=((ks.take i).map Kn.name).map V.str) (by rfl) ⟨rfl,rfl⟩ (xa2 (by omega)) (λi ys u _ p=>by obtain⟨rfl,_⟩:=p;exact zC (o _ _ a)) ?_ ?_
  ·rintro i' x ys u r l ⟨rfl,rfl⟩
   obtain⟨d,hd,rd⟩:=(I.same o _).get r;rw[zGM]at hd;obtain⟨k',M,rfl⟩:=zMS hd;obtain⟨b,a0,rfl,hb,_,_,rfl,rfl,_,_,rfl,rfl,v3,_,rfl,r3,rfl⟩:=rd;have O:i'<us.length:=(zES r).1;refine(xaa _ rfl b _ _ _ rfl rfl (zB hb) rfl (nxt O l ⟨rfl,?_⟩));rw[zTA,M];simp
  rintro ys u l ⟨rfl,rfl⟩ D2 U;rw[zTL (by omega)];have y:=zA U (.lst ((ks.map Kn.name).map V.str));refine(xay l2 D2 _ _ rfl rfl (y _ _ ups) ups (fits (by rw[zLM,zLM];show 1+_<=_;omega)) (λZ m=>?_));have s4:=zA m (.lst ([.str (S "num")]++(ks.map Kn.name).map V.str));have e:=o.trans (y.trans s4);have G:Z≠f':=Ne.symm (neN ((o.trans y) _ _ Y) m);refine(xbb _ rfl _ rfl ka _ rfl (.inl (zC (e _ _ a))) _ (jEAA _ rfl rfl (xak f' p1 q1 _ rfl (e _ _ Y) (by omega) (by omega) (λr5 H5 C z f5=>?_))));obtain⟨x,r,g⟩:=xid (ks:=ks) C (by rw[<- J];exact z);exact(xak Z _ _ _ rfl rfl (zC (f5.1 _ _ ups G)) r (q x _ g (((Fed.refl Y).same e).trans f5)))
 ·refine .inr (xbi _ rfl ka rfl ⟨_,zB (o _ _ a)⟩ ?_)
  refine xf4 (j:=0) (xs:=us) (λi ys u=>u=upd H l2 (.lst [.str (S "num")])/\ys=((ks.take i).map Kn.name).map V.str) (by rfl) ⟨rfl,rfl⟩ (xa2 (by omega)) (λi ys u _ p=>by obtain⟨rfl,_⟩:=p;exact zB (o _ _ a)) ?_ ?_
  ·rintro i' x ys u r l ⟨rfl,rfl⟩
   obtain⟨d,hd,rd⟩:=(I.same o _).get r;rw[zGM]at hd;obtain⟨k',M,rfl⟩:=zMS hd;obtain⟨b,a0,rfl,hb,_,_,rfl,rfl,_,_,rfl,rfl,v3,_,rfl,r3,rfl⟩:=rd;have O:i'<us.length:=(zES r).1;refine(xaa _ rfl b _ _ _ rfl rfl (zB hb) rfl (nxt O l ⟨rfl,?_⟩));rw[zTA,M];simp
  rintro ys u l ⟨rfl,rfl⟩ D2 U;rw[zTL (by omega)];have y:=zA U (.lst ((ks.map Kn.name).map V.str));refine(xay l2 D2 _ _ rfl rfl (y _ _ ups) ups (fits (by rw[zLM,zLM];show 1+_<=_;omega)) (λZ m=>?_));have s4:=zA m (.lst ([.str (S "num")]++(ks.map Kn.name).map V.str));have e:=o.trans (y.trans s4);have G:Z≠f':=Ne.symm (neN ((o.trans y) _ _ Y) m);refine(xbb _ rfl _ rfl ka _ rfl (.inr (zB (e _ _ a))) _ (jEAA _ rfl rfl (xak f' p1 q1 _ rfl (e _ _ Y) (by omega) (by omega) (λr5 H5 C z f5=>?_))));obtain⟨x,r,g⟩:=xid (ks:=ks) C (by rw[<- J];exact z);exact(xak Z _ _ _ rfl rfl (zC (f5.1 _ _ ups G)) r (q x _ g (((Fed.refl Y).same e).trans f5)))
theorem RelDs.rev{H:Hp}:∀{vs:List V} {ds:List D},RelDs H vs ds->RelDs H vs.reverse ds.reverse
 |vs,[],h=>by rw[show vs=[] from h];rfl
 |vs,d::ds,⟨v,r,e,b,a⟩=>by
  subst e;rw[List.reverse_cons,List.reverse_cons];exact(RelDs.rev a).append (xaq v ([]) rfl b rfl)
theorem xpe{α:Type}{l:List α}(h:l.Nodup):l.reverse.Nodup:=List.pairwise_reverse.mpr (h.imp λh=>Ne.symm h)
def bKV(bs:List (Str×Str)):List (Key×V):=bs.map λb=>(Sum.inr b.1,.str b.2)
theorem xml{H:Hp}:∀{us:List V} {bs:List (Str×Str)},RelDs H us (bs.map xlv)->PairsV H us (bKV bs)
 |us,[],h=>by rw[show us=[] from h];trivial
 |us,b::bs,⟨v,r,e,g,f⟩=>by
  subst e;obtain⟨a,ws,rfl,c,_,_,rfl,rfl,_,_,rfl,rfl,rfl⟩:=g;exact⟨(jEA a rfl c),xml f⟩
theorem xny{a b c d r:V}{i j:Int}(h:i=j):[a,b,c,d,r,V.int i]=[a,b,c,d,r,V.int j]:=by rw[h]
theorem xgl{ks:List Kn}(a:KWf ks){k:Kn}(h:k∈ks){p:Str×Str}(b:p∈k.parts):KIn ks 6 p.2:=by
 obtain⟨i,hi,e⟩:=zMI h;have:=a.few;exact KIn.mono (n:=i) (a.ref i k (by rw[<- e];exact zGA hi) p b) (by omega)
def spTw(c:Nat):Sp:=λvs H Q _=>∃(f:Addr) (kv bv:V) (ks:List Kn) (bs:List (Str×Str)) (x:Str) (room:Int) (m j:Nat),vs=[.ref f,kv,bv,.str x,.int room,.int (m:Int)]/\c=7*m+j/\j<=6/\TIn H f kv bv ks bs (m+1)/\m<=7/\KIn ks j x/\smK ks x<=room/\∀a d H',Fed f H H'->RelD H' (.ref a) d->TmB ks (c+1) bs d x->Q (.ref a) H'
def xqw(c:Nat):Sp:=λvs H Q E=>∃c',c'<c/\spTw c' vs H Q E
def xol:Sp:=λvs H Q _=>∃(f l:Addr) (p q:Int) (zs:List Str),vs=[.ref f,.ref l]/\H f=some (.lst [.int p,.int q])/\H l=some (.lst (zs.map V.str))/\zs≠[]/\zs.length<=100/\l≠f/\∀z t H',z∈zs->Fed f H H'->RelD H' (.ref t) (tBox z)->Q (.ref t) H'
def xk6(m:Nat):Sp:=λvs H Q _=>∃(f:Addr) (kv bv pvv:V) (ks:List Kn) (bs ps:List (Str×Str)) (x:Str) (room:Int),vs=[.ref f,kv,bv,pvv,.str x,.int room,.int ((m+1:Nat):Int)]/\TIn H f kv bv ks bs (m+2)/\m<7/\RelD H pvv (xd8 ps)/\ps≠[]/\ps.length<=5/\(ps.map (·.1)).Nodup/\(∀p∈ps,KIn ks 6 p.2)/\KIn ks 6 x/\smK ks x*(ps.length:Int)<=room ∧
 ∀(u:V) (rs:List (Str×Str×D)) (H':Hp),Fed f H H'->RelD H' u (.tup (rs.map dArm))->rs.length=ps.length->(∀r∈rs,∃p∈ps,p.1=r.1)->(rs.map (·.1)).Nodup->(∀p∈ps,∃z e,(p.1,z,e)∈rs/\(∀q∈bs,q.1≠z)/\ArmN ks z/\TmB ks (7*m+7) (bs++[(z,p.2)]) e x)->Q u H'
theorem xo9(T:Tx K g)(a:DefIs P w K g base n "_law_take" qae xc2):DefIs P w K g base (n+1) "_law_boxed" qa0 xol:=by
 refine DefIs.of T.j6 xop (by walk_at"l") (λf M A outer s H vs Q E G h=>?_);obtain⟨J,l,p,x,zs,rfl,I,j,e,m,y,q⟩:=h;refine(jEA _ (zpo (xag (xaz (pc pS (pc (pxl K (pv 1) (pd a G (va 0 (pc (xau (xah (K:=K) rfl) rfl T.kX zE (v1 1)) pN zsc)))) pN ss) so)))) ?_);have z:0<zs.length:=List.length_pos_iff.mpr e;have c:(zs.map V.str).length=zs.length:=zLM _;refine(xa7 _ rfl _ rfl _ rfl l _ rfl (.inl (zC j)) (xak J p x _ rfl I (by rw[c];omega) (by rw[c];omega) (λr U O u o=>?_)));rw[c]at u;obtain⟨i,rfl⟩:∃i:Nat,r=(i:Int):=⟨r.toNat,by omega⟩;have b:i<zs.length:=by omega
 refine(xay l _ _ (.str zs[i]) rfl rfl (zC (o.1 _ _ j y)) (xav (by rw[zGM,zGA b];rfl)) (by walk_at"s") (λt C=>?_));have st:=zA C (.tup [.str (S "box"),.str zs[i]]);exact q zs[i] t _ (qP b) (o.same st) (xas t _ rfl ups _ _ rfl rfl _ (jEAA _ rfl rfl rfl))
theorem xrd(T:Tx K mg){c:Nat}(hc:7*m+6<c)(l:DefIs P w K mg base n "_law_take" qae xc2)(g:DefIs P w K mg base n "_law_term" qag (xqw c)):DefIs P w K mg base (n+1) "_law_arms" qbc (xk6 m):=by
 refine DefIs.of T.j7 scl_arms (by walk_at"l") (λf bc A outer s H vs Q E hr h=>?_);obtain⟨f',kv,bv,ba,ks,bs,ps,x,y,rfl,U,m8,ax,b0,h5,ag,ay,ab,a5,q⟩:=h;have nd:=scl_arms.nd;have hu:=xep hr
 refine⟨_,(zpn (psn 7 nd (xbt pN))
   (zpn (psn 8 nd (xan xcn (pv 5) (xau (xah (K:=K) rfl) rfl T.kX zE (v1 3))))
   (zpn (xci zF rfl (xa1 (K:=K) rfl (pv 3)) (xbc (K:=K) rfl rfl (xad (pgn 9 nd) (xad (pgn 10 nd) xa9)))
   (zpn (psn 11 nd (xan xei pS (xnk xmt pS (pv 6) (λ_ _=>rfl))))
   (zpo (xb0 (xdj zD zH zG xbn (pv 7) (pc (xaz (va 9 (va 11 (pc (pd g hr (va 0 (va 1 (pc (xan xes (pv 2) (xbt (pc (xaz (va 11 (v1 10))) pN zsT))) (va 4 (va 8 (pc (xan xcy (pv 6) pI) pN xa5))) xa5)))) pN zsc)))) pN zsT))))))
   (zpn (xa6 (pR xbd (pd l hr (va 0 (pc pI pN so))) pI (nM _)) (zpo (xb0 (xvs zD PySem.F.slot_list_reverse PySem.F.type_list_reverse xno (pv 7)))) pQ)
   (zpo (xag (xat (xbx (K:=K) rfl) rfl T.k9 zK (v1 7)))))))),xab λR1 b7=>?_⟩
 refine⟨(by walk_at"s"),λal Z=>?_⟩;have s0:=zA Z (.lst []);obtain⟨p0,q0,hf⟩:=U.fd;have O:al≠f':=Ne.symm (neN hf Z);obtain⟨pa,us,rfl,a9,ae⟩:=ax;have hl:=ae.length;rw[zLM]at hl;have b8:0<ps.length:=List.length_pos_iff.mpr b0;have a8:(0:Int)<(us.length:Int):=by omega
 have b2:(((m+1:Nat):Int))-1=(m:Int):=by omega
 have aa:smK ks x<=y / (us.length:Int):=by
  refine(Int.le_ediv_iff_mul_le a8).mpr ?_;rw[hl];exact a5
 refine b7 _ _ (xab λR2 b6=>?_);refine(xbb _ rfl _ rfl pa _ rfl (.inr (zB (s0 _ _ a9))) _ (xbr _ rfl rfl ⟨by omega,by omega⟩ ?_));refine b6 _ _ (xab λR3 b5=>?_);refine(xbi _ rfl pa rfl ⟨_,zB (s0 _ _ a9)⟩ ?_)
 refine xd4 (xs:=us) (λi σ H'=>∃(ws:List V) (rs:List (Str×Str×D)) (o8 o9 a3:Option V),σ=[some (.ref f'),some kv,some bv,some (.ref pa),some (.str x),some (.int y),some (.int ((m+1:Nat):Int)),some (.ref al),some (.int (y / (us.length:Int))),o8,o9,a3]/\Fed f' H H'/\H' al=some (.lst ws)/\RelDs H' ws (rs.map dArm)/\rs.map (·.1)=(ps.take i).map (·.1)/\∀p∈ps.take i,∃z e,(p.1,z,e)∈rs/\(∀q∈bs,q.1≠z)/\ArmN ks z/\TmB ks (7*m+7) (bs++[(z,p.2)]) e x)
  (xaf ([]) ([]) none none none rfl ((Fed.refl hf).same s0) ups rfl rfl (λp C=>by rw[List.take_zero]at C;exact nomatch C)) (λi σ H' _ p=>?_) ?_ ?_
 ·obtain⟨_,_,_,_,_,_,G,_⟩:=p
  exact zB (xal U.fd G _ _ a9)
 ·rintro i vv σ H1 ac ⟨ws,rs,o8,o9,a3,rfl,G,J,I,o,M⟩
  have tp:=xal U.fd G;obtain⟨d,hd,rd⟩:=ae.get ac;rw[zGM]at hd;obtain⟨pr,a7,rfl⟩:=zMS hd;obtain⟨b,wz,rfl,hb,_,_,rfl,rfl,_,_,rfl,rfl,rfl⟩:=rd;have az:=zMG a7;have bb:i<us.length:=(zES ac).1;have ar:=I.length
  have a6:rs.length<=5:=by
   have:=congrArg List.length o;rw[zLM,zLM,List.length_take]at this;omega
  rw[zLM]at ar;refine(xaw b _ rfl (zB (tp _ _ hb)) rfl _ _ rfl _ (jEAA _ rfl rfl (xab λR4 b4=>?_)));have e2:(Str.ofString "by").length=2:=by walk_at"k"
  refine(jEA _ rfl (xaj _ _ _ rfl rfl (by walk_at"k") (xr4 (i:=m+1) (by omega)) (xb5 _ _ rfl rfl (fits (by rw[e2];show 2+1<=_;decide)) ?_)));rw[show Str.ofString "by"++(⟨#[97+(m+1)]⟩:Str)=byN (m+1) from xsb (m+1)];have hy:∀b∈bs,b.1≠byN (m+1):=λb hb=>U.fr b hb (m+1) (by omega);have aq:∀j,j<m+1->byN (m+1)≠byN j:=λj hj e=>by have:=xun e;omega
  have t3:=U.fed G;obtain⟨bd,ak,e3,ai,a0,b9⟩:=t3.bx;cases e3;obtain⟨p3,q3,h3⟩:=G.2;refine b4 _ _ ?_;refine(xa0 _ rfl (.inl (jAE rfl _ (zC J))) _ rfl (xax _ rfl _ rfl _ rfl _ rfl _ rfl (jEAA _ rfl (by walk_at"s") (λt1 aw=>⟨(by walk_at"s"),λl1 b1=>?_⟩))));have y1:=zA aw (.tup [.str (byN (m+1)),.str pr.2]);have y2:=zA b1 (.lst [.ref t1]);have af:=a0.length;rw[zLM]at af;have b3:=U.bl;refine(xay _ l1 _ _ rfl rfl ((y1.trans y2) _ _ ai) ups (fits (by show _+1<=_;omega)) (λl2 ah=>?_));have y3:=zA ah (.lst (ak++[.ref t1]));have a2:=y1.trans (y2.trans y3);have t4:=t3.same a2;have ao:l2≠f':=Ne.symm (neN ((y1.trans y2) _ _ h3) ah);refine(xa7 _ rfl _ rfl _ rfl _ _ rfl rfl (xa4 (7*m+6) hc f' kv (.ref l2) ks (xaf (bs++[((byN (m+1)),pr.2)]) x (y / (us.length:Int)) m 6 (xny b2) rfl (by decide) ⟨t4.fd,t4.kd,t4.wf,t4.nb,(xb5 l2 _ rfl ups ?_ ao),?_,?_,?_,?_⟩ (by omega) (jAA ab aa (λu dd H6 f6 ru au=>?_)))))
  ·rw[zAP]
   exact(a0.same a2 _).append (xaq _ ([]) rfl (xas t1 _ rfl ((y2.trans y3) _ _ ups) _ _ rfl rfl _ (jEAA _ rfl rfl rfl)) rfl)
  ·rw[zAP]
   exact xli U.nd λhm=>by
    obtain⟨b',a,e'⟩:=zMP hm;exact hy b' a e'
  ·rw[zLA,List.length_singleton]
   omega
  ·intro b' a j hj
   rcases zMA a with a |a
   ·exact U.fr b' a j (by omega)
   ·rw[zMO a]
    exact aq j hj
  ·intro b' a
   rcases zMA a with a |a
   ·exact U.kn b' a
   ·rw[zMO a]
    exact ay pr az
  refine⟨(by walk_at"s"),λt6 av=>?_⟩;have F6:Fed f' H1 H6:=((Fed.refl h3).same a2).trans f6;have st:=zA av (.tup [.str pr.1,.str (byN (m+1)),.ref u]);have Y:=st _ _ (F6.1 _ _ J O);have am:=(I.tups (xal G.2 F6) _).same st _;refine(xaj al ws _ rfl rfl Y (xa2 (by omega)) (xaf _ (rs++[(pr.1,(byN (m+1)),dd)]) _ _ _ rfl (Fed.put ((G.trans F6).same st) Z O _) ups ?_ ?_ (λp C=>?_)))
  ·rw[zAP]
   exact(am.tups (xc0 Y _) _).append (xaq _ ([]) rfl (xas t6 _ rfl (xc0 Y _ _ _ ups) _ _ rfl rfl _ (xbh _ rfl rfl _ _ rfl ((ru.same st _).tups (xc0 Y _) _) rfl)) rfl)
  ·rw[zAP,o,zTA,a7,zAP]
   rfl
  ·rw[zTA,a7]at C
   rcases zMA C with C |C
   ·obtain⟨z,e,g1,g2,g3⟩:=M p C
    exact(xaq z e (zR _ g1) g2 g3)
   ·have ep:p=pr:=by simpa using C
    rw[ep];exact(xb5 (byN (m+1)) dd (zJ _ (by simp)) hy (.inl ⟨m+1,rfl⟩) au)
 ·rintro σ H1 ⟨ws,rs,o8,o9,a3,rfl,G,J,I,o,M⟩
  rw[zTL (by omega)]at o M
  have a6:rs.length=ps.length:=by
   have:=congrArg List.length o
   rwa[zLM,zLM]at this
  have a1:∀r∈rs,∃p∈ps,p.1=r.1:=λr hr=>by
   have:r.1∈rs.map (·.1):=qG hr;rw[o]at this;obtain⟨p,C,e⟩:=zMP this;exact(jEA p C e)
  obtain⟨p1,q1,h1⟩:=G.2;refine b5 _ _ (xab λR5 aj=>?_);refine(xaa _ rfl f' p1 q1 _ rfl h1 (by decide) (by decide) (λr H2 r0 r1 f2=>(jAEA rfl _ rfl (ite2 (λc=>?_) (λc=>?_)))))
  ·have a4:=f2.1 _ _ J O
   have an:=I.tups (xal G.2 f2) _;refine(xbh _ rfl (.inl (jAE rfl _ (zC a4))) al ws rfl rfl ⟨a4,?_⟩);refine aj _ _ ?_;refine(jEA _ rfl (jEEA al _ rfl (.inl ⟨zC ups,λt ht=>?_⟩)));have st:=zA ht (.tup ws.reverse);refine q _ rs.reverse _ ((Fed.put (G.trans f2) Z O _).same st) (xaq t _ rfl ups ?_) (by rw[List.length_reverse];exact a6) (λr hr=>a1 r (List.mem_reverse.mp hr)) ?_ λp C=>?_
   ·rw[List.map_reverse]
    exact(RelDs.rev (an.tups (xc0 a4 _) _)).same st _
   ·rw[List.map_reverse]
    exact xpe (by rw[o];exact ag)
   ·obtain⟨z,e,h1,h2,h3⟩:=M p C
    exact(xaq z e (List.mem_reverse.mpr h1) h2 h3)
  ·refine aj _ _ ?_
   refine(jEA _ rfl (jEEA al _ rfl (.inl ⟨zC (f2.1 _ _ J O),λt ht=>?_⟩)));have st:=zA ht (.tup ws);exact q _ rs _ ((G.trans f2).same st) (xaq t _ rfl ups ((I.tups (xal G.2 f2) _).same st _)) a6 a1 (by rw[o];exact ag) M
def PtAt(H:Hp)(ks:List Kn)(k:Kn)(room:Int)(w:V):Prop:=∃(b:Addr) (p:Str×Str),w=.ref b/\H b=some (.tup [.str p.1,.str p.2])/\p∈k.parts/\smK ks p.2<room
theorem PtAt.tups{H c:Hp}{ks:List Kn}{k:Kn}{a:Int}{w:V}(h:PtAt H ks k a w)(s:∀b us,H b=some (.tup us)->c b=some (.tup us)):PtAt c ks k a w:=by
 obtain⟨b,p,e,f,r⟩:=h;exact(xaq b p e (s _ _ f) r)
theorem xth{r:Int}(h0:0<=r)(h:r<5):∃c,atI (S "+-*<=").cps.toList r=some c/\Sg ⟨#[c]⟩:=by
 obtain⟨i,rfl⟩:∃i:Nat,r=(i:Int):=⟨r.toNat,by omega⟩;have hi:i=0\/i=1\/i=2\/i=3\/i=4:=by omega
 rcases hi with rfl |rfl |rfl |rfl |rfl
 ·exact(jEA 43 (xav (by walk_at"k")) (.inl (by walk_at"k")))
 ·exact(jEA 45 (xav (by walk_at"k")) (.inr (.inl (by walk_at"k"))))
 ·exact(jEA 42 (xav (by walk_at"k")) (.inr (.inr (.inl (by walk_at"k")))))
 ·exact(jEA 60 (xav (by walk_at"k")) (.inr (.inr (.inr (.inl (by walk_at"k"))))))
 ·exact(jEA 61 (xav (by walk_at"k")) (.inr (.inr (.inr (.inr (by walk_at"k"))))))
theorem xko{α β:Type}{R:α->β->Prop}:∀{as:List α} {bs:List β} {a:α} {b:β},All2 R as bs->R a b->All2 R (as++[a]) (bs++[b])
 |_,_,_,_,.nil,h=>.cons h .nil
 |_,_,_,_,.cons h t,k=>.cons h (xko t k)
theorem xsv{ks:List Kn}:∀(n:Nat) (env:En) (d v:D),Evs ks n env d v->Evs ks (n+1) env d v
 |0,_,_,_,h=>.inl h
 |n+1,env,d,v,h=>by
  rcases h with h |⟨h,g⟩
  ·exact .inl h
  ·exact .inr ⟨h.mono (xsv n),g⟩
theorem xwg{ks:List Kn}{n m:Nat}(l:n<=m){env:En}{d v:D}(h:Evs ks n env d v):Evs ks m env d v:=by
 obtain⟨k,rfl⟩:∃k,m=n+k:=⟨m-n,by omega⟩;clear l
 induction k with
 |zero=>exact h
 |succ k a=>exact xsv _ _ _ _ a
theorem TmB.le{ks:List Kn}{n m:Nat}{bs:List (Str×Str)}{d:D}{x:Str}(h:TmB ks n bs d x)(l:n<=m):TmB ks m bs d x:=⟨λenv a=>by
 obtain⟨v,c,b⟩:=h.1 env a;exact(jEA v (xwg l c) b),λenv a=>xxh l (h.2 env a)⟩
theorem xg2 (T:Tx K mg) {c:Nat} (G:DefIs P w K mg base n "_law_sort_of" qad xf9) (o:DefIs P w K mg base n "_law_take" qae xc2) (I:DefIs P w K mg base n "_law_number" qba xsj) (l:DefIs P w K mg base n "_law_small" qad (spSm smK 6)) (g:DefIs P w K mg base n "_law_term" qag (xqw c)) :
  DefIs P w K mg base (n+1) "_law_whole_term" qag (spTw c):=by
 refine DefIs.of T.j8 scl_whole_term (by walk_at"l") (λf bu A outer s H vs Q E hr h=>?_);obtain⟨Y,kv,bv,ks,bs,x,C,m,j,rfl,bt,bd,ti,m8,am,bb,q⟩:=h;have nd:=scl_whole_term.nd;have wf:=ti.wf;have an:KIn ks 6 x:=am.mono bd
 refine⟨_,(zpn (xdo (pd G hr (va 1 (v1 3))) (xbc (K:=K) rfl rfl (xad (pgn 6 nd) (xad (pgn 7 nd) xa9))))
   (zpn (xa6 (pR xbd (pv 6) pS (nM _)) (zpn (xa6 (PW.pt (xjd (pR xft (pv 4) pI (nM _)) (xjd (pR xbd (pv 5) pI (nM _)) (xha (pR xbd (pd o hr (va 0 (pc pI pN so))) pI (nM _)))))) (zpo (xag (xaz (pc pS (pc (pd I hr (v1 0)) pN zsc) so)))) pQ)
   (zpn (psn 8 nd (pd g hr (va 0 (va 1 (va 2 (pc pS (pc (xan xcn (xan xcy (pv 4) pI) pI) (pc (xan xcy (pv 5) pI) pN xa5) xa5) so))))))
   (zpn (psn 9 nd (pd g hr (va 0 (va 1 (va 2 (pc pS (pc (xan xcn (xan xcy (pv 4) pI) pI) (pc (xan xcy (pv 5) pI) pN xa5) xa5) so))))))
   (zpo (xag (xaz (pc pS (pc (xnk xmt pS (pd o hr (va 0 (pc pI pN so))) (λ_ _=>rfl)) (va 8 (v1 9)) ss) so))))))) pQ)
   (zpn (xa6 (pR xbd (pv 6) pS (nM _)) (zpn (xcx (i:=10) ["_law_part","_law_room","_law_kinds_here"] [none,some 4,some 1] rfl (by kernel_rfl) nd rfl (by walk_at"o") (xa1 (K:=K) rfl (pv 7)) (λ_ _ _ _=>(pgc 0)) (λ_ _ _ _=>(xdt (pR xft (pd l hr (va 2 (pc (px K (pv 0) pI) pN ss))) (pv 1) (nM _)))) (λ_ _ _ _=>(pv 0)))
   (zpn (xdo (pxl K (pv 10) (pd o hr (va 0 (pc (xau (xah (K:=K) rfl) rfl T.kX zE (v1 10)) pN zsc)))) (xbc (K:=K) rfl rfl (xad (pgn 11 nd) (xad (pgn 12 nd) xa9))))
   (zpo (xag (xaz (pc pS (va 3 (va 11 (pc (pd g hr (va 0 (va 1 (va 2 (va 12 (pc (xan xcy (pv 4) pI) (v1 5) xa5)))))) pN zsc))) so)))))) pQ)
   (zpn (psn 13 nd (xan xcy (pv 4) (pd l hr (va 1 (v1 3)))))
   (zpn (psn 14 nd (xbt pN))
   (zpn (xci zF rfl (xa1 (K:=K) rfl (pv 7)) (xbc (K:=K) rfl rfl (xad (pgn 15 nd) (xad (pgn 12 nd) xa9)))
   (zpo (xb0 (xdj zD zH zG xbn (pv 14) (pc (pd g hr (va 0 (va 1 (va 2 (va 12 (pc (xan xbe (pd l hr (va 1 (v1 12))) (xan xcn (pv 13) (xau (xah (K:=K) rfl) rfl T.kX zE (v1 7)))) (v1 5) xa5)))))) pN zsc)))))
   (zpo (xag (xaz (pc pS (va 3 (pc (xat (xbx (K:=K) rfl) rfl T.k9 zK (v1 14)) pN zsc)) so)))))))))),xab λR1 bl=>?_⟩
 refine(xap _ rfl _ rfl kv ks x (jAA rfl ((wf.ksAt ti.kd).seq) (λt bm H1 s1 ht rp=>?_)));refine(xaw t _ rfl (zB ht) rfl _ _ rfl _ (jEAA _ rfl rfl ?_));refine bl _ _ (xab λR2 az=>?_);have t1:=ti.same s1;obtain⟨p1,q1,h1⟩:=t1.fd;obtain⟨p0,q0,hf⟩:=ti.fd;have F1:Fed Y H H1:=(Fed.refl hf).same s1;rcases am.look wf with⟨rfl,Z⟩ |⟨j',k,bc,Z,hn,a6,av⟩
 ·refine(xa0 _ rfl rfl _ rfl (iteKT (zDT (by rw[Z];rfl)) ?_))
  have RN:∀(H2:Hp) (f2:Fed Y H1 H2),∀(i:Int) (H3:Hp),Nm i->Fed Y H2 H3->∀t,H3 t=none->Q (.ref t) (upd H3 t (.tup [.str (S "num"),.int i])):=λH2 f2 i H3 hi f3 t ht=>by
   have st:=zA ht (.tup [.str (S "num"),.int i]);exact q _ (tNum i) _ (((F1.trans f2).trans f3).same st) (xas t _ rfl ups _ _ rfl rfl _ (jEAA _ rfl rfl rfl)) (xu1 hi)
  refine(xbg _ rfl _ _ rfl rfl _ rfl (ite2 (λc1=>?_) (λc1=>?_)))
  ·exact iteT (jEA _ rfl (xco Y p1 q1 rfl h1 (λi H3 hi f3=>⟨(by walk_at"s"),λt ht=>RN H1 (Fed.refl h1) i H3 hi f3 t ht⟩)))
  refine(xa0 _ rfl rfl _ rfl (ite2 (λc2=>?_) (λc2=>?_)))
  ·exact iteT (jEA _ rfl (xco Y p1 q1 rfl h1 (λi H3 hi f3=>⟨(by walk_at"s"),λt ht=>RN H1 (Fed.refl h1) i H3 hi f3 t ht⟩)))
  have bx:¬C<3:=λz=>c1 (zDT z);have bw:¬(m:Int)=0:=λz=>c2 (zDT (congrArg V.int z));obtain⟨m',rfl⟩:∃m',m=m'+1:=⟨m-1,by omega⟩;have aw:(((m'+1:Nat):Int))-1=(m':Int):=by omega
  refine(xaa _ rfl Y p1 q1 _ rfl h1 (by decide) (by decide) (λr H2 r0 r1 f2=>(jAEA rfl _ rfl (ite2 (λc3=>?_) (λc3=>?_)))))
  ·obtain⟨p2,q2,h2⟩:=f2.2
   exact(jEA _ rfl (xco Y p2 q2 rfl h2 (λi H3 hi f3=>⟨(by walk_at"s"),λt ht=>RN H2 f2 i H3 hi f3 t ht⟩)))
  have t2:=t1.fed f2;have ba:=(xom wf).1;have ar:smK ks (S "num")<=(C-1) / 2:=by rw[ba];omega
  refine(xcz _ rfl _ rfl _ rfl _ rfl _ (xbh _ rfl rfl _ _ rfl rfl (jAEA ⟨by decide,by decide⟩ _ rfl (xaq _ _ rfl rfl ?_))));refine(xa4 (7*m') (by omega) Y kv bv ks (xaf bs (S "num") ((C-1) / 2) m' 0 (xny aw) rfl (by decide) (t2.down (by omega)) (by omega) (jAA (.inl rfl) ar (λu1 d1 H3 f3 b4 b8=>?_))));have t3:=t2.fed f3;refine(xcz _ rfl _ rfl _ rfl _ rfl _ (xbh _ rfl rfl _ _ rfl rfl (jAEA ⟨by decide,by decide⟩ _ rfl (xaq _ _ rfl rfl ?_))));refine(xa4 (7*m') (by omega) Y kv bv ks (xaf bs (S "num") ((C-1) / 2) m' 0 (xny aw) rfl (by decide) (t3.down (by omega)) (by omega) (jAA (.inl rfl) ar (λu2 d2 H4 f4 b3 af=>?_))));have t4:=t3.fed f4;obtain⟨p4,q4,h4⟩:=t4.fd;refine(xaa _ rfl Y p4 q4 _ rfl h4 (by decide) (by decide) (λr' H5 b6 b5 f5=>?_));obtain⟨ch,be,b9⟩:=xth b6 b5;refine(xaj _ _ ch rfl rfl (by walk_at"k") be (xbi _ rfl _ rfl (by walk_at"s") (λt' ag=>?_)));have st:=zA ag (.tup [.str (S "op"),.str ⟨#[ch]⟩,.ref u1,.ref u2]);exact q _ (tOpD ⟨#[ch]⟩ d1 d2) _ (((((F1.trans f2).trans f3).trans f4).trans f5).same st) (xas t' _ rfl ups _ _ rfl rfl _ (xbh _ rfl rfl _ _ rfl (((b4.tups (xal t3.fd f4) _).tups (xal t4.fd f5) _).same st _) (xaq _ _ rfl ((b3.tups (xal t4.fd f5) _).same st _) rfl))) (TmB.le (xwt wf b9 b8 af) (by omega))
 ·subst bc
  rw[Z]at rp;obtain⟨a,us,rfl,ha,ac⟩:=rp;have hl:=ac.length;rw[zLM]at hl;have h5:=wf.pts k a6;have a5:xgy (kAt ks x)=k.sort:=by rw[Z];rfl
  have es:=(xvd wf Z).1;unfold smS at es
  cases hc:k.rc with
  | false=>
   rw[if_neg (by rw[hc];decide)]at es;refine(xa0 _ rfl rfl _ rfl (iteKF (zDF (by rw[a5,xfd hc];decide +kernel)) ?_));refine az _ _ (xab λR3 ay=>?_);refine(xa0 _ rfl rfl _ rfl (iteKT (zDT (by rw[a5,xfd hc];rfl)) ?_));refine(xbi _ rfl a rfl ⟨_,zB ha⟩ ?_);refine xbo (xs:=us) (λi ys H'=>Same H1 H'/\(∀z∈ys,PtAt H' ks k C z)/\(1<=i->ys≠[])) (jAA (Same.refl _) (λ_ h=>nomatch h) (λh=>absurd h (by decide))) (xa2 (by omega)) (λi ys H' _ p=>zB (p.1 _ _ ha)) ?_ ?_
   ·rintro i y ys H' hy ax ai ⟨M,a3,ah⟩
    obtain⟨d',a1,a8⟩:=ac.get hy;rw[zGM]at a1;obtain⟨pr,J,rfl⟩:=zMS a1;obtain⟨b,b0,rfl,hb,_,_,rfl,rfl,_,_,rfl,rfl,rfl⟩:=a8;have O:=zMG J
    have first:i=0->smK ks pr.2<C:=λe0=>by
     subst e0
     cases au:k.parts with
     |nil=>rw[au]at J;simp at J
     |cons p r=>
      rw[au]at J es;simp at J;subst J;have es':smK ks x=1+smK ks p.2:=es;omega
    refine⟨xgs rfl,?_⟩;refine(xap _ rfl _ rfl b _ _ (xbf _ rfl rfl (zB (M _ _ hb)) rfl (xaj kv ks pr.2 rfl (t1.kd.same M _) wf (xgl wf a6 O) (λH3 s3=>(xbg _ rfl _ _ rfl rfl _ rfl (ite2 (λc1=>?_) (λc1=>?_)))))))
    ·refine(jEA _ rfl (nxtG ax ai (jAA (M.trans s3) (λz hz=>?_) (λ_=>by simp))))
     rcases zMA hz with hz |hz
     ·exact(a3 z hz).tups λb us q=>s3 _ _ q
     ·rw[zMO hz]
      exact(xb5 b pr rfl (s3 _ _ (M _ _ hb)) O (z0 c1))
    ·refine nxtN ax ai (jAA (M.trans s3) (λz hz=>(a3 z hz).tups λb us q=>s3 _ _ q) (λ_=>?_))
     by_cases e0:i=0
     ·exact absurd (zDT (first e0)) c1
     ·exact ah (by omega)
   ·rintro ys H2 ai ⟨M,a3,ah⟩ D hD
    have bq:k.parts.length≠0:=λe=>wf.alt k a6 hc (List.length_eq_zero_iff.mp e);have al:=ah (by omega);have bn:0<ys.length:=Nat.pos_of_ne_zero λe=>al (List.length_eq_zero_iff.mp e);have sD:=zA hD (.lst ys);have a0:=M.trans sD;have Df:D≠Y:=Ne.symm (neN (M _ _ h1) hD);refine(xa7 _ rfl _ rfl _ rfl D _ rfl (.inl (zC ups)) (xak Y p1 q1 _ rfl (a0 _ _ h1) (by omega) (by omega) (λr H5 r0 r1 f5=>?_)));obtain⟨i,rfl⟩:∃i:Nat,r=(i:Int):=⟨r.toNat,by omega⟩;have aj:i<ys.length:=by omega
    have t2:=t1.same a0;have b1:=xal t2.fd f5;obtain⟨b,p,eb,hb,O,bp⟩:=((a3 ys[i] (qP aj)).tups λb us q=>sD _ _ q).tups b1;have bf:atI ys (i:Int)=some (.ref b):=xav (by rw[zGA aj,eb]);refine(xbk D _ _ _ rfl rfl (zC (f5.1 _ _ ups Df)) bf b (xbr _ rfl (zB hb) rfl (jEEA _ _ rfl (xaq _ _ rfl rfl ?_))));have t5:=t2.fed f5;refine(xax _ rfl _ rfl _ rfl _ rfl _ rfl (xbb _ rfl _ rfl _ _ rfl rfl _ ⟨rfl,?_⟩));refine(xa4 (7*m+j') (by omega) Y kv bv ks (xaf bs p.2 (C-1) m j' rfl rfl (by omega) t5 m8 (jAA (av p O) (by omega) (λu du H7 f7 ru ae=>⟨(by walk_at"s"),λt' ag=>?_⟩))));have st:=zA ag (.tup [.str (S "tag"),.str x,.str p.1,.ref u]);exact q _ (tTag x p.1 du) _ ((((F1.same a0).trans f5).trans f7).same st) (xas t' _ rfl ups _ _ rfl rfl _ (xbh _ rfl rfl _ _ rfl rfl (xaq _ _ rfl (ru.same st _) rfl))) (TmB.le (xuz wf Z hc O ae) (by omega))
  | true=>
   rw[if_pos hc]at es;refine(xa0 _ rfl rfl _ rfl (iteKF (zDF (by rw[a5,xe2 hc];decide +kernel)) ?_));refine az _ _ (xab λR3 ay=>?_);refine(xa0 _ rfl rfl _ rfl (iteKF (zDF (by rw[a5,xe2 hc];decide +kernel)) ?_));refine ay _ _ (xab λR4 bj=>?_);refine(xbw _ rfl _ rfl _ rfl kv ks (xbf x rfl t1.kd wf an (λH2 s2=>(xaq _ _ rfl rfl ?_))));refine bj _ _ (xab λR5 bi=>?_);refine⟨(by walk_at"s"),λtl aq=>?_⟩;refine bi _ _ (xab λR6 bh=>?_);have a0:=s2.trans (zA aq (.lst []));have a7:=xae s2 aq;have ak:tl≠Y:=Ne.symm (neN h1 a7);refine(xbi _ rfl a rfl ⟨_,zB (a0 _ _ ha)⟩ ?_);refine xd4 (xs:=us) (λi σ H'=>∃(ws:List V) (ds:List D) (aa a9:Option V),σ=[some (.ref Y),some kv,some bv,some (.str x),some (.int C),some (.int (m:Int)),some (.str (xgy (kAt ks x))),some (.ref a),none,none,none,none,aa,some (.int (C-smK ks x)),some (.ref tl),a9]/\Fed Y H1 H'/\H' tl=some (.lst ws)/\RelDs H' ws ds/\All2 (λe (p:Str×Str)=>TmB ks (7*m+j'+1) bs e p.2) ds (k.parts.take i)) (xak ([]) ([]) none none rfl ((Fed.refl h1).same a0) ups rfl (by rw[List.take_zero];exact .nil)) (λi σ H' _ p=>?_) ?_ ?_
   ·obtain⟨_,_,_,_,_,fm,_⟩:=p
    exact zB (xal t1.fd fm _ _ ha)
   ·rintro i vv σ H3 ao ⟨ws,ds,aa,a9,rfl,fm,a4,a2,U⟩
    have tp:=xal t1.fd fm;obtain⟨d',a1,a8⟩:=ac.get ao;rw[zGM]at a1;obtain⟨pr,J,rfl⟩:=zMS a1;obtain⟨b,b0,rfl,hb,_,_,rfl,rfl,_,_,rfl,rfl,rfl⟩:=a8;have O:=zMG J;have t3:=t1.fed fm;have bo:=a2.length;have bg:=U.length;rw[List.length_take]at bg;have aj:i<us.length:=(zES ao).1;refine(xaw b _ rfl (zB (tp _ _ hb)) rfl _ _ rfl _ (jEAA _ rfl rfl ?_));refine(xa0 _ rfl (.inl (jAE rfl _ (zC a4))) _ rfl (xax _ rfl _ rfl _ rfl _ rfl _ rfl (xaj kv ks pr.2 rfl t3.kd wf (xgl wf a6 O) (λH4 s4=>?_))));have br:0<=(C-smK ks x) / (us.length:Int):=Int.ediv_nonneg (by omega) (by omega);refine(xbb _ rfl _ rfl a _ rfl (.inr (zB (s4 _ _ (tp _ _ ha)))) _ (xbr _ rfl rfl ⟨by omega,by omega⟩ (xaq _ _ rfl rfl (jEA _ rfl ?_))));have t4:=t3.same s4;refine(xa4 (7*m+j') (by omega) Y kv bv ks (xaf bs pr.2 (smK ks pr.2+(C-smK ks x) / (us.length:Int)) m j' rfl rfl (by omega) t4 m8 (jAA (av pr O) (by omega) (λu du H5 f5 ru ae=>?_))));have ab:=f5.1 _ _ (s4 _ _ a4) ak;have b2:=(a2.same s4 _).tups (xal t4.fd f5) _;refine(xaj tl ws _ rfl rfl ab (xa2 (by omega)) (xak _ (ds++[du]) _ _ rfl (Fed.put ((fm.same s4).trans f5) a7 ak _) ups ((b2.tups (xc0 ab _) _).append (xaq (.ref u) ([]) rfl (ru.tups (xc0 ab _) _) rfl)) ?_));rw[zTA,J];exact xko U ae
   ·rintro σ H3 ⟨ws,ds,aa,a9,rfl,fm,a4,a2,U⟩
    rw[zTL (by omega)]at U;refine bh _ _ ?_;refine(xd3 _ rfl _ rfl (jEEA tl ws rfl (.inl ⟨zC a4,λt2 af=>⟨(by walk_at"s"),λt3 b7=>?_⟩⟩)));have y2:=zA af (.tup ws);have y3:=zA b7 (.tup [.str (S "rec"),.str x,.ref t2]);exact q _ (tRec x ds) _ ((F1.trans fm).same (y2.trans y3)) (xas t3 _ rfl ups _ _ rfl rfl _ (xbh _ rfl rfl _ _ rfl (xaq t2 ws rfl (y3 _ _ ups) (a2.same (y2.trans y3) _)) rfl)) (TmB.le (xu0 Z hc (by omega) U) (by omega))
structure Hold(R:Prop):Prop where
 go:R
theorem xst{R A:Prop}(h:Hold R->A)(r:R):A:=h ⟨r⟩
theorem DefIs.anyP{P:Program}{w:World}{K:Fg}{e:Str->Option Value}{base:Heap}{n:Nat}{x:Str}{st:Stmt}{ps:List Str}{Pr:Nat->Prop}{sps:Nat->Sp}(T:DefTx K e x st ps)(D:∀m,Pr m->DefIs P w K e base n x ps (sps m)):DefIs P w K e base n x ps (λvs H Q E=>∃m,Pr m/\sps m vs H Q E):=by
 by_cases p:∃m,Pr m
 ·obtain⟨u,h0⟩:=p
  obtain⟨f,I,F,b,k,o,l⟩:=(D u h0).ex;refine⟨f,(xbf I ⟨?_,?_⟩ b k o l)⟩
  ·rintro vs H Q E ⟨m,g,h⟩
   obtain⟨J,i,j,_⟩:=(D m g).ex;exact j.1 vs H Q E h
  ·rintro A outer s H args us vs Q E G C z y ⟨m,g,h⟩
   obtain⟨J,i,j,U,O,a,c⟩:=(D m g).ex;rw[o]at a;cases a;obtain⟨M,od,r,l⟩:=l;obtain⟨_,_,_,c⟩:=c;rw[l]at c;cases c;exact j.2 A outer s H args us vs Q E G C z y h
 ·exact DefIs.none T λvs H Q E h=>p ⟨h.choose,h.choose_spec.1⟩
def xtg(c:Nat):Sp:=λvs H Q E=>∃m,7*m+6<c/\xk6 m vs H Q E
theorem xn0{z:Str}:∀{bs:List (Str×Str)},(∀b∈bs,b.1≠z)->∀acc,valV (xdc acc (bKV bs)) (Sum.inr z)=valV acc (Sum.inr z)
 |[],_,acc=>rfl
 |b::bs,h,acc=>by
  have:=xn0 (bs:=bs) (λc a=>h c (by simp[a])) (putK acc (Sum.inr b.1) (.str b.2));show valV (xdc (putK acc (Sum.inr b.1) (.str b.2)) (bKV bs)) (Sum.inr z)=_;rw[this,xhl,if_neg];intro e;exact h b (by simp) (Sum.inr.inj e).symm
theorem xse{z k:Str}:∀{bs:List (Str×Str)},(bs.map (·.1)).Nodup->(z,k)∈bs->∀acc,valV (xdc acc (bKV bs)) (Sum.inr z)=some (.str k)
 | b::bs,nd,h,acc=>by
  rw[List.map_cons,List.nodup_cons]at nd;show valV (xdc (putK acc (Sum.inr b.1) (.str b.2)) (bKV bs)) (Sum.inr z)=_;rcases zMC h with h |h
  ·subst h
   rw[xn0 (bs:=bs) (λc a e=>nd.1 (List.mem_map.mpr (jEA c a e))),xhl,if_pos rfl]
  ·exact xse nd.2 h _
theorem xpn{ks:List Kn}(f:KWf ks){y:Str}(h:KIn ks 6 y){H:Hp}{v:V}(b:RelD H v (xmk (kAt ks y))):∃ps,RelD H v (xd8 ps)/\ps.length<=5/\(xgy (kAt ks y)=S "rec"->∃k,kAt ks y=some k/\k.rc=true/\k.parts=ps)/\(xgy (kAt ks y)=S "alt"->∃k,kAt ks y=some k/\k.rc=false/\k.parts=ps):=by
 rcases h.look f with⟨rfl,e⟩ |⟨j,k,l,e,hn,g,i⟩
 ·rw[e]at b⊢
  exact(xbr ([]) b (by decide) (λz=>absurd z (by walk_at"k")) (λz=>absurd z (by walk_at"k")))
 ·rw[e]at b⊢
  refine(xbr k.parts b (by have:=f.pts k g;omega) (λz=>(jEAA k rfl ?_ rfl)) (λz=>(jEAA k rfl ?_ rfl)))
  ·cases c:k.rc with
   |true=>rfl
   |false=>
    have a:k.sort=S "rec":=z;rw[xfd c]at a;exact absurd a (by walk_at"k")
  ·cases c:k.rc with
   |false=>rfl
   |true=>
    have a:k.sort=S "alt":=z;rw[xe2 c]at a;exact absurd a (by walk_at"k")
def HdAt(H:Hp)(ks:List Kn)(bs:List (Str×Str))(x:Str)(w:V):Prop:=∃(b:Addr) (z g y:Str) (k:Kn),w=.ref b/\H b=some (.tup [.str z,.str g])/\(z,y)∈bs/\kAt ks y=some k/\k.rc=true/\(g,x)∈k.parts
theorem HdAt.tups{H a:Hp}{ks:List Kn}{bs:List (Str×Str)}{x:Str}{w:V}(h:HdAt H ks bs x w)(s:∀b us,H b=some (.tup us)->a b=some (.tup us)):HdAt a ks bs x w:=by
 obtain⟨b,z,g,y,k,e,c,r⟩:=h;exact(xam b z g y k (jAA e (s _ _ c) r))
def TgOk(ks:List Kn)(bs:List (Str×Str))(z:Str):Prop:=∃(y:Str) (k:Kn),(z,y)∈bs/\kAt ks y=some k/\k.rc=false
theorem xq7 (T:Tx K mg) {c:Nat} (C:DefIs P w K mg base n "_law_take" qae xc2) (a3:DefIs P w K mg base n "_law_boxed" qa0 xol) (a2:DefIs P w K mg base n "_law_small" qad (spSm smK 6)) (e:DefIs P w K mg base n "_law_sort_of" qad xf9) (o:DefIs P w K mg base n "_law_term" qag (xqw c)) (a6:DefIs P w K mg base n "_law_arms" qbc (xtg c)) (M:DefIs P w K mg base n "_law_whole_term" qag (spTw c)) :
  DefIs P w K mg base (n+1) "_law_term" qag (spTw c):=by
 refine DefIs.of T.j9 scl_term (by walk_at"l") (λf da A outer s H vs Q E hr h=>?_);obtain⟨f',kv,bv,ks,bs,x,l,m,j,rfl,ac,a0,ti,m8,Z,J,q⟩:=h;have nd:=scl_term.nd;have hu:=xep hr;have wf:=ti.wf;have ax:KIn ks 6 x:=Z.mono a0;have d8:=xmc wf x
 refine⟨_,(zpn (xcx (i:=6) ["_law_x","_law_told","_law_kind"] [none,none,some 3] rfl (by kernel_rfl) nd rfl (by walk_at"o") (xbm (K:=K) rfl (pv 2)) (λ_ _ _ _=>(xbc (K:=K) (n:=2) rfl rfl (xad (pgc 0) (xad (pgc 1) xa9)))) (λ_ _ _ _=>(xdt (pR xbd (pv 1) (pv 2) (nM _)))) (λ_ _ _ _=>(pv 0)))
   (zpn (psn 7 nd (pd C hr (va 0 (pc pI pN so))))
   (zpn (xa6 (PW.pt (xcr (pR xdu (xau (xah (K:=K) rfl) rfl T.kX zE (v1 6)) pI (nM _)) (xb8 (pR xft (pv 7) pI (nM _))))) (zpo (xag (pd a3 hr (va 0 (v1 6))))) pQ)
   (zpn (psn 8 nd (pd a2 hr (va 1 (v1 3))))
   (zpn (xa6 (PW.pt (xcr (pR xbd (pv 7) pI (nM _)) (xcr (pR xdu (pv 5) pI (nM _)) (xb8 (pR xdu (pv 4) (xan xbe (xan xdp pI (pv 8)) pI) (nM _)))))) (zpn (psn 9 nd (xan xcn (xan xcy (xan xcy (pv 4) pI) (xan xdp pI (pv 8))) pI))
   (zpn (psn 10 nd (pd o hr (va 0 (va 1 (va 2 (pc pS (pc (xan xbe pI (pv 9)) (pc (xan xcy (pv 5) pI) pN xa5) xa5) so))))))
   (zpn (psn 11 nd (pd o hr (va 0 (va 1 (va 2 (va 3 (pc (xan xbe (pv 8) (pv 9)) (pc (xan xcy (pv 5) pI) pN xa5) xa5)))))))
   (zpo (xag (xaz (pc pS (va 10 (va 11 (pc (pd o hr (va 0 (va 1 (va 2 (va 3 (pc (xan xbe (pv 8) (pv 9)) (pc (xan xcy (pv 5) pI) pN xa5) xa5)))))) pN zsc))) so))))))) pQ)
   (zpn (xa6 (PW.pt (xcr (pR xbd (pv 7) pI (nM _)) (xb8 (pR xdu (pv 4) pI (nM _))))) (zpn (psn 12 nd (xbt pN))
   (zpn (xci zF rfl (xbm (K:=K) rfl (pv 2)) (xbc (K:=K) rfl rfl (xad (pgn 13 nd) (xad (pgn 14 nd) xa9)))
   (zpn (xdo (pd e hr (va 1 (v1 14))) (xbc (K:=K) rfl rfl (xad (pgn 15 nd) (xad (pgn 16 nd) xa9))))
   (zpo (psn 12 nd (xan xes (pv 12) (xbj ["_law_f","_law_part","_law_x","_law_sort","_law_kind"] [none,none,some 13,some 15,some 3] rfl (by kernel_rfl) (xa1 (K:=K) rfl (pv 16)) (λ_ _ _ _=>(xbc (K:=K) (n:=2) rfl rfl (xad (pgc 0) (xad (pgc 1) xa9)))) (λ_ _ _ _=>(xdt (PW.pt (xcr (pR xbd (pv 3) pS (nM _)) (xb8 (pR xbd (pv 1) (pv 4) (nM _))))))) (λ_ _ _ _=>(xaz (va 2 (v1 0))))))))))
   (zpo (xa6 (pR xdu (xau (xah (K:=K) rfl) rfl T.kX zE (v1 12)) pI (nM _)) (zpn (xdo (pxl K (pv 12) (pd C hr (va 0 (pc (xau (xah (K:=K) rfl) rfl T.kX zE (v1 12)) pN zsc)))) (xbc (K:=K) rfl rfl (xad (pgn 13 nd) (xad (pgn 17 nd) xa9))))
   (zpo (xag (xaz (pc pS (pc (xaz (pc pS (v1 13) so)) (v1 17) zsT) so))))) pQ)))) pQ)
   (zpn (xa6 (PW.pt (xcr (pR xbd (pv 7) pI (nM _)) (xb8 (pR xdu (pv 5) pI (nM _))))) (zpn (xcx (i:=18) ["_law_x","_law_told","_law_kinds_here"] [none,none,some 1] rfl (by kernel_rfl) nd rfl (by walk_at"o") (xbm (K:=K) rfl (pv 2)) (λ_ _ _ _=>(xbc (K:=K) (n:=2) rfl rfl (xad (pgc 0) (xad (pgc 1) xa9)))) (λ_ _ _ _=>(xdt (pR xbd (px K (pd e hr (va 2 (v1 1))) pI) pS (nM _)))) (λ_ _ _ _=>(pv 0)))
   (zpo (xa6 (pR xdu (xau (xah (K:=K) rfl) rfl T.kX zE (v1 18)) pI (nM _)) (zpn (psn 13 nd (pxl K (pv 18) (pd C hr (va 0 (pc (xau (xah (K:=K) rfl) rfl T.kX zE (v1 18)) pN zsc)))))
   (zpn (psn 16 nd (px K (pd e hr (va 1 (pc (xcs hu (xat (xcq rfl) rfl T.kT zL (v1 2)) (pv 13) (λ_ _=>rfl)) pN ss))) pI))
   (zpo (xa6 (pR xvw (xan xcy (pv 4) pI) (xan xdp (pv 8) (xau (xah (K:=K) rfl) rfl T.kX zE (v1 16))) (nM _)) (zpo (xag (xaz (pc pS (pc (xaz (pc pS (v1 13) so)) (pc (pd a6 hr (va 0 (va 1 (va 2 (va 16 (va 3 (pc (xan xcy (pv 4) pI) (v1 5) xa5))))))) pN zsc) zsT) so)))) pQ)))) pQ))) pQ)
   (zpo (xag (pd M hr (va 0 (va 1 (va 2 (va 3 (va 4 (v1 5)))))))))))))))),?_⟩
 refine xab λR1 cw=>?_;obtain⟨p0,q0,hf⟩:=ti.fd;have cl:=ti.bx;obtain⟨bl,ub,rfl,br,bg,dc⟩:=cl;have cd:=bg.length;rw[zLM]at cd;have cm:=ti.bl;refine(xbi _ rfl bl rfl ⟨_,zC br⟩ ?_);refine xd0 (xs:=ub) (λi ys I=>I=H/\∃zs:List Str,ys=zs.map V.str/\(∀z∈zs,(z,x)∈bs)/\zs.length<=i) (xii rfl ([]) rfl (λ_ h=>nomatch h) (zZ _)) (xa2 (by omega)) (λi ys I _ p=>by obtain⟨rfl,_⟩:=p;exact zC br) ?_ ?_
 ·rintro i y ys I hy a5 O ⟨rfl,zs,rfl,aa,bc⟩
  obtain⟨d',U,a9⟩:=bg.get hy;rw[zGM]at U;obtain⟨pr,am,rfl⟩:=zMS U;obtain⟨b,b7,rfl,hb,_,_,rfl,rfl,_,_,rfl,rfl,rfl⟩:=a9;refine(xaw b _ rfl (zB hb) rfl _ _ rfl _ (xbr _ rfl rfl (ext2 rfl rfl) ?_));refine(xc1 _ rfl _ rfl rfl _ rfl ?_);by_cases ab:pr.2=x
  ·refine iteKT (zDT (by rw[ab])) (jEA _ rfl (nxtG a5 O (xii rfl (zs++[pr.1]) (by rw[zAP];rfl) (λz hz=>?_) (by rw[zLA,List.length_singleton];omega))))
   rcases zMA hz with hz |hz
   ·exact aa z hz
   ·rw[zMO hz,<- ab]
    exact zMG am
  ·exact iteKF (zDF λz=>ab (V.str.inj z)) (nxtN a5 O (xii rfl zs rfl aa (by omega)))
 rintro ys H2 O ⟨rfl,zs,rfl,aa,bc⟩ D hD;have sD:=zA hD (.lst (zs.map V.str));have t1:=ti.same sD;have F1:=(Fed.refl hf).same sD;have Df:D≠f':=Ne.symm (neN hf hD);refine cw _ _ (xab λR2 cv=>?_);refine(xaa _ rfl f' p0 q0 _ rfl (sD _ _ hf) (by decide) (by decide) (λfm H1 m0 m1 f1=>?_));have t2:=t1.fed f1;have F2:=F1.trans f1;obtain⟨p2,q2,h2⟩:=t2.fd;have bz:=f1.1 _ _ ups Df;have zl:(zs.map V.str).length=zs.length:=zLM _;refine cv _ _ (xab λR3 cu=>?_);apply xst
 ·intro ah
  refine(xbv _ rfl D _ rfl (.inl (zC bz)) _ _ rfl rfl (jEA _ rfl (ite2 (λc1=>?_) (λc1=>?_))))
  ·refine(xbg _ rfl _ _ rfl rfl _ rfl (ite2 (λc2=>?_) (λc2=>?_)))
   ·have ca:=z0 c1
    rw[zl]at ca;exact(xap _ rfl _ rfl f' D p2 (xba q2 zs rfl h2 bz (List.length_pos_iff.mp (by omega)) (by omega) ⟨Df,λz t I hz fz rz=>q t (tBox z) I (F2.trans fz) rz (xn6 (aa z hz))⟩))
   ·exact ah.go
  ·exact iteF ah.go
 refine cu _ _ (xab λR4 cr=>?_);refine(xcg _ rfl _ rfl kv ks x rfl t2.kd wf ⟨ax,λH3 s3=>?_⟩);have t3:=t2.same s3;have F3:=F2.same s3;obtain⟨p3,q3,h3⟩:=t3.fd;have bp:=t3.bx;obtain⟨de,b0,cy,ae,ak,d4⟩:=bp;cases cy;have be:=ak.length;rw[zLM]at be;refine cr _ _ (xab λR5 bu=>?_);by_cases e3:fm=3
 ·refine(xa0 _ rfl rfl _ rfl (iteKT (zDT (by rw[e3])) ?_))
  apply xst
  ·intro ah
   refine(xbg _ rfl _ _ rfl rfl _ rfl (ite2 (λc2=>?_) (λc2=>iteF ah.go)));refine(xb3 _ rfl _ rfl _ _ rfl rfl (jAE (.inr ⟨by omega,by omega⟩) _ (xbh _ rfl rfl _ _ rfl rfl (jEA _ rfl (ite2 (λc3=>?_) (λc3=>ah.go))))));have cz:(0:Int)<(m:Int):=z0 c2;have db:2*smK ks x+1<l:=z0 c3;obtain⟨m',rfl⟩:∃m',m=m'+1:=⟨m-1,by omega⟩;have b6:(((m'+1:Nat):Int))-1=(m':Int):=by omega
   refine(xbg _ rfl _ _ rfl rfl _ rfl (xb5 _ _ rfl rfl (.inr ⟨by omega,by omega⟩) (xaq _ _ rfl rfl (xb5 _ _ rfl rfl ⟨by decide,by decide⟩ ?_))));have d9:0<=(l-2-2*smK ks x) / 3:=Int.ediv_nonneg (by omega) (by decide);refine(xcz _ rfl _ rfl _ rfl _ rfl _ (xa0 _ rfl rfl _ rfl (xaq _ _ rfl rfl ?_)));refine(xa4 (7*m') (by omega) f' kv (.ref bl) ks (xaf bs (S "num") (1+(l-2-2*smK ks x) / 3) m' 0 (xny b6) rfl (by decide) (t3.down (by omega)) (by omega) (jAA (.inl rfl) (by rw[(xom wf).1];omega) (λu1 d1 H5 f5 c8 al=>?_))));have t5:=t3.fed f5;refine(xax _ rfl _ rfl _ rfl _ rfl _ rfl (xbg _ rfl _ _ rfl rfl _ rfl (xaq _ _ rfl rfl ?_)));refine(xa4 (7*m'+j) (by omega) f' kv (.ref bl) ks (xaf bs x (smK ks x+(l-2-2*smK ks x) / 3) m' j (xny b6) rfl a0 (t5.down (by omega)) (by omega) (jAA Z (by omega) (λu2 d2 H6 f6 c7 a7=>?_))));have t6:=t5.fed f6;refine(xax _ rfl _ rfl _ rfl _ rfl _ rfl (xa7 _ rfl _ rfl _ rfl _ _ rfl rfl (xa8 _ rfl _ _ rfl rfl ?_)));refine(xa4 (7*m'+j) (by omega) f' kv (.ref bl) ks (xaf bs x (smK ks x+(l-2-2*smK ks x) / 3) m' j (xny b6) rfl a0 (t6.down (by omega)) (by omega) (jAA Z (by omega) (λu3 d3 H7 f7 c6 cf=>⟨(by walk_at"s"),λt ht=>?_⟩))));have st:=zA ht (.tup [.str (S "if"),.ref u1,.ref u2,.ref u3])
   exact q _ (tIfD d1 d2 d3) _ ((((F3.trans f5).trans f6).trans f7).same st) (xas t _ rfl ups _ _ rfl rfl _ (xbh _ rfl (((c8.tups (xal t5.fd f6) _).tups (xal t6.fd f7) _).same st _) _ _ rfl ((c7.tups (xal t6.fd f7) _).same st _) (xaq _ _ rfl (c6.same st _) rfl))) (TmB.le (xwu wf (TmB.le al (by omega)) a7 cf) (by omega))
  refine bu _ _ (xab λR6 aq=>?_);refine(xa0 _ rfl rfl _ rfl (iteKF (zDF λz=>absurd (V.int.inj z) (by omega)) (iteF ?_)));refine aq _ _ (xab λR7 a1=>?_);refine(xa0 _ rfl rfl _ rfl (iteKF (zDF λz=>absurd (V.int.inj z) (by omega)) (iteF ?_)));refine a1 _ _ ?_;exact(xax _ rfl _ rfl _ rfl _ rfl _ rfl (xa4 _ rfl f' kv (.ref bl) ks (xaf bs x l m j rfl ac a0 t3 m8 (jAA Z J (λa d I fd ra Y=>q a d I (F3.trans fd) ra Y)))))
 refine(xa0 _ rfl rfl _ rfl (iteKF (zDF λz=>e3 (V.int.inj z)) (iteF ?_)));refine bu _ _ (xab λR6 aq=>?_);by_cases e4:fm=4
 ·refine(xa0 _ rfl rfl _ rfl (iteKT (zDT (by rw[e4])) ?_))
  refine(xbg _ rfl _ _ rfl rfl _ rfl (ite2 (λc2=>?_) (λc2=>?_)))
  ·refine⟨(by walk_at"s"),λhd bm=>?_⟩
   have s4:=zA bm (.lst []);refine(xbi _ rfl bl rfl ⟨_,zC (s4 _ _ ae)⟩ ?_)
   refine xd5 (xs:=b0) (λi σ I=>∃(Y:Addr) (ws:List V) (b5 b4 b3 b1:Option V),σ=[some (.ref f'),some kv,some (.ref bl),some (.str x),some (.int l),some (.int (m:Int)),some (.ref D),some (.int fm),some (.int (smK ks x)),none,none,none,some (.ref Y),b5,b4,b3,b1,none,none]/\Same H3 I/\I Y=some (.lst ws)/\Y≠f'/\(∀w∈ws,HdAt I ks bs x w)/\ws.length<=5*i)
    (xam hd ([]) none none none (xb1 none rfl s4 ups (Ne.symm (neN h3 bm)) (λ_ h=>nomatch h) (qO _))) (λi σ I _ p=>?_) ?_ ?_
   ·obtain⟨_,_,_,_,_,_,_,sm,_⟩:=p
    exact zC (sm _ _ ae)
   ·rintro i vv σ H4 bd ⟨Y,ws,b5,b4,b3,b1,rfl,sm,aj,bt,ao,cc⟩
    obtain⟨d',U,a9⟩:=ak.get bd;rw[zGM]at U;obtain⟨pr,am,rfl⟩:=zMS U;obtain⟨b,b7,rfl,hb,_,_,rfl,rfl,_,_,rfl,rfl,rfl⟩:=a9;have an:=zMG am;have ag:i<b0.length:=(zES bd).1;refine(xaw b _ rfl (zB (sm _ _ hb)) rfl _ _ rfl _ (jEAA _ rfl rfl ?_));refine(xap _ rfl _ rfl kv ks pr.2 (jAA rfl ((wf.ksAt (t3.kd.same sm _)).seq) (λt ba H5 s5 ht rp=>?_)));refine(xaw t _ rfl (zB ht) rfl _ _ rfl _ (jEAA _ rfl rfl ?_));obtain⟨ps,b9,h5,ay,az⟩:=xpn wf (t3.kn pr an) rp;obtain⟨a,us,rfl,av,au⟩:=b9;have hl:=au.length;rw[zLM]at hl;refine(xd3 _ rfl _ rfl (jEAA a rfl ⟨_,zB av⟩ ?_));refine xbo (xs:=us) (λi ys I=>Same H5 I/\(∀w∈ys,HdAt I ks bs x w)/\ys.length<=i) (jAA (Same.refl _) (λ_ h=>nomatch h) (zZ _)) (xa2 (by omega)) (λi ys I _ p=>zB (p.1 _ _ av)) ?_ ?_
    ·rintro i2 y ys I hy a5 O ⟨af,ai,cb⟩
     obtain⟨d',U,a9⟩:=au.get hy;rw[zGM]at U;obtain⟨pt,ch,rfl⟩:=zMS U;obtain⟨b2,d5,rfl,cp,_,_,rfl,rfl,_,_,rfl,rfl,rfl⟩:=a9;refine(xaw b2 _ rfl (zB (af _ _ cp)) rfl _ _ rfl _ (xbr _ rfl rfl (ext2 rfl rfl) ?_));refine(xa0 _ rfl rfl _ rfl ?_);by_cases hs:xgy (kAt ks pr.2)=S "rec"
     ·refine iteKT (zDT (congrArg V.str hs)) ?_
      refine(xc1 _ rfl _ rfl rfl _ rfl ?_);by_cases ab:pt.2=x
      ·refine iteKT (zDT (by rw[ab])) (xbi _ rfl _ rfl (by walk_at"s") (λt2 a7=>nxtG a5 O (jAA (af.trans (zA a7 _)) (λz hz=>?_) (by rw[zLA,List.length_singleton];omega))))
       rcases zMA hz with hz |hz
       ·exact(ai z hz).tups λb us q=>zA a7 _ _ _ q
       ·obtain⟨k,hk,a8,cj⟩:=ay hs
        rw[zMO hz];exact(xaf t2 pr.1 pt.1 pr.2 k rfl ups an hk a8 (by rw[cj,<- ab];exact zMG ch))
      ·exact iteKF (zDF λz=>ab (V.str.inj z)) (nxtN a5 O (jAA af ai (by omega)))
     ·exact iteKF (zDF λz=>hs (V.str.inj z)) (iteF (nxtN a5 O (jAA af ai (by omega))))
    ·rintro ys H6 O ⟨af,ai,cb⟩ D2 bw
     have b8:=zA bw (.lst ys);have ar:=s5.trans (af.trans b8);refine(xay Y D2 _ _ rfl rfl (ar _ _ aj) ups (fits (by omega)) (λl3 bj=>?_));have sl:=zA bj (.lst (ws++ys));refine(xam l3 (ws++ys) _ _ _ (xb1 _ rfl (sm.trans (ar.trans sl)) ups (Ne.symm (neN ((sm.trans ar) _ _ h3) bj)) (λz hz=>?_) (by rw[zLA];omega)));rcases zMA hz with hz |hz
     ·exact(ao z hz).tups λb us q=>(ar.trans sl) _ _ q
     ·exact(ai z hz).tups λb us q=>(b8.trans sl) _ _ q
   ·rintro σ H4 ⟨Y,ws,b5,b4,b3,b1,rfl,sm,aj,bt,ao,cc⟩
    have t4:=t3.same sm;have F4:=F3.same sm;refine(xbv _ rfl Y _ rfl (.inl (zC aj)) _ _ rfl rfl (jEA _ rfl (ite2 (λc3=>?_) (λc3=>?_))))
    ·have d6:=z0 c3
     refine(xa7 _ rfl _ rfl _ rfl Y _ rfl (.inl (zC aj)) (xak f' p3 q3 _ rfl (sm _ _ h3) (by omega) (by omega) (λr H6 r0 r1 f6=>?_)));obtain⟨i,rfl⟩:∃i:Nat,r=(i:Int):=⟨r.toNat,by omega⟩;have ag:i<ws.length:=by omega
     obtain⟨b,z,g,y,k,eb,hb,hz,hk,a8,hg⟩:=(ao ws[i] (qP ag)).tups (xal t4.fd f6);have cq:atI ws (i:Int)=some (.ref b):=xav (by rw[zGA ag,eb]);refine(xbk Y _ _ _ rfl rfl (zC (f6.1 _ _ aj bt)) cq b (xbr _ rfl (zB hb) rfl (jEEA _ _ rfl (xaq _ _ rfl rfl ?_))));refine(jEAA _ rfl (by walk_at"s") (λt1 al=>(jEAA _ rfl (by walk_at"s") (λt2 a7=>?_))));have y1:=zA al (.tup [.str (S "box"),.str z]);have y2:=zA a7 (.tup [.str (S "get"),.ref t1,.str g]);exact q _ (tGet (tBox z) g) _ ((F4.trans f6).same (y1.trans y2)) (xas t2 _ rfl ups _ _ rfl rfl _ (xbh _ rfl (xas t1 _ rfl (y2 _ _ ups) _ _ rfl rfl _ (jEAA _ rfl rfl rfl)) _ _ rfl rfl rfl)) (xu2 (p:=(g,x)) wf hk a8 hg (xn6 hz))
    ·refine aq _ _ (xab λR7 a1=>?_)
     refine(xa0 _ rfl rfl _ rfl (iteKF (zDF λz=>absurd (V.int.inj z) (by omega)) (iteF ?_)));refine a1 _ _ ?_;exact(xax _ rfl _ rfl _ rfl _ rfl _ rfl (xa4 _ rfl f' kv (.ref bl) ks (xaf bs x l m j rfl ac a0 t4 m8 (jAA Z J (λa d I fd ra Y=>q a d I (F4.trans fd) ra Y)))))
  ·refine aq _ _ (xab λR7 a1=>?_)
   refine(xa0 _ rfl rfl _ rfl (iteKF (zDF λz=>absurd (V.int.inj z) (by omega)) (iteF ?_)));refine a1 _ _ ?_;exact(xax _ rfl _ rfl _ rfl _ rfl _ rfl (xa4 _ rfl f' kv (.ref bl) ks (xaf bs x l m j rfl ac a0 t3 m8 (jAA Z J (λa d I fd ra Y=>q a d I (F3.trans fd) ra Y)))))
 refine(xa0 _ rfl rfl _ rfl (iteKF (zDF λz=>e4 (V.int.inj z)) (iteF ?_)));refine aq _ _ (xab λR7 a1=>?_);by_cases e5:fm=5
 ·refine(xa0 _ rfl rfl _ rfl (iteKT (zDT (by rw[e5])) ?_))
  refine(xbg _ rfl _ _ rfl rfl _ rfl (ite2 (λc2=>?_) (λc2=>?_)))
  ·have cz:(0:Int)<(m:Int):=z0 c2
   refine(xbi _ rfl bl rfl ⟨_,zC ae⟩ ?_);refine xd0 (xs:=b0) (λi ys I=>Same H3 I/\∃zs:List Str,ys=zs.map V.str/\(∀z∈zs,TgOk ks bs z)/\zs.length<=i) (xii (Same.refl _) ([]) rfl (λ_ h=>nomatch h) (zZ _)) (xa2 (by omega)) (λi ys I _ p=>zC (p.1 _ _ ae)) ?_ ?_
   ·rintro i y ys I hy a5 O ⟨sm,zs,rfl,aa,bc⟩
    obtain⟨d',U,a9⟩:=ak.get hy;rw[zGM]at U;obtain⟨pr,am,rfl⟩:=zMS U;obtain⟨b,b7,rfl,hb,_,_,rfl,rfl,_,_,rfl,rfl,rfl⟩:=a9;have an:=zMG am;refine(xaw b _ rfl (zB (sm _ _ hb)) rfl _ _ rfl _ (xbr _ rfl rfl (ext2 rfl rfl) ?_));refine(xap _ rfl _ rfl kv ks pr.2 (jAA rfl ((wf.ksAt (t3.kd.same sm _)).seq) (λt ba H5 s5 ht rp=>(xay t _ _ _ rfl rfl (zB ht) rfl rfl (jEA _ rfl ?_)))));obtain⟨ps,b9,h5,ay,az⟩:=xpn wf (t3.kn pr an) rp;by_cases hs:xgy (kAt ks pr.2)=S "alt"
    ·refine iteKT (zDT (congrArg V.str hs)) (jEA _ rfl (nxtG a5 O (xii (sm.trans s5) (zs++[pr.1]) (by rw[zAP];rfl) (λz hz=>?_) (by rw[zLA,List.length_singleton];omega))))
     rcases zMA hz with hz |hz
     ·exact aa z hz
     ·obtain⟨k,hk,a8,_⟩:=az hs
      rw[zMO hz];exact(xaq pr.2 k an hk a8)
    ·exact iteKF (zDF λz=>hs (V.str.inj z)) (nxtN a5 O (xii (sm.trans s5) zs rfl aa (by omega)))
   rintro ys H4 O ⟨sm,a4,rfl,ce,d7⟩ G hG;have sG:=zA hG (.lst (a4.map V.str));have s4:=sm.trans sG;have t4:=t3.same s4;have F4:=F3.same s4;have Gf:G≠f':=Ne.symm (neN (sm _ _ h3) hG);have gl:(a4.map V.str).length=a4.length:=zLM _;refine(xbv _ rfl G _ rfl (.inl (zC ups)) _ _ rfl rfl (jEA _ rfl (ite2 (λc3=>?_) (λc3=>?_))))
   ·have ck:=z0 c3
    rw[gl]at ck;refine(xa7 _ rfl _ rfl _ rfl G _ rfl (.inl (zC ups)) (xak f' p3 q3 _ rfl (s4 _ _ h3) (by rw[gl];omega) (by rw[gl];omega) (λr H6 r0 r1 f6=>?_)));rw[gl]at r1;obtain⟨i,rfl⟩:∃i:Nat,r=(i:Int):=⟨r.toNat,by omega⟩;have ag:i<a4.length:=by omega
    obtain⟨y,k,bb,hk,a8⟩:=ce a4[i] (qP ag);have aw:=zMF hk;have t6:=t4.fed f6;have F6:=F4.trans f6;have bo:=t6.bx;obtain⟨dd,c5,cx,bq,bf,d0⟩:=bo;cases cx;refine(xak G _ _ (.str a4[i]) rfl rfl (zC (f6.1 _ _ ups Gf)) (xav (by rw[zGM,zGA ag];rfl)) ?_);refine(xcg _ rfl _ rfl bl c5 (bKV bs) rfl bq (xml bf) (λp hp=>?_));have sp:=zA hp (.dK (xdc [] (bKV bs)));have bn:=DGet.rd (H:=upd H6 p (.dK (xdc [] (bKV bs)))) (a:=p) (kvs:=xdc [] (bKV bs)) (k:=(Sum.inr a4[i]:Key)) (Or.inl ups);rw[xse ti.nd bb]at bn;refine(xa8 _ rfl p (.str y) rfl bn ?_);have t7:=t6.same sp;refine(xco kv ks y rfl ((wf.ksAt t7.kd).seq) (λt ba H8 s8 ht rp=>(xak t _ _ _ rfl rfl (zB ht) rfl ?_)));have t8:=t7.same s8;have F8:=F6.same (sp.trans s8);rw[hk]at rp;have c9:=rp;obtain⟨a,us,rfl,av,au⟩:=rp;have hl:=au.length;rw[zLM]at hl;have h5:=wf.pts k aw;refine(xbg _ rfl _ _ rfl rfl _ rfl (xbv _ rfl a _ rfl (.inr (zB av)) _ _ rfl rfl (jAE (.inl ⟨by omega,by omega⟩) _ (xa0 _ rfl rfl _ rfl (ite2 (λc4=>?_) (λc4=>?_))))))
    ·have c0:smK ks x*(us.length:Int)<=l-2:=z0 c4
     rw[hl]at c0;obtain⟨m',rfl⟩:∃m',m=m'+1:=⟨m-1,by omega⟩;refine(jEAA _ rfl (by walk_at"s") (λt1 al=>?_));have y1:=zA al (.tup [.str (S "box"),.str a4[i]]);refine(xax _ rfl _ rfl _ rfl _ rfl _ rfl (xbg _ rfl _ _ rfl rfl _ rfl (xa4 m' (by omega) f' kv (.ref bl) (.ref a) (xaf ks bs k.parts x (l-2) rfl (t8.same y1) (by omega) (c9.same y1 _) (wf.alt k aw a8) (jAAA h5 (wf.pnd k aw) (λp hp=>xgl wf aw hp) (jAA ax c0 (λu rs H9 f9 ru bi bh ci cg=>⟨(by walk_at"s"),λt2 a7=>?_⟩)))))));have y2:=zA a7 (.tup [.str (S "case"),.ref t1,u]);have co:=xal (t8.same y1).fd f9 _ _ ups;exact q _ (xne (tBox a4[i]) rs) _ (((F8.same y1).trans f9).same y2) (xas t2 _ rfl ups _ _ rfl rfl _ (xbh _ rfl (xas t1 _ rfl (y2 _ _ co) _ _ rfl rfl _ (jEAA _ rfl rfl rfl)) _ _ rfl (ru.same y2 _) rfl)) (TmB.le (xs9 wf hk a8 (xn6 bb) (by omega) ci bi bh cg) (by omega))
    ·refine a1 _ _ ?_
     exact(xax _ rfl _ rfl _ rfl _ rfl _ rfl (xa4 _ rfl f' kv (.ref bl) ks (xaf bs x l m j rfl ac a0 t8 m8 (jAA Z J (λa d I fd ra Y=>q a d I (F8.trans fd) ra Y)))))
   ·refine a1 _ _ ?_
    exact(xax _ rfl _ rfl _ rfl _ rfl _ rfl (xa4 _ rfl f' kv (.ref bl) ks (xaf bs x l m j rfl ac a0 t4 m8 (jAA Z J (λa d I fd ra Y=>q a d I (F4.trans fd) ra Y)))))
  ·refine a1 _ _ ?_
   exact(xax _ rfl _ rfl _ rfl _ rfl _ rfl (xa4 _ rfl f' kv (.ref bl) ks (xaf bs x l m j rfl ac a0 t3 m8 (jAA Z J (λa d I fd ra Y=>q a d I (F3.trans fd) ra Y)))))
 refine(xa0 _ rfl rfl _ rfl (iteKF (zDF λz=>e5 (V.int.inj z)) (iteF ?_)));refine a1 _ _ ?_;exact(xax _ rfl _ rfl _ rfl _ rfl _ rfl (xa4 _ rfl f' kv (.ref bl) ks (xaf bs x l m j rfl ac a0 t3 m8 (jAA Z J (λa d I fd ra Y=>q a d I (F3.trans fd) ra Y)))))
theorem xs8(T:Tx K e):∀c,DefIs P w K e base (3*c+10) "_law_term" qag (spTw c):=by
 intro c
 induction c using Nat.strongRecOn with
 |_ c g=>
  have take:∀k,DefIs P w K e base (k+1) "_law_take" qae xc2:=λk=>xh3 T;have b:∀k,8<=k->DefIs P w K e base k "_law_small" qad (spSm smK 6):=λk j=>(xhu T 6).mono j;have a:DefIs P w K e base (3*c+7) "_law_term" qag (xqw c):=DefIs.anyP (Pr:=λf=>f<c) (sps:=spTw) T.j9 λf h=>(g f h).mono (by omega);exact xq7 (n:=3*c+9) T (take _) (xo9 (n:=3*c+8) T (take _)) (b _ (by omega)) (xc3 T) (a.mono (by omega)) (DefIs.anyP (Pr:=λm=>7*m+6<c) (sps:=xk6) T.j7 λm i=>xrd (n:=3*c+8) T i (take _) (a.mono (by omega))) (xg2 (n:=3*c+8) T (xc3 T) (take _) (xnl T (take _)) (b _ (by omega)) (a.mono (by omega)))
def xi0:Sp:=λvs H Q _=>∃(f:Addr) (kv bv:V) (ks:List Kn) (bs:List (Str×Str)) (x:Str),vs=[.ref f,kv,bv,.str x]/\TIn H f kv bv ks bs 3/\KIn ks 6 x/\∀a d H',Fed f H H'->RelD H' (.ref a) d->TmB ks 21 bs d x->Q (.ref a) H'
def spTC:Sp:=λvs H Q E=>∃c,c<=20/\spTw c vs H Q E
theorem xjj (T:Tx K j) (e:DefIs P w K j base n "_law_take" qae xc2) (b:DefIs P w K j base n "_law_small" qad (spSm smK 6)) (c:DefIs P w K j base n "_law_term" qag spTC) :
  DefIs P w K j base (n+1) "_law_new_term" qak xi0:=by
 refine DefIs.of T.kA xi4 (by walk_at"l") (λf U A outer s H vs Q E l h=>?_);obtain⟨y,p,Y,ks,bs,x,rfl,i,g,q⟩:=h;refine(jEA _ (zpo (xag (pd c l (va 0 (va 1 (va 2 (va 3 (pc (xan xbe (pd b l (va 1 (v1 3))) (pd e l (va 0 (pc pI pN so)))) (pc pI pN so) xa5)))))))) ?_);refine(xax _ rfl _ rfl _ rfl _ rfl _ rfl (jEA _ rfl (xaj p ks x rfl i.kd i.wf g (λH1 o=>?_))));have m:=i.same o;obtain⟨p0,q0,I⟩:=i.fd;obtain⟨G,C,M⟩:=m.fd;refine(xaa _ rfl y G C _ rfl M (by decide) (by decide) (λr H2 r0 r1 u=>?_));refine(xaq _ _ rfl rfl (xa4 20 (zZ _) y p Y ks (xaf bs x _ 2 6 rfl rfl (by decide) (m.fed u) (by decide) (jAA g (by omega) (λa d Z O z J=>q a d Z ((((Fed.refl I).same o).trans u).trans O) z J)))))
theorem xlh(T:Tx K a):DefIs P w K a base 80 "_law_new_term" qak xi0:=
 xjj (n:=79) T (xh3 T) ((xhu T 6).mono (by omega)) (DefIs.anyP (Pr:=λc=>c<=20) (sps:=spTw) T.j9 λc b=>(xs8 T c).mono (by omega))
def spNu(F:Nat->List Kn->Str->D)(m:Nat):Sp:=λvs H Q _=>∃v ks x,vs=[v,.str x]/\RelD H v (xee ks)/\KWf ks/\KIn ks m x/\∀u H',Same H H'->RelD H' u (F (m+1) ks x)->Q u H'
theorem xjn (T:Tx K mg) (M:Sp) (g:DefIs P w K mg base n "parts_of" qai xf8) (l:DefIs P w K mg base n "sort_of" qai xl7) (c:DefIs P w K mg base n "nought" qaq M) (Z:∀j,m=j+1->M=spNu nuV j) :
  DefIs P w K mg base (n+1) "nought" qaq (spNu nuV m):=by
 refine DefIs.of T.jJ sc_nought (by walk_at"l") (λf a7 A outer s H vs Q E hr h=>?_);obtain⟨v,ks,x,rfl,hk,J,a6,q⟩:=h;have nd:=sc_nought.nd
 refine⟨_,(zpn (xa6 (pR xbd (pv 1) pS (nM _)) (zpo (xag pI)) pQ)
   (zpn (psn 2 nd (pd g hr (va 0 (v1 1))))
   (zpn (xa6 (pR xbd (pd l hr (va 0 (v1 1))) pS (nM _)) (zpo (xag (xaz (va 1 (pc (xat (xbx (K:=K) rfl) rfl T.k9 zK (pc (xbj ["part","kinds"] [none,some 0] rfl (by kernel_rfl) (xa1 (K:=K) rfl (pv 2)) (λ_ _ _ _=>(pgc 0)) (λ_ _ _ _=>xbp) (λ_ _ _ _=>(pd c hr (va 1 (pc (px K (pv 0) pI) pN ss))))) pN xb2)) pN zsc))))) pQ)
   (zpo (xag (xaz (va 1 (pc (px K (px K (pv 2) pI) pI) (pc (pd c hr (va 0 (pc (px K (px K (pv 2) pI) pI) pN ss))) pN zsc) ss)))))))),?_⟩
 rcases a6.nu J with⟨rfl,_,_,e⟩ |⟨j,k,rfl,a2,hn,hm,hp,a4,I⟩
 ·refine(xa0 _ rfl rfl _ rfl (iteKT (by walk_at"k") ?_))
  rw[e]at q;exact q _ _ (Same.refl _) rfl
 ·have D':=Z j rfl
  subst D';refine(xa0 _ rfl rfl _ rfl (iteKF (zDF λz=>a4 (V.str.inj z)) ?_));refine(xap _ rfl _ rfl v ks x (jAA rfl (J.ksAt hk) (λu H1 Y r1=>?_)));rw[a2]at r1;obtain⟨a,us,rfl,ha,C⟩:=r1;have hl:=C.length;rw[zLM]at hl;have h5:=J.pts k hm;refine(xap _ rfl _ rfl v ks x (jAA rfl (J.ksAt (hk.same Y _)) ?_));rw[a2];rcases I with⟨hc,_,e⟩ |⟨hc,p,r,er,_,e⟩
  ·refine(jAEA rfl _ rfl (iteKT (zDT (by show V.str k.sort=_;rw[xe2 hc];rfl)) ?_))
   refine(xd3 _ rfl _ rfl (jEAA a rfl ⟨_,zB ha⟩ ?_));refine xf4 (j:=0) (xs:=us) (λi ys H'=>Same H1 H'/\RelDs H' ys ((k.parts.take i).map λp=>nuV (j+1) ks p.2)) (by rfl) ⟨Same.refl _,rfl⟩ (xa2 (by omega)) (λi ys H' _ p=>zB (p.1 _ _ ha)) ?_ ?_
   ·rintro i y ys H' hy a1 ⟨O,o⟩
    obtain⟨d,hd,rd⟩:=C.get hy;rw[zGM]at hd;obtain⟨p,a0,rfl⟩:=zMS hd;obtain⟨b,ws,rfl,hb,_,_,rfl,rfl,_,_,rfl,rfl,rfl⟩:=rd;have hi:i<us.length:=(zES hy).1;refine(xap _ rfl _ rfl b _ _ (xbf _ rfl rfl (zB (O _ _ hb)) rfl (xaj _ ks p.2 rfl (hk.same (Y.trans O) _) J (hp p (zMG a0)) (λu H2 G r2=>nxt hi a1 ⟨O.trans G,?_⟩))));rw[zTA,a0,zAP];exact(o.same G _).append (xaq u ([]) rfl r2 rfl)
   ·rintro ys H' a1 ⟨O,o⟩ D hD
    rw[zTL (by omega)]at o;refine(jEEA D ys rfl (.inl ⟨zC ups,λl' a5=>⟨(by walk_at"s"),λt ht=>?_⟩⟩));have G:=zA hD (.lst ys);have U:=zA a5 (.tup ys);have s4:=zA ht (.tup [.str x,.ref l']);rw[e]at q;exact q _ _ (Y.trans (O.trans (G.trans (U.trans s4)))) (xas t _ rfl ups _ _ rfl rfl _ (jEAA _ rfl (xaq l' ys rfl (s4 _ _ ups) (o.same (G.trans (U.trans s4)) _)) rfl))
  ·refine(jAEA rfl _ rfl (iteKF (zDF (by show ¬V.str k.sort=_;rw[xfd hc];decide +kernel)) ?_))
   rw[er]at C;obtain⟨vp,rest,rfl,rp,_⟩:=C;obtain⟨b,ws,rfl,hb,_,_,rfl,rfl,_,_,rfl,rfl,rfl⟩:=rp;have a3:SqT K H1 a (.ref b::rest):=zB ha;have at0:atI (V.ref b::rest) 0=some (.ref b):=xav (j:=0) rfl;refine(xap _ rfl _ rfl a _ _ (xbf _ rfl rfl a3 at0 (xak b _ _ _ rfl rfl (zB hb) rfl ?_)));refine(xap _ rfl _ rfl a _ _ (xbf _ rfl rfl a3 at0 (xak b _ _ _ rfl rfl (zB hb) rfl ?_)));refine(xaj _ ks p.2 rfl (hk.same Y _) J (hp p (by rw[er];simp)) (λu H2 G r2=>⟨(by walk_at"s"),λt ht=>?_⟩));have U:=zA ht (.tup [.str x,.str p.1,u]);rw[e]at q;exact q _ _ (Y.trans (G.trans U)) (xas t _ rfl ups _ _ rfl rfl _ (xbh _ rfl rfl _ _ rfl (r2.same U _) rfl))
theorem xgh(T:Tx K a):∀m,DefIs P w K a base (m+2) "nought" qaq (spNu nuV m)
 |0=>xjn (n:=1) T (λ_ _ _ _=>False) (xez T) (xhc T) (DefIs.none T.jJ λ_ _ _ _ h=>h) (λj e=>by cases e)
 |m+1=>xjn (n:=m+2) T (spNu nuV m) (xez T) (xhc T) (xgh T m) (λj e=>by cases e;rfl)
def xob:Sp:=λvs H Q _=>∃(tv:V) (x:Str) (hs:List Hand) (hd:Hand),vs=[tv,.str x]/\RelD H tv (.tup (hs.map Hand.d))/\hs.find? (λh=>decide (h.name=x))=some hd/\∀u,RelD H u hd.d->Q u H
def xfz:Sp:=λvs H Q _=>∃(mv:V) (x:Str) (mk:Mak) (hd:Hand),vs=[mv,.str x]/\RelD H mv mk.d/\xdy mk x=some hd/\∀u,RelD H u hd.d->Q u H
def chTo(mk:Mak)(x:Str):List Str:=(mk.chans.filter λc=>decide (c.2.2.1=x)).map (·.1)
def xd1(mk:Mak)(x:Str):List Str:=(mk.chans.filter λc=>decide (c.2.1=x)).map (·.1)
def xht(F:Mak->Str->List Str):Sp:=λvs H Q _=>∃(mv:V) (x:Str) (mk:Mak),vs=[mv,.str x]/\RelD H mv mk.d/\mk.chans.length<=6/\∀b,H b=none->Q (.ref b) (upd H b (.lst ((F mk x).map V.str)))
def begL(mk:Mak)(hd:Hand):List (Str×D):=hd.boxes.map λb=>(b.1,nuV 7 mk.kinds b.2)
def xk5:Sp:=λvs H Q _=>∃(mv:V) (x:Str) (mk:Mak) (hd:Hand),vs=[mv,.str x]/\RelD H mv mk.d/\MakOk mk/\xdy mk x=some hd/\∀a p H',Same H H'->H p=none->StAt H' a p 0 (begL mk hd)->Q (.ref a) H'
def xhr:Sp:=λvs H Q _=>∃(sa p:Addr) (k:Nat) (bx:List (Str×D)),vs=[.ref sa]/\StAt H sa p k bx/\bx.length<=100/\∀a' p' H',Same H H'->H p'=none->StAt H' a' p' k bx->Q (.ref a') H'
def xk1:Sp:=λvs H Q _=>∃(d:Addr) (kvs:List (Key×V)) (cs:Lts) (L:List Addr),vs=[.ref d]/\H d=some (.dK kvs)/\LsAt H kvs cs L/\(cs.map (·.1)).Nodup/\cs.length<=100/\∀d' kvs' L' H',Same H H'->H d'=none->(∀a∈L',H a=none)->(d'::L').Nodup->H' d'=some (.dK kvs')->LsAt H' kvs' cs L'->Q (.ref d') H'
def xho:Sp:=λvs H Q _=>∃(mv:V) (x:Str) (sa p:Addr) (k:Nat) (mk:Mak) (hd:Hand) (r:Row),vs=[mv,.str x,.ref sa]/\RelD H mv mk.d/\xdy mk x=some hd/\H sa=some (.tup [.int k,.ref p])/\hd.rows[k]?=some r/\∀u,RelD H u r.d->Q u H
def xoi:Sp:=λvs H Q _=>∃(rv:V) (ca:Addr) (r:Row),vs=[rv,.ref ca]/\RelD H rv r.d/\(match r with
 |.take _ c _=>∃kvs la us,H ca=some (.dK kvs)/\valV kvs (Sum.inr c)=some (.ref la)/\H la=some (.lst us)/\Q (us.headD .non) H
 |_=>Q .non H)
def xsi:Sp:=λvs H Q _=>∃(mv rv:V) (sa p:Addr) (k:Nat) (bx:List (Str×D)) (mk:Mak) (bs:List (Str×Str)) (r:Row),vs=[mv,rv,.ref sa]/\RelD H mv mk.d/\KWf mk.kinds/\RelD H rv r.d/\r≠.fin/\StAt H sa p k bx/\bx.length<=6/\FitB mk.kinds bs (enOf bx)/\(∀t g,r=.cond t g->TmOk mk.kinds 21 bs t (S "num"))/\∀H',Same H H'->Q (.int (xcv mk.kinds bx k r:Nat)) H'
def xvb:Sp:=λvs H Q _=>∃(mv rv lv:V) (p:Addr) (kvs:List (Key×V)) (bx:List (Str×D)) (l:D) (mk:Mak) (bs:List (Str×Str)) (r:Row),vs=[mv,rv,.ref p,lv]/\RelD H mv mk.d/\KWf mk.kinds/\RelD H rv r.d/\H p=some (.dK kvs)/\KvD H kvs bx/\bx.length<=6/\FitB mk.kinds bs (enOf bx)/\(∀x t,r=.set x t->∃k,TmOk mk.kinds 21 bs t k)/\(∀n c x,r=.take n c x->RelD H lv l) ∧
 ∀p' kvs' H',Same H H'->p'=p\/H p'=none->H' p'=some (.dK kvs')->KvD H' kvs' (xdq mk.kinds bx l r)->Q (.ref p') H'
theorem hd_d{H:Hp}{u:V}{hd:Hand}(h:RelD H u hd.d):∃a c b,u=.ref a/\H a=some (.tup [.str hd.name,c,b])/\RelD H c (xd8 hd.boxes)/\RelD H b (.tup (hd.rows.map Row.d)):=by
 obtain⟨a,us,e,f,_,_,rfl,rfl,c,_,rfl,i,b,_,rfl,g,rfl⟩:=h;exact(xcf a c b e f i g)
theorem mk_d{H:Hp}{u:V}{mk:Mak}(h:RelD H u mk.d):∃a b f c,u=.ref a/\H a=some (.tup [b,f,c])/\RelD H b (xee mk.kinds)/\RelD H f (.tup (mk.chans.map dChn))/\RelD H c (.tup (mk.hands.map Hand.d)):=by
 obtain⟨a,us,e,g,b,_,rfl,h0,f,_,rfl,j,c,_,rfl,i,rfl⟩:=h;exact(xak a b f c e g h0 j i)
theorem xla{H:Hp}{u:V}{r:Row}(h:RelD H u r.d):∃a us,u=.ref a/\H a=some (.tup (.str r.hd::us))/\RelDs H us r.as:=by
 obtain⟨a,us,e,c,_,b,rfl,rfl,f⟩:=h;exact(xaq a b e c f)
theorem xrf(T:Tx K G):DefIs P w K G base (n+1) "named" qa6 xob:=by
 refine DefIs.of T.jD sc_named (by walk_at"l") (λf U A outer s H vs Q E hr h=>?_);obtain⟨Y,x,hs,hd,rfl,J,r,q⟩:=h;have nd:=sc_named.nd
 refine⟨_,(zpn (xci zF rfl (xa1 (K:=K) rfl (pv 0)) (pgn 2 nd)
   (zpo (xa6 (pR xbd (px K (pv 2) pI) (pv 1) (nM _)) (zpo (xag (pv 2))) pQ)))
   (zpo (xag xer))),?_⟩
 obtain⟨a,us,rfl,u,y⟩:=J;refine(xbi _ rfl a rfl ⟨_,zB u⟩ ?_);have M:=y.length;rw[zLM]at M;refine xd4 (xs:=us) (λi σ l=>∃o,σ=[some (.ref a),some (.str x),o]/\l=H/\(hs.take i).find? (λh=>decide (h.name=x))=none) (jEAA none rfl rfl rfl) (λi σ l _ p=>?_) ?_ ?_
 ·obtain⟨_,_,rfl,_⟩:=p
  exact zB u
 ·rintro i v σ l I ⟨o,rfl,rfl,hn⟩
  obtain⟨d,j,rd⟩:=y.get I;rw[zGM]at j;obtain⟨h',g,rfl⟩:=zMS j;have m:=rd;obtain⟨b,bv,Z,rfl,O,_,_⟩:=hd_d rd;refine(xaa _ rfl b _ _ _ rfl rfl (zB O) rfl (xa0 _ rfl rfl _ rfl (ite2 (λc=>?_) (λc=>?_))))
  ·have e:h'.name=x:=V.str.inj (z0 c)
   have C:=(xc8 hn g).1 (zDT e);rw[r]at C;cases C;exact(jEA _ rfl (q _ m))
  ·have e:¬h'.name=x:=λz=>c (zDT (congrArg V.str z))
   exact(jEAA _ rfl rfl ((xc8 hn g).2 (zDF e)))
 ·rintro σ l ⟨o,rfl,rfl,hn⟩
  rw[zTL (by omega),r]at hn;cases hn
theorem xnm(T:Tx K c)(b:DefIs P w K c base n "named" qa6 xob):DefIs P w K c base (n+1) "hand_of" qac xfz:=by
 refine DefIs.of T.jC xni (by walk_at"l") (λf m A outer s H vs Q E e h=>?_);obtain⟨o,x,mk,hd,rfl,g,i,q⟩:=h;obtain⟨a,p,u,r,rfl,j,_,_,l⟩:=mk_d g;refine(jEA _ (zpo (xag (pd b e (pc (px K (pv 0) pI) (v1 1) ss)))) ?_);exact(xaa _ rfl a _ _ _ rfl rfl (zB j) rfl (xa4 _ rfl _ x mk.hands hd (jAAA rfl l i q)))
theorem xds{H:Hp}{us:List V}{cs:List Chn}(g:RelDs H us (cs.map dChn)){i:Nat}{v:V}(a:us[i]?=some v):∃(b:Addr) (c:Chn),cs[i]?=some c/\v=.ref b/\H b=some (.tup [.str c.1,.str c.2.1,.str c.2.2.1,.str c.2.2.2]):=by
 obtain⟨d,hd,rd⟩:=g.get a;rw[zGM]at hd;obtain⟨c,e,rfl⟩:=zMS hd;obtain⟨b,ws,rfl,f,_,_,rfl,rfl,_,_,rfl,rfl,_,_,rfl,rfl,_,_,rfl,rfl,rfl⟩:=rd;exact(xaq b c e rfl f)
theorem xc4{α:Type}{p:α->Bool}{xs:List α}{i:Nat}{a:α}(h:xs[i]?=some a):(xs.take (i+1)).filter p=(xs.take i).filter p++if p a=true then [a] else []:=by
 rw[zTA,h,List.filter_append];congr 1;show List.filter p [a]=_;rw[List.filter_cons];split <;> rfl
theorem xg3(T:Tx K u):DefIs P w K u base (n+1) "channels_to" qac (xht chTo):=by
 refine DefIs.of T.jF xgz (by walk_at"l") (λf U A outer s H vs Q E hr h=>?_);obtain⟨Z,x,mk,rfl,G,h6,q⟩:=h;obtain⟨a,kv,cv,hv,rfl,J,_,O,_⟩:=mk_d G;obtain⟨Y,us,rfl,j,r⟩:=O;have I:=r.length;rw[zLM]at I;refine(jEA _ (zpo (xag (xbj ["channel","h"] [none,some 1] rfl (by kernel_rfl) (xa1 (K:=K) rfl (px K (pv 0) pI)) (λ_ _ _ _=>(pgc 0)) (λ_ _ _ _=>(xdt (pR xbd (px K (pv 0) pI) (pv 1) (nM _)))) (λ_ _ _ _=>(px K (pv 0) pI))))) ?_);refine(xaa _ rfl a _ _ _ rfl rfl (zB J) rfl (jEAA Y rfl ⟨_,zB j⟩ ?_));refine xbo (xs:=us) (λi ys l=>l=H/\ys=(((mk.chans.take i).filter λc=>decide (c.2.2.1=x)).map (·.1)).map V.str) ⟨rfl,rfl⟩ (xa2 (by omega)) (λi ys l _ p=>by obtain⟨rfl,_⟩:=p;exact zB j) ?_ ?_
 ·rintro i y ys l C hi g ⟨rfl,rfl⟩
  obtain⟨b,c,m,rfl,o⟩:=xds r C;refine⟨ext1 rfl,?_⟩;refine(xaa _ rfl b _ _ _ rfl rfl (zB o) rfl (xa0 _ rfl rfl _ rfl (ite2 (λe=>?_) (λe=>?_))))
  ·refine(xaa _ rfl b _ _ _ rfl rfl (zB o) rfl (nxtG hi g ⟨rfl,?_⟩))
   rw[xc4 m,if_pos (zDT (V.str.inj (z0 e))),zAP,zAP];rfl
  ·refine nxtN hi g ⟨rfl,?_⟩
   rw[xc4 m,if_neg (λz=>e (zDT (congrArg V.str (z0 z)))),List.append_nil]
 ·rintro ys l g ⟨rfl,rfl⟩ D M
  rw[zTL (by omega)];exact q D M
theorem xfu(T:Tx K u):DefIs P w K u base (n+1) "channels_from" qac (xht xd1):=by
 refine DefIs.of T.jE xfr (by walk_at"l") (λf U A outer s H vs Q E hr h=>?_);obtain⟨Z,x,mk,rfl,G,h6,q⟩:=h;obtain⟨a,kv,cv,hv,rfl,J,_,O,_⟩:=mk_d G;obtain⟨Y,us,rfl,j,r⟩:=O;have I:=r.length;rw[zLM]at I;refine(jEA _ (zpo (xag (xbj ["channel","h"] [none,some 1] rfl (by kernel_rfl) (xa1 (K:=K) rfl (px K (pv 0) pI)) (λ_ _ _ _=>(pgc 0)) (λ_ _ _ _=>(xdt (pR xbd (px K (pv 0) pI) (pv 1) (nM _)))) (λ_ _ _ _=>(px K (pv 0) pI))))) ?_);refine(xaa _ rfl a _ _ _ rfl rfl (zB J) rfl (jEAA Y rfl ⟨_,zB j⟩ ?_));refine xbo (xs:=us) (λi ys l=>l=H/\ys=(((mk.chans.take i).filter λc=>decide (c.2.1=x)).map (·.1)).map V.str) ⟨rfl,rfl⟩ (xa2 (by omega)) (λi ys l _ p=>by obtain⟨rfl,_⟩:=p;exact zB j) ?_ ?_
 ·rintro i y ys l C hi g ⟨rfl,rfl⟩
  obtain⟨b,c,m,rfl,o⟩:=xds r C;refine⟨ext1 rfl,?_⟩;refine(xaa _ rfl b _ _ _ rfl rfl (zB o) rfl (xa0 _ rfl rfl _ rfl (ite2 (λe=>?_) (λe=>?_))))
  ·refine(xaa _ rfl b _ _ _ rfl rfl (zB o) rfl (nxtG hi g ⟨rfl,?_⟩))
   rw[xc4 m,if_pos (zDT (V.str.inj (z0 e))),zAP,zAP];rfl
  ·refine nxtN hi g ⟨rfl,?_⟩
   rw[xc4 m,if_neg (λz=>e (zDT (congrArg V.str (z0 z)))),List.append_nil]
 ·rintro ys l g ⟨rfl,rfl⟩ D M
  rw[zTL (by omega)];exact q D M
def Row.wy(k:Nat):Row->List Nat
 |.go g=>[g]
 |.cond _ g=>[g,k+1]
 |.fin=>[]
 |_=>[k+1]
def xiy:Sp:=λvs H Q _=>∃(rv:V) (k:Nat) (r:Row),vs=[rv,.int k]/\RelD H rv r.d/\∀a H',Same H H'->H' a=some (.tup ((Row.wy k r).map λi:Nat=>V.int i))->Q (.ref a) H'
theorem xlf(T:Tx K mg):DefIs P w K mg base (n+1) "row_ways" ["row","k"] xiy:=by
 refine DefIs.of T.jB xk7 (by walk_at"l") (λf cdv A outer s H vs Q E hr h=>?_);obtain⟨rv,k,r,rfl,hrr,q⟩:=h;obtain⟨a,us,rfl,ha,hus⟩:=xla hrr
 refine⟨_,(zpn (xa6 (pR xbd (px K (pv 0) pI) pS (nM _)) (zpo (xag (xaz (pc (px K (pv 0) pI) pN ss)))) pQ)
   (zpn (xa6 (pR xbd (px K (pv 0) pI) pS (nM _)) (zpo (xag (xaz (pc (px K (pv 0) pI) (pc (xan xbe (pv 1) pI) pN xa5) ss)))) pQ)
   (zpn (xa6 (pR xbd (px K (pv 0) pI) pS (nM _)) (zpo (xag (xaz pN))) pQ)
   (zpo (xag (xaz (pc (xan xbe (pv 1) pI) pN xa5))))))),?_⟩
 have hh:SqT K H a (.str r.hd::us):=zB ha;have h0:atI (V.str r.hd::us) 0=some (.str r.hd):=xav (j:=0) rfl
 cases r with
 |go g=>
  obtain⟨_,_,rfl,rfl,rfl⟩:=hus;refine(xaa _ rfl a _ _ _ rfl rfl hh h0 (jAEA rfl _ rfl (iteKT (hdT rfl) ?_)));exact(xaa _ rfl a _ _ _ rfl rfl hh rfl ⟨(by walk_at"s"),λp hp=>q p _ (zA hp _) ups⟩)
 |cond t g=>
  obtain⟨_,_,rfl,_,_,_,rfl,rfl,rfl⟩:=hus;refine(xaa _ rfl a _ _ _ rfl rfl hh h0 (jAEA rfl _ rfl (iteKF (hdF (xug (by intro _ e;cases e))) ?_)));refine(xaa _ rfl a _ _ _ rfl rfl hh h0 (jAEA rfl _ rfl (iteKT (hdT rfl) ?_)));exact(xaa _ rfl a _ _ _ rfl rfl hh rfl (xa8 _ rfl _ _ rfl rfl ⟨(by walk_at"s"),λp hp=>q p _ (zA hp _) (by rw[ups];rfl)⟩))
 |fin=>
  refine(xaa _ rfl a _ _ _ rfl rfl hh h0 (jAEA rfl _ rfl (iteKF (hdF (xug (by intro _ e;cases e))) ?_)));refine(xaa _ rfl a _ _ _ rfl rfl hh h0 (jAEA rfl _ rfl (iteKF (hdF (xuf (by intro _ _ e;cases e))) ?_)));refine(xaa _ rfl a _ _ _ rfl rfl hh h0 (jAEA rfl _ rfl (iteKT (hdT rfl) ?_)));exact⟨(by walk_at"s"),λp hp=>q p _ (zA hp _) ups⟩
 |_=>
  refine(xaa _ rfl a _ _ _ rfl rfl hh h0 (jAEA rfl _ rfl (iteKF (hdF (xug (by intro _ e;cases e))) ?_)));refine(xaa _ rfl a _ _ _ rfl rfl hh h0 (jAEA rfl _ rfl (iteKF (hdF (xuf (by intro _ _ e;cases e))) ?_)));refine(xaa _ rfl a _ _ _ rfl rfl hh h0 (jAEA rfl _ rfl (iteKF (hdF (xp0 (by intro e;cases e))) ?_)));exact(xa8 _ rfl _ _ rfl rfl ⟨(by walk_at"s"),λp hp=>q p _ (zA hp _) (by rw[ups];rfl)⟩)
theorem xpb(T:Tx K mg)(D_hand_of:DefIs P w K mg base n "hand_of" qac xfz):DefIs P w K mg base (n+1) "row_at" qal xho:=by
 refine DefIs.of T.jR xoq (by walk_at"l") (λf cdv A outer s H vs Q E hr h=>?_);obtain⟨mv,x,sa,p,k,mk,hd,r,rfl,hm,hf,hsa,hk,q⟩:=h;refine(jEA _ (zpo (xag (px K (px K (pd D_hand_of hr (va 0 (v1 1))) pI) (px K (pv 2) pI)))) ?_);refine(xap _ rfl _ rfl mv x mk (xbr hd rfl hm hf (λu hu=>?_)));obtain⟨a,bv,rv,rfl,ha,_,h2⟩:=hd_d hu;obtain⟨ra,us,rfl,hra,hR⟩:=h2;refine(xbk a _ _ _ rfl rfl (zB ha) rfl _ (jAE rfl sa (xaj _ _ _ rfl rfl (zB hsa) rfl ?_)));have hl:=hR.length;rw[zLM]at hl;have hk':=(zES hk).1;have hv:us[k]?=some (us[k]'(by omega)):=zGA _;obtain⟨d,hd',rd⟩:=hR.get hv;rw[zGM,hk]at hd';cases hd';exact(xak ra _ _ _ rfl rfl (zB hra) (xav hv) (q _ rd))
theorem xge(T:Tx K mg):DefIs P w K mg base (n+1) "first_letter" qaw xoi:=by
 refine DefIs.of T.jS xgb (by walk_at"l") (λf cdv A outer s H vs Q E hr h=>?_);obtain⟨rv,ca,r,rfl,hrr,q⟩:=h;have hu:=xep hr;obtain⟨a,us,rfl,ha,hus⟩:=xla hrr
 refine⟨_,(zpn (xa6 (PW.pt (xcr (pR xbd (px K (pv 0) pI) pS (nM _)) (xb8 (pR xdu (xau (xah (K:=K) rfl) rfl T.kX zE (pc (xcs hu (pv 1) (px K (pv 0) pI) (λ_ _=>rfl)) pN ss)) pI (nM _))))) (zpo (xag (pxl K (xcs hu (pv 1) (px K (pv 0) pI) (λ_ _=>rfl)) pI))) pQ)
   (zpo (xag xer))),?_⟩
 have hh:SqT K H a (.str r.hd::us):=zB ha;have h0:atI (V.str r.hd::us) 0=some (.str r.hd):=xav (j:=0) rfl
 cases r with
 | take l c x=>
  obtain⟨_,_,rfl,rfl,_,_,rfl,rfl,_,_,rfl,rfl,rfl⟩:=hus;obtain⟨kvs,la,zs,hca,hv,hla,q⟩:=q
  have gd:DGet H ca (.str c) (some (.ref la)):=by
   have:=DGet.rd (k:=Sum.inr c) (.inl hca);rw[hv]at this;exact this
  refine(xaa _ rfl a _ _ _ rfl rfl hh h0 (jAEA rfl _ rfl (iteKT (hdT rfl) ?_)));refine(xap _ rfl _ rfl a _ _ (xbf _ rfl rfl hh rfl (xas ca _ rfl gd la _ rfl (.inl (zC hla)) _ (xa0 _ rfl rfl _ rfl ?_))))
  cases zs with
  |nil=>exact iteKF (by decide) q
  |cons z zs=>
   refine iteKT (zDT (by show(0:Int)<((zs.length+1:Nat):Int);omega)) ?_;exact(xap _ rfl _ rfl a _ _ (xbf _ rfl rfl hh rfl (xaq ca _ rfl gd (xak la _ _ _ rfl rfl (zC hla) (xav (j:=0) rfl) q))))
 |_=>
  exact(xaa _ rfl a _ _ _ rfl rfl hh h0 (jAEA rfl _ rfl (iteKF (hdF (xfk (by intro _ _ _ e;cases e))) (iteF q))))
theorem xh6(T:Tx K mg)(D_row_ways:DefIs P w K mg base n "row_ways" ["row","k"] xiy)(D_worth:DefIs P w K mg base n "worth" qaf (xdg (λks=>Ev ks 21) 6)):DefIs P w K mg base (n+1) "row_behind" qa8 xsi:=by
 refine DefIs.of T.jU sc_row_behind (by walk_at"l") (λf cdv A outer s H vs Q E hr h=>?_);obtain⟨mv,rv,sa,p,k,bx,mk,bs,r,rfl,hm,wf,hrr,hne,hst,h6,hfit,hcond,q⟩:=h;have nd:=sc_row_behind.nd;have hrr0:=hrr;obtain⟨a,us,rfl,ha,hus⟩:=xla hrr;obtain⟨hsa,kvs,hp,hkv⟩:=hst;obtain⟨ma,kv,cv,hv,rfl,hma,hk0,_,_⟩:=mk_d hm
 refine⟨_,(zpn (psn 3 nd (pd D_row_ways hr (va 1 (pc (px K (pv 2) pI) pN ss))))
   (zpn (xa6 (PW.pt (xcr (pR xbd (px K (pv 1) pI) pS (nM _)) (xb8 (pR xbd (pd D_worth hr (pc (px K (pv 0) pI) (pc (px K (pv 1) pI) (pc (px K (pv 2) pI) pN ss) ss) ss)) pI (nM _))))) (zpo (xag (px K (pv 3) pI))) pQ)
   (zpo (xag (px K (pv 3) pI))))),?_⟩
 refine(xap _ rfl _ rfl sa _ _ (xbf _ rfl rfl (zB hsa) rfl (xco _ k r rfl hrr0 (λwa H1 s1 hwa=>?_))));have hh:SqT K H1 a (.str r.hd::us):=zB (s1 _ _ ha);have h0:atI (V.str r.hd::us) 0=some (.str r.hd):=xav (j:=0) rfl
 cases r with
 |fin=>exact absurd rfl hne
 | cond t g=>
  obtain⟨tv,_,rfl,ht,_,_,rfl,rfl,rfl⟩:=hus;obtain⟨ev,vk⟩:=xhk (hcond t g rfl) hfit;obtain⟨i,hi,e⟩:=xg8 wf rfl vk;refine(xaa _ rfl a _ _ _ rfl rfl hh h0 (jAEA rfl _ rfl (iteKT (hdT rfl) ?_)));refine(xaa _ rfl ma _ _ _ rfl rfl (zB (s1 _ _ hma)) rfl (xaa _ rfl a _ _ _ rfl rfl hh rfl (xaa _ rfl sa _ _ _ rfl rfl (zB (s1 _ _ hsa)) rfl ?_)));refine(xam _ _ p mk.kinds t (xba (enOf bx) _ rfl (wf.ksAt (hk0.same s1 _)) (ht.same s1 _) (KvD.en (s1 _ _ hp) (hkv.tups (Same.tups s1)) h6) ev (λu H2 s2 hu=>?_)));rw[e]at hu;obtain rfl:u=.int i:=hu;refine(jAEA rfl _ rfl ?_);have s12:=s1.trans s2;by_cases h0:i=0
  ·subst h0
   refine iteKT (by decide) ?_;refine(xaa _ rfl wa _ _ _ rfl rfl (zB (s2 _ _ hwa)) rfl ?_);have:=q H2 s12;rw[show xcv mk.kinds bx k (.cond t g)=k+1 from if_pos e]at this;exact this
  ·refine iteKF (zDF λz=>h0 (V.int.inj z)) ?_
   refine(xaa _ rfl wa _ _ _ rfl rfl (zB (s2 _ _ hwa)) rfl ?_);have:=q H2 s12;rw[show xcv mk.kinds bx k (.cond t g)=g from if_neg λz=>h0 (by rw[e]at z;exact D.int.inj z)]at this;exact this
 |_=>
  refine(xaa _ rfl a _ _ _ rfl rfl hh h0 (jAEA rfl _ rfl (iteKF (hdF (xuf (by intro _ _ e;cases e))) (iteF ?_))));exact(xaa _ rfl wa _ _ _ rfl rfl (zB hwa) rfl (q H1 s1))
theorem xgf(T:Tx K mg)(D_with_box:DefIs P w K mg base n "with_box" qap xu9)(D_worth:DefIs P w K mg base n "worth" qaf (xdg (λks=>Ev ks 21) 6)):DefIs P w K mg base (n+1) "boxes_behind" qay xvb:=by
 refine DefIs.of T.jV xgc (by walk_at"l") (λf cdv A outer s H vs Q E hr h=>?_);obtain⟨mv,rv,lv,p,kvs,bx,l,mk,bs,r,rfl,hm,wf,hrr,hp,hkv,h6,hfit,hset,htake,q⟩:=h;obtain⟨a,us,rfl,ha,hus⟩:=xla hrr;obtain⟨ma,kv,cv,hv,rfl,hma,hk0,_,_⟩:=mk_d hm;have hkl:=hkv.length
 refine⟨_,(zpn (xa6 (pR xbd (px K (pv 1) pI) pS (nM _)) (zpo (xag (pd D_with_box hr (va 2 (pc (px K (pv 1) pI) (pc (pd D_worth hr (pc (px K (pv 0) pI) (pc (px K (pv 1) pI) (v1 2) ss) ss)) pN zsc) ss))))) pQ)
   (zpn (xa6 (pR xbd (px K (pv 1) pI) pS (nM _)) (zpo (xag (pd D_with_box hr (va 2 (pc (px K (pv 1) pI) (v1 3) ss))))) pQ)
   (zpo (xag (pv 2))))),?_⟩
 have hh:SqT K H a (.str r.hd::us):=zB ha;have h0:atI (V.str r.hd::us) 0=some (.str r.hd):=xav (j:=0) rfl
 cases r with
 |set x t=>
  obtain⟨_,_,rfl,rfl,tv,_,rfl,ht,rfl⟩:=hus;obtain⟨kk,tok⟩:=hset x t rfl;obtain⟨ev,vk⟩:=xhk tok hfit;refine(xaa _ rfl a _ _ _ rfl rfl hh h0 (jAEA rfl _ rfl (iteKT (hdT rfl) ?_)));refine(xap _ rfl _ rfl a _ _ (xbf _ rfl rfl hh rfl (xaa _ rfl ma _ _ _ rfl rfl (zB hma) rfl (xaa _ rfl a _ _ _ rfl rfl hh rfl (jEA _ rfl ?_)))));refine(xam _ _ p mk.kinds t (xba (enOf bx) _ rfl (wf.ksAt hk0) ht (KvD.en hp hkv h6) ev (λu H2 s2 hu=>?_)));refine(xda p x u kvs rfl (s2 _ _ hp) ⟨by omega,λp' H3 s3 hp' h3=>?_⟩);refine q p' _ H3 (s2.trans s3) (.inr (xae s2 hp')) h3 ?_;exact(hkv.tups (Same.tups (s2.trans s3))).put (hu.same s3 _)
 |take nm c x=>
  obtain⟨_,_,rfl,rfl,_,_,rfl,rfl,_,_,rfl,rfl,rfl⟩:=hus;refine(xaa _ rfl a _ _ _ rfl rfl hh h0 (jAEA rfl _ rfl (iteKF (hdF (xsu (by intro _ _ e;cases e))) ?_)));refine(xaa _ rfl a _ _ _ rfl rfl hh h0 (jAEA rfl _ rfl (iteKT (hdT rfl) ?_)));refine(xap _ rfl _ rfl a _ _ (xbf _ rfl rfl hh rfl (xa4 _ rfl p x lv kvs (jAAA rfl hp (by omega) (λp' H3 s3 hp' h3=>?_)))));refine q p' _ H3 s3 (.inr hp') h3 ?_;exact(hkv.tups (Same.tups s3)).put ((htake nm c x rfl).same s3 _)
 |_=>
  refine(xaa _ rfl a _ _ _ rfl rfl hh h0 (jAEA rfl _ rfl (iteKF (hdF (xsu (by intro _ _ e;cases e))) ?_)));refine(xaa _ rfl a _ _ _ rfl rfl hh h0 (jAEA rfl _ rfl (iteKF (hdF (xfk (by intro _ _ _ e;cases e))) ?_)));exact(jEA _ rfl (q p kvs H (Same.refl _) (.inl rfl) hp hkv))
theorem xlo{mk:Mak}{x:Str}{hd:Hand}(h:xdy mk x=some hd):hd∈mk.hands/\hd.name=x:=⟨zMF h,by
 have:=zU h;exact z0 this⟩
theorem xqp{mk:Mak}{hd:Hand}(h:(hd.boxes.map (·.1)).Nodup):((begL mk hd).map (·.1)).Nodup:=by
 unfold begL;rw[List.map_map];exact h
theorem xeb(T:Tx K mg):DefIs P w K mg base (n+1) "own_stand" ["stand"] xhr:=by
 refine DefIs.of T.jP xi6 (by walk_at"l") (λf cdv A outer s H vs Q E hr h=>?_);obtain⟨sa,p,k,bx,rfl,⟨hsa,kvs,hp,hkv⟩,h100,q⟩:=h;refine(jEA _ (zpo (xag (xaz (pc (px K (pv 0) pI) (pc (xat xhj rfl T.kT zL (pc (px K (pv 0) pI) pN ss)) pN zsc) ss)))) ?_);refine(xaa _ rfl sa _ _ _ rfl rfl (zB hsa) rfl (xaa _ rfl sa _ _ _ rfl rfl (zB hsa) rfl (xaq p kvs rfl hp (λc hc=>⟨(by walk_at"s"),λt ht=>?_⟩))));have s1:=zA hc (.dK kvs);have s2:=zA ht (.tup [.int k,.ref c]);exact q t c _ (s1.trans s2) hc (jAEA ups kvs (s2 _ _ ups) (hkv.tups (Same.tups (s1.trans s2))))
theorem xgg(T:Tx K mg)(D_hand_of:DefIs P w K mg base n "hand_of" qac xfz)(D_nought:DefIs P w K mg base n "nought" qaq (spNu nuV 6)):DefIs P w K mg base (n+1) "begin_of" qac xk5:=by
 refine DefIs.of T.jO xk9 (by walk_at"l") (λf cdv A outer s H vs Q E hr h=>?_);obtain⟨mv,x,mk,hd,rfl,hm,mok,hf,q⟩:=h;obtain⟨hin,hnm⟩:=xlo hf;have hok:=mok.hok hd hin;refine(jEA _ (zpo (xag (xaz (pc pI (pc (xat (xcq rfl) rfl T.kT zL (pc (xbj ["x","kind","make"] [none,none,some 0] rfl (by kernel_rfl) (xa1 (K:=K) rfl (px K (pd D_hand_of hr (va 0 (v1 1))) pI)) (λ_ _ _ _=>(xbc (K:=K) (n:=2) rfl rfl (xad (pgc 0) (xad (pgc 1) xa9)))) (λ_ _ _ _=>xbp) (λ_ _ _ _=>(xaz (va 0 (pc (pd D_nought hr (pc (px K (pv 2) pI) (v1 1) ss)) pN zsc))))) pN xb2)) pN zsc) so)))) ?_);obtain⟨ma,kv,cv,hv,rfl,hma,hk0,_,_⟩:=mk_d hm;refine(xap _ rfl _ rfl _ x mk (xbr hd rfl hm hf (λu hu=>?_)));obtain⟨a,bv,rv,rfl,ha,hb,_⟩:=hd_d hu;obtain⟨ba,us,rfl,hba,hR⟩:=hb;have hl:=hR.length;rw[zLM]at hl;have h5:=hok.few;refine(xbk a _ _ _ rfl rfl (zB ha) rfl ba (jAA rfl ⟨_,zB hba⟩ ?_));refine xbo (xs:=us) (λi ys H'=>Same H H'/\∃kvs,PairsV H' ys kvs/\KvD H' kvs ((begL mk hd).take i)) (jAEA (Same.refl _) ([]) trivial (by rw[List.take_zero];trivial)) (xa2 (by omega)) (λi ys H' _ p=>zB (p.1 _ _ hba)) ?_ ?_
 ·rintro i y ys H' hy hi hly ⟨sm,kvs,hpv,hkv⟩
  obtain⟨d,hd',rd⟩:=hR.get hy;rw[zGM]at hd';obtain⟨b,hb',rfl⟩:=zMS hd';obtain⟨pb,ws,rfl,hpb,_,_,rfl,rfl,_,_,rfl,rfl,rfl⟩:=rd;have hbm:=zMG hb';refine(xaw pb _ rfl (zB (sm _ _ hpb)) rfl _ _ rfl _ (xbr _ rfl rfl (ext2 rfl rfl) (xdv ?_)));refine(xap _ rfl _ rfl ma _ _ (xbf _ rfl rfl (zB (sm _ _ hma)) rfl (jEA _ rfl (xaj kv mk.kinds b.2 rfl (hk0.same sm _) mok.wf (hok.kin b hbm) (λu H2 s2 r2=>⟨(by walk_at"s"),λt ht=>nxtG hi hly ?_⟩)))));have s3:=zA ht (.tup [.str b.1,u]);refine(jAEA (sm.trans (s2.trans s3)) (kvs++[(Sum.inr b.1,u)]) ?_ ?_)
  ·exact(hpv.same (Same.tups (s2.trans s3))).append ⟨(jEA t rfl ups),trivial⟩
  ·have e:(begL mk hd).take (i+1)=(begL mk hd).take i++[(b.1,nuV 7 mk.kinds b.2)]:=by
    rw[zTA];unfold begL;rw[zGM,hb'];rfl
   rw[e];exact(hkv.tups (Same.tups (s2.trans s3))).snoc (r2.same s3 _)
 ·rintro ys H' hly ⟨sm,kvs,hpv,hkv⟩ D hD
  have sD:=zA hD (.lst ys);have hbl:(begL mk hd).length=us.length:=by unfold begL;rw[zLM,hl]
  rw[zTL (by omega)]at hkv;refine(xcf D ys kvs rfl ups (hpv.same (Same.tups sD)) (λc hc=>⟨(by walk_at"s"),λt ht=>?_⟩))
  have hkd:(kvs.map (·.1)).Nodup:=by
   rw[hkv.keys];exact xj6 (xqp hok.nd)
  rw[xdr hkd]at ht⊢;have s3:=zA hc (.dK kvs);have s4:=zA ht (.tup [.int 0,.ref c]);have sA:=sD.trans (s3.trans s4);exact q t c _ (sm.trans sA) (xae (sm.trans sD) hc) (jAEA ups kvs (s4 _ _ ups) (hkv.tups (Same.tups sA)))
theorem xfn(T:Tx K mg):DefIs P w K mg base (n+1) "own_lists" ["lists"] xk1:=by
 refine DefIs.of T.jQ xi7 (by walk_at"l") (λf cdv A outer s H vs Q E hr h=>?_);obtain⟨d,kvs,cs,L,rfl,hd,hls,hnd,h100,q⟩:=h;have hlen:=hls.lens;refine(jEA _ (zpo (xag (xat (xcq rfl) rfl T.kT zL (pc (xow (xbj ["name","each"] [none,none] rfl (by kernel_rfl) (xq1 (pv 0)) (λ_ _ _ _=>(xbc (K:=K) (n:=2) rfl rfl (xad (pgc 0) (xad (pgc 1) xa9)))) (λ_ _ _ _=>xbp) (λ_ _ _ _=>(xaz (va 0 (pc (xat (xfb (K:=K) rfl) rfl T.kY zM (v1 1)) pN zsc)))))) pN xb2)))) ?_);refine(xa8 _ rfl d kvs rfl hd (λo nz=>?_));have hdn:∀{H':Hp},Same (upd H d (.frz o (.dK kvs))) H'->∀b u,H b=some u->b≠d->H' b=some u:=λs b u e n=>s b u (by rw[xai n];exact e);have tps:∀{H':Hp},Same (upd H d (.frz o (.dK kvs))) H'->∀b vs,H b=some (.tup vs)->H' b=some (.tup vs):=λs b vs e=>hdn s b _ e λz=>by subst z;rw[hd]at e;cases e
 have lsf:∀{H':Hp},Same (upd H d (.frz o (.dK kvs))) H'->LsAt H' kvs cs L:=λs=>hls.keep (tps s) λa ha us e=>hdn s a _ e λz=>by subst z;rw[hd]at e;cases e
 have frn:∀{H':Hp},Same (upd H d (.frz o (.dK kvs))) H'->∀{b:Addr},H' b=none->H b=none:=λ{H'} s {b} e=>by
  cases h:H b with
  |none=>rfl
  |some u=>
   by_cases hb:b=d
   ·rw[hb,s _ _ ups]at e;cases e
   ·rw[hdn s b u h hb]at e;cases e
 refine xnx (λi ys H'=>Same (upd H d (.frz o (.dK kvs))) H'/\∃kv2 L2,PairsV H' ys kv2/\LsAt H' kv2 (cs.take i) L2/\L2.Nodup/\∀a∈L2,H a=none) (jAE (Same.refl _) ([]) (xbr ([]) trivial (by rw[List.take_zero];trivial) List.nodup_nil (λ_ h=>nomatch h))) (xa2 (by omega)) (λi ys H' _ p=>p.1 _ _ ups) ?_ ?_
 ·rintro i kv p ys H' hkv hi hly hp ⟨sm,kv2,L2,hpv,hl2,nd2,fr2⟩
  obtain⟨c,a,us,hc,rfl,ha,hus⟩:=(lsf sm).idx hkv;have sp:=zA hp (.tup [kV (Sum.inr c.1),.ref a]);refine(xaw p _ rfl (zB ups) rfl _ _ rfl _ (xbr _ rfl rfl (ext2 rfl rfl) (xdv ?_)));refine(xb3 _ rfl _ rfl a us rfl (.inl (zC (sp _ _ ha))) (λl hl=>⟨(by walk_at"s"),λt ht=>nxtG hi hly ?_⟩));have sl:=zA hl (.lst us);have st:=zA ht (.tup [.str c.1,.ref l]);have sA:=sp.trans (sl.trans st);have hl':=xae sp hl;refine(jAE (sm.trans sA) (kv2++[(Sum.inr c.1,.ref l)]) (xbr (L2++[l]) ((hpv.same (Same.tups sA)).append ⟨(jEA t rfl ups),trivial⟩) ?_ ?_ ?_))
  ·rw[zTA,hc]
   exact(hl2.same sA).snoc (c:=c.1) (a:=l) (us:=us) (st _ _ ups) (hus.same sA _)
  ·refine List.nodup_append.mpr (jAA nd2 (by simp) (λx hx y hy e=>?_))
   rw[zMO hy]at e;obtain⟨zs,hz⟩:=hl2.there x hx;rw[e,hl']at hz;cases hz
  ·intro x hx
   rcases zMA hx with hx |hx
   ·exact fr2 x hx
   ·rw[zMO hx]
    exact frn sm hl'
 ·rintro ys H' hly ⟨sm,kv2,L2,hpv,hl2,nd2,fr2⟩ D hD
  rw[hlen.1,zTL (zZ _)]at hl2;have sD:=zA hD (.lst ys);refine(xco d o kvs (sD _ _ (sm _ _ ups)) nz ?_);have hDd:D≠d:=λz=>by rw[z,sm _ _ ups]at hD;cases hD
  have tp2:∀b vs,H' b=some (.tup vs)->upd (upd H' D (.lst ys)) d (.dK kvs) b=some (.tup vs):=λb vs e=>by
   rw[xai (λz=>by rw[z,sm _ _ ups]at e;cases e)];exact sD _ _ e
  refine(xcf D ys kv2 rfl (by rw[xai hDd,ups]) (hpv.same tp2) (λc hc=>?_))
  have hkd:(kv2.map (·.1)).Nodup:=by
   rw[hl2.keys];exact xj6 hnd
  rw[xdr hkd];have sc:=zA hc (.dK kv2);have hcd:c≠d:=λz=>by rw[z,ups]at hc;cases hc
  have hcD:c≠D:=λz=>by rw[z,xai hDd,ups]at hc;cases hc
  have hc':H' c=none:=by
   rw[xai hcd,xai hcD]at hc;exact hc
  have all:∀b u,H' b=some u->b≠d->upd (upd (upd H' D (.lst ys)) d (.dK kvs)) c (.dK kv2) b=some u:=λb u e n=>sc _ _ (by rw[xai n];exact sD _ _ e);refine q c kv2 L2 _ (λb u e=>?_) (frn sm hc') fr2 (List.nodup_cons.mpr ⟨λh=>?_,nd2⟩) ups ?_
  ·by_cases hb:b=d
   ·subst hb
    rw[hd]at e;cases e;exact sc _ _ ups
   ·exact all b u (hdn sm b u e hb) hb
  ·obtain⟨zs,hz⟩:=hl2.there c h
   rw[hc']at hz;cases hz
  ·refine hl2.keep (λb vs e=>all b _ e λz=>by rw[z,sm _ _ ups]at e;cases e) λa ha us e=>all a _ e λz=>by rw[z,sm _ _ ups]at e;cases e
structure Here(H:Hp)(mv:V)(x:Str)(sa p:Addr)(k:Nat)(bx:List (Str×D))(mk:Mak)(hd:Hand)(r:Row):Prop where
 md:RelD H mv mk.d
 mok:MakOk mk
 hf:xdy mk x=some hd
 st:StAt H sa p k bx
 few:bx.length<=6
 fit:FitB mk.kinds hd.boxes (enOf bx)
 row:hd.rows[k]?=some r
theorem Here.ok{H:Hp}{b:V}{x:Str}{a p:Addr}{k:Nat}{bx:List (Str×D)}{mk:Mak}{hd:Hand}{r:Row}(h:Here H b x a p k bx mk hd r):xfw mk.kinds mk.chans x hd.boxes hd.rows.length r:=by
 have hi:=xlo h.hf;have:=(h.mok.hok hd hi.1).ok r (zMG h.row)
 rwa[hi.2]at this
def xhn:Sp:=λvs H Q _=>∃(mv lv:V) (x:Str) (sa p:Addr) (k:Nat) (bx:List (Str×D)) (l:D) (mk:Mak) (hd:Hand) (r:Row),vs=[mv,.str x,.ref sa,lv]/\Here H mv x sa p k bx mk hd r ∧
 ((r=.fin/\Q .non H)\/(∃n c y,r=.take n c y/\lv=.non/\Q .non H)\/(r≠.fin/\(∀n c y,r=.take n c y->lv≠.non/\RelD H lv l)/\∀a' p' H',Same H H'->p'=p\/H p'=none->StAt H' a' p' (xcv mk.kinds bx k r) (xdq mk.kinds bx l r)->Q (.ref a') H'))
def xxu(H:Hp)(Q:VK)(mk:Mak)(k:Nat)(bx:List (Str×D))(p ca ga ta:Addr):Row->Prop
 |.fin=>Q .non H
 |.take _ c x=>∃kvs la us ds,H ca=some (.dK kvs)/\valV kvs (Sum.inr c)=some (.ref la)/\H la=some (.lst us)/\RelDs H us ds/\(ds=[]->Q .non H)/\∀d ds',ds=d::ds'->∀a' p' H',Chg la us.tail H H'->p'=p\/H p'=none->StAt H' a' p' (k+1) (putA bx x d)->Q (.ref a') H'
 |.send c t=>∃kvs la us,H ga=some (.dK kvs)/\valV kvs (Sum.inr c)=some (.ref la)/\H la=some (.lst us)/\us.length<=1000/\∀a' p' u H',Chg la (us++[u]) H H'->RelD H' u (wv mk.kinds bx t)->p'=p\/H p'=none->StAt H' a' p' (k+1) bx->Q (.ref a') H'
 |.tell t=>∃us,H ta=some (.lst us)/\us.length<=1000/\∀a' p' u H',Chg ta (us++[u]) H H'->RelD H' u (wv mk.kinds bx t)->p'=p\/H p'=none->StAt H' a' p' (k+1) bx->Q (.ref a') H'
 |r=>∀a' p' H',Same H H'->p'=p\/H p'=none->StAt H' a' p' (xcv mk.kinds bx k r) (xdq mk.kinds bx (.int 0) r)->Q (.ref a') H'
def xmb:Sp:=λvs H Q _=>∃(mv:V) (x:Str) (sa ca ga ta p:Addr) (k:Nat) (bx:List (Str×D)) (mk:Mak) (hd:Hand) (r:Row),vs=[mv,.str x,.ref sa,.ref ca,.ref ga,.ref ta]/\Here H mv x sa p k bx mk hd r/\xxu H Q mk k bx p ca ga ta r
theorem xtj{H:Hp}{d:D}{v:V}(h:RelD H v d):v≠.non:=by
 intro e;subst e
 cases d with
 |int i=>exact nomatch h
 |str x=>exact nomatch h
 |tup ds=>obtain⟨_,_,e,_⟩:=h;exact nomatch e
theorem xpa(T:Tx K mg)(o:DefIs P w K mg base n "row_at" qal xho)(i:DefIs P w K mg base n "row_behind" qa8 xsi)(b:DefIs P w K mg base n "boxes_behind" qay xvb):DefIs P w K mg base (n+1) "stride" qax xhn:=by
 refine DefIs.of T.jT sc_stride (by walk_at"l") (λf a7 A outer s H vs Q E hr h=>?_);obtain⟨mv,lv,x,sa,p,k,bx,l,mk,hd,r,rfl,m,q⟩:=h;have nd:=sc_stride.nd
 refine⟨_,(zpn (psn 4 nd (pd o hr (va 0 (va 1 (v1 2)))))
   (zpn (xa6 (PW.pt (xjd (pR xbd (px K (pv 4) pI) pS (nM _)) (xha (PW.pt (xcr (pR xbd (px K (pv 4) pI) pS (nM _)) (xb8 (pR xjh (pv 3) xer (nM _)))))))) (zpo (xag xer)) pQ)
   (zpo (xag (xaz (pc (pd i hr (va 0 (va 4 (v1 2)))) (pc (pd b hr (va 0 (va 4 (pc (px K (pv 2) pI) (v1 3) ss)))) pN zsc) zsc)))))),xab λR1 a5=>?_⟩
 refine(xbw _ rfl _ rfl _ rfl mv x (xam sa p k mk hd (xb1 r rfl m.md m.hf m.st.1 m.row (λrv U=>a5 _ _ (xab λR2 a4=>?_)))));have C:=U;obtain⟨a,us,rfl,ha,a6⟩:=xla U;have J:SqT K H a (.str r.hd::us):=zB ha;have h0:atI (V.str r.hd::us) 0=some (.str r.hd):=xav (j:=0) rfl;have Y:=m.ok;rcases q with⟨rfl,q⟩ |⟨nn,c,y,rfl,rfl,q⟩ |⟨Z,hl,q⟩
 ·exact(xaa _ rfl a _ _ _ rfl rfl J h0 (jAEA rfl _ rfl (iteKT (hdT rfl) (iteT q))))
 ·refine(xaa _ rfl a _ _ _ rfl rfl J h0 (jAEA rfl _ rfl (iteKF (hdF (xp0 (by intro e;cases e))) ?_)))
  exact(xaa _ rfl a _ _ _ rfl rfl J h0 (jAEA rfl _ rfl (iteKT (hdT rfl) (xa0 _ rfl rfl _ rfl (iteKT (zDT rfl) q)))))
 ·have O:R2 [some mv,some (.str x),some (.ref sa),some lv,some (.ref a)] H:=by
   refine a4 _ _ ?_;refine(xbw _ rfl _ rfl _ rfl mv (.ref a) (xam sa p k bx mk (xba hd.boxes r rfl m.md m.mok.wf C Z (jAAA m.st m.few m.fit ⟨λt g e=>?_,λH1 z=>?_⟩))))
   ·subst e
    exact Y.1
   obtain⟨a0,kvs,hp,a2⟩:=m.st;refine(xbw _ rfl _ rfl _ rfl sa _ (xct _ _ rfl rfl (zB (z _ _ a0)) rfl (jEA _ rfl ?_)));refine(xam mv (.ref a) lv p kvs (xaf bx l mk hd.boxes r rfl (m.md.same z _) m.mok.wf (C.same z _) (z _ _ hp) (jAAA (a2.tups (Same.tups z)) m.few m.fit (jAA (λu t e=>?_) (λG I u e=>(hl G I u e).2.same z _) (λp' M H2 s2 a1 h2 a3=>⟨(by walk_at"s"),λt ht=>?_⟩)))))
   ·subst e
    obtain⟨kk,_,h⟩:=Y;exact⟨kk,h⟩
   have s3:=zA ht (.tup [.int (xcv mk.kinds bx k r:Nat),.ref p']);exact q t p' _ (z.trans (s2.trans s3)) (a1.imp id λh=>xae z h) (jAEA ups M (s3 _ _ h2) (a3.tups (Same.tups s3)))
  refine(xaa _ rfl a _ _ _ rfl rfl J h0 (jAEA rfl _ rfl (iteKF (hdF (xp0 Z)) ?_)));by_cases ht:∃G I u,r=.take G I u
  ·obtain⟨G,I,u,rfl⟩:=ht
   exact(xaa _ rfl a _ _ _ rfl rfl J h0 (jAEA rfl _ rfl (iteKT (hdT rfl) (xa0 _ rfl rfl _ rfl (iteKF (zDF (hl G I u rfl).1) O)))))
  ·exact(xaa _ rfl a _ _ _ rfl rfl J h0 (jAEA rfl _ rfl (iteKF (hdF (xfk λG I u e=>ht (jEEE G I u e))) (iteF O))))
theorem xt0(T:Tx K mg)(O:DefIs P w K mg base n "row_at" qal xho)(M:DefIs P w K mg base n "stride" qax xhn)(g:DefIs P w K mg base n "first_letter" qaw xoi)(o:DefIs P w K mg base n "worth" qaf (xdg (λks=>Ev ks 21) 6)):DefIs P w K mg base (n+1) "done" qar xmb:=by
 refine DefIs.of T.jW sc_done (by walk_at"l") (λf ak A outer s H vs Q E hr h=>?_);obtain⟨mv,x,sa,ca,ga,ta,p,k,bx,mk,hd,r,rfl,l,q⟩:=h;have nd:=sc_done.nd;have hu:=xep hr
 refine⟨_,(zpn (psn 6 nd (pd O hr (va 0 (va 1 (v1 2)))))
   (zpn (psn 7 nd (pd M hr (va 0 (va 1 (va 2 (pc (pd g hr (va 6 (v1 3))) pN zsc))))))
   (zpn (xa6 (pR xjh (pv 7) xer (nM _)) (zpo (xag xer)) pQ)
   (zpn (xa6 (pR xbd (px K (pv 6) pI) pS (nM _)) (zpo (xb0 (xdj zD PySem.F.slot_list_pop PySem.F.type_list_pop xie (xcs hu (pv 3) (px K (pv 6) pI) (λ_ _=>rfl)) (pc pI pN so)))) (zpo (xa6 (pR xbd (px K (pv 6) pI) pS (nM _)) (zpo (xb0 (xdj zD zH zG xbn (xcs hu (pv 4) (px K (pv 6) pI) (λ_ _=>rfl)) (pc (pd o hr (pc (px K (pv 0) pI) (pc (px K (pv 6) pI) (pc (px K (pv 2) pI) pN ss) ss) ss)) pN zsc)))) (zpo (xa6 (pR xbd (px K (pv 6) pI) pS (nM _)) (zpo (xb0 (xdj zD zH zG xbn (pv 5) (pc (pd o hr (pc (px K (pv 0) pI) (pc (px K (pv 6) pI) (pc (px K (pv 2) pI) pN ss) ss) ss)) pN zsc)))) pQ)))))
   (zpo (xag (pv 7))))))),xab λR1 ah=>?_⟩
 refine(xbw _ rfl _ rfl _ rfl mv x (xam sa p k mk hd (xb1 r rfl l.md l.hf l.st.1 l.row (λrv I=>ah _ _ (xab λR2 Z=>?_)))));have a7:=l.ok;obtain⟨a,us,rfl,ha,a0⟩:=xla (id I);have J:∀{H'},Same H H'->SqT K H' a (.str r.hd::us):=λs=>zB (s _ _ ha);have h0:atI (V.str r.hd::us) 0=some (.str r.hd):=xav (j:=0) rfl
 have wk:∀{H1 t kk u},Same H H1->TmOk mk.kinds 21 hd.boxes t kk->RelD H u t->∃(ma:Addr) (kv cv hv:V),mv=.ref ma/\H1 ma=some (.tup [kv,cv,hv])/\KsAt H1 kv mk.kinds/\RelD H1 u t/\EnAt H1 p 6 (enOf bx)/\Ev mk.kinds 21 (enOf bx) t (wv mk.kinds bx t):=λ{H1 t kk u} s1 tok hu=>by
  obtain⟨ma,kv,cv,hv,e,Y,af,_,_⟩:=mk_d l.md;obtain⟨_,kvs,hp,ae⟩:=l.st;exact(xay ma kv cv hv e (s1 _ _ Y) (l.mok.wf.ksAt (af.same s1 _)) (hu.same s1 _) (KvD.en (s1 _ _ hp) (ae.tups (Same.tups s1)) l.few) ((xhk tok l.fit).1))
 have shut:Q .non H->R2 [some mv,some (.str x),some (.ref sa),some (.ref ca),some (.ref ga),some (.ref ta),some (.ref a),some .non] H:=λq=>Z _ _ (xab λR3 m=>(xa0 _ rfl rfl _ rfl (iteKT (zDT rfl) q)))
 cases r with
 |fin=>
  exact(xax _ rfl _ rfl _ rfl _ rfl _ rfl (xco (.ref a) ca (.fin) rfl I (xam mv (.non) x sa p (xam k bx (.int 0) mk hd (jEAA (.fin) rfl l (.inl ⟨rfl,shut q⟩))))))
 | take nn c y=>
  obtain⟨kvs,la,ls,ds,ab,hv,b,a9,qn,qs⟩:=q;obtain⟨_,_,rfl,rfl,_,_,rfl,rfl,_,_,rfl,rfl,rfl⟩:=a0;refine(xax _ rfl _ rfl _ rfl _ rfl _ rfl (xco (.ref a) ca (.take nn c y) rfl I (xcf kvs la ls ab hv b ?_)))
  cases ds with
  |nil=>
   obtain rfl:ls=[]:=a9;exact(xam mv (.non) x sa p (xam k bx (.int 0) mk hd (jEAA _ rfl l (.inr (.inl (xco nn c y rfl rfl (shut (qn rfl))))))))
  | cons d ds=>
   obtain⟨lv,a6,rfl,a8,ai⟩:=a9;refine(xam mv lv x sa p (xam k bx d mk hd (jEAA _ rfl l (.inr (.inr (jAA (by intro e;cases e) (λ_ _ _ _=>⟨xtj a8,a8⟩) (λa' p' H' s' C st'=>?_)))))));refine Z _ _ (xab λR3 m=>(xa0 _ rfl rfl _ rfl (iteKF (zDF λz=>nomatch z) (m _ _ (xab λR4 G=>?_)))))
   have gd:DGet H' ca (.str c) (some (.ref la)):=by
    have:=DGet.rd (k:=Sum.inr c) (.inl (s' _ _ ab));rw[hv]at this;exact this
   refine(xaa _ rfl a _ _ _ rfl rfl (J s') h0 (jAEA rfl _ rfl (iteKT (hdT rfl) ?_)));refine(xap _ rfl _ rfl a _ _ (xbf _ rfl rfl (J s') rfl (xb5 ca _ rfl gd (.inl (jAE rfl _ (zC (s' _ _ b)))) (xaf la _ 0 0 lv rfl rfl (s' _ _ b) (by decide) (by decide) (jAA (by simp[seqIndex?]) rfl ?_)))));refine G _ _ (jEA _ rfl ?_);have ch:Chg la a6 H' (upd H' la (.lst a6)):=Chg.upd;exact qs d ds rfl a' p' _ (Chg.pre s' ch) C (st'.chg (s' _ _ b) ch)
 | send c t=>
  obtain⟨kvs,la,ls,ag,hv,b,aa,qs⟩:=q;obtain⟨_,_,rfl,rfl,tv,_,rfl,a2,rfl⟩:=a0;obtain⟨aj,_,_,_,tok⟩:=a7;refine(xax _ rfl _ rfl _ rfl _ rfl _ rfl (xco (.ref a) ca (.send c t) rfl I ?_));refine(xam mv (.non) x sa p (xam k bx (.int 0) mk hd (jEAA _ rfl l (.inr (.inr (jAA (by intro e;cases e) (λ_ _ _ e=>by cases e) (λa' p' H' s' C st'=>?_)))))));refine Z _ _ (xab λR3 m=>(xa0 _ rfl rfl _ rfl (iteKF (zDF λz=>nomatch z) (m _ _ (xab λR4 G=>?_)))))
  have gd:DGet H' ga (.str c) (some (.ref la)):=by
   have:=DGet.rd (k:=Sum.inr c) (.inl (s' _ _ ag));rw[hv]at this;exact this
  obtain⟨ma,kv,cv,ac,rfl,Y,a3,U,a5,a4⟩:=wk s' tok a2;refine(xaa _ rfl a _ _ _ rfl rfl (J s') h0 (jAEA rfl _ rfl (iteKF (hdF (xfk (by intro _ _ _ e;cases e))) ?_)));refine(xaa _ rfl a _ _ _ rfl rfl (J s') h0 (jAEA rfl _ rfl (iteKT (hdT rfl) ?_)));refine(xap _ rfl _ rfl a _ _ (xbf _ rfl rfl (J s') rfl (xb5 ga _ rfl gd (.inl (jAE rfl _ (zC (s' _ _ b)))) ?_)));refine(xaa _ rfl ma _ _ _ rfl rfl (zB Y) rfl (xaa _ rfl a _ _ _ rfl rfl (J s') rfl (xaa _ rfl sa _ _ _ rfl rfl (zB (s' _ _ l.st.1)) rfl ?_)));refine(xam _ _ p mk.kinds t (xba (enOf bx) _ rfl a3 U a5 a4 (λu H2 s2 a1=>?_)));have i:=s'.trans s2;refine(xaj la _ u rfl rfl (i _ _ b) (xa2 (by omega)) (G _ _ (jEA _ rfl ?_)));have ch:Chg la (ls++[u]) H2 (upd H2 la (.lst (ls++[u]))):=Chg.upd;exact qs a' p' u _ (Chg.pre i ch) (a1.tups (ch.tups (i _ _ b)) _) C ((st'.same s2).chg (i _ _ b) ch)
 |tell t=>
  obtain⟨ls,b,aa,qs⟩:=q;obtain⟨tv,_,rfl,a2,rfl⟩:=a0;refine(xax _ rfl _ rfl _ rfl _ rfl _ rfl (xco (.ref a) ca (.tell t) rfl I ?_));refine(xam mv (.non) x sa p (xam k bx (.int 0) mk hd (jEAA _ rfl l (.inr (.inr (jAA (by intro e;cases e) (λ_ _ _ e=>by cases e) (λa' p' H' s' C st'=>?_)))))));refine Z _ _ (xab λR3 m=>(xa0 _ rfl rfl _ rfl (iteKF (zDF λz=>nomatch z) (m _ _ (xab λR4 G=>?_)))));obtain⟨ma,kv,cv,ac,rfl,Y,a3,U,a5,a4⟩:=wk s' a7 a2;refine(xaa _ rfl a _ _ _ rfl rfl (J s') h0 (jAEA rfl _ rfl (iteKF (hdF (xfk (by intro _ _ _ e;cases e))) ?_)));refine(xaa _ rfl a _ _ _ rfl rfl (J s') h0 (jAEA rfl _ rfl (iteKF (hdF (xpz (by intro _ _ e;cases e))) ?_)));refine(xaa _ rfl a _ _ _ rfl rfl (J s') h0 (jAEA rfl _ rfl (iteKT (hdT rfl) ?_)));refine(jEAA _ rfl (.inl (jAE rfl _ (zC (s' _ _ b)))) ?_);refine(xaa _ rfl ma _ _ _ rfl rfl (zB Y) rfl (xaa _ rfl a _ _ _ rfl rfl (J s') rfl (xaa _ rfl sa _ _ _ rfl rfl (zB (s' _ _ l.st.1)) rfl ?_)));refine(xam _ _ p mk.kinds t (xba (enOf bx) _ rfl a3 U a5 a4 (λu H2 s2 a1=>?_)));have i:=s'.trans s2;refine(xaj ta _ u rfl rfl (i _ _ b) (xa2 (by omega)) (G _ _ (jEA _ rfl ?_)));have ch:Chg ta (ls++[u]) H2 (upd H2 ta (.lst (ls++[u]))):=Chg.upd;exact qs a' p' u _ (Chg.pre i ch) (a1.tups (ch.tups (i _ _ b)) _) C ((st'.same s2).chg (i _ _ b) ch)
 |_=>
  refine(xax _ rfl _ rfl _ rfl _ rfl _ rfl (xco (.ref a) ca _ rfl I ?_));refine(xam mv (.non) x sa p (xam k bx (.int 0) mk hd (jEAA _ rfl l (.inr (.inr (jAA (by intro e;cases e) (λ_ _ _ e=>by cases e) (λa' p' H' s' C st'=>?_)))))));refine Z _ _ (xab λR3 m=>(xa0 _ rfl rfl _ rfl (iteKF (zDF λz=>nomatch z) (m _ _ (xab λR4 G=>?_)))));refine(xaa _ rfl a _ _ _ rfl rfl (J s') h0 (jAEA rfl _ rfl (iteKF (hdF (xfk (by intro _ _ _ e;cases e))) ?_)));refine(xaa _ rfl a _ _ _ rfl rfl (J s') h0 (jAEA rfl _ rfl (iteKF (hdF (xpz (by intro _ _ e;cases e))) ?_)));refine(xaa _ rfl a _ _ _ rfl rfl (J s') h0 (jAEA rfl _ rfl (iteKF (hdF (xue (by intro _ e;cases e))) ?_)));exact G _ _ (jEA _ rfl (q a' p' H' s' C st'))
structure HsHere(K:Fg)(H:Hp)(x:Addr)(mv:V)(a:HsA)(s:HSt)(mk:Mak)(N:Nat):Prop where
 at_:HsAt H (ad K "Plain") x mv mk a s
 md:RelD H mv mk.d
 mok:MakOk mk
 ok:HOk mk s N
theorem HsHere.same{K:Fg}{H c:Hp}{x:Addr}{b:V}{a:HsA}{s:HSt}{mk:Mak}{N:Nat}(l:HsHere K H x b a s mk N)(q:Same H c):HsHere K c x b a s mk N:=⟨l.at_.same q,l.md.same q _,l.mok,l.ok⟩
structure HFr(mk:Mak)(x:Addr)(a a':HsA)(H H':Hp):Prop where
 fr:∀b o,H b=some o->¬a.F mk x b->H' b=some o
 tp:∀b vs,H b=some (.tup vs)->H' b=some (.tup vs)
 nw:∀b,a'.F mk x b->a.F mk x b\/H b=none
theorem HFr.refl{mk:Mak}{x:Addr}{a:HsA}{H:Hp}:HFr mk x a a H H:=⟨λ_ _ e _=>e,λ_ _ e=>e,λ_ h=>.inl h⟩
def xhq(K:Fg):Sp:=λvs H Q _=>∃(x:Addr) (mv:V) (h:Str) (a:HsA) (s:HSt) (mk:Mak),vs=[.ref x,.str h]/\HsAt H (ad K "Plain") x mv mk a s/\h∈hn mk/\Q (.int (s.ct h:Nat)) H
def xky(K:Fg):Sp:=λvs H Q _=>∃(x:Addr) (mv:V) (h:Str) (a:HsA) (s:HSt) (mk:Mak),vs=[.ref x,.str h]/\HsAt H (ad K "Plain") x mv mk a s/\h∈hn mk/\∀l us H',Same H H'->H l=none->H' l=some (.lst us)->RelDs H' us (s.tl h)->Q (.ref l) H'
def xhp(K:Fg):Sp:=λvs H Q _=>∃(x:Addr) (mv:V) (c:Str) (a:HsA) (s:HSt) (mk:Mak),vs=[.ref x,.str c]/\HsAt H (ad K "Plain") x mv mk a s/\c∈cn mk/\∀l us H',Same H H'->H l=none->H' l=some (.lst us)->RelDs H' us (s.bt c)->Q (.ref l) H'
def xfy(K:Fg):Sp:=λvs H Q _=>∃(x:Addr) (mv:V) (h:Str) (a:HsA) (s:HSt) (mk:Mak),vs=[.ref x,.str h]/\HsAt H (ad K "Plain") x mv mk a s/\h∈hn mk/\(s.sd h).2.length<=100/\∀sa' p' H',Same H H'->H p'=none->StAt H' sa' p' (s.sd h).1 (s.sd h).2->Q (.ref sa') H'
def xkz(K:Fg):Sp:=λvs H Q _=>∃(x:Addr) (mv:V) (a:HsA) (s:HSt) (mk:Mak) (N:Nat) (hd:Hand) (r:Row),vs=[.ref x,.str hd.name]/\HsHere K H x mv a s mk N/\hd∈mk.hands/\hd.rows[(s.sd hd.name).1]?=some r/\N<=900/\(r.shutF s.bt=true->Q (.bl false) H) ∧
 (r.shutF s.bt=false->∀a' H',HFr mk x a a' H H'->HsHere K H' x mv a' (s.go mk.kinds hd.name r) mk (N+1)->Q (.bl true) H')
theorem gdK{H:Hp}{d:Addr}{ns:List Str}{f:Str->V}{h:Str}(e:H d=some (.dK (mapK ns f)))(a:h∈ns):DGet H d (.str h) (some (f h)):=by
 have:=DGet.rd (k:=Sum.inr h) (.inl e);rw[xf2 a]at this;exact this
theorem xet(T:Tx K b):MethIs P w K b base (n+1) (ad K "Plain") "count" qab [[]] (xhq K):=by
 refine MethIs.of T.uL xg1 (λvs H Q E h=>?_) (λf m A outer s H vs Q E i h=>?_)
 ·obtain⟨_,_,_,_,_,_,rfl,_⟩:=h
  rfl
 obtain⟨x,o,h,a,st,mk,rfl,l,j,q⟩:=h;have g:=xep i;obtain⟨fs,e,c⟩:=l.ob;refine(jEA _ (zpo (xag (xcs g (xck (pv 0) rfl) (pv 1) (λ_ _=>rfl)))) ?_);exact(xa4 _ rfl x _ _ fs (xch _ rfl e T.uC.cl (T.uC.no _ (by simp)) c.ct _ rfl a.cd _ (jAA rfl (gdK l.inn.hcd j) q)))
theorem xe6(T:Tx K i):MethIs P w K i base (n+1) (ad K "Plain") "told" qab [[]] (xky K):=by
 refine MethIs.of T.uJ xhw (λvs H Q E h=>?_) (λf y A outer s H vs Q E p h=>?_)
 ·obtain⟨_,_,_,_,_,_,rfl,_⟩:=h
  rfl
 obtain⟨x,z,h,a,st,mk,rfl,l,e,q⟩:=h;have o:=xep p;obtain⟨fs,m,j⟩:=l.ob;obtain⟨us,u,r⟩:=l.inn.tel h e;refine(jEA _ (zpo (xag (xat xb4 rfl T.kY zM (pc (xcs o (xck (pv 0) rfl) (pv 1) (λ_ _=>rfl)) pN ss)))) ?_);refine(xa4 _ rfl x _ _ fs (xch _ rfl m T.uC.cl (T.uC.no _ (by simp)) j.tl _ rfl a.td _ (jAA rfl (gdK l.inn.htd e) (xaq (a.ta h) us rfl (.inl (zC u)) (λb g=>?_)))));have c:=zA g (.lst us);exact q b us _ c g ups (r.same c _)
theorem xd6(T:Tx K j):MethIs P w K j base (n+1) (ad K "Plain") "letters" qau [[]] (xhp K):=by
 refine MethIs.of T.uK xfs (λvs H Q E h=>?_) (λf z A outer s H vs Q E r h=>?_)
 ·obtain⟨_,_,_,_,_,_,rfl,_⟩:=h
  rfl
 obtain⟨x,C,h,a,st,mk,rfl,l,g,q⟩:=h;have p:=xep r;obtain⟨fs,o,m⟩:=l.ob;obtain⟨us,y,u⟩:=l.inn.let_ h g;refine(jEA _ (zpo (xag (xat xb4 rfl T.kY zM (pc (xcs p (xck (pv 0) rfl) (pv 1) (λ_ _=>rfl)) pN ss)))) ?_);refine(xa4 _ rfl x _ _ fs (xch _ rfl o T.uC.cl (T.uC.no _ (by simp)) m.bt _ rfl a.bd _ (jAA rfl (gdK l.inn.hbd g) (xaq (a.la h) us rfl (.inl (zC y)) (λb i=>?_)))));have e:=zA i (.lst us);exact q b us _ e i ups (u.same e _)
theorem xg4(T:Tx K e)(b:DefIs P w K e base n "own_stand" ["stand"] xhr):MethIs P w K e base (n+1) (ad K "Plain") "stand" qab [[]] (xfy K):=by
 refine MethIs.of T.uI xg0 (λvs H Q E h=>?_) (λf p A outer s H vs Q E g h=>?_)
 ·obtain⟨_,_,_,_,_,_,rfl,_⟩:=h
  rfl
 obtain⟨x,r,h,a,st,mk,rfl,l,i,c,q⟩:=h;have o:=xep g;obtain⟨fs,m,j⟩:=l.ob;refine(jEA _ (zpo (xag (pd b g (pc (xcs o (xck (pv 0) rfl) (pv 1) (λ_ _=>rfl)) pN ss)))) ?_);exact(xa4 _ rfl x _ _ fs (xch _ rfl m T.uC.cl (T.uC.no _ (by simp)) j.st _ rfl a.sd _ (jAA rfl (gdK l.inn.hsd i) (xda (a.sa h) (a.pa h) ((st.sd h).1) ((st.sd h).2) rfl (l.inn.sta h i) ⟨c,q⟩))))
theorem HsHere.here{H:Hp}{x:Addr}{c:V}{a:HsA}{s:HSt}{mk:Mak}{N:Nat}(l:HsHere K H x c a s mk N){hd:Hand}(b:hd∈mk.hands){r:Row}(e:hd.rows[(s.sd hd.name).1]?=some r):Here H c hd.name (a.sa hd.name) (a.pa hd.name) (s.sd hd.name).1 (s.sd hd.name).2 mk hd r:=
 ⟨l.md,l.mok,xec l.mok b,l.at_.inn.sta _ (qG b),by have:=l.ok.bxlen l.mok b;omega,l.ok.fit hd b,e⟩
theorem xh8(T:Tx K mg)(a2:DefIs P w K mg base n "done" qar xmb):MethIs P w K mg base (n+1) (ad K "Plain") "step" qab [[]] (xkz K):=by
 refine MethIs.of T.uN sc_Plain_step (λvs H Q E h=>?_) (λf ar A outer s H vs Q E hr h=>?_)
 ·obtain⟨_,_,_,_,_,_,_,_,rfl,_⟩:=h
  rfl
 obtain⟨x,mv,a,st,mk,N,hd,r,rfl,l,a1,a4,ao,qn,qs⟩:=h;have nd:=sc_Plain_step.nd;have hu:=xep hr;have i:=l.at_.inn;obtain⟨fs,hx,lf⟩:=l.at_.ob;have hh:hd.name∈hn mk:=qG a1;have h4:(hn mk).length<=4:=by rw[zLM];exact l.mok.hfew
 have he:=l.here a1 a4;have cl:=T.uC.cl;have no:=T.uC.no
 refine⟨_,(zpn (psn 2 nd (pd a2 hr (pc (xck (pv 0) rfl) (va 1 (pc (xcs hu (xck (pv 0) rfl) (pv 1) (λ_ _=>rfl)) (pc (xck (pv 0) rfl) (pc (xck (pv 0) rfl) (pc (xcs hu (xck (pv 0) rfl) (pv 1) (λ_ _=>rfl)) pN ss) xb7) xb7) ss)) xb7)))
   (zpn (xa6 (pR xjh (pv 2) xer (nM _)) (zpo (xag xe5)) pQ)
   (zpn (xgd hu (xck (pv 0) rfl) (pv 1) (pv 2) rfl)
   (zpn (xgd hu (xck (pv 0) rfl) (pv 1) (xan xbe (xcs hu (xck (pv 0) rfl) (pv 1) (λ_ _=>rfl)) pI) rfl)
   (zpo (xag xe5)))))),xab λR1 ah=>?_⟩
 refine(xa4 _ rfl x _ _ fs (xb1 _ rfl hx cl (no _ (by simp)) lf.mkv (xap _ rfl _ rfl x _ _ (xba fs _ rfl hx cl (no _ (by simp)) lf.st (xbg _ rfl a.sd _ rfl (gdK i.hsd hh) _ rfl (xaf x _ _ fs _ rfl hx cl (no _ (by simp)) lf.bt (xa4 _ rfl x _ _ fs (xch _ rfl hx cl (no _ (by simp)) lf.bt _ rfl x _ (xaj _ fs _ rfl hx cl (no _ (by simp)) (jAEA lf.tl _ rfl (xaq a.td _ rfl (gdK i.htd hh) ?_)))))))))));refine(xam mv hd.name (a.sa hd.name) a.bd a.bd (xam (a.ta hd.name) (a.pa hd.name) _ _ mk (xaq hd r rfl he ?_)));have U:Q (.bl false) H->R1 [some (.ref x),some (.str hd.name),some .non] H:=λq=>ah _ _ (xab λR2 ag=>(xa0 _ rfl rfl _ rfl (iteKT (zDT rfl) q)))
 have p:r.shutF st.bt=false->∀{C p':Addr} {j:Hp},StAt j C p' (xcv mk.kinds (st.sd hd.name).2 (st.sd hd.name).1 r) (xdq mk.kinds (st.sd hd.name).2 (r.letF st.bt) r)->(∀z∈cn mk,∃us,j (a.la z)=some (.lst us)/\RelDs j us (r.btF mk.kinds (st.sd hd.name).2 st.bt z))->(∀z∈hn mk,∃us,j (a.ta z)=some (.lst us)/\RelDs j us (upF st.tl hd.name (r.told mk.kinds (st.sd hd.name).2 (st.tl hd.name)) z))->
   (∀b o,H b=some o->(∀us,o≠.lst us)->j b=some o)->(∀b o,H b=some o->¬a.F mk x b->j b=some o)->p'=a.pa hd.name\/H p'=none->R1 [some (.ref x),some (.str hd.name),some (.ref C)] j:=λsh {C p' j} O M h3 Y fr hp=>by
  refine ah _ _ (xab λR2 ag=>(xa0 _ rfl rfl _ rfl (iteKF (zDF λz=>nomatch z) (ag _ _ (xab λR3 am=>?_)))));have Z:=Y _ _ hx λus e=>by cases e
  have a3:=Y _ _ i.hsd λus e=>by cases e
  have af:=Y _ _ i.hcd λus e=>by cases e
  have ae:∀f,(mapK (hn mk) f).length<sizeLine:=λf=>by rw[xmr];exact xa2 (by omega)
  refine(xap _ rfl _ rfl x _ _ (xba fs _ rfl Z cl (no _ (by simp)) lf.st (xa8 _ rfl a.sd _ rfl (DPut.k (k:=Sum.inr hd.name) a3 (ae _)) (am _ _ (xab λR4 al=>?_)))));have xs:x≠a.sd:=λz=>by rw[z,a3]at Z;cases Z
  have aa:upd j a.sd (.dK (putK (mapK (hn mk) λz=>.ref (a.sa z)) (Sum.inr hd.name) (.ref C))) x=some (.ins (ad K "Plain") a.dx fs):=by rw[xai xs];exact Z
  have a5:upd j a.sd (.dK (putK (mapK (hn mk) λz=>.ref (a.sa z)) (Sum.inr hd.name) (.ref C))) a.cd=some (.dK (mapK (hn mk) λz=>.int (st.ct z:Nat))):=by rw[xai (Ne.symm i.n1.2.2.1)];exact af
  refine(xa4 _ rfl x _ _ fs (xch _ rfl aa cl (no _ (by simp)) lf.ct _ rfl a.cd _ (jAA rfl (gdK a5 hh) (xaq _ _ rfl rfl (xa4 _ rfl x _ _ fs (xch _ rfl aa cl (no _ (by simp)) lf.ct _ rfl a.cd _ (jAA rfl (DPut.k (k:=Sum.inr hd.name) a5 (ae _)) (al _ _ ?_))))))));obtain⟨g1,g2,g3,g4⟩:=l.at_.stepped (s':=st.go mk.kinds hd.name r) hh (by show upF _ _ _=_;rw[show(st.go mk.kinds hd.name r).sd hd.name=_ from xao]) rfl (by rw[show(st.go mk.kinds hd.name r).sd hd.name=_ from xao];exact O) M h3 Y fr hp;exact qs sh _ _ ⟨g2,g3,g4⟩ ⟨g1,l.md.tups g3 _,l.mok,l.ok.go l.mok a1 a4 sh⟩
 have a9:∀{z},z∈cn mk->a.F mk x (a.la z):=λhz=>.inr (.inr (.inr (.inr (.inr (.inl (jEA _ hz rfl))))));have aj:∀{z},z∈hn mk->a.F mk x (a.ta z):=λhz=>.inr (.inr (.inr (.inr (.inr (.inr (jEA _ hz (.inl rfl)))))));have a6:∀{la:Addr} {us xs:List V} {j:Hp},H la=some (.lst us)->Chg la xs H j->∀b o,H b=some o->(∀us,o≠.lst us)->j b=some o:=λ{la us xs j} g c b o e n=>c.ne e λz=>by rw[z,g]at e;exact n us (qC e).symm
 have a7:∀{la:Addr} {us xs:List V} {j:Hp},H la=some (.lst us)->Chg la xs H j->(∀z∈hn mk,a.ta z≠la)->∀z∈hn mk,∃us,j (a.ta z)=some (.lst us)/\RelDs j us (upF st.tl hd.name (st.tl hd.name) z):=λ{la us xs j} g c n z hz=>by
  obtain⟨ut,O,M⟩:=i.tel z hz;refine(jEA ut (c.ne O (n z hz)) ?_);have e:upF st.tl hd.name (st.tl hd.name) z=st.tl z:=by unfold upF;split <;> rename_i q <;> first |rw[q] |rfl
  rw[e];exact M.tups (c.tups g) _
 have a8:∀{c:Str} {us xs:List V} {ds:List D} {j:Hp},c∈cn mk->H (a.la c)=some (.lst us)->Chg (a.la c) xs H j->RelDs j xs ds->∀z∈cn mk,∃us,j (a.la z)=some (.lst us)/\RelDs j us (upF st.bt c ds z):=λ{c us xs ds j} hc g ch hx z hz=>by
  by_cases e:z=c
  ·subst e
   exact(jEA xs (ch.at g) (by rw[xao];exact hx))
  ·obtain⟨ut,O,M⟩:=i.let_ z hz
   exact(jEA ut (ch.ne O λq=>e (i.nl z hz c hc q)) (by rw[xa3 e];exact M.tups (ch.tups g) _))
 cases r with
 |fin=>exact U (qn rfl)
 |take nn c y=>
  obtain⟨ch,hc,rfl,_,_⟩:=he.ok;have m:ch.1∈cn mk:=qG hc;obtain⟨us,g,G⟩:=i.let_ _ m;refine(xay _ (a.la ch.1) us (st.bt ch.1) i.hbd (xf2 m) g G (λe=>U (qn (by show(st.bt ch.1).isEmpty=true;rw[e];rfl))) (λd aq e C p' j chg I st'=>?_));have an:=G;rw[e]at G;obtain⟨u,ai,rfl,a0,ac⟩:=G;refine p (by show(st.bt ch.1).isEmpty=false;rw[e];rfl) (by rw[show(Row.take nn ch.1 y).letF st.bt=d by show(st.bt ch.1).headD _=d;rw[e];rfl];exact st') (a8 m g chg (by show RelDs j ai (st.bt ch.1).tail;rw[e];exact ac.tups (chg.tups g) _)) (a7 g chg λz hz q=>i.nlt _ m z hz q.symm) (a6 g chg) (λb o eb n=>chg.ne eb λz=>n (z ▸ a9 m)) I
 |send c t=>
  obtain⟨ch,hc,rfl,_,_⟩:=he.ok;have m:ch.1∈cn mk:=qG hc;obtain⟨us,g,G⟩:=i.let_ _ m;have hb:=(l.ok.cok ch hc).1;have ak:=G.length;refine(xaj _ (a.la ch.1) us i.hbd (xf2 m) g (by omega) (λC p' u j chg a0 I st'=>?_));exact p rfl st' (a8 m g chg ((G.tups (chg.tups g) _).append (xaq u ([]) rfl a0 rfl))) (a7 g chg λz hz q=>i.nlt _ m z hz q.symm) (a6 g chg) (λb o eb n=>chg.ne eb λz=>n (z ▸ a9 m)) I
 | tell t=>
  obtain⟨ut,J,ab⟩:=i.tel _ hh;have hb:=(l.ok.tok hd a1).1;have ak:=ab.length;refine(jEAA ut J (by omega) (λC p' u j chg a0 I st'=>?_));refine p rfl st' (λz hz=>?_) (λz hz=>?_) (a6 J chg) (λb o eb n=>chg.ne eb λz=>n (z ▸ aj hh)) I
  ·obtain⟨us,O,M⟩:=i.let_ z hz
   exact(jEA us (chg.ne O (i.nlt z hz _ hh)) (M.tups (chg.tups J) _))
  ·by_cases e:z=hd.name
   ·subst e
    exact(jEA (ut++[u]) (chg.at J) (by rw[xao];exact(ab.tups (chg.tups J) _).append (xaq u ([]) rfl a0 rfl)))
   ·obtain⟨us,O,M⟩:=i.tel z hz
    exact(jEA us (chg.ne O λq=>e (i.nt z hz _ hh q)) (by rw[xa3 e];exact M.tups (chg.tups J) _))
 | _=>
  intro C p' j s1 I st';refine p rfl st' (λz hz=>?_) (λz hz=>?_) (λb o e _=>s1 b o e) (λb o e _=>s1 b o e) I
  ·obtain⟨us,O,M⟩:=i.let_ z hz
   exact(jEA us (s1 _ _ O) (M.same s1 _))
  ·obtain⟨us,O,M⟩:=i.tel z hz
   refine(jEA us (s1 _ _ O) ?_);have e:upF st.tl hd.name (st.tl hd.name) z=st.tl z:=by unfold upF;split <;> rename_i q <;> first |rw[q] |rfl
   show RelDs j us (upF st.tl hd.name (st.tl hd.name) z);rw[e];exact M.same s1 _
theorem HsHere.row{K:Fg}{H:Hp}{x:Addr}{c:V}{a:HsA}{s:HSt}{mk:Mak}{N:Nat}(l:HsHere K H x c a s mk N){hd:Hand}(b:hd∈mk.hands):∃r,hd.rows[(s.sd hd.name).1]?=some r:=⟨_,zGA (l.ok.row hd b)⟩
theorem HsHere.mono{K:Fg}{H:Hp}{x:Addr}{b:V}{a:HsA}{s:HSt}{mk:Mak}{N c:Nat}(l:HsHere K H x b a s mk N)(h:N<=c):HsHere K H x b a s mk c:=⟨l.at_,l.md,l.mok,l.ok.mono h⟩
theorem HsHere.keep{K:Fg}{H c:Hp}{x:Addr}{f:V}{a:HsA}{s:HSt}{mk:Mak}{N:Nat}(l:HsHere K H x f a s mk N)(e:∀b vs,H b=some (.tup vs)->c b=some (.tup vs))(k:∀b,a.F mk x b->∀o,H b=some o->c b=some o):HsHere K c x f a s mk N:=⟨l.at_.keep e k,l.md.tups e _,l.mok,l.ok⟩
def xog(K:Fg):Sp:=λvs H Q _=>∃(x dx:Addr) (mv:V) (mk:Mak),vs=[.ref x,mv]/\H x=some (.ins (ad K "Plain") dx [])/\RelD H mv mk.d/\MakOk mk ∧
 ∀a H',SameBut x H H'->(∀b,a.F mk x b->b=x\/H b=none)->a.dx=dx->H' x=some (.ins (ad K "Plain") dx (hFs a))->HsIn H' mk a (hs0 mk)->Q .non H'
def xk0(K:Fg):Sp:=λvs H Q _=>∃(x dx:Addr) (mv:V) (mk:Mak),vs=[.ref x,mv]/\H x=some (.ins (ad K "Plain") dx [])/\RelD H mv mk.d/\MakOk mk ∧
 ∀a H',SameBut x H H'->(∀b,a.F mk x b->b=x\/H b=none)->HsHere K H' x mv a (hs0 mk) mk 0->Q .non H'
theorem xb6{x:Addr}{H a:Hp}{C f:Addr}{fs:List (Str×V)}(s:SameBut x H a)(c:H x=some (.ins C f fs)):∀b vs,H b=some (.tup vs)->a b=some (.tup vs):=λb vs e=>s b _ e λz=>by rw[z,c]at e;cases e
theorem xdd{x b:Addr}{H a:Hp}{o:HO}(s:SameBut x H a)(f:a x=some o)(e:a b=none):H b=none:=by
 cases h:H b with
 |none=>rfl
 |some u=>
  by_cases c:b=x
  ·rw[c,f]at e;cases e
  ·rw[s b u h c]at e;cases e
theorem xic(T:Tx K mg)(a5:DefIs P w K mg base n "begin_of" qac xk5):MethIs P w K mg base (n+1) (ad K "House") "__init__" qah [[]] (xog K):=by
 refine MethIs.of T.uH xh0 (λvs H Q E h=>?_) (λf ck A outer s H vs Q E hr h=>?_)
 ·obtain⟨_,_,_,_,rfl,_⟩:=h
  rfl
 obtain⟨x,dx,mv,mk,rfl,hx,md,a7,q⟩:=h;have cl:=T.uC.cl;have no:=T.uC.no;have h4:=a7.hfew;have h6:=a7.cfew;obtain⟨ma,kv,cv,hv,rfl,aj,cj,c5,c2⟩:=mk_d md;obtain⟨ha,uh,rfl,aa,bm⟩:=c2;obtain⟨ca,uc,rfl,bq,br⟩:=c5;have bi:=bm.length;have bj:=br.length;rw[zLM]at bi bj;have cg:(hn mk).length=uh.length:=by rw[zLM,bi]
 have ci:(cn mk).length=uc.length:=by rw[zLM,bj]
 have af:(hn mk).Nodup:=a7.hnd;have bt:(cn mk).Nodup:=a7.cnd
 have az:∀{i:Nat} {y:V},uh[i]?=some y->∃hd G bv rv,y=.ref G/\H G=some (.tup [.str hd.name,bv,rv])/\hd∈mk.hands/\(hn mk)[i]?=some hd.name:=λ{i y} hy=>by
  obtain⟨d,c,rd⟩:=bm.get hy;rw[zGM]at c;obtain⟨hd,bl,rfl⟩:=zMS c;obtain⟨G,bv,rv,rfl,m,_,_⟩:=hd_d rd;exact(xda hd G bv rv rfl m ⟨zMG bl,by rw[zGM,bl];rfl⟩)
 have bu:∀{i:Nat} {y:V},uc[i]?=some y->∃ch al ws,y=.ref al/\H al=some (.tup (.str ch::ws))/\(cn mk)[i]?=some ch:=λ{i y} hy=>by
  obtain⟨d,c,rd⟩:=br.get hy;rw[zGM]at c;obtain⟨ch,c4,rfl⟩:=zMS c;obtain⟨al,_,rfl,bp,_,ws,rfl,rfl,_⟩:=rd;exact(xco ch.1 al ws rfl bp (by rw[zGM,c4];rfl))
 refine⟨_,(zpn (xdn (pv 0) (xat (xcq rfl) rfl T.kT zL (pc (xbj ["hand","make"] [none,some 1] rfl (by kernel_rfl) (xa1 (K:=K) rfl (px K (pv 1) pI)) (λ_ _ _ _=>(pgc 0)) (λ_ _ _ _=>xbp) (λ_ _ _ _=>(xaz (pc (px K (pv 0) pI) (pc (pd a5 hr (va 1 (pc (px K (pv 0) pI) pN ss))) pN zsc) ss)))) pN xb2)) rfl)
   (zpn (xdn (pv 0) (xat (xcq rfl) rfl T.kT zL (pc (xbj ["channel"] [none] rfl (by kernel_rfl) (xa1 (K:=K) rfl (px K (pv 1) pI)) (λ_ _ _ _=>(pgc 0)) (λ_ _ _ _=>xbp) (λ_ _ _ _=>(xaz (pc (px K (pv 0) pI) (pc (xbt pN) pN xhm) ss)))) pN xb2)) rfl)
   (zpn (xdn (pv 0) (xat (xcq rfl) rfl T.kT zL (pc (xbj ["hand"] [none] rfl (by kernel_rfl) (xa1 (K:=K) rfl (px K (pv 1) pI)) (λ_ _ _ _=>(pgc 0)) (λ_ _ _ _=>xbp) (λ_ _ _ _=>(xaz (pc (px K (pv 0) pI) (pc (xbt pN) pN xhm) ss)))) pN xb2)) rfl)
   (zpo (xdn (pv 0) (xat (xcq rfl) rfl T.kT zL (pc (xbj ["hand"] [none] rfl (by kernel_rfl) (xa1 (K:=K) rfl (px K (pv 1) pI)) (λ_ _ _ _=>(pgc 0)) (λ_ _ _ _=>xbp) (λ_ _ _ _=>(xaz (pc (px K (pv 0) pI) (pc pI pN so) ss)))) pN xb2)) rfl))))),xab λR1 c8=>?_⟩
 refine(xaa _ rfl ma _ _ _ rfl rfl (zB aj) rfl (jEAA ha rfl ⟨_,zB aa⟩ ?_));refine xbo (xs:=uh) (λi ys g=>Same H g/\∃sa pa,NewSt H g (hn mk) i ys (hs0 mk) sa pa) (jAE (Same.refl _) (λ_=>0) ⟨λ_=>0,by rw[List.take_zero];trivial,λz hz=>by rw[List.take_zero]at hz;cases hz⟩) (xa2 (by omega)) (λi ys g _ p=>zB (p.1 _ _ aa)) ?_ ?_
 ·rintro i y ys g hy hi M ⟨r,sa,pa,ns⟩
  obtain⟨hd,G,bv,rv,rfl,m,ak,a8⟩:=az hy;refine⟨ext1 rfl,xdv ?_⟩;refine(xaa _ rfl G _ _ _ rfl rfl (zB (r _ _ m)) rfl (xap _ rfl _ rfl G _ _ (xbf _ rfl rfl (zB (r _ _ m)) rfl (xak _ hd.name mk hd rfl (md.same r _) a7 (xec a7 ak) (λbz p' H1 s1 c1 bx=>⟨(by walk_at"s"),λt ht=>nxtG hi M ?_⟩)))));have e0:=xmv a7 ak;exact(jAE (r.trans (s1.trans (zA ht _))) (upF sa hd.name bz) ⟨upF pa hd.name p',ns.snoc r s1 af a8 c1 (by rw[e0];exact bx) ht⟩)
 rintro ys g M ⟨r,sa,pa,ns⟩ D hD;have J:=zA hD (.lst ys);obtain⟨aw,ao⟩:=ns;rw[zTL (show(hn mk).length<=uh.length by omega)]at aw ao;refine(xcf D ys _ rfl ups (aw.same (Same.tups J)) (λsd hc=>?_));rw[xdr (xig af)];have sC:=zA hc (.dK (mapK (hn mk) λz=>.ref (sa z)));have I:=r.trans (J.trans sC)
 have st':∀z∈hn mk,StAt (upd (upd g D (.lst ys)) sd (.dK (mapK (hn mk) λz=>.ref (sa z)))) (sa z) (pa z) ((hs0 mk).sd z).1 ((hs0 mk).sd z).2/\pa z≠sd:=λz hz=>⟨(ao z hz).1.same (J.trans sC),λe=>by
  obtain⟨_,kvs,h2,_⟩:=((ao z hz).1.same J);rw[e,hc]at h2;cases h2⟩
 have c9:H sd=none:=xae (r.trans J) hc;have ae:upd (upd g D (.lst ys)) sd (.dK (mapK (hn mk) λz=>.ref (sa z))) sd=some (.dK (mapK (hn mk) λz=>.ref (sa z))):=ups;refine(xaa _ rfl x _ _ _ rfl (I _ _ hx) cl (no _ (by simp)) ⟨by decide,c8 _ _ (xab λR2 c7=>?_)⟩);generalize upd (upd g D (.lst ys)) sd (.dK (mapK (hn mk) λz=>.ref (sa z)))=HA at I st' ae⊢;clear sC J hc;obtain⟨ab,b6⟩:∃f,f=putF (Str.ofString "stands") (.ref sd) []:=⟨_,rfl⟩;have cf:ab.length<=1:=by rw[b6];exact xar _ _ _
 rw[<- b6];have U:=SameBut.upd x HA (.ins (ad K "Plain") dx ab);have Z:upd HA x (.ins (ad K "Plain") dx ab) x=some (.ins (ad K "Plain") dx ab):=ups;generalize upd HA x (.ins (ad K "Plain") dx ab)=H1 at U Z⊢;have b1:SameBut x H H1:=I.but.trans U;have nI:∀b o,HA b=some o->(∀C d f,o≠.ins C d f)->H1 b=some o:=λb o e n=>U b o e λz=>by rw[z,I _ _ hx]at e;exact n _ _ _ (qC e).symm
 have a9:H1 sd=some (.dK (mapK (hn mk) λz=>.ref (sa z))):=nI _ _ ae λ_ _ _ e=>by cases e
 have ar:∀z∈hn mk,StAt H1 (sa z) (pa z) ((hs0 mk).sd z).1 ((hs0 mk).sd z).2:=λz hz=>(st' z hz).1.keep (λb vs e=>nI _ _ e λ_ _ _ e=>by cases e) λo e=>by
  obtain⟨_,kvs,h2,_⟩:=(st' z hz).1;rw[h2]at e;cases e;exact nI _ _ h2 λ_ _ _ e=>by cases e
 have c0:∀z∈hn mk,pa z≠sd:=λz hz=>(st' z hz).2;clear nI U st' ae I r aw;have ai:=xb6 b1 hx;refine(xaa _ rfl ma _ _ _ rfl rfl (zB (ai _ _ aj)) rfl (jEAA ca rfl ⟨_,zB (ai _ _ bq)⟩ ?_));refine xbo (xs:=uc) (λi ys g=>Same H1 g/\∃Y,EmpAt H1 g (cn mk) i ys Y) (jAE (Same.refl _) (λ_=>0) ⟨by rw[List.take_zero];trivial,(λz hz=>by rw[List.take_zero]at hz;cases hz),λz hz=>by rw[List.take_zero]at hz;cases hz⟩) (xa2 (by omega)) (λi ys g _ p=>zB (p.1 _ _ (ai _ _ bq))) ?_ ?_
 ·rintro i y ys g hy hi M ⟨r,Y,em⟩
  obtain⟨ch,G,ws,rfl,m,a8⟩:=bu hy;have a4:=r _ _ (ai _ _ m);refine⟨ext1 rfl,xdv ?_⟩;refine(xaa _ rfl G _ _ _ rfl rfl (zB a4) (xav (j:=0) rfl) ⟨(by walk_at"s"),λl hl=>⟨(by walk_at"s"),λt ht=>nxtG hi M ?_⟩⟩);exact(jAE (r.trans ((zA hl _).trans (zA ht _))) (upF Y ch l) (em.snoc r bt a8 hl ht))
 rintro ys g M ⟨r,Y,em⟩ D hD;have J:=zA hD (.lst ys);obtain⟨a6,a2,av⟩:=em;rw[zTL (show(cn mk).length<=uc.length by omega)]at a6 a2 av;refine(xcf D ys _ rfl ups (a6.same (Same.tups J)) (λbd hc=>?_));rw[xdr (xig bt)];have sC:=zA hc (.dK (mapK (cn mk) λz=>.ref (Y z)));have I:=r.trans (J.trans sC);have u:∀z∈cn mk,upd (upd g D (.lst ys)) bd (.dK (mapK (cn mk) λz=>.ref (Y z))) (Y z)=some (.lst []):=λz hz=>(J.trans sC) _ _ (a2 z hz).1;have b8:H1 bd=none:=xae (r.trans J) hc;have c:upd (upd g D (.lst ys)) bd (.dK (mapK (cn mk) λz=>.ref (Y z))) bd=some (.dK (mapK (cn mk) λz=>.ref (Y z))):=ups;refine(xaa _ rfl x _ _ _ rfl (I _ _ Z) cl (no _ (by simp)) ⟨by omega,c7 _ _ (xab λR3 c6=>?_)⟩);generalize upd (upd g D (.lst ys)) bd (.dK (mapK (cn mk) λz=>.ref (Y z)))=HA at I u c⊢;clear sC J hc;obtain⟨fs2,b5⟩:∃f,f=putF (Str.ofString "between") (.ref bd) ab:=⟨_,rfl⟩;have ce:fs2.length<=2:=by rw[b5];exact zY (xar _ _ _) (by omega)
 rw[<- b5];have U:=SameBut.upd x HA (.ins (ad K "Plain") dx fs2);have a3:upd HA x (.ins (ad K "Plain") dx fs2) x=some (.ins (ad K "Plain") dx fs2):=ups;generalize upd HA x (.ins (ad K "Plain") dx fs2)=H2 at U a3⊢;have b9:SameBut x H1 H2:=I.but.trans U;have b2:SameBut x H H2:=b1.trans b9;have bo:H2 bd=some (.dK (mapK (cn mk) λz=>.ref (Y z))):=U _ _ c λz=>by rw[z,I _ _ Z]at c;cases c
 have bb:∀z∈cn mk,H2 (Y z)=some (.lst [])/\H1 (Y z)=none:=λz hz=>⟨U _ _ (u z hz) λe=>(by have:=u z hz;rw[e,I _ _ Z]at this;cases this),(a2 z hz).2⟩;clear U c u a2 a6 I r;have ah:=xb6 b2 hx;refine(xaa _ rfl ma _ _ _ rfl rfl (zB (ah _ _ aj)) rfl (jEAA ha rfl ⟨_,zB (ah _ _ aa)⟩ ?_));refine xbo (xs:=uh) (λi ys g=>Same H2 g/\∃Y,EmpAt H2 g (hn mk) i ys Y) (jAE (Same.refl _) (λ_=>0) ⟨by rw[List.take_zero];trivial,(λz hz=>by rw[List.take_zero]at hz;cases hz),λz hz=>by rw[List.take_zero]at hz;cases hz⟩) (xa2 (by omega)) (λi ys g _ p=>zB (p.1 _ _ (ah _ _ aa))) ?_ ?_
 ·rintro i y ys g hy hi M ⟨r,Y,em⟩
  obtain⟨hd,G,bv,rv,rfl,m,ak,a8⟩:=az hy;have a4:=r _ _ (ah _ _ m);refine⟨ext1 rfl,xdv ?_⟩;refine(xaa _ rfl G _ _ _ rfl rfl (zB a4) rfl ⟨(by walk_at"s"),λl hl=>⟨(by walk_at"s"),λt ht=>nxtG hi M ?_⟩⟩);exact(jAE (r.trans ((zA hl _).trans (zA ht _))) (upF Y hd.name l) (em.snoc r af a8 hl ht))
 rintro ys g M ⟨r,ta,em⟩ D hD;have J:=zA hD (.lst ys);obtain⟨a6,a2,au⟩:=em;rw[zTL (show(hn mk).length<=uh.length by omega)]at a6 a2 au;refine(xcf D ys _ rfl ups (a6.same (Same.tups J)) (λtd hc=>?_));rw[xdr (xig af)];have sC:=zA hc (.dK (mapK (hn mk) λz=>.ref (ta z)));have I:=r.trans (J.trans sC);have u:∀z∈hn mk,upd (upd g D (.lst ys)) td (.dK (mapK (hn mk) λz=>.ref (ta z))) (ta z)=some (.lst []):=λz hz=>(J.trans sC) _ _ (a2 z hz).1;have b7:H2 td=none:=xae (r.trans J) hc;have c:upd (upd g D (.lst ys)) td (.dK (mapK (hn mk) λz=>.ref (ta z))) td=some (.dK (mapK (hn mk) λz=>.ref (ta z))):=ups;refine(xaa _ rfl x _ _ _ rfl (I _ _ a3) cl (no _ (by simp)) ⟨by omega,c6 _ _ ?_⟩);generalize upd (upd g D (.lst ys)) td (.dK (mapK (hn mk) λz=>.ref (ta z)))=HA at I u c⊢;clear sC J hc;obtain⟨a0,b0⟩:∃f,f=putF (Str.ofString "tellings") (.ref td) fs2:=⟨_,rfl⟩;have cc:a0.length<=3:=by rw[b0];exact zY (xar _ _ _) (by omega)
 rw[<- b0];have U:=SameBut.upd x HA (.ins (ad K "Plain") dx a0);have ac:upd HA x (.ins (ad K "Plain") dx a0) x=some (.ins (ad K "Plain") dx a0):=ups;generalize upd HA x (.ins (ad K "Plain") dx a0)=H3 at U ac⊢;have an:SameBut x H2 H3:=I.but.trans U;have b3:SameBut x H H3:=b2.trans an;have bn:H3 td=some (.dK (mapK (hn mk) λz=>.ref (ta z))):=U _ _ c λz=>by rw[z,I _ _ a3]at c;cases c
 have ba:∀z∈hn mk,H3 (ta z)=some (.lst [])/\H2 (ta z)=none:=λz hz=>⟨U _ _ (u z hz) λe=>(by have:=u z hz;rw[e,I _ _ a3]at this;cases this),(a2 z hz).2⟩;clear U c u a2 a6 I r;have ag:=xb6 b3 hx;refine(xaa _ rfl ma _ _ _ rfl rfl (zB (ag _ _ aj)) rfl (jEAA ha rfl ⟨_,zB (ag _ _ aa)⟩ ?_));refine xbo (xs:=uh) (λi ys g=>Same H3 g/\PairsV g ys (mapK ((hn mk).take i) λ_=>.int 0)) ⟨Same.refl _,by rw[List.take_zero];trivial⟩ (xa2 (by omega)) (λi ys g _ p=>zB (p.1 _ _ (ag _ _ aa))) ?_ ?_
 ·rintro i y ys g hy hi M ⟨r,pr⟩
  obtain⟨hd,G,bv,rv,rfl,m,ak,a8⟩:=az hy;have a4:=r _ _ (ag _ _ m);refine⟨ext1 rfl,xdv ?_⟩;refine(xaa _ rfl G _ _ _ rfl rfl (zB a4) rfl ⟨(by walk_at"s"),λt ht=>nxtG hi M ?_⟩);have s2:=zA ht (.tup [.str hd.name,.int 0]);refine⟨r.trans s2,?_⟩;rw[xdf a8];unfold mapK;rw[zAP];exact(pr.same (Same.tups s2)).append ⟨(jEA t rfl ups),trivial⟩
 rintro ys g M ⟨r,pr⟩ D hD;have J:=zA hD (.lst ys);rw[zTL (show(hn mk).length<=uh.length by omega)]at pr;refine(xcf D ys _ rfl ups (pr.same (Same.tups J)) (λcd hc=>?_));rw[xdr (xig af)];have sC:=zA hc (.dK (mapK (hn mk) λ_=>.int 0));have I:=r.trans (J.trans sC);have a1:H3 cd=none:=xae (r.trans J) hc;have c:upd (upd g D (.lst ys)) cd (.dK (mapK (hn mk) λ_=>.int 0)) cd=some (.dK (mapK (hn mk) λ_=>.int 0)):=ups;refine(xaa _ rfl x _ _ _ rfl (I _ _ ac) cl (no _ (by simp)) ⟨by omega,?_⟩);generalize upd (upd g D (.lst ys)) cd (.dK (mapK (hn mk) λ_=>.int 0))=HA at I c⊢;clear sC J hc;have U:=SameBut.upd x HA (.ins (ad K "Plain") dx (putF (Str.ofString "counts") (.ref cd) a0));have bh:upd HA x (.ins (ad K "Plain") dx (putF (Str.ofString "counts") (.ref cd) a0)) x=some (.ins (ad K "Plain") dx (putF (Str.ofString "counts") (.ref cd) a0)):=ups;generalize upd HA x (.ins (ad K "Plain") dx (putF (Str.ofString "counts") (.ref cd) a0))=H4 at U bh⊢;have am:SameBut x H3 H4:=I.but.trans U;have b4:SameBut x H H4:=b3.trans am;have bw:SameBut x H1 H4:=b9.trans (an.trans am);have cb:SameBut x H2 H4:=an.trans am;have c3:H4 cd=some (.dK (mapK (hn mk) λ_=>.int 0)):=U _ _ c λz=>by rw[z,I _ _ ac]at c;cases c
 have bf:∀{b o},H1 b=some o->(∀C d f,o≠.ins C d f)->H4 b=some o:=λ{b o} e n=>bw b o e λz=>by rw[z,Z]at e;exact n _ _ _ (qC e).symm
 have be:∀{b o},H2 b=some o->(∀C d f,o≠.ins C d f)->H4 b=some o:=λ{b o} e n=>cb b o e λz=>by rw[z,a3]at e;exact n _ _ _ (qC e).symm
 have bc:∀{b o},H3 b=some o->(∀C d f,o≠.ins C d f)->H4 b=some o:=λ{b o} e n=>am b o e λz=>by rw[z,ac]at e;exact n _ _ _ (qC e).symm
 have ay:∀{b o},H1 b=some o->(∀C d f,o≠.ins C d f)->H2 b=some o:=λ{b o} e n=>b9 b o e λz=>by rw[z,Z]at e;exact n _ _ _ (qC e).symm
 have ax:∀{b o},H2 b=some o->(∀C d f,o≠.ins C d f)->H3 b=some o:=λ{b o} e n=>an b o e λz=>by rw[z,a3]at e;exact n _ _ _ (qC e).symm
 have O:∀{kv:List (Key×V)},∀C d f,HO.dK kv≠.ins C d f:=λC d f e=>by cases e
 have bg:∀C d f,HO.lst []≠.ins C d f:=λC d f e=>by cases e
 have aq:∀z∈hn mk,∃kvs,H1 (pa z)=some (.dK kvs):=λz hz=>by
  obtain⟨_,kvs,h2,_⟩:=ar z hz;exact⟨kvs,h2⟩
 refine q ⟨dx,sd,bd,td,cd,sa,pa,Y,ta⟩ H4 b4 (λb hb=>?_) rfl (by rw[bh,b0,b5,b6];rfl) ⟨bf a9 O,be bo O,bc bn O,c3,λz hz=>?_,λz hz=>(jEA ([]) (be (bb z hz).1 bg) rfl),λz hz=>(jEA ([]) (bc (ba z hz).1 bg) rfl),av,au,λz hz y hy e=>?_,?_,λz hz=>⟨?_,?_⟩⟩
 ·rcases hb with h |h |h |h |h |⟨z,hz,h⟩ |⟨z,hz,h |h⟩
  ·exact .inl h
  ·exact .inr (by rw[h];exact c9)
  ·exact .inr (by rw[h];exact xdd b1 Z b8)
  ·exact .inr (by rw[h];exact xdd b2 a3 b7)
  ·exact .inr (by rw[h];exact xdd b3 ac a1)
  ·exact .inr (by rw[h];exact xdd b1 Z (bb z hz).2)
  ·exact .inr (by rw[h];exact xdd b2 a3 (ba z hz).2)
  ·exact .inr (by rw[h];exact(ao z hz).2)
 ·refine(ar z hz).keep (xb6 bw Z) λo e=>?_
  obtain⟨kvs,h2⟩:=aq z hz;rw[h2]at e;cases e;exact bf h2 O
 ·have e':Y z=ta y:=e
  have h1:=(ba y hy).2;rw[<- e',(bb z hz).1]at h1;cases h1
 ·refine(jAAA (λe=>?_) (λe=>?_) (λe=>?_) ⟨λe=>?_,λe=>?_⟩)
  ·have e':sd=bd:=e
   rw[<- e',a9]at b8;cases b8
  ·have e':sd=td:=e
   rw[<- e',ay a9 O]at b7;cases b7
  ·have e':sd=cd:=e
   rw[<- e',ax (ay a9 O) O]at a1;cases a1
  ·have e':cd=bd:=e
   rw[e',ax bo O]at a1;cases a1
  ·have e':cd=td:=e
   rw[e',bn]at a1;cases a1
 ·exact c0 z hz
 ·intro e
  have e':pa z=cd:=e;obtain⟨kvs,h2⟩:=aq z hz;rw[<- e',ax (ay h2 O) O]at a1;cases a1
theorem xh9(T:Tx K r)(c:MethIs P w K r base n (ad K "House") "__init__" qah [[]] (xog K)):MethIs P w K r base (n+1) (ad K "Plain") "__init__" qah [[]] (xk0 K):=by
 refine MethIs.of T.uM xhx (λvs H Q E h=>?_) (λf U A outer s H vs Q E J h=>?_)
 ·obtain⟨_,_,_,_,rfl,_⟩:=h
  rfl
 obtain⟨x,G,p,mk,rfl,y,u,g,q⟩:=h
 refine⟨_,(zpn (xb0 (xq4 c T.uG J T.uF (va 0 (v1 1))))
   (zpo (xdn (pv 0) (pv 1) rfl))),?_⟩
 refine(xap _ rfl _ rfl x G p (xbf mk rfl y u g (λa Z Y fr O i j=>?_)));refine(xap _ rfl _ rfl x _ _ (xb1 _ rfl i T.uC.cl (T.uC.no _ (by simp)) ?_ ?_))
 ·exact zT (show(hFs a).length<=4 from zY (xar _ _ _) (zI (zY (xar _ _ _) (zI (zY (xar _ _ _) (zI (zY (xar _ _ _) (zZ _)))))))) (by decide)
 ·have m:=SameBut.upd x Z (.ins (ad K "Plain") G (putF (Str.ofString "make") p (hFs a)))
  have l:=xb6 m i;have I:=Y.trans m;refine q a _ I fr ⟨⟨(jEA _ (by rw[O];exact ups) Hf.init),?_⟩,u.tups (xb6 I y) _,g,hok0 g⟩;refine j.keep (x:=a.sd) l λb M o e=>m b o e λz=>?_;obtain⟨o',C,n⟩:=j.there b M;rw[z,i]at C;exact n _ _ _ (qC C).symm
structure GIn(H:Hp)(f nb:Addr)(kv:V)(ks:List Kn)(nms:List Str):Prop where
 fd:∃p q:Int,H f=some (.lst [.int p,.int q])
 nl:H nb=some (.lst (nms.map V.str))
 ok:NmsR nms
 ne:nb≠f
 nby:∀z∈nms,NoBy z
 kd:RelD H kv (xee ks)
 wf:KWf ks
 pb:PNB ks
theorem GIn.same{H e:Hp}{f b:Addr}{c:V}{ks:List Kn}{a:List Str}(g:GIn H f b c ks a)(s:Same H e):GIn e f b c ks a:=by
 obtain⟨p,q,h⟩:=g.fd;exact⟨(jEE p q (s _ _ h)),s _ _ g.nl,g.ok,g.ne,g.nby,g.kd.same s _,g.wf,g.pb⟩
theorem GIn.fed{H e:Hp}{f b:Addr}{c:V}{ks:List Kn}{a:List Str}(g:GIn H f b c ks a)(s:Fed f H e):GIn e f b c ks a:=⟨s.2,s.1 _ _ g.nl g.ne,g.ok,g.ne,g.nby,g.kd.tups (xal g.fd s) _,g.wf,g.pb⟩
theorem GIn.refl{H:Hp}{f b:Addr}{c:V}{ks:List Kn}{a:List Str}(g:GIn H f b c ks a):Fed f H H:=by
 obtain⟨p,q,h⟩:=g.fd;exact Fed.refl h
theorem GIn.name{H:Hp}{f b:Addr}{c:V}{ks:List Kn}{a:List Str}(g:GIn H f b c ks a){i:Nat}(h:i<26):∃z,a[i]?=some z/\atI (a.map V.str) (i:Int)=some (.str z):=by
 have e:=g.ok.len;exact(jEA (a[i]'(by omega)) (zGA _) (xav (by rw[zGM,zGA (by omega)];rfl)))
structure ChsOk(ks:List Kn)(nms:List Str)(hn:Nat)(cs:List Chn):Prop where
 len:cs.length<=6
 nm:cs.map (·.1)=(nms.drop 12).take cs.length
 kin:∀c∈cs,KIn ks ks.length c.2.2.2
 ends:∀c∈cs,c.2.1∈nms.take hn/\c.2.2.1∈nms.take hn
def xsk:Sp:=λvs H Q _=>∃(f nb:Addr) (kv:V) (ks:List Kn) (nms:List Str) (hn:Nat),vs=[.ref f,kv,.ref nb,.int hn]/\GIn H f nb kv ks nms/\1<=hn/\hn<=4/\∀cv cs H',Fed f H H'->RelD H' cv (.tup (cs.map dChn))->ChsOk ks nms hn cs->Q cv H'
theorem xln{a:List Str}{i hn:Nat}{z:Str}(h:a[i]?=some z)(hi:i<hn):z∈a.take hn:=zMG (i:=i) (by rw[List.getElem?_take,if_pos hi];exact h)
theorem xjl(T:Tx K mg)(a:DefIs P w K mg base n "_law_take" qae xc2)(j:DefIs P w K mg base n "_law_any_kind" qam xqx):DefIs P w K mg base (n+1) "_law_channels" qbd xsk:=by
 refine DefIs.of T.kC scl_channels (by walk_at"l") (λf bz A outer s H vs Q E hr h=>?_);obtain⟨p,nb,kv,ks,y,hn,rfl,g,h1,h4,q⟩:=h;have nd:=scl_channels.nd
 refine⟨_,(zpn (psn 4 nd (xbt pN))
   (zpn (psn 5 nd (pd a hr (va 0 (v1 3))))
   (zpn (xci zF rfl (xcj rfl T.k4 (pc (xau (xqo rfl) rfl T.kZ PyProof.Rows.boot_max (pc (pd a hr (va 0 (pc pI pN so))) (pc (xan xdp (pv 3) (xat xfc rfl T.kU PyProof.Rows.boot_int (pc (xea xdu (pd a hr (va 0 (pc pI pN so))) pI (nM _)) pN xl6))) pN xa5) zsc)) pN zsc)) (pgn 6 nd)
   (zpn (psn 7 nd (xaz (pc (pxl K (pv 2) (pd a hr (va 0 (v1 3)))) (pc (pxl K (pv 2) (pd a hr (va 0 (v1 3)))) pN ss) ss)))
   (zpn (xa6 (PW.pt (xcr (pR xft (pv 6) (pv 3) (nM _)) (xb8 (pR xdu (pd a hr (va 0 (pc pI pN so))) pI (nM _))))) (zpo (psn 7 nd (xaz (pc (px K (pv 7) pI) (pc (pxl K (pv 2) (xan xcm (xan xbe (pv 5) (pv 6)) (pv 3))) pN ss) ss)))) pQ)
   (zpo (xb0 (xdj zD zH zG xbn (pv 4) (pc (xaz (pc (pxl K (pv 2) (xan xbe pI (pv 6))) (pc (px K (pv 7) pI) (pc (px K (pv 7) pI) (pc (pd j hr (va 0 (v1 1))) pN zsc) ss) ss) ss)) pN zsT)))))))
   (zpo (xag (xat (xbx (K:=K) rfl) rfl T.k9 zK (v1 4))))))),xab λR1 bd=>?_⟩
 refine⟨(by walk_at"s"),λl hl=>bd _ _ (xab λR2 bc=>?_)⟩;have s0:=zA hl (.lst []);have g0:=g.same s0;obtain⟨p0,q0,b8⟩:=g.fd;have I:l≠p:=Ne.symm (neN b8 hl);obtain⟨p1,q1,b7⟩:=g0.fd;refine(xap _ rfl _ rfl p p1 q1 (xbf hn rfl b7 (by omega) (by omega) (λtn H1 t0 t1 f1=>bc _ _ (xab λR3 bb=>?_))));have F1:Fed p H H1:=(g.refl.same s0).trans f1;have aw:=f1.1 _ _ ups I;obtain⟨p2,q2,b6⟩:=F1.2;refine(xaa _ rfl p p2 q2 6 rfl b6 (by decide) (by decide) (λr1 H2 bu bt f2=>?_));have F2:=F1.trans f2;have av:=f2.1 _ _ aw I;obtain⟨p3,q3,b5⟩:=F2.2;refine(xap _ rfl _ rfl p p3 q3 (xbf 5 rfl b5 (by decide) (by decide) (λr2 H3 br bq f3=>?_)));have F3:=F2.trans f3;have au:=f3.1 _ _ av I;refine(xaq _ _ rfl rfl (.inr (xa8 _ rfl _ _ rfl rfl (jAE (.inl ⟨by omega,by omega⟩) _ (jEA _ rfl ?_)))))
 obtain⟨N,hN,bx⟩:∃N:Nat,(if (hn:Int)*(if decide (r2 > 0)=true then 1 else 0) > r1 then (hn:Int)*(if decide (r2 > 0)=true then 1 else 0) else r1)=(N:Int)/\N<=5:=by
  have hb:(hn:Int)*(if decide (r2 > 0)=true then (1:Int) else 0)=0\/(hn:Int)*(if decide (r2 > 0)=true then (1:Int) else 0)=hn:=by
   by_cases m:decide (r2 > 0)=true
   ·rw[if_pos m];exact .inr (Int.mul_one _)
   ·rw[if_neg m];exact .inl (Int.mul_zero _)
  generalize (hn:Int)*(if decide (r2 > 0)=true then (1:Int) else 0)=b at hb;refine(jEA ((if b > r1 then b else r1).toNat) ?_ ?_) <;> split <;> omega
 rw[hN];refine(xbr _ rfl (by omega) (by omega) ?_)
 refine xc7 (λi σ H'=>∃us,∃cs:List Chn,∃o6 o7,σ=[some (.ref p),some kv,some (.ref nb),some (.int hn),some (.ref l),some (.int tn),o6,o7]/\Fed p H H'/\H' l=some (.lst us)/\RelDs H' us (cs.map dChn)/\cs.length=i/\ChsOk ks y hn cs)
  (xay ([]) ([]) none none rfl F3 au rfl rfl ⟨by decide,rfl,(λ_ h=>nomatch h),λ_ h=>nomatch h⟩) ?_ ?_
 ·rintro i σ H4 hi ⟨us,cs,o6,o7,rfl,F4,a4,C,a5,x⟩
  have bw:i<5:=by omega
  have e0:(0+(i:Int))=(i:Int):=by omega
  have g4:=g.fed F4;obtain⟨p4,q4,b4⟩:=F4.2;have an:=C.length;rw[zLM]at an;refine xab λS1 ba=>?_;refine(xbw _ rfl _ rfl _ rfl p p4 (xct q4 hn rfl b4 (by omega) (by omega) (λra H5 bp bo f5=>?_)));obtain⟨ia,rfl⟩:∃i:Nat,ra=(i:Int):=⟨ra.toNat,by omega⟩;have g5:=g4.fed f5;obtain⟨za,ak,bi⟩:=g5.name (i:=ia) (by omega);refine(xak nb _ _ _ rfl rfl (zC g5.nl) bi ?_);obtain⟨p5,q5,b3⟩:=f5.2;refine(xbw _ rfl _ rfl _ rfl p p5 (xct q5 hn rfl b3 (by omega) (by omega) (λrb H6 bn bm f6=>?_)));obtain⟨ib,rfl⟩:∃i:Nat,rb=(i:Int):=⟨rb.toNat,by omega⟩;have g6:=g5.fed f6;obtain⟨zb,aj,bh⟩:=g6.name (i:=ib) (by omega);refine(xay nb _ _ _ rfl rfl (zC g6.nl) bh (by walk_at"s") (λte ao=>ba _ _ (xab λS2 b9=>?_)));have s7:=zA ao (.tup [.str za,.str zb]);have F6:=F4.trans (f5.trans f6);have ae:=xal g4.fd (f5.trans f6)
  have a1:∀(Z:Addr) (Y U:Str) (O:Hp),Fed p H O->O l=some (.lst us)->RelDs O us (cs.map dChn)->O Z=some (.tup [.str Y,.str U])->Y∈y.take hn->U∈y.take hn->S2 [some (.ref p),some kv,some (.ref nb),some (.int hn),some (.ref l),some (.int tn),some (.int (0+(i:Int))),some (.ref Z)] O:=λZ Y U O F8 aa a8 G am al=>by
   refine b9 _ _ ?_;have g8:=g.fed F8;obtain⟨zc,ai,bg⟩:=g8.name (i:=12+i) (by omega)
   have ac:atI (y.map V.str) (12+(0+(i:Int)))=some (.str zc):=by
    rw[e0];exact bg
   refine(jEAA _ rfl (.inl (jAE rfl _ (zC aa))) ?_);refine(xbb _ rfl _ rfl _ _ rfl rfl nb (xaj _ _ _ rfl rfl (zC g8.nl) ac ?_));refine(xaa _ rfl Z _ _ _ rfl rfl (zB G) rfl (xaa _ rfl Z _ _ _ rfl rfl (zB G) rfl ?_));obtain⟨p8,q8,b2⟩:=F8.2;obtain⟨ka,ag,be,az,ay⟩:=id g8.kd;subst be;have ab:=g.wf.few;refine(xap _ rfl _ rfl p ka p8 (xaj q8 ag ks rfl b2 (.inr az) ay ⟨ab,λkx H9 ax f9=>⟨(by walk_at"s"),λt ht=>?_⟩⟩));have st:=zA ht (.tup [.str zc,.str Y,.str U,.str kx]);have a2:=f9.1 _ _ aa I;have af:=xal g8.fd f9;refine(xaj l us _ rfl rfl (st _ _ a2) (xa2 (by omega)) ?_);have bv:l≠t:=neN a2 ht;have aq:H l=none:=hl;refine(xay (us++[.ref t]) (cs++[(zc,Y,U,kx)]) _ _ rfl ?_ ups ?_ (by rw[zLA,List.length_singleton,a5]) ?_)
   ·refine⟨λb o e hb=>?_,?_⟩
    ·rw[xai (neN e aq)]
     exact st _ _ ((F8.trans f9).1 b o e hb)
    ·obtain⟨p9,q9,b1⟩:=f9.2
     exact(jEE p9 q9 (by rw[xai (Ne.symm I)];exact st _ _ b1))
   ·have a6:∀b vs,upd H9 t (.tup [.str zc,.str Y,.str U,.str kx]) b=some (.tup vs)->upd (upd H9 t (.tup [.str zc,.str Y,.str U,.str kx])) l (.lst (us++[.ref t])) b=some (.tup vs):=λb vs e=>by
     rw[xai λz=>by rw[z,st _ _ a2]at e;cases e];exact e
    rw[zAP];refine(((a8.tups af _).same st _).tups a6 _).append (xaq (.ref t) ([]) rfl (xas t _ rfl (a6 _ _ ups) _ _ rfl rfl _ (xbh _ rfl rfl _ _ rfl rfl (xaq _ _ rfl rfl rfl))) rfl)
   ·refine⟨by rw[zLA,List.length_singleton];omega,?_,λc m=>?_,λc m=>?_⟩
    ·rw[zAP,zLA,List.length_singleton,x.nm,zTA,List.getElem?_drop,a5,ai]
     rfl
    ·rcases zMA m with m |m
     ·exact x.kin c m
     ·rw[zMO m];exact ax
    ·rcases zMA m with m |m
     ·exact x.ends c m
     ·rw[zMO m];exact⟨am,al⟩
  have F7:=F6.same s7;have ar:=(f5.trans f6).1 _ _ a4 I;have a3:=s7 _ _ ar;have r:=(C.tups ae _).same s7 _;have a0:=xln ak (by omega:ia<hn);have a7:=xln aj (by omega:ib<hn);refine(xbb _ rfl _ rfl _ _ rfl rfl _ ⟨rfl,ite2 (λc1=>?_) (λc1=>?_)⟩)
  ·obtain⟨p7,q7,u⟩:=F7.2
   refine(xaa _ rfl p p7 q7 6 rfl u (by decide) (by decide) (λrc O bl bj M=>(xaq _ _ rfl rfl (jEA _ rfl (ite2 (λc2=>?_) (λc2=>?_))))))
   ·have a9:=xal (jEE p7 q7 u) M _ _ ups
    have F8:=F7.trans M;have g8:=g.fed F8;have J:(0:Int)<(hn:Int):=by omega
    have m0:=zQ (tn+(0+(i:Int))) (by omega:(hn:Int)≠0);have m1:=zO (tn+(0+(i:Int))) J;obtain⟨im,b0⟩:∃im:Nat,(tn+(0+(i:Int)))%(hn:Int)=(im:Int):=⟨((tn+(0+(i:Int)))%(hn:Int)).toNat,by omega⟩;obtain⟨zm,ah,bf⟩:=g8.name (i:=im) (by omega);refine(xaa _ rfl te _ _ _ rfl rfl (zB a9) rfl (xa7 _ rfl _ rfl _ rfl _ _ rfl rfl (xa8 _ rfl _ _ rfl rfl (jAE J nb (xaj _ _ _ rfl rfl (zC g8.nl) (by rw[b0];exact bf) ⟨(by walk_at"s"),λZ G=>?_⟩)))));have s9:=zA G (.tup [.str za,.str zm]);exact a1 Z za zm _ (F8.same s9) (s9 _ _ (M.1 _ _ a3 I)) ((r.tups (xal (jEE p7 q7 u) M) _).same s9 _) ups a0 (xln ah (by omega))
   ·exact a1 te za zb O (F7.trans M) (M.1 _ _ a3 I) (r.tups (xal (jEE p7 q7 u) M) _) (xal (jEE p7 q7 u) M _ _ ups) a0 a7
  ·exact iteF (a1 te za zb _ F7 a3 r ups a0 a7)
 ·rintro σ H4 ⟨us,cs,o6,o7,rfl,F4,a4,C,a5,x⟩
  refine bb _ _ ?_;refine(jEA _ rfl (jEEA l us rfl (.inl ⟨zC a4,λt ht=>?_⟩)));have st:=zA ht (.tup us);exact q _ cs _ (F4.same st) (xaq t us rfl ups (C.same st _)) x
structure BsOk(ks:List Kn)(nms:List Str)(bs:List (Str×Str)):Prop where
 len:bs.length<=5
 nd:(bs.map (·.1)).Nodup
 nm:∀b∈bs,b.1∈nms
 kin:∀b∈bs,KIn ks 6 b.2
def xva:Sp:=λvs H Q _=>∃(f nb:Addr) (kv cv:V) (ks:List Kn) (nms:List Str) (cs:List Chn) (x:Str),vs=[.ref f,kv,cv,.str x,.ref nb]/\GIn H f nb kv ks nms/\RelD H cv (.tup (cs.map dChn))/\cs.length<=6/\(∀c∈cs,KIn ks ks.length c.2.2.2)/\∀bv bs H',Fed f H H'->RelD H' bv (xd8 bs)->BsOk ks nms bs->Q bv H'
def xwp(cs:List Chn)(x:Str)(bs:List (Str×Str))(c y:Str):Prop:=∃ch∈cs,ch.1=c/\ch.2.2.1=x/\(y,ch.2.2.2)∈bs
def IntoAt(H:Hp)(cs:List Chn)(x:Str)(bs:List (Str×Str))(w:V):Prop:=∃(b:Addr) (c y:Str),w=.ref b/\H b=some (.tup [.str c,.str y])/\xwp cs x bs c y
theorem IntoAt.tups{H a:Hp}{cs:List Chn}{x:Str}{bs:List (Str×Str)}{w:V}(h:IntoAt H cs x bs w)(s:∀b vs,H b=some (.tup vs)->a b=some (.tup vs)):IntoAt a cs x bs w:=by
 obtain⟨b,c,y,e,f,r⟩:=h;exact(xco b c y e (s _ _ f) r)
def xl9:Sp:=λvs H Q _=>∃(cv bv:V) (cs:List Chn) (x:Str) (bs:List (Str×Str)),vs=[cv,.str x,bv]/\RelD H cv (.tup (cs.map dChn))/\cs.length<=6/\RelD H bv (xd8 bs)/\bs.length<=5/\∀l ws H',Same H H'->H l=none->H' l=some (.lst ws)->(∀w∈ws,IntoAt H' cs x bs w)->ws.length<=30->Q (.ref l) H'
theorem xka(xs:List Str):(xs.map V.str).all xg6=true:=by
 rw[List.all_map];exact List.all_eq_true.mpr λ_ _=>rfl
theorem xoz{H:Hp}{us:List V}{bs:List (Str×Str)}(g:RelDs H us (bs.map xlv)){i:Nat}{v:V}(a:us[i]?=some v):∃(b:Addr) (p:Str×Str),bs[i]?=some p/\v=.ref b/\H b=some (.tup [.str p.1,.str p.2]):=by
 obtain⟨d,hd,rd⟩:=g.get a;rw[zGM]at hd;obtain⟨c,e,rfl⟩:=zMS hd;obtain⟨b,ws,rfl,f,_,_,rfl,rfl,_,_,rfl,rfl,rfl⟩:=rd;exact(xaq b c e rfl f)
theorem xrb(T:Tx K mg):DefIs P w K mg base (n+1) "_law_into" qat xl9:=by
 refine DefIs.of T.kE scl_into (by walk_at"l") (λf aa A outer s H vs Q E hr h=>?_);obtain⟨cv,bv,cs,x,bs,rfl,a4,h6,a5,h5,q⟩:=h;have nd:=scl_into.nd
 refine⟨_,(zpn (psn 3 nd (xbt pN))
   (zpn (xci zF rfl (xa1 (K:=K) rfl (pv 0)) (xbc (K:=K) rfl rfl (xad (pgn 4 nd) (xad (pgn 5 nd) (xad (pgn 6 nd) (xad (pgn 7 nd) xa9)))))
   (zpo (psn 3 nd (xan xes (pv 3) (xbj ["_law_x","_law_told","_law_c","_law_to","_law_h","_law_kind"] [none,none,some 4,some 6,some 1,some 7] rfl (by kernel_rfl) (xa1 (K:=K) rfl (pv 2)) (λ_ _ _ _=>(xbc (K:=K) (n:=2) rfl rfl (xad (pgc 0) (xad (pgc 1) xa9)))) (λ_ _ _ _=>(xdt (PW.pt (xcr (pR xbd (pv 3) (pv 4) (nM _)) (xb8 (pR xbd (pv 1) (pv 5) (nM _))))))) (λ_ _ _ _=>(xaz (va 2 (v1 0)))))))))
   (zpo (xag (pv 3))))),xab λR1 a9=>?_⟩
 refine⟨(by walk_at"s"),λl0 J=>a9 _ _ (xab λR2 a8=>?_)⟩;have s0:=zA J (.lst []);obtain⟨ca,us,rfl,M,hR⟩:=a4;obtain⟨ba,ub,rfl,O,hB⟩:=a5;have a2:=hR.length;have a6:=hB.length;rw[zLM]at a2 a6;refine(xbi _ rfl ca rfl ⟨_,zB (s0 _ _ M)⟩ ?_)
 refine xd4 (xs:=us) (λi σ r=>∃(l:Addr) (ws:List V) (o4 Z Y U:Option V),σ=[some (.ref ca),some (.str x),some (.ref ba),some (.ref l),o4,Z,Y,U]/\Same H r/\H l=none/\r l=some (.lst ws)/\(∀w∈ws,IntoAt r cs x bs w)/\ws.length<=5*i)
  (xam l0 ([]) none none none (xb1 none rfl s0 J ups (λ_ h=>nomatch h) (qO _))) (λi σ r _ p=>?_) ?_ ?_
 ·obtain⟨_,_,_,_,_,_,_,m,_⟩:=p
  exact zB (m _ _ M)
 ·rintro i v σ H1 hv ⟨l,ws,o4,Z,Y,U,rfl,m,hl,z,g,a1⟩
  obtain⟨b,c,hc,rfl,hb⟩:=xds hR hv;have hi:i<us.length:=(zES hv).1;refine(xaw b _ rfl (zB (m _ _ hb)) rfl _ _ rfl _ (jEA _ rfl (jEEA _ _ rfl (xaq _ _ rfl rfl ?_))));refine(xd3 _ rfl _ rfl (jEAA ba rfl ⟨_,zB (m _ _ O)⟩ ?_));refine xbo (xs:=ub) (λj ys r=>Same H1 r/\(∀w∈ys,IntoAt r cs x bs w)/\ys.length<=j) (jAA (Same.refl _) (λ_ h=>nomatch h) (zZ _)) (xa2 (by omega)) (λj ys r _ p=>zB ((m.trans p.1) _ _ O)) ?_ ?_
  ·rintro j y ys H2 hy hj o ⟨C,a,a0⟩
   obtain⟨b2,pb,a3,rfl,a7⟩:=xoz hB hy;refine(xaw b2 _ rfl (zB ((m.trans C) _ _ a7)) rfl _ _ rfl _ (xbr _ rfl rfl (ext2 rfl rfl) ?_));refine(xc1 _ rfl _ rfl rfl _ rfl (ite2 (λc1=>?_) (λc1=>iteF (nxtN hj o (jAA C a (by omega))))));refine(xc1 _ rfl _ rfl rfl _ rfl (ite2 (λc2=>?_) (λc2=>nxtN hj o (jAA C a (by omega)))));refine(xbi _ rfl _ rfl (by walk_at"s") (λt ht=>nxtG hj o ?_));have st:=zA ht (.tup [.str c.1,.str pb.1]);refine(jAA (C.trans st) (λw e=>?_) (by rw[zLA,List.length_singleton];omega));rcases zMA e with e |e
   ·exact(a w e).tups (Same.tups st)
   ·rw[zMO e]
    have e1:c.2.2.1=x:=V.str.inj (z0 c1);have e2:pb.2=c.2.2.2:=V.str.inj (z0 c2);exact(xco t c.1 pb.1 rfl ups (xbr c (zMG hc) rfl e1 (by rw[<- e2];exact zMG a3)))
  ·rintro ys H2 o ⟨C,a,a0⟩ D hD
   have sD:=zA hD (.lst ys);have u:=C.trans sD;refine(xay l D ws ys rfl rfl (u _ _ z) ups (fits (by omega)) (λl2 I=>?_));have sl:=zA I (.lst (ws++ys));have G:=u.trans sl;refine(xam l2 (ws++ys) _ _ _ (xb1 _ rfl (m.trans G) (xae (m.trans u) I) ups (λw e=>?_) (by rw[zLA];omega)));rcases zMA e with e |e
   ·exact(g w e).tups (Same.tups G)
   ·exact(a w e).tups (Same.tups (sD.trans sl))
 ·rintro σ H1 ⟨l,ws,o4,Z,Y,U,rfl,m,hl,z,g,a1⟩
  exact a8 _ _ (jEA _ rfl (q l ws H1 m hl z g (by omega)))
theorem xo8(T:Tx K mg)(a:DefIs P w K mg base n "_law_take" qae xc2)(m:DefIs P w K mg base n "_law_any_kind" qam xqx):DefIs P w K mg base (n+1) "_law_boxes" qbe xva:=by
 refine DefIs.of T.kD scl_boxes (by walk_at"l") (λf b2 A outer s H vs Q E hr h=>?_);obtain⟨U,nb,kv,cv,ks,a8,cs,x,rfl,g,aj,h6,ak,q⟩:=h;have nd:=scl_boxes.nd
 refine⟨_,(zpn (psn 5 nd (xbt pN))
   (zpn (xci zF rfl (xa1 (K:=K) rfl (pv 2)) (xbc (K:=K) rfl rfl (xad (pgn 6 nd) (xad (pgn 7 nd) (xad (pgn 8 nd) (xad (pgn 9 nd) xa9)))))
   (zpo (xa6 (PW.pt (xcr (pR xbd (pv 8) (pv 3) (nM _)) (xb8 (pR xfm (pv 9) (pv 5) (by with_unfolding_all rfl))))) (zpo (xb0 (xdj zD zH zG xbn (pv 5) (v1 9)))) pQ)))
   (zpn (xci zF rfl (xcj rfl T.k4 (pc (pd a hr (va 0 (pc pI pN so))) pN zsc)) (pgn 10 nd)
   (zpo (xb0 (xdj zD zH zG xbn (pv 5) (pc (pd m hr (va 0 (v1 1))) pN zsc)))))
   (zpn (psn 11 nd (xan xcn (pd a hr (va 0 (pc pI pN so))) pI))
   (zpo (xag (xat (xbx (K:=K) rfl) rfl T.k9 zK (pc (xbj ["_law_k","_law_names_here","_law_wants","_law_turn"] [none,some 4,some 5,some 11] rfl (by kernel_rfl) (xcj rfl T.k4 (pc (xau (xkg rfl) rfl T.k0 PyProof.Rows.boot_min (pc pI (pc (xau (xah (K:=K) rfl) rfl T.kX zE (v1 5)) pN zsc) so)) pN zsc)) (λ_ _ _ _=>(pgc 0)) (λ_ _ _ _=>xbp) (λ_ _ _ _=>(xaz (pc (pxl K (pv 1) (xan xbe pI (xan xcm (xan xbe (pv 0) (pv 3)) pI))) (pc (pxl K (pv 2) (pv 0)) pN ss) ss)))) pN xb2)))))))),xab λR1 ao=>?_⟩
 refine⟨(by walk_at"s"),λl M=>ao _ _ (xab λR2 an=>?_)⟩;have s0:=zA M (.lst []);obtain⟨p0,q0,a4⟩:=g.fd;have lf:l≠U:=Ne.symm (neN a4 M);have ax:nb≠l:=neN g.nl M;obtain⟨ca,us,rfl,a5,hR⟩:=aj;have aa:=hR.length;rw[zLM]at aa;have O:=g.wf.few;refine(xbi _ rfl ca rfl ⟨_,zB (s0 _ _ a5)⟩ ?_);have grow:∀{C:Hp} {xs:List Str} (k:Str),SameBut l H C->C l=some (.lst (xs.map V.str))->SameBut l H (upd C l (.lst ((xs++[k]).map V.str))):=λk s _=>s.trans (SameBut.upd _ _ _)
 refine xd4 (xs:=us) (λi σ C=>∃(xs:List Str) (o6 o7 o8 o9:Option V),σ=[some (.ref U),some kv,some (.ref ca),some (.str x),some (.ref nb),some (.ref l),o6,o7,o8,o9,none,none]/\SameBut l H C/\C l=some (.lst (xs.map V.str))/\(∀k∈xs,KIn ks ks.length k)/\xs.length<=i)
  (xam ([]) none none none none (jAAA rfl s0.but ups ⟨(λ_ h=>nomatch h),qO _⟩)) (λi σ C _ p=>?_) ?_ ?_
 ·obtain⟨_,_,_,_,_,_,I,_⟩:=p
  exact zB (I _ _ a5 (neN a5 M))
 ·rintro i v σ H1 hv ⟨xs,o6,o7,o8,o9,rfl,I,r,J,a0⟩
  obtain⟨b,c,hc,rfl,u⟩:=xds hR hv;have hi:i<us.length:=(zES hv).1;refine(xaw b _ rfl (zB (I _ _ u (neN u M))) rfl _ _ rfl _ (jEA _ rfl (jEEA _ _ rfl (xaq _ _ rfl rfl ?_))));refine(xc1 _ rfl _ rfl rfl _ rfl (ite2 (λc1=>?_) (λc1=>iteF (xam xs _ _ _ _ (jAAA rfl I r ⟨J,by omega⟩)))));refine(xb3 _ rfl _ rfl l _ rfl (.inl (zC r)) (jAA rfl (xka xs) (jEA _ rfl (ite2 (λc2=>?_) (λc2=>(xam xs _ _ _ _ (jAAA rfl I r ⟨J,by omega⟩)))))));refine(xa0 _ rfl (.inl (jAE rfl _ (zC r))) _ rfl (xaj l _ _ rfl rfl r (xa2 (by rw[zLM];omega)) ?_));refine(xam (xs++[c.2.2.2]) _ _ _ _ (jAAA rfl (I.trans (SameBut.upd _ _ _)) (by rw[ups,zAP];rfl) ⟨λk a2=>?_,by rw[zLA,List.length_singleton];omega⟩));rcases zMA a2 with h |h
  ·exact J k h
  ·rw[zMO h];exact ak c (zMG hc)
 rintro σ H1 ⟨xs,o6,o7,o8,o9,rfl,I,r,J,a0⟩;refine an _ _ (xab λR3 am=>?_);have F1:Fed U H H1:=(jAE (λb o e _=>I b o e (neN e M)) p0 ⟨q0,I _ _ a4 (neN a4 M)⟩);have g1:=g.fed F1;obtain⟨p1,q1,ai⟩:=F1.2;refine(xaa _ rfl U p1 q1 3 rfl ai (by decide) (by decide) (λr1 H2 aw av f2=>(xbr _ rfl (by omega) (by omega) ?_)))
 refine xc7 (λi σ C=>∃(xs:List Str) (Y:Option V),σ=[some (.ref U),some kv,some (.ref ca),some (.str x),some (.ref nb),some (.ref l),o6,o7,o8,o9,Y,none]/\Fed U H C/\C l=some (.lst (xs.map V.str))/\(∀k∈xs,KIn ks ks.length k)/\xs.length<=6+i)
  (xct xs none rfl (F1.trans f2) (f2.1 _ _ r lf) J (by omega)) ?_ ?_
 ·rintro i σ H3 hi ⟨xs,Y,rfl,F3,r,J,a0⟩
  have g3:=g.fed F3;obtain⟨p3,q3,a3⟩:=F3.2;obtain⟨ka,a9,aq,ag,af⟩:=id g3.kd;subst aq;refine(xa0 _ rfl (.inl (jAE rfl _ (zC r))) _ rfl (xa4 _ rfl U ka p3 q3 (xba a9 ks rfl a3 (.inr ag) af O (λkx H4 ae f4=>?_))));have y:=f4.1 _ _ r lf;refine(xaj l _ _ rfl rfl y (xa2 (by rw[zLM];omega)) ?_);have F4:=F3.trans f4;refine(xct (xs++[kx]) _ rfl ?_ (by rw[ups,zAP];rfl) (λk a2=>?_) (by rw[zLA,List.length_singleton];omega))
  ·refine⟨λb o e u=>by rw[xai (neN e M)];exact F4.1 b o e u,?_⟩
   obtain⟨p4,q4,ah⟩:=F4.2;exact(jEE p4 q4 (by rw[xai (Ne.symm lf)];exact ah))
  ·rcases zMA a2 with h |h
   ·exact J k h
   ·rw[zMO h];exact ae
 rintro σ H3 ⟨xs,Y,rfl,F3,r,J,a0⟩;refine am _ _ (xab λR4 al=>?_);obtain⟨p3,q3,a3⟩:=F3.2;refine(xaa _ rfl U p3 q3 4 rfl a3 (by decide) (by decide) (λr4 H4 au ar f4=>(xb5 _ _ rfl rfl ⟨by decide,by decide⟩ (al _ _ ?_))));have F4:=F3.trans f4;have g4:=g.fed F4;have y:=f4.1 _ _ r lf;have xl:(xs.map V.str).length=xs.length:=zLM _;refine(xa8 _ rfl l _ rfl (.inl (zC y)) (jEEA _ _ rfl ?_))
 obtain⟨N,hN,b1,b0⟩:∃N:Nat,(if ((xs.map V.str).length:Int)<5 then ((xs.map V.str).length:Int) else 5)=(N:Int)/\N<=5/\N<=xs.length:=by
  rw[xl];refine(jEAA ((if (xs.length:Int)<5 then (xs.length:Int) else 5).toNat) ?_ ?_ ?_) <;> split <;> omega
 rw[hN];refine(xbr _ rfl (by omega) (by omega) ?_);have tn:0<=r4 / 2/\r4 / 2<=1:=by omega
 obtain⟨tt,ab⟩:∃t:Nat,r4 / 2=(t:Int):=⟨(r4 / 2).toNat,by omega⟩;have ix:∀i:Nat,(18+((0+(i:Int))+r4 / 2)%6)=((18+(i+tt)%6:Nat):Int):=λi=>by rw[ab];omega
 refine xdz (j:=0) (λi ys C=>Same H4 C/\∃bs:List (Str×Str),RelDs C ys (bs.map xlv)/\bs.length=i/\(∀(j:Nat) b,bs[j]?=some b->a8[18+(j+tt)%6]?=some b.1)/\∀b∈bs,KIn ks 6 b.2) (by rfl) (xii (Same.refl _) ([]) rfl rfl ⟨(λj b h=>by simp at h),λ_ h=>nomatch h⟩) (xa2 (by omega)) ?_ ?_
 ·rintro i ys H5 hi a7 ⟨s5,bs,Z,a6,G,a1⟩
  have g5:=g4.same s5;obtain⟨z,hz,az⟩:=g5.name (i:=18+(i+tt)%6) (by omega);have hx:i<xs.length:=by omega
  refine(xa7 _ rfl _ rfl _ rfl _ _ rfl rfl (xb5 _ _ rfl rfl (by show(0:Int)<6;decide) (xaq _ _ rfl rfl (xak nb _ _ _ rfl rfl (zC g5.nl) (by rw[ix];exact az) ?_))));refine(xap _ rfl _ rfl l _ _ (xb1 (.str xs[i]) rfl rfl (zC (s5 _ _ y)) ?_ (by walk_at"s") (λt ht=>nxt hi a7 ?_)))
  ·rw[show(0+(i:Int))=(i:Int) by omega]
   exact xav (by rw[zGM,zGA hx];rfl)
  have st:=zA ht (.tup [.str z,.str xs[i]]);refine(xii (s5.trans st) (bs++[(z,xs[i])]) ?_ (by rw[zLA,List.length_singleton,a6]) ⟨λj b u=>?_,λb u=>?_⟩)
  ·rw[zAP]
   exact(Z.same st _).append (xaq (.ref t) ([]) rfl (xas t _ rfl ups _ _ rfl rfl _ (jEAA _ rfl rfl rfl)) rfl)
  ·by_cases hj:j<bs.length
   ·rw[List.getElem?_append_left hj]at u
    exact G j b u
   ·have ac:=(zES u).1
    rw[zLA,List.length_singleton]at ac;have e0:j=i:=by omega
    subst e0;rw[List.getElem?_append_right (by omega),a6,Nat.sub_self]at u;simp at u;subst u;exact hz
  ·rcases zMA u with h |h
   ·exact a1 b h
   ·rw[zMO h]
    exact(J _ (qP hx)).mono O
 ·rintro ys H5 a7 ⟨s5,bs,Z,a6,G,a1⟩ D hD
  have sD:=zA hD (.lst ys);refine(jEEA D ys rfl (.inl ⟨zC ups,λt ht=>?_⟩));have st:=zA ht (.tup ys);have sA:=sD.trans st;refine q _ bs _ (F4.same (s5.trans sA)) (xaq t ys rfl ups (Z.same sA _)) ⟨by omega,?_,λb u=>?_,a1⟩
  ·refine List.pairwise_iff_getElem.mpr λi j hi hj ay e=>?_
   rw[zLM]at hi hj;rw[List.getElem_map,List.getElem_map]at e;have h1:=G i _ (zGA hi);have h2:=G j _ (zGA hj);rw[e]at h1;have:=g.ok.at18 (by omega) (by omega) h1 h2;omega
  ·obtain⟨j,hj,e⟩:=zMI u
   have:=G j b (by rw[<- e];exact zGA hj);exact zMG this
def Sb2(f m:Addr)(H H':Hp):Prop:=(∀b o,H b=some o->b≠f->b≠m->H' b=some o)/\∃p q:Int,H' f=some (.lst [.int p,.int q])
theorem Sb2.of{f m:Addr}{H a:Hp}(h:Fed f H a):Sb2 f m H a:=⟨λb o e n _=>h.1 b o e n,h.2⟩
theorem Sb2.same{f m:Addr}{H c a:Hp}(h:Sb2 f m H c)(s:Same c a):Sb2 f m H a:=by
 obtain⟨l,p,q,j⟩:=h;exact(jAE (λb o e i g=>s _ _ (l b o e i g)) p ⟨q,s _ _ j⟩)
theorem Sb2.upd{f m:Addr}{H c:Hp}(h:Sb2 f m H c)(n:m≠f)(o:HO):Sb2 f m H (L2.upd c m o):=by
 obtain⟨j,p,q,i⟩:=h;exact(jAE (λb u e g a=>by rw[xai a];exact j b u e g a) p ⟨q,by rw[xai (Ne.symm n)];exact i⟩)
structure DIn(H:Hp)(f:Addr)(kv cv bv:V)(ks:List Kn)(cs:List Chn)(bs:List (Str×Str)):Prop where
 fd:∃p q:Int,H f=some (.lst [.int p,.int q])
 kd:RelD H kv (xee ks)
 wf:KWf ks
 pb:PNB ks
 cd:RelD H cv (.tup (cs.map dChn))
 c6:cs.length<=6
 ck:∀c∈cs,KIn ks 6 c.2.2.2
 bd:RelD H bv (xd8 bs)
 b5:bs.length<=5
 bn:(bs.map (·.1)).Nodup
 bb:∀b∈bs,NoBy b.1
 bk:∀b∈bs,KIn ks 6 b.2
theorem DIn.keep{H a:Hp}{f:Addr}{c e g:V}{ks:List Kn}{cs:List Chn}{bs:List (Str×Str)}(d:DIn H f c e g ks cs bs)(s:∀b vs,H b=some (.tup vs)->a b=some (.tup vs))(h:∃p q:Int,a f=some (.lst [.int p,.int q])):DIn a f c e g ks cs bs:=
 ⟨h,d.kd.tups s _,d.wf,d.pb,d.cd.tups s _,d.c6,d.ck,d.bd.tups s _,d.b5,d.bn,d.bb,d.bk⟩
theorem DIn.same{H e:Hp}{f:Addr}{a b c:V}{ks:List Kn}{cs:List Chn}{bs:List (Str×Str)}(d:DIn H f a b c ks cs bs)(s:Same H e):DIn e f a b c ks cs bs:=d.keep (Same.tups s) (by obtain⟨p,q,h⟩:=d.fd;exact(jEE p q (s _ _ h)))
theorem DIn.fed{H e:Hp}{f:Addr}{a b c:V}{ks:List Kn}{cs:List Chn}{bs:List (Str×Str)}(d:DIn H f a b c ks cs bs)(s:Fed f H e):DIn e f a b c ks cs bs:=d.keep (xal d.fd s) s.2
theorem DIn.tin{H:Hp}{f c:Addr}{g l m:V}{ks:List Kn}{cs:List Chn}{bs:List (Str×Str)}(d:DIn H f g l m ks cs bs){us:List V}(a:H c=none)(e:RelDs H us (bs.map xlv)):TIn (upd H c (.lst us)) f g (.ref c) ks bs 3:=by
 have s:=zA a (.lst us);have d':=d.same s;obtain⟨p,q,h⟩:=d.fd;exact⟨d'.fd,d'.kd,d.wf,d.pb,(xb5 c us rfl ups (e.same s _) (Ne.symm (neN h a))),d.bn,by have:=d.b5;omega,λb i j _=>d.bb b i j,d.bk⟩
theorem xvf{k n:Nat}(h:k<n):seqIndex? (k:Int) n=some k:=by
 unfold seqIndex?;have:¬(k:Int)<0:=by omega
 simp only[if_neg this];rw[if_pos (by simp;omega),Int.toNat_natCast]
theorem xsw:∀(l:List Str) (i:Nat),(l.map V.str).eraseIdx i=(l.eraseIdx i).map V.str
 |[],i=>rfl
 |a::l,0=>rfl
 |a::l,i+1=>by
  rw[List.map_cons,List.eraseIdx_cons_succ,List.eraseIdx_cons_succ,List.map_cons,xsw l i]
def xok:Sp:=λvs H Q _=>∃(f m:Addr) (kv cv bv:V) (ks:List Kn) (cs:List Chn) (bs:List (Str×Str)) (x:Str) (ms:List Str),vs=[.ref f,kv,cv,.str x,bv,.ref m]/\DIn H f kv cv bv ks cs bs/\H m=some (.lst (ms.map V.str))/\m≠f/\ms.length<=100 ∧
 ∀u r ms' H',Sb2 f m H H'->H' m=some (.lst (ms'.map V.str))->ms'.length<=ms.length->((∀l c y,r≠.take l c y)->ms'=ms)->RelD H' u r.d->(∀n,xfw ks cs x bs n r)->(∀b vs,H b=some (.tup vs)->H' b=some (.tup vs))->Q u H'
theorem xrc(T:Tx K mg)(a:DefIs P w K mg base n "_law_take" qae xc2)(C:DefIs P w K mg base n "_law_into" qat xl9)(g:DefIs P w K mg base n "_law_new_term" qak xi0):DefIs P w K mg base (n+1) "_law_deal" qa1 xok:=by
 refine DefIs.of T.kF scl_deal (by walk_at"l") (λf c4 A outer s H vs Q E hr h=>?_);obtain⟨G,ml,kv,cv,bv,ks,cs,bs,x,O,rfl,d,aq,mf,bx,q⟩:=h;have nd:=scl_deal.nd;have c6:=d.c6;have b5:=d.b5
 refine⟨_,(zpn (psn 6 nd (pd a hr (va 0 (pc pI pN so))))
   (zpn (psn 7 nd (pd C hr (va 2 (va 3 (v1 4)))))
   (zpn (xcx (i:=8) ["_law_c","_law_come","_law_to","_law_kind","_law_h"] [none,none,none,none,some 3] rfl (by kernel_rfl) nd rfl (by walk_at"o") (xa1 (K:=K) rfl (pv 2)) (λ_ _ _ _=>(xbc (K:=K) (n:=4) rfl rfl (xad (pgc 0) (xad (pgc 1) (xad (pgc 2) (xad (pgc 3) xa9)))))) (λ_ _ _ _=>(xdt (pR xbd (pv 1) (pv 4) (nM _)))) (λ_ _ _ _=>(xaz (va 0 (v1 3)))))
   (zpn (xa6 (PW.pt (xcr (pR xft (pv 6) pI (nM _)) (xcr (pR xdu (xau (xah (K:=K) rfl) rfl T.kX zE (v1 7)) pI (nM _)) (xb8 (pR xdu (xau (xah (K:=K) rfl) rfl T.kX zE (v1 5)) pI (nM _)))))) (zpn (xdo (pxl K (pv 7) (pd a hr (va 0 (pc (xau (xah (K:=K) rfl) rfl T.kX zE (v1 7)) pN zsc)))) (xbc (K:=K) rfl rfl (xad (pgn 9 nd) (xad (pgn 10 nd) xa9))))
   (zpo (xag (xaz (pc pS (pc (xdj zD PySem.F.slot_list_pop PySem.F.type_list_pop xie (pv 5) (pc (pd a hr (va 0 (pc (xau (xah (K:=K) rfl) rfl T.kX zE (v1 5)) pN zsc))) pN zsc)) (va 9 (v1 10)) zsc) so))))) pQ)
   (zpn (xa6 (PW.pt (xcr (pR xft (pv 6) pI (nM _)) (xb8 (pR xdu (xau (xah (K:=K) rfl) rfl T.kX zE (v1 8)) pI (nM _))))) (zpn (xdo (pxl K (pv 8) (pd a hr (va 0 (pc (xau (xah (K:=K) rfl) rfl T.kX zE (v1 8)) pN zsc)))) (xbc (K:=K) rfl rfl (xad (pgn 9 nd) (xad (pgn 11 nd) xa9))))
   (zpo (xag (xaz (pc pS (va 9 (pc (pd g hr (va 0 (va 1 (pc (xat xb4 rfl T.kY zM (v1 4)) (v1 11) zsc)))) pN zsc)) so))))) pQ)
   (zpn (xa6 (PW.pt (xcr (pR xft (pv 6) pI (nM _)) (xb8 (pR xdu (xau (xah (K:=K) rfl) rfl T.kX zE (v1 4)) pI (nM _))))) (zpn (xdo (px K (pv 4) (pd a hr (va 0 (pc (xau (xah (K:=K) rfl) rfl T.kX zE (v1 4)) pN zsc)))) (xbc (K:=K) rfl rfl (xad (pgn 10 nd) (xad (pgn 11 nd) xa9))))
   (zpo (xag (xaz (pc pS (va 10 (pc (pd g hr (va 0 (va 1 (pc (xat xb4 rfl T.kY zM (v1 4)) (v1 11) zsc)))) pN zsc)) so))))) pQ)
   (zpo (xag (xaz (pc pS (pc (pd g hr (va 0 (va 1 (pc (xat xb4 rfl T.kY zM (v1 4)) (pc pS pN so) zsc)))) pN zsc) so)))))))))),xab λR1 bn=>?_⟩
 obtain⟨p0,q0,b8⟩:=d.fd;refine(xaa _ rfl G p0 q0 8 rfl b8 (by decide) (by decide) (λfm H1 c0 bz f1=>bn _ _ (xab λR2 bm=>?_)));have d1:=d.fed f1;have ac:=f1.1 _ _ aq mf;refine(xbw _ rfl _ rfl _ rfl cv bv (xaj cs x bs rfl d1.cd c6 d1.bd ⟨b5,λil ws H2 s2 ar b6 ae bu=>bm _ _ (xab λR3 bj=>?_)⟩));have d2:=d1.same s2;have ao:=s2 _ _ ac;have F2:Fed G H H2:=f1.same s2;obtain⟨ca,uc,bo,ax,ay⟩:=id d2.cd;subst bo;have bb:=ay.length;rw[zLM]at bb;refine(xbi _ rfl ca rfl ⟨_,zB ax⟩ ?_);refine xbo (xs:=uc) (λi ys H'=>Same H2 H'/\(∀w∈ys,∃(b:Addr) (ch:Chn),w=.ref b/\H' b=some (.tup [.str ch.1,.str ch.2.2.2])/\ch∈cs/\ch.2.1=x)/\ys.length<=i) (jAA (Same.refl _) (λ_ h=>nomatch h) (zZ _)) (xa2 (by omega)) (λi ys H' _ p=>zB (p.1 _ _ ax)) ?_ ?_
 ·rintro i y ys H3 hy hi af ⟨s3,a0,b1⟩
  obtain⟨b,c,hc,rfl,hb⟩:=xds ay hy;refine(xaw b _ rfl (zB (s3 _ _ hb)) rfl _ _ rfl _ (jEA _ rfl (jEEA _ _ rfl (xb5 _ _ rfl rfl (ext4 rfl rfl rfl rfl) ?_))));refine(xc1 _ rfl _ rfl rfl _ rfl (ite2 (λc1=>?_) (λc1=>nxtN hi af (jAA s3 a0 (by omega)))));refine(xbi _ rfl _ rfl (by walk_at"s") (λt ht=>nxtG hi af ?_));have st:=zA ht (.tup [.str c.1,.str c.2.2.2]);refine(jAA (s3.trans st) (λw hw=>?_) (by rw[zLA,List.length_singleton];omega));rcases zMA hw with hw |hw
  ·obtain⟨b',ch,e,bf,r⟩:=a0 w hw
   exact(xaq b' ch e (st _ _ bf) r)
  ·rw[zMO hw]
   exact(xb5 t c rfl ups (zMG hc) (V.str.inj (z0 c1)))
 rintro ys H3 af ⟨s3,a0,b1⟩ D hD;have sD:=zA hD (.lst ys);obtain⟨H4,a8⟩:∃H4,H4=upd H3 D (.lst ys):=⟨_,rfl⟩;have ai:H4 D=some (.lst ys):=by rw[a8];exact ups
 rw[<- a8]at sD;have s4:=s3.trans sD;have d4:=d2.same s4;have F4:Fed G H H4:=F2.same s4;have a2:=s4 _ _ ao;have a3:=s4 _ _ b6;obtain⟨p1,q1,av⟩:=f1.2;have b0:il≠G:=Ne.symm (neN av ar);have bt:il≠ml:=Ne.symm (neN ac ar);have Df:D≠G:=Ne.symm (neN (s3 _ _ (s2 _ _ av)) hD);obtain⟨p4,q4,M⟩:=F4.2;obtain⟨ba,ub,bp,U,a6⟩:=id d4.bd;subst bp;have bc:=a6.length;rw[zLM]at bc;have az:(O.map V.str).length=O.length:=zLM _;have ah:∀w∈ws,IntoAt H4 cs x bs w:=λw hw=>(ae w hw).tups (Same.tups s4)
 have al:∀w∈ys,∃(b:Addr) (ch:Chn),w=.ref b/\H4 b=some (.tup [.str ch.1,.str ch.2.2.2])/\ch∈cs/\ch.2.1=x:=λw hw=>by
  obtain⟨b,ch,e,hb,r⟩:=a0 w hw;exact(xaq b ch e (sD _ _ hb) r)
 rw[<- a8];clear a8 ae a0
 have a7:∀{H5 H6:Hp} {u:V} {r:Row},Fed G H4 H5->Same H5 H6->(∀l c y,r≠.take l c y)->RelD H6 u r.d->(∀n,xfw ks cs x bs n r)->Q u H6:=λ{H5 H6 u r} o s6 bw hu b2=>by
  have F5:=(F4.trans o).same s6;exact q u r O H6 (Sb2.of F5) (s6 _ _ (o.1 _ _ a2 mf)) (zZ _) (λ_=>rfl) hu b2 (xal d.fd F5)
 refine bj _ _ (xab λR4 bi=>?_)
 have Z:R4 [some (.ref G),some kv,some (.ref ca),some (.str x),some (.ref ba),some (.ref ml),some (.int fm),some (.ref il),some (.ref D),none,none,none] H4:=by
  refine bi _ _ (xab λR5 bh=>?_)
  have aa:R5 [some (.ref G),some kv,some (.ref ca),some (.str x),some (.ref ba),some (.ref ml),some (.int fm),some (.ref il),some (.ref D),none,none,none] H4:=by
   refine bh _ _ (xab λR6 bg=>?_)
   have a9:R6 [some (.ref G),some kv,some (.ref ca),some (.str x),some (.ref ba),some (.ref ml),some (.int fm),some (.ref il),some (.ref D),none,none,none] H4:=by
    refine bg _ _ ?_;refine(xa7 _ rfl _ rfl _ rfl ba ub rfl (.inr (zB U)) (λbl j=>?_));have sb:=zA j (.lst ub);refine(xam G kv (.ref bl) ks bs (xbr (S "num") rfl (d4.tin j a6) (.inl rfl) (λta td H5 o rd tb=>⟨(by walk_at"s"),λt ht=>?_⟩)));have st:=zA ht (.tup [.str (S "tell"),.ref ta]);exact a7 (r:=.tell td) (((Fed.refl M).same sb).trans o) st (by intro _ _ _ e;cases e) (xas t _ rfl ups _ _ rfl rfl _ (jEAA _ rfl (rd.same st _) rfl)) λ_=>tb.1
   refine(xbg _ rfl _ _ rfl rfl _ rfl (ite2 (λc1=>?_) (λc1=>iteF a9)));refine(xbv _ rfl ba _ rfl (.inr (zB U)) _ _ rfl rfl (jEA _ rfl (ite2 (λc2=>?_) (λc2=>a9))));have ab:=z0 c2;refine xab λS1 a5=>?_;refine(xa7 _ rfl _ rfl _ rfl ba _ rfl (.inr (zB U)) (xak G p4 q4 _ rfl M (by omega) (by omega) (λr5 H5 ak aj o=>?_)));obtain⟨i5,rfl⟩:∃i:Nat,r5=(i:Int):=⟨r5.toNat,by omega⟩;have I:i5<ub.length:=by omega
   have m:=xal (jEE p4 q4 M) o;obtain⟨J,pb,b4,eb,a4⟩:=xoz a6 (zGA I);refine(xbk ba _ _ (.ref J) rfl rfl (zB (m _ _ U)) (xav (by rw[zGA I,eb])) J (xbr _ rfl (zB (m _ _ a4)) rfl (jEEA _ _ rfl (xaq _ _ rfl rfl (a5 _ _ ?_)))));have am:=zMG b4;have d5:=d4.fed o;refine(xcz _ rfl _ rfl _ rfl _ rfl ba (jEAA ub rfl (.inr (zB (m _ _ U))) (λbl j=>?_)));have sb:=zA j (.lst ub);refine(xa4 _ rfl G kv (.ref bl) ks (xb5 bs pb.2 rfl (d5.tin j (a6.tups m _)) (d.bk pb am) (λta td H6 f6 rd tb=>⟨(by walk_at"s"),λt ht=>?_⟩)));have st:=zA ht (.tup [.str (S "set"),.str pb.1,.ref ta]);exact a7 (r:=.set pb.1 td) ((o.same sb).trans f6) st (by intro _ _ _ e;cases e) (xas t _ rfl ups _ _ rfl rfl _ (xbh _ rfl rfl _ _ rfl (rd.same st _) rfl)) λ_=>(jEA pb.2 am tb.1)
  refine(xbg _ rfl _ _ rfl rfl _ rfl (ite2 (λc1=>?_) (λc1=>iteF aa)));refine(xbv _ rfl D _ rfl (.inl (zC ai)) _ _ rfl rfl (jEA _ rfl (ite2 (λc2=>?_) (λc2=>aa))));have ab:=z0 c2;refine xab λS1 a5=>?_;refine(xa7 _ rfl _ rfl _ rfl D _ rfl (.inl (zC ai)) (xak G p4 q4 _ rfl M (by omega) (by omega) (λr5 H5 ak aj o=>?_)));obtain⟨i5,rfl⟩:∃i:Nat,r5=(i:Int):=⟨r5.toNat,by omega⟩;have I:i5<ys.length:=by omega
  have m:=xal (jEE p4 q4 M) o;obtain⟨J,ch,eb,a4,aw,b9⟩:=al _ (qP I);refine(xbk D _ _ (.ref J) rfl rfl (zC (o.1 _ _ ai Df)) (xav (by rw[zGA I,eb])) J (xbr _ rfl (zB (m _ _ a4)) rfl (jEEA _ _ rfl (xaq _ _ rfl rfl (a5 _ _ ?_)))));have d5:=d4.fed o;refine(xcz _ rfl _ rfl _ rfl _ rfl ba (jEAA ub rfl (.inr (zB (m _ _ U))) (λbl j=>?_)));have sb:=zA j (.lst ub);refine(xa4 _ rfl G kv (.ref bl) ks (xb5 bs ch.2.2.2 rfl (d5.tin j (a6.tups m _)) (d.ck ch aw) (λta td H6 f6 rd tb=>⟨(by walk_at"s"),λt ht=>?_⟩)));have st:=zA ht (.tup [.str (S "send"),.str ch.1,.ref ta]);exact a7 (r:=.send ch.1 td) ((o.same sb).trans f6) st (by intro _ _ _ e;cases e) (xas t _ rfl ups _ _ rfl rfl _ (xbh _ rfl rfl _ _ rfl (rd.same st _) rfl)) λ_=>(xbr ch aw rfl b9 tb.1)
 refine(xbg _ rfl _ _ rfl rfl _ rfl (ite2 (λc1=>?_) (λc1=>iteF Z)));refine(xbv _ rfl il _ rfl (.inl (zC a3)) _ _ rfl rfl (jEA _ rfl (ite2 (λc2=>?_) (λc2=>iteF Z))));refine(xbv _ rfl ml _ rfl (.inl (zC a2)) _ _ rfl rfl (jEA _ rfl (ite2 (λc3=>?_) (λc3=>Z))));have ab:=z0 c2;have b3:=z0 c3;refine xab λS1 a5=>?_;refine(xa7 _ rfl _ rfl _ rfl il _ rfl (.inl (zC a3)) (xak G p4 q4 _ rfl M (by omega) (by omega) (λr5 H5 ak aj o=>?_)));obtain⟨i5,rfl⟩:∃i:Nat,r5=(i:Int):=⟨r5.toNat,by omega⟩;have I:i5<ws.length:=by omega
 have m:=xal (jEE p4 q4 M) o;obtain⟨J,c5,y5,eb,a4,ag⟩:=ah _ (qP I);refine(xbk il _ _ (.ref J) rfl rfl (zC (o.1 _ _ a3 b0)) (xav (by rw[zGA I,eb])) J (xbr _ rfl (zB (m _ _ a4)) rfl (jEEA _ _ rfl (xaq _ _ rfl rfl (a5 _ _ ?_)))));have a1:=o.1 _ _ a2 mf;obtain⟨p5,q5,b7⟩:=o.2;refine(jEAA _ rfl (.inl (jAE rfl _ (zC a1))) ?_);refine(xbb _ rfl _ rfl ml _ rfl (.inl (zC a1)) G (xaj p5 q5 _ rfl b7 (by omega) (by omega) (λr6 H6 br bq f6=>?_)));obtain⟨Y,rfl⟩:∃i:Nat,r6=(i:Int):=⟨r6.toNat,by omega⟩;have au:Y<O.length:=by omega
 have an:=f6.1 _ _ a1 mf;refine(xaf ml _ (Y:Int) Y (.str O[Y]) rfl rfl an (by omega) (by omega) (jAA (xvf (by rw[az];exact au)) (by rw[zGM,zGA au];rfl) ?_));have er:(O.map V.str).eraseIdx Y=(O.eraseIdx Y).map V.str:=xsw O Y;rw[er];refine(xbi _ rfl _ rfl (by walk_at"s") (λt ht=>?_));have st:=zA ht (.tup [.str (S "take"),.str O[Y],.str c5,.str y5]);have F6:Fed G H H6:=F4.trans (o.trans f6);have sb:Sb2 G ml H (upd (upd H6 ml (.lst ((O.eraseIdx Y).map V.str))) t (.tup [.str (S "take"),.str O[Y],.str c5,.str y5])):=((Sb2.of F6).upd mf _).same st
 refine q _ (.take O[Y] c5 y5) (O.eraseIdx Y) _ sb (st _ _ ups) (by rw[List.length_eraseIdx];split <;> omega) (λh=>absurd rfl (h _ _ _)) (xas t _ rfl ups _ _ rfl rfl _ (xbh _ rfl rfl _ _ rfl rfl (xaq _ _ rfl rfl rfl))) (λ_=>ag) λb vs e=>st _ _ (by
  rw[xai λz=>by rw[z,aq]at e;cases e];exact xal d.fd F6 b vs e)
structure RowsOk(ks:List Kn)(cs:List Chn)(x:Str)(bs:List (Str×Str))(rs:List Row):Prop where
 len:rs.length<=30
 ok:∀r∈rs,xfw ks cs x bs rs.length r
 last:∃r,rs.getLast?=some r/\r.ends
theorem xnj{ks:List Kn}{cs:List Chn}{x:Str}{bs:List (Str×Str)}{n a:Nat}{r:Row}(h:xfw ks cs x bs n r)(l:n<=a):xfw ks cs x bs a r:=by
 cases r with
 |go g=>exact qE h l
 |cond t g=>exact⟨h.1,qE h.2 l⟩
 |_=>exact h
def xtf:Sp:=λvs H Q _=>∃(f nb:Addr) (kv cv bv:V) (ks:List Kn) (cs:List Chn) (bs:List (Str×Str)) (x:Str) (nms:List Str),vs=[.ref f,kv,cv,.str x,bv,.ref nb]/\DIn H f kv cv bv ks cs bs/\H nb=some (.lst (nms.map V.str))/\nms.length=26/\nb≠f/\∀rv rs H',Fed f H H'->RelD H' rv (.tup (rs.map Row.d))->RowsOk ks cs x bs rs->Q rv H'
theorem xul{a:List Str}(h:a.length=26):cutV (a.map V.str) (some 20) (some 26)=((a.drop 20).take 6).map V.str:=by
 unfold cutV HT.sIx;rw[zLM,h,List.map_take,List.map_drop];rfl
theorem xvg{H:Hp}{us:List V}{rs:List Row}(h:RelDs H us (rs.map Row.d)){i:Nat}{v:V}(c:us[i]?=some v):∃(b:Addr) (r:Row) (zs:List V),rs[i]?=some r/\v=.ref b/\H b=some (.tup (.str r.hd::zs)):=by
 obtain⟨d,hd,rd⟩:=h.get c;rw[zGM]at hd;obtain⟨r,f,rfl⟩:=zMS hd;obtain⟨a,zs,e,g,_⟩:=xla rd;exact(xco a r zs f e g)
theorem xtk{H:Hp}{us:List V}{ds:List D}{v:V}{d:D}(h:RelDs H us ds)(b:RelD H v d)(i:Nat):RelDs H (us.take i++v::us.drop i) (ds.take i++d::ds.drop i):=by
 have tk:∀(i:Nat) {us:List V} {ds:List D},RelDs H us ds->RelDs H (us.take i) (ds.take i)/\RelDs H (us.drop i) (ds.drop i):=by
  intro i
  induction i with
  |zero=>intro us ds h;exact⟨rfl,h⟩
  | succ i a=>
   intro us ds h
   cases ds with
   |nil=>rw[show us=[] from h];exact⟨rfl,rfl⟩
   |cons d ds=>
    obtain⟨v,r,e,f,c⟩:=h;subst e;have:=a c;exact⟨(xaq v _ rfl f this.1),this.2⟩
 have:=tk i h;exact this.1.append (xaq v _ rfl b this.2)
theorem xls{f l:Addr}{H H1:Hp}{o:HO}(F:Fed f H H1)(hl:H l=none)(lf:l≠f):Fed f H (upd H1 l o):=by
 obtain⟨h1,p,q,h2⟩:=F;exact(jAE (λb u e n=>by rw[xai (neN e hl)];exact h1 b u e n) p ⟨q,by rw[xai (Ne.symm lf)];exact h2⟩)
theorem xq9(T:Tx K mg)(m:DefIs P w K mg base n "_law_take" qae xc2)(ab:DefIs P w K mg base n "_law_into" qat xl9)(U:DefIs P w K mg base n "_law_new_term" qak xi0)(ac:DefIs P w K mg base n "_law_deal" qa1 xok):DefIs P w K mg base (n+1) "_law_rows" qa2 xtf:=by
 refine DefIs.of T.kG scl_rows (by walk_at"l") (λf ej A outer s H vs Q E hr h=>?_);obtain⟨I,nb,kv,cv,bv,ks,cs,bs,x,d1,rfl,d,d8,cq,ed,q⟩:=h;have nd:=scl_rows.nd;have c6:=d.c6;have b5:=d.b5
 refine⟨_,(zpn (psn 6 nd (xat xb4 rfl T.kY zM (pc (xcp xdh (pv 5) (xcu pI) (xcu pI)) pN ss)))
   (zpn (psn 7 nd (xbt pN))
   (zpn (psn 8 nd (xan xbe pI (pd m hr (va 0 (pc pI pN so)))))
   (zpn (xci zF rfl (xcj rfl T.k4 (pc (xan xcy (pv 8) pI) pN xa5)) (pgn 9 nd)
   (zpn (psn 10 nd (pd m hr (va 0 (pc pI pN so))))
   (zpo (xa6 (pR xft (pv 10) pI (nM _)) (zpn (psn 11 nd (pd U hr (va 0 (va 1 (pc (xat xb4 rfl T.kY zM (v1 4)) (pc pS pN so) zsc)))))
   (zpo (xb0 (xdj zD zH zG xbn (pv 7) (pc (xaz (pc pS (va 11 (pc (pd m hr (va 0 (v1 8))) pN zsc)) so)) pN zsT))))) (zpo (xa6 (pR xbd (pv 10) pI (nM _)) (zpo (xb0 (xdj zD zH zG xbn (pv 7) (pc (pxl K (xbt (pc (xaz (pc pS pN so)) (pc (xaz (pc pS (pc (pd m hr (va 0 (v1 8))) pN zsc) so)) pN zsT) zsT)) (pd m hr (va 0 (pc pI pN so)))) pN ss)))) (zpo (xb0 (xdj zD zH zG xbn (pv 7) (pc (pd ac hr (va 0 (va 1 (va 2 (va 3 (va 4 (v1 6))))))) pN zsc))))))))))
   (zpn (psn 12 nd (pd ab hr (va 2 (va 3 (v1 4)))))
   (zpn (xa6 (PW.pt (xcr (pR xdu (xau (xah (K:=K) rfl) rfl T.kX zE (v1 12)) pI (nM _)) (xb8 (pR xfm pS (xbj ["_law_row"] [none] rfl (by kernel_rfl) (xbm (K:=K) rfl (pv 7)) (λ_ _ _ _=>(pgc 0)) (λ_ _ _ _=>xbp) (λ_ _ _ _=>(px K (pv 0) pI))) (by with_unfolding_all rfl))))) (zpn (xdo (pxl K (pv 12) (pd m hr (va 0 (pc (xau (xah (K:=K) rfl) rfl T.kX zE (v1 12)) pN zsc)))) (xbc (K:=K) rfl rfl (xad (pgn 13 nd) (xad (pgn 14 nd) xa9))))
   (zpo (xb0 (xdj zD PySem.F.slot_list_insert PySem.F.type_list_insert xpj (pv 7) (pc (pd m hr (va 0 (pc (xan xbe (xau (xah (K:=K) rfl) rfl T.kX zE (v1 7)) pI) pN xa5))) (pc (xaz (pc pS (pc (xdj zD PySem.F.slot_list_pop PySem.F.type_list_pop xie (pv 6) (pc pI pN so)) (va 13 (v1 14)) zsc) so)) pN zsT) zsc))))) pQ)
   (zpn (xa6 (pR xdu (pd m hr (va 0 (pc pI pN so))) pI (nM _)) (zpo (xag (xan (xmw (K:=K) rfl) (xat (xbx (K:=K) rfl) rfl T.k9 zK (v1 7)) (xaz (pc (xaz (pc pS (pc (pd m hr (va 0 (v1 8))) pN zsc) so)) pN zsT))))) pQ)
   (zpo (xag (xan (xmw (K:=K) rfl) (xat (xbx (K:=K) rfl) rfl T.k9 zK (v1 7)) (xaz (pc (xaz (pc pS pN so)) pN zsT)))))))))))),xab λR1 ds=>?_⟩
 obtain⟨p0,q0,bu⟩:=d.fd;refine(xa7 _ rfl _ rfl _ rfl nb _ rfl (zC d8) (λc0 df=>?_));rw[xul cq];obtain⟨a9,b8⟩:∃a9,(d1.drop 20).take 6=a9:=⟨_,rfl⟩;have da:a9.length=6:=by rw[<- b8,List.length_take,List.length_drop,cq];rfl
 rw[b8];have bg:=zA df (.lst (a9.map V.str));refine(xaq c0 _ rfl (.inl (zC ups)) (λml b9=>ds _ _ (xab λR2 dr=>?_)));have c4:=zA b9 (.lst (a9.map V.str));refine⟨(by walk_at"s"),λO ah=>dr _ _ (xab λR3 dq=>?_)⟩;have c3:=zA ah (.lst []);have s0:=bg.trans (c4.trans c3);obtain⟨H0,b3⟩:∃H0,H0=upd (upd (upd H c0 (.lst (a9.map V.str))) ml (.lst (a9.map V.str))) O (.lst []):=⟨_,rfl⟩;have cg:H0 O=some (.lst []):=by rw[b3];exact ups
 have ci:H0 ml=some (.lst (a9.map V.str)):=by rw[b3];exact c3 _ _ ups
 rw[<- b3]at s0⊢;clear b3;have bm:H ml=none:=xae bg b9;have bj:H O=none:=xae (bg.trans c4) ah;have aa:ml≠I:=Ne.symm (neN bu bm);have a0:O≠I:=Ne.symm (neN bu bj);have bi:O≠ml:=λz=>by rw[z,ups]at ah;cases ah
 have F0:Fed I H H0:=(Fed.refl bu).same s0;obtain⟨pA,qA,de⟩:=F0.2;refine(xaa _ rfl I pA qA 10 rfl de (by decide) (by decide) (λrm H1 e3 e2 f1=>(xaq _ _ rfl rfl ?_)));obtain⟨many,bq,eg,e1⟩:∃many:Nat,1+rm=(many:Int)/\1<=many/\many<=10:=(jEAA ((1+rm).toNat) (by omega) (by omega) (by omega))
 suffices ca:R3 [some (.ref I),some kv,some cv,some (.str x),some bv,some (.ref nb),some (.ref ml),some (.ref O),some (.int (many:Int)),none,none,none,none,none,none] H1 by
  rw[<- bq]at ca;exact ca
 refine dq _ _ (xab λR4 dn=>?_);refine(xbg _ rfl _ _ rfl rfl _ rfl (jAA (by omega) (by omega) ?_))
 refine xc7 (λi σ H'=>∃us,∃(rs:List Row) (ms:List Str) (o9 a2 a1:Option V),σ=[some (.ref I),some kv,some cv,some (.str x),some bv,some (.ref nb),some (.ref ml),some (.ref O),some (.int many),o9,a2,a1,none,none,none]/\Fed I H H'/\H' O=some (.lst us)/\RelDs H' us (rs.map Row.d)/\rs.length=i/\(∀r∈rs,xfw ks cs x bs many r)/\H' ml=some (.lst (ms.map V.str))/\ms.length<=6/\((∀r∈rs,r.hd≠S "take")->ms.length=6))
  (xam ([]) ([]) a9 none none (xb1 none rfl (F0.trans f1) (f1.1 _ _ cg a0) rfl rfl (jAAA (λ_ h=>nomatch h) (f1.1 _ _ ci aa) (by omega) (λ_=>da)))) ?_ ?_
 ·rintro i σ H2 hi ⟨us,rs,ms,o9,a2,a1,rfl,F2,av,an,b6,a7,b0,ai,aw⟩
  have d2:=d.keep (xal d.fd F2) F2.2;obtain⟨p2,q2,bt⟩:=F2.2;have bn:=an.length;rw[zLM]at bn
  have put:∀{H5:Hp} {u:V} {r:Row} {a5:List Str} (a2 a1:Option V),Fed I H H5->H5 O=some (.lst us)->RelDs H5 us (rs.map Row.d)->RelD H5 u r.d->xfw ks cs x bs many r->H5 ml=some (.lst (a5.map V.str))->a5.length<=6->((∀l c y,r≠.take l c y)->a5=ms)->
    (λi σ H'=>∃us,∃(rs:List Row) (ms:List Str) (o9 a2 a1:Option V),σ=[some (.ref I),some kv,some cv,some (.str x),some bv,some (.ref nb),some (.ref ml),some (.ref O),some (.int many),o9,a2,a1,none,none,none]/\Fed I H H'/\H' O=some (.lst us)/\RelDs H' us (rs.map Row.d)/\rs.length=i/\(∀r∈rs,xfw ks cs x bs many r)/\H' ml=some (.lst (ms.map V.str))/\ms.length<=6/\((∀r∈rs,r.hd≠S "take")->ms.length=6)) (i+1) [some (.ref I),some kv,some cv,some (.str x),some bv,some (.ref nb),some (.ref ml),some (.ref O),some (.int many),some (.int (0+(i:Int))),a2,a1,none,none,none] (upd H5 O (.lst (us++[u]))):=λ{H5 u r a5} a2 a1 F5 C a6 hu au ay db bp=>by
   have tp:∀b vs,H5 b=some (.tup vs)->upd H5 O (.lst (us++[u])) b=some (.tup vs):=λb vs e=>by
    rw[xai λz=>by rw[z,C]at e;cases e];exact e
   refine(xam (us++[u]) (rs++[r]) a5 _ a2 (xb1 a1 rfl (xls F5 bj a0) ups ?_ (by rw[zLA,List.length_singleton,b6]) (jAAA (λr' a4=>?_) (by rw[xai (Ne.symm bi)];exact ay) db (λhT=>?_))))
   ·rw[zAP]
    exact(a6.tups tp _).append (xaq u ([]) rfl (hu.tups tp _) rfl)
   ·rcases zMA a4 with h |h
    ·exact a7 r' h
    ·rw[zMO h];exact au
   ·rw[bp λl c y e=>hT r (by simp) (by rw[e];rfl)]
    exact aw λr' a4=>hT r' (zR _ a4)
  refine xab λS1 bw=>?_;refine(xaa _ rfl I p2 q2 16 rfl bt (by decide) (by decide) (λfm H3 ei eh f3=>bw _ _ ?_));have F3:=F2.trans f3;have d3:=d2.fed f3;have cy:=xal d2.fd f3;have G:=f3.1 _ _ av a0;have a8:=f3.1 _ _ b0 aa;have M:=an.tups cy _;obtain⟨p3,q3,b2⟩:=F3.2;obtain⟨ba,ub,dw,dg,dj⟩:=id d3.bd;refine(xbg _ rfl _ _ rfl rfl _ rfl (ite2 (λc1=>?_) (λc1=>?_)))
  ·
   refine xab λS2 di=>?_;refine(xa7 _ rfl _ rfl _ rfl ba ub (congrArg (λv=>[v]) dw) (.inr (zB dg)) (λbl bf=>?_));have sb:=zA bf (.lst ub);refine(xam I kv (.ref bl) ks bs (xbr (S "num") rfl (d3.tin bf dj) (.inl rfl) (λta td H4 f4 rd tb=>di _ _ ?_)));have ak:Fed I H3 H4:=((Fed.refl b2).same sb).trans f4;have bz:=xal d3.fd ak;have Y:=ak.1 _ _ G a0;obtain⟨p4,q4,af⟩:=f4.2;refine(jEAA _ rfl (.inl (jAE rfl _ (zC Y))) ?_);refine(xbw _ rfl _ rfl _ rfl I p4 (xct q4 many rfl af (by omega) (by omega) (λg H5 g0 g1 f5=>⟨(by walk_at"s"),λt ht=>?_⟩)));obtain⟨gn,rfl⟩:∃i:Nat,g=(i:Int):=⟨g.toNat,by omega⟩;have st:=zA ht (.tup [.str (S "if"),.ref ta,.int gn]);have Z:=(ak.trans f5).same st;have aj:=xal d3.fd Z;have C:=Z.1 _ _ G a0;refine(xaj O us _ rfl rfl C (xa2 (by omega)) ?_);exact put (r:=.cond td gn) _ _ (F3.trans Z) C (M.tups aj _) (xas t _ rfl ups _ _ rfl rfl _ (xbh _ rfl ((rd.tups (xal (jEE p4 q4 af) f5) _).same st _) _ _ rfl rfl rfl)) ⟨tb.1,by omega⟩ (Z.1 _ _ a8 aa) ai λ_=>rfl
  ·refine(xa0 _ rfl rfl _ rfl (ite2 (λc2=>?_) (λc2=>?_)))
   ·
    refine(jEAA _ rfl (.inl (jAE rfl _ (zC G))) ?_);refine⟨(by walk_at"s"),λt1 ar=>?_⟩;have s1:=zA ar (.tup [.str (S "end")]);refine(xap _ rfl _ rfl I p3 q3 (xbf many rfl (s1 _ _ b2) (by omega) (by omega) (λg H4 g0 g1 f4=>⟨(by walk_at"s"),λt2 aq=>⟨(by walk_at"s"),λll cl=>?_⟩⟩)));obtain⟨gn,rfl⟩:∃i:Nat,g=(i:Int):=⟨g.toNat,by omega⟩;have s2:=zA aq (.tup [.str (S "go"),.int gn]);have s3:=zA cl (.lst [.ref t1,.ref t2]);have ak:Fed I H3 _:=(((Fed.refl b2).same s1).trans f4).same (s2.trans s3);obtain⟨p5,q5,ae⟩:=ak.2
    have d4:ll≠I:=by
     obtain⟨p6,q6,h6⟩:=f4.2;exact Ne.symm (neN (s2 _ _ h6) cl)
    refine(xaa _ rfl I p5 q5 2 rfl ae (by decide) (by decide) (λr2 H5 ec ea f5=>?_));have Z:=ak.trans f5;have C:=Z.1 _ _ G a0;have ce:H4 t1=some (.tup [.str (S "end")]):=xal (jEE p3 q3 (s1 _ _ b2)) f4 _ _ ups;have bx:=xal (jEE p5 q5 ae) f5;have du:=bx _ _ ((s2.trans s3) _ _ ce);have dt:=bx _ _ (s3 _ _ ups);have bb:=f5.1 _ _ ups d4;have cz:r2=0\/r2=1:=by omega
    rcases cz with rfl |rfl
    ·refine(xbk ll _ _ (.ref t1) rfl rfl (zC bb) rfl O (xct us _ rfl rfl C (xa2 (by omega)) ?_))
     exact put (r:=.fin) _ _ (F3.trans Z) C (M.tups (xal d3.fd Z) _) (xaq t1 _ rfl du (xaq _ _ rfl rfl rfl)) trivial (Z.1 _ _ a8 aa) ai λ_=>rfl
    ·refine(xbk ll _ _ (.ref t2) rfl rfl (zC bb) rfl O (xct us _ rfl rfl C (xa2 (by omega)) ?_))
     exact put (r:=.go gn) _ _ (F3.trans Z) C (M.tups (xal d3.fd Z) _) (xas t2 _ rfl dt _ _ rfl rfl _ (jEAA _ rfl rfl rfl)) (by show gn<many;omega) (Z.1 _ _ a8 aa) ai λ_=>rfl
   ·
    refine(jEAA _ rfl (.inl (jAE rfl _ (zC G))) ?_);refine(xax _ rfl _ rfl _ rfl _ rfl _ rfl (xa4 _ rfl I ml kv cv (xam bv ks cs bs x (xb1 ms rfl d3 a8 aa (by omega) (λu r a5 H4 bh az e0 bp hu au bz=>?_)))));have Y:=bh.1 _ _ G a0 bi;have F4:Fed I H H4:=⟨λb o e c9=>bh.1 b o (F3.1 b o e c9) c9 (neN e bm),bh.2⟩;refine(xaj O us _ rfl rfl Y (xa2 (by omega)) ?_);exact put (r:=r) _ _ F4 Y (M.tups bz _) hu (au many) az (by omega) bp
 rintro σ H2 ⟨us,rs,ms,o9,a2,a1,rfl,F2,av,an,b6,a7,b0,ai,aw⟩;have dx:rs.length<=9:=by omega
 have d2:=d.keep (xal d.fd F2) F2.2;refine dn _ _ (xab λR5 dm=>?_);refine(xbw _ rfl _ rfl _ rfl cv bv (xaj cs x bs rfl d2.cd c6 d2.bd ⟨b5,λil ws H3 s3 dd ck cp ee=>dm _ _ (xab λR6 dl=>?_)⟩));have F3:Fed I H H3:=F2.same s3;have G:=s3 _ _ av;have a8:=s3 _ _ b0;have M:=an.same s3 _;obtain⟨p2,q2,bt⟩:=F2.2;have d5:il≠I:=Ne.symm (neN bt dd);have bn:=an.length;rw[zLM]at bn
 have am:∀(c8 c7:Option V) (H4:Hp) (us:List V) (rs:List Row),Fed I H H4->H4 O=some (.lst us)->RelDs H4 us (rs.map Row.d)->rs.length<=10->many<=rs.length+1->(∀r∈rs,xfw ks cs x bs many r)->R6 [some (.ref I),some kv,some cv,some (.str x),some bv,some (.ref nb),some (.ref ml),some (.ref O),some (.int many),o9,a2,a1,some (.ref il),c8,c7] H4:=λc8 c7 H4 us rs F4 Y ag dy ef au=>by
  refine dl _ _ (xab λR7 dk=>?_);obtain⟨p4,q4,af⟩:=F4.2;have cc:=ag.length;rw[zLM]at cc;refine(xaa _ rfl I p4 q4 4 rfl af (by decide) (by decide) (λr4 H5 e9 e8 f5=>(xaq _ _ rfl rfl (jEA _ rfl ?_))));have aj:=xal (jEE p4 q4 af) f5;have F5:=F4.trans f5;have C:=f5.1 _ _ Y a0;have a6:=ag.tups aj _
  have fin:∀{H6 H7:Hp} {tr tl:Addr} {v:V} {r:Row},Fed I H H6->Same H6 H7->H6 tr=some (.tup us)->RelDs H6 us (rs.map Row.d)->RelD H6 v r.d->r.ends->xfw ks cs x bs (rs.length+1) r->H7 tl=some (.tup (us++[v]))->Q (.ref tl) H7:=λ{H6 H7 tr tl v r} F6 s7 _ J hv he cf ao=>by
   refine q (.ref tl) (rs++[r]) H7 (F6.same s7) (xaq tl _ rfl ao ?_) ⟨by rw[zLA,List.length_singleton];omega,λr' a4=>?_,(jEA r (by simp) he)⟩
   ·rw[zAP]
    exact(J.same s7 _).append (xaq v ([]) rfl (hv.same s7 _) rfl)
   ·rw[zLA,List.length_singleton]
    rcases zMA a4 with h |h
    ·exact xnj (au r' h) (by omega)
    ·rw[zMO h];exact cf
  refine ite2 (λc1=>?_) (λc1=>?_)
  ·refine(jEA _ rfl (jEEA O us rfl (.inl ⟨zC C,λtr bo=>?_⟩)))
   have sr:=zA bo (.tup us);obtain⟨p5,q5,ae⟩:=f5.2;refine(xap _ rfl _ rfl I p5 q5 (xbf many rfl (sr _ _ ae) (by omega) (by omega) (λg H6 g0 g1 f6=>⟨(by walk_at"s"),λt1 ar=>⟨(by walk_at"s"),λt2 aq=>?_⟩⟩)));obtain⟨gn,rfl⟩:∃i:Nat,g=(i:Int):=⟨g.toNat,by omega⟩;have s1:=zA ar (.tup [.str (S "go"),.int gn]);have s2:=zA aq (.tup [.ref t1]);have b1:=xal (jEE p5 q5 (sr _ _ ae)) f6;have F6:Fed I H _:=((F5.same sr).trans f6).same (s1.trans s2);have a3:=(s1.trans s2) _ _ (b1 _ _ ups);have J:=((a6.same sr _).tups b1 _).same (s1.trans s2) _;have hv:RelD (upd (upd H6 t1 (.tup [.str (S "go"),.int gn])) t2 (.tup [.ref t1])) (.ref t1) (Row.go gn).d:=(xas t1 _ rfl (s2 _ _ ups) _ _ rfl rfl _ (jEAA _ rfl rfl rfl));refine(xce tr t2 _ _ rfl rfl (zB a3) (zB ups) (fits (by rw[List.length_singleton];omega)) (λe=>?_) ⟨(λ_ e=>nomatch e),λ_ _ tl ao=>?_⟩)
   ·exact fin F6 (Same.refl _) a3 J hv trivial (by show gn<_;omega) (by rw[ups,e];rfl)
   ·have s7:=zA ao (.tup (us++[.ref t1]))
    exact fin F6 s7 a3 J hv trivial (by show gn<_;omega) ups
  ·refine dk _ _ ?_
   refine(jEA _ rfl (jEEA O us rfl (.inl ⟨zC C,λtr bo=>?_⟩)));have sr:=zA bo (.tup us);refine⟨(by walk_at"s"),λt1 ar=>⟨(by walk_at"s"),λt2 aq=>?_⟩⟩;have s1:=zA ar (.tup [.str (S "end")]);have s2:=zA aq (.tup [.ref t1]);have sA:=sr.trans (s1.trans s2);have F6:Fed I H _:=F5.same sA;have a3:=(s1.trans s2) _ _ (show upd H5 tr (.tup us) tr=some (.tup us) from ups);have J:=a6.same sA _;have hv:RelD (upd (upd (upd H5 tr (.tup us)) t1 (.tup [.str (S "end")])) t2 (.tup [.ref t1])) (.ref t1) Row.fin.d:=(xaq t1 _ rfl (s2 _ _ ups) (xaq _ _ rfl rfl rfl));refine(xce tr t2 _ _ rfl rfl (zB a3) (zB ups) (fits (by rw[List.length_singleton];omega)) (λe=>?_) ⟨(λ_ e=>nomatch e),λ_ _ tl ao=>?_⟩)
   ·exact fin F6 (Same.refl _) a3 J hv trivial trivial (by rw[ups,e];rfl)
   ·have s7:=zA ao (.tup (us++[.ref t1]))
    exact fin F6 s7 a3 J hv trivial trivial ups
 have plain:R6 [some (.ref I),some kv,some cv,some (.str x),some bv,some (.ref nb),some (.ref ml),some (.ref O),some (.int many),o9,a2,a1,some (.ref il),none,none] H3:=am none none H3 us rs F3 G M (by omega) (by omega) a7;refine(xbv _ rfl il _ rfl (.inl (zC ck)) _ _ rfl rfl (jEA _ rfl (ite2 (λc1=>?_) (λc1=>iteF plain))));have dz:=z0 c1;refine(xbi _ rfl O rfl ⟨_,zC G⟩ ?_);refine xd0 (xs:=us) (λi ys H'=>H'=H3/\ys=((rs.take i).map Row.hd).map V.str) ⟨rfl,rfl⟩ (xa2 (by omega)) (λi ys H' _ p=>by obtain⟨rfl,_⟩:=p;exact zC G) ?_ ?_
 ·rintro i y ys H' hy hi cj ⟨rfl,rfl⟩
  obtain⟨b,r,zs,a4,rfl,hb⟩:=xvg M hy;refine⟨ext1 rfl,xdv ?_⟩;refine(xaa _ rfl b _ _ _ rfl rfl (zB hb) (xav (j:=0) rfl) (nxtG hi cj ⟨rfl,?_⟩));rw[zTA,a4,zAP,zAP];rfl
 rintro ys H' cj ⟨rfl,rfl⟩ D hD;rw[zTL (by omega)];have sD:=zA hD (.lst ((rs.map Row.hd).map V.str));refine(xct D _ rfl (.inl (zC ups)) rfl (xka _) (jEA _ rfl (ite2 (λc2=>?_) (λc2=>?_))))
 ·have d0:∀r∈rs,r.hd≠S "take":=λr a4 e=>by
   have dc:inV (.str (Str.ofString "take")) ((rs.map Row.hd).map V.str)=true:=by
    unfold inV;refine List.any_eq_true.mpr (jEA (.str r.hd) (qG (qG a4)) ?_);rw[e];decide +kernel
   have cr:(!inV (.str (Str.ofString "take")) ((rs.map Row.hd).map V.str))=true:=c2;rw[dc]at cr;cases cr
  have d9:=aw d0;have F4:=F3.same sD;have Y:=sD _ _ G;have az:=sD _ _ a8;have be:=sD _ _ ck;have ag:=M.same sD _;obtain⟨p4,q4,af⟩:=F4.2;refine xab λS1 bw=>?_;refine(xa7 _ rfl _ rfl _ rfl il _ rfl (.inl (zC be)) (xak I p4 q4 _ rfl af (by omega) (by omega) (λr5 H5 e7 e6 f5=>?_)));obtain⟨i5,rfl⟩:∃i:Nat,r5=(i:Int):=⟨r5.toNat,by omega⟩;have co:i5<ws.length:=by omega
  have aj:=xal (jEE p4 q4 af) f5;obtain⟨cu,c5,y5,eb,dh,br⟩:=cp _ (qP co);refine(xbk il _ _ (.ref cu) rfl rfl (zC (f5.1 _ _ be d5)) (xav (by rw[zGA co,eb])) cu (xbr _ rfl (zB (aj _ _ (sD _ _ dh))) rfl (jEEA _ _ rfl (xaq _ _ rfl rfl (bw _ _ ?_)))));have C:=f5.1 _ _ Y a0;have ay:=f5.1 _ _ az aa;have a6:=ag.tups aj _;obtain⟨p5,q5,ae⟩:=f5.2;refine(jEAA _ rfl (.inl (jAE rfl _ (zC C))) ?_);refine(xbb _ rfl _ rfl O _ rfl (.inl (zC C)) _ (jEAA _ rfl rfl (xak I p5 q5 _ rfl ae (by omega) (by omega) (λr6 H6 e5 e4 f6=>?_))));obtain⟨i6,rfl⟩:∃i:Nat,r6=(i:Int):=⟨r6.toNat,by omega⟩;have b1:=xal (jEE p5 q5 ae) f6;have ch:=f6.1 _ _ C a0;have ax:=f6.1 _ _ ay aa;have J:=a6.tups b1 _
  obtain⟨m0,a5,dv⟩:∃m0 a5,ms=m0::a5:=by
   cases ms with
   |nil=>cases d9
   |cons a l=>exact(jEE a l rfl)
  subst dv;refine(jEAA _ rfl (.inl (jAE rfl _ (zC ax))) (xaf ml _ 0 0 (.str m0) rfl rfl ax (by decide) (by decide) (jAA (xvf (k:=0) (by simp)) rfl ?_)));refine(xbi _ rfl _ rfl (by walk_at"s") (λt ht=>?_));have F6:Fed I H H6:=F4.trans (f5.trans f6);obtain⟨H7,al⟩:∃H7,H7=upd (upd H6 ml (.lst ((m0::a5).map V.str |>.eraseIdx 0))) t (.tup [.str (Str.ofString "take"),.str m0,.str c5,.str y5]):=⟨_,rfl⟩;have F7:Fed I H H7:=by rw[al];exact(xls F6 bm aa).same (zA ht _)
  have b7:H7 O=some (.lst us):=by
   rw[al];exact zA ht _ _ _ (by rw[xai bi];exact ch)
  have cx:∀b vs,H6 b=some (.tup vs)->H7 b=some (.tup vs):=λb vs e=>by
   rw[al];exact zA ht _ _ _ (by rw[xai λz=>by rw[z,ax]at e;cases e];exact e)
  have d6:H7 t=some (.tup [.str (Str.ofString "take"),.str m0,.str c5,.str y5]):=by rw[al];exact ups
  have b4:=J.tups cx _;have cb:=b4.length;rw[zLM]at cb;refine(xay O us i6 (.ref t) rfl rfl (by rw[<- al];exact b7) (by omega) (by omega) ?_);rw[<- al]
  have cw:∀b vs,H7 b=some (.tup vs)->upd H7 O (.lst (us.take i6++.ref t::us.drop i6)) b=some (.tup vs):=λb vs e=>by
   rw[xai λz=>by rw[z,b7]at e;cases e];exact e
  have d7:RelD H7 (.ref t) (Row.take m0 c5 y5).d:=(xas t _ rfl d6 _ _ rfl rfl _ (xbh _ rfl rfl _ _ rfl rfl (xaq _ _ rfl rfl rfl)));have bc:=(xtk b4 d7 i6).tups cw _
  have em:(rs.map Row.d).take i6++(Row.take m0 c5 y5).d::(rs.map Row.d).drop i6=(rs.take i6++Row.take m0 c5 y5::rs.drop i6).map Row.d:=by
   rw[zAP,List.map_cons,List.map_take,List.map_drop]
  rw[em]at bc
  have cm:(rs.take i6++Row.take m0 c5 y5::rs.drop i6).length=rs.length+1:=by
   rw[zLA,List.length_cons,List.length_take,List.length_drop];omega
  refine am _ _ _ _ _ (xls F7 bj a0) ups bc (by rw[cm];omega) (by rw[cm];omega) λr a4=>?_;rcases zMA a4 with h |h
  ·exact a7 r (qN h)
  ·rcases zMC h with h |h
   ·rw[h];exact br
   ·exact a7 r (List.mem_of_mem_drop h)
 ·exact am none none _ us rs (F3.same sD) (sD _ _ G) (M.same sD _) (by omega) (by omega) a7
structure NIn(H:Hp)(nb:Addr)(nms:List Str):Prop where
 nl:H nb=some (.lst (nms.map V.str))
 ok:NmsR nms
 nby:∀z∈nms,NoBy z
theorem NIn.same{H c:Hp}{b:Addr}{a:List Str}(g:NIn H b a)(s:Same H c):NIn c b a:=⟨s _ _ g.nl,g.ok,g.nby⟩
theorem NIn.name{H:Hp}{b:Addr}{a:List Str}(g:NIn H b a){i:Nat}(h:i<26):∃z,a[i]?=some z/\atI (a.map V.str) (i:Int)=some (.str z):=by
 have c:=g.ok.len;exact(jEA (a[i]'(by omega)) (zGA _) (xav (by rw[zGM,zGA (by omega)];rfl)))
def xk4(K:Fg):Sp:=λvs H Q _=>∃(a nb:Addr) (ns:List Int) (at_ many:Nat) (kv cv:V) (ks:List Kn) (cs:List Chn) (nms:List Str),vs=[.ref a,.int at_,kv,cv,.int many,.ref nb]/\SqL K H a (ns.map V.int)/\ns.length<=63/\NIn H nb nms/\RelD H kv (xee ks)/\KWf ks/\PNB ks/\RelD H cv (.tup (cs.map dChn))/\ChsOk ks nms many cs/\1<=many/\many<=4 ∧
 ∀v mk H',Same H H'->RelD H' v mk.d->MakOk mk->mk.hands.map Hand.name=nms.take many->mk.chans=cs->Q v H'
def xod(K:Fg):Sp:=λvs H Q _=>∃(a nb:Addr) (ns:List Int) (at_:Nat) (nms:List Str),vs=[.ref a,.int at_,.ref nb]/\SqL K H a (ns.map V.int)/\ns.length<=63/\NIn H nb nms ∧
 ∀v mk H',Same H H'->RelD H' v mk.d->MakOk mk->mk.hands≠[]->(∀c∈mk.chans,c.2.1∈mk.hands.map Hand.name/\c.2.2.1∈mk.hands.map Hand.name)->Q v H'
theorem xuh{ks:List Kn}{cs:List Chn}{a:List Str}{bs:List (Str×Str)}{rs:List Row}{x:Str}(b:BsOk ks a bs)(r:RowsOk ks cs x bs rs):HandOk ks cs ⟨x,bs,rs⟩:=⟨b.nd,b.len,b.kin,r.len,r.ok,r.last⟩
theorem xo7(T:Tx K mg)(u:DefIs P w K mg base n "_law_feed" qas (xma K))(m:DefIs P w K mg base n "_law_boxes" qbe xva)(p:DefIs P w K mg base n "_law_rows" qa2 xtf):DefIs P w K mg base (n+1) "_law_hands" qa4 (xk4 K):=by
 refine DefIs.of T.kI scl_hands (by walk_at"l") (λf ar A outer s H vs Q E hr h=>?_);obtain⟨a,O,ns,ao,many,kv,cv,ks,cs,j,rfl,hS,al,g,hk,wf,pb,hc,x,h1,h4,q⟩:=h;have nd:=scl_hands.nd;have am:=g.ok.len
 refine⟨_,(zpn (psn 6 nd (xbt pN))
   (zpn (xci zF rfl (xcj rfl T.k4 (v1 4)) (pgn 7 nd)
   (zpn (psn 8 nd (pd u hr (va 0 (pc (xan xbe (pv 1) (pv 7)) pN xa5))))
   (zpn (psn 9 nd (pd m hr (va 8 (va 2 (va 3 (pc (pxl K (pv 5) (pv 7)) (v1 5) ss))))))
   (zpo (xb0 (xdj zD zH zG xbn (pv 6) (pc (xaz (pc (pxl K (pv 5) (pv 7)) (va 9 (pc (pd p hr (va 8 (va 2 (va 3 (pc (pxl K (pv 5) (pv 7)) (va 9 (v1 5)) ss))))) pN zsc)) ss)) pN zsT)))))))
   (zpo (xag (xaz (va 2 (va 3 (pc (xat (xbx (K:=K) rfl) rfl T.k9 zK (v1 6)) pN zsc)))))))),xab λR1 ak=>?_⟩
 refine⟨(by walk_at"s"),λl hl=>ak _ _ (xab λR2 aj=>?_)⟩;have s0:=zA hl (.lst []);refine(xbi _ rfl _ rfl (by omega) ⟨by omega,?_⟩)
 refine xc7 (λi σ H'=>∃us,∃(hs:List Hand) (o7 o8 o9:Option V),σ=[some (.ref a),some (.int ao),some kv,some cv,some (.int many),some (.ref O),some (.ref l),o7,o8,o9]/\Same H H'/\H' l=some (.lst us)/\RelDs H' us (hs.map Hand.d)/\hs.length=i/\hs.map Hand.name=j.take i/\∀h∈hs,HandOk ks cs h)
  (xaf ([]) ([]) none none none rfl s0 ups rfl rfl ⟨rfl,λ_ h=>nomatch h⟩) ?_ ?_
 ·rintro i σ H1 hi ⟨us,hs,o7,o8,o9,rfl,s1,J,I,a6,M,Y⟩
  have aq:i<4:=by omega
  have e0:(0+(i:Int))=(i:Int):=by omega
  have aa:=I.length;rw[zLM]at aa;refine xab λS1 ai=>?_;refine(xa7 _ rfl _ rfl _ rfl _ _ rfl rfl (xaj a ns _ rfl (s1.seq hS) al (by omega) (λr p1 q1 nr=>ai _ _ (xab λS2 ah=>?_))));have sr:=zA nr (.lst [.int p1,.int q1]);obtain⟨H2,a0⟩:∃H2,H2=upd H1 r (.lst [.int p1,.int q1]):=⟨_,rfl⟩;have af:H2 r=some (.lst [.int p1,.int q1]):=by rw[a0];exact ups
  rw[<- a0]at sr⊢;clear a0;have G:=s1.trans sr;have g2:=g.same G;have a3:O≠r:=neN (g.same s1).nl nr;have lr:l≠r:=neN J nr;obtain⟨z,hz,az⟩:=g2.name (i:=i) (by omega);have a1:atI (j.map V.str) (0+(i:Int))=some (.str z):=by rw[e0];exact az
  have G2:GIn H2 r O kv ks j:=⟨(jEE p1 q1 af),g2.nl,g.ok,a3,g.nby,hk.same G _,wf,pb⟩;refine(xax _ rfl _ rfl _ rfl _ rfl _ rfl (xbk O _ _ _ rfl rfl (zC g2.nl) a1 _ (jAE rfl r (xam O kv cv ks j (xba cs z rfl G2 (hc.same G _) x.len x.kin (λbv bs H3 f3 a7 y=>ah _ _ ?_))))));have G3:=G2.fed f3;have a8:=xal G2.fd f3;have a5:=f3.1 _ _ (sr _ _ J) lr;have d3:DIn H3 r kv cv bv ks cs bs:=⟨G3.fd,G3.kd,wf,pb,(hc.same G _).tups a8 _,x.len,λc Z=>(x.kin c Z).mono wf.few,a7,y.len,y.nd,λb hb=>g.nby _ (y.nm b hb),y.kin⟩;refine(jEAA _ rfl (.inl (jAE rfl _ (zC a5))) ?_);refine(xap _ rfl _ rfl O _ _ (xbf _ rfl rfl (zC G3.nl) a1 (jEA _ rfl ?_)));refine(xax _ rfl _ rfl _ rfl _ rfl _ rfl (xbk O _ _ _ rfl rfl (zC G3.nl) a1 _ (jAEA rfl _ rfl (xam r O kv cv bv (xaf ks cs bs z j rfl d3 G3.nl am a3 (λrv rs H4 f4 ac ae=>⟨(by walk_at"s"),λt ht=>?_⟩))))));have st:=zA ht (.tup [.str z,bv,rv]);have an:=f3.trans f4;have a4:=f4.1 _ _ a5 lr;have a9:Same H1 H4:=Fed.back nr sr an;refine(xaj l us _ rfl rfl (st _ _ a4) (xa2 (by omega)) ?_);have a2:=a9.trans st
  have C:∀b vs,upd H4 t (.tup [.str z,bv,rv]) b=some (.tup vs)->upd (upd H4 t (.tup [.str z,bv,rv])) l (.lst (us++[.ref t])) b=some (.tup vs):=λb vs e=>by
   rw[xai λz=>by rw[z,st _ _ a4]at e;cases e];exact e
  refine(xaf (us++[.ref t]) (hs++[⟨z,bs,rs⟩]) _ _ _ rfl (λb o e=>?_) ups ?_ (by rw[zLA,List.length_singleton,a6]) ⟨?_,λh hh=>?_⟩)
  ·rw[xai (neN e hl)]
   exact a2 _ _ (s1 _ _ e)
  ·rw[zAP]
   refine((I.same a2 _).tups C _).append (xaq (.ref t) ([]) rfl ?_ rfl);exact(xas t _ rfl (C _ _ ups) _ _ rfl rfl _ (xbh _ rfl (((a7.tups (xal G3.fd f4) _).same st _).tups C _) _ _ rfl ((ac.same st _).tups C _) rfl))
  ·rw[zAP,M,zTA,hz]
   rfl
  ·rcases zMA hh with h' | h'
   ·exact Y h h'
   ·rw[zMO h']
    exact xuh y ae
 ·rintro σ H1 ⟨us,hs,o7,o8,o9,rfl,s1,J,I,a6,M,Y⟩
  refine aj _ _ ?_;refine(xbw _ rfl _ rfl _ rfl l us ⟨rfl,.inl ⟨zC J,λt ht=>⟨(by walk_at"s"),λt2 ab=>?_⟩⟩⟩);have st:=zA ht (.tup us);have U:=zA ab (.tup [kv,cv,.ref t]);have sA:=s1.trans (st.trans U)
  have ag:(cs.map (·.1)).Nodup:=by
   rw[x.nm]
   have:((j.drop 12).take cs.length).Sublist ((j.drop 12).take 6):=by
    have h6:=x.len;rw[show(j.drop 12).take cs.length=((j.drop 12).take 6).take cs.length by rw[List.take_take,Nat.min_eq_left h6]];exact List.take_sublist _ _
   exact g.ok.n12.sublist this
  refine q _ ⟨ks,cs,hs⟩ _ sA (xas t2 _ rfl ups _ _ rfl (hk.same sA _) _ (xbh _ rfl (hc.same sA _) _ _ rfl (xaq t us rfl (U _ _ ups) (I.same (st.trans U) _)) rfl)) ⟨wf,ag,x.len,λc Z=>(x.kin c Z).mono wf.few,?_,by show hs.length<=4;omega,Y⟩ ?_ rfl
  ·show(hs.map Hand.name).Nodup
   rw[M]
   have:(j.take many).Sublist (j.take 8):=by
    rw[show j.take many=(j.take 8).take many by rw[List.take_take,Nat.min_eq_left (by omega)]];exact List.take_sublist _ _
   exact g.ok.n0.sublist this
  ·exact M
theorem xra(T:Tx K mg)(b:DefIs P w K mg base n "_law_feed" qas (xma K))(o:DefIs P w K mg base n "_law_take" qae xc2)(l:DefIs P w K mg base n "_law_kinds" qbb xof)(i:DefIs P w K mg base n "_law_channels" qbd xsk)(m:DefIs P w K mg base n "_law_hands" qa4 (xk4 K)):DefIs P w K mg base (n+1) "_law_make" qa3 (xod K):=by
 refine DefIs.of T.kH scl_make (by walk_at"l") (λf ak A outer s H vs Q E hr h=>?_);obtain⟨a,z,ns,u,x,rfl,hS,Y,g,q⟩:=h;have nd:=scl_make.nd
 refine⟨_,(zpn (psn 3 nd (pd l hr (pc (pd b hr (va 0 (v1 1))) (v1 2) zsc)))
   (zpn (psn 4 nd (pd b hr (va 0 (pc (xan xbe (pv 1) pI) pN xa5))))
   (zpn (psn 5 nd (xan xbe pI (pd o hr (va 4 (pc pI pN so)))))
   (zpo (xag (pd m hr (va 0 (pc (xan xbe (pv 1) pI) (va 3 (pc (pd i hr (va 4 (va 3 (va 2 (v1 5))))) (va 5 (v1 2)) zsc)) xa5)))))))),xab λR1 af=>?_⟩
 refine(xcg _ rfl _ rfl a ns u rfl hS Y ⟨by omega,λr p1 q1 nr=>?_⟩);have sr:=zA nr (.lst [.int p1,.int q1]);have g1:=g.same sr;have a6:z≠r:=neN g.nl nr;refine(xa4 _ rfl r z p1 q1 (xb1 x rfl ups g1.nl g.ok a6 (λkv ks H1 f1 a4 a9 ag=>af _ _ (xab λR2 ae=>?_))));have Z:Same H H1:=Fed.back nr sr f1;obtain⟨wf,h4,aj,a8⟩:=a9
 have pb:PNB ks:=λk hk p hp j=>by
  have hm:p.1∈x:=by
   have h9:=(a8 k hk).2;have a5:p.1∈k.parts.map (·.1):=qG hp;rw[h9]at a5;exact List.mem_of_mem_drop (qN (qN a5))
  exact g.nby _ hm j
 refine(xbb _ rfl _ rfl _ _ rfl rfl a (xct ns _ rfl (Z.seq hS) Y (by omega) (λr2 p2 q2 y=>ae _ _ (xab λR3 ac=>?_))));have J:=zA y (.lst [.int p2,.int q2]);have g2:=(g.same Z).same J;have a1:z≠r2:=neN (g.same Z).nl y;refine(xaa _ rfl r2 p2 q2 4 rfl ups (by decide) (by decide) (λhm H3 ai ah f3=>(xaq _ _ rfl rfl ?_)));obtain⟨many,O,G,C⟩:∃many:Nat,1+hm=(many:Int)/\1<=many/\many<=4:=(jEAA ((1+hm).toNat) (by omega) (by omega) (by omega))
 suffices a2:R3 [some (.ref a),some (.int u),some (.ref z),some kv,some (.ref r2),some (.int (many:Int))] H3 by
  rw[<- O]at a2;exact a2
 refine ac _ _ ?_;have M:Same H1 H3:=Fed.back y J f3;have g3:=(g.same Z).same M;have s3:=Z.trans M;have a7:=f3.2;have G3:GIn H3 r2 z kv ks x:=⟨a7,g3.nl,g.ok,a1,g.nby,a4.same M _,wf,pb⟩;refine(xbb _ rfl _ rfl _ _ rfl rfl _ (jAEA rfl _ rfl (xbw _ rfl _ rfl _ rfl r2 z (xak kv ks x many rfl G3 G C (λcv cs H4 f4 aa I=>?_)))));have a0:Same H1 H4:=Fed.back y J (f3.trans f4);have s4:=Z.trans a0;refine(xap _ rfl _ rfl a z ns (xam (u+2) many kv cv ks (xba cs x ?_ (s4.seq hS) Y (g.same s4) (a4.same a0 _) (jAAA wf pb aa (jAAA I G C (λv mk H5 s5 hv a3 U ab=>q v mk H5 (s4.trans s5) hv a3 (λe=>?_) λc hc=>by rw[U];rw[ab]at hc;exact I.ends c hc))))))
 ·show[V.ref a,V.int ((u:Int)+2),kv,cv,V.int many,V.ref z]=_
  rw[show((u:Int)+2)=((u+2:Nat):Int) by omega]
 ·rw[e]at U
  have:=congrArg List.length U;rw[List.length_take,g.ok.len]at this;simp at this;omega
def xe1:Sp:=λvs H Q _=>∃(mv:V) (mk:Mak),vs=[mv]/\RelD H mv mk.d/\mk.hands.length<=4/\∀l,H l=none->Q (.ref l) (upd H l (.lst ((hn mk).map V.str)))
def xix(K:Fg):Sp:=λvs H Q _=>∃(a:Addr) (ns:List Int) (at_:Nat) (mv:V) (mk:Mak),vs=[.ref a,.int at_,mv]/\SqL K H a (ns.map V.int)/\ns.length<=63/\RelD H mv mk.d/\mk.hands.length<=4/\mk.hands≠[]/\at_<=100 ∧
 ∀l (ws:List Str) H',Same H H'->H l=none->H' l=some (.lst (ws.map V.str))->(∀z∈ws,z∈hn mk)->ws.length<=315->Q (.ref l) H'
def HSeen(H0 H:Hp)(mk:Mak)(s:HSt)(u:V)(hd:Hand):Prop:=∃b sa p lt ut,u=.ref b/\H b=some (.tup [.str hd.name,.ref sa,.ref lt,.int (s.ct hd.name:Nat)])/\StAt H sa p (s.sd hd.name).1 (s.sd hd.name).2/\H lt=some (.lst ut)/\RelDs H ut (s.tl hd.name)/\H0 p=none/\H0 lt=none
def CSeen(H0 H:Hp)(s:HSt)(u:V)(c:Chn):Prop:=∃b lt ut,u=.ref b/\H b=some (.tup [.str c.1,.ref lt])/\H lt=some (.lst ut)/\RelDs H ut (s.bt c.1)/\H0 lt=none
theorem HSeen.same{a H c:Hp}{mk:Mak}{s:HSt}{u:V}{hd:Hand}(h:HSeen a H mk s u hd)(q:Same H c):HSeen a c mk s u hd:=by
 obtain⟨b,f,p,lt,e,n,m,l,j,i,g⟩:=h;exact(xaf b f p lt e n (q _ _ m) (l.same q) (q _ _ j) (i.same q _) g)
theorem CSeen.same{a H e:Hp}{s:HSt}{u:V}{c:Chn}(h:CSeen a H s u c)(q:Same H e):CSeen a e s u c:=by
 obtain⟨b,lt,f,m,l,j,i,g⟩:=h;exact(xaj b lt f m (q _ _ l) (q _ _ j) (i.same q _) g)
def xby(H:Hp)(l:Addr):Hp:=λb=>if b=l then none else H b
theorem xbz{H:Hp}{l b:Addr}{o:HO}(e:H b=some o)(n:b≠l):xby H l b=some o:=by unfold xby;rw[if_neg n];exact e
theorem xde{H a:Hp}{l:Addr}(s:Same H a):Same (xby H l) (xby a l):=λb o e=>by
 unfold xby at e;by_cases h:b=l
 ·rw[if_pos h]at e;cases e
 ·rw[if_neg h]at e
  exact xbz (s b o e) h
theorem dropA_le{H:Hp}{l:Addr}:Same (xby H l) H:=λb o e=>by
 unfold xby at e;by_cases h:b=l
 ·rw[if_pos h]at e;cases e
 ·rw[if_neg h]at e
  exact e
theorem xqb{H:Hp}{l:Addr}{o:HO}:xby (upd H l o) l=xby H l:=by
 funext b
 unfold xby;by_cases h:b=l
 ·rw[if_pos h,if_pos h]
 ·rw[if_neg h,if_neg h,xai h]
theorem xhh{H:Hp}{l:Addr}{us:List V}(e:H l=some (.lst us)):∀b vs,H b=some (.tup vs)->xby H l b=some (.tup vs):=λb vs h=>xbz h λz=>by rw[z,e]at h;cases h
theorem xqc{H:Hp}{l:Addr}{o:HO}(h:H l=none):Same H (xby (upd H l o) l):=λb u e=>by
 have n:b≠l:=neN e h;exact xbz (by rw[xai n];exact e) n
theorem xnv{H:Hp}{l a:Addr}:xby (xby H l) a=xby (xby H a) l:=by
 funext b
 unfold xby;by_cases h:b=l <;> by_cases h':b=a <;> simp[h,h']
theorem CSeen.drop{a G:Hp}{s:HSt}{u:V}{c:Chn}{l:Addr}{us:List V}(h:CSeen a G s u c)(i:G l=some (.lst us))(h0:a l≠none):CSeen a (xby G l) s u c:=by
 obtain⟨b,lt,g,o,n,m,j,f⟩:=h;have e:=xhh i;exact(xaj b lt g o (e _ _ n) (xbz m (λz=>h0 (by rw[<- z];exact f))) (j.tups e _) f)
theorem CSeen.dn{e a G:Hp}{s:HSt}{u:V}{c:Chn}(h:CSeen a G s u c)(q:Same e a):CSeen e G s u c:=by
 obtain⟨b,lt,f,m,l,j,i,g⟩:=h;exact(xaj b lt f m l j i (xae q g))
structure StateAt(H0 H:Hp)(t:Addr)(mk:Mak)(s:HSt):Prop where
 ey:∃l1 l2 us1 us2,H t=some (.tup [.ref l1,.ref l2])/\H l1=some (.lst us1)/\H l2=some (.lst us2)/\us1.length=mk.hands.length/\us2.length=mk.chans.length/\H0 l1=none/\H0 l2=none/\(∀(i:Nat) u hd,us1[i]?=some u->mk.hands[i]?=some hd->HSeen H0 (xby (xby H l1) l2) mk s u hd)/\∀(i:Nat) u c,us2[i]?=some u->mk.chans[i]?=some c->CSeen H0 (xby (xby H l1) l2) s u c
theorem StateAt.ex{l H:Hp}{t:Addr}{mk:Mak}{s:HSt}(h:StateAt l H t mk s):∃j g f e,H t=some (.tup [.ref j,.ref g])/\H j=some (.lst f)/\H g=some (.lst e)/\f.length=mk.hands.length/\e.length=mk.chans.length/\l j=none/\l g=none/\(∀(i:Nat) u hd,f[i]?=some u->mk.hands[i]?=some hd->HSeen l H mk s u hd)/\∀(i:Nat) u c,e[i]?=some u->mk.chans[i]?=some c->CSeen l H s u c:=by
 obtain⟨j,g,f,e,z,y,x,w,r,n,m,p,o⟩:=h.ey;have q:Same (xby (xby H j) g) H:=dropA_le.trans dropA_le;exact(xce j g f e z y x w r n (jAA m (λi u hd a b=>(p i u hd a b).same q) (λi u c a b=>(o i u c a b).same q)))
theorem StateAt.same{n H o:Hp}{t:Addr}{mk:Mak}{s:HSt}(h:StateAt n H t mk s)(q:Same H o):StateAt n o t mk s:=by
 obtain⟨m,j,f,e,I,G,C,z,y,r,p,x,w⟩:=h.ey;have g:=xde (l:=j) (xde (l:=m) q);exact⟨m,(xaj j f e (q _ _ I) (q _ _ G) (q _ _ C) z (jAAA y r p ⟨λi u hd a b=>(x i u hd a b).same g,λi u c a b=>(w i u c a b).same g⟩))⟩
def xkw(K:Fg):Sp:=λvs H Q _=>∃(x:Addr) (mv:V) (ab:Bool) (a:HsA) (s:HSt) (mk:Mak) (N:Nat),vs=[.ref x,mv,.bl ab]/\HsHere K H x mv a s mk N/\∀t H',Same H H'->StateAt H H' t mk s->Q (.ref t) H'
theorem xjk(T:Tx K z):DefIs P w K z base (n+1) "_law_hands_of" qan xe1:=by
 refine DefIs.of T.kJ xi5 (by walk_at"l") (λf O A outer s H vs Q E hr h=>?_);obtain⟨Y,mk,rfl,C,h4,q⟩:=h;obtain⟨G,Z,cv,hv,rfl,l,_,_,r⟩:=mk_d C;obtain⟨J,x,rfl,c,e⟩:=r;have m:=e.length;rw[zLM]at m;refine(jEA _ (zpo (xag (xbj ["_law_hand"] [none] rfl (by kernel_rfl) (xa1 (K:=K) rfl (px K (pv 0) pI)) (λ_ _ _ _=>(pgc 0)) (λ_ _ _ _=>xbp) (λ_ _ _ _=>(px K (pv 0) pI))))) ?_);refine(xaa _ rfl G _ _ _ rfl rfl (zB l) rfl (jEAA J rfl ⟨_,zB c⟩ ?_));refine xbo (xs:=x) (λi ys j=>j=H/\ys=((hn mk).take i).map V.str) ⟨rfl,by rw[List.take_zero];rfl⟩ (xa2 (by omega)) (λi ys j _ p=>by rw[p.1];exact zB c) ?_ ?_
 ·rintro i y ys j I hi a ⟨rfl,rfl⟩
  obtain⟨d,g,rd⟩:=e.get I;rw[zGM]at g;obtain⟨hd,o,rfl⟩:=zMS g;obtain⟨u,bv,U,rfl,b,_,_⟩:=hd_d rd;refine⟨ext1 rfl,xdv ?_⟩;refine(xaa _ rfl u _ _ _ rfl rfl (zB b) rfl (nxtG hi a ⟨rfl,?_⟩));rw[zTA,zGM,o,zAP];rfl
 ·rintro ys j a ⟨rfl,rfl⟩ D M
  rw[zTL (by rw[zLM];omega)];exact q D M
theorem xo2(T:Tx K mg)(M:DefIs P w K mg base n "_law_hands_of" qan xe1)(r:MethIs P w K mg base n (ad K "Plain") "stand" qab [[]] (xfy K))(G:MethIs P w K mg base n (ad K "Plain") "told" qab [[]] (xky K))(g:MethIs P w K mg base n (ad K "Plain") "letters" qau [[]] (xhp K))(C:MethIs P w K mg base n (ad K "Plain") "count" qab [[]] (xhq K)):DefIs P w K mg base (n+1) "_law_state" qa5 (xkw K):=by
 refine DefIs.of T.kL scl_state (by walk_at"l") (λf br A outer s H vs Q E hr h=>?_);obtain⟨x,mv,ab,a,st,mk,N,rfl,hs,q⟩:=h;have nd:=scl_state.nd;have h4:=hs.mok.hfew;have h6:=hs.mok.cfew;obtain⟨fs,hx,lf⟩:=hs.at_.ob
 refine⟨_,(zpn (psn 3 nd (xbt pN))
   (zpn (xa6 (xhb (pv 2)) (zpo (xcx (i:=3) ["_law_channel","_law_house"] [none,some 0] rfl (by kernel_rfl) nd rfl (by walk_at"o") (xa1 (K:=K) rfl (px K (pv 1) pI)) (λ_ _ _ _=>(pgc 0)) (λ_ _ _ _=>xbp) (λ_ _ _ _=>(xaz (pc (px K (pv 0) pI) (pc (xcl g T.uC.cl hr (pv 1) (pc (px K (pv 0) pI) pN ss)) pN zsc) ss))))) pQ)
   (zpn (psn 4 nd (xbt pN))
   (zpn (xci zF rfl (xbm (K:=K) rfl (pd M hr (v1 1))) (pgn 5 nd)
   (zpn (xa6 (xhb (pv 2)) (zpo (xdo (xbt (pc (xcl C T.uC.cl hr (pv 0) (v1 5)) (pc (xcl G T.uC.cl hr (pv 0) (v1 5)) (pc (xcl r T.uC.cl hr (pv 0) (v1 5)) pN zsc) zsc) zsc)) (xov (K:=K) rfl rfl (xad (pgn 6 nd) (xad (pgn 7 nd) (xad (pgn 8 nd) xa9)))))) (zpo (xdo (xbt (pc (xcl r T.uC.cl hr (pv 0) (v1 5)) (pc (xcl G T.uC.cl hr (pv 0) (v1 5)) (pc (xcl C T.uC.cl hr (pv 0) (v1 5)) pN zsc) zsc) zsc)) (xov (K:=K) rfl rfl (xad (pgn 8 nd) (xad (pgn 7 nd) (xad (pgn 6 nd) xa9)))))))
   (zpo (xb0 (xdj zD zH zG xbn (pv 4) (pc (xaz (va 5 (va 8 (va 7 (v1 6))))) pN zsT))))))
   (zpn (xa6 (xmi (xhb (pv 2))) (zpo (xcx (i:=3) ["_law_channel","_law_house"] [none,some 0] rfl (by kernel_rfl) nd rfl (by walk_at"o") (xa1 (K:=K) rfl (px K (pv 1) pI)) (λ_ _ _ _=>(pgc 0)) (λ_ _ _ _=>xbp) (λ_ _ _ _=>(xaz (pc (px K (pv 0) pI) (pc (xcl g T.uC.cl hr (pv 1) (pc (px K (pv 0) pI) pN ss)) pN zsc) ss))))) pQ)
   (zpo (xag (xaz (va 4 (v1 3)))))))))),xab λR1 bo=>?_⟩
 refine⟨(by walk_at"s"),λl0 bd=>bo _ _ (xab λR2 bn=>?_)⟩;have s0:=zA bd (.lst [])
 have a6:∀(o3 o4 o5 o6 o7 o8:Option V) (D:Ends) (H1:Hp),Same H H1->(∀l us H2,Same H1 H2->H1 l=none->H2 l=some (.lst us)->us.length=mk.chans.length->(∀(i:Nat) u c,us[i]?=some u->mk.chans[i]?=some c->CSeen H1 (xby H2 l) st u c)->D.nx [some (.ref x),some mv,some (.bl ab),some (.ref l),o4,o5,o6,o7,o8] H2)->
   tAsg (xtc [none,some 0] (iTup K (tOp (rIxT K) (tVar 1) (tC (V.int 1)))) (xfl 0) tYes (tTup (xnd (tOp (rIxT K) (tVar 0) (tC (V.int 0))) (xnd (xn7 (ad K "Plain") "letters" (xhp K) [] E0 (tVar 1) (xnd (tOp (rIxT K) (tVar 0) (tC (V.int 0))) tNil)) tNil)))) (xfl 3) D [some (.ref x),some mv,some (.bl ab),o3,o4,o5,o6,o7,o8] H1:=by
  intro o3 o4 o5 o6 o7 o8 D H1 s1 k;obtain⟨ma,kv,cv,hv,rfl,bb,_,bf,_⟩:=mk_d (hs.md.same s1 _);obtain⟨ca,uc,rfl,b0,b1⟩:=bf;have bc:=b1.length;rw[zLM]at bc;refine(xaa _ rfl ma _ _ _ rfl rfl (zB bb) rfl (jEAA ca rfl ⟨_,zB b0⟩ ?_));refine xbo (xs:=uc) (λi ys Z=>Same H1 Z/\ys.length=i/\∀(j:Nat) u c,ys[j]?=some u->mk.chans[j]?=some c->CSeen H1 Z st u c) (jAA (Same.refl _) rfl (λj u c h=>by simp at h)) (xa2 (by omega)) (λi ys H' _ p=>zB (p.1 _ _ b0)) ?_ ?_
  ·rintro i y ys Z hy hi aw ⟨U,af,au⟩
   obtain⟨b,ch,ay,rfl,az⟩:=xds b1 hy;have a5:=U _ _ az;have O:=s1.trans U;refine⟨ext1 rfl,xdv ?_⟩;refine(xaa _ rfl b _ _ _ rfl rfl (zB a5) (xav (j:=0) rfl) ?_);refine(xbl _ rfl x _ fs rfl (O _ _ hx) (lf.no _ (by walk_at"k")) _ rfl (xbk b _ _ _ rfl rfl (zB a5) (xav (j:=0) rfl) x (xam _ ch.1 a st mk (jAAA rfl (hs.at_.same O) (qG (zMG ay)) (λlt ut H4 s4 J ai ag=>⟨(by walk_at"s"),λt ht=>nxtG hi aw ?_⟩)))));have s5:=zA ht (.tup [.str ch.1,.ref lt]);refine(jAA (U.trans (s4.trans s5)) (by rw[zLA,List.length_singleton,af]) (λj u c hj hh=>?_));by_cases aq:j<ys.length
   ·rw[List.getElem?_append_left aq]at hj
    exact(au j u c hj hh).same (s4.trans s5)
   ·have a4:=(zES hj).1
    rw[zLA,List.length_singleton]at a4;have ej:j=i:=by omega
    subst ej;rw[ay]at hh;cases hh;rw[List.getElem?_append_right (by omega),af,Nat.sub_self]at hj;cases hj;exact(xaj t lt ut rfl ups (s5 _ _ ai) (ag.same s5 _) (xae U J))
  ·rintro ys Z aw ⟨U,af,au⟩ D' hD
   have sD:=zA hD (.lst ys);exact k D' ys _ (U.trans sD) (xae U hD) ups (by omega) λi u c h1 h2=>(au i u c h1 h2).same (xqc hD)
 have K2:∀l3 a2 H1,Same H H1->H1 l3=some (.lst a2)->(ab=true->H l3=none/\a2.length=mk.chans.length/\∀(i:Nat) u c,a2[i]?=some u->mk.chans[i]?=some c->CSeen H (xby H1 l3) st u c)->R2 [some (.ref x),some mv,some (.bl ab),some (.ref l3),none,none,none,none,none] H1:=by
  intro l3 a2 H1 s1 ao bg;refine bn _ _ (xab λR3 bm=>?_);refine⟨(by walk_at"s"),λl4 a9=>bm _ _ (xab λR4 bj=>?_)⟩;have s4:=zA a9 (.lst []);have b7:=xae s1 a9;refine(xa8 _ rfl mv mk rfl (hs.md.same (s1.trans s4) _) ⟨h4,λl5 an=>?_⟩);have s5:=zA an (.lst ((hn mk).map V.str));have b8:l5≠l4:=λz=>by rw[z,ups]at an;cases an
  refine(jEAA l5 rfl ⟨_,zC ups⟩ ?_)
  refine xd5 (xs:=(hn mk).map V.str) (λi σ H'=>∃(us:List V) (o5 o6 o7 o8:Option V),σ=[some (.ref x),some mv,some (.bl ab),some (.ref l3),some (.ref l4),o5,o6,o7,o8]/\Same H1 H'/\H' l4=some (.lst us)/\H' l5=some (.lst ((hn mk).map V.str))/\us.length=i/\∀(j:Nat) u hd,us[j]?=some u->mk.hands[j]?=some hd->HSeen H (xby (xby H' l4) l3) mk st u hd)
   (xaf ([]) none none none none rfl (s4.trans s5) (s5 _ _ ups) ups rfl (λj u hd h=>by simp at h)) (λi σ H' _ p=>by obtain⟨_,_,_,_,_,_,_,_,h,_⟩:=p;exact zC h) ?_ ?_
  ·rintro i v σ H' hv ⟨us,o5,o6,o7,o8,rfl,sm,m,aa,Y,a8⟩
   rw[zGM,zGM]at hv;obtain⟨z,hz,rfl⟩:=zMS hv;obtain⟨hd,ar,rfl⟩:=zMS hz;have ax:=zMG ar;have a1:hd.name∈hn mk:=qG ax;have hi:i<mk.hands.length:=(zES ar).1;have I:=s1.trans sm;have ac:=sm _ _ ao;have bq:=hs.ok.bxlen hs.mok ax;refine xab λS1 bh=>?_
   have K3:∀sa p lt ut Z,Same H' Z->StAt Z sa p (st.sd hd.name).1 (st.sd hd.name).2->Z lt=some (.lst ut)->RelDs Z ut (st.tl hd.name)->H p=none->H lt=none->p≠l4->lt≠l4->lt≠l3->S1 [some (.ref x),some mv,some (.bl ab),some (.ref l3),some (.ref l4),some (.str hd.name),some (.int (st.ct hd.name:Nat)),some (.ref lt),some (.ref sa)] Z:=by
    intro sa p lt ut Z U a7 aj ah np b6 p4 b9 ba;refine bh _ _ ?_;have bp:=U _ _ m;refine(jEAA _ rfl (.inl (jAE rfl _ (zC bp))) ?_);refine(xd3 _ rfl _ rfl (xbi _ rfl _ rfl (by walk_at"s") (λt ht=>?_)));have s5:=zA ht (.tup [.str hd.name,.ref sa,.ref lt,.int (st.ct hd.name:Nat)]);have a3:=U.trans s5;have b2:=a3 _ _ m;refine(xaj l4 us (.ref t) rfl rfl b2 (xa2 (by omega)) ?_);refine(xaf (us++[.ref t]) _ _ _ _ rfl (λb o e=>?_) ups (by rw[xai b8];exact a3 _ _ aa) (by rw[zLA,List.length_singleton,Y]) (λj u be hj hh=>?_))
    ·rw[xai (neN e a9)]
     exact a3 _ _ (sm _ _ e)
    ·rw[xqb]
     by_cases aq:j<us.length
     ·rw[List.getElem?_append_left aq]at hj
      exact(a8 j u be hj hh).same (xde (xde a3))
     ·have a4:=(zES hj).1
      rw[zLA,List.length_singleton]at a4;have ej:j=i:=by omega
      subst ej;rw[ar]at hh;cases hh;rw[List.getElem?_append_right (by omega),Y,Nat.sub_self]at hj;cases hj;have b3:=a3 _ _ (sm _ _ ao);have ae:∀b vs,upd Z t (.tup [.str hd.name,.ref sa,.ref lt,.int (st.ct hd.name:Nat)]) b=some (.tup vs)->xby (xby (upd Z t (.tup [.str hd.name,.ref sa,.ref lt,.int (st.ct hd.name:Nat)])) l4) l3 b=some (.tup vs):=λb vs e=>xbz (xhh b2 b vs e) λz=>by rw[z,b3]at e;cases e
      have p3:∀o,upd Z t (.tup [.str hd.name,.ref sa,.ref lt,.int (st.ct hd.name:Nat)]) p=some o->p≠l3:=λo e z=>by
       obtain⟨_,kb,e2,_⟩:=a7.same s5;rw[z,b3]at e2;cases e2
      exact(xaf t sa p lt ut rfl (ae _ _ ups) ((a7.same s5).keep ae λo e=>xbz (xbz e p4) (p3 o e)) (xbz (xbz (s5 _ _ aj) b9) ba) ((ah.same s5 _).tups ae _) ⟨np,b6⟩)
   refine(xd3 _ rfl _ rfl ?_)
   cases ab with
   |true=>
    refine(xbl _ rfl x _ fs rfl (I _ _ hx) (lf.no _ (by walk_at"k")) _ rfl (xam x mv hd.name a st (xbr mk rfl (hs.at_.same I) a1 ?_)));refine(xbl _ rfl x _ fs rfl (I _ _ hx) (lf.no _ (by walk_at"k")) _ rfl (xam x mv hd.name a st (xbr mk rfl (hs.at_.same I) a1 (λlt ut Z U J aj ah=>?_))));have O:=I.trans U;refine(xbl _ rfl x _ fs rfl (O _ _ hx) (lf.no _ (by walk_at"k")) _ rfl (xam x mv hd.name a st (xbf mk rfl (hs.at_.same O) a1 (by omega) (λsa p H4 s4 ak b5=>⟨(by walk_at"s"),λll am=>?_⟩))));have sL:=zA am (.lst [.int (st.ct hd.name:Nat),.ref lt,.ref sa]);refine(xaw ll _ rfl (zC ups) rfl _ _ rfl _ (xa8 _ rfl _ _ rfl rfl ?_));exact K3 sa p lt ut _ (U.trans (s4.trans sL)) (b5.same sL) (sL _ _ (s4 _ _ aj)) (ah.same (s4.trans sL) _) (xae O ak) (xae I J) (λz=>by rw[z,U _ _ m]at ak;cases ak) (λz=>by rw[z,m]at J;cases J) λz=>by rw[z,ac]at J;cases J
   |false=>
    refine(xbl _ rfl x _ fs rfl (I _ _ hx) (lf.no _ (by walk_at"k")) _ rfl (xam x mv hd.name a st (xbf mk rfl (hs.at_.same I) a1 (by omega) (λsa p Z U al a7=>?_))));have O:=I.trans U;refine(xbl _ rfl x _ fs rfl (O _ _ hx) (lf.no _ (by walk_at"k")) _ rfl (xam x mv hd.name a st (xbr mk rfl (hs.at_.same O) a1 (λlt ut H4 s4 J ai ag=>?_))));have av:=O.trans s4;refine(xbl _ rfl x _ fs rfl (av _ _ hx) (lf.no _ (by walk_at"k")) _ rfl (xam x mv hd.name a st (xbf mk rfl (hs.at_.same av) a1 (by walk_at"s") (λll am=>?_))));have sL:=zA am (.lst [.ref sa,.ref lt,.int (st.ct hd.name:Nat)]);refine(xaw ll _ rfl (zC ups) rfl _ _ rfl _ (xa8 _ rfl _ _ rfl rfl ?_));exact K3 sa p lt ut _ (U.trans (s4.trans sL)) (a7.same (s4.trans sL)) (sL _ _ ai) (ag.same sL _) (xae I al) (xae O J) (λz=>by rw[z,m]at al;cases al) (λz=>by rw[z,U _ _ m]at J;cases J) λz=>by rw[z,U _ _ ac]at J;cases J
  ·rintro σ H' ⟨us,o5,o6,o7,o8,rfl,sm,m,aa,Y,a8⟩
   rw[zLM,zLM]at Y;refine bj _ _ (xab λR5 bi=>?_);have I:=s1.trans sm
   have K4:∀l a0 H2,Same H' H2->H l=none->H2 l=some (.lst a0)->a0.length=mk.chans.length->(∀(i:Nat) u hd,us[i]?=some u->mk.hands[i]?=some hd->HSeen H (xby (xby H2 l4) l) mk st u hd)->(∀(i:Nat) u c,a0[i]?=some u->mk.chans[i]?=some c->CSeen H (xby (xby H2 l4) l) st u c)->R5 [some (.ref x),some mv,some (.bl ab),some (.ref l),some (.ref l4),o5,o6,o7,o8] H2:=by
    intro l a0 H2 s2 nl hl hn hh hc;refine bi _ _ (xbi _ rfl _ rfl (by walk_at"s") (λt ht=>?_));have sT:=zA ht (.tup [.ref l4,.ref l]);have q2:=xde (l:=l) (xde (l:=l4) sT);exact q t _ (I.trans (s2.trans sT)) ⟨l4,(xaj l us a0 ups (sT _ _ (s2 _ _ m)) (sT _ _ hl) Y (jAAA hn b7 nl ⟨λi u hd e1 e2=>(hh i u hd e1 e2).same q2,λi u c e1 e2=>(hc i u c e1 e2).same q2⟩))⟩
   refine(xd3 _ rfl _ rfl ?_)
   cases ab with
   |true=>
    obtain⟨g1,g3,g4⟩:=bg rfl;refine K4 l3 a2 H' (Same.refl _) g1 (sm _ _ ao) g3 a8 λi u c e1 e2=>(g4 i u c e1 e2).same λb o e=>?_;have e':=dropA_le b o e;refine xbz (xbz (sm _ _ e') (neN e' a9)) λz=>?_;unfold xby at e;rw[if_pos z]at e;cases e
   | false=>
    refine a6 _ _ _ _ _ _ _ _ I λl a0 H2 s2 nl hl hn hc=>K4 l a0 H2 s2 (xae I nl) hl hn (λi u hd e1 e2=>(a8 i u hd e1 e2).same λb o e=>?_) λi u c e1 e2=>?_
    ·have e':=dropA_le b o e
     have b4:=dropA_le b o e';refine xbz (xbz (s2 _ _ b4) λz=>?_) (neN b4 nl);unfold xby at e';rw[if_pos z]at e';cases e'
    ·rw[xnv]
     exact((hc i u c e1 e2).drop (xbz (s2 _ _ m) (neN m nl)) (by rw[m];simp)).dn I
 refine(xd3 _ rfl _ rfl ?_)
 cases ab with
 |true=>exact a6 _ _ _ _ _ _ _ _ s0 λl us H2 s2 nl hl hn hc=>K2 l us H2 (s0.trans s2) hl λ_=>(jAA (xae s0 nl) hn (λi u c e1 e2=>(hc i u c e1 e2).dn s0))
 |false=>exact K2 l0 [] _ s0 ups λz=>by cases z
structure LnHere(K:Fg)(H:Hp)(x:Addr)(mv:V)(h:Str)(a:LnA)(st:LSt)(mk:Mak)(hd:Hand):Prop where
 at_:LnAt H (ad K "Lone") x mv h a st
 md:RelD H mv mk.d
 mok:MakOk mk
 hf:xdy mk h=some hd
 ok:LOk mk hd st
def xk2(K:Fg):Sp:=λvs H Q _=>∃(x:Addr) (mv:V) (h:Str) (a:LnA) (st:LSt) (mk:Mak) (hd:Hand) (r:Row),vs=[.ref x]/\LnHere K H x mv h a st mk hd/\hd.rows[st.row]?=some r/\st.many<=900/\(r.shut st.com=true->Q (.bl false) H) ∧
 (r.shut st.com=false->∀a' H',(∀b o,H b=some o->b ∉a.F x->H' b=some o)->(∀b vs,H b=some (.tup vs)->H' b=some (.tup vs))->(∀b∈a'.F x,b∈a.F x\/H b=none)->LnHere K H' x mv h a' (st.next mk.kinds r) mk hd->Q (.bl true) H')
def xhs(K:Fg):Sp:=λvs H Q _=>∃(x:Addr) (mv:V) (h:Str) (a:LnA) (st:LSt),vs=[.ref x]/\LnAt H (ad K "Lone") x mv h a st/\st.bx.length<=100/\∀sa' p' H',Same H H'->H p'=none->StAt H' sa' p' st.row st.bx->Q (.ref sa') H'
def xoe(K:Fg):Sp:=λvs H Q _=>∃(x:Addr) (mv:V) (h:Str) (a:LnA) (st:LSt),vs=[.ref x]/\LnAt H (ad K "Lone") x mv h a st/\∀l us H',Same H H'->H l=none->H' l=some (.lst us)->RelDs H' us st.told->Q (.ref l) H'
def xeg(K:Fg)(F:LSt->Lts):Sp:=λvs H Q _=>∃(x:Addr) (mv:V) (h:Str) (a:LnA) (st:LSt),vs=[.ref x]/\LnAt H (ad K "Lone") x mv h a st/\((F st).map (·.1)).Nodup/\(F st).length<=100/\∀d' kvs' L' H',Same H H'->H d'=none->(∀a∈L',H a=none)->(d'::L').Nodup->H' d'=some (.dK kvs')->LsAt H' kvs' (F st) L'->Q (.ref d') H'
def xl8(K:Fg):Sp:=λvs H Q _=>∃(x:Addr) (mv:V) (h:Str) (a:LnA) (st:LSt),vs=[.ref x]/\LnAt H (ad K "Lone") x mv h a st/\Q (.int st.many) H
theorem xib(T:Tx K mg):MethIs P w K mg base (n+1) (ad K "Lone") "count" qaa [[]] (xl8 K):=by
 refine MethIs.of T.uX xhz (λvs H Q E h=>?_) (λf cdv A outer s H vs Q E hr h=>?_)
 ·obtain⟨_,_,_,_,_,rfl,_⟩:=h
  rfl
 obtain⟨x,mv,h,a,st,rfl,l,q⟩:=h;obtain⟨fs,hx,lf⟩:=l.ob;refine(jEA _ (zpo (xag (xck (pv 0) rfl))) ?_);exact(xa4 _ rfl x _ _ fs (xb1 _ rfl hx T.uE.cl (T.uE.no _ (by simp)) lf.mn q))
theorem xjo(T:Tx K mg):MethIs P w K mg base (n+1) (ad K "Lone") "told" qaa [[]] (xoe K):=by
 refine MethIs.of T.uU xi8 (λvs H Q E h=>?_) (λf cdv A outer s H vs Q E hr h=>?_)
 ·obtain⟨_,_,_,_,_,rfl,_⟩:=h
  rfl
 obtain⟨x,mv,h,a,st,rfl,l,q⟩:=h;obtain⟨fs,hx,lf⟩:=l.ob;obtain⟨ut,hta,hut⟩:=l.tel;refine(jEA _ (zpo (xag (xat xb4 rfl T.kY zM (pc (xck (pv 0) rfl) pN xb7)))) ?_);refine(xa4 _ rfl x _ _ fs (xb1 _ rfl hx T.uE.cl (T.uE.no _ (by simp)) lf.tl (xaq a.ta ut rfl (.inl (zC hta)) (λb hb=>?_))));have sb:=zA hb (.lst ut);exact q b ut _ sb hb ups (hut.same sb _)
theorem xia(T:Tx K mg)(D_own_stand:DefIs P w K mg base n "own_stand" ["stand"] xhr):MethIs P w K mg base (n+1) (ad K "Lone") "stand" qaa [[]] (xhs K):=by
 refine MethIs.of T.uT xhy (λvs H Q E h=>?_) (λf cdv A outer s H vs Q E hr h=>?_)
 ·obtain⟨_,_,_,_,_,rfl,_⟩:=h
  rfl
 obtain⟨x,mv,h,a,st,rfl,l,h100,q⟩:=h;obtain⟨fs,hx,lf⟩:=l.ob;refine(jEA _ (zpo (xag (pd D_own_stand hr (pc (xck (pv 0) rfl) pN xb7)))) ?_);exact(xa4 _ rfl x _ _ fs (xb1 _ rfl hx T.uE.cl (T.uE.no _ (by simp)) lf.nw (xda a.sa a.p st.row st.bx rfl l.sta ⟨h100,q⟩)))
theorem xjq(T:Tx K mg)(D_own_lists:DefIs P w K mg base n "own_lists" ["lists"] xk1):MethIs P w K mg base (n+1) (ad K "Lone") "sent" qaa [[]] (xeg K LSt.goi):=by
 refine MethIs.of T.uV xi9 (λvs H Q E h=>?_) (λf cdv A outer s H vs Q E hr h=>?_)
 ·obtain⟨_,_,_,_,_,rfl,_⟩:=h
  rfl
 obtain⟨x,mv,h,a,st,rfl,l,hnd,h100,q⟩:=h;obtain⟨fs,hx,lf⟩:=l.ob;obtain⟨kg,hga,hls⟩:=l.goi;refine(jEA _ (zpo (xag (pd D_own_lists hr (pc (xck (pv 0) rfl) pN xb7)))) ?_);exact(xa4 _ rfl x _ _ fs (xb1 _ rfl hx T.uE.cl (T.uE.no _ (by simp)) lf.gn (xay a.ga kg st.goi a.Lg rfl hga hls hnd h100 q)))
theorem xjr(T:Tx K mg)(D_own_lists:DefIs P w K mg base n "own_lists" ["lists"] xk1):MethIs P w K mg base (n+1) (ad K "Lone") "left" qaa [[]] (xeg K LSt.com):=by
 refine MethIs.of T.uW xja (λvs H Q E h=>?_) (λf cdv A outer s H vs Q E hr h=>?_)
 ·obtain⟨_,_,_,_,_,rfl,_⟩:=h
  rfl
 obtain⟨x,mv,h,a,st,rfl,l,hnd,h100,q⟩:=h;obtain⟨fs,hx,lf⟩:=l.ob;obtain⟨kg,hga,hls⟩:=l.com;refine(jEA _ (zpo (xag (pd D_own_lists hr (pc (xck (pv 0) rfl) pN xb7)))) ?_);exact(xa4 _ rfl x _ _ fs (xb1 _ rfl hx T.uE.cl (T.uE.no _ (by simp)) lf.cm (xay a.ca kg st.com a.Lc rfl hga hls hnd h100 q)))
theorem xjp(T:Tx K mg)(D_done:DefIs P w K mg base n "done" qar xmb):MethIs P w K mg base (n+1) (ad K "Lone") "step" qaa [[]] (xk2 K):=by
 refine MethIs.of T.uS sc_Lone_step (λvs H Q E h=>?_) (λf cdv A outer s H vs Q E hr h=>?_)
 ·obtain⟨_,_,_,_,_,_,_,_,rfl,_⟩:=h
  rfl
 obtain⟨x,mv,h,a,st,mk,hd,r,rfl,l,hrow,h900,qn,qs⟩:=h;have nd:=sc_Lone_step.nd;have l0:=l.at_;obtain⟨fs,hx,lf⟩:=l0.ob;obtain⟨hin,hnm⟩:=xlo l.hf;have hok:=l.mok.hok hd hin;have cl:=T.uE.cl;have no:=T.uE.no
 refine⟨_,(zpn (psn 1 nd (pd D_done hr (pc (xck (pv 0) rfl) (pc (xck (pv 0) rfl) (pc (xck (pv 0) rfl) (pc (xck (pv 0) rfl) (pc (xck (pv 0) rfl) (pc (xck (pv 0) rfl) pN xb7) xb7) xb7) xb7) xb7) xb7)))
   (zpn (xa6 (pR xjh (pv 1) xer (nM _)) (zpo (xag xe5)) pQ)
   (zpn (xdn (pv 0) (pv 1) rfl)
   (zpn (xdn (pv 0) (xan xbe (xck (pv 0) rfl) pI) rfl)
   (zpo (xag xe5)))))),xab λR1 hR1=>?_⟩
 refine(xa4 _ rfl x _ _ fs (xch _ rfl hx cl (no _ (by simp)) lf.mkv _ rfl x _ (xaj _ fs _ rfl hx cl (no _ (by simp)) (jAEA lf.nm _ rfl (xaf x _ _ fs _ rfl hx cl (no _ (by simp)) lf.nw (xa4 _ rfl x _ _ fs (xch _ rfl hx cl (no _ (by simp)) lf.cm _ rfl x _ (xaj _ fs _ rfl hx cl (no _ (by simp)) (jAEA lf.gn _ rfl (xaf x _ _ fs _ rfl hx cl (no _ (by simp)) lf.tl ?_))))))))));refine(xam mv h a.sa a.ca a.ga (xam a.ta a.p st.row st.bx mk (xaq hd r rfl ⟨l.md,l.mok,l.hf,l0.sta,by have:=l.ok.bxlen hok;omega,l.ok.fit,hrow⟩ ?_)));have none_:Q (.bl false) H->R1 [some (.ref x),some .non] H:=λq=>hR1 _ _ (xab λR2 hR2=>(xa0 _ rfl rfl _ rfl (iteKT (zDT rfl) q)))
 have some_:r.shut st.com=false->∀{sa' p':Addr} {H1:Hp},H1 x=some (.ins (ad K "Lone") a.dx fs)->StAt H1 sa' p' (xcv mk.kinds st.bx st.row r) (xdq mk.kinds st.bx (r.letter st.com) r)->(∃kc,H1 a.ca=some (.dK kc)/\LsAt H1 kc (r.com st.com) a.Lc)->(∃kg,H1 a.ga=some (.dK kg)/\LsAt H1 kg (r.goi mk.kinds st.bx st.goi) a.Lg)->(∃ut,H1 a.ta=some (.lst ut)/\RelDs H1 ut (r.told mk.kinds st.bx st.told))->
   (∀b o,H b=some o->b ∉a.F x->H1 b=some o)->(∀b vs,H b=some (.tup vs)->H1 b=some (.tup vs))->p'=a.p\/H p'=none->R1 [some (.ref x),some (.ref sa')] H1:=λsh {sa' p' H1} hx1 h1 h2 h3 h4 fr tp hp=>by
  refine hR1 _ _ (xab λR2 hR2=>(xa0 _ rfl rfl _ rfl (iteKF (zDF λz=>nomatch z) (hR2 _ _ (xab λR3 hR3=>?_)))));refine(xap _ rfl _ rfl x _ _ (xb1 fs rfl hx1 cl (no _ (by simp)) (by have:=lf.len;omega) (hR3 _ _ (xab λR4 hR4=>?_))));have lf1:=lf.now sa';refine(xa4 _ rfl x _ _ _ (xb1 _ rfl ups cl (no _ (by simp)) lf1.mn (xaq _ _ rfl rfl (xaa _ rfl x _ _ _ rfl ups cl (no _ (by simp)) ⟨by have:=lf1.len;omega,hR4 _ _ ?_⟩))));rw[xkq]
  obtain⟨g1,g2,g3,g4⟩:=l0.stepped (st':=st.next mk.kinds r) (fs2:=putF (Str.ofString "many") (.int ((st.many:Int)+1)) (putF (Str.ofString "now") (.ref sa') fs)) hx1 (by
   have:=lf1.many ((st.many:Int)+1);rw[show((st.next mk.kinds r).many:Int)=(st.many:Int)+1 from by show((st.many+1:Nat):Int)=_;omega];exact this) h1 h2 h3 h4 fr tp hp
  exact qs sh _ _ g2 g3 g4 ⟨g1,l.md.tups g3 _,l.mok,l.hf,l.ok.next l.mok hin hrow sh⟩
 obtain⟨kc,hca,hlc⟩:=l0.com;obtain⟨kg,hga,hlg⟩:=l0.goi;obtain⟨ut,hta,hut⟩:=l0.tel;have ndl:=l0.nd;rw[List.nodup_cons,List.nodup_append]at ndl;obtain⟨nta,ndc,ndg,ncg⟩:=ndl;have hro:=hok.ok r (zMG hrow)
 have rest:∀{la:Addr} {us xs:List V} {H1:Hp},H la=some (.lst us)->la∈a.F x->Chg la xs H H1->H1 x=some (.ins (ad K "Lone") a.dx fs)/\H1 a.ca=some (.dK kc)/\H1 a.ga=some (.dK kg)/\(la ∉a.Lc->LsAt H1 kc st.com a.Lc)/\(la ∉a.Lg->LsAt H1 kg st.goi a.Lg)/\(a.ta≠la->H1 a.ta=some (.lst ut))/\RelDs H1 ut st.told/\(∀b o,H b=some o->b ∉a.F x->H1 b=some o)/\∀b vs,H b=some (.tup vs)->H1 b=some (.tup vs):=λ{la us xs H1} hla hF c=>by
  have tp:=c.tups hla;refine(jAAA (c.ne hx λz=>?_) (c.ne hca λz=>?_) (c.ne hga λz=>?_) (jAAA (λn=>hlc.keep tp λb hb zs e=>c.ne e λz=>n (z ▸ hb)) (λn=>hlg.keep tp λb hb zs e=>c.ne e λz=>n (z ▸ hb)) (λn=>c.ne hta n) (jAA (hut.tups tp _) (λb o e n=>c.ne e λz=>n (z ▸ hF)) tp)))
  ·rw[z,hla]at hx;cases hx
  ·rw[z,hla]at hca;cases hca
  ·rw[z,hla]at hga;cases hga
 have inF:∀la,la=a.ta\/la∈a.Lc\/la∈a.Lg->la∈a.F x:=λla h=>by
  simp only[LnA.F,List.mem_cons,List.mem_append];rcases h with h |h |h
  ·exact .inr (.inr (.inr (.inr (.inl h))))
  ·exact .inr (.inr (.inr (.inr (.inr (.inl h)))))
  ·exact .inr (.inr (.inr (.inr (.inr (.inr h)))))
 cases r with
 |fin=>exact none_ (qn rfl)
 | take nn c y=>
  obtain⟨ch,hc,rfl,hto,_⟩:=hro
  have hcm:ch.1∈st.com.map (·.1):=by
   rw[l.ok.com];exact qG (List.mem_filter.mpr ⟨hc,zDT hto⟩)
  obtain⟨ds,hg,_⟩:=xil hcm;obtain⟨la,us,hv,hmem,hla,hus,mod⟩:=hlc.get ndc hg;have shE:(Row.take nn ch.1 y).shut st.com=ds.isEmpty:=by show((getL st.com ch.1).getD []).isEmpty=_;rw[hg];rfl
  refine(xay kc la us ds hca hv hla hus (λe=>none_ (qn (by rw[shE,e];rfl))) (λd ds' e sa' p' H1 chg hp' st'=>?_));subst e;obtain⟨u,us',rfl,hu,hus'⟩:=hus;obtain⟨r1,r2,r3,r4,r5,r6,r7,r8,r9⟩:=rest hla (inF la (.inr (.inl hmem))) chg;have nlg:la ∉a.Lg:=λz=>ncg la hmem la z rfl;have nlt:a.ta≠la:=λz=>nta (by rw[z];exact zR _ hmem);have eL:(Row.take nn ch.1 y).letter st.com=d:=by show((getL st.com ch.1).getD []).headD _=d;rw[hg];rfl
  refine some_ (by rw[shE];rfl) r1 (by rw[eL];exact st') (jEA kc r2 (mod H1 us' List.tail chg (hus'.tups (chg.tups hla) _))) (jEA kg r3 (r5 nlg)) (jEA ut (r6 nlt) r7) r8 r9 hp'
 | send c t=>
  obtain⟨ch,hc,rfl,hfrom,_⟩:=hro
  have hcm:ch.1∈st.goi.map (·.1):=by
   rw[l.ok.goi];exact qG (List.mem_filter.mpr ⟨hc,zDT hfrom⟩)
  obtain⟨ds,hg,hgm⟩:=xil hcm;obtain⟨la,us,hv,hmem,hla,hus,mod⟩:=hlg.get ndg hg;have hb:=(l.ok.gok _ hgm).1;have hul:=hus.length;refine(xaj kg la us hga hv hla (by show us.length<=1000;rw[hul];exact zY hb (by omega)) (λsa' p' u H1 chg hu hp' st'=>?_));obtain⟨r1,r2,r3,r4,r5,r6,r7,r8,r9⟩:=rest hla (inF la (.inr (.inr hmem))) chg;have nlc:la ∉a.Lc:=λz=>ncg la z la hmem rfl;have nlt:a.ta≠la:=λz=>nta (by rw[z];exact zJ _ hmem);exact some_ rfl r1 st' (jEA kc r2 (r4 nlc)) (jEA kg r3 (mod H1 (us++[u]) (λl=>l++[wv mk.kinds st.bx t]) chg ((hus.tups (chg.tups hla) _).append (xaq u ([]) rfl hu rfl)))) (jEA ut (r6 nlt) r7) r8 r9 hp'
 |tell t=>
  have hb:=l.ok.tok.1;have hul:=hut.length;refine(jEAA ut hta (by omega) (λsa' p' u H1 chg hu hp' st'=>?_));obtain⟨r1,r2,r3,r4,r5,r6,r7,r8,r9⟩:=rest hta (inF a.ta (.inl rfl)) chg;exact some_ rfl r1 st' (jEA kc r2 (r4 λz=>nta (zR _ z))) (jEA kg r3 (r5 λz=>nta (zJ _ z))) (jEA (ut++[u]) (chg.at hta) (r7.append (xaq u ([]) rfl hu rfl))) r8 r9 hp'
 |_=>
  intro sa' p' H1 s1 hp' st';exact some_ rfl (s1 _ _ hx) st' (jEA kc (s1 _ _ hca) (hlc.same s1)) (jEA kg (s1 _ _ hga) (hlg.same s1)) (jEA ut (s1 _ _ hta) (hut.same s1 _)) (λb o e _=>s1 b o e) (Same.tups s1) hp'
def comL(mk:Mak)(h:Str)(cs:Lts):Lts:=(chTo mk h).map λc=>(c,(getL cs c).getD [])
def goiL(mk:Mak)(h:Str):Lts:=(xd1 mk h).map λc=>(c,[])
def xwn(H:Hp)(sv:V)(mk:Mak)(hd:Hand)(row:Nat)(bx:List (Str×D)):Prop:=(sv=.non/\row=0/\bx=begL mk hd)\/∃sa p,sv=.ref sa/\StAt H sa p row bx/\bx.length<=100
theorem xv2(b:Addr->Hp->Prop){R:Addr->Hp->Prop}{A:Prop}(h:(∀a H,b a H->R a H)->A)(r:∀a H,b a H->R a H):A:=h r
def xk3(K:Fg):Sp:=λvs H Q _=>∃(x dx:Addr) (mv:V) (h:Str) (d:Addr) (kvs:List (Key×V)) (cs:Lts) (L:List Addr) (mk:Mak) (hd:Hand) (sv:V) (row:Nat) (bx:List (Str×D)),vs=[.ref x,mv,.str h,.ref d,sv]/\xwn H sv mk hd row bx/\H x=some (.ins (ad K "Lone") dx [])/\RelD H mv mk.d/\MakOk mk/\xdy mk h=some hd/\H d=some (.dK kvs)/\LsAt H kvs cs L ∧
 ∀a H',SameBut x H H'->(∀b∈a.F x,b=x\/H b=none)->LnAt H' (ad K "Lone") x mv h a ⟨row,bx,comL mk h cs,goiL mk h,[],0⟩->Q .non H'
theorem xqk(mk:Mak)(h:Str)(cs:Lts):(comL mk h cs).map (·.1)=chTo mk h:=by
 unfold comL;rw[List.map_map];exact(zP (g:=id) λ_ _=>rfl).trans (List.map_id _)
theorem xp2(mk:Mak)(h:Str):(goiL mk h).map (·.1)=xd1 mk h:=by
 unfold goiL;rw[List.map_map];exact(zP (g:=id) λ_ _=>rfl).trans (List.map_id _)
theorem xum{mk:Mak}(h:(mk.chans.map (·.1)).Nodup)(x:Str):(chTo mk x).Nodup:=zW (List.Sublist.map _ List.filter_sublist) h
theorem xql{mk:Mak}(h:(mk.chans.map (·.1)).Nodup)(x:Str):(xd1 mk x).Nodup:=zW (List.Sublist.map _ List.filter_sublist) h
theorem xs1{mk:Mak}(h:mk.chans.length<=6){p:Chn->Bool}:((mk.chans.filter p).map (·.1)).length<=6:=by
 rw[zLM];exact zY (zV _ _) h
theorem xm2 {H:Hp} {D c:Addr} {ys:List V} {kvs:List (Key×V)} {cs:Lts} {L:List Addr} (hD:H D=none) (hls:LsAt H kvs cs L) (hc:upd H D (.lst ys) c=none) :
  ∃H',H'=upd (upd H D (.lst ys)) c (.dK kvs)/\H c=none/\Same H H'/\H' c=some (.dK kvs)/\LsAt H' kvs cs L:=by
 have sD:=zA hD (.lst ys);have sc:=zA hc (.dK kvs);exact(xbf _ rfl (xae sD hc) (sD.trans sc) ups (hls.same (sD.trans sc)))
theorem xjs (T:Tx K mg) (I:DefIs P w K mg base n "begin_of" qac xk5) (G:DefIs P w K mg base n "own_stand" ["stand"] xhr) (r:DefIs P w K mg base n "channels_to" qac (xht chTo)) (j:DefIs P w K mg base n "channels_from" qac (xht xd1)) :
  MethIs P w K mg base (n+1) (ad K "Lone") "__init__" qao [[.none],[]] (xk3 K):=by
 refine MethIs.of T.uR xjb (λvs H Q E h=>?_) (λf df A outer s H vs Q E hr h=>?_)
 ·obtain⟨_,_,_,_,_,_,_,_,_,_,_,_,_,rfl,_⟩:=h
  rfl
 obtain⟨x,Z,mv,h,d,kvs,cs,L,mk,hd,sv,row,bx,rfl,bu,hx,md,ac,hf,az,cw,q⟩:=h;have hu:=xep hr;have cl:=T.uE.cl;have no:=T.uE.no;have h6:=ac.cfew
 refine⟨_,(zpn (xdn (pv 0) (pv 1) rfl)
   (zpn (xdn (pv 0) (pv 2) rfl)
   (zpn (xdn (pv 0) (xe4 (pR xjh (pv 4) xer (nM _)) (pd I hr (va 1 (v1 2))) (pd G hr (v1 4))) rfl)
   (zpn (xdn (pv 0) (xat (xcq rfl) rfl T.kT zL (pc (xbj ["c","letters"] [none,some 3] rfl (by kernel_rfl) (xbm (K:=K) rfl (pd r hr (va 1 (v1 2)))) (λ_ _ _ _=>(pgc 0)) (λ_ _ _ _=>xbp) (λ_ _ _ _=>(xaz (va 0 (pc (xat (xfb (K:=K) rfl) rfl T.kY zM (pc (xmj hu (pv 1) (pv 0) (xbt pN) ⟨rfl,rfl,rfl,rfl⟩) pN zsc)) pN zsc))))) pN xb2)) rfl)
   (zpn (xdn (pv 0) (xat (xcq rfl) rfl T.kT zL (pc (xbj ["c"] [none] rfl (by kernel_rfl) (xbm (K:=K) rfl (pd j hr (va 1 (v1 2)))) (λ_ _ _ _=>(pgc 0)) (λ_ _ _ _=>xbp) (λ_ _ _ _=>(xaz (va 0 (pc (xbt pN) pN xhm))))) pN xb2)) rfl)
   (zpn (xdn (pv 0) (xbt pN) rfl)
   (zpo (xdn (pv 0) pI rfl)))))))),xab λR1 d7=>?_⟩
 refine(xap _ rfl _ rfl x _ _ (xb1 _ rfl hx cl (no _ (by simp)) (by decide) (d7 _ _ (xab λR2 d6=>?_))));refine(xap _ rfl _ rfl x _ _ (xb1 _ rfl ups cl (no _ (by simp)) (zT (xar _ _ _) (by decide)) (d6 _ _ (xab λR3 d5=>?_))));rw[xkq];obtain⟨f2,b9⟩:∃f2,f2=putF (Str.ofString "name") (.str h) (putF (Str.ofString "make") mv []):=⟨_,rfl⟩;have l2:f2.length<=2:=by rw[b9];exact zY (xar _ _ _) (zI (xar _ _ _))
 rw[<- b9];obtain⟨H2,ai⟩:∃H2,H2=upd H x (.ins (ad K "Lone") Z f2):=⟨_,rfl⟩;rw[<- ai];have b2:SameBut x H H2:=by rw[ai];exact SameBut.upd _ _ _
 have a4:H2 x=some (.ins (ad K "Lone") Z f2):=by rw[ai];exact ups
 clear ai;have cp:=md.tups (xb6 b2 hx) _
 have hA:sv=.non->row=0/\bx=begL mk hd:=λz=>by
  rcases bu with⟨_,e2,e3⟩ |⟨J,p0,e1,_⟩
  ·exact⟨e2,e3⟩
  ·rw[e1]at z;cases z
 have hB:sv≠.non->∃J p0,sv=.ref J/\StAt H2 J p0 row bx/\bx.length<=100:=λz=>by
  rcases bu with⟨e1,_⟩ |⟨J,p0,e1,bl,b1⟩
  ·exact absurd e1 z
  ·refine(xaq J p0 e1 (bl.keep (xb6 b2 hx) (λo e=>b2 p0 o e λz=>?_)) b1)
   obtain⟨_,kv',h',_⟩:=bl;rw[z,hx]at h';cases h'
 apply xv2 (λsa H3=>∃p,Same H2 H3/\H2 p=none/\StAt H3 sa p row bx)
 ·intro bq
  refine(xa0 _ rfl rfl _ rfl (ite2 (λc1=>?_) (λc1=>?_)))
  ·exact(xap _ rfl _ rfl mv h mk (xbf hd rfl cp ac hf (λsa p H3 s3 M a0=>bq sa H3 (jEAA p s3 M (by rw[(hA (z0 c1)).1,(hA (z0 c1)).2];exact a0)))))
  ·obtain⟨J,p0,e1,cg,b1⟩:=hB λz=>c1 (zDT z)
   exact(xa4 _ rfl J p0 row bx (jAAA (congrArg (λv=>[v]) e1) cg b1 (λsa p H3 s3 M a0=>bq sa H3 (jEAA p s3 M a0))))
 rintro sa H3 ⟨p,s3,M,a0⟩;refine(xaa _ rfl x _ _ _ rfl (s3 _ _ a4) cl (no _ (by simp)) ⟨by omega,d5 _ _ (xab λR4 d4=>?_)⟩);obtain⟨f3,b7⟩:∃f3,f3=putF (Str.ofString "now") (.ref sa) f2:=⟨_,rfl⟩;have l3:f3.length<=3:=by rw[b7];exact zY (xar _ _ _) (zI l2)
 rw[<- b7];obtain⟨H4,ah⟩:∃H4,H4=upd H3 x (.ins (ad K "Lone") Z f3):=⟨_,rfl⟩;rw[<- ah];have bg:SameBut x H3 H4:=by rw[ah];exact SameBut.upd _ _ _
 have a3:H4 x=some (.ins (ad K "Lone") Z f3):=by rw[ah];exact ups
 clear ah;have b4:SameBut x H H4:=(b2.trans s3.but).trans bg
 have cf:StAt H4 sa p row bx:=a0.keep (xb6 bg (s3 _ _ a4)) λo e=>bg p o e λz=>by
  obtain⟨_,kv',h',_⟩:=a0;rw[z,s3 _ _ a4]at h';cases h'
 have bv:p≠x:=λz=>by rw[z,a4]at M;cases M
 have cv:H p=none:=xdd b2 a4 M;have co:=md.tups (xb6 b4 hx) _;have d0:d≠x:=λz=>by rw[z,hx]at az;cases az
 have bz:LsAt H4 kvs cs L:=cw.keep (xb6 b4 hx) λa _ us e=>b4 a _ e λz=>by rw[z,hx]at e;cases e
 refine(xcg _ rfl _ rfl mv h mk rfl co h6 (λbd c6=>?_));have a1:=zA c6 (.lst ((chTo mk h).map V.str));obtain⟨H5,bb⟩:∃H5,H5=upd H4 bd (.lst ((chTo mk h).map V.str)):=⟨_,rfl⟩;have am:H5 bd=some (.lst ((chTo mk h).map V.str)):=by rw[bb];exact ups
 rw[<- bb]at a1⊢;clear bb;have dc:(chTo mk h).length<=6:=xs1 h6;have ml:((chTo mk h).map V.str).length=(chTo mk h).length:=zLM _;refine(jEAA bd rfl ⟨_,zC am⟩ ?_);refine xd0 (xs:=(chTo mk h).map V.str) (λi ys O=>Same H5 O/\∃u L2,PairsV O ys u/\LsAt O u ((comL mk h cs).take i) L2/\L2.Nodup/\∀a∈L2,H5 a=none) (jAE (Same.refl _) ([]) (xbr ([]) trivial (by rw[List.take_zero];trivial) List.nodup_nil (λ_ h=>nomatch h))) (xa2 (by omega)) (λi ys O _ p=>zC (p.1 _ _ am)) ?_ ?_
 ·rintro i y ys O hy hi af ⟨sm,u,L2,a6,a8,ar,b3⟩
  rw[zGM]at hy;obtain⟨c,hc,rfl⟩:=zMS hy;have bn:=a1.trans sm;have bp:=LsAt.val (c:=c) (bz.same bn);have c4:O d=some (.dK kvs):=bn _ _ (b4 d _ az d0);refine⟨ext1 rfl,xdv ?_⟩;refine(xd3 _ rfl _ rfl (xa0 d rfl (.inl ⟨kvs,.inl c4⟩) _ rfl ⟨(by walk_at"s"),λe0 cz=>?_⟩));have se:=zA cz (.lst []);have gd:=DGet.rd (H:=upd O e0 (.lst [])) (k:=Sum.inr c) (.inl (se _ _ c4))
  obtain⟨la,us,gv,cx,cr⟩:∃la us,(valV kvs (Sum.inr c)).getD (.ref e0)=.ref la/\upd O e0 (.lst []) la=some (.lst us)/\RelDs (upd O e0 (.lst [])) us ((getL cs c).getD []):=by
   cases hg:getL cs c with
   |none=>
    rw[bp.1 hg];exact(xaq e0 ([]) rfl ups rfl)
   |some ds=>
    obtain⟨la,us,h1,h2,h3⟩:=bp.2 ds hg;rw[h1];exact(xaq la us rfl (se _ _ h2) (h3.same se _))
  refine(jEA _ gd ?_);rw[gv];refine(xaq la us rfl (.inl (zC cx)) (λl hl=>⟨(by walk_at"s"),λt ht=>nxtG hi af ?_⟩));have sl:=zA hl (.lst us);have st:=zA ht (.tup [.str c,.ref l]);have sA:=se.trans (sl.trans st);have c2:=xae se hl;refine(jAE (sm.trans sA) (u++[(Sum.inr c,.ref l)]) (xbr (L2++[l]) ((a6.same (Same.tups sA)).append ⟨(jEA t rfl ups),trivial⟩) ?_ ?_ ?_))
  ·have e:(comL mk h cs)[i]?=some (c,(getL cs c).getD []):=by unfold comL;rw[zGM,hc];rfl
   rw[zTA,e];exact(a8.same sA).snoc (c:=c) (a:=l) (us:=us) (st _ _ ups) (cr.same (sl.trans st) _)
  ·refine List.nodup_append.mpr (jAA ar (by simp) (λz hz y hy e=>?_))
   rw[zMO hy]at e;obtain⟨zs,a2⟩:=a8.there z hz;rw[e,c2]at a2;cases a2
  ·intro z hz
   rcases zMA hz with hz |hz
   ·exact b3 z hz
   ·rw[zMO hz]
    exact xae sm c2
 rintro ys H6 af ⟨sm,kc,Lc,a6,aw,cj,d9⟩ D hD;have de:(comL mk h cs).length=(chTo mk h).length:=by unfold comL;rw[zLM]
 rw[ml,zTL (by omega)]at aw;refine(xcf D ys kc rfl ups (a6.same (Same.tups (zA hD _))) (λca c9=>?_));obtain⟨H7,cd,d1,s7,c8,c0⟩:=xm2 hD aw c9;rw[xdr (by rw[aw.keys];exact xj6 (by rw[xqk];exact xum ac.cnd h)),<- cd];clear cd;have aq:=a1.trans (sm.trans s7);have cc:∀a∈Lc,H4 a=none:=λa ha=>xae a1 (d9 a ha);have b0:H4 ca=none:=xae (a1.trans sm) d1;refine(xaa _ rfl x _ _ _ rfl (aq _ _ a3) cl (no _ (by simp)) ⟨by omega,d4 _ _ (xab λR5 d3=>?_)⟩);obtain⟨f4,b6⟩:∃f4,f4=putF (Str.ofString "coming") (.ref ca) f3:=⟨_,rfl⟩;have l4:f4.length<=4:=by rw[b6];exact zY (xar _ _ _) (zI l3)
 rw[<- b6];obtain⟨H8,ag⟩:∃H8,H8=upd H7 x (.ins (ad K "Lone") Z f4):=⟨_,rfl⟩;rw[<- ag];have be:SameBut x H7 H8:=by rw[ag];exact SameBut.upd _ _ _
 have ae:H8 x=some (.ins (ad K "Lone") Z f4):=by rw[ag];exact ups
 clear ag;have br:=aq _ _ a3;have bf:SameBut x H4 H8:=aq.but.trans be;have b8:SameBut x H H8:=b4.trans bf;have bj:=xb6 be br
 have bo:∀b o,H7 b=some o->(∀C Z fs,o≠.ins C Z fs)->H8 b=some o:=λb o e n'=>be b o e λz=>by
  rw[z,br]at e;exact n' _ _ _ (qC e).symm
 have ak:LsAt H8 kc (comL mk h cs) Lc:=c0.keep bj λa _ us e=>bo a _ e λ_ _ _ z=>by cases z
 have c7:=bo _ _ c8 λ_ _ _ z=>by cases z
 have cm:=md.tups (xb6 b8 hx) _;refine(xcg _ rfl _ rfl mv h mk rfl cm h6 (λbc c5=>?_));have ab:=zA c5 (.lst ((xd1 mk h).map V.str));obtain⟨H9,ba⟩:∃H9,H9=upd H8 bc (.lst ((xd1 mk h).map V.str)):=⟨_,rfl⟩;have al:H9 bc=some (.lst ((xd1 mk h).map V.str)):=by rw[ba];exact ups
 rw[<- ba]at ab⊢;clear ba;have db:(xd1 mk h).length<=6:=xs1 h6;have ck:((xd1 mk h).map V.str).length=(xd1 mk h).length:=zLM _;refine(jEAA bc rfl ⟨_,zC al⟩ ?_);refine xd0 (xs:=(xd1 mk h).map V.str) (λi ys O=>Same H9 O/\∃u L2,PairsV O ys u/\LsAt O u ((goiL mk h).take i) L2/\L2.Nodup/\∀a∈L2,H9 a=none) (jAE (Same.refl _) ([]) (xbr ([]) trivial (by rw[List.take_zero];trivial) List.nodup_nil (λ_ h=>nomatch h))) (xa2 (by omega)) (λi ys O _ p=>zC (p.1 _ _ al)) ?_ ?_
 ·rintro i y ys O hy hi af ⟨sm,u,L2,a6,a8,ar,b3⟩
  rw[zGM]at hy;obtain⟨c,hc,rfl⟩:=zMS hy;refine⟨ext1 rfl,xdv ?_⟩;refine(jEAA _ rfl (by walk_at"s") (λl hl=>⟨(by walk_at"s"),λt ht=>nxtG hi af ?_⟩));have sl:=zA hl (.lst []);have st:=zA ht (.tup [.str c,.ref l]);have sA:=sl.trans st;refine(jAE (sm.trans sA) (u++[(Sum.inr c,.ref l)]) (xbr (L2++[l]) ((a6.same (Same.tups sA)).append ⟨(jEA t rfl ups),trivial⟩) ?_ ?_ ?_))
  ·have e:(goiL mk h)[i]?=some (c,[]):=by unfold goiL;rw[zGM,hc];rfl
   rw[zTA,e];exact(a8.same sA).snoc (c:=c) (a:=l) (us:=[]) (ds:=[]) (st _ _ ups) rfl
  ·refine List.nodup_append.mpr (jAA ar (by simp) (λz hz y hy e=>?_))
   rw[zMO hy]at e;obtain⟨zs,a2⟩:=a8.there z hz;rw[e,hl]at a2;cases a2
  ·intro z hz
   rcases zMA hz with hz |hz
   ·exact b3 z hz
   ·rw[zMO hz]
    exact xae sm hl
 rintro ys dg da ⟨bm,kg,Lg,bw,av,ci,d8⟩ D2 cb;have dd:(goiL mk h).length=(xd1 mk h).length:=by unfold goiL;rw[zLM]
 rw[ck,zTL (by omega)]at av;refine(xcf D2 ys kg rfl ups (bw.same (Same.tups (zA cb _))) (λga c3=>?_));obtain⟨aa,ao,cy,ch,ay,a7⟩:=xm2 cb av c3;rw[xdr (by rw[av.keys];exact xj6 (by rw[xp2];exact xql ac.cnd h)),<- ao];clear ao;have m:=ab.trans (bm.trans ch);have an:∀a∈Lg,H8 a=none:=λa ha=>xae ab (d8 a ha);have ax:H8 ga=none:=xae (ab.trans bm) cy;refine(xaa _ rfl x _ _ _ rfl (m _ _ ae) cl (no _ (by simp)) ⟨by omega,d3 _ _ (xab λR6 d2=>?_)⟩);obtain⟨f5,b5⟩:∃f5,f5=putF (Str.ofString "going") (.ref ga) f4:=⟨_,rfl⟩;have l5:f5.length<=5:=by rw[b5];exact zY (xar _ _ _) (zI l4)
 rw[<- b5];refine⟨(by walk_at"s"),λta a5=>(xaa _ rfl x _ _ _ rfl (zA a5 _ _ _ ups) cl (no _ (by simp)) ⟨by omega,d2 _ _ ?_⟩)⟩;refine(xaa _ rfl x _ _ _ rfl ups cl (no _ (by simp)) ⟨zT (xar _ _ _) (by omega),?_⟩);rw[xkq];have bt:ta≠x:=λz=>by rw[z,ups]at a5;cases a5
 have g:aa ta=none:=by rw[xai bt]at a5;exact a5
 have aj:=m _ _ ae;obtain⟨HZ,a9⟩:∃HZ,HZ=upd (upd (upd aa x (.ins (ad K "Lone") Z f5)) ta (.lst [])) x (.ins (ad K "Lone") Z (putF (Str.ofString "many") (.int 0) (putF (Str.ofString "tellings") (.ref ta) f5))):=⟨_,rfl⟩;rw[<- a9];have cq:HZ x=some (.ins (ad K "Lone") Z (putF (Str.ofString "many") (.int 0) (putF (Str.ofString "tellings") (.ref ta) f5))):=by rw[a9];exact ups
 have cu:HZ ta=some (.lst []):=by rw[a9,xai bt,ups]
 have bh:∀b o,aa b=some o->b≠x->HZ b=some o:=λb o e n'=>by
  rw[a9,xai n',xai (neN e g),xai n'];exact e
 clear a9;have bZ:SameBut x H8 HZ:=λb o e n'=>bh b o (m b o e) n';have bi:=xb6 (show SameBut x aa HZ from bh) aj
 have Y:∀b o,aa b=some o->(∀C Z fs,o≠.ins C Z fs)->HZ b=some o:=λb o e n'=>bh b o e λz=>by
  rw[z,aj]at e;exact n' _ _ _ (qC e).symm
 have ce:=cf.keep (xb6 bf a3) λo e=>bf p o e bv;have HH:SameBut x H HZ:=b8.trans bZ;have au:∀{b},H8 b=none->H b=none:=λe=>xdd b8 ae e;have U:∀a∈Lc,∃us,H8 a=some (.lst us):=ak.there;refine q ⟨Z,sa,p,ca,ga,ta,Lc,Lg⟩ HZ HH (λb hb=>?_) ⟨(jEA _ cq ?_),?_,(jEA kc ?_ ?_),(jEA kg ?_ ?_),(jEA ([]) cu rfl),?_⟩
 ·simp only[LnA.F,List.mem_cons,List.mem_append]at hb
  rcases hb with h |h |h |h |h |h |h
  ·exact .inl h
  ·exact .inr (by rw[h];exact cv)
  ·exact .inr (by rw[h];exact xdd b4 a3 b0)
  ·exact .inr (by rw[h];exact au ax)
  ·exact .inr (by rw[h];exact au (xae m g))
  ·exact .inr (xdd b4 a3 (cc b h))
  ·exact .inr (au (an b h))
 ·rw[b5,b6,b7,b9]
  exact Lf.init
 ·exact ce.keep (xb6 bZ ae) λo e=>bZ p o e bv
 ·exact Y _ _ (m _ _ c7) λ_ _ _ z=>by cases z
 ·exact(ak.same m).keep bi λa _ us e=>Y a _ e λ_ _ _ z=>by cases z
 ·exact Y _ _ ay λ_ _ _ z=>by cases z
 ·exact a7.keep bi λa _ us e=>Y a _ e λ_ _ _ z=>by cases z
 ·refine List.nodup_cons.mpr ⟨λhm=>?_,List.nodup_append.mpr (jAA cj ci (λy hy z hz e=>?_))⟩
  ·rcases zMA hm with hm |hm
   ·obtain⟨us,e⟩:=U ta hm
    rw[m _ _ e]at g;cases g
   ·obtain⟨us,e⟩:=a7.there ta hm
    rw[e]at g;cases g
  ·obtain⟨us,e1⟩:=U y hy
   rw[e,an z hz]at e1;cases e1
structure TkH(H:Hp)(mk:Mak)(z:Str)(d:Addr)(kv:List (Key×V))(cs:Lts)(L:List Addr)(tk:Str->List D):Prop where
 hd:H d=some (.dK kv)
 ls:LsAt H kv cs L
 nd:(cs.map (·.1)).Nodup
 nm:∀c∈cs.map (·.1),c∈cTo mk z
 val:∀c∈cTo mk z,(getL cs c).getD []=tk c
 Lnd:L.Nodup
structure TkA where
 td:Str->Addr
 kv:Str->List (Key×V)
 cs:Str->Lts
 L:Str->List Addr
structure TkAt(H:Hp)(D0:Addr)(mk:Mak)(t:TkA)(tk:Str->List D):Prop where
 h0:H D0=some (.dK (mapK (hn mk) λz=>.ref (t.td z)))
 hs:∀z∈hn mk,TkH H mk z (t.td z) (t.kv z) (t.cs z) (t.L z) tk
 inj:∀z∈hn mk,∀y∈hn mk,t.td z=t.td y->z=y
 ne:∀z∈hn mk,t.td z≠D0
 dj:∀z∈hn mk,∀y∈hn mk,z≠y->∀l∈t.L z,l ∉t.L y
theorem TkH.same{H b:Hp}{mk:Mak}{z:Str}{d:Addr}{a:List (Key×V)}{cs:Lts}{L:List Addr}{tk:Str->List D}(h:TkH H mk z d a cs L tk)(q:Same H b):TkH b mk z d a cs L tk:=⟨q _ _ h.hd,h.ls.same q,h.nd,h.nm,h.val,h.Lnd⟩
theorem TkAt.same{H a:Hp}{b:Addr}{mk:Mak}{t:TkA}{tk:Str->List D}(h:TkAt H b mk t tk)(q:Same H a):TkAt a b mk t tk:=⟨q _ _ h.h0,λz hz=>(h.hs z hz).same q,h.inj,h.ne,h.dj⟩
def xsh(K:Fg):Sp:=λvs H Q _=>∃(x:Addr) (mv:V) (h:Str) (D0:Addr) (a:HsA) (s:HSt) (mk:Mak) (N:Nat) (t:TkA) (tk:Str->List D),vs=[.ref x,mv,.str h,.ref D0]/\HsHere K H x mv a s mk N/\TkAt H D0 mk t tk/\(∀c∈mk.chans,c.2.2.1∈hn mk)/\N<=900/\(∀c,(tk c).length<=900) ∧
 ∀d kvs L H',Same H H'->H' d=some (.dK kvs)->LsAt H' kvs (fL (xfv mk h) λc=>tk c++s.bt c) L->Q (.ref d) H'
theorem xq8(T:Tx K mg)(j:MethIs P w K mg base n (ad K "Plain") "letters" qau [[]] (xhp K)):DefIs P w K mg base (n+1) "_law_sent" qaj (xsh K):=by
 refine DefIs.of T.kN scl_sent (by walk_at"l") (λf al A outer s H vs Q E hr h=>?_);obtain⟨x,mv,h,D0,a,st,mk,N,t,tk,rfl,hs,ht,G,a4,a6,q⟩:=h;have nd:=scl_sent.nd;have hu:=xep hr;have h6:=hs.mok.cfew;have ai:(cn mk).Nodup:=hs.mok.cnd;obtain⟨fs,hx,lf⟩:=hs.at_.ob
 refine⟨_,(zpn (psn 4 nd xh2)
   (zpn (xci zF rfl (xa1 (K:=K) rfl (px K (pv 1) pI)) (xbc (K:=K) rfl rfl (xad (pgn 5 nd) (xad (pgn 6 nd) (xad (pgn 7 nd) (xad (pgn 8 nd) xa9)))))
   (zpo (xa6 (pR xbd (pv 6) (pv 2) (nM _)) (zpo (xgd hu (pv 4) (pv 5) (xan xes (xmj hu (xcs hu (pv 3) (pv 7) (λ_ _=>rfl)) (pv 5) (xbt pN) ⟨rfl,rfl,rfl,rfl⟩) (xcl j T.uC.cl hr (pv 0) (v1 5))) rfl)) pQ)))
   (zpo (xag (pv 4))))),xab λR1 ah=>?_⟩
 intro c4 n4;refine ah _ _ (xab λR2 ag=>?_);have s4:=zA n4 (.dK []);obtain⟨ma,kv,cv,hv,rfl,a9,_,af,_⟩:=mk_d hs.md;obtain⟨ca,uc,rfl,a0,a1⟩:=af;have aa:=a1.length;rw[zLM]at aa;refine(xaa _ rfl ma _ _ _ rfl rfl (zB (s4 _ _ a9)) rfl (jEAA ca rfl ⟨_,zB (s4 _ _ a0)⟩ ?_));let F:List Chn->Lts:=λcs=>fL ((cs.filter λc=>decide (c.2.1=h)).map (·.1)) λc=>tk c++st.bt c
 refine xd4 (xs:=uc) (λi σ H'=>∃(kvs:List (Key×V)) (L:List Addr) (o5 o6 o7 o8:Option V),σ=[some (.ref x),some (.ref ma),some (.str h),some (.ref D0),some (.ref c4),o5,o6,o7,o8]/\Same H H'/\H' c4=some (.dK kvs)/\LsAt H' kvs (F (mk.chans.take i)) L)
  (xam ([]) ([]) none none none (xbr none rfl s4 ups (by show LsAt _ [] (fL _ _) [];rw[List.take_zero];trivial))) (λi σ H' _ p=>by obtain⟨_,_,_,_,_,_,_,g,_⟩:=p;exact zB (g _ _ a0)) ?_ ?_
 ·rintro i y σ H1 hy ⟨kvs,L,o5,o6,o7,o8,rfl,C,u,l⟩
  obtain⟨b,c,hc,rfl,hb⟩:=xds a1 hy;have o:=zMG hc;have ae:c.1∈cn mk:=qG o;refine(xaw b _ rfl (zB (C _ _ hb)) rfl _ _ rfl _ (jEA _ rfl (jEEA _ _ rfl (xaq _ _ rfl rfl ?_))));refine(xc1 _ rfl _ rfl rfl _ rfl (ite2 (λe=>?_) (λe=>?_)))
  ·have e':c.2.1=h:=V.str.inj (z0 e)
   have Z:=ht.same C;have Y:=G c o;have th:=Z.hs _ Y;refine(xbb _ rfl _ rfl D0 _ rfl (gdK Z.h0 Y) (t.td c.2.2.1) (jAA rfl (.inl ⟨_,.inl th.hd⟩) (jEAA _ rfl (by walk_at"s") (λe0 ac=>?_))));have J:=zA ac (.lst []);have gd:=DGet.rd (H:=upd H1 e0 (.lst [])) (k:=Sum.inr c.1) (.inl (J _ _ th.hd));have m:=th.val c.1 ((xgw hs.mok o).mpr rfl)
   obtain⟨I,us,gv,ab,U⟩:∃I us,(valV (t.kv c.2.2.1) (Sum.inr c.1)).getD (.ref e0)=.ref I/\upd H1 e0 (.lst []) I=some (.lst us)/\RelDs (upd H1 e0 (.lst [])) us (tk c.1):=by
    have O:=LsAt.val (c:=c.1) th.ls
    cases hg:getL (t.cs c.2.2.1) c.1 with
    |none=>
     rw[O.1 hg];rw[hg]at m;exact(xaq e0 ([]) rfl ups (by rw[<- m];rfl))
    |some ds=>
     obtain⟨I,us,h1,h2,h3⟩:=O.2 ds hg;rw[h1];rw[hg]at m;exact(xaq I us rfl (J _ _ h2) (by rw[<- m];exact h3.same J _))
   refine(jEA _ gd ?_);rw[gv];have M:=C.trans J;refine(xbl _ rfl x _ fs rfl (M _ _ hx) (lf.no _ (by walk_at"k")) _ rfl (xam x _ c.1 a st (xbr mk rfl (hs.at_.same M) ae (λl2 u2 H2 s2 aj h2 r2=>?_))));have b1:us.length<=900:=by rw[U.length];exact a6 _
   have b2:u2.length<=900:=by rw[r2.length];exact zY (hs.ok.cok c o).1 a4
   refine(xay I l2 _ _ rfl rfl (s2 _ _ ab) h2 (fits (by omega)) (λnp a8=>?_));have sP:=zA a8 (.lst (us++u2));have sA:=J.trans (s2.trans sP);have a3:=sA _ _ u
   have ak:kvs.length<=6:=by
    rw[l.lens.1];show(List.map _ _).length<=6;rw[zLM,zLM];exact zY (zV _ _) (by rw[List.length_take];omega)
   refine(xb3 _ rfl _ rfl c4 _ rfl (DPut.k (k:=Sum.inr c.1) a3 (xa2 (by omega))) ?_)
   have hF:F (mk.chans.take (i+1))=F (mk.chans.take i)++[(c.1,tk c.1++st.bt c.1)]:=by
    show fL _ _=fL _ _++_;rw[xc4 hc,if_pos (zDT e'),zAP];show List.map _ (_++_)=_;rw[zAP];rfl
   rw[xmh,hF]
   ·obtain⟨w1,w2,_⟩:=xsy (kv':=kvs++[(Sum.inr c.1,.ref np)]) a3
    refine(xam _ (L++[np]) _ _ _ (xbr _ rfl (Same.wr (C.trans sA) n4) ups (LsAt.snoc (w2 _ _ ups) (((U.same s2 _).append r2).same sP _ |>.tups w1 _) ((l.same sA).keep w1 λb _ us e=>w2 _ _ e))))
   ·intro p hp e2
    have hm:p.1∈kvs.map (·.1):=qG hp;rw[l.keys,e2]at hm;obtain⟨r,a7,e3⟩:=zMP hm;obtain⟨y,a5,rfl⟩:=zMP (show r∈List.map _ _ from a7);obtain⟨c2,a2,rfl⟩:=zMP a5;have e4:c2.1=c.1:=Sum.inr.inj e3;exact xfg ai (show(cn mk)[i]?=some c.1 by rw[zGM,hc];rfl) c2.1 (by rw[<- List.map_take];exact qG (List.mem_filter.mp a2).1) e4
  ·refine(xam kvs L _ _ _ (xbr _ rfl C u ?_))
   have:F (mk.chans.take (i+1))=F (mk.chans.take i):=by
    show fL _ _=fL _ _;rw[xc4 hc,if_neg (λz=>e (zDT (congrArg V.str (z0 z)))),List.append_nil]
   rw[this];exact l
 ·rintro σ H1 ⟨kvs,L,o5,o6,o7,o8,rfl,C,u,l⟩
  rw[zTL (by omega)]at l;exact ag _ _ (jEA _ rfl (q c4 kvs L H1 C u l))
theorem xr0{cs:Lts}(nd:(cs.map (·.1)).Nodup){b:Str×List D}(h:b∈cs):getL cs b.1=some b.2:=by
 unfold getL
 cases e:cs.find? λc=>decide (c.1=b.1) with
 |none=>exact absurd (zDT rfl) (List.find?_eq_none.mp e b h)
 |some c=>
  have a:=z0 (zU (p:=λc:Str×List D=>decide (c.1=b.1)) e);rw[xb9 nd (zMF e) h a];rfl
theorem xpq{H:Hp}:∀{kvs:List (Key×V)} {bx:List (Str×D)},KvD H kvs bx->∀p∈kvs,∃b∈bx,p.1=Sum.inr b.1/\RelD H p.2 b.2
 |[],[],_=>λp h=>nomatch h
 | j::kvs,b::bx,⟨i,g,f⟩=>λp h=>by
  rcases zMC h with rfl |h
  ·exact(jEAA b (by simp) i g)
  ·obtain⟨c,a,e⟩:=xpq f p h
   exact(jEA c (qF _ a) e)
 |[],_::_,h=>h.elim
 |_::_,[],h=>h.elim
theorem xm0{H:Hp}{a b:Addr}{g f:List (Key×V)}{bx:List (Str×D)}{n:Nat}(u:H a=some (.dK g))(s:H b=some (.dK f))(j:KvD H g bx)(i:KvD H f bx)(nd:(bx.map (·.1)).Nodup)(dp:∀b∈bx,b.2.deep<=12):EqS H (n+1) (.ref a) (.ref b):=by
 refine .inr (.inr (xay a b g f rfl rfl u s (j.length.trans i.length.symm) (λp o=>?_)));obtain⟨c,h,e,r⟩:=xpq j p o;obtain⟨v,m,l⟩:=i.val.2 _ (xin nd h);exact(jEA v (by rw[e];exact m) (.inl (jEAA c.2 r l (zY (dp c h) (by decide)))))
theorem xr3{H:Hp}{a b:Addr}{g f:List (Key×V)}{cs:Lts}{I G:List Addr}{n:Nat}(C:H a=some (.dK g))(z:H b=some (.dK f))(r:LsAt H g cs I)(o:LsAt H f cs G)(nd:(cs.map (·.1)).Nodup)(dp:∀p∈cs,∀d∈p.2,d.deep<=12):EqS H (n+1) (.ref a) (.ref b):=by
 refine .inr (.inr (xay a b g f rfl rfl C z (r.lens.1.trans o.lens.1.symm) (λp x=>?_)));obtain⟨i,hi⟩:=List.getElem?_of_mem x;obtain⟨c,u,us,y,rfl,m,j⟩:=r.idx hi;have e:=zMG y;obtain⟨s,zs,w,l,h⟩:=o.val.2 _ (xr0 nd e);exact(jEA _ w (.inr (xaf u s us zs c.2 rfl rfl m l j ⟨h,zY (xen (dp c e)) (by decide)⟩)))
theorem xqv{H:Hp}{l pa j pb:Addr}{r:Nat}{bx:List (Str×D)}(h:StAt H l pa r bx)(h':StAt H j pb r bx)(nd:(bx.map (·.1)).Nodup)(dp:∀b∈bx,b.2.deep<=12):EqS H 12 (.ref l) (.ref j):=by
 obtain⟨o,p,g,c⟩:=h;obtain⟨n,m,f,a⟩:=h';refine .inr (.inl (xak _ _ _ _ rfl rfl (.inl ⟨o,n⟩) rfl (λi u z e hz=>?_)));rcases i with _ |_ |i
 ·cases e;cases hz
  exact EqS.dat (.inl (jEAA (.int r) rfl rfl (by show D.deep (.int r)<=100;unfold D.deep;decide)))
 ·cases e;cases hz
  exact xm0 g f c a nd dp
 ·cases e
theorem xlm{H:Hp}{l b:Addr}{us a:List V}{ds:List D}(h:H l=some (.lst us))(h':H b=some (.lst a))(r:RelDs H us ds)(c:RelDs H a ds)(dp:∀d∈ds,d.deep<=12):EqS H 12 (.ref l) (.ref b):=
 EqS.dat (.inr (xaf l b us a ds rfl rfl h h' r ⟨c,zY (xen dp) (by decide)⟩))
def TkOk(mk:Mak)(tk:Str->List D)(N:Nat):Prop:=∀c∈mk.chans,(tk c.1).length<=N/\∀d∈tk c.1,Vk mk.kinds c.2.2.2 d
theorem xrr{mk:Mak}{tk:Str->List D}{N:Nat}{hd:Hand}(f:MakOk mk)(l:hd∈mk.hands)(ok:TkOk mk tk N):LOk mk hd (xg5 mk hd.name tk):=by
 have i:=f.hok hd l
 have x:xg5 mk hd.name tk=⟨0,begM mk hd,fL (cTo mk hd.name) tk,fL (xfv mk hd.name) λ_=>[],[],0⟩:=by
  unfold xg5;rw[xec f l]
 rw[x]
 have bk:(begM mk hd).map (·.1)=hd.boxes.map (·.1):=by
  unfold begM;rw[List.map_map];rfl
 have b:∀(ns:List Str) (F:Str->List D),(fL ns F).map (·.1)=ns:=λns F=>by
  unfold fL;rw[List.map_map];exact(zP (g:=id) λ_ _=>rfl).trans (List.map_id _)
 refine⟨i.pos,bk,λp m=>?_,b _ _,b _ _,λc w ds r d s=>?_,λp m=>?_,qO _,λ_ h=>nomatch h⟩
 ·have n:(p.1,nuV 7 mk.kinds p.2)∈begM mk hd:=List.mem_map.mpr (jEA p m rfl)
  exact(jEA _ (xin (by rw[bk];exact i.nd) n) (xri f.wf 6 p.2 (i.kin p m)))
 ·have a:getL (fL (cTo mk hd.name) tk) c.1=some ds:=r
  by_cases n:c.1∈cTo mk hd.name
  ·rw[xmy n]at a
   have e:tk c.1=ds:=qC a;exact(ok c w).2 d (by rw[e];exact s)
  ·exfalso
   obtain⟨q,u,_⟩:=zMS a;have o:=z0 (zU (p:=λq:Str×List D=>decide (q.1=c.1)) u);have j:q.1∈(fL (cTo mk hd.name) tk).map (·.1):=qG (zMF u);rw[b,o]at j;exact n j
 ·obtain⟨c,_,rfl⟩:=zMP (show p∈fL (xfv mk hd.name) (λ_=>[]) from m)
  exact⟨qO _,λ_ h=>nomatch h⟩
theorem xpd{a i:Hp}{C x f:Addr}(g:a x=none)(c:a f=none)(s:SameBut x (upd (upd a f (.own x)) x (.ins C f [])) i):Same a i/\∀b,(b=x\/upd (upd a f (.own x)) x (.ins C f []) b=none)->a b=none:=by
 refine⟨λb o e=>s b o ?_ (neN e g),λb h=>?_⟩
 ·rw[xai (neN e g),xai (neN e c)]
  exact e
 ·rcases h with rfl |h
  ·exact g
  ·cases e:a b with
   |none=>rfl
   |some o=>
    rw[xai (neN e g),xai (neN e c),e]at h;cases h
theorem xrv{c A B:Prop}[Decidable c](h:c)(b:B):if (!decide c)=true then A else B:=by rw[zDT h];exact b
def xoh(K:Fg):Sp:=λvs H Q _=>∃(x:Addr) (mv:V) (hd:Hand) (D0:Addr) (a:HsA) (s:HSt) (mk:Mak) (N:Nat) (t:TkA) (tk:Str->List D),vs=[.ref x,mv,.str hd.name,.ref D0]/\HsHere K H x mv a s mk N/\TkAt H D0 mk t tk/\hd∈mk.hands/\(∀c∈mk.chans,c.2.2.1∈hn mk)/\N<=900/\(∀c,(tk c).length<=900)/\TkOk mk tk N/\LRun mk s tk/\s.ct hd.name<=900/\∀H',Same H H'->Q (.bl true) H'
theorem xh4 (T:Tx K mg) (U:DefIs P w K mg base (n+1) "_law_sent" qaj (xsh K)) (C:MethIs P w K mg base (n+1) (ad K "Plain") "stand" qab [[]] (xfy K)) (G:MethIs P w K mg base (n+1) (ad K "Plain") "told" qab [[]] (xky K)) (l:MethIs P w K mg base (n+1) (ad K "Plain") "count" qab [[]] (xhq K))
  (a2:MethIs P w K mg base n (ad K "Lone") "__init__" qao [[.none],[]] (xk3 K)) (Z:MethIs P w K mg base (n+1) (ad K "Lone") "step" qaa [[]] (xk2 K)) (I:MethIs P w K mg base (n+1) (ad K "Lone") "stand" qaa [[]] (xhs K)) (Y:MethIs P w K mg base (n+1) (ad K "Lone") "told" qaa [[]] (xoe K)) (a0:MethIs P w K mg base (n+1) (ad K "Lone") "sent" qaa [[]] (xeg K LSt.goi)) (a1:MethIs P w K mg base (n+1) (ad K "Lone") "left" qaa [[]] (xeg K LSt.com)) (J:MethIs P w K mg base (n+1) (ad K "Lone") "count" qaa [[]] (xl8 K)) :
  DefIs P w K mg base (n+2) "_law_lone_fits" qaj (xoh K):=by
 refine DefIs.of T.kO scl_lone_fits (by walk_at"l") (λf bw A outer s H vs Q E hr h=>?_);obtain⟨x,mv,hd,D0,a,st,mk,N,t,tk,rfl,hs,ht,O,ai,av,b8,tok,aq,bu,q⟩:=h;have nd:=scl_lone_fits.nd;have hu:=xep hr;have ae:=xpx hr;have m:=hs.mok;have h6:=m.cfew;have a5:hd.name∈hn mk:=qG O;obtain⟨fs,hx,lf⟩:=hs.at_.ob;have th:=ht.hs _ a5;have ah:xdy mk hd.name=some hd:=xec m O
 refine⟨_,(zpn (psn 4 nd (xjf (ds:=[.none]) (dvs:=[.non]) a2 T.uE hr T.uD (by simp) (.cons rfl .nil) (va 1 (va 2 (pc (xcs hu (pv 3) (pv 2) (λ_ _=>rfl)) pN ss)))))
   (zpn (xci zF rfl (xcj rfl T.k4 (pc (xcl l T.uC.cl hr (pv 0) (v1 2)) pN zsc)) (pgn 5 nd)
   (zpo (xa6 (pR xtv (xdw Z T.uE.cl hr (pv 4)) xe5 (nM _)) (zpo (xag xe5)) pQ)))
   (zpn (xa6 (PW.pt (xjd (pR (xfh ae) (xcl C T.uC.cl hr (pv 0) (v1 2)) (xdw I T.uE.cl hr (pv 4)) (nM _)) (xjd (pR (xfh ae) (xcl G T.uC.cl hr (pv 0) (v1 2)) (xdw Y T.uE.cl hr (pv 4)) (nM _)) (xha (pR xq5 (xdw J T.uE.cl hr (pv 4)) (xcl l T.uC.cl hr (pv 0) (v1 2)) (nM _)))))) (zpo (xag xe5)) pQ)
   (zpn (xa6 (pR (xfh ae) (xdw a0 T.uE.cl hr (pv 4)) (pd U hr (va 0 (va 1 (va 2 (v1 3))))) (nM _)) (zpo (xag xe5)) pQ)
   (zpo (xag (xea (xvx (Nat.lt_of_succ_lt hu)) (xow (xbj ["_law_some"] [none] rfl (by kernel_rfl) (xos (xdw a1 T.uE.cl hr (pv 4))) (λ_ _ _ _=>(pgc 0)) (λ_ _ _ _=>(xdt (pR (xtw (K:=K) rfl (Nat.lt_of_succ_lt hu)) (pv 0) (xbt pN) (nM _)))) (λ_ _ _ _=>(pv 0)))) (xbt pN) (nM _)))))))),xab λR1 bh=>?_⟩
 refine(xcz _ rfl _ rfl _ rfl _ rfl D0 (jEAA _ rfl (gdK ht.h0 a5) (λy dy hy aj an=>?_)));have sN:Same H (upd (upd H dy (.own y)) y (.ins (ad K "Lone") dy [])):=(zA aj _).trans (zA (by rw[xai (Ne.symm an)];exact hy) _);refine(xam y dy mv hd.name (t.td hd.name) (xam _ _ _ mk hd (xaj (.non) 0 _ rfl (.inl (jAA rfl rfl rfl)) ups (hs.md.same sN _) (jAAA m ah (sN _ _ th.hd) ⟨th.ls.same sN,λal H1 b1 aw am=>⟨rfl,bh _ _ (xab λR2 bg=>?_)⟩⟩))));obtain⟨s1,fN⟩:=xpd hy aj b1;have bn:∀b∈al.F y,H b=none:=λb hb=>fN b (aw b hb)
 have e0:(⟨0,begL mk hd,comL mk hd.name (t.cs hd.name),goiL mk hd.name,[],0⟩:LSt)=xg5 mk hd.name tk:=by
  unfold xg5;rw[ah];show LSt.mk _ _ (List.map _ _) _ _ _=LSt.mk _ _ (List.map _ _) _ _ _;rw[List.map_congr_left (g:=λc=>(c,tk c)) λc hc=>by rw[th.val c hc]];rfl
 rw[e0]at am;have b3:=xrr m O tok;have b5:LnHere K H1 y mv hd.name al (xg5 mk hd.name tk) mk hd:=⟨am,hs.md.same s1 _,m,ah,b3⟩;clear b1 aw fN sN hy aj an am e0;have rch:=aq hd O λ_=>[];rw[show(λc=>tk c++[])=tk from funext λc=>List.append_nil _]at rch;obtain⟨g,g0,gn,gs⟩:=rch.path
 have af:∀j,j<=st.ct hd.name->(g j).many=j:=λj=>by
  induction j with
  |zero=>intro _;rw[g0];rfl
  |succ j ih=>
   intro hj;obtain⟨r,_,_,e⟩:=gs j (by omega);rw[e];show(g j).many+1=_;rw[ih (by omega)]
 refine(xbl _ rfl x _ fs rfl (s1 _ _ hx) (lf.no _ (by walk_at"k")) _ rfl (xam x mv hd.name a st (xbr mk rfl (hs.at_.same s1) a5 (xbr _ rfl (by omega) (by omega) ?_))));refine xc7 (n:=st.ct hd.name) (λi σ H'=>∃(al:LnA) (o5:Option V),σ=[some (.ref x),some mv,some (.str hd.name),some (.ref D0),some (.ref y),o5]/\Same H H'/\(∀b∈al.F y,H b=none)/\LnHere K H' y mv hd.name al (g i) mk hd) (xb5 al none rfl s1 bn (by rw[g0];exact b5)) ?_ ?_
 ·rintro i σ H2 hi ⟨al,o5,rfl,s2,ak,ln⟩
  obtain⟨r,bb,ba,b9⟩:=gs i hi;obtain⟨fl,hy,a4⟩:=ln.at_.ob;have hm:=af i (by omega);refine(jEA _ rfl (xcf y _ fl rfl hy (a4.no _ (by walk_at"k")) (xam y _ hd.name al (g i) (xaj mk hd r rfl ln bb (by omega) ⟨λz=>(by rw[ba]at z;cases z),λ_ bq H3 bm br az b4=>?_⟩))));refine(jAEA rfl true rfl (jEA _ rfl (iteF (xb5 bq _ rfl (λb o e=>bm b o (s2 _ _ e) λz=>?_) (λb hb=>?_) (by rw[b9];exact b4)))))
  ·rw[ak b z]at e;cases e
  ·rcases az b hb with z |z
   ·exact ak b z
   ·exact xae s2 z
 rintro σ H2 ⟨al,o5,rfl,s2,ak,ln⟩;rw[gn]at ln;refine bg _ _ (xab λR3 bf=>?_);have a6:=hs.same s2;obtain⟨fl,hy,a4⟩:=ln.at_.ob;have ac:=s2 _ _ hx;have bv:=hs.ok.bxlen m O;have bo:((st.sd hd.name).2.map (·.1)).Nodup:=by rw[hs.ok.keys hd O];exact(m.hok hd O).nd
 have bp:=hs.ok.bxdeep m O
 have ab:∀(ns:List Str) (F:Str->List M.D),(fL ns F).map (·.1)=ns:=λns F=>by
  unfold fL;rw[List.map_map];exact(zP (g:=id) λ_ _=>rfl).trans (List.map_id _)
 have few:∀{p:Chn->Bool},((mk.chans.filter p).map (·.1)).length<=6:=λ{p}=>by rw[zLM];exact zY (zV _ _) h6
 refine(xbl _ rfl x _ fs rfl ac (lf.no _ (by walk_at"k")) _ rfl (xam x _ hd.name a st (xbf mk rfl a6.at_ a5 (by omega) (λsa pa G1 t1 _ ay=>?_))));refine(jEA _ rfl (xcf y _ fl rfl (t1 _ _ hy) (a4.no _ (by walk_at"k")) (xam y _ hd.name al _ (jAAA rfl (ln.at_.same t1) (by show(st.sd hd.name).2.length<=100;omega) (λsb pb G2 t2 _ ax=>(jAA (xqv (ay.same t2) ax bo bp) (jEEA _ _ rfl rfl) (jEA _ rfl (iteF ?_))))))));have aa:=t1.trans t2;refine(xbl _ rfl x _ fs rfl (aa _ _ ac) (lf.no _ (by walk_at"k")) _ rfl (xam x _ hd.name a st (xbr mk rfl (a6.at_.same aa) a5 (λl3 u3 G3 t3 _ h3 r3=>?_))));have a9:=aa.trans t3;refine(jEA _ rfl (xcf y _ fl rfl (a9 _ _ hy) (a4.no _ (by walk_at"k")) (xam y _ hd.name al _ (jAA rfl (ln.at_.same a9) (λl4 u4 G4 t4 _ h4 r4=>(jAA (xlm (t4 _ _ h3) h4 (r3.same t4 _) r4 (hs.ok.tok hd O).2) (jEEA _ _ rfl rfl) (jEA _ rfl (iteF ?_))))))));have a3:=a9.trans t4;refine(jEA _ rfl (xcf y _ fl rfl (a3 _ _ hy) (a4.no _ (by walk_at"k")) (xam y _ hd.name al _ (jAA rfl (ln.at_.same a3) ?_))));refine(xbl _ rfl x _ fs rfl (a3 _ _ ac) (lf.no _ (by walk_at"k")) _ rfl (xam x _ hd.name a st (xbf mk rfl (a6.at_.same a3) a5 rfl (jEA _ rfl (xrv rfl (bf _ _ (xab λR4 be=>?_)))))))
 refine(jEA _ rfl (xcf y _ fl rfl (a3 _ _ hy) (a4.no _ (by walk_at"k")) (xam y _ hd.name al _ (jAAA rfl (ln.at_.same a3) (by show((fL _ _).map (·.1)).Nodup;rw[ab];exact xiq m _) ⟨(by show(List.map _ _).length<=100;rw[zLM];exact zY few (by decide)),λd5 k5 L5 G5 t5 _ _ _ h5 b2=>?_⟩))));have a8:=a3.trans t5;refine(xcz _ rfl _ rfl _ rfl _ rfl x (xam mv hd.name D0 a st (xce mk N t tk rfl (a6.same a8) ((ht.same s2).same a8) ai av b8 (λd6 k6 L6 G6 t6 bl b0=>?_))));have a7:=a8.trans t6;refine(jAA (xr3 (n:=11) (t6 _ _ h5) bl (b2.same t6) b0 (by show((fL _ _).map (·.1)).Nodup;rw[ab];exact xiq m _) (λp hp d bd=>(ln.ok.gok p hp).2 d bd)) (jEEA _ _ rfl rfl) (jEA _ rfl (iteF (be _ _ ?_))));refine(jEA _ rfl (xcf y _ fl rfl (a7 _ _ hy) (a4.no _ (by walk_at"k")) (xam y _ hd.name al _ (jAAA rfl (ln.at_.same a7) (by show((fL _ _).map (·.1)).Nodup;rw[ab];exact xs2 m _) ⟨(by show(List.map _ _).length<=100;rw[zLM];exact zY few (by decide)),λd7 k7 L7 G7 t7 _ _ _ h7 ao=>?_⟩))));refine(xaq d7 k7 rfl h7 (λo nz=>?_))
 have bt:k7.length<=6:=by
  rw[ao.lens.1];show(List.map _ _).length<=6;rw[zLM];exact few
 have au:∀{H':Hp},Same (upd G7 d7 (.frz o (.dK k7))) H'->∀b u,G7 b=some u->b≠d7->H' b=some u:=λs b u e n=>s b u (by rw[xai n];exact e);refine xqj (λi ys H'=>Same (upd G7 d7 (.frz o (.dK k7))) H'/\ys=[]) ⟨Same.refl _,rfl⟩ (xa2 (by omega)) (λi ys H' _ p=>p.1 _ _ ups) ?_ ?_
 ·rintro i kv ys G8 bc hi ar ⟨s8,rfl⟩
  obtain⟨c,la,us,hc,rfl,ag,b7⟩:=ao.idx bc;obtain⟨c',_,rfl⟩:=zMP (show c∈fL (cTo mk hd.name) (λ_=>[]) from zMG hc);obtain rfl:us=[]:=b7;have b6:la≠d7:=λz=>by rw[z,h7]at ag;cases ag
  refine⟨ext1 rfl,?_⟩;refine(jEAA _ rfl (by walk_at"s") (λe he=>(xaj la e ([]) rfl rfl (zC (zA he _ _ _ (au s8 _ _ ag b6))) (zC ups) (jEA _ rfl ?_))));exact iteF (nxtN hi ar ⟨s8.trans (zA he _),rfl⟩)
 ·rintro ys G8 ar ⟨s8,rfl⟩ D hD
  have sD:=zA hD (.lst []);refine(xcf d7 o k7 (sD _ _ (s8 _ _ ups)) nz (by walk_at"s") (λe he=>?_));have bj:D≠d7:=λz=>by rw[z,s8 _ _ ups]at hD;cases hD
  have bi:upd (upd G8 D (.lst [])) d7 (.dK k7) D=some (.lst []):=by rw[xai bj];exact ups
  refine(xaj D e ([]) rfl rfl (zC (zA he _ _ _ bi)) (zC ups) ?_);refine q _ λb u e'=>zA he _ _ _ ?_;have g7:=(s2.trans (a7.trans t7)) _ _ e';by_cases eb:b=d7
  ·subst eb
   rw[h7]at g7;cases g7;exact ups
  ·rw[xai eb]
   exact sD _ _ (au s8 _ _ g7 eb)
theorem xmu{A B H:Hp}{n:Nat}{mk:Mak}{s s':HSt}{N:Nat}{u z:V}{hd:Hand}(h:HSeen A H mk s u hd)(h':HSeen B H mk s' z hd)(e:MakOk mk)(o:HOk mk s N)(b:hd∈mk.hands)(e1:s'.sd hd.name=s.sd hd.name)(Z:s'.tl hd.name=s.tl hd.name)(Y:s'.ct hd.name=s.ct hd.name):EqS H (n+3) u z:=by
 obtain⟨c1,C,p,lt,x,rfl,U,⟨O,kb,l,g⟩,M,J,_⟩:=h;obtain⟨d1,y,p',G,w,rfl,r,⟨m,I,j,c⟩,g3,g4,_⟩:=h';rw[e1]at m c;rw[Z]at g4;rw[Y]at r;have f:∀{n:Nat} (i:Int),EqS H n (.int i) (.int i):=λi=>EqS.dat (.inl (jEAA (.int i) rfl rfl (by show D.deep (.int i)<=100;unfold D.deep;decide)));have str:∀{n:Nat} (i:Str),EqS H n (.str i) (.str i):=λi=>EqS.dat (.inl (jEAA (.str i) rfl rfl (by show D.deep (.str i)<=100;unfold D.deep;decide)));refine .inr (.inl (xak c1 d1 _ _ rfl rfl (.inl ⟨U,r⟩) rfl (λi u z a hz=>?_)));rcases i with _ |_ |_ |_ |i
 ·cases a;cases hz;exact str _
 ·cases a;cases hz
  refine .inr (.inl (xak C y _ _ rfl rfl (.inl ⟨O,m⟩) rfl (λi u z a hz=>?_)));rcases i with _ |_ |i
  ·cases a;cases hz;exact f _
  ·cases a;cases hz
   exact xm0 l j g c (by rw[o.keys hd b];exact(e.hok hd b).nd) (o.bxdeep e b)
  ·cases a
 ·cases a;cases hz
  exact EqS.dat (.inr (xaf lt G x w _ rfl rfl M g3 J ⟨g4,zY (xen (o.tok hd b).2) (by decide)⟩))
 ·cases a;cases hz;exact f _
 ·cases a
theorem xm5{A B H:Hp}{n:Nat}{s s':HSt}{u z:V}{c:Chn}(h:CSeen A H s u c)(h':CSeen B H s' z c)(e:s'.bt c.1=s.bt c.1)(dp:∀d∈s.bt c.1,d.deep<=12):EqS H (n+2) u z:=by
 obtain⟨r,lt,f,rfl,o,m,l,_⟩:=h;obtain⟨p,g,b,rfl,j,g3,g4,_⟩:=h';rw[e]at g4;refine .inr (.inl (xak r p _ _ rfl rfl (.inl ⟨o,j⟩) rfl (λi u z a hz=>?_)));rcases i with _ |_ |i
 ·cases a;cases hz
  exact EqS.dat (.inl (jEAA (.str c.1) rfl rfl (by show D.deep (.str c.1)<=100;unfold D.deep;decide)))
 ·cases a;cases hz
  exact EqS.dat (.inr (xaf lt g f b _ rfl rfl m g3 l ⟨g4,zY (xen dp) (by decide)⟩))
 ·cases a
theorem xl5{A B H:Hp}{t t':Addr}{mk:Mak}{s:HSt}{N:Nat}(h:StateAt A H t mk s)(h':StateAt B H t' mk s)(b:MakOk mk)(o:HOk mk s N):EqS H 12 (.ref t) (.ref t'):=by
 obtain⟨p,m,l,j,Y,U,O,a4,a5,_,_,M,J⟩:=h.ex;obtain⟨w,r,g,f,I,G,C,b4,Z,_,_,y,x⟩:=h'.ex;refine .inr (.inl (xak t t' _ _ rfl rfl (.inl ⟨Y,I⟩) rfl (λi u z a hz=>?_)));rcases i with _ |_ |i
 ·cases a;cases hz
  refine .inr (.inl (xak p w l g rfl rfl (.inr ⟨U,G⟩) (by omega) (λi u z a hz=>?_)));have hi:=(zES a).1;have c:mk.hands[i]?=some (mk.hands[i]'(by omega)):=zGA _;exact xmu (n:=7) (M i u _ a c) (y i z _ hz c) b o (zMG c) rfl rfl rfl
 ·cases a;cases hz
  refine .inr (.inl (xak m r j f rfl rfl (.inr ⟨O,C⟩) (by omega) (λi u z a hz=>?_)));have hi:=(zES a).1;have c:mk.chans[i]?=some (mk.chans[i]'(by omega)):=zGA _;have e:=zMG c;exact xm5 (n:=8) (J i u _ a c) (x i z _ hz c) rfl λd hd=>xd2 b.wf (b.ckin _ e) ((o.cok _ e).2 d hd)
 ·cases a
theorem xld(T:Tx K mg)(c:DefIs P w K mg base n "_law_feed" qas (xma K))(b:DefIs P w K mg base n "_law_take" qae xc2):DefIs P w K mg base (n+1) "_law_weaving" qbf (xix K):=by
 refine DefIs.of T.kK scl_weaving (by walk_at"l") (λf ao A outer s H vs Q E hr h=>?_);obtain⟨a,ns,y,mv,mk,rfl,hS,a9,md,h4,af,am,q⟩:=h;have nd:=scl_weaving.nd
 refine⟨_,(zpn (psn 3 nd (xbt pN))
   (zpn (xci zF rfl (xot rfl T.k4 (va 1 (pc (xau (xkg rfl) rfl T.k0 PyProof.Rows.boot_min (pc (xau (xah (K:=K) rfl) rfl T.kX zE (v1 0)) (pc pI pN so) zsc)) pN zsc))) (pgn 4 nd)
   (zpn (psn 5 nd (pd c hr (va 0 (v1 4))))
   (zpo (psn 3 nd (xan xes (pv 3) (xbj ["_law_j","_law_make_here","_law_feed_here"] [none,some 2,some 5] rfl (by kernel_rfl) (xcj rfl T.k4 (pc pI pN so)) (λ_ _ _ _=>(pgc 0)) (λ_ _ _ _=>xbp) (λ_ _ _ _=>(px K (px K (px K (pv 1) pI) (pd b hr (va 2 (pc (xau (xah (K:=K) rfl) rfl T.kX zE (pc (px K (pv 1) pI) pN ss)) pN zsc)))) pI))))))))
   (zpo (xag (pv 3))))),?_⟩
 refine⟨(by walk_at"s"),λl0 a1=>?_⟩;have s0:=zA a1 (.lst []);have al:0<mk.hands.length:=List.length_pos_iff.mpr af;have ae:(ns.map V.int).length=ns.length:=zLM ..;refine(xbb _ rfl _ rfl a _ rfl (.inl (s0.seq hS)) _ (jEA _ rfl ?_))
 obtain⟨M,hM,an⟩:∃M:Nat,(if (63:Int)<((ns.map V.int).length:Nat) then (63:Int) else ((ns.map V.int).length:Nat))=(M:Nat)/\M<=63:=by
  refine(jEA ns.length ?_ a9);rw[ae,if_neg (by omega)]
 rw[hM];refine(xaq _ _ rfl (jAAA (by omega) (by omega) (by omega) (by omega)) ?_);have a8:((M:Int)-(y:Nat)).toNat<=63:=by omega
 generalize ((M:Int)-(y:Nat)).toNat=ak at a8⊢
 refine xc7 (n:=ak) (λi σ H'=>∃(x:Addr) (ws:List Str) (o4 o5:Option V),σ=[some (.ref a),some (.int y),some mv,some (.ref x),o4,o5]/\Same H H'/\H x=none/\H' x=some (.lst (ws.map V.str))/\(∀z∈ws,z∈hn mk)/\ws.length<=5*i)
  (xay l0 ([]) none none rfl s0 a1 ups (λz h=>nomatch h) (zZ _)) ?_ ?_
 ·rintro i σ H1 hi ⟨x,ws,o4,o5,rfl,C,O,u,o,ab⟩
  refine(xcg _ rfl _ rfl a ns _ rfl (C.seq hS) a9 ⟨by omega,λfd J I U=>?_⟩);have s2:=zA U (.lst [.int J,.int I]);have g:upd H1 fd (.lst [.int J,.int I]) fd=some (.lst [.int J,.int I]):=ups;generalize upd H1 fd (.lst [.int J,.int I])=H2 at s2 g⊢;have aa:=C.trans s2;obtain⟨ma,kv,cv,hv,rfl,a0,_,_,ai⟩:=mk_d (md.same aa _);obtain⟨ha,uh,rfl,a3,a4⟩:=ai;have ag:=a4.length;rw[zLM]at ag;refine(xbi _ rfl 5 rfl (by decide) ⟨by decide,?_⟩);refine xdz (j:=0) (λj ys H'=>Fed fd H2 H'/\∃vs:List Str,ys=vs.map V.str/\∀z∈vs,z∈hn mk) (by rfl) (jAEA (Fed.refl g) ([]) rfl (λ_ h=>nomatch h)) (xa2 (by decide)) ?_ ?_
  ·rintro j ys H3 hj l ⟨f3,vs,rfl,p⟩
   have e:=xal (jEE J I g) f3;obtain⟨p3,q3,a6⟩:=f3.2;refine(xaa _ rfl ma _ _ _ rfl rfl (zB (e _ _ a0)) rfl (xap _ rfl _ rfl ma _ _ (xbf _ rfl rfl (zB (e _ _ a0)) rfl (xaq ha _ rfl (.inr (zB (e _ _ a3))) (xak fd p3 q3 _ rfl a6 (by omega) (by omega) (λr H4 r0 r1 f4=>?_))))));have G:=xal (jEE p3 q3 a6) f4;obtain⟨ri,rfl⟩:∃i:Nat,r=(i:Int):=⟨r.toNat,by omega⟩;have ac:ri<uh.length:=by omega
   have Y:uh[ri]?=some uh[ri]:=zGA ac;obtain⟨d,a7,rd⟩:=a4.get Y;rw[zGM]at a7;obtain⟨hd,ah,rfl⟩:=zMS a7;obtain⟨aj,bv,rv,eh,a2,_,_⟩:=hd_d rd;refine(xak ha _ _ _ rfl rfl (zB (G _ _ (e _ _ a3))) (xav Y) ?_);rw[eh];refine(xak aj _ _ _ rfl rfl (zB (G _ _ (e _ _ a2))) rfl (nxt hj l (jAEA (f3.trans f4) (vs++[hd.name]) (by rw[zAP];rfl) (λz hz=>?_))));rcases zMA hz with hz |hz
   ·exact p z hz
   ·rw[zMO hz];exact qG (zMG ah)
  ·rintro ys H3 l ⟨f3,vs,rfl,p⟩ D hD
   have m:Same H1 H3:=Fed.back U s2 f3;have sD:=zA hD (.lst (vs.map V.str));have a5:=sD _ _ (m _ _ u);have e5:vs.length=5:=by rw[zLM]at l;exact l
   refine(xay x D _ _ rfl rfl a5 ups (fits (by rw[zLM,zLM];omega)) (λnp Z=>?_));have sN:=zA Z (.lst (ws.map V.str++vs.map V.str));have sA:=m.trans (sD.trans sN);refine(xay np (ws++vs) _ _ rfl (C.trans sA) (xae C (xae (m.trans sD) Z)) (by rw[zAP];exact ups) (λz hz=>?_) (by rw[zLA];omega));rcases zMA hz with hz |hz
   ·exact o z hz
   ·exact p z hz
 ·rintro σ H1 ⟨x,ws,o4,o5,rfl,C,O,u,o,ab⟩
  exact(jEA _ rfl (q x ws H1 C O u o (by omega)))
theorem xqi(us:List V)(k:Nat):cutV us none (some (k:Int))=us.take k:=by
 unfold cutV;rw[HT.sIx_none,HT.sIx_nat,List.drop_zero,Nat.sub_zero];rcases Nat.le_total k us.length with h |h
 ·rw[Nat.min_eq_left h]
 ·rw[Nat.min_eq_right h,zTL (zZ _),zTL h]
theorem xr8(us:List V)(k:Nat):cutV us (some (k:Int)) none=us.drop k:=by
 unfold cutV;rw[HT.sIx_none,HT.sIx_nat];rcases Nat.le_total k us.length with h |h
 ·rw[Nat.min_eq_left h,zTL (by rw[List.length_drop];exact zZ _)]
 ·rw[Nat.min_eq_right h,Nat.sub_self,List.take_zero,List.drop_eq_nil_of_le h]
theorem xr7(us:List V)(v:V):cutV (us++[v]) none (some (-1))=us:=by
 have e:HT.sIx (us++[v]).length (us++[v]).length (some (-1))=us.length:=by
  rw[zLA,List.length_singleton];show(if (-1:Int)<0 then ((-1:Int)+((us.length+1:Nat):Int)).toNat else min (-1:Int).toNat (us.length+1))=us.length;rw[if_pos (by decide)];omega
 unfold cutV;rw[e,HT.sIx_none,List.drop_zero,Nat.sub_zero,List.take_append_of_le_length (zZ _),zTL (zZ _)]
theorem xv1{l:List Str}:∀{m:List Str},l.Nodup->(∀x∈l,x∈m)->l.length<=m.length:=by
 induction l with
 |nil=>intro m _ _;exact qO _
 |cons a l i=>
  intro m nd h;obtain⟨g,f⟩:=List.nodup_cons.mp nd;have c:=h a (by simp);have:=i (m:=m.erase a) f λx b=>(List.mem_erase_of_ne λe=>g (by rw[<- e];exact b)).mpr (h x (qF _ b));rw[List.length_erase_of_mem c]at this;have j:=List.length_pos_of_mem c;rw[List.length_cons];omega
theorem xjc{H:Hp}{e:D}:∀{us:List V} {ds:List D},RelDs H us (ds++[e])->∃a v,us=a++[v]/\RelDs H a ds
 |us,[],h=>by
  obtain⟨v,a,c,f,b⟩:=h;obtain rfl:a=[]:=b;exact(jEEA ([]) v c rfl)
 |us,d::ds,h=>by
  obtain⟨v,a,c,f,b⟩:=h;obtain⟨w,g,i,r⟩:=xjc b;exact(jEEA (v::w) g (by rw[c,i];rfl) (xaq v w rfl f r))
def rch:Row->Option Str
 |.take _ c _=>some c
 |.send c _=>some c
 |_=>none
theorem CSeen.frm{a H e:Hp}{s:HSt}{u:V}{c:Chn}(h:CSeen a H s u c)(f:∀b vs,H b=some (.tup vs)->e b=some (.tup vs))(k:∀b o,a b=none->H b=some o->e b=some o):CSeen a e s u c:=by
 obtain⟨b,lt,i,n,m,l,j,g⟩:=h;exact(xaj b lt i n (f _ _ m) (k _ _ g l) (j.tups f _) g)
theorem TkH.lst{H:Hp}{mk:Mak}{z:Str}{d:Addr}{c:List (Key×V)}{cs:Lts}{L:List Addr}{tk:Str->List D}(h:TkH H mk z d c cs L tk){b:Addr}{o:HO}(e:H b=some o)(n:∀us,o≠.lst us):b ∉L:=λf=>by
 obtain⟨us,a⟩:=h.ls.there b f;rw[e]at a;exact n _ (qC a)
theorem TkAt.grow {H w:Hp} {O:Addr} {mk:Mak} {t:TkA} {tk:Str->List D} {z c:Str} {v:List D} {kv':List (Key×V)} {m:Lts} {p:List Addr} (h:TkAt H O mk t tk) (hz:z∈hn mk)
  (fr:∀b o,H b=some o->b≠t.td z->b ∉t.L z->w b=some o) (Y:TkH w mk z (t.td z) kv' m p (upF tk c v)) (I:∀l∈p,l∈t.L z\/H l=none) (cu:∀y∈hn mk,c∈cTo mk y->y=z) :
  TkAt w O mk {t with kv:=upF t.kv z kv',cs:=upF t.cs z m,L:=upF t.L z p} (upF tk c v):=by
 have r:=h.hs z hz;have U:∀b vs,H b=some (.tup vs)->w b=some (.tup vs):=λb vs e=>fr b _ e (λq=>by rw[q,r.hd]at e;cases e) (r.lst e λus q=>by cases q);have lst:∀y∈hn mk,∀l∈t.L y,∃us,H l=some (.lst us):=λy g l G=>(h.hs y g).ls.there l G;refine⟨fr _ _ h.h0 (λq=>h.ne z hz q.symm) (r.lst h.h0 λus q=>by cases q),λy g=>?_,h.inj,h.ne,λy g n i ne l G=>?_⟩
 ·show TkH w mk y (t.td y) (upF t.kv z kv' y) (upF t.cs z m y) (upF t.L z p y) _
  by_cases e:y=z
  ·subst e
   rw[xao,xao,xao];exact Y
  ·rw[xa3 e,xa3 e,xa3 e]
   have j:=h.hs y g;refine⟨fr _ _ j.hd (λq=>e (h.inj y g z hz q)) (r.lst j.hd λus q=>by cases q),LsAt.keep U (λa ha us C=>fr a _ C (λq=>by rw[q,r.hd]at C;cases C) (h.dj y g z hz e a ha)) j.ls,j.nd,j.nm,λM s=>?_,j.Lnd⟩;have Z:M≠c:=λq=>e (cu y g (by rw[<- q];exact s));rw[xa3 Z];exact j.val M s
 ·have f:l∈upF t.L z p y:=G
  show l ∉upF t.L z p n;by_cases e:y=z
  ·subst e
   rw[xao]at f;rw[xa3 (Ne.symm ne)];rcases I l f with q |q
   ·exact h.dj y g n i ne l q
   ·intro x
    obtain⟨us,u⟩:=lst n i l x;rw[q]at u;cases u
  ·rw[xa3 e]at f
   by_cases J:n=z
   ·subst J
    rw[xao];intro x;rcases I l x with q |q
    ·exact h.dj y g n i ne l f q
    ·obtain⟨us,u⟩:=lst y g l f
     rw[q]at u;cases u
   ·rw[xa3 J]
    exact h.dj y g n i ne l f
theorem xj9{c a:Str}{ds:List D}:∀{cs:Lts},getL (cs++[(c,ds)]) a=match getL cs a with |some v=>some v |none=>if c=a then some ds else none
 |[]=>xca
 | p::cs=>by
  show getL (p::(cs++_)) a=_;rw[xca,xca];by_cases e:p.1=a
  ·rw[if_pos e,if_pos e]
  ·rw[if_neg e,if_neg e]
   exact xj9
theorem TkH.there {H:Hp} {mk:Mak} {z:Str} {d:Addr} {kv:List (Key×V)} {cs:Lts} {L:List Addr} {tk:Str->List D} (h:TkH H mk z d kv cs L tk) {c:Str} {ds:List D} (hg:getL cs c=some ds) (hc:c∈cTo mk z) {v:V} {e:D} (rv:RelD H v e) :
  ∃la us,valV kv (Sum.inr c)=some (.ref la)/\la∈L/\H la=some (.lst us)/\us.length=(tk c).length/\TkH (upd H la (.lst (us++[v]))) mk z d kv (modL (·++[e]) c cs) L (upF tk c (tk c++[e])):=by
 obtain⟨la,us,g1,g2,g3,g4,g5⟩:=h.ls.get h.Lnd hg;have hv:=h.val c hc;rw[hg]at hv;have hv':ds=tk c:=hv
 have ch:Chg la (us++[v]) H (upd H la (.lst (us++[v]))):=λb o e=>by
  by_cases q:b=la
  ·subst q;rw[if_pos rfl,ups]
  ·rw[if_neg q,xai q];exact e
 have tp:=ch.tups g3;refine(xct la us g1 g2 g3 (by rw[g4.length,hv']) ⟨ch.ne h.hd λq=>(by rw[<- q,h.hd]at g3;cases g3),g5 _ _ _ ch ((g4.append (us:=[v]) (show RelDs H [v] [e] from(xaq v ([]) rfl rv rfl))).tups tp _),by rw[xdx];exact h.nd,by rw[xdx];exact h.nm,λc' hc'=>?_,h.Lnd⟩);rw[xik];by_cases e:c'=c
 ·subst e
  rw[if_pos rfl,xao,hg,hv'];rfl
 ·rw[if_neg e,xa3 e]
  exact h.val c' hc'
theorem TkH.first {H:Hp} {mk:Mak} {z:Str} {d:Addr} {kv:List (Key×V)} {cs:Lts} {L:List Addr} {tk:Str->List D} (h:TkH H mk z d kv cs L tk) {c:Str} (hg:getL cs c=none) (hc:c∈cTo mk z) {a:Addr} (ha:H a=some (.lst [])) (hL:a ∉L) {v:V} {e:D} (rv:RelD H v e) :
  valV kv (Sum.inr c)=none/\TkH (upd (upd H d (.dK (putK kv (Sum.inr c) (.ref a)))) a (.lst ([]++[v]))) mk z d (kv++[(Sum.inr c,.ref a)]) (cs++[(c,[e])]) (L++[a]) (upF tk c (tk c++[e])):=by
 have nov:=(LsAt.val (c:=c) h.ls).1 hg;have hv:=h.val c hc;rw[hg]at hv;have hv':[]=tk c:=hv
 have nin:c ∉cs.map (·.1):=λq=>by
  obtain⟨ds,h1,_⟩:=xil q;rw[hg]at h1;cases h1
 have ad:a≠d:=λq=>by rw[q,h.hd]at ha;cases ha
 have pk:putK kv (Sum.inr c) (.ref a)=kv++[(Sum.inr c,.ref a)]:=xmh λp hp q=>by
  have hm:p.1∈kv.map (·.1):=qG hp;rw[h.ls.keys,q]at hm;obtain⟨r,hr,e3⟩:=zMP hm;exact nin (by rw[<- Sum.inr.inj e3];exact qG hr)
 have tp:∀b vs,H b=some (.tup vs)->upd (upd H d (.dK (putK kv (Sum.inr c) (.ref a)))) a (.lst ([]++[v])) b=some (.tup vs):=λb vs e=>by
  have n1:b≠a:=λq=>by rw[q,ha]at e;cases e
  have n2:b≠d:=λq=>by rw[q,h.hd]at e;cases e
  rw[xai n1,xai n2];exact e
 refine⟨nov,⟨by rw[xai (Ne.symm ad),ups,pk],?_,?_,?_,λc' hc'=>?_,?_⟩⟩
 ·refine LsAt.snoc (us:=[v]) ups (show RelDs _ [v] [e] from(xaq v ([]) rfl (rv.tups tp _) rfl)) (LsAt.keep tp (λb hb us hq=>?_) h.ls)
  have n1:b≠a:=λq=>hL (by rw[<- q];exact hb);have n2:b≠d:=λq=>by rw[q,h.hd]at hq;cases hq
  rw[xai n1,xai n2];exact hq
 ·rw[zAP]
  exact List.nodup_append.mpr (jAA h.nd (by simp) (λy hy z hz q=>nin (by have hz':z=c:=zMO hz;rw[<- hz',<- q];exact hy)))
 ·rw[zAP]
  intro y hy;rcases zMA hy with q |q
  ·exact h.nm y q
  ·rw[zMO q];exact hc
 ·rw[xj9]
  by_cases e:c'=c
  ·subst e
   rw[hg,xao,<- hv'];show(if c'=c' then _ else _:Option (List D)).getD []=_;rw[if_pos rfl];rfl
  ·rw[xa3 e,<- h.val c' hc']
   cases getL cs c' with
   |some v=>rfl
   |none=>show(if c=c' then _ else _:Option (List D)).getD []=_;rw[if_neg (Ne.symm e)]
 ·exact List.nodup_append.mpr (jAA h.Lnd (by simp) (λy hy z hz q=>hL (by rw[<- zMO hz,<- q];exact hy)))
theorem xxj{c A B:Prop}[Decidable c](h:¬c)(a:A):if (!decide c)=true then A else B:=by rw[zDF h];exact a
def Went(mk:Mak)(s s':HSt)(hd:Hand):Option Row->Prop
 |none=>s'=s
 |some r=>hd.rows[(s.sd hd.name).1]?=some r/\r.shutF s.bt=false/\s'=s.go mk.kinds hd.name r
theorem Went.oth{mk:Mak}{s s':HSt}{hd:Hand}{w:Option Row}(h:Went mk s s' hd w){z:Str}(n:z≠hd.name):s'.sd z=s.sd z/\s'.tl z=s.tl z/\s'.ct z=s.ct z:=by
 cases w with
 |none=>obtain rfl:=h;exact(jAA rfl rfl rfl)
 |some r=>
  obtain⟨_,_,rfl⟩:=h;exact(jAA (xa3 n) (xa3 n) (xa3 n))
theorem Went.own{mk:Mak}{s s':HSt}{hd:Hand}{w:Option Row}(h:Went mk s s' hd w):s'.ct hd.name=s.ct hd.name+(if w.isSome then 1 else 0):=by
 cases w with
 |none=>obtain rfl:=h;rfl
 |some r=>
  obtain⟨_,_,rfl⟩:=h;exact xao
def wtk(s:HSt)(tk:Str->List D):Option Row->Str->List D
 |none=>tk
 |some r=>r.tk s.bt tk
def xoc(K:Fg):Sp:=λvs H Q _=>∃(t1 t2:Addr) (mv:V) (hd:Hand) (D0:Addr) (A B:Hp) (s s':HSt) (mk:Mak) (N:Nat) (t:TkA) (tk:Str->List D) (w:Option Row),vs=[.ref t1,.ref t2,mv,.str hd.name,.bl w.isSome,.ref D0]/\RelD H mv mk.d/\MakOk mk/\hd∈mk.hands/\HOk mk s N/\N<=900/\StateAt A H t1 mk s/\StateAt B H t2 mk s'/\Went mk s s' hd w/\TkAt H D0 mk t tk/\(∀c,(tk c).length<=900)/\(∀b,b=t.td hd.name\/b∈t.L hd.name->A b≠none/\B b≠none) ∧
 ∀t' H',(∀b o,H b=some o->b≠t.td hd.name->b ∉t.L hd.name->H' b=some o)->TkAt H' D0 mk t' (wtk s tk w)->t'.td=t.td->(∀z∈hn mk,∀l∈t'.L z,l∈t.L z\/H l=none)->Q (.bl true) H'
theorem xo5(T:Tx K mg):DefIs P w K mg base (n+1) "_law_moved" qbg (xoc K):=by
 refine DefIs.of T.kM scl_moved (by walk_at"l") (λf cd A outer s H vs Q E hr h=>?_);obtain⟨t1,t2,mv,hd,D0,HA,HB,st,st',mk,N,t,tk,wr,rfl,md,m,b8,ok,c7,sA,sB,a0,ht,bo,old,q⟩:=h;have nd:=scl_moved.nd;have hu:=xep hr;have aa:=xpx hr;have h4:=m.hfew;have h6:=m.cfew;obtain⟨l1,l2,bm,bj,a1,a2,a3,a4,a5,n1,n2,a6,a7⟩:=id sA.ex;obtain⟨k1,k2,bi,bh,b1,b2,b3,b4,b5,m1,m2,b6,b7⟩:=id sB.ex
 refine⟨_,(zpn (xci zF rfl (xtn rfl T.uA (pc (px K (pv 0) pI) (pc (px K (pv 1) pI) pN ss) ss)) (xbc (K:=K) rfl rfl (xad (pgn 6 nd) (xad (pgn 7 nd) xa9)))
   (zpo (xa6 (PW.pt (xjd (PW.pt (xcr (pR xq5 (px K (pv 6) pI) (pv 3) (nM _)) (xb8 (pR (xo0 aa) (pv 6) (pv 7) (nM _))))) (xha (PW.pt (xcr (pR xbd (px K (pv 6) pI) (pv 3) (nM _)) (xb8 (pR xq5 (px K (pv 7) pI) (xan xbe (px K (pv 6) pI) (xat xfc rfl T.kU PyProof.Rows.boot_int (v1 4))) (nM _)))))))) (zpo (xag xe5)) pQ)))
   (zpn (xa6 (xmi (xhb (pv 4))) (zpo (xag (xea (xo1 aa) (pv 0) (pv 1) (nM _)))) pQ)
   (zpn (psn 8 nd pI)
   (zpn (xci zF rfl (xto rfl T.uA (pc (px K (pv 0) pI) (pc (px K (pv 1) pI) (pc (px K (pv 2) pI) pN ss) ss) ss)) (xbc (K:=K) rfl rfl (xad (pgn 6 nd) (xad (pgn 7 nd) (xad (pgn 9 nd) xa9))))
   (zpo (xa6 (pR (xo0 aa) (pv 6) (pv 7) (nM _)) (zpn (psn 8 nd (xan xbe (pv 8) pI))
   (zpo (xa6 (PW.pt (xcr (pR xbd (px K (pv 9) pI) (pv 3) (nM _)) (xb8 (pR (xty aa) (px K (pv 7) pI) (xcp xdh (px K (pv 6) pI) (xcu pI) xdi) (nM _))))) (zpo (xb0 (xdj zD zH zG xbn (xq3 (xcs hu (pv 5) (pv 3) (λ_ _=>rfl)) (px K (pv 9) pI) (xbt pN) ⟨rfl,rfl,rfl,rfl⟩) (pc (pxl K (px K (pv 6) pI) pI) pN ss)))) (zpo (xa6 (PW.pt (xjd (pR xq5 (px K (pv 9) pI) (pv 3) (nM _)) (xha (pR (xfh aa) (xcp xdh (px K (pv 7) pI) xdi (xcu (xxc xur pI))) (px K (pv 6) pI) (nM _))))) (zpo (xag xe5)) pQ))))) pQ)))
   (zpo (xag (xea xft (pv 8) pI (nM _)))))))),xab λR1 c2=>?_⟩
 refine(xaa _ rfl t1 _ _ _ rfl rfl (zB a1) rfl (xaa _ rfl t2 _ _ _ rfl rfl (zB b1) rfl (xb5 l1 k1 rfl ⟨_,zC a2⟩ ⟨_,zC b2⟩ ?_)));refine xr1 (xs:=bm) (ys:=bi) (by omega) (λi σ H'=>∃(o6 o7:Option V),σ=[some (.ref t1),some (.ref t2),some mv,some (.str hd.name),some (.bl wr.isSome),some (.ref D0),o6,o7,none,none]/\Same H H') (jEEA none none rfl (Same.refl _)) (λi σ H' _ p=>by obtain⟨_,_,_,g⟩:=p;exact⟨zC (g _ _ a2),zC (g _ _ b2)⟩) ?_ ?_
 ·rintro i y z σ H1 p hy hz ⟨o6,o7,rfl,U⟩ hp
  have hi:=(zES hy).1;have hh:mk.hands[i]?=some (mk.hands[i]'(by omega)):=zGA _;have h2:=a6 i y _ hy hh;have h3:=b6 i z _ hz hh;have a:=zMG hh;generalize mk.hands[i]=h0 at hh h2 h3 a;have sp:=zA hp (.tup [y,z]);have s2:=U.trans sp;refine(xaw p _ rfl (zB ups) rfl _ _ rfl _ (jEAA _ rfl rfl ?_));obtain⟨c1,sa,pa,lt,ut,ey,f1,_⟩:=id (h2.same s2);obtain⟨d1,sb,pb,lu,uu,ez,g1,_⟩:=id (h3.same s2);subst ey ez;have x0:atI [V.str h0.name,.ref sa,.ref lt,.int (st.ct h0.name:Nat)] 0=some (.str h0.name):=xav (j:=0) rfl;have x3:atI [V.str h0.name,.ref sa,.ref lt,.int (st.ct h0.name:Nat)] 3=some (.int (st.ct h0.name:Nat)):=xav (j:=3) rfl;have y3:atI [V.str h0.name,.ref sb,.ref lu,.int (st'.ct h0.name:Nat)] 3=some (.int (st'.ct h0.name:Nat)):=xav (j:=3) rfl;by_cases e:h0.name=hd.name
  ·refine(xaa _ rfl c1 _ _ _ rfl rfl (zB f1) x0 (xa0 _ rfl rfl _ rfl (xrv (congrArg V.str e) (iteF ?_))))
   refine(xaa _ rfl c1 _ _ _ rfl rfl (zB f1) x0 (xa0 _ rfl rfl _ rfl (iteKT (zDT (congrArg V.str e)) ?_)));refine(xaa _ rfl d1 _ _ _ rfl rfl (zB g1) y3 (xaa _ rfl c1 _ _ _ rfl rfl (zB f1) x3 (jEA _ rfl ?_)));refine .inr (xa8 _ rfl _ _ rfl rfl (jAEA rfl _ rfl (xrv ?_ (jEEA _ _ rfl s2))));rw[e,a0.own];cases wr <;> rfl
  ·obtain⟨w1,w2,w3⟩:=a0.oth e
   refine(xaa _ rfl c1 _ _ _ rfl rfl (zB f1) x0 (xa0 _ rfl rfl _ rfl (xxj (λz=>e (V.str.inj z)) ?_)));refine(xd3 _ rfl _ rfl (.inl (jAA (xmu (h2.same s2) (h3.same s2) m ok a w1 w2 w3) (jEEA _ _ rfl rfl) (jEA _ rfl (iteF ?_)))));exact(xaa _ rfl c1 _ _ _ rfl rfl (zB f1) x0 (xa0 _ rfl rfl _ rfl (iteKF (zDF λz=>e (V.str.inj z)) (iteF (jEEA _ _ rfl s2)))))
 rintro σ H1 ⟨o6,o7,rfl,U⟩;refine c2 _ _ (xab λR2 c0=>?_);refine(xd3 _ rfl _ rfl ?_)
 cases wr with
 |none=>
  obtain rfl:st'=st:=a0;exact(xbi _ rfl _ rfl (xl5 (sA.same U) (sB.same U) m ok) ⟨(jEEA _ _ rfl rfl),q t H1 (λb o e _ _=>U _ _ e) (ht.same U) rfl λz _ l hl=>.inl hl⟩)
 |some r=>
 refine c0 _ _ (xab λR3 bz=>bz _ _ (xab λR4 bx=>?_));obtain⟨b0,sh,rfl⟩:=a0;have aq:=(m.hok hd b8).ok r (zMG b0);obtain⟨ma,kv,cv,hv,rfl,bq,_,bw,_⟩:=mk_d md;obtain⟨ca,uc,rfl,b9,ba⟩:=bw;have br:=ba.length;rw[zLM]at br;have ag:hd.name∈hn mk:=qG b8;have c9:=ht.same U;refine(xaa _ rfl t1 _ _ _ rfl rfl (zB (U _ _ a1)) rfl (xaa _ rfl t2 _ _ _ rfl rfl (zB (U _ _ b1)) rfl (xaa _ rfl ma _ _ _ rfl rfl (zB (U _ _ bq)) rfl (xaj l2 k2 ca rfl ⟨_,zC (U _ _ a3)⟩ ⟨_,zC (U _ _ b3)⟩ ⟨_,zB (U _ _ b9)⟩ ?_))));have th:=ht.hs _ ag;have bb:∀{G:Hp},Same H G->∀b o,H b=some o->b≠t.td hd.name->b ∉t.L hd.name->G b=some o:=λs b o e _ _=>s b o e;have aj:∀{G:Hp},(∀b o,H b=some o->b≠t.td hd.name->b ∉t.L hd.name->G b=some o)->∀b vs,H b=some (.tup vs)->G b=some (.tup vs):=λfr b vs e=>fr b _ e (λq=>by rw[q,th.hd]at e;cases e) (th.lst e λus q=>by cases q);have bd:∀{G:Hp},(∀b o,H b=some o->b≠t.td hd.name->b ∉t.L hd.name->G b=some o)->∀b o,HA b=none->H b=some o->G b=some o:=λfr b o e h=>fr b o h (λq=>(old b (.inl q)).1 e) λq=>(old b (.inr q)).1 e;have bc:∀{G:Hp},(∀b o,H b=some o->b≠t.td hd.name->b ∉t.L hd.name->G b=some o)->∀b o,HB b=none->H b=some o->G b=some o:=λfr b o e h=>fr b o h (λq=>(old b (.inl q)).2 e) λq=>(old b (.inr q)).2 e
 refine xr2 (xs:=bj) (ys:=bh) (zs:=uc) (by omega) (by omega) (λi σ H'=>∃(o6 o7 o9:Option V) (k:Nat),σ=[some (.ref t1),some (.ref t2),some (.ref ma),some (.str hd.name),some (.bl true),some (.ref D0),o6,o7,some (.int k),o9]/\(∀b o,H b=some o->b≠t.td hd.name->b ∉t.L hd.name->H' b=some o) ∧
  ((k=0/\Same H H'/\∀(j:Nat) c,j<i->mk.chans[j]?=some c->rch r≠some c.1)\/k=1/\(∀(j:Nat) c,i<=j->mk.chans[j]?=some c->rch r≠some c.1)/\∃t',TkAt H' D0 mk t' (r.tk st.bt tk)/\t'.td=t.td/\∀z∈hn mk,∀l∈t'.L z,l∈t.L z\/H l=none)) (xda _ _ none 0 rfl (bb U) (.inl (jAA rfl U (λj c hj=>absurd hj (Nat.not_lt_zero _))))) (λi σ H' _ p=>?_) ?_ ?_
 ·obtain⟨_,_,_,_,_,fr,_⟩:=p
  exact(jAA (zC (bd fr _ _ n2 a3)) (zC (bc fr _ _ m2 b3)) (zB (aj fr _ _ b9)))
 ·rintro i y z v σ H2 p hy hz hv ⟨o6,o7,o9,k,rfl,fr,ak⟩ hp
  have hi:=(zES hy).1;obtain⟨b,c,hc,rfl,hb⟩:=xds ba hv;have a:=zMG hc;have sp:=zA hp (.tup [y,z,.ref b]);have Z:∀b' o,H b'=some o->b'≠t.td hd.name->b' ∉t.L hd.name->upd H2 p (.tup [y,z,.ref b]) b'=some o:=λb o e n1 n2=>sp _ _ (fr b o e n1 n2);have h2:=(a7 i y _ hy hc).frm (aj Z) (bd Z);have h3:=(b7 i z _ hz hc).frm (aj Z) (bc Z);have ae:=aj Z _ _ hb;refine(xaw p _ rfl (zB ups) rfl _ _ rfl _ (xa8 _ rfl _ _ rfl rfl ?_));generalize upd H2 p (.tup [y,z,.ref b])=H3 at sp Z h2 h3 ae⊢;obtain⟨c1,lt,ut,ey,f1,f2,f3,f4⟩:=id h2;obtain⟨d1,lu,uu,ez,g1,g2,g3,g4⟩:=id h3;subst ey ez;by_cases ec:rch r=some c.1
  ·rcases ak with⟨rfl,s2,no⟩ |⟨rfl,no,t',g1,g2,g3⟩
   rotate_left
   ·exact absurd ec (no i c (zZ _) hc)
   have dp:∀d∈st.bt c.1,d.deep<=12:=λd ab=>xd2 m.wf (m.ckin c a) ((ok.cok c a).2 d ab);have s3:=s2.trans sp
   have ar:∀(j:Nat) M,i+1<=j->mk.chans[j]?=some M->rch r≠some M.1:=λj M hj J q=>by
    have e:M.1=c.1:=qC (q.symm.trans ec);have e2:M=c:=xb9 m.cnd (zMG J) a e;subst e2;have h1:(cn mk)[i]?=some M.1:=by rw[zGM,hc];rfl
    have h2:(cn mk)[j]?=some M.1:=by rw[zGM,J];rfl
    have e3:=(List.getElem?_inj (zES h1).1 m.cnd).mp (h1.trans h2.symm);omega
   cases r with
   | take l M x=>
    obtain rfl:M=c.1:=qC ec
    have Y:c.2.2.1=hd.name:=by
     obtain⟨ch,ac,e,e2,_⟩:=aq;rw[xb9 m.cnd a ac e.symm];exact e2
    have au:=(xgw m a).mpr Y
    have af:RelDs H3 uu (st.bt c.1).tail:=by
     have:(st.go mk.kinds hd.name (.take l c.1 x)).bt c.1=(st.bt c.1).tail:=xao;rw[<- this];exact g3
    have ax:(st.bt c.1).isEmpty=false:=sh
    obtain⟨d,ds,bg⟩:∃d ds,st.bt c.1=d::ds:=by
     cases e:st.bt c.1 with
     |nil=>rw[e]at ax;cases ax
     |cons d ds=>exact(jEE d ds rfl)
    rw[bg]at af f3 dp;have az:=f3.length;have ay:=af.length
    obtain⟨v1,u,rfl,bn,ru⟩:∃v1 u,ut=v1::u/\RelD H3 v1 d/\RelDs H3 u ds:=by
     obtain⟨v1,u,h1,h2,h3⟩:=f3;exact(xaq v1 u h1 h2 h3)
    refine(xd3 _ rfl _ rfl (.inr (xam c1 d1 c.1 lt lu (xba _ uu rfl rfl f1 g1 f2 (jAA g2 (by rw[az,ay];show ds.length+1≠ds.length;omega) (jEA _ rfl (iteT ?_)))))));refine(xa8 _ rfl _ _ rfl rfl ?_);have c6:atI [V.str c.1,.str c.2.1,.str c.2.2.1,.str c.2.2.2] 0=some (.str c.1):=xav (j:=0) rfl;have aw:atI [V.str c.1,.str c.2.1,.str c.2.2.1,.str c.2.2.2] 2=some (.str c.2.2.1):=xav (j:=2) rfl;have I:∀l,atI [V.str c.1,.ref l] 1=some (.ref l):=λl=>xav (j:=1) rfl;refine(xaa _ rfl b _ _ _ rfl rfl (zB ae) aw (xa0 _ rfl rfl _ rfl (iteKT (zDT (congrArg V.str Y)) ?_)));refine(xaa _ rfl d1 _ _ _ rfl rfl (zB g1) (I _) (xaa _ rfl c1 _ _ _ rfl rfl (zB f1) (I _) (xa8 _ rfl lt _ rfl (zC f2) (λsl ao=>?_))));have O:=zA ao (.lst (cutV (v1::u) (some 1) none));have c3:cutV (v1::u) (some 1) none=u:=xr8 (v1::u) 1;have a8:upd H3 sl (.lst (cutV (v1::u) (some 1) none)) sl=some (.lst u):=by rw[c3];exact ups
    generalize upd H3 sl (.lst (cutV (v1::u) (some 1) none))=H4 at O a8⊢;refine .inl (jAA (xlm (O _ _ g2) a8 (af.same O _) (ru.same O _) (λd ab=>dp d (qF _ ab))) (jEEA _ _ rfl rfl) (jEA _ rfl (iteT ?_)));have s4:=s3.trans O;have an:=ht.same s4;have al:=an.hs _ ag;refine(xbb _ rfl _ rfl D0 _ rfl (gdK an.h0 ag) (t.td hd.name) (jAA rfl (.inl ⟨_,.inl al.hd⟩) ?_));refine(xaa _ rfl b _ _ _ rfl rfl (zB (O _ _ ae)) c6 ⟨(by walk_at"s"),λe0 ai=>?_⟩);have sE:=zA ai (.lst []);have C:=al.same sE;have a9:upd H4 e0 (.lst []) e0=some (.lst []):=ups;generalize upd H4 e0 (.lst [])=H5 at sE C a9⊢;have s5:=s4.trans sE
    have cc:(t.kv hd.name).length<=6:=by
     rw[C.ls.lens.1,<- zLM (·.1)];refine zY (xv1 C.nd C.nm) ?_;show(List.map _ _).length<=6;rw[zLM];exact zY (zV _ _) h6
    have am:=bn.same (O.trans sE) _;have at0:atI (v1::u) 0=some v1:=xav (j:=0) rfl;have cu:∀y∈hn mk,c.1∈cTo mk y->y=hd.name:=λy _ hy=>((xgw m a).mp hy).symm.trans Y
    have fin:∀(G:Hp) kv' av L',(∀b o,H4 b=some o->b≠t.td hd.name->b ∉t.L hd.name->G b=some o)->TkH G mk hd.name (t.td hd.name) kv' av L' (upF tk c.1 (tk c.1++[d]))->(∀l∈L',l∈t.L hd.name\/H4 l=none)->(∀b o,H b=some o->b≠t.td hd.name->b ∉t.L hd.name->G b=some o)/\∃t',TkAt G D0 mk t' ((Row.take l c.1 x).tk st.bt tk)/\t'.td=t.td/\∀z∈hn mk,∀l∈t'.L z,l∈t.L z\/H l=none:=by
     intro G kv' av L' fG tG nG;refine(xii (λb o e n1 n2=>fG b o (s4 _ _ e) n1 n2) ({t with kv:=upF t.kv hd.name kv',cs:=upF t.cs hd.name av,L:=upF t.L hd.name L'}) ?_ rfl (λz hz l' bu=>?_))
     ·show TkAt G D0 mk _ (upF tk c.1 (tk c.1++[(st.bt c.1).headD (.int 0)]))
      rw[bg];exact an.grow ag fG tG nG cu
     ·have ah:l'∈upF t.L hd.name L' z:=bu
      by_cases e:z=hd.name
      ·subst e
       rw[xao]at ah;rcases nG l' ah with q |q
       ·exact .inl q
       ·exact .inr (xae s4 q)
      ·rw[xa3 e]at ah
       exact .inl ah
    have bf:=(O.trans sE) _ _ f1;have be:=(O.trans sE) _ _ f2;refine(xct (t.kv hd.name) (Sum.inr c.1) rfl C.hd (xa2 (by omega)) (λv hv=>?_) (λhv=>?_))
    ·cases hg:getL (t.cs hd.name) c.1 with
     |none=>rw[(LsAt.val (c:=c.1) C.ls).1 hg]at hv;cases hv
     |some c4=>
      obtain⟨la,us,h1,h2,h3,h4,h5⟩:=C.there hg au am;rw[h1]at hv;cases hv;have cb:=bo c.1;refine(jAEA (.inl (jAE rfl _ (zC h3))) _ rfl (xbk c1 _ _ _ rfl rfl (zB bf) (I _) lt (xaj _ _ _ rfl rfl (zC be) at0 (xaj la us v1 rfl rfl h3 (xa2 (by omega)) ?_))));obtain⟨k1,k2⟩:=fin _ _ _ _ (λb o e n1 n2=>by rw[xai λq=>n2 (by rw[q];exact h2)];exact sE _ _ e) h5 λl hl=>.inl hl;exact(xda _ _ _ 1 rfl k1 (.inr (jAA rfl ar k2)))
    ·cases hg:getL (t.cs hd.name) c.1 with
     |some c4=>
      obtain⟨la,us,h1,_⟩:=C.there hg au am;rw[h1]at hv;cases hv
     | none=>
      have nL:e0 ∉t.L hd.name:=λq=>by
       obtain⟨us,h1⟩:=al.ls.there _ q;rw[ai]at h1;cases h1
      obtain⟨_,h5⟩:=C.first hg au a9 nL am;obtain⟨w1,w2,w3⟩:=xsy (kv':=putK (t.kv hd.name) (Sum.inr c.1) (.ref e0)) C.hd;refine(jAEA (.inl (jAE rfl _ (zC (w2 _ _ a9)))) _ rfl (xbk c1 _ _ _ rfl rfl (zB (w1 _ _ bf)) (I _) lt (xaj _ _ _ rfl rfl (zC (w2 _ _ be)) at0 (xaj e0 ([]) v1 rfl rfl (w2 _ _ a9) (xa2 (by decide)) ?_))))
      obtain⟨k1,k2⟩:=fin _ _ _ _ (λb o e n1 n2=>by rw[xai (neN e ai)];exact w3 _ _ n1 (sE _ _ e)) h5 λl hl=>by
       rcases zMA hl with q |q
       ·exact .inl q
       ·rw[zMO q];exact .inr ai
      exact(xda _ _ _ 1 rfl k1 (.inr (jAA rfl ar k2)))
   | send M x=>
    obtain rfl:M=c.1:=qC ec
    have bv:c.2.1=hd.name:=by
     obtain⟨ch,ac,e,e2,_⟩:=aq;rw[xb9 m.cnd a ac e.symm];exact e2
    have af:RelDs H3 uu (st.bt c.1++[wv mk.kinds (st.sd hd.name).2 x]):=by
     have:(st.go mk.kinds hd.name (.send c.1 x)).bt c.1=st.bt c.1++[wv mk.kinds (st.sd hd.name).2 x]:=xao;rw[<- this];exact g3
    obtain⟨ua,va,rfl,ra⟩:=xjc af;have az:=f3.length;have ay:=ra.length;have c8:(ua++[va]).length=ua.length+1:=by rw[zLA,List.length_singleton]
    refine(xd3 _ rfl _ rfl (.inr (xam c1 d1 c.1 lt lu (xba _ _ rfl rfl f1 g1 f2 (jAA g2 (by omega) (jEA _ rfl (iteT ?_)))))));refine(xa8 _ rfl _ _ rfl rfl ?_);have c5:atI [V.str c.1,.str c.2.1,.str c.2.2.1,.str c.2.2.2] 1=some (.str c.2.1):=xav (j:=1) rfl;have aw:atI [V.str c.1,.str c.2.1,.str c.2.2.1,.str c.2.2.2] 2=some (.str c.2.2.1):=xav (j:=2) rfl;have I:∀l,atI [V.str c.1,.ref l] 1=some (.ref l):=λl=>xav (j:=1) rfl;refine(xaa _ rfl b _ _ _ rfl rfl (zB ae) aw (xa0 _ rfl rfl _ rfl ?_));rcases Classical.em (c.2.2.1=hd.name) with Y |Y
    case' inl=>
     refine iteKT (zDT (congrArg V.str Y)) ?_;refine(xaa _ rfl d1 _ _ _ rfl rfl (zB g1) (I _) (xaa _ rfl c1 _ _ _ rfl rfl (zB f1) (I _) (xa8 _ rfl lt _ rfl (zC f2) (λsl ao=>?_))));have O:=zA ao (.lst (cutV ut (some 1) none));have a8:upd H3 sl (.lst (cutV ut (some 1) none)) sl=some (.lst (cutV ut (some 1) none)):=ups;refine .inr (xay lu sl _ _ rfl rfl (O _ _ g2) a8 (by have:=xgu ut (some 1) none;omega) (jEA _ rfl (iteF ?_)))
    case' inr=>
     refine iteKF (zDF λz=>Y (V.str.inj z)) (iteF ?_);have O:=Same.refl H3
    all_goals
     refine(xaa _ rfl b _ _ _ rfl rfl (zB (O _ _ ae)) c5 (xa0 _ rfl rfl _ rfl (xrv (congrArg V.str bv) ?_)));refine(xaa _ rfl d1 _ _ _ rfl rfl (zB (O _ _ g1)) (I _) (xb3 _ rfl _ rfl lu _ rfl (zC (O _ _ g2)) (λsm bp=>?_)));rw[xr7];have sM:=O.trans (zA bp (.lst ua));refine(xaa _ rfl c1 _ _ _ rfl rfl (zB (sM _ _ f1)) (I _) (jAA (xlm ups (sM _ _ f2) (ra.same sM _) (f3.same sM _) dp) (jEEA _ _ rfl rfl) (jEA _ rfl (iteF ?_))));exact(xda _ _ _ 1 rfl (bb (s3.trans sM)) (.inr (jAA rfl ar (jEAA t (ht.same (s3.trans sM)) rfl (λz _ l hl=>.inl hl)))))
   |_=>cases ec
  ·have eb:(st.go mk.kinds hd.name r).bt c.1=st.bt c.1:=by
    show r.btF mk.kinds (st.sd hd.name).2 st.bt c.1=_
    cases r with
    |take l M x=>exact xa3 λq=>ec (congrArg some q.symm)
    |send M x=>exact xa3 λq=>ec (congrArg some q.symm)
    |_=>rfl
   refine(xd3 _ rfl _ rfl (.inl (jAA (xm5 h2 h3 eb (λd ab=>xd2 m.wf (m.ckin c a) ((ok.cok c a).2 d ab))) (jEEA _ _ rfl rfl) (jEA _ rfl (iteF (xda _ _ _ k rfl Z ?_))))));rcases ak with⟨rfl,s2,no⟩ |⟨rfl,no,t',g1,g2,g3⟩
   ·refine .inl (jAA rfl (s2.trans sp) (λj M hj J=>?_))
    by_cases e:j=i
    ·subst e
     rw[hc]at J;cases J;exact ec
    ·exact no j M (by omega) J
   ·exact .inr (jAA rfl (λj M hj J=>no j M (by omega) J) (jEAA t' (g1.same sp) g2 g3))
 ·rintro σ H2 ⟨o6,o7,o9,k,rfl,fr,ak⟩
  refine bx _ _ (xa8 _ rfl _ _ rfl rfl ?_);rcases ak with⟨rfl,s2,no⟩ |⟨rfl,no,t',g1,g2,g3⟩
  ·have e:r.tk st.bt tk=tk:=by
    cases r with
    |take l c x=>
     obtain⟨ch,ac,rfl,_⟩:=aq;obtain⟨j,hj⟩:=List.getElem?_of_mem ac;exact absurd rfl (no j ch (by have:=(zES hj).1;omega) hj)
    |_=>rfl
   refine q t H2 fr ?_ rfl λz _ l hl=>.inl hl;show TkAt H2 D0 mk t (r.tk st.bt tk);rw[e];exact ht.same s2
  ·exact q t' H2 fr g1 g2 g3
theorem HSeen.frm{c H f:Hp}{mk:Mak}{s:HSt}{u:V}{hd:Hand}(h:HSeen c H mk s u hd)(a:∀b vs,H b=some (.tup vs)->f b=some (.tup vs))(k:∀b o,c b=none->H b=some o->f b=some o):HSeen c f mk s u hd:=by
 obtain⟨b,l,p,lt,j,x,w,r,n,m,i,g⟩:=h;exact(xaf b l p lt j x (a _ _ w) (r.keep a λo e=>k _ _ i e) (k _ _ g n) (m.tups a _) ⟨i,g⟩)
theorem xd7{H:Hp}{c a b:Addr}{o:HO}(e:xby (xby H c) a b=some o):b≠c/\b≠a/\H b=some o:=by
 unfold xby at e;by_cases f:b=a
 ·rw[if_pos f]at e;cases e
 ·rw[if_neg f]at e
  by_cases g:b=c
  ·rw[if_pos g]at e;cases e
  ·rw[if_neg g]at e;exact(jAA g f e)
theorem StateAt.frm{m H l:Hp}{t:Addr}{mk:Mak}{s:HSt}(h:StateAt m H t mk s)(w:∀b vs,H b=some (.tup vs)->l b=some (.tup vs))(k:∀b o,m b=none->H b=some o->l b=some o):StateAt m l t mk s:=by
 obtain⟨j,g,r,p,U,O,M,J,I,y,x,G,C⟩:=h.ey;have f:∀b vs,xby (xby H j) g b=some (.tup vs)->xby (xby l j) g b=some (.tup vs):=λb vs e=>xbz (xbz (w b vs (xd7 e).2.2) (xd7 e).1) (xd7 e).2.1;have z:∀b o,m b=none->xby (xby H j) g b=some o->xby (xby l j) g b=some o:=λb o n e=>xbz (xbz (k b o n (xd7 e).2.2) (xd7 e).1) (xd7 e).2.1;exact⟨j,(xaj g r p (w _ _ U) (k _ _ y O) (k _ _ x M) J (jAAA I y x ⟨λi u hd a b=>(G i u hd a b).frm f z,λi u c a b=>(C i u c a b).frm f z⟩))⟩
theorem TkAt.keepO{H c:Hp}{f:Addr}{mk:Mak}{t:TkA}{tk:Str->List D}(h:TkAt H f mk t tk)(g:∀b vs,H b=some (.tup vs)->c b=some (.tup vs))(k:∀b o,(b=f\/∃z∈hn mk,b=t.td z\/b∈t.L z)->H b=some o->c b=some o):TkAt c f mk t tk:=
 ⟨k _ _ (.inl rfl) h.h0,λz hz=>⟨k _ _ (.inr (jEA z hz (.inl rfl))) (h.hs z hz).hd,LsAt.keep g (λa i us e=>k _ _ (.inr (jEA z hz (.inr i))) e) (h.hs z hz).ls,(h.hs z hz).nd,(h.hs z hz).nm,(h.hs z hz).val,(h.hs z hz).Lnd⟩,h.inj,h.ne,h.dj⟩
theorem TkAt.in_{H:Hp}{a:Addr}{mk:Mak}{t:TkA}{tk:Str->List D}(h:TkAt H a mk t tk):∀b,(b=a\/∃z∈hn mk,b=t.td z\/b∈t.L z)->H b≠none:=by
 rintro b (rfl |⟨z,hz,rfl |c⟩) e
 ·rw[h.h0]at e;cases e
 ·rw[(h.hs z hz).hd]at e;cases e
 ·obtain⟨us,f⟩:=(h.hs z hz).ls.there b c
  rw[f]at e;cases e
theorem HsHere.in_{K:Fg}{H:Hp}{x:Addr}{c:V}{a:HsA}{s:HSt}{mk:Mak}{N:Nat}(h:HsHere K H x c a s mk N):∀b,a.F mk x b->H b≠none:=λb f e=>by
 obtain⟨o,g,_⟩:=h.at_.there b f;rw[g]at e;cases e
structure L36(K:Fg)(G:Hp)(x:Addr)(mv:V)(mk:Mak)(lw D0 tb:Addr)(ws:List V)(A:Hp)(a:HsA)(s:HSt)(t:TkA)(tk:Str->List D)(i:Nat):Prop where
 hs:HsHere K G x mv a s mk i
 ht:TkAt G D0 mk t tk
 tok:TkOk mk tk i
 tl:∀c,(tk c).length<=i
 run:LRun mk s tk
 ct:∀z∈hn mk,s.ct z<=i
 st:StateAt A G tb mk s
 old:∀b,(a.F mk x b\/b=D0\/∃z∈hn mk,b=t.td z\/b∈t.L z)->A b≠none
 dj:∀b,a.F mk x b->b≠lw/\¬(b=D0\/∃z∈hn mk,b=t.td z\/b∈t.L z)
 lwL:∀z∈hn mk,lw ∉t.L z
 hw:G lw=some (.lst ws)
theorem L36.house {K:Fg} {G c:Hp} {x:Addr} {r:V} {mk:Mak} {g j m:Addr} {ws:List V} {A:Hp} {a p:HsA} {s:HSt} {t:TkA} {tk:Str->List D} {i:Nat} (l:L36 K G x r mk g j m ws A a s t tk i) (f:HFr mk x a p G c) :
  TkAt c j mk t tk/\StateAt A c m mk s/\c g=some (.lst ws)/\∀b,p.F mk x b->b≠g/\¬(b=j\/∃z∈hn mk,b=t.td z\/b∈t.L z):=by
 refine(jAAA (l.ht.keepO f.tp λb o h e=>f.fr b o e λq=>(l.dj b q).2 h) (l.st.frm f.tp λb o n e=>f.fr b o e λq=>l.old b (.inl q) n) (f.fr _ _ l.hw λq=>(l.dj _ q).1 rfl) (λb h=>?_));rcases f.nw b h with q |q
 ·exact l.dj b q
 ·exact⟨λe=>(by rw[e,l.hw]at q;cases q),λe=>l.ht.in_ b e q⟩
theorem TkOk.step{mk:Mak}{s s':HSt}{tk:Str->List D}{i:Nat}{hd:Hand}{w:Option Row}(n:MakOk mk)(ok:HOk mk s i)(h:TkOk mk tk i)(b:Went mk s s' hd w):TkOk mk (wtk s tk w) (i+1):=by
 have base:TkOk mk tk (i+1):=λc j=>⟨Nat.le_succ_of_le (h c j).1,(h c j).2⟩
 cases w with
 |none=>exact base
 | some r=>
  obtain⟨_,m,_⟩:=b
  cases r with
  | take l c x=>
   intro ch a;show(upF tk c (tk c++[(s.bt c).headD (.int 0)]) ch.1).length<=i+1/\∀d∈upF tk c (tk c++[(s.bt c).headD (.int 0)]) ch.1,Vk mk.kinds ch.2.2.2 d;by_cases e:ch.1=c
   ·subst e
    rw[xao];have f:(s.bt ch.1).isEmpty=false:=m;refine⟨by rw[zLA,List.length_singleton];exact zI (h ch a).1,λd g=>?_⟩;rcases zMA g with q |q
    ·exact(h ch a).2 d q
    ·rw[zMO q]
     refine(ok.cok ch a).2 _ ?_
     cases o:s.bt ch.1 with
     |nil=>rw[o]at f;cases f
     |cons d ds=>exact List.mem_cons_self
   ·rw[xa3 e]
    exact base ch a
  |_=>exact base
theorem xux{s:HSt}{tk:Str->List D}{i:Nat}(h:∀c,(tk c).length<=i):∀(w:Option Row) c,(wtk s tk w c).length<=i+1
 |none,c=>Nat.le_succ_of_le (h c)
 | some (.take l a x),c=>by
  show(upF tk a _ c).length<=i+1;by_cases e:c=a
  ·subst e
   rw[xao,zLA];exact zI (h c)
  ·rw[xa3 e];exact Nat.le_succ_of_le (h c)
 |some (.send _ _),c=>Nat.le_succ_of_le (h c)
 |some (.set _ _),c=>Nat.le_succ_of_le (h c)
 |some (.tell _),c=>Nat.le_succ_of_le (h c)
 |some (.go _),c=>Nat.le_succ_of_le (h c)
 |some (.cond _ _),c=>Nat.le_succ_of_le (h c)
 |some .fin,c=>Nat.le_succ_of_le (h c)
structure Spo(B G2 G3 G4 H:Hp)(l1 l2:Addr)(i:Nat):Prop where
 tp:∀b vs,G4 b=some (.tup vs)->H b=some (.tup vs)
 k1:∀b o,G4 b=some o->(B b≠none\/G2 b=none\/G3 b=none\/b=l1\/b=l2)->H b=some o
 k2:∀b us,G4 b=some (.lst us)->∃us',H b=some (.lst us')/\us'.length<=us.length+i
 k3:∀b kv,G4 b=some (.dK kv)->∃kv',H b=some (.dK kv')
theorem xn9{B e c:Hp}{b a p:Addr}{o:HO}(j:B p=none)(i:e p=some o)(h:c p=some o)(g:p≠b)(f:p≠a):¬(B p≠none\/e p=none\/c p=none\/p=b\/p=a):=by
 rintro(q |q |q |q |q)
 ·exact q j
 ·rw[i]at q;cases q
 ·rw[h]at q;cases q
 ·exact g q
 ·exact f q
theorem Spo.chg{B s r f H:Hp}{m l:Addr}{i j:Nat}(h:Spo B s r f H m l i){p:Addr}{o:HO}(n:¬(B p≠none\/s p=none\/r p=none\/p=m\/p=l))(x:∀vs,f p≠some (.tup vs))(y:i<=j)(G:∀us,f p=some (.lst us)->∃a,o=.lst a/\a.length<=us.length+j)(C:∀g,f p=some (.dK g)->∃kv',o=.dK kv'):Spo B s r f (upd H p o) m l j:=by
 refine⟨λb vs e=>?_,λb u e q=>?_,λb us e=>?_,λb g e=>?_⟩
 ·rw[xai λz=>x vs (by rw[<- z];exact e)]
  exact h.tp b vs e
 ·rw[xai λz=>n (by rw[<- z];exact q)]
  exact h.k1 b u e q
 ·by_cases z:b=p
  ·subst z
   obtain⟨a,c,w⟩:=G us e;exact(jEA a (by rw[ups,c]) w)
  ·obtain⟨a,c,w⟩:=h.k2 b us e
   exact(jEA a (by rw[xai z];exact c) (by omega))
 ·by_cases z:b=p
  ·subst z
   obtain⟨kv',c⟩:=C g e;exact⟨kv',by rw[ups,c]⟩
  ·obtain⟨kv',c⟩:=h.k3 b g e
   exact⟨kv',by rw[xai z];exact c⟩
theorem L36.mid {K:Fg} {G u r p:Hp} {x:Addr} {w:V} {mk:Mak} {O Z M:Addr} {ws:List V} {A:Hp} {a C:HsA} {s s':HSt} {t:TkA} {tk:Str->List D} {i:Nat} {hd:Hand} (l:L36 K G x w mk O Z M ws A a s t tk i) (y:hd∈mk.hands)
  (f:HFr mk x a C G u) (Y:HsHere K u x w C s' mk (i+1)) (I:Same u r) (z:∀b o,r b=some o->b≠t.td hd.name->b ∉t.L hd.name->p b=some o):HsHere K p x w C s' mk (i+1)/\(∀b vs,r b=some (.tup vs)->p b=some (.tup vs))/\∀b o,u b=none->r b=some o->p b=some o:=by
 have c:hd.name∈hn mk:=qG y;obtain⟨g,_,U,m⟩:=l.house f;have j:=(g.same I).hs _ c;have h:∀b vs,r b=some (.tup vs)->p b=some (.tup vs):=λb vs e=>z b _ e (λq=>by rw[q,j.hd]at e;cases e) (j.lst e λus q=>by cases q);exact(jAA ((Y.same I).keep h λb J o e=>z b o e (λq=>(m b J).2 (.inr (jEA _ c (.inl q)))) λq=>(m b J).2 (.inr (jEA _ c (.inr q)))) h (λb o n e=>z b o e (λq=>g.in_ b (.inr (jEA _ c (.inl q))) n) λq=>g.in_ b (.inr (jEA _ c (.inr q))) n))
theorem L36.next {K:Fg} {G G1 Z u G4 G5:Hp} {x:Addr} {mv:V} {mk:Mak} {C D0 tb y l1 l2:Addr} {ws:List V} {A:Hp} {a Y:HsA} {s s':HSt} {t t':TkA} {tk:Str->List D} {i j:Nat} {hd:Hand} {w:Option Row} (l:L36 K G x mv mk C D0 tb ws A a s t tk i) (p:hd∈mk.hands)
  (f:HFr mk x a Y G G1) (c:Went mk s s' hd w) (M:HsHere K G1 x mv Y s' mk (i+1)) (U:Same G1 Z) (f3:∀b o,Z b=some o->b≠t.td hd.name->b ∉t.L hd.name->u b=some o) (t3:TkAt u D0 mk t' (wtk s tk w)) (O:t'.td=t.td) (nw:∀z∈hn mk,∀l∈t'.L z,l∈t.L z\/Z l=none)
  (q4:Same u G4) (a0:StateAt u G4 y mk s') (sp:Spo G1 Z u G4 G5 l1 l2 j):L36 K G5 x mv mk C D0 y ws u Y s' t' (wtk s tk w) (i+1):=by
 have J:hd.name∈hn mk:=qG p;obtain⟨h,_,g,a3⟩:=l.house f;obtain⟨I,a5,_⟩:=l.mid p f M U f3
 have a4:∀b,Y.F mk x b->b≠C/\¬(b=D0\/∃z∈hn mk,b=t'.td z\/b∈t'.L z):=λb m=>by
  obtain⟨d1,d2⟩:=a3 b m;refine⟨d1,?_⟩;rintro(q |⟨z,hz,q |q⟩)
  ·exact d2 (.inl q)
  ·exact d2 (.inr (jEA z hz (.inl (by rw[<- O];exact q))))
  ·rcases nw z hz b q with q |q
   ·exact d2 (.inr (jEA z hz (.inr q)))
   ·exact M.in_ b m (xae U q)
 have a1:C≠t.td hd.name:=λq=>by
  have:=(h.hs _ J).hd;rw[<- q,g]at this;cases this
 have a2:=f3 _ _ (U _ _ g) a1 (l.lwL _ J);refine⟨(I.same q4).keep sp.tp λb m o e=>sp.k1 b o e (.inl (M.in_ b m)),(t3.same q4).keepO sp.tp λb o m e=>sp.k1 b o e ?_,l.tok.step M.mok l.hs.ok c,xux l.tl w,?_,λz hz=>?_,a0.frm sp.tp λb o n e=>sp.k1 b o e (.inr (.inr (.inl n))),λb m=>?_,a4,λz hz q=>?_,sp.k1 _ _ (q4 _ _ a2) (.inl (by rw[g];simp))⟩
 ·rcases m with q |⟨z,hz,q |q⟩
  ·exact .inl (h.in_ b (.inl q))
  ·exact .inl (h.in_ b (.inr (jEA z hz (.inl (by rw[<- O];exact q)))))
  ·rcases nw z hz b q with q |q
   ·exact .inl (h.in_ b (.inr (jEA z hz (.inr q))))
   ·exact .inr (.inl q)
 ·cases w with
  |none=>obtain rfl:s'=s:=c;exact l.run
  |some r=>obtain⟨w1,w2,rfl⟩:=c;exact l.run.go M.mok p w1 w2
 ·by_cases e:z=hd.name
  ·subst e
   rw[c.own];have:=l.ct _ hz;split <;> omega
  ·rw[(c.oth e).2.2]
   exact Nat.le_succ_of_le (l.ct z hz)
 ·rcases m with q |q
  ·exact I.in_ b q
  ·exact t3.in_ b q
 ·rcases nw z hz C q with q |q
  ·exact l.lwL z hz q
  ·rw[U _ _ g]at q;cases q
def spLaw(K:Fg):Sp:=λvs H Q _=>∃(a:Addr) (ns:List Int),vs=[.ref a]/\SqL K H a (ns.map V.int)/\ns.length<=63/\∀H',Q (.bl true) H'
theorem xrp{ns:List Str}(nd:ns.Nodup){f:Str->V}{i:Nat}{z:Str}(hz:ns[i]?=some z):putK (mapK (ns.take i) f) (Sum.inr z) (f z)=mapK (ns.take (i+1)) f:=by
 unfold putK;rw[if_neg]
 ·rw[xdf hz]
  unfold mapK;rw[zAP];rfl
 ·intro h
  obtain⟨c,b,e⟩:=List.any_eq_true.mp h;obtain⟨y,a,rfl⟩:=zMP b;exact xfg nd hz y a (Sum.inr.inj (z0 e))
theorem xm4(a:List Str)(k:Nat)(h:a.length=26)(b:k<=26):cutV (a.map V.str) none (some (k:Int))=(a.take k).map V.str:=(xqi _ k).trans (List.map_take ..).symm
structure Tk0(H0 H:Hp)(d:Addr)(ns:List Str)(td:Str->Addr):Prop where
 sm:∀b o,H0 b=some o->b≠d->H b=some o
 hd:H d=some (.dK (mapK ns λz=>.ref (td z)))
 ht:∀z∈ns,H (td z)=some (.dK [])/\H0 (td z)=none
 ij:∀z∈ns,∀y∈ns,td z=td y->z=y
theorem Tk0.put{l H:Hp}{d e:Addr}{ns:List Str}{c:Str->Addr}{i:Nat}{z:Str}(nd:ns.Nodup)(hz:ns[i]?=some z)(h:Tk0 l H d (ns.take i) c)(h0:l d≠none)(j:H e=none):Tk0 l (upd (upd H e (.dK [])) d (.dK (putK (mapK (ns.take i) λz=>.ref (c z)) (Sum.inr z) (.ref e)))) d (ns.take (i+1)) (upF c z e):=by
 have G:e≠d:=λq=>by rw[q,h.hd]at j;cases j
 have I:l e=none:=by
  cases q:l e with
  |none=>rfl
  |some o=>rw[h.sm e o q G]at j;cases j
 have w:=xfg nd hz;have p:∀y∈ns.take i,c y≠d/\c y≠e:=λy a=>⟨λq=>h0 (by rw[<- q];exact(h.ht y a).2),λq=>by rw[<- q,(h.ht y a).1]at j;cases j⟩
 have u:∀y∈ns.take (i+1),y=z\/y≠z/\y∈ns.take i:=λy a=>by
  rw[xdf hz]at a;rcases zMA a with q |q
  ·exact .inr ⟨w y q,q⟩
  ·exact .inl (zMO q)
 refine⟨λb o q n=>?_,?_,λy a=>?_,λy a r s q=>?_⟩
 ·rw[xai n,xai (neN q I)]
  exact h.sm b o q n
 ·rw[ups,<- xrp nd hz,xfi (f:=λy=>V.ref (upF c z e y)) (g:=λy=>.ref (c y)) λy a=>by rw[xa3 (w y a)],xao]
 ·rcases u y a with rfl |⟨n,q⟩
  ·rw[xao]
   exact⟨by rw[xai G,ups],I⟩
  ·rw[xa3 n]
   exact⟨by rw[xai (p y q).1,xai (p y q).2];exact(h.ht y q).1,(h.ht y q).2⟩
 ·rcases u y a with rfl |⟨n,m⟩ <;> rcases u r s with rfl |⟨x,C⟩
  ·rfl
  ·rw[xao,xa3 x]at q
   exact absurd q.symm (p r C).2
  ·rw[xao,xa3 n]at q
   exact absurd q (p y m).2
  ·rw[xa3 n,xa3 x]at q
   exact h.ij y m r C q
theorem Tk0.tk{b H:Hp}{d:Addr}{mk:Mak}{a:Str->Addr}(h:Tk0 b H d (hn mk) a)(h0:b d≠none):TkAt H d mk ⟨a,λ_=>[],λ_=>[],λ_=>[]⟩ λ_=>[]:=
 ⟨h.hd,λz hz=>⟨(h.ht z hz).1,trivial,List.nodup_nil,(λ_ q=>nomatch q),(λ_ _=>rfl),List.nodup_nil⟩,h.ij,λz hz q=>h0 (by rw[<- q];exact(h.ht z hz).2),λ_ _ _ _ _ _ q=>nomatch q⟩
theorem xvz (T:Tx K mg) (Y:DefIs P w K mg base (n+2) "_law_names" qa9 xoa) (ae:DefIs P w K mg base (n+2) "_law_make" qa3 (xod K)) (y:DefIs P w K mg base (n+2) "_law_hands_of" qan xe1) (I:DefIs P w K mg base (n+2) "_law_weaving" qbf (xix K)) (m:DefIs P w K mg base (n+2) "_law_state" qa5 (xkw K)) (Z:DefIs P w K mg base (n+2) "_law_moved" qbg (xoc K)) (C:DefIs P w K mg base (n+2) "_law_lone_fits" qaj (xoh K))
  (a2:MethIs P w K mg base (n+1) (ad K "Plain") "__init__" qah [[]] (xk0 K)) (a0:MethIs P w K mg base (n+2) (ad K "Plain") "step" qab [[]] (xkz K)) :
  DefIs P w K mg base (n+3) "law" ["_law_script"] (spLaw K):=by
 refine DefIs.of T.kP sc_law (by walk_at"l") (λf ei A outer s H vs Q E hr h=>?_);obtain⟨a,ns,rfl,hS,co,k⟩:=h;have nd:=sc_law.nd;have hu:=xep hr;have d4:=xpx hr
 refine⟨_,(zpn (psn 1 nd (pd Y hr (pc (xe4 (pR xdu (xau (xah (K:=K) rfl) rfl T.kX zE (v1 0)) pI (nM _)) (xan xcn (pxl K (pv 0) pI) pI) pI) (pc pI pN so) xqu)))
   (zpn (xa6 (pR xbd (xan xcm (xan xcn (xau (xqm rfl) rfl T.k8 PyProof.Rows.boot_sum (pc (xcp xdh (pv 0) xdi (xcu pI)) pN ss)) pI) pI) pI (nM _)) (zpo (psn 1 nd (xan xes (xan xes (xan xes (xcp xdh (pv 1) xdi (xcu pI)) (xcp xdh (pv 1) xdi (xcu pI))) (xcp xdh (pv 1) xdi (xcu pI))) (xcp xdh (pv 1) xdi (xcu pI))))) pQ)
   (zpn (psn 2 nd (pd ae hr (va 0 (pc pI (v1 1) so))))
   (zpn (psn 3 nd (xjf (ds:=[]) (dvs:=[]) a2 T.uC hr T.uB (by simp) .nil (v1 2)))
   (zpn (psn 4 nd xh2)
   (zpn (xci zF rfl (xbm (K:=K) rfl (pd y hr (v1 2))) (pgn 5 nd)
   (zpo (xgd hu (pv 4) (pv 5) xh2 rfl)))
   (zpn (psn 6 nd (pd m hr (va 3 (va 2 (pc xe5 pN so)))))
   (zpn (psn 7 nd (xea xbd (xan xcm (xau (xah (K:=K) rfl) rfl T.kX zE (v1 0)) pI) pI (nM _)))
   (zpn (xci zF rfl (xbm (K:=K) rfl (xcp xdh (pd I hr (va 0 (pc pI (v1 2) so))) xdi (xcu pI))) (pgn 5 nd)
   (zpn (psn 8 nd (xcl a0 T.uC.cl hr (pv 3) (v1 5)))
   (zpn (psn 9 nd (pd m hr (va 3 (va 2 (v1 7)))))
   (zpn (psn 7 nd (xvq (pv 7)))
   (zpn (xa6 (PW.pt (xjd (xmi (xhb (xau xlw rfl T.kW PyProof.Rows.boot_isinstance (va 8 (pc (xvr T.kS PyProof.Rows.boot_bool) pN zsn))))) (xha (xmi (xhb (pd Z hr (va 6 (va 9 (va 2 (va 5 (va 8 (v1 4)))))))))))) (zpo (xag xe5)) pQ)
   (zpn (psn 6 nd (pd m hr (va 3 (va 2 (v1 7)))))
   (zpn (xci zF rfl (xbm (K:=K) rfl (px K (pv 9) pI)) (xbc (K:=K) rfl rfl (xad (pgn 10 nd) (xad (pgn 11 nd) (xad (pgn 12 nd) (xad (pgn 13 nd) xa9)))))
   (zpn (xb0 (xox (px K (pv 11) pI)))
   (zpo (xb0 (xdj zD zH zG xbn (pv 12) (pc pI pN so))))))
   (zpo (xci zF rfl (xbm (K:=K) rfl (px K (pv 9) pI)) (xbc (K:=K) rfl rfl (xad (pgn 14 nd) (xad (pgn 15 nd) xa9)))
   (zpo (xb0 (xdj zD zH zG xbn (pv 15) (pc pI pN so)))))))))))))
   (zpn (xa6 (pR (xfh d4) (pd m hr (va 3 (va 2 (pc xe5 pN so)))) (pv 6) (nM _)) (zpo (xag xe5)) pQ)
   (zpo (xag (xau (xsa rfl) rfl T.kR PyProof.Rows.boot_all (pc (xbj ["_law_h","_law_house","_law_make_here","_law_took"] [none,some 3,some 2,some 4] rfl (by kernel_rfl) (xbm (K:=K) rfl (pd y hr (v1 2))) (λ_ _ _ _=>(pgc 0)) (λ_ _ _ _=>xbp) (λ_ _ _ _=>(pd C hr (va 1 (va 2 (va 0 (v1 3))))))) pN xb2)))))))))))))),xab λR1 ec=>?_⟩
 have K1:∀b H1 g,Same H H1->H1 b=some (.lst (g.map V.str))->xnz g->(∀z∈g,NoBy z)->R1 [some (.ref a),some (.ref b),none,none,none,none,none,none,none,none,none,none,none,none,none,none] H1:=by
  intro b H1 g s1 hb U ac;refine ec _ _ (xab λR2 eb=>?_)
  have K2:∀(nb:Addr) (g:List Str) (H3:Hp),Same H H3->H3 nb=some (.lst (g.map V.str))->NmsR g->(∀z∈g,NoBy z)->R2 [some (.ref a),some (.ref nb),none,none,none,none,none,none,none,none,none,none,none,none,none,none] H3:=by
   intro nb g H1 s1 hb nr ac;refine eb _ _ (xab λR3 ea=>?_);refine(xap _ rfl _ rfl a nb ns (xct 1 g rfl (s1.seq hS) co ⟨hb,nr,ac⟩ (λJ mk H2 s2 md aq d9 bp=>ea _ _ (xab λR4 e9=>?_))));have ca:=s1.trans s2;have h4:=aq.hfew;have d8:((hn mk).map V.str).length=mk.hands.length:=by rw[zLM,zLM]
   clear hb ac s1 s2;refine(jEA _ rfl (λx dx hx bq ne=>?_));refine(xak x dx J mk rfl ups (md.same (show Same H2 _ from(zA bq _).trans (zA (by rw[xai (Ne.symm ne)];exact hx) _)) _) aq (λa1 H3 c0 ed O=>⟨rfl,e9 _ _ (xab λR5 e8=>?_)⟩));obtain⟨c2,cw⟩:=xpd hx bq c0;have bf:=ca.trans c2;clear c0 ed cw hx bq ne c2 ca md;refine λd hd=>e8 _ _ (xab λR6 e0=>?_);have bb:=zA hd (.dK []);have b3:upd H3 d (.dK []) d=some (.dK []):=ups;have bg:¬a1.F mk x d:=λh=>O.in_ d h hd;have d0:H d=none:=xae bf hd;have b2:=O.same bb;have be:=bf.trans bb;generalize upd H3 d (.dK [])=H4 at b3 b2 be⊢;clear bb hd O bf;refine(xa8 _ rfl J mk rfl b2.md ⟨h4,λhl aj=>?_⟩);have sl:=zA aj (.lst ((hn mk).map V.str));have ai:upd H4 hl (.lst ((hn mk).map V.str)) hl=some (.lst ((hn mk).map V.str)):=ups;have ck:hl≠d:=λz=>by rw[z,b3]at aj;cases aj
   have au:=sl _ _ b3;have b1:=b2.same sl;have bd:=be.trans sl;generalize upd H4 hl (.lst ((hn mk).map V.str))=H5 at ai au b1 bd⊢;clear sl aj b2 be b3;have d5:H5 d≠none:=by rw[au];simp
   refine(jEAA hl rfl ⟨_,zC ai⟩ ?_);refine xd5 (xs:=(hn mk).map V.str) (λi σ H'=>∃(o5:Option V) (td:Str->Addr),σ=[some (.ref a),some (.ref nb),some J,some (.ref x),some (.ref d),o5,none,none,none,none,none,none,none,none,none,none]/\Tk0 H5 H' d ((hn mk).take i) td) (jEEA none (λ_=>0) rfl ⟨λ_ _ e _=>e,by rw[List.take_zero];exact au,(λ_ h=>nomatch h),(λ_ h=>nomatch h)⟩) (λi σ H' _ p=>by obtain⟨_,_,_,e⟩:=p;exact zC (e.sm _ _ ai ck)) ?_ ?_
   ·rintro i v σ H' hv ⟨o5,td,rfl,t0⟩
    have hi:=(zES hv).1;rw[zGM]at hv;obtain⟨z,hz,rfl⟩:=zMS hv;refine λe he=>(xb3 _ rfl _ rfl d _ rfl (DPut.k (k:=Sum.inr z) (zA he _ _ _ t0.hd) (xa2 (by rw[xmr,List.length_take];omega))) ?_);exact(jEEA _ _ rfl (t0.put aq.hnd hz d5 he))
   rintro σ H6 ⟨o5,td,rfl,t0⟩;rw[d8,zTL (show(hn mk).length<=mk.hands.length by rw[zLM];exact zZ _)]at t0;refine e0 _ _ (xab λR7 dz=>?_);have bj:=t0.tk d5;have c7:Same H H6:=λc o e=>t0.sm c o (bd c o e) (neN e d0);have bv:∀c vs,H5 c=some (.tup vs)->H6 c=some (.tup vs):=λc vs e=>t0.sm c _ e λz=>by rw[z,au]at e;cases e
   have b0:HsHere K H6 x J a1 (hs0 mk) mk 0:=b1.keep bv λc hc u e=>t0.sm c u e λz=>bg (by rw[<- z];exact hc)
   have cq:∀b,a1.F mk x b->¬(b=d\/∃z∈hn mk,b=td z\/b∈([]:List Addr)):=by
    rintro b hb (q |⟨z,hz,q |q⟩)
    ·exact bg (by rw[<- q];exact hb)
    ·exact b1.in_ b hb (by rw[q];exact(t0.ht z hz).2)
    ·cases q
   clear t0 b1 bd bv ai au d5 ck;refine(xap _ rfl _ rfl x J false (xda a1 (hs0 mk) mk 0 rfl b0 (λtb H7 s7 bw=>dz _ _ (xab λR8 dy=>?_))));have bc:=c7.trans s7;have az:=b0.same s7;have ce:=bj.same s7
   have b5:∀b,(a1.F mk x b\/b=d\/∃z∈hn mk,b=td z\/b∈([]:List Addr))->H6 b≠none:=by
    rintro b (q |q)
    ·exact b0.in_ b q
    ·exact bj.in_ b q
   clear b0 bj s7 c7
   have K8:∀ab:Bool,R8 [some (.ref a),some (.ref nb),some J,some (.ref x),some (.ref d),o5,some (.ref tb),some (.bl ab),none,none,none,none,none,none,none,none] H7:=by
    intro ab;refine dy _ _ (xab λR9 dw=>?_);refine(xap _ rfl _ rfl a ns 7 (xba J mk rfl (bc.seq hS) co az.md h4 (jAA d9 (by decide) (λl0 al H8 s8 dc b8 b6 cd=>?_))));refine(xa8 _ rfl l0 _ rfl (zC b8) (λlw bn=>?_));rw[show cutV (al.map V.str) none (some (200:Int))=(al.take 200).map V.str from(xqi _ 200).trans (List.map_take ..).symm]at *
    have cy:∀z∈al.take 200,z∈hn mk:=λz hz=>b6 z (qN hz);have eg:(al.take 200).length<=200:=List.length_take_le ..;generalize al.take 200=ws at *
    have sW:=s8.trans (zA bn (.lst (ws.map V.str)))
    have l9:L36 K (upd H8 lw (.lst (ws.map V.str))) x J mk lw d tb (ws.map V.str) H6 a1 (hs0 mk) ⟨td,λ_=>[],λ_=>[],λ_=>[]⟩ (λ_=>[]) 0:=by
     have db:=xae s8 bn;exact⟨az.same sW,ce.same sW,(λc hc=>⟨zZ _,λ_ h=>nomatch h⟩),(λc=>zZ _),xxg mk,(λz hz=>zZ _),bw.same sW,b5,(λb hb=>⟨λq=>az.in_ b hb (by rw[q];exact db),cq b hb⟩),(λz hz h=>nomatch h),ups⟩
    generalize upd H8 lw (.lst (ws.map V.str))=H9 at l9⊢;clear sW b6 cd b8 dc bn s8 ce bw az b5 cq bg bc d0;refine(jEAA lw rfl ⟨_,zC l9.hw⟩ ?_);have ef:(ws.map V.str).length=ws.length:=zLM ..;refine xd5 (xs:=ws.map V.str) (λi σ G=>∃(tb:Addr) (ab:Bool) (o5 o8 o9 a8 a7 a6 a5 a4 a3:Option V) (A:Hp) (a1:HsA) (s:HSt) (t:TkA) (tk:Str->List M.D),σ=[some (.ref a),some (.ref nb),some J,some (.ref x),some (.ref d),o5,some (.ref tb),some (.bl ab),o8,o9,a8,a7,a6,a5,a4,a3]/\L36 K G x J mk lw d tb (ws.map V.str) A a1 s t tk i) (xam tb ab _ none none (xam none none none none none (xam none H6 a1 _ _ (jEA _ rfl l9)))) (λi σ G _ p=>by obtain⟨_,_,_,_,_,_,_,_,_,_,_,_,_,_,_,_,_,l⟩:=p;exact zC l.hw) ?_ ?_
    ·clear l9
     rintro i v σ G hv ⟨tb,ab,o5,o8,o9,a8,a7,a6,a5,a4,a3,A,a1,s,t,tk,rfl,l⟩;have hi:=(zES hv).1;rw[zGM]at hv;obtain⟨z,hz,rfl⟩:=zMS hv;obtain⟨hd,aa,rfl⟩:=zMP (cy z (zMG hz));have d7:hd.name∈hn mk:=qG aa;obtain⟨fs,hx,lf⟩:=l.hs.at_.ob;obtain⟨r,b7⟩:=l.hs.row aa;refine xab λS1 dv=>?_
     have KS:∀w a' s' G1,Went mk s s' hd w->HFr mk x a1 a' G G1->HsHere K G1 x J a' s' mk (i+1)->S1 [some (.ref a),some (.ref nb),some J,some (.ref x),some (.ref d),some (.str hd.name),some (.ref tb),some (.bl ab),some (.bl w.isSome),o9,a8,a7,a6,a5,a4,a3] G1:=by
      intro w a' s' G1 am f1 h1;refine dv _ _ (xab λS2 du=>?_);obtain⟨bm,b4,cz,ee⟩:=l.house f1;refine(xbw _ rfl _ rfl _ rfl x J (xam ab a' s' mk _ (jAA rfl h1 (λta G2 q2 ao=>du _ _ (xab λS3 dt=>?_)))));refine(xd3 _ rfl _ rfl (dt _ _ (xab λS4 dr=>?_)));refine(xa4 _ rfl _ _ _ _ (xbf _ rfl (λu ah=>ah) (TyOf.bl _) rfl (jEA _ rfl (iteF ?_))));refine(xax _ rfl _ rfl _ rfl _ rfl _ rfl (xa4 _ rfl tb ta J hd (xam d A G1 s s' (xaf mk i t tk w rfl ((h1.same q2).md) aq aa l.hs.ok (jAAA (by omega) (b4.same q2) ao (jAAA am (bm.same q2) (λc=>zY (l.tl c) (by omega)) ⟨?_,λt' G3 f3 t3 cp nw=>(jEA _ rfl (iteF (dr _ _ (xab λS5 dq=>?_))))⟩))))))
      ·rintro b q
       have q':b=d\/∃z∈hn mk,b=t.td z\/b∈t.L z:=.inr (jEA _ d7 q);exact⟨l.old b (.inr q'),bm.in_ b q'⟩
      obtain⟨O,cr,ay⟩:=l.mid aa f1 h1 q2 f3;refine⟨_,rfl,_,rfl,_,rfl,x,J,!ab,a',s',mk,_,rfl,O,λax G4 q4 bx=>dq _ _ (xab λS6 dn=>?_)⟩;have cb:∀{G5:Hp} {l1 l2:Addr} {j:Nat},Spo G1 G2 G3 G4 G5 l1 l2 j->L36 K G5 x J mk lw d ax (ws.map V.str) G3 a' s' t' (wtk s tk w) (i+1):=λsp=>l.next aa f1 am h1 q2 f3 t3 cp nw q4 bx sp;obtain⟨l1,l2,bu,bt,e1,e2,e3,e4,e5,n1,n2,e6,e7⟩:=ao.ey;have an:∀b vs,G2 b=some (.tup vs)->G4 b=some (.tup vs):=λb vs e=>q4 _ _ (cr b vs e);have ag:∀b o,G1 b=none->G2 b=some o->G4 b=some o:=λb o n e=>q4 _ _ (ay b o n e);have c4:=O.mok.cfew;have U:=h1.ok;clear bx q4 t3 nw cp O ao b4 bm ee cz f3 am f1 l;refine(xaa _ rfl ta _ _ _ rfl rfl (zB (an _ _ e1)) rfl (jEAA l1 rfl ⟨_,zC (ag _ _ n1 e2)⟩ ?_));refine xd5 (xs:=bu) (λj σ H'=>∃(a8 a7 a6 a5:Option V),σ=[some (.ref a),some (.ref nb),some J,some (.ref x),some (.ref d),some (.str hd.name),some (.ref ax),some (.bl !ab),some (.bl w.isSome),some (.ref ta),a8,a7,a6,a5,a4,a3]/\Spo G1 G2 G3 G4 H' l1 l2 j) (jEEE _ _ _ (jEA _ rfl ⟨λ_ _ e=>e,λ_ _ e _=>e,λ_ us e=>(jEA us e (zZ _)),λ_ kv e=>⟨kv,e⟩⟩)) (λj σ H' _ p=>by obtain⟨_,_,_,_,_,sp⟩:=p;exact zC (sp.k1 _ _ (ag _ _ n1 e2) (.inr (.inr (.inr (.inl rfl)))))) ?_ ?_
      ·rintro j u σ H' ah ⟨a8,a7,a6,a5,rfl,sp⟩
       have hj:=(zES ah).1;have hh:mk.hands[j]?=some (mk.hands[j]'(by omega)):=zGA _;obtain⟨b,sa,p,lt,ut,rfl,g1,⟨g2,kb,ak,_⟩,g3,g4,m1,m2⟩:=e6 j u _ ah hh;have af:=zMG hh;generalize mk.hands[j]=h2 at hh g1 g2 g4 af;have g1:=(xd7 g1).2.2;have g2:=(xd7 g2).2.2;obtain⟨p1,p2,ak⟩:=xd7 ak;obtain⟨bi,bh,g3⟩:=xd7 g3;have cx:=g4.length;have tok:=(U.tok h2 af).1;refine(xaw b _ rfl (zB (sp.tp _ _ (an _ _ g1))) rfl _ _ rfl _ (jEA _ rfl (jEEA _ _ rfl (xaq _ _ rfl rfl (xab λU1 dm=>?_)))));obtain⟨kv',hp⟩:=sp.k3 _ _ (ag _ _ m1 ak);have p4:=ag _ _ m1 ak;refine(xaa _ rfl sa _ _ _ rfl rfl (zB (sp.tp _ _ (an _ _ g2))) rfl (xaq p kv' rfl hp (dm _ _ ?_)));have bz:Spo G1 G2 G3 G4 (upd H' p (.dK [])) l1 l2 j:=sp.chg (xn9 m1 ak (ay _ _ m1 ak) p1 p2) (λvs q=>by rw[p4]at q;cases q) (zZ _) (λus q=>by rw[p4]at q;cases q) λkv q=>⟨_,rfl⟩;have a9:=ag _ _ m2 g3;obtain⟨b9,ar,cj⟩:=bz.k2 _ _ a9;refine(jEAA _ rfl (.inl (jAE rfl _ (zC ar))) (xaj lt b9 (.int 3) rfl rfl ar (xa2 (by omega)) ?_));exact(jEEE _ _ _ (jEA _ rfl (bz.chg (xn9 m2 g3 (ay _ _ m2 g3) bi bh) (λvs q=>by rw[a9]at q;cases q) (Nat.le_succ _) (λus q=>by rw[a9]at q;cases q;exact(jEA _ rfl (by rw[zLA,List.length_singleton];omega))) λkv q=>by rw[a9]at q;cases q)))
      rintro σ H5 ⟨a8,a7,a6,a5,rfl,ba⟩;refine dn _ _ ?_;have cc:∀{H':Hp} {j:Nat},Spo G1 G2 G3 G4 H' l1 l2 j->H' l2=some (.lst bt):=λsp=>sp.k1 _ _ (ag _ _ n2 e3) (.inr (.inr (.inr (.inr rfl))));refine(xaa _ rfl ta _ _ _ rfl rfl (zB (ba.tp _ _ (an _ _ e1))) rfl (jEAA l2 rfl ⟨_,zC (cc ba)⟩ ?_));refine xd5 (xs:=bt) (λj σ H'=>∃(a4 a3:Option V),σ=[some (.ref a),some (.ref nb),some J,some (.ref x),some (.ref d),some (.str hd.name),some (.ref ax),some (.bl !ab),some (.bl w.isSome),some (.ref ta),a8,a7,a6,a5,a4,a3]/\Spo G1 G2 G3 G4 H' l1 l2 (bu.length+j)) (jEEA _ _ rfl ba) (λj σ H' _ p=>by obtain⟨_,_,_,sp⟩:=p;exact zC (cc sp)) ?_ ?_
      ·rintro j u σ H' ah ⟨a4,a3,rfl,sp⟩
       have hj:=(zES ah).1;have hh:mk.chans[j]?=some (mk.chans[j]'(by omega)):=zGA _;obtain⟨b,lt,ut,rfl,g1,g3,g4,m2⟩:=e7 j u _ ah hh;have af:=zMG hh;generalize mk.chans[j]=ch at hh g1 g4 af;have g1:=(xd7 g1).2.2;obtain⟨bi,bh,g3⟩:=xd7 g3;have cx:=g4.length;have tok:=(U.cok ch af).1;have a9:=ag _ _ m2 g3;obtain⟨b9,ar,cj⟩:=sp.k2 _ _ a9;refine(xaw b _ rfl (zB (sp.tp _ _ (an _ _ g1))) rfl _ _ rfl _ (jEAA _ rfl rfl ?_));refine(jEAA _ rfl (.inl (jAE rfl _ (zC ar))) (xaj lt b9 (.int 4) rfl rfl ar (xa2 (by omega)) ?_));exact(jEEA _ _ rfl (sp.chg (xn9 m2 g3 (ay _ _ m2 g3) bi bh) (λvs q=>by rw[a9]at q;cases q) (by omega) (λus q=>by rw[a9]at q;cases q;exact(jEA _ rfl (by rw[zLA,List.length_singleton];omega))) λkv q=>by rw[a9]at q;cases q))
      ·rintro σ H6 ⟨a4,a3,rfl,sp⟩
       exact⟨ax,!ab,_,_,_,_,_,_,_,_,_,G3,a',s',t',_,rfl,cb sp⟩
     refine(xbl _ rfl x _ fs rfl hx (lf.no _ (by walk_at"k")) _ rfl (xam x J a1 s mk (xaj i hd r rfl l.hs aa b7 (jAA (by omega) (λsh=>?_) (λsh a' G1 f1 h1=>?_)))))
     ·exact KS none a1 s G rfl HFr.refl (l.hs.mono (Nat.le_succ _))
     ·exact KS (some r) a' _ G1 (jAA b7 sh rfl) f1 h1
    ·rintro σ G ⟨tb,ab,o5,o8,o9,a8,a7,a6,a5,a4,a3,A,a1,s,t,tk,rfl,l⟩
     refine dw _ _ (xab λej cm=>?_);refine(xap _ rfl _ rfl x J false (xda a1 s mk _ rfl l.hs (λt2 G2 q2 ao=>?_)));refine(xbr _ rfl (xl5 ao (l.st.same q2) aq l.hs.ok) (jEEA _ _ rfl rfl) (jEA _ rfl (iteF (cm _ _ ?_))));have cg:=l.hs.same q2;have d6:=l.ht.same q2;refine(xa8 _ rfl J mk rfl cg.md ⟨h4,λhl aj=>?_⟩);have sl:=zA aj (.lst ((hn mk).map V.str));have bo:upd G2 hl (.lst ((hn mk).map V.str)) hl=some (.lst ((hn mk).map V.str)):=ups;have O:=cg.same sl;have cf:=d6.same sl;generalize upd G2 hl (.lst ((hn mk).map V.str))=G3 at bo O cf⊢;refine(jEAA hl rfl ⟨_,zC bo⟩ ?_);refine xgv (xs:=(hn mk).map V.str) (j:=0) (λi ys H'=>Same G3 H'/\∃bs:List Bool,ys=bs.map V.bl/\bs.all id=true) (by rfl) (jAEA (Same.refl _) ([]) rfl rfl) (xa2 (by omega)) (λi ys H' _ p=>zC (p.1 _ _ bo)) ?_ ?_
     ·rintro i v ys H' hv ci ⟨sm,bs,rfl,br⟩
      have hi:=(zES hv).1;rw[zGM,zGM]at hv;obtain⟨z,hz,rfl⟩:=zMS hv;obtain⟨hd,dd,rfl⟩:=zMS hz;have aa:=zMG dd;have eh:=l.ct hd.name (qG aa);refine(xcz _ rfl _ rfl _ rfl _ rfl x (xam J hd d a1 s (xce mk _ t tk rfl (O.same sm) (cf.same sm) aa (λc hc=>(bp c hc).2) (by omega) (jAAA (λc=>zY (l.tl c) (by omega)) l.tok l.run ⟨(by omega),λek cv=>nxt hi ci (jAEA (sm.trans cv) (bs++[true]) (by rw[zAP];rfl) (by rw[List.all_append,br];rfl))⟩))))
     ·rintro ys H' ci ⟨sm,bs,rfl,br⟩ D hD
      refine(xaq D bs rfl (zC ups) ?_);rw[br];exact k _
   exact(xbv _ rfl a _ rfl (.inl (bc.seq hS)) _ _ rfl rfl (jAA (by show(0:Int)<2;decide) rfl (K8 _)))
  have aw:=U.1;refine(xb3 _ rfl _ rfl a _ rfl (s1.seq hS) (λn1 da=>?_));rw[show cutV (ns.map V.int) none (some (1:Int))=(ns.take 1).map V.int from(xqi _ 1).trans (List.map_take ..).symm]at *
  have s3:=zA da (.lst ((ns.take 1).map V.int));have av:=s3 _ _ hb;refine(xaq n1 (ns.take 1) rfl (zC ups) (xb5 _ _ rfl rfl ⟨by decide,by decide⟩ (xct _ _ rfl rfl (by show(0:Int)<8;decide) rfl (jEA _ rfl (ite2 (λc1=>?_) (λc1=>K2 b g _ (s1.trans s3) av (NmsR.of U) ac))))));have tl:∀k,k<=26->((g.take k).map V.str).length=k:=λk hk=>by rw[zLM,List.length_take,aw];omega
  refine(xb3 _ rfl _ rfl b _ rfl (zC av) (λc8 di=>?_));rw[show cutV (g.map V.str) none (some 8)=_ from xm4 g 8 aw (by decide)];have y1:=zA di (.lst ((g.take 8).map V.str));refine(xb3 _ rfl _ rfl b _ rfl (zC (y1 _ _ av)) (λc4 dk=>?_));rw[show cutV (g.map V.str) none (some 4)=_ from xm4 g 4 aw (by decide)];have y2:=zA dk (.lst ((g.take 4).map V.str));refine(xay c8 c4 _ _ rfl rfl (y2 _ _ ups) ups (fits (by rw[tl 8 (by decide),tl 4 (by decide)];decide)) (λd1 dg=>?_));have y3:=zA dg (.lst ((g.take 8).map V.str++(g.take 4).map V.str));have c5:=y1.trans (y2.trans y3);refine(xb3 _ rfl _ rfl b _ rfl (zC (c5 _ _ av)) (λc6 dj=>?_));rw[show cutV (g.map V.str) none (some 6)=_ from xm4 g 6 aw (by decide)];have y4:=zA dj (.lst ((g.take 6).map V.str));refine(xay d1 c6 _ _ rfl rfl (y4 _ _ ups) ups (fits (by rw[zLA,tl 8 (by decide),tl 4 (by decide),tl 6 (by decide)];decide)) (λd2 df=>?_));have y5:=zA df (.lst ((g.take 8).map V.str++(g.take 4).map V.str++(g.take 6).map V.str));have c3:=c5.trans (y4.trans y5);refine(xb3 _ rfl _ rfl b _ rfl (zC (c3 _ _ av)) (λc9 dh=>?_));rw[show cutV (g.map V.str) none (some 8)=_ from xm4 g 8 aw (by decide)];have y6:=zA dh (.lst ((g.take 8).map V.str));refine(xay d2 c9 _ _ rfl rfl (y6 _ _ ups) ups (fits (by rw[zLA,zLA,tl 8 (by decide),tl 4 (by decide),tl 6 (by decide)];decide)) (λd3 de=>?_))
  have y7:=zA de (.lst ((g.take 8).map V.str++(g.take 4).map V.str++(g.take 6).map V.str++(g.take 8).map V.str));have cu:=c3.trans (y6.trans y7);refine K2 d3 (g.take 8++g.take 4++g.take 6++g.take 8) _ ((s1.trans s3).trans cu) ?_ (NmsR.cut U) λz hz=>?_
  ·rw[zAP,zAP,zAP]
   exact ups
  ·have:z∈g:=by
    simp only[List.mem_append]at hz;rcases hz with((hz |hz) |hz) |hz <;> exact qN hz
   exact ac z this
 refine(xbv _ rfl a _ rfl (.inl hS) _ _ rfl rfl (jEA _ rfl (ite2 (λc1=>?_) (λc1=>?_))))
 ·cases ns with
  |nil=>exact absurd (z0 c1) (by decide)
  |cons n0 ns=>
   refine(xaa _ rfl a _ _ _ rfl rfl hS (xav (j:=0) rfl) (xb5 _ _ rfl rfl ⟨by decide,by decide⟩ (jEA _ rfl (λb H1 g s1 dl hb U ac=>K1 b H1 g s1 hb U λz hz=>(ac z hz).1))))
 ·exact(jEA _ rfl (λb H1 g s1 dl hb U ac=>K1 b H1 g s1 hb U λz hz=>(ac z hz).1))
theorem law_is(T:Tx K a):DefIs P w K a base 100 "law" ["_law_script"] (spLaw K):=by
 have take:∀k,DefIs P w K a base (k+1) "_law_take" qae xc2:=λk=>xh3 T;have size:DefIs P w K a base 28 "_law_size" qad (xg9 6):=(xon T 6 (by omega)).mono (by omega);have r:DefIs P w K a base 30 "_law_parts" qaz xkx:=xo3 T (take 28) (size.mono (by omega));have o:∀k,DefIs P w K a base (k+2) "_law_any_kind" qam xqx:=λk=>xjm T (take k);have c:DefIs P w K a base 45 "worth" qaf (xdg (λks=>Ev ks 21) 6):=xl1 T 21 6 (by omega);have b:∀k,DefIs P w K a base (k+2) "hand_of" qac xfz:=λk=>xnm (n:=k+1) T (xrf T);have f:∀k,DefIs P w K a base (k+3) "row_at" qal xho:=λk=>xpb (n:=k+2) T (b k);have g:DefIs P w K a base 50 "stride" qax xhn:=xpa (n:=49) T (f 46) (xh6 (n:=48) T (xlf T) (c.mono (by omega))) (xgf (n:=48) T (xsq T) (c.mono (by omega)));have m:DefIs P w K a base 51 "done" qar xmb:=xt0 (n:=50) T (f 47) g (xge T) (c.mono (by omega));have step:∀k,52<=k->MethIs P w K a base k (ad K "Plain") "step" qab [[]] (xkz K):=λk M=>(xh8 (n:=51) T m).mono M;have e:∀k,MethIs P w K a base (k+2) (ad K "Plain") "stand" qab [[]] (xfy K):=λk=>xg4 (n:=k+1) T (xeb T);have init:MethIs P w K a base 98 (ad K "Plain") "__init__" qah [[]] (xk0 K):=xh9 (n:=97) T (xic (n:=96) T (xgg (n:=95) T (b 93) ((xgh T 6).mono (by omega))));have I:∀k,DefIs P w K a base (k+1) "_law_hands_of" qan xe1:=λk=>xjk T;have p:∀k,DefIs P w K a base (k+3) "_law_state" qa5 (xkw K):=λk=>xo2 (n:=k+2) T (I (k+1)) (e k) (xe6 T) (xd6 T) (xet T)
 have j:DefIs P w K a base 80 "_law_new_term" qak xi0:=xlh T;have l:∀k,DefIs P w K a base (k+1) "_law_into" qat xl9:=λk=>xrb T;have J:DefIs P w K a base 81 "_law_deal" qa1 xok:=xrc (n:=80) T (take 79) (l 79) j;have G:DefIs P w K a base 82 "_law_rows" qa2 xtf:=xq9 (n:=81) T (take 80) (l 80) (j.mono (by omega)) J;have z:DefIs P w K a base 83 "_law_hands" qa4 (xk4 K):=xo7 (n:=82) T (xh5 T) (xo8 (n:=81) T (take 80) (o 79)) G;have make:DefIs P w K a base 84 "_law_make" qa3 (xod K):=xra (n:=83) T (xh5 T) (take 82) ((xo6 T (take 29) r).mono (by omega)) (xjl (n:=82) T (take 81) (o 80)) z;have s:∀k,52<=k->MethIs P w K a base k (ad K "Lone") "step" qaa [[]] (xk2 K):=λk M=>(xjp (n:=51) T m).mono M;have i:∀k,MethIs P w K a base (k+2) (ad K "Lone") "stand" qaa [[]] (xhs K):=λk=>xia (n:=k+1) T (xeb T);have u:∀k,MethIs P w K a base (k+2) (ad K "Lone") "sent" qaa [[]] (xeg K LSt.goi):=λk=>xjq (n:=k+1) T (xfn T);have x:∀k,MethIs P w K a base (k+2) (ad K "Lone") "left" qaa [[]] (xeg K LSt.com):=λk=>xjr (n:=k+1) T (xfn T);have y:MethIs P w K a base 97 (ad K "Lone") "__init__" qao [[.none],[]] (xk3 K):=xjs (n:=96) T (xgg (n:=95) T (b 93) ((xgh T 6).mono (by omega))) (xeb T) (xg3 T) (xfu T);have C:DefIs P w K a base 99 "_law_lone_fits" qaj (xoh K):=xh4 (n:=97) T (xq8 (n:=97) T (xd6 T)) (e 96) (xe6 T) (xet T) y (s 98 (by omega)) (i 96) (xjo T) (u 96) (x 96) (xib T)
 exact xvz (n:=97) T (xo4 T) (make.mono (by omega)) (I 98) (xld (n:=98) T (xh5 T) (take 97)) (p 96) (xo5 T) C init (step 99 (by omega))
end
end K36
end
end
namespace PySem.W.Fast
theorem tw2718547617531624234:0=0:=rfl
theorem tw12688899303998103341:0=0:=rfl
theorem tw10080661308554752680:0=0:=rfl
theorem tw12722359886472629979:0=0:=rfl
theorem tw3794584728868760630:0=0:=rfl
theorem tw11390346976298341616:0=0:=rfl
theorem tw4275153296713858554:0=0:=rfl
theorem tw7653661626240225373:0=0:=rfl
theorem tw11218552811447852898:0=0:=rfl
theorem tw6643844213905143667:0=0:=rfl
theorem tw17278243970982355103:0=0:=rfl
theorem tw18056691726505883597:0=0:=rfl
theorem tw13624458728676655084:0=0:=rfl
theorem tw13447090868514539521:0=0:=rfl
theorem tw14663295076541659811:0=0:=rfl
theorem tw2014019127346395434:0=0:=rfl
theorem tw8394030226722539544:0=0:=rfl
theorem tw10955431435161830373:0=0:=rfl
theorem tw4125097862516647245:0=0:=rfl
theorem tw14520315143621489388:0=0:=rfl
theorem tw14908798524730591370:0=0:=rfl
theorem tw4853433448876626695:0=0:=rfl
theorem tw7937519199292341868:0=0:=rfl
theorem tw6807200904133800856:0=0:=rfl
theorem tw5500622781458250084:0=0:=rfl
theorem tw11582454841002923247:0=0:=rfl
theorem tw14296046758411708700:0=0:=rfl
theorem tw10487801512715832600:0=0:=rfl
theorem tw14430707333606198761:0=0:=rfl
theorem tw7329353817951279167:0=0:=rfl
theorem tw17480566923696455563:0=0:=rfl
theorem tw13849128293689964294:0=0:=rfl
theorem tw15145465935275498574:0=0:=rfl
theorem tw5125429037618604927:0=0:=rfl
theorem tw3366356065808705440:0=0:=rfl
theorem tw15782065781387616416:0=0:=rfl
theorem tw6118858418910177927:0=0:=rfl
theorem tw13740197352898326167:0=0:=rfl
theorem tw589057220061016447:0=0:=rfl
theorem tw11492897154906698806:0=0:=rfl
theorem tw18194248171392411547:0=0:=rfl
theorem tw10234838425029879070:0=0:=rfl
theorem tw7476575910148187872:0=0:=rfl
theorem tw1929953422964350105:0=0:=rfl
theorem tw2159996474622780065:0=0:=rfl
theorem tw2003455021516975072:0=0:=rfl
theorem tw16885512614013402357:0=0:=rfl
theorem tw2555347177986811314:0=0:=rfl
theorem tw9676902230800652802:0=0:=rfl
theorem tw3427040247697702118:0=0:=rfl
theorem tw5436866894023502486:0=0:=rfl
theorem tw3772227778178691509:0=0:=rfl
theorem tw4979737409687346840:0=0:=rfl
theorem tw5874932807951549274:0=0:=rfl
theorem tw15706590837020485641:0=0:=rfl
theorem tw4902575762133622934:0=0:=rfl
theorem tw13658686390282221348:0=0:=rfl
theorem tw6013993251644645045:0=0:=rfl
theorem tw15361382538950109715:0=0:=rfl
theorem tw11394432573893300818:0=0:=rfl
theorem tw374633099984748381:0=0:=rfl
theorem tw3762928809834266925:0=0:=rfl
theorem tw18046467252830435387:0=0:=rfl
theorem tw4155351979464347789:0=0:=rfl
theorem tw11344529035510639349:0=0:=rfl
theorem tw1115441900080033969:0=0:=rfl
theorem tw3889914989731806829:0=0:=rfl
theorem tw16268290974858762016:0=0:=rfl
theorem tw11287256800702619537:0=0:=rfl
theorem tw14043203127338157489:0=0:=rfl
theorem tw15701299265878080477:0=0:=rfl
theorem tw1931608004365679472:0=0:=rfl
theorem tw16369267802570005334:0=0:=rfl
theorem tw8157706816276442180:0=0:=rfl
theorem tw17075123084959637294:0=0:=rfl
theorem tw3758148809667229844:0=0:=rfl
theorem tw2302913548556870078:0=0:=rfl
theorem tw14807178437506616362:0=0:=rfl
theorem tw5621607538841993535:0=0:=rfl
theorem tw4543763873187596955:0=0:=rfl
theorem tw21169476804621532:0=0:=rfl
theorem tw11629180138693844416:0=0:=rfl
theorem tw5357204732299639793:0=0:=rfl
theorem tw17551364597170611512:0=0:=rfl
theorem tw17472565100661260129:0=0:=rfl
theorem tw17808455949332657714:0=0:=rfl
theorem tw8038971590132343954:0=0:=rfl
theorem tw16538319028537510324:0=0:=rfl
theorem tw17429898149919235331:0=0:=rfl
theorem tw8977790875857555650:0=0:=rfl
theorem tw5544517598420937483:0=0:=rfl
theorem tw14983735111138952712:0=0:=rfl
theorem tw3321994725760912775:0=0:=rfl
theorem tw1598806586210183282:0=0:=rfl
theorem tw11447898327630908346:0=0:=rfl
theorem tw17846068497572965712:0=0:=rfl
theorem tw1799357080811781177:0=0:=rfl
theorem tw6595120617466206285:0=0:=rfl
theorem tw13401008195441003534:0=0:=rfl
theorem tw10866210414727726588:0=0:=rfl
theorem tw5053672637188456712:0=0:=rfl
theorem tw9359003695962340396:0=0:=rfl
theorem tw6815663210270636620:0=0:=rfl
theorem tw18416795971004320803:0=0:=rfl
theorem tw11729223035179226667:0=0:=rfl
theorem tw11314692469613085763:0=0:=rfl
theorem tw13536706928596517607:0=0:=rfl
theorem tw14847180542621594447:0=0:=rfl
theorem tw17285048262855844012:0=0:=rfl
theorem tw3279217991925746672:0=0:=rfl
theorem tw14625369923503942064:0=0:=rfl
theorem tw9602710018980074497:0=0:=rfl
theorem tw13099777491054368902:0=0:=rfl
theorem tw15952446556973646358:0=0:=rfl
theorem tw11197462385179717138:0=0:=rfl
theorem tw7345816361412771367:0=0:=rfl
theorem tw2993540161681084424:0=0:=rfl
theorem tw7781883045713915753:0=0:=rfl
theorem tw17154354945891502922:0=0:=rfl
theorem tw15279876672254197720:0=0:=rfl
theorem tw6755901711587287419:0=0:=rfl
theorem tw7891384100129151055:0=0:=rfl
theorem tw1342243954757062841:0=0:=rfl
theorem tw90518803565979078:0=0:=rfl
theorem tw10648165157280197578:0=0:=rfl
theorem tw5816752848361228044:0=0:=rfl
theorem tw10962832548335794867:0=0:=rfl
theorem tw17794367239584055384:0=0:=rfl
theorem tw7689877819808100404:0=0:=rfl
theorem tw5914301108206111553:0=0:=rfl
theorem tw14531181520820125046:0=0:=rfl
theorem tw2885001355217478588:0=0:=rfl
theorem tw1007842546423963597:0=0:=rfl
theorem tw11840751603809950894:0=0:=rfl
theorem tw4489733712777588441:0=0:=rfl
theorem tw3822814538549347249:0=0:=rfl
theorem tw1511395746674270312:0=0:=rfl
theorem tw16854380991781615159:0=0:=rfl
theorem tw14795896881999671712:0=0:=rfl
theorem tw13158498182517116215:0=0:=rfl
theorem tw12083453888394934817:0=0:=rfl
theorem tw14704380285322514956:0=0:=rfl
theorem tw7706404664413925737:0=0:=rfl
theorem tw1221469391291593041:0=0:=rfl
theorem tw10153429701621197985:0=0:=rfl
theorem tw10475654440214029229:0=0:=rfl
theorem tw14608795769086376037:0=0:=rfl
theorem tw5195316066929736989:0=0:=rfl
theorem tw390225349520732216:0=0:=rfl
theorem tw1436010439230928024:0=0:=rfl
theorem tw322449051725094257:0=0:=rfl
end PySem.W.Fast
open PySem PySem.W PyProof.Rows
set_option maxRecDepth 100000 in
set_option maxHeartbeats 0 in
theorem PySem.Challenge.cw_swapstride_k36_hands_side_by_side_holds : PySem.Challenge.rw_swapstride_k36_hands_side_by_side.Holds := by
 w_on;o_law;k_head;(case hw=>w_witness2)
 k_fill
 refine L2.walk_of (l:=PySem.Challenge.rw_swapstride_k36_hands_side_by_side) (n:=63) (k:=100) (x:="_law_script") (CX:=λ_=>L2.CX0) (sp:=λ_=>K36.spLaw _) rfl (by decide) rfl ⟨rfl,by decide,by decide⟩ (λw h Y=>PySem.W.kIn_of Y) ?F (λ_ _ a ns hl _ hS=>⟨a,ns,rfl,hS,hl,λ_=>rfl⟩) λ_ _ _ _ _ z=>z
 case F=>
  intro w mg fa h KX G hmg
  have jA:L2.DefTx (L2.KOf KX) mg "_wall" K36.s__wall ["k"]:=by
   walk_at"d"
  have jB:L2.DefTx (L2.KOf KX) mg "row_ways" K36.s_row_ways ["row","k"]:=by
   walk_at"d"
  have jC:L2.DefTx (L2.KOf KX) mg "hand_of" K36.s_hand_of L2.qac:=by
   walk_at"d"
  have jD:L2.DefTx (L2.KOf KX) mg "named" K36.s_named L2.qa6:=by
   walk_at"d"
  have jE:L2.DefTx (L2.KOf KX) mg "channels_from" K36.s_channels_from L2.qac:=by
   walk_at"d"
  have jF:L2.DefTx (L2.KOf KX) mg "channels_to" K36.s_channels_to L2.qac:=by
   walk_at"d"
  have jG:L2.DefTx (L2.KOf KX) mg "sort_of" K36.s_sort_of L2.qai:=by
   walk_at"d"
  have jH:L2.DefTx (L2.KOf KX) mg "parts_of" K36.s_parts_of L2.qai:=by
   walk_at"d"
  have jI:L2.DefTx (L2.KOf KX) mg "with_box" K36.s_with_box L2.qap:=by
   walk_at"d"
  have jJ:L2.DefTx (L2.KOf KX) mg "nought" K36.s_nought L2.qaq:=by
   walk_at"d"
  have jK:L2.DefTx (L2.KOf KX) mg "field" K36.s_field L2.qa7:=by
   walk_at"d"
  have jL:L2.DefTx (L2.KOf KX) mg "worth" K36.s_worth L2.qaf:=by
   walk_at"d"
  have jM:L2.DefTx (L2.KOf KX) mg "op_worth" K36.s_op_worth L2.qav:=by
   walk_at"d"
  have jN:L2.DefTx (L2.KOf KX) mg "case_worth" K36.s_case_worth L2.qaf:=by
   walk_at"d"
  have jO:L2.DefTx (L2.KOf KX) mg "begin_of" K36.s_begin_of L2.qac:=by
   walk_at"d"
  have jP:L2.DefTx (L2.KOf KX) mg "own_stand" K36.s_own_stand ["stand"]:=by
   walk_at"d"
  have jQ:L2.DefTx (L2.KOf KX) mg "own_lists" K36.s_own_lists ["lists"]:=by
   walk_at"d"
  have jR:L2.DefTx (L2.KOf KX) mg "row_at" K36.s_row_at L2.qal:=by
   walk_at"d"
  have jS:L2.DefTx (L2.KOf KX) mg "first_letter" K36.s_first_letter L2.qaw:=by
   walk_at"d"
  have jT:L2.DefTx (L2.KOf KX) mg "stride" K36.s_stride L2.qax:=by
   walk_at"d"
  have jU:L2.DefTx (L2.KOf KX) mg "row_behind" K36.s_row_behind L2.qa8:=by
   walk_at"d"
  have jV:L2.DefTx (L2.KOf KX) mg "boxes_behind" K36.s_boxes_behind L2.qay:=by
   walk_at"d"
  have jW:L2.DefTx (L2.KOf KX) mg "done" K36.s_done L2.qar:=by
   walk_at"d"
  have jX:L2.DefTx (L2.KOf KX) mg "_law_feed" K36.sl_feed L2.qas:=by
   walk_at"d"
  have jY:L2.DefTx (L2.KOf KX) mg "_law_take" K36.sl_take L2.qae:=by
   walk_at"d"
  have jZ:L2.DefTx (L2.KOf KX) mg "_law_names" K36.sl_names L2.qa9:=by
   walk_at"d"
  have j0:L2.DefTx (L2.KOf KX) mg "_law_number" K36.sl_number L2.qba:=by
   walk_at"d"
  have j1:L2.DefTx (L2.KOf KX) mg "_law_sort_of" K36.sl_sort_of L2.qad:=by
   walk_at"d"
  have j2:L2.DefTx (L2.KOf KX) mg "_law_size" K36.sl_size L2.qad:=by
   walk_at"d"
  have j3:L2.DefTx (L2.KOf KX) mg "_law_small" K36.sl_small L2.qad:=by
   walk_at"d"
  have j4:L2.DefTx (L2.KOf KX) mg "_law_parts" K36.sl_parts L2.qaz:=by
   walk_at"d"
  have j5:L2.DefTx (L2.KOf KX) mg "_law_kinds" K36.sl_kinds L2.qbb:=by
   walk_at"d"
  have j6:L2.DefTx (L2.KOf KX) mg "_law_boxed" K36.sl_boxed L2.qa0:=by
   walk_at"d"
  have j7:L2.DefTx (L2.KOf KX) mg "_law_arms" K36.sl_arms L2.qbc:=by
   walk_at"d"
  have j8:L2.DefTx (L2.KOf KX) mg "_law_whole_term" K36.sl_whole_term L2.qag:=by
   walk_at"d"
  have j9:L2.DefTx (L2.KOf KX) mg "_law_term" K36.sl_term L2.qag:=by
   walk_at"d"
  have kA:L2.DefTx (L2.KOf KX) mg "_law_new_term" K36.sl_new_term L2.qak:=by
   walk_at"d"
  have kB:L2.DefTx (L2.KOf KX) mg "_law_any_kind" K36.sl_any_kind L2.qam:=by
   walk_at"d"
  have kC:L2.DefTx (L2.KOf KX) mg "_law_channels" K36.sl_channels L2.qbd:=by
   walk_at"d"
  have kD:L2.DefTx (L2.KOf KX) mg "_law_boxes" K36.sl_boxes L2.qbe:=by
   walk_at"d"
  have kE:L2.DefTx (L2.KOf KX) mg "_law_into" K36.sl_into L2.qat:=by
   walk_at"d"
  have kF:L2.DefTx (L2.KOf KX) mg "_law_deal" K36.sl_deal L2.qa1:=by
   walk_at"d"
  have kG:L2.DefTx (L2.KOf KX) mg "_law_rows" K36.sl_rows L2.qa2:=by
   walk_at"d"
  have kH:L2.DefTx (L2.KOf KX) mg "_law_make" K36.sl_make L2.qa3:=by
   walk_at"d"
  have kI:L2.DefTx (L2.KOf KX) mg "_law_hands" K36.sl_hands L2.qa4:=by
   walk_at"d"
  have kJ:L2.DefTx (L2.KOf KX) mg "_law_hands_of" K36.sl_hands_of L2.qan:=by
   walk_at"d"
  have kK:L2.DefTx (L2.KOf KX) mg "_law_weaving" K36.sl_weaving L2.qbf:=by
   walk_at"d"
  have kL:L2.DefTx (L2.KOf KX) mg "_law_state" K36.sl_state L2.qa5:=by
   walk_at"d"
  have kM:L2.DefTx (L2.KOf KX) mg "_law_moved" K36.sl_moved L2.qbg:=by
   walk_at"d"
  have kN:L2.DefTx (L2.KOf KX) mg "_law_sent" K36.sl_sent L2.qaj:=by
   walk_at"d"
  have kO:L2.DefTx (L2.KOf KX) mg "_law_lone_fits" K36.sl_lone_fits L2.qaj:=by
   walk_at"d"
  have kP:L2.DefTx (L2.KOf KX) mg "law" K36.s_law ["_law_script"]:=by
   walk_at"d"
  have kQ:∃t,mg "WIDE"=some (.int 4294967296 t):=by
   refine' L2.gint_mk KX G ?a
   (case a=>k_is)
  have kR:mg "all"=none:=by
   refine' PySem.W.mg_none_of KX G ?a
   (case a=>k_is)
  have kS:mg "bool"=none:=by
   refine' PySem.W.mg_none_of KX G ?a
   (case a=>k_is)
  have kT:mg "dict"=none:=by
   refine' PySem.W.mg_none_of KX G ?a
   (case a=>k_is)
  have kU:mg "int"=none:=by
   refine' PySem.W.mg_none_of KX G ?a
   (case a=>k_is)
  have kW:mg "isinstance"=none:=by
   refine' PySem.W.mg_none_of KX G ?a
   (case a=>k_is)
  have kX:mg "len"=none:=by
   refine' PySem.W.mg_none_of KX G ?a
   (case a=>k_is)
  have kY:mg "list"=none:=by
   refine' PySem.W.mg_none_of KX G ?a
   (case a=>k_is)
  have kZ:mg "max"=none:=by
   refine' PySem.W.mg_none_of KX G ?a
   (case a=>k_is)
  have k0:mg "min"=none:=by
   refine' PySem.W.mg_none_of KX G ?a
   (case a=>k_is)
  have k4:mg "range"=none:=by
   refine' PySem.W.mg_none_of KX G ?a
   (case a=>k_is)
  have k8:mg "sum"=none:=by
   refine' PySem.W.mg_none_of KX G ?a
   (case a=>k_is)
  have k9:mg "tuple"=none:=by
   refine' PySem.W.mg_none_of KX G ?a
   (case a=>k_is)
  have uA:mg "zip"=none:=by
   refine' PySem.W.mg_none_of KX G ?a
   (case a=>k_is)
  have uB:mg "Plain"=some (.ref (L2.ad (L2.KOf KX) "Plain")):=by
   refine' PySem.W.mg_of KX G ?a
   (case a=>kernel_rfl)
  have uC:L2.DTab (L2.KOf KX) "Plain" ["make","stands","between","tellings","counts"]:=by
   refine' L2.dtab_of ?a
   (case a=>kernel_rfl)
  have uD:mg "Lone"=some (.ref (L2.ad (L2.KOf KX) "Lone")):=by
   refine' PySem.W.mg_of KX G ?a
   (case a=>kernel_rfl)
  have uE:L2.DTab (L2.KOf KX) "Lone" L2.qbh:=by
   refine' L2.dtab_of ?a
   (case a=>kernel_rfl)
  have uF:mg "House"=some (.ref (L2.ad (L2.KOf KX) "House")):=by
   refine' PySem.W.mg_of KX G ?a
   (case a=>kernel_rfl)
  have uG:L2.CTab (L2.KOf KX) "House" "__init__":=by
   refine' L2.ctab_of ?a
   (case a=>kernel_rfl)
  have uH:L2.MethTx (L2.KOf KX) "House.__init__" (L2.ad (L2.KOf KX) "House") "__init__" K36.s_House_init L2.qah [[]]:=by
   dsimp only[L2.KOf];refine' L2.meth_mk ?a ?i ?n ?l ?c ?k ?b
   (case a=>k_is);(case i=>k_is);(case n=>k_is);(case l=>k_is);(case c=>k_is);(case k=>k_is)
   (case b=>exact λ_ _ _ _ _ _ us hl=>match us,hl with |[_,_],_=>rfl)
  have uI:L2.MethTx (L2.KOf KX) "House.stand" (L2.ad (L2.KOf KX) "Plain") "stand" K36.s_Plain_stand L2.qab [[]]:=by
   dsimp only[L2.KOf];refine' L2.meth_mk ?a ?i ?n ?l ?c ?k ?b
   (case a=>k_is);(case i=>k_is);(case n=>k_is);(case l=>k_is);(case c=>k_is);(case k=>k_is)
   (case b=>exact λ_ _ _ _ _ _ us hl=>match us,hl with |[_,_],_=>rfl)
  have uJ:L2.MethTx (L2.KOf KX) "House.told" (L2.ad (L2.KOf KX) "Plain") "told" K36.s_Plain_told L2.qab [[]]:=by
   dsimp only[L2.KOf];refine' L2.meth_mk ?a ?i ?n ?l ?c ?k ?b
   (case a=>k_is);(case i=>k_is);(case n=>k_is);(case l=>k_is);(case c=>k_is);(case k=>k_is)
   (case b=>exact λ_ _ _ _ _ _ us hl=>match us,hl with |[_,_],_=>rfl)
  have uK:L2.MethTx (L2.KOf KX) "House.letters" (L2.ad (L2.KOf KX) "Plain") "letters" K36.s_Plain_letters L2.qau [[]]:=by
   dsimp only[L2.KOf];refine' L2.meth_mk ?a ?i ?n ?l ?c ?k ?b
   (case a=>k_is);(case i=>k_is);(case n=>k_is);(case l=>k_is);(case c=>k_is);(case k=>k_is)
   (case b=>exact λ_ _ _ _ _ _ us hl=>match us,hl with |[_,_],_=>rfl)
  have uL:L2.MethTx (L2.KOf KX) "House.count" (L2.ad (L2.KOf KX) "Plain") "count" K36.s_Plain_count L2.qab [[]]:=by
   dsimp only[L2.KOf];refine' L2.meth_mk ?a ?i ?n ?l ?c ?k ?b
   (case a=>k_is);(case i=>k_is);(case n=>k_is);(case l=>k_is);(case c=>k_is);(case k=>k_is)
   (case b=>exact λ_ _ _ _ _ _ us hl=>match us,hl with |[_,_],_=>rfl)
  have uM:L2.MethTx (L2.KOf KX) "Plain.__init__" (L2.ad (L2.KOf KX) "Plain") "__init__" K36.s_Plain_init L2.qah [[]]:=by
   dsimp only[L2.KOf];refine' L2.meth_mk ?a ?i ?n ?l ?c ?k ?b
   (case a=>k_is);(case i=>k_is);(case n=>k_is);(case l=>k_is);(case c=>k_is);(case k=>k_is)
   (case b=>exact λ_ _ _ _ _ _ us hl=>match us,hl with |[_,_],_=>rfl)
  have uN:L2.MethTx (L2.KOf KX) "Plain.step" (L2.ad (L2.KOf KX) "Plain") "step" K36.s_Plain_step L2.qab [[]]:=by
   dsimp only[L2.KOf];refine' L2.meth_mk ?a ?i ?n ?l ?c ?k ?b
   (case a=>k_is);(case i=>k_is);(case n=>k_is);(case l=>k_is);(case c=>k_is);(case k=>k_is)
   (case b=>exact λ_ _ _ _ _ _ us hl=>match us,hl with |[_,_],_=>rfl)
  have uO:L2.MethTx (L2.KOf KX) "Plain.weave" (L2.ad (L2.KOf KX) "Plain") "weave" K36.s_Plain_weave ["self","hands"] [[]]:=by
   dsimp only[L2.KOf];refine' L2.meth_mk ?a ?i ?n ?l ?c ?k ?b
   (case a=>k_is);(case i=>k_is);(case n=>k_is);(case l=>k_is);(case c=>k_is);(case k=>k_is)
   (case b=>exact λ_ _ _ _ _ _ us hl=>match us,hl with |[_,_],_=>rfl)
  have uP:L2.MethTx (L2.KOf KX) "Plain.still" (L2.ad (L2.KOf KX) "Plain") "still" K36.s_Plain_still L2.qaa [[]]:=by
   dsimp only[L2.KOf];refine' L2.meth_mk ?a ?i ?n ?l ?c ?k ?b
   (case a=>k_is);(case i=>k_is);(case n=>k_is);(case l=>k_is);(case c=>k_is);(case k=>k_is)
   (case b=>exact λ_ _ _ _ _ _ us hl=>match us,hl with |[_],_=>rfl)
  have uQ:L2.MethTx (L2.KOf KX) "Plain.stays" (L2.ad (L2.KOf KX) "Plain") "stays" K36.s_Plain_stays L2.qab [[]]:=by
   dsimp only[L2.KOf];refine' L2.meth_mk ?a ?i ?n ?l ?c ?k ?b
   (case a=>k_is);(case i=>k_is);(case n=>k_is);(case l=>k_is);(case c=>k_is);(case k=>k_is)
   (case b=>exact λ_ _ _ _ _ _ us hl=>match us,hl with |[_,_],_=>rfl)
  have uR:L2.MethTx (L2.KOf KX) "Lone.__init__" (L2.ad (L2.KOf KX) "Lone") "__init__" K36.s_Lone_init L2.qao [[.none],[]]:=by
   dsimp only[L2.KOf];refine' L2.meth_mkD ?a ?i ?n ?l ?c ?k ?d ?e ?b
   (case a=>k_is);(case i=>k_is);(case n=>k_is);(case l=>k_is);(case c=>k_is);(case k=>k_is);(case d=>k_is);(case e=>rfl)
   (case b=>exact K36.bind_Lone_init)
  have uS:L2.MethTx (L2.KOf KX) "Lone.step" (L2.ad (L2.KOf KX) "Lone") "step" K36.s_Lone_step L2.qaa [[]]:=by
   dsimp only[L2.KOf];refine' L2.meth_mk ?a ?i ?n ?l ?c ?k ?b
   (case a=>k_is);(case i=>k_is);(case n=>k_is);(case l=>k_is);(case c=>k_is);(case k=>k_is)
   (case b=>exact λ_ _ _ _ _ _ us hl=>match us,hl with |[_],_=>rfl)
  have uT:L2.MethTx (L2.KOf KX) "Lone.stand" (L2.ad (L2.KOf KX) "Lone") "stand" K36.s_Lone_stand L2.qaa [[]]:=by
   dsimp only[L2.KOf];refine' L2.meth_mk ?a ?i ?n ?l ?c ?k ?b
   (case a=>k_is);(case i=>k_is);(case n=>k_is);(case l=>k_is);(case c=>k_is);(case k=>k_is)
   (case b=>exact λ_ _ _ _ _ _ us hl=>match us,hl with |[_],_=>rfl)
  have uU:L2.MethTx (L2.KOf KX) "Lone.told" (L2.ad (L2.KOf KX) "Lone") "told" K36.s_Lone_told L2.qaa [[]]:=by
   dsimp only[L2.KOf];refine' L2.meth_mk ?a ?i ?n ?l ?c ?k ?b
   (case a=>k_is);(case i=>k_is);(case n=>k_is);(case l=>k_is);(case c=>k_is);(case k=>k_is)
   (case b=>exact λ_ _ _ _ _ _ us hl=>match us,hl with |[_],_=>rfl)
  have uV:L2.MethTx (L2.KOf KX) "Lone.sent" (L2.ad (L2.KOf KX) "Lone") "sent" K36.s_Lone_sent L2.qaa [[]]:=by
   dsimp only[L2.KOf];refine' L2.meth_mk ?a ?i ?n ?l ?c ?k ?b
   (case a=>k_is);(case i=>k_is);(case n=>k_is);(case l=>k_is);(case c=>k_is);(case k=>k_is)
   (case b=>exact λ_ _ _ _ _ _ us hl=>match us,hl with |[_],_=>rfl)
  have uW:L2.MethTx (L2.KOf KX) "Lone.left" (L2.ad (L2.KOf KX) "Lone") "left" K36.s_Lone_left L2.qaa [[]]:=by
   dsimp only[L2.KOf];refine' L2.meth_mk ?a ?i ?n ?l ?c ?k ?b
   (case a=>k_is);(case i=>k_is);(case n=>k_is);(case l=>k_is);(case c=>k_is);(case k=>k_is)
   (case b=>exact λ_ _ _ _ _ _ us hl=>match us,hl with |[_],_=>rfl)
  have uX:L2.MethTx (L2.KOf KX) "Lone.count" (L2.ad (L2.KOf KX) "Lone") "count" K36.s_Lone_count L2.qaa [[]]:=by
   dsimp only[L2.KOf];refine' L2.meth_mk ?a ?i ?n ?l ?c ?k ?b
   (case a=>k_is);(case i=>k_is);(case n=>k_is);(case l=>k_is);(case c=>k_is);(case k=>k_is)
   (case b=>exact λ_ _ _ _ _ _ us hl=>match us,hl with |[_],_=>rfl)
  have T:K36.Tx (L2.KOf KX) mg:=⟨jA,jB,jC,jD,jE,jF,jG,jH,jI,jJ,jK,jL,jM,jN,jO,jP,jQ,jR,jS,jT,jU,jV,jW,jX,jY,jZ,j0,j1,j2,j3,j4,j5,j6,j7,j8,j9,kA,kB,kC,kD,kE,kF,kG,kH,kI,kJ,kK,kL,kM,kN,kO,kP,kQ,kR,kS,kT,kU,kW,kX,kY,kZ,k0,k4,k8,k9,uA,uB,uC,uD,uE,uF,uG,uH,uI,uJ,uK,uL,uM,uN,uO,uP,uQ,uR,uS,uT,uU,uV,uW,uX⟩;exact L2.law_top kP hmg λbase=>K36.law_is T
