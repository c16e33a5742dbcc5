import PyProof.Rows.All
import Wide.All
import OpenK.AllK
import Wide.FinOn
import Lean
import PyProof.EqAt
import PyProof.EqKinds
import PyProof.TupleCall
import PyProof.ZipIter
import PyProof.ListNew
import PyProof.TupleIter
import PyProof.WalksMore
import KE.KIntText
import PyProof.Rows.EqBoolInt
import PyProof.Rows.ZipGen
import PySem.Str
import PyProof.StrLawsTight
import PyProof.StrLawsIdx
import PyProof.StrLawsIn
import PyProof.Rows.SetFrom
import KE.KDictSum
import PyProof.Rows.SortWalk
import PyProof.NeKinds
import KE.KDictList
import KE.KRevIter
import PyProof.EnumMake
import PyProof.Rows.EnumRows
import PyProof.ExcInit
import PyProof.InstStoreFacts
import PyProof.ExcArgsOwn
import PyProof.ExcAttrAll.ValueError
import PyProof.ExcBaseAll.ValueError
import PyProof.ConsumeWalk
import PyProof.AttrMissHeap
import KE.KItemsList
import KE.KEqDict
import PyProof.StationsW
import PyProof.RulesAs
import PyProof.NsDelKeeps
import PyProof.ListMulRoad
import PyProof.FactsAll.tuple
import OpenK.KMore
import PyProof.DictWalks
import KE.KPairComp
import PyProof.DictValues
import KE.KRevSl
import PyProof.DictUpdate
import PyProof.AutoListH
import PySem.Challenge.RW_swapstride_k39_houses_begun_amid
set_option Elab.async false
set_option linter.all false
set_option maxRecDepth 100000
set_option maxHeartbeats 4000000
noncomputable section
open PySem
def zD:=@PySem.F.plainAttrs_list
def zE:=@PySem.boot_len
def zF:=@PassesOwn.never
def zG:=@PySem.F.type_list_append
def zH:=@PySem.F.slot_list_append
def zI:=@Nat.succ_le_succ
def zJ:=@List.mem_append_right
def zK:=@PyProof.Rows.boot_tuple
def zL:=@PyProof.Rows.boot_dict
def zM:=@PyProof.Rows.boot_list
def zN:=@PySem.mem_of_lookup
def zO:=@Int.emod_lt_of_pos
def zP:=@List.map_congr_left
def zQ:=@Int.emod_nonneg
def zR:=@List.mem_append_left
def zS:=@List.cons.inj
def zT:=@Nat.lt_of_le_of_lt
def zU:=@List.find?_some
def zV:=@List.length_filter_le
def zW:=@List.Pairwise.sublist
def zX:=@wpAny_bind
def zY:=@Nat.le_trans
def zZ:=@Nat.le_refl
def z0:=@of_decide_eq_true
def z3:=@wpAny_pure
def z5:=@Heap.lt_size
def z6:=@Heap.get?_push_size
def z7:=@Bool.false_ne_true
def z8:=@Option.some.inj
def z9:=@Nat.ne_of_lt
def qB:=@Nat.lt_of_lt_of_le
def qC:=@List.mem_cons_of_mem
def qD:=@List.mem_map_of_mem
def qE:=@Nat.lt_irrefl
def qG:=@Nat.le_succ
def qI:=@wpAny_holding
def qK:=@List.mem_of_mem_take
def qL:=@Nat.zero_le
def qM:=@List.getElem_mem
end
abbrev Fg:=PySem.W.Frag
local macro_rules|`(tactic|omega)=>`(tactic|lia)
local macro_rules | `(tactic| walk_at"o")=>`(tactic| first |exact Or.inl rfl |exact Or.inr rfl)
local macro_rules | `(tactic| walk_at"q")=>`(tactic| exact⟨rfl,rfl,rfl,by decide +kernel,rfl,by decide +kernel,by decide +kernel⟩)
local macro_rules | `(tactic| walk_at"k")=>`(tactic| decide +kernel)
local macro_rules | `(tactic| walk_at"c")=>`(tactic| ((case a=>k_is);(case l=>k_is);(case c=>k_is);(case k=>k_is)))
set_option hygiene false in
local macro_rules | `(tactic| walk_at"d")=>`(tactic| (dsimp only[L2.KOf];refine' L2.deftx_mk KX G ?a ?l ?c ?k ?b;(case a=>k_is);(case l=>k_is);(case c=>k_is);(case k=>k_is);(case b=>(intro _ _ _ _ _ _ us hl;first |(obtain⟨_,rfl⟩:=L2.ln1 hl;rfl) |(obtain⟨_,_,rfl⟩:=L2.ln2 hl;rfl) |(obtain⟨_,_,_,rfl⟩:=L2.ln3 hl;rfl) |(obtain⟨_,_,_,_,rfl⟩:=L2.ln4 hl;rfl) |(obtain⟨_,_,_,_,_,rfl⟩:=L2.ln5 hl;rfl) |(obtain⟨_,_,_,_,_,_,rfl⟩:=L2.ln6 hl;rfl) |(obtain⟨_,_,_,_,_,_,_,rfl⟩:=L2.ln7 hl;rfl)))))
set_option hygiene false in
local macro_rules | `(tactic| walk_at"i")=>`(tactic| first |intro f cdv A outer s H vs Q E hr h |intro vs H Q E h)
local macro_rules | `(tactic| walk_at"s")=>`(tactic| first |(show 2 ≤ PySem.sizeLine;decide) |(show 3 ≤ PySem.sizeLine;decide) |(show 1 ≤ PySem.sizeLine;decide) |(show 0 ≤ PySem.sizeLine;decide) |(show 4 ≤ PySem.sizeLine;decide) |(show 5 ≤ PySem.sizeLine;decide) |(show 6 ≤ PySem.sizeLine;decide) |(show 8 ≤ PySem.sizeLine;decide))
theorem zGA{α:Type _}{l:List α}{i:Nat}(h:i<l.length):l[i]?=some l[i]:=List.getElem?_eq_getElem h
theorem zMS{α β:Type _}{f:α→β}{x:Option α}{b:β}(h:x.map f=some b):∃a,x=some a∧f a=b:=Option.map_eq_some_iff.mp h
theorem zLM{α β:Type _}{as:List α}(f:α→β):(as.map f).length=as.length:=List.length_map f
theorem zGM{α β:Type _}{f:α→β}{l:List α}{i:Nat}:(l.map f)[i]?=l[i]?.map f:=List.getElem?_map
theorem zES{α:Type _}{l:List α}{i:Nat}{a:α}(h:l[i]?=some a):∃h:i<l.length,l[i]=a:=List.getElem?_eq_some_iff.mp h
theorem zMG{α:Type _}{l:List α}{i:Nat}{a:α}(e:l[i]?=some a):a∈l:=List.mem_of_getElem? e
theorem zTL{α:Type _}{i:Nat}{l:List α}(h:l.length ≤ i):l.take i=l:=List.take_of_length_le h
theorem zMA{α:Type _}{a:α}{s t:List α}(h:a∈s++t):a∈s∨a∈t:=List.mem_append.mp h
theorem zMO{α:Type _}{a b:α}(h:a∈[b]):a=b:=List.mem_singleton.mp h
theorem zDT{p:Prop}[Decidable p](h:p):decide p=true:=decide_eq_true h
theorem zDF{p:Prop}[Decidable p](h:¬p):decide p=false:=decide_eq_false h
local macro_rules | `(tactic| walk_at"l")=>`(tactic| (intro vs H Q E h;(repeat (rcases h with⟨_,h⟩)) <;> (subst_vars;rfl)))
local macro_rules | `(tactic| walk_at"rd1")=>`(tactic| first
 |refine⟨_,rfl,?_⟩
 |refine⟨_,_,rfl,rfl,?_⟩
 |refine⟨_,_,_,_,rfl,rfl,(by assumption),(by first |rfl |assumption),?_⟩
 |refine⟨rfl,?_⟩
 |refine M.iteKF (by walk_at"k") ?_
 |refine M.iteKT (by walk_at"k") ?_)
local macro_rules | `(tactic| walk_at"rd")=>`(tactic| repeat walk_at"rd1")
local macro_rules | `(tactic| walk_at"rd1")=>`(tactic| first
 |refine⟨_,rfl,?_⟩
 |refine⟨_,_,rfl,rfl,?_⟩
 |refine⟨_,_,_,_,rfl,rfl,(by assumption),(by first |rfl |assumption),?_⟩
 |refine⟨_,_,rfl,.inl (by assumption),?_⟩
 |refine⟨(by first |exact .inr ⟨by decide,by decide⟩ |exact .inl ⟨by decide,by decide⟩ |exact⟨by decide,by decide,by decide⟩ |exact⟨by decide,by decide⟩ |exact⟨by assumption,by assumption⟩ |(show(0:Int)<_;first |decide |assumption)),?_⟩
 |refine⟨rfl,?_⟩)
section
open PySem
theorem zPO{h:Heap}{a:Addr}{u:Obj}(o:Obj)(e:h.get? a=some u):(h.push o).get? a=some u:=Heap.get?_push_of_some o e
theorem zLA{α:Type _}{as bs:List α}:(as++bs).length=as.length+bs.length:=List.length_append
theorem zMF{α:Type _}{p:α→Bool}{a:α}{l:List α}(h:l.find? p=some a):a∈l:=List.mem_of_find?_eq_some h
theorem zTA{α:Type _}{l:List α}{i:Nat}:l.take (i+1)=l.take i++l[i]?.toList:=List.take_add_one
theorem zMI{α:Type _}{a:α}{l:List α}(h:a∈l):∃(i:Nat) (h:i<l.length),l[i]=a:=List.mem_iff_getElem.mp h
theorem zMC{α:Type _}{a b:α}{l:List α}(h:a∈b::l):a=b∨a∈l:=List.mem_cons.mp h
theorem zMP{α β:Type _}{b:β}{f:α→β}{l:List α}(h:b∈l.map f):∃a,a∈l∧f a=b:=List.mem_map.mp h
theorem zAP{α β:Type _}{f:α→β}{as bs:List α}:(as++bs).map f=as.map f++bs.map f:=List.map_append
end
namespace L2
theorem ln1{α:Type}{l:List α}(h:l.length=1):∃a,l=[a]:=match l,h with |[a],_=>⟨a,rfl⟩
theorem ln2{α:Type}{l:List α}(h:l.length=2):∃a b,l=[a,b]:=match l,h with |[a,b],_=>⟨a,b,rfl⟩
theorem ln3{α:Type}{l:List α}(h:l.length=3):∃a b c,l=[a,b,c]:=match l,h with |[a,b,c],_=>⟨a,b,c,rfl⟩
theorem ln4{α:Type}{l:List α}(h:l.length=4):∃a b c d,l=[a,b,c,d]:=match l,h with |[a,b,c,d],_=>⟨a,b,c,d,rfl⟩
theorem ln5{α:Type}{l:List α}(h:l.length=5):∃a b c d e,l=[a,b,c,d,e]:=match l,h with |[a,b,c,d,e],_=>⟨a,b,c,d,e,rfl⟩
theorem ln6{α:Type}{l:List α}(h:l.length=6):∃a b c d e f,l=[a,b,c,d,e,f]:=match l,h with |[a,b,c,d,e,f],_=>⟨a,b,c,d,e,f,rfl⟩
theorem ln7{α:Type}{l:List α}(h:l.length=7):∃a b c d e f g,l=[a,b,c,d,e,f,g]:=match l,h with |[a,b,c,d,e,f,g],_=>⟨a,b,c,d,e,f,g,rfl⟩
end L2
section
theorem gcut{A:Prop}(h:∀G:Prop,(A->G)->G):A:=h A id
theorem jAA{p:Prop}{q:Prop}{F:Prop}(H0:p)(H1:q)(k:F):p/\q/\F:=⟨H0,H1,k⟩
theorem jAAA{p:Prop}{q:Prop}{r:Prop}{F:Prop}(H0:p)(H1:q)(H2:r)(k:F):p/\q/\r/\F:=⟨H0,H1,H2,k⟩
theorem jAE{p:Prop}{a:Sort _}{F:a->Prop}(H0:p)(u:a)(k:F u):p/\∃u,F u:=⟨H0,u,k⟩
theorem jAEA{p:Prop}{a:Sort _}{q:a->Prop}{F:a->Prop}(H0:p)(u:a)(H1:q u)(k:F u):p/\∃u,q u/\F u:=⟨H0,u,H1,k⟩
theorem jAEE{p:Prop}{a:Sort _}{b:Sort _}{F:a->b->Prop}(H0:p)(u:a)(v:b)(k:F u v):p/\∃u,∃v,F u v:=⟨H0,u,v,k⟩
theorem jEA{a:Sort _}{p:a->Prop}{F:a->Prop}(u:a)(H0:p u)(k:F u):∃u,p u/\F u:=⟨u,H0,k⟩
theorem jEAA{a:Sort _}{p:a->Prop}{q:a->Prop}{F:a->Prop}(u:a)(H0:p u)(H1:q u)(k:F u):∃u,p u/\q u/\F u:=⟨u,H0,H1,k⟩
theorem xb8{a:Sort _}{p:a->Prop}{q:a->Prop}{r:a->Prop}{F:a->Prop}(u:a)(H0:p u)(H1:q u)(H2:r u)(k:F u):∃u,p u/\q u/\r u/\F u:=⟨u,H0,H1,H2,k⟩
theorem xbm{a:Sort _}{p:a->Prop}{q:a->Prop}{r:a->Prop}{i:a->Prop}{F:a->Prop}(u:a)(H0:p u)(H1:q u)(H2:r u)(H3:i u)(k:F u):∃u,p u/\q u/\r u/\i u/\F u:=⟨u,H0,H1,H2,H3,k⟩
theorem xbd{a:Sort _}{p:a->Prop}{q:a->Prop}{r:a->Prop}{i:a->Prop}{j:a->Prop}{F:a->Prop}(u:a)(H0:p u)(H1:q u)(H2:r u)(H3:i u)(H4:j u)(k:F u):∃u,p u/\q u/\r u/\i u/\j u/\F u:=⟨u,H0,H1,H2,H3,H4,k⟩
theorem xb7{a:Sort _}{p:a->Prop}{q:a->Prop}{r:a->Prop}{i:a->Prop}{j:a->Prop}{b:Sort _}{g:a->b->Prop}{c:Sort _}{d:Sort _}{F:a->b->c->d->Prop}(u:a)(H0:p u)(H1:q u)(H2:r u)(H3:i u)(H4:j u)(v:b)(H5:g u v)(w:c)(x:d)(k:F u v w x):∃u,p u/\q u/\r u/\i u/\j u/\∃v,g u v/\∃w,∃x,F u v w x:=⟨u,H0,H1,H2,H3,H4,v,H5,w,x,k⟩
theorem xbr{a:Sort _}{p:a->Prop}{q:a->Prop}{r:a->Prop}{i:a->Prop}{b:Sort _}{j:a->b->Prop}{c:Sort _}{d:Sort _}{e:Sort _}{F:a->b->c->d->e->Prop}(u:a)(H0:p u)(H1:q u)(H2:r u)(H3:i u)(v:b)(H4:j u v)(w:c)(x:d)(y:e)(k:F u v w x y):∃u,p u/\q u/\r u/\i u/\∃v,j u v/\∃w,∃x,∃y,F u v w x y:=⟨u,H0,H1,H2,H3,v,H4,w,x,y,k⟩
theorem xa5{a:Sort _}{p:a->Prop}{q:a->Prop}{b:Sort _}{r:a->b->Prop}{F:a->b->Prop}(u:a)(H0:p u)(H1:q u)(v:b)(H2:r u v)(k:F u v):∃u,p u/\q u/\∃v,r u v/\F u v:=⟨u,H0,H1,v,H2,k⟩
theorem xbu{a:Sort _}{p:a->Prop}{q:a->Prop}{b:Sort _}{c:Sort _}{r:a->b->c->Prop}{i:a->b->c->Prop}{F:a->b->c->Prop}(u:a)(H0:p u)(H1:q u)(v:b)(w:c)(H2:r u v w)(H3:i u v w)(k:F u v w):∃u,p u/\q u/\∃v,∃w,r u v w/\i u v w/\F u v w:=⟨u,H0,H1,v,w,H2,H3,k⟩
theorem xbi{a:Sort _}{p:a->Prop}{b:Sort _}{q:a->b->Prop}{r:a->b->Prop}{F:a->b->Prop}(u:a)(H0:p u)(v:b)(H1:q u v)(H2:r u v)(k:F u v):∃u,p u/\∃v,q u v/\r u v/\F u v:=⟨u,H0,v,H1,H2,k⟩
theorem xcp{a:Sort _}{p:a->Prop}{b:Sort _}{q:a->b->Prop}{r:a->b->Prop}{c:Sort _}{i:a->b->c->Prop}{F:a->b->c->Prop}(u:a)(H0:p u)(v:b)(H1:q u v)(H2:r u v)(w:c)(H3:i u v w)(k:F u v w):∃u,p u/\∃v,q u v/\r u v/\∃w,i u v w/\F u v w:=⟨u,H0,v,H1,H2,w,H3,k⟩
theorem xa1{a:Sort _}{p:a->Prop}{b:Sort _}{q:a->b->Prop}{c:Sort _}{r:a->b->c->Prop}{d:Sort _}{i:a->b->c->d->Prop}{e:Sort _}{j:a->b->c->d->e->Prop}{F:a->b->c->d->e->Prop}(u:a)(H0:p u)(v:b)(H1:q u v)(w:c)(H2:r u v w)(x:d)(H3:i u v w x)(y:e)(H4:j u v w x y)(k:F u v w x y):∃u,p u/\∃v,q u v/\∃w,r u v w/\∃x,i u v w x/\∃y,j u v w x y/\F u v w x y:=⟨u,H0,v,H1,w,H2,x,H3,y,H4,k⟩
theorem xb1{a:Sort _}{p:a->Prop}{b:Sort _}{q:a->b->Prop}{c:Sort _}{r:a->b->c->Prop}{d:Sort _}{e:Sort _}{F:a->b->c->d->e->Prop}(u:a)(H0:p u)(v:b)(H1:q u v)(w:c)(H2:r u v w)(x:d)(y:e)(k:F u v w x y):∃u,p u/\∃v,q u v/\∃w,r u v w/\∃x,∃y,F u v w x y:=⟨u,H0,v,H1,w,H2,x,y,k⟩
theorem xa0{a:Sort _}{p:a->Prop}{b:Sort _}{q:a->b->Prop}{c:Sort _}{r:a->b->c->Prop}{d:Sort _}{e:Sort _}{i:a->b->c->d->e->Prop}{j:a->b->c->d->e->Prop}{F:a->b->c->d->e->Prop}(u:a)(H0:p u)(v:b)(H1:q u v)(w:c)(H2:r u v w)(x:d)(y:e)(H3:i u v w x y)(H4:j u v w x y)(k:F u v w x y):∃u,p u/\∃v,q u v/\∃w,r u v w/\∃x,∃y,i u v w x y/\j u v w x y/\F u v w x y:=⟨u,H0,v,H1,w,H2,x,y,H3,H4,k⟩
theorem xbg{a:Sort _}{p:a->Prop}{b:Sort _}{q:a->b->Prop}{c:Sort _}{d:Sort _}{r:a->b->c->d->Prop}{i:a->b->c->d->Prop}{e:Sort _}{F:a->b->c->d->e->Prop}(u:a)(H0:p u)(v:b)(H1:q u v)(w:c)(x:d)(H2:r u v w x)(H3:i u v w x)(y:e)(k:F u v w x y):∃u,p u/\∃v,q u v/\∃w,∃x,r u v w x/\i u v w x/\∃y,F u v w x y:=⟨u,H0,v,H1,w,x,H2,H3,y,k⟩
theorem xan{a:Sort _}{p:a->Prop}{b:Sort _}{q:a->b->Prop}{c:Sort _}{d:Sort _}{e:Sort _}{F:a->b->c->d->e->Prop}(u:a)(H0:p u)(v:b)(H1:q u v)(w:c)(x:d)(y:e)(k:F u v w x y):∃u,p u/\∃v,q u v/\∃w,∃x,∃y,F u v w x y:=⟨u,H0,v,H1,w,x,y,k⟩
theorem xc3{a:Sort _}{p:a->Prop}{b:Sort _}{q:a->b->Prop}{c:Sort _}{d:Sort _}{e:Sort _}{r:a->b->c->d->e->Prop}{i:a->b->c->d->e->Prop}{F:a->b->c->d->e->Prop}(u:a)(H0:p u)(v:b)(H1:q u v)(w:c)(x:d)(y:e)(H2:r u v w x y)(H3:i u v w x y)(k:F u v w x y):∃u,p u/\∃v,q u v/\∃w,∃x,∃y,r u v w x y/\i u v w x y/\F u v w x y:=⟨u,H0,v,H1,w,x,y,H2,H3,k⟩
theorem xbq{a:Sort _}{p:a->Prop}{b:Sort _}{q:a->b->Prop}{c:Sort _}{d:Sort _}{e:Sort _}{r:a->b->c->d->e->Prop}{i:a->b->c->d->e->Prop}{j:a->b->c->d->e->Prop}{F:a->b->c->d->e->Prop}(u:a)(H0:p u)(v:b)(H1:q u v)(w:c)(x:d)(y:e)(H2:r u v w x y)(H3:i u v w x y)(H4:j u v w x y)(k:F u v w x y):∃u,p u/\∃v,q u v/\∃w,∃x,∃y,r u v w x y/\i u v w x y/\j u v w x y/\F u v w x y:=⟨u,H0,v,H1,w,x,y,H2,H3,H4,k⟩
theorem xar{a:Sort _}{p:a->Prop}{b:Sort _}{c:Sort _}{q:a->b->c->Prop}{r:a->b->c->Prop}{F:a->b->c->Prop}(u:a)(H0:p u)(v:b)(w:c)(H1:q u v w)(H2:r u v w)(k:F u v w):∃u,p u/\∃v,∃w,q u v w/\r u v w/\F u v w:=⟨u,H0,v,w,H1,H2,k⟩
theorem xbl{a:Sort _}{p:a->Prop}{b:Sort _}{c:Sort _}{q:a->b->c->Prop}{r:a->b->c->Prop}{d:Sort _}{i:a->b->c->d->Prop}{F:a->b->c->d->Prop}(u:a)(H0:p u)(v:b)(w:c)(H1:q u v w)(H2:r u v w)(x:d)(H3:i u v w x)(k:F u v w x):∃u,p u/\∃v,∃w,q u v w/\r u v w/\∃x,i u v w x/\F u v w x:=⟨u,H0,v,w,H1,H2,x,H3,k⟩
theorem xb6{a:Sort _}{p:a->Prop}{b:Sort _}{c:Sort _}{q:a->b->c->Prop}{r:a->b->c->Prop}{d:Sort _}{e:Sort _}{i:a->b->c->d->e->Prop}{j:a->b->c->d->e->Prop}{F:a->b->c->d->e->Prop}(u:a)(H0:p u)(v:b)(w:c)(H1:q u v w)(H2:r u v w)(x:d)(y:e)(H3:i u v w x y)(H4:j u v w x y)(k:F u v w x y):∃u,p u/\∃v,∃w,q u v w/\r u v w/\∃x,∃y,i u v w x y/\j u v w x y/\F u v w x y:=⟨u,H0,v,w,H1,H2,x,y,H3,H4,k⟩
theorem xct{a:Sort _}{p:a->Prop}{b:Sort _}{c:Sort _}{d:Sort _}{q:a->b->c->d->Prop}{r:a->b->c->d->Prop}{i:a->b->c->d->Prop}{e:Sort _}{F:a->b->c->d->e->Prop}(u:a)(H0:p u)(v:b)(w:c)(x:d)(H1:q u v w x)(H2:r u v w x)(H3:i u v w x)(y:e)(k:F u v w x y):∃u,p u/\∃v,∃w,∃x,q u v w x/\r u v w x/\i u v w x/\∃y,F u v w x y:=⟨u,H0,v,w,x,H1,H2,H3,y,k⟩
theorem xa7{a:Sort _}{p:a->Prop}{b:Sort _}{c:Sort _}{d:Sort _}{q:a->b->c->d->Prop}{r:a->b->c->d->Prop}{i:a->b->c->d->Prop}{e:Sort _}{j:a->b->c->d->e->Prop}{F:a->b->c->d->e->Prop}(u:a)(H0:p u)(v:b)(w:c)(x:d)(H1:q u v w x)(H2:r u v w x)(H3:i u v w x)(y:e)(H4:j u v w x y)(k:F u v w x y):∃u,p u/\∃v,∃w,∃x,q u v w x/\r u v w x/\i u v w x/\∃y,j u v w x y/\F u v w x y:=⟨u,H0,v,w,x,H1,H2,H3,y,H4,k⟩
theorem xaz{a:Sort _}{p:a->Prop}{b:Sort _}{c:Sort _}{d:Sort _}{e:Sort _}{F:a->b->c->d->e->Prop}(u:a)(H0:p u)(v:b)(w:c)(x:d)(y:e)(k:F u v w x y):∃u,p u/\∃v,∃w,∃x,∃y,F u v w x y:=⟨u,H0,v,w,x,y,k⟩
theorem xaa{a:Sort _}{p:a->Prop}{b:Sort _}{c:Sort _}{d:Sort _}{e:Sort _}{q:a->b->c->d->e->Prop}{r:a->b->c->d->e->Prop}{i:a->b->c->d->e->Prop}{j:a->b->c->d->e->Prop}{F:a->b->c->d->e->Prop}(u:a)(H0:p u)(v:b)(w:c)(x:d)(y:e)(H1:q u v w x y)(H2:r u v w x y)(H3:i u v w x y)(H4:j u v w x y)(k:F u v w x y):∃u,p u/\∃v,∃w,∃x,∃y,q u v w x y/\r u v w x y/\i u v w x y/\j u v w x y/\F u v w x y:=⟨u,H0,v,w,x,y,H1,H2,H3,H4,k⟩
theorem jEE{a:Sort _}{b:Sort _}{F:a->b->Prop}(u:a)(v:b)(k:F u v):∃u,∃v,F u v:=⟨u,v,k⟩
theorem jEEA{a:Sort _}{b:Sort _}{p:a->b->Prop}{F:a->b->Prop}(u:a)(v:b)(H0:p u v)(k:F u v):∃u,∃v,p u v/\F u v:=⟨u,v,H0,k⟩
theorem xaw{a:Sort _}{b:Sort _}{p:a->b->Prop}{q:a->b->Prop}{F:a->b->Prop}(u:a)(v:b)(H0:p u v)(H1:q u v)(k:F u v):∃u,∃v,p u v/\q u v/\F u v:=⟨u,v,H0,H1,k⟩
theorem xb9{a:Sort _}{b:Sort _}{p:a->b->Prop}{q:a->b->Prop}{r:a->b->Prop}{F:a->b->Prop}(u:a)(v:b)(H0:p u v)(H1:q u v)(H2:r u v)(k:F u v):∃u,∃v,p u v/\q u v/\r u v/\F u v:=⟨u,v,H0,H1,H2,k⟩
theorem xci{a:Sort _}{b:Sort _}{p:a->b->Prop}{q:a->b->Prop}{r:a->b->Prop}{i:a->b->Prop}{F:a->b->Prop}(u:a)(v:b)(H0:p u v)(H1:q u v)(H2:r u v)(H3:i u v)(k:F u v):∃u,∃v,p u v/\q u v/\r u v/\i u v/\F u v:=⟨u,v,H0,H1,H2,H3,k⟩
theorem xa9{a:Sort _}{b:Sort _}{p:a->b->Prop}{q:a->b->Prop}{r:a->b->Prop}{i:a->b->Prop}{j:a->b->Prop}{F:a->b->Prop}(u:a)(v:b)(H0:p u v)(H1:q u v)(H2:r u v)(H3:i u v)(H4:j u v)(k:F u v):∃u,∃v,p u v/\q u v/\r u v/\i u v/\j u v/\F u v:=⟨u,v,H0,H1,H2,H3,H4,k⟩
theorem xay{a:Sort _}{b:Sort _}{p:a->b->Prop}{q:a->b->Prop}{r:a->b->Prop}{c:Sort _}{d:Sort _}{i:a->b->c->d->Prop}{e:Sort _}{F:a->b->c->d->e->Prop}(u:a)(v:b)(H0:p u v)(H1:q u v)(H2:r u v)(w:c)(x:d)(H3:i u v w x)(y:e)(k:F u v w x y):∃u,∃v,p u v/\q u v/\r u v/\∃w,∃x,i u v w x/\∃y,F u v w x y:=⟨u,v,H0,H1,H2,w,x,H3,y,k⟩
theorem xat{a:Sort _}{b:Sort _}{p:a->b->Prop}{q:a->b->Prop}{c:Sort _}{d:Sort _}{r:a->b->c->d->Prop}{i:a->b->c->d->Prop}{e:Sort _}{F:a->b->c->d->e->Prop}(u:a)(v:b)(H0:p u v)(H1:q u v)(w:c)(x:d)(H2:r u v w x)(H3:i u v w x)(y:e)(k:F u v w x y):∃u,∃v,p u v/\q u v/\∃w,∃x,r u v w x/\i u v w x/\∃y,F u v w x y:=⟨u,v,H0,H1,w,x,H2,H3,y,k⟩
theorem xbn{a:Sort _}{b:Sort _}{c:Sort _}{p:a->b->c->Prop}{q:a->b->c->Prop}{F:a->b->c->Prop}(u:a)(v:b)(w:c)(H0:p u v w)(H1:q u v w)(k:F u v w):∃u,∃v,∃w,p u v w/\q u v w/\F u v w:=⟨u,v,w,H0,H1,k⟩
theorem xcm{a:Sort _}{b:Sort _}{c:Sort _}{p:a->b->c->Prop}{q:a->b->c->Prop}{r:a->b->c->Prop}{F:a->b->c->Prop}(u:a)(v:b)(w:c)(H0:p u v w)(H1:q u v w)(H2:r u v w)(k:F u v w):∃u,∃v,∃w,p u v w/\q u v w/\r u v w/\F u v w:=⟨u,v,w,H0,H1,H2,k⟩
theorem xa6{a:Sort _}{b:Sort _}{c:Sort _}{p:a->b->c->Prop}{q:a->b->c->Prop}{r:a->b->c->Prop}{i:a->b->c->Prop}{F:a->b->c->Prop}(u:a)(v:b)(w:c)(H0:p u v w)(H1:q u v w)(H2:r u v w)(H3:i u v w)(k:F u v w):∃u,∃v,∃w,p u v w/\q u v w/\r u v w/\i u v w/\F u v w:=⟨u,v,w,H0,H1,H2,H3,k⟩
theorem xch{a:Sort _}{b:Sort _}{c:Sort _}{p:a->b->c->Prop}{q:a->b->c->Prop}{r:a->b->c->Prop}{i:a->b->c->Prop}{j:a->b->c->Prop}{F:a->b->c->Prop}(u:a)(v:b)(w:c)(H0:p u v w)(H1:q u v w)(H2:r u v w)(H3:i u v w)(H4:j u v w)(k:F u v w):∃u,∃v,∃w,p u v w/\q u v w/\r u v w/\i u v w/\j u v w/\F u v w:=⟨u,v,w,H0,H1,H2,H3,H4,k⟩
theorem xcn{a:Sort _}{b:Sort _}{c:Sort _}{p:a->b->c->Prop}{q:a->b->c->Prop}{r:a->b->c->Prop}{i:a->b->c->Prop}{j:a->b->c->Prop}{g:a->b->c->Prop}{F:a->b->c->Prop}(u:a)(v:b)(w:c)(H0:p u v w)(H1:q u v w)(H2:r u v w)(H3:i u v w)(H4:j u v w)(H5:g u v w)(k:F u v w):∃u,∃v,∃w,p u v w/\q u v w/\r u v w/\i u v w/\j u v w/\g u v w/\F u v w:=⟨u,v,w,H0,H1,H2,H3,H4,H5,k⟩
theorem xc6{a:Sort _}{b:Sort _}{c:Sort _}{d:Sort _}{p:a->b->c->d->Prop}{F:a->b->c->d->Prop}(u:a)(v:b)(w:c)(x:d)(H0:p u v w x)(k:F u v w x):∃u,∃v,∃w,∃x,p u v w x/\F u v w x:=⟨u,v,w,x,H0,k⟩
theorem xah{a:Sort _}{b:Sort _}{c:Sort _}{d:Sort _}{p:a->b->c->d->Prop}{q:a->b->c->d->Prop}{r:a->b->c->d->Prop}{i:a->b->c->d->Prop}{F:a->b->c->d->Prop}(u:a)(v:b)(w:c)(x:d)(H0:p u v w x)(H1:q u v w x)(H2:r u v w x)(H3:i u v w x)(k:F u v w x):∃u,∃v,∃w,∃x,p u v w x/\q u v w x/\r u v w x/\i u v w x/\F u v w x:=⟨u,v,w,x,H0,H1,H2,H3,k⟩
theorem xap{a:Sort _}{b:Sort _}{c:Sort _}{d:Sort _}{p:a->b->c->d->Prop}{q:a->b->c->d->Prop}{r:a->b->c->d->Prop}{i:a->b->c->d->Prop}{j:a->b->c->d->Prop}{F:a->b->c->d->Prop}(u:a)(v:b)(w:c)(x:d)(H0:p u v w x)(H1:q u v w x)(H2:r u v w x)(H3:i u v w x)(H4:j u v w x)(k:F u v w x):∃u,∃v,∃w,∃x,p u v w x/\q u v w x/\r u v w x/\i u v w x/\j u v w x/\F u v w x:=⟨u,v,w,x,H0,H1,H2,H3,H4,k⟩
theorem xbe{a:Sort _}{b:Sort _}{c:Sort _}{d:Sort _}{p:a->b->c->d->Prop}{q:a->b->c->d->Prop}{r:a->b->c->d->Prop}{i:a->b->c->d->Prop}{e:Sort _}{F:a->b->c->d->e->Prop}(u:a)(v:b)(w:c)(x:d)(H0:p u v w x)(H1:q u v w x)(H2:r u v w x)(H3:i u v w x)(y:e)(k:F u v w x y):∃u,∃v,∃w,∃x,p u v w x/\q u v w x/\r u v w x/\i u v w x/\∃y,F u v w x y:=⟨u,v,w,x,H0,H1,H2,H3,y,k⟩
theorem xal{a:Sort _}{b:Sort _}{c:Sort _}{d:Sort _}{e:Sort _}{F:a->b->c->d->e->Prop}(u:a)(v:b)(w:c)(x:d)(y:e)(k:F u v w x y):∃u,∃v,∃w,∃x,∃y,F u v w x y:=⟨u,v,w,x,y,k⟩
theorem xaj{a:Sort _}{b:Sort _}{c:Sort _}{d:Sort _}{e:Sort _}{p:a->b->c->d->e->Prop}{q:a->b->c->d->e->Prop}{r:a->b->c->d->e->Prop}{i:a->b->c->d->e->Prop}{j:a->b->c->d->e->Prop}{F:a->b->c->d->e->Prop}(u:a)(v:b)(w:c)(x:d)(y:e)(H0:p u v w x y)(H1:q u v w x y)(H2:r u v w x y)(H3:i u v w x y)(H4:j u v w x y)(k:F u v w x y):∃u,∃v,∃w,∃x,∃y,p u v w x y/\q u v w x y/\r u v w x y/\i u v w x y/\j u v w x y/\F u v w x y:=⟨u,v,w,x,y,H0,H1,H2,H3,H4,k⟩
end
section
namespace L2
open PySem PySem.Spec PyProof.Rows
abbrev Key:=Sum Int Str
def xoa:Key->Value->Bool
 |.inl k,v=>Value.isInt k v
 |.inr x,v=>Value.isStrOf x v
def keyH(w:World):Key->Int
 |.inl k=>hashInt k
 |.inr x=>hashStr w x
theorem xcl:∀{k:Key} {v:Value},xoa k v=true->(∃i t,k=Sum.inl i/\v=Value.int i t)\/(∃x t,k=Sum.inr x/\v=Value.str x t)
 |.inl i,v,h=>by
  obtain⟨t,e⟩:=Value.isInt_shape (k:=i) (v:=v) h;exact .inl ⟨i,t,rfl,e⟩
 |.inr x,v,h=>by
  obtain⟨t,e⟩:=Value.isStrOf_shape (x:=x) (v:=v) h;exact .inr ⟨x,t,rfl,e⟩
theorem xqb(i:Int)(t:Tok):xoa (.inl i) (.int i t)=true:=by simp[xoa,Value.isInt]
theorem xqa(x:Str)(t:Tok):xoa (.inr x) (.str x t)=true:=by simp[xoa,Value.isStrOf]
theorem xvy(a b:Int):decide ((Sum.inl a:Key)=Sum.inl b)=(a == b):=by
 by_cases e:a=b
 ·subst e;simp
 ·have h:¬(Sum.inl a:Key)=Sum.inl b:=λq=>e (Sum.inl.inj q)
  rw[zDF h];exact(beq_eq_false_iff_ne.mpr e).symm
theorem xvv(a b:Str):decide ((Sum.inr a:Key)=Sum.inr b)=decide (a=b):=by
 by_cases e:a=b
 ·subst e;simp
 ·have h:¬(Sum.inr a:Key)=Sum.inr b:=λq=>e (Sum.inr.inj q)
  rw[zDF h,zDF e]
theorem xvx(a:Int)(b:Str):decide ((Sum.inl a:Key)=Sum.inr b)=false:=zDF (λq=>nomatch q)
theorem xvw(a:Str)(b:Int):decide ((Sum.inr a:Key)=Sum.inl b)=false:=zDF (λq=>nomatch q)
def xca(prog:Program)(w:World):PySem.KeyKind prog w Key where
 is:=xoa
 hash:=keyH w
 inj:=λv a b ha hb=>by
  rcases xcl ha with⟨i,t,rfl,rfl⟩ |⟨x,t,rfl,rfl⟩
  ·rcases xcl hb with⟨j,u,rfl,e⟩ |⟨y,u,rfl,e⟩
   ·injection e with e1 _;rw[e1]
   ·exact nomatch e
  ·rcases xcl hb with⟨j,u,rfl,e⟩ |⟨y,u,rfl,e⟩
   ·exact nomatch e
   ·injection e with e1 _;rw[e1]
 byValue:=λk v h=>by
  rcases xcl h with⟨i,t,rfl,rfl⟩ |⟨x,t,rfl,rfl⟩ <;> rfl
 pyHash:=λhv h=>by
  rcases xcl hv with⟨i,t,rfl,rfl⟩ |⟨x,t,rfl,rfl⟩
  ·exact wpAny_pyHash_int h
  ·exact wpAny_pyHash_str h
 eqBool:=λhu hv h=>by
  rcases xcl hu with⟨i,t,rfl,rfl⟩ |⟨x,t,rfl,rfl⟩
  ·rcases xcl hv with⟨j,u,rfl,rfl⟩ |⟨y,u,rfl,rfl⟩
   ·rw[xvy]at h;exact wpAny_eqBool_int h
   ·rw[xvx]at h;exact SeqAt.EqAt.int_str i t y u _ _ _ _ h
  ·rcases xcl hv with⟨j,u,rfl,rfl⟩ |⟨y,u,rfl,rfl⟩
   ·rw[xvw]at h;exact SeqAt.EqAt.str_int x t j u _ _ _ _ h
   ·rw[xvv]at h;exact wpAny_eqBool_str h
 «strs»:=λk x t v h=>by
  rcases xcl h with⟨i,u,rfl,e⟩ |⟨y,u,rfl,e⟩
  ·exact nomatch e
  ·injection e with e1 _
   subst e1;cases v <;> rfl
theorem xl0(prog:Program)(w:World)(i:Int)(t:Tok):(xca prog w).is (.inl i) (.int i t)=true:=xqb i t
theorem xlz(prog:Program)(w:World)(x:Str)(t:Tok):(xca prog w).is (.inr x) (.str x t)=true:=xqa x t
inductive V where
 |non |bl (b:Bool) |int (i:Int) |str (x:Str) |byt (b:Array UInt8) |flt (b:UInt64) |ref (a:Addr) |ty (n:String)
 deriving DecidableEq
def RelV:V->Value->Prop
 |.non,u=>u=Value.none
 |.bl b,u=>u=Value.bool b
 |.int i,u=>∃t,u=Value.int i t
 |.str x,u=>∃t,u=Value.str x t
 |.byt b,u=>∃t,u=Value.bytes b t
 |.flt b,u=>∃t,u=Value.float b t
 |.ref a,u=>u=Value.ref a
 |.ty n,u=>u=Value.type n
abbrev Vals:List V->List Value->Prop:=Paired RelV
theorem Vals.length{xs:List V}{us:List Value}(r:Vals xs us):xs.length=us.length:=Paired.length r
theorem Vals.get:∀{xs:List V} {us:List Value} {i:Nat} {x:V},Vals xs us->xs[i]?=some x->∃u,us[i]?=some u/\RelV x u
 |_,_,_,_,.nil,e=>by simp at e
 |_,_,0,_,.cons r _,e=>by simp at e;subst e;exact⟨_,rfl,r⟩
 |_,_,i+1,x,.cons _ t,e=>by
  obtain⟨u,h1,h2⟩:=Vals.get (i:=i) (x:=x) t (by simpa using e);exact⟨u,by simpa using h1,h2⟩
theorem Vals.set{x:V}{u:Value}(r:RelV x u):∀{xs:List V} {us:List Value} (i:Nat),Vals xs us->Vals (xs.set i x) (us.set i u)
 |_,_,_,.nil=>.nil
 |_,_,0,.cons _ t=>.cons r t
 |_,_,i+1,.cons q t=>.cons q (Vals.set r i t)
theorem Vals.append:∀{xs ys:List V} {us ws:List Value},Vals xs us->Vals ys ws->Vals (xs++ys) (us++ws)
 |_,_,_,_,.nil,s=>s
 |_,_,_,_,.cons r t,s=>.cons r (Vals.append t s)
theorem Vals.take:∀{xs:List V} {us:List Value} (n:Nat),Vals xs us->Vals (xs.take n) (us.take n)
 |_,_,0,_=>.nil
 |_,_,_+1,.nil=>.nil
 |_,_,n+1,.cons r t=>.cons r (Vals.take n t)
theorem Vals.drop:∀{xs:List V} {us:List Value} (n:Nat),Vals xs us->Vals (xs.drop n) (us.drop n)
 |_,_,0,r=>r
 |_,_,_+1,.nil=>.nil
 |_,_,n+1,.cons _ t=>Vals.drop n t
def RelO:Option V->Option Value->Prop
 |some v,some u=>RelV v u
 |none,none=>True
 |_,_=>False
def KV{κ:Type}:List (κ×V)->List (κ×Value)->Prop:=Paired λ(p:κ×V) (q:κ×Value)=>p.1=q.1/\RelV p.2 q.2
def kV:Key->V
 |.inl i=>.int i
 |.inr x=>.str x
inductive HO where
 |lst (xs:List V)
 |tup (xs:List V)
 |dK (kvs:List (Key×V)) |dT (kvs:List (List Key×V))
 |set (S:Int->Bool) (n:Nat)
 |ins (C dx:Addr) (fs:List (Str×V))
 |own (x:Addr)
 |xd (fs:List (Str×V))
 |met (f x:Addr)
 |rng (lo hi:Int)
 |frz (o:Obj) (u:HO)
 |tbl (ps:Array Value)
 |ext (φ:Heap->Prop)
abbrev Hp:=Addr->Option HO
def upd(H:Hp)(a:Addr)(o:HO):Hp:=λb=>if b=a then some o else H b
theorem ups{H:Hp}{a:Addr}{o:HO}:upd H a o a=some o:=by unfold upd;rw[if_pos rfl]
theorem xak{H:Hp}{a b:Addr}{o:HO}(h:b≠a):upd H a o b=H b:=by unfold upd;rw[if_neg h]
theorem xia{H:Hp}{a:Addr}{o u:HO}:upd (upd H a o) a u=upd H a u:=by
 funext b;unfold upd;split <;> rfl
theorem xw7{H:Hp}{a b:Addr}{o u:HO}(h:H a=some o)(h':H b=some u)(d:o≠u):a≠b:=by
 intro e;subst e;rw[h]at h';exact d (z8 h')
theorem neN{H:Hp}{a b:Addr}{o:HO}(h:H a=some o)(h':H b=none):a≠b:=by
 intro e;subst e;rw[h]at h';cases h'
section
variable (P:Program)(w:World)
def ObjOk(H:Hp)(h:Heap)(a:Addr):HO->Prop
 |.lst xs=>xs.length<=sizeLine/\∃(its:List Value) (n:Nat),Vals xs its/\h.get? a=some {cls:=.type "list",data:=.seq its.toArray n}
 |.tup xs=>xs.length<=sizeLine/\∃its:List Value,Vals xs its/\∃o,h.get? a=some o/\o.cls=.type "tuple"/\∃n,o.data=.seq its.toArray n/\o.dict=none
 |.dK kvs=>kvs.length<=sizeLine/\(a == sysModules)=false/\∃vs,KV kvs vs/\h.DictOf (xca P w) a vs
 | .dT kvs=>kvs.length<=sizeLine/\(a == sysModules)=false/\∃xs:List (List Key×Addr×Value),
   Paired (λ(p:List Key×V) (q:List Key×Addr×Value)=>p.1=q.1/\H q.2.1=some (.tup (p.1.map kV))/\RelV p.2 q.2.2) kvs xs ∧
   ∃o es ep,h.get? a=some o/\o.ExactDict/\o.data=.dict es ep/\es.toList=xs.map (entryOfKey (tupleKind (xca P w)))/\(xs.map (·.1)).Nodup
 |.set S n=>h.SetOf (intKind P w) a S n
 | .ins C dx fs=>H dx=some (.own a)/\fs.length<=1000/\dx≠a/\h.get? a=some (PySem.W.instObj C dx) ∧
   ∃mA,h.Ns1 dx mA/\(∀f,RelO (fs.lookup f) (mA f))/\PySem.Within mA (fs.map (·.1))
 |.own _=>∃o,h.get? a=some o
 |.xd fs=>∃mA,h.Ns1 a mA/\∀f,RelO (fs.lookup f) (mA f)
 |.rng lo hi=>∃t u v,h.get? a=some {cls:=.type "range",data:=.fields #[.int lo t,.int hi u,.int 1 v]}
 |.frz o u=>h.get? a=some o/\ObjOk H h a u
 |.tbl ps=>h.get? a=some {cls:=.none,data:=.fields ps}
 |.met f x=>h.get? a=some (PySem.W.methodObj (.ref f) (.ref x))
 |.ext φ=>φ h/\(∃o,h.get? a=some o)/\∀h1 h2:Heap,φ h1->(∀o,h1.get? a=some o->h2.get? a=some o)->φ h2
def HOk(H:Hp)(h:Heap):Prop:=∀a o,H a=some o->ObjOk P w H h a o
end
section
variable {P:Program}{w:World}{H H':Hp}{h h':Heap}{a:Addr}{o:HO}
theorem ObjOk.lt(x:ObjOk P w H h a o):a<h.objs.size:=by
 cases o with
 |lst xs=>obtain⟨_,_,_,_,e⟩:=x;exact z5 e
 |tup xs=>obtain⟨_,_,_,_,e,_⟩:=x;exact z5 e
 |dK kvs=>obtain⟨_,_,_,_,o,_,_,e,_⟩:=x;exact z5 e
 |dT kvs=>obtain⟨_,_,_,_,o,_,_,e,_⟩:=x;exact z5 e
 |set S n=>obtain⟨o,_,_,_,e,_⟩:=x;exact z5 e
 |ins C dx fs=>obtain⟨_,_,_,e,_⟩:=x;exact z5 e
 |own y=>obtain⟨_,e⟩:=x;exact z5 e
 |xd fs=>obtain⟨_,⟨_,_,_,e,_⟩,_⟩:=x;exact z5 e
 |rng lo hi=>obtain⟨_,_,_,e⟩:=x;exact z5 e
 |frz b u=>obtain⟨e,_⟩:=x;exact z5 e
 |tbl ps=>exact z5 (show h.get? a=some _ from x)
 |met f y=>exact z5 (show h.get? a=some _ from x)
 |ext φ=>obtain⟨_,⟨_,e⟩,_⟩:=x;exact z5 e
theorem Paired.mapP{α β:Type}{F G:α->β->Prop}:∀{e:List α} {c:List β},Paired F e c->(∀a b,F a b->G a b)->Paired G e c
 |_,_,.nil,_=>.nil
 |_,_,.cons r t,f=>.cons (f _ _ r) (Paired.mapP t f)
theorem ObjOk.stay (x:ObjOk P w H h a o) (k:∀b u,(b=a\/H b=some (.own a))->h.get? b=some u->h'.get? b=some u)
  (ho:∀b,H b=some (.own a)->H' b=some (.own a)) (ht:∀b xs,H b=some (.tup xs)->H' b=some (.tup xs)):ObjOk P w H' h' a o:=by
 induction o with
 |lst xs=>obtain⟨z,its,n,r,e⟩:=x;exact⟨z,its,n,r,k _ _ (.inl rfl) e⟩
 |tup xs=>obtain⟨z,its,r,ob,e,c⟩:=x;exact⟨z,its,r,ob,k _ _ (.inl rfl) e,c⟩
 |dK kvs=>obtain⟨z,y,vs,r,ob,es,ep,e,c⟩:=x;exact⟨z,y,vs,r,ob,es,ep,k _ _ (.inl rfl) e,c⟩
 |dT kvs=>
  obtain⟨z,y,xs,r,ob,es,ep,e,c⟩:=x;exact⟨z,y,xs,Paired.mapP r λp q z=>⟨z.1,ht _ _ z.2.1,z.2.2⟩,ob,es,ep,k _ _ (.inl rfl) e,c⟩
 |set S n=>obtain⟨ob,es,ep,t,e,c⟩:=x;exact⟨ob,es,ep,t,k _ _ (.inl rfl) e,c⟩
 |ins C dx fs=>
  obtain⟨d,z,ne,e,mA,⟨od,es,ep,e2,c⟩,r⟩:=x;exact⟨ho _ d,z,ne,k _ _ (.inl rfl) e,mA,⟨od,es,ep,k _ _ (.inr d) e2,c⟩,r⟩
 |own y=>obtain⟨ob,e⟩:=x;exact⟨ob,k _ _ (.inl rfl) e⟩
 |xd fs=>obtain⟨mA,⟨od,es,ep,e,c⟩,r⟩:=x;exact⟨mA,⟨od,es,ep,k _ _ (.inl rfl) e,c⟩,r⟩
 |rng lo hi=>obtain⟨t,u,v,e⟩:=x;exact⟨t,u,v,k _ _ (.inl rfl) e⟩
 |frz ob u ih=>obtain⟨e,q⟩:=x;exact⟨k _ _ (.inl rfl) e,ih q⟩
 |tbl ps=>
  have e:h.get? a=some {cls:=.none,data:=.fields ps}:=x;show h'.get? a=some {cls:=.none,data:=.fields ps};exact k a _ (.inl rfl) e
 |met f y=>
  have e:h.get? a=some (PySem.W.methodObj (.ref f) (.ref y)):=x;show h'.get? a=some (PySem.W.methodObj (.ref f) (.ref y));exact k a _ (.inl rfl) e
 |ext φ=>obtain⟨p,⟨o,e⟩,st⟩:=x;exact⟨st _ _ p λo q=>k _ _ (.inl rfl) q,⟨o,k _ _ (.inl rfl) e⟩,st⟩
theorem HOk.lt(x:HOk P w H h)(e:H a=some o):a<h.objs.size:=(x a o e).lt
theorem HOk.fresh(x:HOk P w H h)(e:h.objs.size<=a):H a=none:=by
 cases q:H a with
 |none=>rfl
 |some u=>exact absurd (qB (x.lt q) e) (qE _)
theorem HOk.kept(x:HOk P w H h)(k:∀b u,h.get? b=some u->h'.get? b=some u):HOk P w H h':=λa o e=>
 (x a o e).stay (λb u _ q=>k b u q) (λ_ q=>q) λ_ _ q=>q
theorem HOk.laid(x:HOk P w H h)(k:∀b u,h.get? b=some u->h'.get? b=some u)(hp:h.objs.size<=a)(new:ObjOk P w (upd H a o) h' a o):HOk P w (upd H a o) h':=λb u e=>by
 have hn:=x.fresh hp;by_cases hb:b=a
 ·subst hb;rw[ups]at e;cases e;exact new
 ·rw[xak hb]at e
  exact(x b u e).stay (λc v _ q=>k c v q) (λc q=>by rw[xak (neN q hn)];exact q) λc xs q=>by rw[xak (neN q hn)];exact q
end
def Rd(H:Hp)(a:Addr)(u:HO):Prop:=H a=some u\/∃o,H a=some (.frz o u)
theorem Rd.ok{P:Program}{w:World}{H:Hp}{h:Heap}{a:Addr}{u:HO}(r:Rd H a u)(x:HOk P w H h):ObjOk P w H h a u:=by
 rcases r with r |⟨o,r⟩
 ·exact x a u r
 ·obtain⟨_,q⟩:=x a _ r
  exact q
def Mut:Option HO->Prop
 |some (.lst _)=>True
 |some (.dK _)=>True
 |some (.dT _)=>True
 |some (.set _ _)=>True
 |some (.ins _ _ _)=>True
 |some (.ext _)=>True
 |_=>False
section
variable {P:Program}{w:World}{H:Hp}{h h':Heap}{x e:Addr}{o':HO}
theorem HOk.write (ok:HOk P w H h) (mu:Mut (H x)) (he:e=x\/H e=some (.own x)) (k:∀b u,b≠e->h.get? b=some u->h'.get? b=some u) (heo:∃u,h'.get? e=some u)
  (new:ObjOk P w (upd H x o') h' x o'):HOk P w (upd H x o') h':=λb u q=>by
 have nown:∀c y,H c=some (.own y)->c≠x:=λc y r z=>by subst z;rw[r]at mu;exact mu
 have ntup:∀c xs,H c=some (.tup xs)->c≠x:=λc xs r z=>by subst z;rw[r]at mu;exact mu
 by_cases hb:b=x
 ·subst hb;rw[ups]at q;cases q;exact new
 ·rw[xak hb]at q
  by_cases hbe:b=e
  ·have q':H b=some (.own x):=by
    rcases he with z |z
    ·exact absurd (hbe.trans z) hb
    ·rw[hbe];exact z
   rw[q]at q';cases q';obtain⟨v,hv⟩:=heo;exact⟨v,by rw[hbe];exact hv⟩
  ·refine(ok b u q).stay (λc v hc r=>k c v ?_ r) (λc r=>by rw[xak (nown c b r)];exact r) λc xs r=>by rw[xak (ntup c xs r)];exact r
   rcases hc with rfl |hc
   ·exact hbe
   ·rintro rfl
    rcases he with z |z
    ·exact nown c b hc z
    ·rw[hc]at z;cases z;exact hb rfl
end
structure Un(fs ex:List Addr)(H H':Hp)(h h':Heap):Prop where
 keep:∀b o,h.get? b=some o->H b=none->b ∉fs->b ∉ex->h'.get? b=some o
 slot:∀b o,h.get? b=some o->H b=none->b∈fs->b ∉ex->∃sl,h'.get? b=some {o with slots:=sl}
 free:∀b o,h.get? b=some o->H b=none->b ∉ex->H' b=none
 there:∀b o,h.get? b=some o->b ∉ex->∃o',h'.get? b=some o'
 tups:∀b xs,H b=some (.tup xs)->H' b=some (.tup xs)
 frzs:∀b o u,H b=some (.frz o u)->H' b=some (.frz o u)
 tbls:∀b ps,H b=some (.tbl ps)->∃more,H' b=some (.tbl (ps++more))
section
variable {fs fs' ex ex':List Addr}{H H1 H2:Hp}{h h1 h2 h':Heap}{a x e:Addr}{o:HO}
theorem Un.any(u:Un fs ex H H1 h h1){b:Addr}{a:Obj}(q:h.get? b=some a)(n:H b=none)(c:b ∉ex):∃sl,h1.get? b=some {a with slots:=sl}:=by
 by_cases e:b∈fs
 ·exact u.slot b a q n e c
 ·exact⟨a.slots,u.keep b a q n e c⟩
theorem Un.kept(k:∀b u,h.get? b=some u->h'.get? b=some u):Un fs ex H H h h':=
 ⟨λb a q _ _ _=>k b a q,λb a q _ _ _=>⟨a.slots,k b a q⟩,λ_ _ _ n _=>n,λb a q _=>⟨a,k b a q⟩,λ_ _ q=>q,λ_ _ _ q=>q,λ_ ps q=>⟨#[],by rw[q];simp⟩⟩
theorem Un.refl:Un fs ex H H h h:=Un.kept λ_ _ q=>q
theorem Un.laid(k:∀b u,h.get? b=some u->h'.get? b=some u)(c:h.objs.size<=a)(hn:H a=none):Un fs ex H (upd H a o) h h' where
 keep:=λb u q _ _ _=>k b u q
 slot:=λb u q _ _ _=>⟨u.slots,k b u q⟩
 free:=λb u q n _=>by rw[xak (z9 (qB (z5 q) c))];exact n
 there:=λb u q _=>⟨u,k b u q⟩
 tups:=λb xs q=>by rw[xak (neN q hn)];exact q
 frzs:=λb u xs q=>by rw[xak (neN q hn)];exact q
 tbls:=λb ps q=>⟨#[],by rw[xak (neN q hn),q];simp⟩
theorem Un.write(c:Mut (H x))(l:e=x\/H e=some (.own x))(k:∀b u,b≠e->h.get? b=some u->h'.get? b=some u)(g:∃u,h'.get? e=some u):Un fs ex H (upd H x o) h h':=by
 have i:∀b,H b=none->b≠x:=λb n z=>by subst z;rw[n]at c;exact c
 have j:∀b,H b=none->b≠e:=λb n z=>by
  subst z;rcases l with r |r
  ·exact i b n r
  ·rw[n]at r;cases r
 have f:∀b u,H b=some u->¬Mut (some u)->b≠x:=λb u q nm z=>by subst z;rw[q]at c;exact nm c
 refine⟨λb u q n _ _=>k b u (j b n) q,λb u q n _ _=>⟨u.slots,k b u (j b n) q⟩,λb u q n _=>by rw[xak (i b n)];exact n,λb u q _=>?_,
  λb xs q=>by rw[xak (f b _ q λz=>z)];exact q,λb u xs q=>by rw[xak (f b _ q λz=>z)];exact q,λb ps q=>⟨#[],by rw[xak (f b _ q λz=>z),q];simp⟩⟩
 by_cases a:b=e
 ·subst a;exact g
 ·exact⟨u,k b u a q⟩
end
def trk(h:Heap)(H:Hp):List Addr:=(List.range h.objs.size).filter λa=>(H a).isSome
def hidT(h:Heap)(H:Hp):Heap:=PySem.W.hideAll h (trk h H)
theorem xqg(h:Heap)(H:Hp):(hidT h H).objs.size=h.objs.size:=PySem.W.hideAll_size _ _
theorem xr0{h:Heap}{H:Hp}{b:Addr}{o:Obj}(e:h.get? b=some o)(n:H b=none):(hidT h H).get? b=some o:=
 PySem.W.hideAll_get _ e λa=>by
  have q:(H b).isSome=true:=(List.mem_filter.mp a).2;rw[n]at q;simp at q
theorem xtu{h:Heap}{H:Hp}{b:Addr}{o:Obj}(e:(hidT h H).get? b=some o):h.get? b=some o/\H b=none:=by
 have a:h.get? b=some o:=PySem.W.of_hideAll (trk h H) e;refine⟨a,?_⟩
 cases q:H b with
 |none=>rfl
 |some x=>
  have c:b∈trk h H:=List.mem_filter.mpr ⟨List.mem_range.mpr (z5 a),by simp[q]⟩;have z:(hidT h H).get? b=none:=PySem.W.hideAll_none (trk h H) c;rw[z]at e;cases e
structure Mod(K:Fg)(mg:Str->Option Value)(base:Heap):Prop where
 kin:K.In base
 glob:base.Ns mainGlobals mg
 blt:∃mb,base.Ns builtinsNs mb/\∀x:Str,x≠"__name__"->mb x=bootBuiltins x
 nolimit:base.NoLimit
structure Cx where
 prog:Program
 w:World
 K:Fg
 mg:Str->Option Value
 base:Heap
 A:Around
 N:List Str
 s₀:Shared
 H₀:Hp
 env:Env
 outer:List Env
 stack:List Env
 ex:List Addr
 fn:Str->Bool
 calm:Bool
 pn:List (Addr×Obj)
 xe:Value->Shared->Prop
def frs(l:List Env):List Addr:=l.filterMap (·.frame)
abbrev Cx.fs(X:Cx):List Addr:=frs X.outer
def Vis(sc:Scope)(x:Str):Prop:=sc.names.lookup x=some .local\/sc.names.lookup x=some .cell\/sc.names.lookup x=some .free
def Loc(sc:Scope)(x:Str):Prop:=sc.names.lookup x=some .local\/sc.names.lookup x=some .cell
def Look(env:Env)(h:Heap)(m:Str->Option Value)(x:Str)(u:Value):Prop:=
 (env.kindOf x=some .local/\m x=some u)\/((env.kindOf x=some .cell\/env.kindOf x=some .free)/\∃c,env.cells.lookup x=some c/\h.IsCell c (some u))
structure Cx.Ok(X:Cx):Prop where
 mod:Mod X.K X.mg X.base
 kind:X.env.scope.kind=.function
 glob:X.env.globals=mainGlobals
 blt:X.env.builtins=builtinsNs
 above:X.s₀.heap.objs.size<=X.env.locals
 inj:∀x y c,X.env.cells.lookup x=some c->X.env.cells.lookup y=some c->x=y
 has:∀x,(X.env.kindOf x=some .cell\/X.env.kindOf x=some .free)->∃c,X.env.cells.lookup x=some c
 cab:∀x c,X.fn x=true->X.env.cells.lookup x=some c->X.s₀.heap.objs.size<=c
 hd:X.calm=true->X.A.handled=none
 frames:X.A.frames=some X.stack
 stk:X.stack=X.outer\/(X.stack=X.env::X.outer/\X.env.frame=some X.env.locals)
 exf:∀b∈X.ex,b≠X.env.locals/\∀x c,X.env.cells.lookup x=some c->c≠b
 bs:∀b o,X.base.get? b=some o->X.s₀.heap.get? b=some o/\X.H₀ b=none
 bsz:X.base.objs.size<=X.s₀.heap.objs.size
 noex:∀b o,X.base.get? b=some o->b ∉X.ex
 exfs:∀b∈X.ex,b ∉X.fs
 funs:X.s₀.heap.FunFrames X.base X.outer
 frf:∀b∈X.fs,X.H₀ b=none
structure Inv(X:Cx)(pins:List (Addr×Obj))(σ:List (Option V))(H:Hp)(s:Shared):Prop where
 ok:X.Ok
 os:s.os=X.s₀.os
 bare:AllBare s.gens
 base:Un X.fs X.ex X.H₀ H X.s₀.heap s.heap
 loc:∃m,s.heap.Ns X.env.locals m/\∀(i:Nat) (x:Str) (v:V),X.N[i]?=some x->σ[i]?=some (some v)->Vis X.env.scope x->∃u,RelV v u/\Look X.env s.heap m x u
 cell:∀x c,X.env.cells.lookup x=some c->∃v,s.heap.IsCell c v
 free:H X.env.locals=none
 freeC:∀x c,X.env.cells.lookup x=some c->H c=none
 pin:∀p∈X.pn++pins,s.heap.get? p.1=some p.2/\H p.1=none/\p.1≠X.env.locals/\p.1 ∉X.fs/\∀v,p.2.data≠.cell v
 hok:HOk X.prog X.w H s.heap
 len:σ.length=X.N.length
section
variable {X:Cx}{pins:List (Addr×Obj)}{σ:List (Option V)}{H H':Hp}{s:Shared}{h':Heap}
theorem Cx.Ok.nofr(ok:X.Ok){b:Addr}{o:Obj}(e:X.base.get? b=some o):b ∉X.fs:=λa=>by
 have:=(ok.funs.mem a).1;rw[e]at this;cases this
theorem Inv.bs(I:Inv X pins σ H s):∀b o,X.base.get? b=some o->s.heap.get? b=some o/\H b=none:=λb o e=>
 ⟨I.base.keep b o (I.ok.bs b o e).1 (I.ok.bs b o e).2 (I.ok.nofr e) (I.ok.noex b o e),I.base.free b o (I.ok.bs b o e).1 (I.ok.bs b o e).2 (I.ok.noex b o e)⟩
theorem Inv.bk(I:Inv X pins σ H s):∀b o,X.base.get? b=some o->s.heap.get? b=some o:=λb o e=>(I.bs b o e).1
theorem Inv.mod(I:Inv X pins σ H s):Mod X.K X.mg X.base:=I.ok.mod
theorem Inv.kIn(I:Inv X pins σ H s):X.K.In s.heap:=I.ok.mod.kin.keeps I.bk
theorem Inv.lt(I:Inv X pins σ H s):X.env.locals<s.heap.objs.size:=let ⟨_,hn,_⟩:=I.loc;hn.lt
theorem Inv.sz(I:Inv X pins σ H s):X.s₀.heap.objs.size<=s.heap.objs.size:=zY I.ok.above (Nat.le_of_lt I.lt)
theorem Inv.nofs(I:Inv X pins σ H s){a:Addr}(h:s.heap.objs.size<=a):a ∉X.fs:=λc=>by
 obtain⟨_,o,b,_⟩:=I.ok.funs.mem c;exact absurd (qB (z5 b) (zY I.sz h)) (qE _)
theorem Inv.cne(I:Inv X pins σ H s):∀x c,X.env.cells.lookup x=some c->c≠X.env.locals:=λx c e z=>by
 obtain⟨v,o,f,hd⟩:=I.cell x c e;obtain⟨m,⟨o',es,ep,a,b,_⟩,_⟩:=I.loc;rw[z,a]at f;cases f;rw[b]at hd;cases hd
theorem Inv.funs(I:Inv X pins σ H s):s.heap.FunFrames X.base X.outer:=by
 have all:∀(l:List Env),(∀b∈frs l,b∈X.fs)->X.s₀.heap.FunFrames X.base l->s.heap.FunFrames X.base l:=by
  intro l
  induction l with
  |nil=>intro _ _;trivial
  |cons env r g=>
   intro hs j;obtain⟨m,⟨L,o,a,hn,i,hd⟩,h⟩:=j;have f:L∈X.fs:=hs L (by unfold frs;rw[List.filterMap_cons,a];exact List.mem_cons_self);obtain⟨sl,e⟩:=I.base.slot L o i (I.ok.frf L f) f λz=>I.ok.exfs L z f;exact⟨m,⟨L,_,a,hn,e,hd⟩,g (λb c=>hs b (by unfold frs;rw[List.filterMap_cons,a];exact qC _ c)) h⟩
 exact all X.outer (λ_ c=>c) I.ok.funs
theorem Inv.stack(I:Inv X pins σ H s):s.heap.FunFrames X.base X.stack:=by
 rcases I.ok.stk with e |⟨e,hf⟩
 ·rw[e];exact I.funs
 ·rw[e]
  obtain⟨m,hn,_⟩:=I.loc;refine .cons (by rw[I.ok.kind];decide) hf hn ?_ I.funs;exact Heap.get?_none_of_le (zY I.ok.bsz I.ok.above)
theorem Inv.stkSub(I:Inv X pins σ H s):∀b∈frs X.stack,b∈X.env.locals::X.fs:=λb a=>by
 rcases I.ok.stk with e |⟨e,c⟩
 ·rw[e]at a;exact qC _ a
 ·rw[e]at a
  unfold frs at a;rw[List.filterMap_cons,c]at a;exact a
theorem Inv.stkFree(I:Inv X pins σ H s):∀b∈frs X.stack,H b=none:=λb a=>by
 rcases zMC (I.stkSub b a) with e |a
 ·rw[e];exact I.free
 ·obtain⟨_,o,c,_⟩:=I.ok.funs.mem a
  exact I.base.free b o c (I.ok.frf b a) λz=>I.ok.exfs b z a
theorem Inv.step {g':Array GenState} {t':Nat} {d':Drawn} {ch:List Addr} (I:Inv X pins σ H s)
  (hch:∀b∈ch,(b∈X.ex\/X.s₀.heap.objs.size<=b)/\b≠X.env.locals/\(∀x c,X.env.cells.lookup x=some c->c≠b)/\∀p∈X.pn++pins,p.1≠b)
  (keep:∀b o,b≠X.env.locals->b ∉X.fs->b ∉ch->s.heap.get? b=some o->H b=none->h'.get? b=some o)
  (slot:∀b o,b≠X.env.locals->b∈X.fs->b ∉ch->s.heap.get? b=some o->H b=none->∃sl,h'.get? b=some {o with slots:=sl}) (free:∀b o,b ∉ch->s.heap.get? b=some o->H b=none->H' b=none)
  (there:∀b o,b ∉ch->s.heap.get? b=some o->∃o',h'.get? b=some o')
  (tups:∀b xs,H b=some (.tup xs)->H' b=some (.tup xs)) (frzs:∀b o u,H b=some (.frz o u)->H' b=some (.frz o u)) (tbls:∀b ps,H b=some (.tbl ps)->∃more,H' b=some (.tbl (ps++more)))
  (ns:∀m,s.heap.Ns X.env.locals m->h'.Ns X.env.locals m) (hok:HOk X.prog X.w H' h') (hg:AllBare g') :
  Inv X pins σ H' {s with heap:=h',gens:=g',drawn:=d',toks:=t'}:=by
 have neL:∀b o,X.s₀.heap.get? b=some o->b≠X.env.locals:=λb o e=>z9 (qB (z5 e) I.ok.above)
 have neC:∀b o,X.s₀.heap.get? b=some o->b ∉X.ex->b ∉ch:=λb o e hx hb=>by
  rcases(hch b hb).1 with z |z
  ·exact hx z
  ·exact absurd (qB (z5 e) z) (qE _)
 have cellK:∀x c,X.env.cells.lookup x=some c->∀v,s.heap.IsCell c v->h'.IsCell c v:=λx c e v ⟨o,ho,hd⟩=>by
  have nch:c ∉ch:=λz=>(hch c z).2.2.1 x c e rfl;by_cases hc:c∈X.fs
  ·obtain⟨sl,q⟩:=slot c o (I.cne x c e) hc nch ho (I.freeC x c e)
   exact⟨_,q,hd⟩
  ·exact⟨o,keep c o (I.cne x c e) hc nch ho (I.freeC x c e),hd⟩
 refine⟨I.ok,I.os,hg,⟨λb o e n hb hx=>?_,λb o e n hb hx=>?_,λb o e n hx=>?_,λb o e hx=>?_,λb xs e=>tups b xs (I.base.tups b xs e),λb o xs e=>frzs b o xs (I.base.frzs b o xs e),λb ps e=>?_⟩,?_,λx c e=>?_,?_,λx c e=>?_,λp hp=>?_,hok,I.len⟩
 ·exact keep b o (neL b o e) hb (neC b o e hx) (I.base.keep b o e n hb hx) (I.base.free b o e n hx)
 ·obtain⟨sl,e1⟩:=I.base.slot b o e n hb hx
  obtain⟨sl',e2⟩:=slot b _ (neL b o e) hb (neC b o e hx) e1 (I.base.free b o e n hx);exact⟨sl',e2⟩
 ·obtain⟨o',e1⟩:=I.base.there b o e hx
  exact free b o' (neC b o e hx) e1 (I.base.free b o e n hx)
 ·obtain⟨o',e1⟩:=I.base.there b o e hx
  exact there b o' (neC b o e hx) e1
 ·obtain⟨m1,e1⟩:=I.base.tbls b ps e
  obtain⟨m2,e2⟩:=tbls b _ e1;exact⟨m1++m2,by rw[e2,Array.append_assoc]⟩
 ·obtain⟨m,hn,hl⟩:=I.loc
  refine⟨m,ns m hn,λi x v e1 e2 e3=>?_⟩;obtain⟨u,r,l⟩:=hl i x v e1 e2 e3;refine⟨u,r,?_⟩;rcases l with l |⟨k,c,e,z⟩
  ·exact .inl l
  ·exact .inr ⟨k,c,e,cellK x c e _ z⟩
 ·obtain⟨v,z⟩:=I.cell x c e
  exact⟨v,cellK x c e v z⟩
 ·obtain⟨m,⟨o,_,_,ho,_⟩,_⟩:=I.loc
  exact free _ o (λz=>(hch _ z).2.1 rfl) ho I.free
 ·obtain⟨v,o,ho,hd⟩:=I.cell x c e
  exact free c o (λz=>(hch c z).2.2.1 x c e rfl) ho (I.freeC x c e)
 ·obtain⟨e,n,ne,nf,d⟩:=I.pin p hp
  have nch:p.1 ∉ch:=λz=>(hch p.1 z).2.2.2 p hp rfl;exact⟨keep p.1 p.2 ne nf nch e n,free p.1 p.2 nch e n,ne,nf,d⟩
theorem Inv.un{t':Nat}(I:Inv X pins σ H s)(u:Un X.fs [] H H' s.heap h')(hok:HOk X.prog X.w H' h'):Inv X pins σ H' {s with heap:=h',toks:=t'}:=by
 obtain⟨m,⟨o,es,ep,ho,r⟩,_⟩:=id I.loc;obtain⟨sl,hL⟩:=u.any ho I.free (by simp)
 exact I.step (g':=s.gens) (d':=s.drawn) (ch:=[]) (λ_ z=>nomatch z) (λb o _ hb _ e n=>u.keep b o e n hb (by simp)) (λb o _ hb _ e n=>u.slot b o e n hb (by simp)) (λb o _ e n=>u.free b o e n (by simp)) (λb o _ e=>u.there b o e (by simp)) u.tups u.frzs u.tbls (λm' hm=>by
  obtain⟨o',es',ep',ho',r'⟩:=hm;rw[ho]at ho';cases ho';exact⟨_,es',ep',hL,r'⟩) hok I.bare
theorem Inv.call {g':Array GenState} {t':Nat} {d':Drawn} {ch:List Addr} (I:Inv X pins σ H s) (u:Un (frs X.stack) ch H H' s.heap h') (hok:HOk X.prog X.w H' h') (hg:AllBare g')
  (hch:∀b∈ch,(b∈X.ex\/X.s₀.heap.objs.size<=b)/\b≠X.env.locals/\(∀x c,X.env.cells.lookup x=some c->c≠b)/\∀p∈X.pn++pins,p.1≠b) :
  Inv X pins σ H' {s with heap:=h',gens:=g',drawn:=d',toks:=t'}:=by
 obtain⟨m,⟨o,es,ep,ho,r⟩,_⟩:=id I.loc;obtain⟨sl,hL⟩:=u.any ho I.free λz=>(hch _ z).2.1 rfl
 exact I.step (ch:=ch) hch (λb o hL hb hc e n=>u.keep b o e n (λz=>(zMC (I.stkSub b z)).elim hL hb) hc) (λb o _ _ hc e n=>u.any e n hc) (λb o hc e n=>u.free b o e n hc) (λb o hc e=>u.there b o e hc) u.tups u.frzs u.tbls (λm' hm=>by
  obtain⟨o',es',ep',ho',r'⟩:=hm;rw[ho]at ho';cases ho';exact⟨_,es',ep',hL,r'⟩) hok hg
theorem Inv.turned {t':Nat} {it:Addr} (I:Inv X pins σ H s) (k:∀b o,b≠it->s.heap.get? b=some o->h'.get? b=some o) (hn:H it=none) (hL:it≠X.env.locals)
  (h1:it∈X.ex\/X.s₀.heap.objs.size<=it) (h2:∀x c,X.env.cells.lookup x=some c->c≠it) (h3:∀p∈X.pn++pins,p.1≠it):Inv X pins σ H {s with heap:=h',toks:=t'}:=by
 have nit:∀b u,H b=some u->b≠it:=λb u e z=>by rw[z,hn]at e;cases e
 refine I.step (g':=s.gens) (d':=s.drawn) (ch:=[it]) (λb hb=>?_) (λb o _ _ hc e _=>k b o (λz=>hc (by simp[z])) e) (λb o _ _ hc e _=>⟨o.slots,k b o (λz=>hc (by simp[z])) e⟩) (λ_ _ _ _ n=>n)
  (λb o hc e=>⟨o,k b o (λz=>hc (by simp[z])) e⟩) (λ_ _ e=>e) (λ_ _ _ e=>e) (λb ps e=>⟨#[],by rw[e];simp⟩) (λm hm=>?_) (λb u e=>?_) I.bare
 ·have e:b=it:=by simpa using hb
  subst e;exact⟨h1,hL,h2,h3⟩
 ·obtain⟨o,es,ep,ho,r⟩:=hm
  exact⟨o,es,ep,k _ o (Ne.symm hL) ho,r⟩
 ·refine(I.hok b u e).stay (λc v hc q=>k c v ?_ q) (λ_ q=>q) λ_ _ q=>q
  rcases hc with z |z
  ·rw[z];exact nit b u e
  ·exact nit c _ z
theorem Inv.tok(I:Inv X pins σ H s)(t:Nat):Inv X pins σ H {s with toks:=t}:=I.un (h':=s.heap) (t':=t) Un.refl I.hok
theorem Inv.kept{t':Nat}(I:Inv X pins σ H s)(k:∀b u,s.heap.get? b=some u->h'.get? b=some u):Inv X pins σ H {s with heap:=h',toks:=t'}:=I.un (Un.kept k) (I.hok.kept k)
theorem Inv.laid {a:Addr} {o:HO} {t':Nat} (I:Inv X pins σ H s) (k:∀b u,s.heap.get? b=some u->h'.get? b=some u) (hp:s.heap.objs.size<=a) (new:ObjOk X.prog X.w (upd H a o) h' a o) :
  Inv X pins σ (upd H a o) {s with heap:=h',toks:=t'}:=I.un (Un.laid k hp (I.hok.fresh hp)) (I.hok.laid k hp new)
theorem Inv.write {x e:Addr} {o:HO} {t':Nat} (I:Inv X pins σ H s) (mu:Mut (H x)) (he:e=x\/H e=some (.own x)) (k:∀b u,b≠e->s.heap.get? b=some u->h'.get? b=some u) (heo:∃u,h'.get? e=some u)
  (new:ObjOk X.prog X.w (upd H x o) h' x o):Inv X pins σ (upd H x o) {s with heap:=h',toks:=t'}:=I.un (Un.write mu he k heo) (I.hok.write mu he k heo new)
theorem Inv.weak{σ':List (Option V)}(I:Inv X pins σ H s)(hl:σ'.length=σ.length)(w:∀(i:Nat) v,σ'[i]?=some (some v)->σ[i]?=some (some v)):Inv X pins σ' H s:=
 ⟨I.ok,I.os,I.bare,I.base,let ⟨m,hn,hl'⟩:=I.loc;⟨m,hn,λi x v e1 e2 e3=>hl' i x v e1 (w i v e2) e3⟩,I.cell,I.free,I.freeC,I.pin,I.hok,hl.trans I.len⟩
theorem Inv.pins_of{a:List (Addr×Obj)}(I:Inv X pins σ H s)(h:∀p∈a,s.heap.get? p.1=some p.2/\H p.1=none/\p.1≠X.env.locals/\p.1 ∉X.fs/\∀v,p.2.data≠.cell v):Inv X a σ H s:=
 ⟨I.ok,I.os,I.bare,I.base,I.loc,I.cell,I.free,I.freeC,λp b=>(zMA b).elim (λz=>I.pin p (zR _ z)) (h p),I.hok,I.len⟩
theorem xm8{N:List Str}(c:N.Nodup){i j:Nat}{x:Str}(a:N[i]?=some x)(b:N[j]?=some x):i=j:=by
 obtain⟨h1,f⟩:=zES a;obtain⟨h2,e⟩:=zES b;exact(List.getElem_inj c).mp (f.trans e.symm)
theorem xjg {M:Model} {A:Around} {E:Value->Shared->Prop} {i:Nat} {x:Str} {v:V} {u:Value} {Q:Unit->Shared->Prop} (I:Inv X pins σ H s) (hN:X.N.Nodup) (hi:X.N[i]?=some x) (hx:Loc X.env.scope x) (r:RelV v u)
  (h:∀s',Inv X pins (σ.set i (some v)) H s'->(∃a,Heap.SameBut a s.heap s'.heap/\(a=X.env.locals\/X.env.cells.lookup x=some a))->Q () s') (hf:X.fn x=true\/X.env.scope.names.lookup x=some .local:=by first |exact .inl rfl |exact .inr rfl |assumption):wpAny M A (storeName X.env x u) Q E s:=by
 obtain⟨m,hn,hl⟩:=id I.loc;have hcls:(X.env.scope.kind == .class || (X.env.scope.kind == .module && X.env.locals != X.env.globals))=false:=by rw[I.ok.kind];rfl
 have hiσ:i<σ.length:=by rw[I.len];exact(zES hi).1
 have cne:=I.cne
 have tracked:∀{a:Addr} {h':Heap},(∃o,s.heap.get? a=some o/\H a=none)->Heap.SameBut a s.heap h'->HOk X.prog X.w H h':=λ{a h'} ha hs b ob e=>by
  obtain⟨_,_,hfree⟩:=ha;refine(I.hok b ob e).stay (λc w' hc q=>(hs.2 c ?_).trans q) (λ_ q=>q) λ_ _ q=>q;rintro rfl;rcases hc with rfl |hc
  ·rw[hfree]at e;cases e
  ·rw[hfree]at hc;cases hc
 rcases hx with hk |hk
 ·refine wpAny_storeName_local hk hn (λh' hn' hs=>?_) hcls
  obtain⟨oL,_,_,hoL,_⟩:=id hn;refine h _ ⟨I.ok,I.os,I.bare,⟨λb o e n hb hx=>?_,λb o e n hb hx=>?_,I.base.free,λb o e hx=>?_,I.base.tups,I.base.frzs,I.base.tbls⟩,⟨_,hn',λj y v' e1 e2 e3=>?_⟩,λy c e=>?_,I.free,I.freeC,λp hp=>?_,tracked ⟨oL,hoL,I.free⟩ hs,by simpa using I.len⟩ ⟨_,hs,.inl rfl⟩
  ·exact(hs.2 b (z9 (qB (z5 e) I.ok.above))).trans (I.base.keep b o e n hb hx)
  ·obtain⟨sl,e1⟩:=I.base.slot b o e n hb hx
   exact⟨sl,(hs.2 b (z9 (qB (z5 e) I.ok.above))).trans e1⟩
  ·obtain⟨o',e1⟩:=I.base.there b o e hx
   exact⟨o',(hs.2 b (z9 (qB (z5 e) I.ok.above))).trans e1⟩
  ·by_cases hj:j=i
   ·subst hj
    rw[hi]at e1;cases e1;rw[List.getElem?_set_self hiσ]at e2;cases e2;exact⟨u,r,.inl ⟨hk,by simp⟩⟩
   ·rw[List.getElem?_set_ne (Ne.symm hj)]at e2
    obtain⟨u',r',q⟩:=hl j y v' e1 e2 e3;refine⟨u',r',?_⟩;rcases q with⟨k,e⟩ |⟨k,c,e,z⟩
    ·refine .inl ⟨k,?_⟩
     have:y≠x:=λe=>hj (xm8 hN e1 (e ▸ hi));simp[this,e]
    ·exact .inr ⟨k,c,e,z.sameBut hs (cne y c e)⟩
  ·obtain⟨w',z⟩:=I.cell y c e
   exact⟨w',z.sameBut hs (cne y c e)⟩
  ·obtain⟨e,n,ne,nf,d⟩:=I.pin p hp
   exact⟨(hs.2 p.1 ne).trans e,n,ne,nf,d⟩
 ·have hfn:X.fn x=true:=by
   rcases hf with z |z
   ·exact z
   ·rw[z]at hk;cases hk
  obtain⟨c,hc⟩:=I.ok.has x (.inl hk);obtain⟨w',z⟩:=I.cell x c hc;refine wpAny_storeName_cell I.ok.kind hk hc z (λh' hc' hs=>?_);obtain⟨oc,hoc,hocd⟩:=id z;refine h {s with heap:=h'} ⟨I.ok,I.os,I.bare,⟨λb o e n hb hx=>?_,λb o e n hb hx=>?_,I.base.free,λb o e hx=>?_,I.base.tups,I.base.frzs,I.base.tbls⟩,⟨m,hn.sameBut hs (Ne.symm (cne x c hc)),λj y v' e1 e2 e3=>?_⟩,λy c' e=>?_,I.free,I.freeC,λp hp=>?_,tracked ⟨oc,hoc,I.freeC x c hc⟩ hs,by simpa using I.len⟩ ⟨c,hs,.inr hc⟩
  ·exact(hs.2 b (z9 (qB (z5 e) (I.ok.cab x c hfn hc)))).trans (I.base.keep b o e n hb hx)
  ·obtain⟨sl,e1⟩:=I.base.slot b o e n hb hx
   exact⟨sl,(hs.2 b (z9 (qB (z5 e) (I.ok.cab x c hfn hc)))).trans e1⟩
  ·obtain⟨o',e1⟩:=I.base.there b o e hx
   exact⟨o',(hs.2 b (z9 (qB (z5 e) (I.ok.cab x c hfn hc)))).trans e1⟩
  ·by_cases hj:j=i
   ·subst hj
    rw[hi]at e1;cases e1;rw[List.getElem?_set_self hiσ]at e2;cases e2;exact⟨u,r,.inr ⟨.inl hk,c,hc,hc'⟩⟩
   ·rw[List.getElem?_set_ne (Ne.symm hj)]at e2
    obtain⟨u',r',q⟩:=hl j y v' e1 e2 e3;refine⟨u',r',?_⟩;rcases q with q |⟨k,c',e,z'⟩
    ·exact .inl q
    ·refine .inr ⟨k,c',e,z'.sameBut hs ?_⟩
     rintro rfl;exact hj (xm8 hN e1 (I.ok.inj _ _ _ e hc ▸ hi))
  ·by_cases hcc:c'=c
   ·subst hcc;exact⟨_,hc'⟩
   ·obtain⟨w2,z2⟩:=I.cell y c' e
    exact⟨w2,z2.sameBut hs hcc⟩
  ·obtain⟨e,n,ne,nf,d⟩:=I.pin p hp
   refine⟨(hs.2 p.1 ?_).trans e,n,ne,nf,d⟩;intro q;rw[q,hoc]at e;have q':oc=p.2:=z8 e;exact d w' (by rw[<- q'];exact hocd)
theorem xmo {M:Model} {A:Around} {E:Value->Shared->Prop} {i:Nat} {x:Str} {v:V} {u:Value} {Q:Unit->Shared->Prop} (I:Inv X pins σ H s) (c:X.N.Nodup) (hi:X.N[i]?=some x) (a:Loc X.env.scope x) (r:RelV v u)
  (h:∀s',Inv X pins (σ.set i (some v)) H s'->Q () s') (b:X.fn x=true\/X.env.scope.names.lookup x=some .local:=by first |exact .inl rfl |exact .inr rfl |assumption):wpAny M A (storeName X.env x u) Q E s:=
 xjg I c hi a r (λs' e _=>h s' e) b
theorem Inv.call' {s':Shared} {ch:List Addr} (I:Inv X pins σ H s) (ho:s'.os=s.os) (u:Un (frs X.stack) ch H H' s.heap s'.heap) (hok:HOk X.prog X.w H' s'.heap) (hg:AllBare s'.gens)
  (hch:∀b∈ch,(b∈X.ex\/X.s₀.heap.objs.size<=b)/\b≠X.env.locals/\(∀x c,X.env.cells.lookup x=some c->c≠b)/\∀p∈X.pn++pins,p.1≠b):Inv X pins σ H' s':=by
 obtain⟨h',g',d',t',o'⟩:=s';have e:o'=s.os:=ho;subst e;exact I.call (g':=g') (t':=t') (d':=d') u hok hg hch
end
abbrev XK:=Value->Option Addr->Hp->Prop
abbrev St:=List (Option V)
abbrev VK:=V->Hp->Prop
abbrev TE:=St->Hp->VK->Prop
abbrev TT:=St->Hp->(Bool->Hp->Prop)->Prop
abbrev TA:=St->Hp->(List V->Hp->Prop)->Prop
structure Ends where
 nx:St->Hp->Prop
 rt:VK
 bk:St->Hp->Prop:=λ_ _=>False
 ct:St->Hp->Prop:=λ_ _=>False
abbrev TS:=Ends->St->Hp->Prop
def EP(X:Cx)(pins:List (Addr×Obj))(σ:St)(Q:VK)(u:Value)(s':Shared):Prop:=∃v H',Inv X pins σ H' s'/\RelV v u/\Q v H'
def TP(X:Cx)(pins:List (Addr×Obj))(σ:St)(Q:Bool->Hp->Prop)(b:Bool)(s':Shared):Prop:=∃H',Inv X pins σ H' s'/\Q b H'
def AP(X:Cx)(pins:List (Addr×Obj))(σ:St)(Q:List V->Hp->Prop)(us:List Value)(s':Shared):Prop:=∃vs H',Inv X pins σ H' s'/\Vals vs us/\Q vs H'
def SP(X:Cx)(pins:List (Addr×Obj))(D:Ends)(f:Flow)(s':Shared):Prop:=
 match f with
 |.next=>∃σ' H',Inv X pins σ' H' s'/\D.nx σ' H'
 |.brk=>∃σ' H',Inv X pins σ' H' s'/\D.bk σ' H'
 |.cont=>∃σ' H',Inv X pins σ' H' s'/\D.ct σ' H'
 |.ret u=>∃v σ' H',Inv X pins σ' H' s'/\RelV v u/\D.rt v H'
def PE(X:Cx)(e:Expr)(t:TE):Prop:=
 ∀(pins:List (Addr×Obj)) (s:Shared) (σ:St) (H:Hp) (Q:VK),Inv X pins σ H s->t σ H Q->wpAny (model X.prog X.w) X.A (eval e X.env) (EP X pins σ Q) X.xe s
def PT(X:Cx)(e:Expr)(t:TT):Prop:=
 ∀(pins:List (Addr×Obj)) (s:Shared) (σ:St) (H:Hp) (Q:Bool->Hp->Prop),Inv X pins σ H s->t σ H Q->wpAny (model X.prog X.w) X.A (isTrue e X.env (eval e X.env)) (TP X pins σ Q) X.xe s
def PW(X:Cx)(e:Expr)(t:TT):Prop:=
 ∀(whole:Sem Value) (pins:List (Addr×Obj)) (s:Shared) (σ:St) (H:Hp) (Q:Bool->Hp->Prop),Inv X pins σ H s->t σ H Q->wpAny (model X.prog X.w) X.A (isTrue e X.env whole) (TP X pins σ Q) X.xe s
theorem PW.pt{X:Cx}{e:Expr}{t:TT}(h:PW X e t):PT X e t:=h _
def PA(X:Cx)(es:List Expr)(t:TA):Prop:=
 ∀(pos:Pos) (pins:List (Addr×Obj)) (s:Shared) (σ:St) (H:Hp) (Q:List V->Hp->Prop),Inv X pins σ H s->t σ H Q->wpAny (model X.prog X.w) X.A (spliced (backTo pos (starEach es X.env))) (AP X pins σ Q) X.xe s
def PS(X:Cx)(st:Stmt)(t:TS):Prop:=
 ∀(pins:List (Addr×Obj)) (s:Shared) (σ:St) (H:Hp) (D:Ends),Inv X pins σ H s->t D σ H->wpAny (model X.prog X.w) X.A (exec st X.env) (SP X pins D) X.xe s
def PSs(X:Cx)(st:List Stmt)(t:TS):Prop:=
 ∀(pins:List (Addr×Obj)) (s:Shared) (σ:St) (H:Hp) (D:Ends),Inv X pins σ H s->t D σ H->wpAny (model X.prog X.w) X.A (execs st X.env) (SP X pins D) X.xe s
theorem thn{α:Type}{t:Sem α}{Q Q':α->Shared->Prop}{M:Model}{A:Around}{E:Value->Shared->Prop}{s:Shared}(h:wpAny M A t Q E s)(hQ:∀a s,Q a s->Q' a s):wpAny M A t Q' E s:=wpAny_mono h hQ λ_ _ x=>x
section
variable {X:Cx}
def tVar(i:Nat):TE:=λσ H Q=>∃v,σ[i]?=some (some v)/\Q v H
def tC(v:V):TE:=λ_ H Q=>Q v H
theorem xvg{i:Nat}{x:Str}{pos:Pos}(p:X.N[i]?=some x)(j:Vis X.env.scope x)(hd:(x == ("__debug__":Str))=false:=by decide)(f:(x == ("__classdict__":Str))=false:=by decide):PE X (.Name x pos) (tVar i):=by
 intro pins s σ H Q I h;obtain⟨v,e,h⟩:=h;obtain⟨m,hn,o⟩:=I.loc;obtain⟨u,r,l⟩:=o i x v p e j;have fin:EP X pins σ Q u s:=⟨v,H,I,r,h⟩;rcases l with⟨b,n⟩ |⟨b,c,g,a⟩
 ·exact wpAny_Name (wpAny_loadName_local I.ok.kind b hn n fin) hd
 ·rcases b with b |b
  ·exact wpAny_Name (wpAny_loadName_cell I.ok.kind b g a fin) hd
  ·exact wpAny_Name (wpAny_loadName_free I.ok.kind b g a fin f) hd
theorem pI{i j pos}:PE X (.Constant (.int i) j pos) (tC (.int i)):=λ_ _ _ H _ I h=>wpAny_Constant_int ⟨.int i,H,I.tok _,⟨_,rfl⟩,h⟩
theorem xei{b j pos}:PE X (.Constant (.bool b) j pos) (tC (.bl b)):=λ_ _ _ H _ I h=>Constant_bool ⟨.bl b,H,I,rfl,h⟩
theorem xeh{j pos}:PE X (.Constant .none j pos) (tC .non):=λ_ _ _ H _ I h=>Constant_none ⟨.non,H,I,rfl,h⟩
theorem pS{x j pos}:PE X (.Constant (.str x) j pos) (tC (.str x)):=λ_ _ _ H _ I h=>Calls.Constant_str ⟨.str x,H,I.tok _,⟨_,rfl⟩,h⟩
def Gl(X:Cx)(x:Str):Prop:=X.env.kindOf x=some .globalImplicit
theorem xi4 {E:Value->Shared->Prop} {pins:List (Addr×Obj)} {s:Shared} {σ:St} {H:Hp} {x:Str} {u:Value} {pos:Pos} {Q:Value->Shared->Prop} (I:Inv X pins σ H s) (b:Gl X x) (a:X.mg x=some u) (h:Q u s)
  (hd:(x == ("__debug__":Str))=false:=by decide):wpAny (model X.prog X.w) X.A (eval (.Name x pos) X.env) Q E s:=
 Calls.Name_function_global I.ok.kind b (Calls.loadGlobal_global (by rw[I.ok.glob];exact I.mod.glob.keeps I.bk) a h) hd
theorem xna {E:Value->Shared->Prop} {pins:List (Addr×Obj)} {s:Shared} {σ:St} {H:Hp} {x:Str} {u:Value} {pos:Pos} {Q:Value->Shared->Prop} (I:Inv X pins σ H s) (c:Gl X x) (b:X.mg x=none) (a:bootBuiltins x=some u) (h:Q u s)
  (hn:x≠"__name__":=by decide) (hd:(x == ("__debug__":Str))=false:=by decide):wpAny (model X.prog X.w) X.A (eval (.Name x pos) X.env) Q E s:=by
 obtain⟨e,h1,h2⟩:=I.mod.blt;exact Calls.Name_function_global I.ok.kind c (Calls.loadGlobal_builtin (by rw[I.ok.glob];exact I.mod.glob.keeps I.bk) b (by rw[I.ok.blt];exact h1.keeps I.bk) ((h2 x hn).trans a) h) hd
theorem xtn{x:Str}{v:V}{u:Value}{pos:Pos}(hg:Gl X x)(hm:X.mg x=some u)(r:RelV v u)(hd:(x == ("__debug__":Str))=false:=by decide):PE X (.Name x pos) (tC v):=
 λ_ _ _ H _ I h=>xi4 I hg hm ⟨v,H,I,r,h⟩ hd
variable {a b:Expr}{ta tb:TE}{pos:Pos}
def tB(t:TE):TT:=λσ H Q=>t σ H λx H1=>∃c,x=.bl c/\Q c H1
theorem xo8{e:Expr}{t:TE}(h:PE X e t)(he:∀whole,isTrue e X.env whole=(do let v <- whole;standAt e.pos;holding [v] (truthy v)):=by intro _;rfl):PT X e (tB t):=by
 intro pins s σ H Q I hw;refine isTrue_plain (thn (h pins s σ H _ I hw) λv s1 ⟨x,H1,I1,r1,q1⟩=>?_) (he _);obtain⟨d,rfl,q⟩:=q1;cases r1;exact wpAny_truthy_bool ⟨H1,I1,q⟩
variable {tA tB':TT}{rest:List Expr}
def tAnd(t u:TT):TT:=λσ H Q=>t σ H λc H1=>if c=true then u σ H1 Q else Q false H1
def tOr(t u:TT):TT:=λσ H Q=>t σ H λc H1=>if c=true then Q true H1 else u σ H1 Q
def tNot(t:TT):TT:=λσ H Q=>t σ H λc H1=>Q (!c) H1
theorem xcg(b:PT X a tA):PW X (.BoolOp .And [a] pos) tA:=by
 intro f pins s σ H Q I h;refine isTrue_and (thn (b pins s σ H Q I h) λc g e=>?_)
 cases c with
 |true=>exact isTrue_and_nil e
 |false=>exact e
theorem xhx(b:PT X a tA):PW X (.BoolOp .Or [a] pos) tA:=by
 intro f pins s σ H Q I h;refine isTrue_or (thn (b pins s σ H Q I h) λc g e=>?_)
 cases c with
 |false=>exact isTrue_or_nil e
 |true=>exact e
theorem xcu(l:PT X a tA)(j:PW X (.BoolOp .And (b::rest) pos) tB'):PW X (.BoolOp .And (a::b::rest) pos) (tAnd tA tB'):=by
 intro g pins s σ H Q I h;refine isTrue_and (thn (l pins s σ H _ I h) λc i ⟨H1,f,e⟩=>?_)
 cases c with
 |true=>exact j g pins i σ H1 Q f e
 |false=>exact⟨H1,f,e⟩
theorem xlo(l:PT X a tA)(j:PW X (.BoolOp .Or (b::rest) pos) tB'):PW X (.BoolOp .Or (a::b::rest) pos) (tOr tA tB'):=by
 intro g pins s σ H Q I h;refine isTrue_or (thn (l pins s σ H _ I h) λc i ⟨H1,f,e⟩=>?_)
 cases c with
 |true=>exact⟨H1,f,e⟩
 |false=>exact j g pins i σ H1 Q f e
theorem xsm(b:PT X a tA):PT X (.UnaryOp .Not a pos) (tNot tA):=by
 intro pins s σ H Q I h;exact isTrue_not (b pins s σ H (λc H1=>Q (!c) H1) I h)
def xwv(ta tb:TE):TE:=λσ H Q=>ta σ H λx H1=>∃c,x=.bl c/\if c=true then tb σ H1 Q else Q (.bl false) H1
theorem xvh{op}{t:TE}(h:PE X a t):PE X (.BoolOp op [a] pos) t:=λpins s σ H Q I b=>BoolOp_one (h pins s σ H Q I b)
theorem xvj(l:PE X a ta)(j:PE X (.BoolOp .And (b::rest) pos) tb):PE X (.BoolOp .And (a::b::rest) pos) (xwv ta tb):=by
 intro pins s σ H Q I h;refine BoolOp_and (thn (l pins s σ H _ I h) λv g ⟨x,H1,f,i,e⟩=>?_);obtain⟨c,rfl,e⟩:=e;cases i;refine wpAny_truthy_bool ?_
 cases c with
 |true=>exact j pins g σ H1 Q f e
 |false=>exact⟨.bl false,H1,f,rfl,e⟩
def tIf(t:TT)(ta tb:TE):TE:=λσ H Q=>t σ H λc H1=>if c=true then ta σ H1 Q else tb σ H1 Q
theorem xfi{c:Expr}(i:PT X c tA)(l:PE X a ta)(j:PE X b tb):PE X (.IfExp c a b pos) (tIf tA ta tb):=by
 intro pins s σ H Q I h;refine wpAny_IfExp (thn (i pins s σ H _ I h) λd e ⟨H1,g,f⟩=>?_)
 cases d with
 |true=>exact l pins e σ H1 Q g f
 |false=>exact j pins e σ H1 Q g f
end
def SqL(K:Fg)(H:Hp)(a:Addr)(xs:List V):Prop:=
 Rd H a (.lst xs) ∨
  ∃(o:Obj) (its:Array Value) (n:Nat),K.lookup a=some o/\o.cls=.type "list"/\o.dict=none/\o.data=.seq its n/\its.size<=sizeLine/\Vals xs its.toList
def SqT(K:Fg)(H:Hp)(a:Addr)(xs:List V):Prop:=
 Rd H a (.tup xs) ∨
  ∃(o:Obj) (its:Array Value) (n:Nat),K.lookup a=some o/\o.cls=.type "tuple"/\o.data=.seq its n/\its.size<=sizeLine/\Vals xs its.toList
def absV:Value->Option V
 |.none=>some .non
 |.bool b=>some (.bl b)
 |.int i _=>some (.int i)
 |.str x _=>some (.str x)
 |.bytes b _=>some (.byt b)
 |.float b _=>some (.flt b)
 |.ref a=>some (.ref a)
 |.type n=>some (.ty n)
 |_=>none
theorem RelV.abs{x:V}{u:Value}(r:RelV x u):absV u=some x:=by
 cases x with
 |non=>cases r;rfl
 |bl _=>cases r;rfl
 |int _=>obtain⟨t,rfl⟩:=r;rfl
 |str _=>obtain⟨t,rfl⟩:=r;rfl
 |byt _=>obtain⟨t,rfl⟩:=r;rfl
 |flt _=>obtain⟨t,rfl⟩:=r;rfl
 |ref _=>cases r;rfl
 |ty _=>cases r;rfl
theorem RelV.inj{x y:V}{u:Value}(r:RelV x u)(q:RelV y u):x=y:=z8 (r.abs.symm.trans q.abs)
theorem Vals.inj:∀{xs ys:List V} {us:List Value},Vals xs us->Vals ys us->xs=ys
 |_,_,_,.nil,.nil=>rfl
 |_,_,_,.cons r t,.cons a t'=>by rw[r.inj a,Vals.inj t t']
section
variable {X:Cx}{pins:List (Addr×Obj)}{σ:St}{H:Hp}{s:Shared}{a:Addr}{xs ys:List V}
theorem SqL.of{K:Fg}(h:H a=some (.lst xs)):SqL K H a xs:=.inl (.inl h)
noncomputable def zC:=@SqL.of
theorem SqT.of{K:Fg}(h:H a=some (.tup xs)):SqT K H a xs:=.inl (.inl h)
noncomputable def zB:=@SqT.of
theorem Inv.list(I:Inv X pins σ H s)(h:SqL X.K H a xs):∃its:List Value,Vals xs its/\PlainL s.heap a its.toArray/\xs.length<=sizeLine:=by
 rcases h with h |⟨o,its,n,b,c,hd,hs,hz,r⟩
 ·obtain⟨z,its,n,r,e⟩:=h.ok I.hok
  exact⟨its,r,⟨_,n,e,rfl,rfl,rfl⟩,z⟩
 ·refine⟨its.toList,r,⟨o,n,I.kIn a o b,c,hd,by simpa using hs⟩,?_⟩
  have e:=r.length;simp only[Array.length_toList]at e;omega
theorem Inv.tuple(I:Inv X pins σ H s)(h:SqT X.K H a xs):∃its:List Value,Vals xs its/\IsTup s.heap a its.toArray/\xs.length<=sizeLine:=by
 rcases h with h |⟨o,its,n,b,f,hs,hz,r⟩
 ·obtain⟨z,its,r,o,e,c,n,d,_⟩:=h.ok I.hok
  exact⟨its,r,⟨o,e,c,n,d⟩,z⟩
 ·refine⟨its.toList,r,⟨o,I.kIn a o b,f,n,by simpa using hs⟩,?_⟩
  have e:=r.length;simp only[Array.length_toList]at e;omega
theorem Inv.list_inj(I:Inv X pins σ H s)(h:SqL X.K H a xs)(h':SqL X.K H a ys):xs=ys:=by
 obtain⟨its,r,⟨o,n,e,_,_,d⟩,_⟩:=I.list h;obtain⟨its',c,⟨o',g,b,_,_,d'⟩,_⟩:=I.list h';rw[e]at b;cases b;rw[d]at d';injection d' with f _;have:its=its':=by simpa using congrArg Array.toList f
 subst this;exact r.inj c
theorem Inv.tuple_inj(I:Inv X pins σ H s)(h:SqT X.K H a xs)(h':SqT X.K H a ys):xs=ys:=by
 obtain⟨its,r,⟨o,e,_,n,d⟩,_⟩:=I.tuple h;obtain⟨its',c,⟨o',b,_,g,d'⟩,_⟩:=I.tuple h';rw[e]at b;cases b;rw[d]at d';injection d' with f _;have:its=its':=by simpa using congrArg Array.toList f
 subst this;exact r.inj c
end
abbrev Cx.wish(X:Cx)(E:Value->Shared->Prop):Cx:={X with xe:=E}
abbrev Cx.nox(X:Cx):Cx:=X.wish λ_ _=>False
theorem Cx.Ok.wish{X:Cx}(ok:X.Ok)(E:Value->Shared->Prop):(X.wish E).Ok:=
 ⟨ok.mod,ok.kind,ok.glob,ok.blt,ok.above,ok.inj,ok.has,ok.cab,ok.hd,ok.frames,ok.stk,ok.exf,ok.bs,ok.bsz,ok.noex,ok.exfs,ok.funs,ok.frf⟩
theorem Cx.Ok.unwish{X:Cx}{E:Value->Shared->Prop}(ok:(X.wish E).Ok):X.Ok:=
 ⟨ok.mod,ok.kind,ok.glob,ok.blt,ok.above,ok.inj,ok.has,ok.cab,ok.hd,ok.frames,ok.stk,ok.exf,ok.bs,ok.bsz,ok.noex,ok.exfs,ok.funs,ok.frf⟩
section
variable {X:Cx}{pins:List (Addr×Obj)}{σ:St}{H:Hp}{s:Shared}{E:Value->Shared->Prop}
theorem Inv.wish(I:Inv X pins σ H s)(E:Value->Shared->Prop):Inv (X.wish E) pins σ H s:=⟨I.ok.wish E,I.os,I.bare,I.base,I.loc,I.cell,I.free,I.freeC,I.pin,I.hok,I.len⟩
theorem Inv.unwish(I:Inv (X.wish E) pins σ H s):Inv X pins σ H s:=⟨I.ok.unwish,I.os,I.bare,I.base,I.loc,I.cell,I.free,I.freeC,I.pin,I.hok,I.len⟩
theorem SP.unwish{D:Ends}{f:Flow}{s':Shared}(h:SP (X.wish E) pins D f s'):SP X pins D f s':=by
 cases f with
 |next=>obtain⟨a,H',I,q⟩:=h;exact⟨a,H',I.unwish,q⟩
 |brk=>obtain⟨a,H',I,q⟩:=h;exact⟨a,H',I.unwish,q⟩
 |cont=>obtain⟨a,H',I,q⟩:=h;exact⟨a,H',I.unwish,q⟩
 |ret u=>obtain⟨v,a,H',I,r,q⟩:=h;exact⟨v,a,H',I.unwish,r,q⟩
theorem PSs.nox{st:List Stmt}{t:TS}(h:PSs X.nox st t):PSs X st t:=λpins s σ H D I a=>
 wpAny_mono (h pins s σ H D (I.wish _) a) (λ_ _ q=>q.unwish) λ_ _ z=>False.elim z
end
section
variable {X:Cx}{st:Stmt}{rest:List Stmt}{t u:TS}{e:Expr}{te:TE}{pos:Pos}
def xwr:TS:=λD σ H=>D.nx σ H
def tSeq(t u:TS):TS:=λD σ H=>t {D with nx:=u D} σ H
theorem pQ:PSs X [] xwr:=λ_ _ σ H _ I h=>wpAny_execs_nil ⟨σ,H,I,h⟩
theorem zpn(h1:PS X st t)(h2:PSs X rest u):PSs X (st::rest) (tSeq t u):=by
 intro pins s σ H D I h;refine wpAny_execs_cons (thn (h1 pins s σ H {D with nx:=u D} I h) λf b q=>?_)
 cases f with
 |next=>
  obtain⟨a,H',c,q⟩:=q;exact h2 pins b a H' D c q
 |ret v=>exact q
 |brk=>exact q
 |cont=>exact q
theorem zpo(h1:PS X st t):PSs X [st] t:=by
 intro pins s σ H D I h;refine wpAny_execs_cons (thn (h1 pins s σ H D I h) λf a q=>?_)
 cases f with
 |next=>exact wpAny_execs_nil q
 |ret v=>exact q
 |brk=>exact q
 |cont=>exact q
theorem Inv.quiet{pins:List (Addr×Obj)}{σ:St}{H:Hp}{s:Shared}(I:Inv X pins σ H s):interactive X.env=false:=by simp[interactive,I.ok.kind]
def xws(te:TE):TS:=λD σ H=>te σ H λ_ H1=>D.nx σ H1
theorem xbp(b:PE X e te)(hs:swapsWith e none pos.line X.env=pure false:=by rfl):PS X (.Expr e pos) (xws te):=by
 intro pins s σ H D I h;exact wpAny_Expr_any (thn (b pins s σ H _ I h) λv f ⟨x,H1,c,g,a⟩=>⟨σ,H1,c,a⟩) I.quiet hs
def tRet(te:TE):TS:=λD σ H=>te σ H D.rt
theorem xaf(c:PE X e te):PS X (.Return (some e) pos) (tRet te):=by
 intro pins s σ H D I h;exact wpAny_Return_some (thn (c pins s σ H _ I h) λv g ⟨x,H1,f,a,b⟩=>⟨x,σ,H1,f,a,b⟩)
def tIfS(c:TT)(t u:TS):TS:=λD σ H=>c σ H λb H1=>if b=true then t D σ H1 else u D σ H1
theorem xba{c:Expr}{a b:List Stmt}{tc:TT}(i:PT X c tc)(l:PSs X a t)(j:PSs X b u):PS X (.If c a b pos) (tIfS tc t u):=by
 intro pins s σ H D I h;refine wpAny_If (thn (i pins s σ H _ I h) λd e ⟨H1,g,f⟩=>?_)
 cases d with
 |true=>exact l pins e σ H1 D g f
 |false=>exact j pins e σ H1 D g f
end
abbrev TG:=V->St->Hp->(St->Hp->Prop)->Prop
abbrev TGs:=List V->St->Hp->(St->Hp->Prop)->Prop
def PG(X:Cx)(target:Expr)(t:TG):Prop:=
 ∀(pins:List (Addr×Obj)) (s:Shared) (σ:St) (H:Hp) (v:V) (u:Value) (Q:St->Hp->Prop),Inv X pins σ H s->RelV v u->t v σ H Q->
  wpAny (model X.prog X.w) X.A (assign target X.env u) (λ_ s'=>∃σ' H',Inv X pins σ' H' s'/\Q σ' H') X.xe s
def PGs(X:Cx)(ts:List Expr)(t:TGs):Prop:=
 ∀(pins:List (Addr×Obj)) (s:Shared) (σ:St) (H:Hp) (vs:List V) (us:List Value) (Q:St->Hp->Prop),Inv X pins σ H s->Vals vs us->t vs σ H Q->
  wpAny (model X.prog X.w) X.A (assignInOrder ((assignEach ts X.env).map (·.2)) us) (λ_ s'=>∃σ' H',Inv X pins σ' H' s'/\Q σ' H') X.xe s
abbrev TSet:=V->V->V->Hp->(Hp->Prop)->Prop
def PSet(X:Cx)(t:TSet):Prop:=
 ∀(pins:List (Addr×Obj)) (s:Shared) (σ:St) (H:Hp) (o i v:V) (ov iv u:Value) (Q:Hp->Prop),Inv X pins σ H s->RelV o ov->RelV i iv->RelV v u->t o i v H Q->
  wpAny (model X.prog X.w) X.A (setItem ov iv u) (λ_ s'=>∃H',Inv X pins σ H' s'/\Q H') X.xe s
section
variable {X:Cx}{pos:Pos}
def xg9(i:Nat):TG:=λv σ H Q=>Q (σ.set i (some v)) H
theorem xpd{i:Nat}{x:Str}(c:X.N.Nodup)(hi:X.N[i]?=some x)(a:Loc X.env.scope x)(b:X.fn x=true\/X.env.scope.names.lookup x=some .local:=by first |exact .inl rfl |exact .inr rfl |assumption):PG X (.Name x pos) (xg9 i):=by
 intro pins s σ H v u Q I r h;exact wpAny_assign_Name (xmo I c hi a r (λs' e=>⟨_,H,e,h⟩) b)
def gNil:TGs:=λvs σ H Q=>vs=[]/\Q σ H
def xxd(t:TG)(u:TGs):TGs:=λvs σ H Q=>∃v r,vs=v::r/\t v σ H λσ' H'=>u r σ' H' Q
theorem xbb:PGs X [] gNil:=by
 intro pins s σ H vs us Q I r h;obtain⟨e,h⟩:=h;subst e;cases r;exact assignInOrder_nil ⟨σ,H,I,h⟩
theorem xad {e:Expr} {es:List Expr} {t:TG} {u:TGs} (h1:PG X e t) (h2:PGs X es u)
  (hs:(assignEach (e::es) X.env).map (·.2)=assign e X.env::(assignEach es X.env).map (·.2):=by rfl):PGs X (e::es) (xxd t u):=by
 intro pins s σ H vs us Q I r h;obtain⟨v,j,g,h⟩:=h;subst g
 cases r with
 |cons r c=>
  rw[hs];refine assignInOrder_cons (thn (h1 pins s σ H _ _ _ I r h) λ_ b ⟨a,H1,i,f⟩=>?_);exact h2 pins b a H1 _ _ Q i c f
def gTup(K:Fg)(n:Nat)(t:TGs):TG:=λv σ H Q=>∃a xs,v=.ref a/\SqT K H a xs/\xs.length=n/\t xs σ H Q
theorem xvf {es:List Expr} {k:Nat} {t:TGs} {n:Nat} (p:X.calm=true) (h:PGs X es t)
  (hn:(assignEach es X.env).length=n:=by rfl) (f:(assignEach es X.env).findIdx? (·.1)=none:=by rfl):PG X (.Tuple es k pos) (gTup X.K n t):=by
 intro pins s σ H v u Q I r c;obtain⟨a,xs,w,l,m,c⟩:=c;subst w;cases r;obtain⟨its,g,j,hz⟩:=I.tuple l;refine assign_Tuple_tuple (I.ok.hd p) j (by simp[hn,<- m,g.length]) f λh' i=>?_;have x:Inv X pins σ H {s with heap:=h'}:=I.kept (t':=s.toks) λb o e=>i b o (z9 (z5 e)) e;exact h pins _ σ H xs _ Q x (by simpa using g) c
def gSub(to ti:TE)(t:TSet):TG:=λv σ H Q=>to σ H λo H1=>ti σ H1 λi H2=>t o i v H2 λH3=>Q σ H3
theorem xsn {o i:Expr} {to c:TE} {t:TSet} (p:PE X o to) (hi:PE X i c) (hs:PSet X t)
  (w:∀v,assign (.Subscript o i pos) X.env v=(do
   let a <- holding [v] (eval o X.env)
   let b <- holding [v,a] (eval i X.env)
   standAt pos
   holding [v,a,b] (setItem a b v)
   release [v,a,b] []):=by intro _;rfl):PG X (.Subscript o i pos) (gSub to c t):=by
 intro pins s σ H v u Q I r h;rw[w];refine zX (qI (thn (p pins s σ H _ I h) λa f ⟨x,H1,G,j,n⟩=>?_));refine zX (qI (thn (hi pins f σ H1 _ G n) λb e ⟨y,H2,C,g,m⟩=>?_));refine zX (wpAny_standAt (zX (qI (thn (hs pins e σ H2 x y v a b u _ C j g r m) λ_ M ⟨J,z,l⟩=>?_))));exact wpAny_release ⟨σ,J,z,l⟩
def tAsg(te:TE)(g:TG):TS:=λD σ H=>te σ H λx H1=>g x σ H1 D.nx
theorem xdw {tg e:Expr} {te:TE} {g:TG} (j:PE X e te) (i:PG X tg g) (hs:swapsWithSole [tg] e pos.line X.env=pure false:=by rfl) (f:swappedStores [tg] e X.env=pure none:=by rfl)
  (h1:(assignEach [tg] X.env).map (·.2)=[assign tg X.env]:=by rfl):PS X (.Assign [tg] e pos) (tAsg te g):=by
 intro pins s σ H D I h;refine wpAny_Assign_stores (thn (j pins s σ H _ I h) λv a ⟨x,H1,l,b,c⟩=>?_) hs f;rw[h1];exact thn (i pins a σ H1 x v _ l b c) λ_ m q=>q
theorem xvc {i:Nat} {x:Str} {e:Expr} {te:TE} {pos':Pos} (hN:X.N.Nodup) (hi:X.N[i]?=some x) (hx:Loc X.env.scope x) (he:PE X e te) (hs:swapsWith e (some (.Name x pos')) pos.line X.env=pure false:=by rfl) (hf:X.fn x=true\/X.env.scope.names.lookup x=some .local:=by first |exact .inl rfl |exact .inr rfl |assumption) :
  PS X (.Assign [.Name x pos'] e pos) (tAsg te (xg9 i)):=by
 intro pins s σ H D I h;refine wpAny_Assign_Name (thn (he pins s σ H _ I h) λv s1 ⟨y,H1,I1,r1,q1⟩=>?_) hs;exact xmo I1 hN hi hx r1 (λs2 I2=>⟨_,H1,I2,q1⟩) hf
end
structure It where
 go:Nat->Hp->Prop
 yld:Nat->Hp->V->Hp->Prop
 stop:Nat->Hp->Prop
def FpOk(X:Cx)(pins:List (Addr×Obj))(H:Hp)(b:Addr):Prop:=
 H b=none/\b≠X.env.locals/\b ∉X.fs/\(b∈X.ex\/X.s₀.heap.objs.size<=b)/\(∀x c,X.env.cells.lookup x=some c->c≠b)/\∀p∈X.pn++pins,p.1≠b
theorem Inv.fpOk{X:Cx}{pins:List (Addr×Obj)}{σ:St}{H H':Hp}{s:Shared}{b:Addr}(I:Inv X pins σ H s)(a:s.heap.objs.size<=b)(hn:H' b=none):FpOk X pins H' b:=by
 refine⟨hn,Nat.ne_of_gt (qB I.lt a),I.nofs a,.inr (zY I.sz a),λx c e z=>?_,λp f z=>?_⟩
 ·obtain⟨v,q⟩:=I.cell x c e
  exact absurd (qB q.lt (by rw[z];exact a)) (qE _)
 ·exact absurd (qB (z5 (I.pin p f).1) (by rw[z];exact a)) (qE _)
structure Turn(P:Program)(w:World)(K:Fg)(tg:Expr)(J:It)(fp:List Addr)(it:Addr)(tn:Nat->Heap->Prop):Prop where
 mem:it∈fp
 obj:∀i h,tn i h->∀b∈fp,∃o,h.get? b=some o/\∀v,o.data≠.cell v
 keep:∀i h h',tn i h->(∀b∈fp,∀o,h.get? b=some o->h'.get? b=some o)->tn i h'
 item:∀(X:Cx),X.prog=P->X.w=w->X.K=K->X.calm=true->∀(i:Nat) (pins:List (Addr×Obj)) (s:Shared) (σ:St) (H:Hp) (E:Value->Shared->Prop),Inv X pins σ H s->(∀b∈fp,FpOk X pins H b)->tn i s.heap->J.go i H->
  wpAny (model P w) X.A (pyNext (.ref it)) (λr s1=>∃u,r=some u ∧
   wpAny (model P w) X.A (letOwnedTupleGo tg (.ref it) u) (λ_ s2=>∃x H',Inv X pins σ H' s2/\RelV x u/\J.yld i H x H'/\tn (i+1) s2.heap/\∀b∈fp,H' b=none) E s1) E s
 done:∀(X:Cx),X.prog=P->X.w=w->X.K=K->X.calm=true->∀(i:Nat) (pins:List (Addr×Obj)) (s:Shared) (σ:St) (H:Hp) (E:Value->Shared->Prop),Inv X pins σ H s->(∀b∈fp,FpOk X pins H b)->tn i s.heap->J.stop i H->
  wpAny (model P w) X.A (pyNext (.ref it)) (λr s1=>r=none/\Inv X pins σ H s1) E s
 self:∀(A:Around) (i:Nat) (s:Shared) (Q:Value->Shared->Prop) (E:Value->Shared->Prop),tn i s.heap->Q (.ref it) s->wpAny (model P w) A (pyIter (.ref it)) Q E s
abbrev TI:=St->Hp->(It->Hp->Prop)->Prop
def PIE(X:Cx)(pins:List (Addr×Obj))(σ:St)(tg:Expr)(R:It->Hp->Prop)(itv:Value)(s2:Shared):Prop:=
 ∃(it:Addr) (fp:List Addr) (tn:Nat->Heap->Prop) (J:It) (H':Hp),itv=.ref it/\Inv X pins σ H' s2/\Turn X.prog X.w X.K tg J fp it tn/\tn 0 s2.heap/\(∀b∈fp,FpOk X pins H' b)/\R J H'
def PI(X:Cx)(tg iter:Expr)(wi:TI):Prop:=
 ∀(pins:List (Addr×Obj)) (s:Shared) (σ:St) (H:Hp) (R:It->Hp->Prop),Inv X pins σ H s->wi σ H R->
  wpAny (model X.prog X.w) X.A (eval iter X.env) (λv s1=>wpAny (model X.prog X.w) X.A (pyIter v) (PIE X pins σ tg R) X.xe s1) X.xe s
theorem xr2 {M:Model} {A:Around} {E:Value->Shared->Prop} {s:Shared} {tg:Expr} {it:Addr} {u:Value} {o:Obj} {n:String} {vs:Array Value} {Q:Unit->Shared->Prop} (ho:s.heap.get? it=some o) (hc:o.cls=.type n) (hd:o.data=.fields vs)
    (hn:["enumerate","zip","dict_itemiterator","dict_reverseitemiterator","odict_iterator","itertools.zip_longest","itertools.pairwise"].contains n=false) (hQ:Q () s):wpAny M A (letOwnedTupleGo tg (.ref it) u) Q E s:=by
  unfold letOwnedTupleGo
  cases tg <;> first
    |exact z3 hQ
    |(cases u <;> first
        |exact z3 hQ
        | (refine zX (wpAny_load ho ?_)
           rw[hc,hd];show wpAny M A (if (["enumerate","zip","dict_itemiterator","dict_reverseitemiterator","odict_iterator","itertools.zip_longest","itertools.pairwise"].contains n && vs[0]? == some (rawInt _))=true then _ else _) Q E s;rw[if_neg (by intro h;rw[hn,Bool.false_and]at h;cases h)];exact z3 hQ))
def Itl(K:Fg)(a:Addr):It:=
 ⟨λi H=>∃xs x,SqL K H a xs/\xs[i]?=some x,λi H x H'=>H'=H/\∀xs,SqL K H a xs->xs[i]?=some x,λi H=>∃xs,SqL K H a xs/\xs.length<=i⟩
def Itt(K:Fg)(a:Addr):It:=
 ⟨λi H=>∃xs x,SqT K H a xs/\xs[i]?=some x,λi H x H'=>H'=H/\∀xs,SqT K H a xs->xs[i]?=some x,λi H=>∃xs,SqT K H a xs/\xs.length<=i⟩
def Itr(lo:Int)(n:Nat):It:=⟨λi _=>i<n,λi H x H'=>H'=H/\x=.int (lo+i),λi _=>n<=i⟩
theorem xok{P:Program}{w:World}{K:Fg}{tg:Expr}(a it:Addr):Turn P w K tg (Itl K a) [it] it (λi h=>h.IsListIter it a i) where
 mem:=by simp
 obj:=λi h st b f=>by
  have e:b=it:=by simpa using f
  subst e;obtain⟨o,e,c,d⟩:=st;exact⟨o,e,λv z=>by rw[d]at z;cases z⟩
 keep:=λi h h' st k=>st.at λo e=>k it (by simp) o e
 item:=by
  intro X y n C Y i pins s σ H E I j st r;subst y n C;obtain⟨xs,x,g,m⟩:=r;obtain⟨its,l,p,hz⟩:=I.list g;obtain⟨u,hu,ru⟩:=l.get m;obtain⟨U,O,f2,M,J,G⟩:=j it (by simp);refine wpAny_pyNext_list_item st p.isList (x:=u) (by simpa using hu) λh' st' Z=>?_;have I1:Inv X pins σ H {s with heap:=h'}:=I.turned (t':=s.toks) (λb o f e=>(Z.2 b f).trans e) U O M J G;obtain⟨o,e,c,d⟩:=id st';exact⟨u,rfl,xr2 (s:={s with heap:=h'}) e c d (by decide) ⟨x,H,I1,ru,⟨rfl,λys hy=>by rw[I.list_inj hy g];exact m⟩,st',λb f=>(j b f).1⟩⟩
 done:=by
  intro X y n C Y i pins s σ H E I j st r;subst y n C;obtain⟨xs,g,m⟩:=r;obtain⟨its,l,p,hz⟩:=I.list g;obtain⟨U,O,f2,M,J,G⟩:=j it (by simp);have hl:=l.length;exact wpAny_pyNext_list_end (I.ok.hd Y) st p.isList (by simp;omega) λh' eb=>⟨rfl,I.turned (t':=s.toks) (λb o f e=>eb b o f e) U O M J G⟩
 self:=λ_ _ _ _ _ st h=>wpAny_pyIter_listiter st h
theorem xnt{P:Program}{w:World}{K:Fg}{tg:Expr}(a it:Addr):Turn P w K tg (Itt K a) [it] it (λi h=>h.IsTupleIter it a i) where
 mem:=by simp
 obj:=λi h st b f=>by
  have e:b=it:=by simpa using f
  subst e;obtain⟨o,e,c,d⟩:=st;exact⟨o,e,λv z=>by rw[d]at z;cases z⟩
 keep:=λi h h' st k=>st.at λo e=>k it (by simp) o e
 item:=by
  intro X y n C Y i pins s σ H E I j st r;subst y n C;obtain⟨xs,x,g,m⟩:=r;obtain⟨its,l,p,hz⟩:=I.tuple g;obtain⟨u,hu,ru⟩:=l.get m;obtain⟨U,O,f2,M,J,G⟩:=j it (by simp);refine wpAny_pyNext_tuple_item st (show s.heap.IsTuple a its.toArray from p) (x:=u) (by simpa using hu) λh' st' Z=>?_;have I1:Inv X pins σ H {s with heap:=h'}:=I.turned (t':=s.toks) (λb o f e=>(Z.2 b f).trans e) U O M J G;obtain⟨o,e,c,d⟩:=id st';exact⟨u,rfl,xr2 (s:={s with heap:=h'}) e c d (by decide) ⟨x,H,I1,ru,⟨rfl,λys hy=>by rw[I.tuple_inj hy g];exact m⟩,st',λb f=>(j b f).1⟩⟩
 done:=by
  intro X y n C Y i pins s σ H E I j st r;subst y n C;obtain⟨xs,g,m⟩:=r;obtain⟨its,l,p,hz⟩:=I.tuple g;obtain⟨U,O,f2,M,J,G⟩:=j it (by simp);have hl:=l.length;exact wpAny_pyNext_tuple_end (I.ok.hd Y) st (show s.heap.IsTuple a its.toArray from p) (by simp;omega) λh' eb=>⟨rfl,I.turned (t':=s.toks) (λb o f e=>eb b o f e) U O M J G⟩
 self:=λ_ _ _ _ _ st h=>wpAny_pyIter_tupleiter st h
theorem xnu{P:Program}{w:World}{K:Fg}{tg:Expr}(it:Addr)(lo:Int)(n:Nat):Turn P w K tg (Itr lo n) [it] it (λi h=>IsRangeIter h it (lo+(i:Nat)*1) ((n:Int)-(i:Nat)) 1) where
 mem:=by simp
 obj:=λi h st b a=>by
  have e:b=it:=by simpa using a
  subst e
  exact⟨_,st,λv z=>by
   have C:Data.fields _=Data.cell v:=z;cases C⟩
 keep:=λi h h' st k=>k it (by simp) _ st
 item:=by
  intro X l f m j i pins s σ H E I c st g;subst l f m;obtain⟨y,x,M,u,r,p⟩:=c it (by simp);have W:=Walks.range (prog:=X.prog) (w:=X.w) (I.ok.hd j) it lo 1 n;refine W.item i s _ _ g st λv h' tk J st' G=>?_;obtain⟨t,rfl⟩:=J;have U:Inv X pins σ H {s with heap:=h',toks:=tk}:=I.turned (λb o a e=>G b o (by simpa using a) e) y x u r p;refine⟨_,rfl,xr2 (s:={s with heap:=h',toks:=tk}) (n:="range_iterator") st' rfl rfl (by decide) ⟨.int (lo+i),H,U,⟨t,?_⟩,⟨rfl,rfl⟩,st',λb a=>(c b a).1⟩⟩;rw[Int.mul_one]
 done:=by
  intro X l f m j i pins s σ H E I c st g;subst l f m;obtain⟨y,x,M,u,r,p⟩:=c it (by simp);exact wpAny_pyNext_range_end (I.ok.hd j) st (by have:n<=i:=g;omega) λh' O=>⟨rfl,I.turned (t':=s.toks) (λb o a e=>O b o a e) y x u r p⟩
 self:=λ_ _ _ _ _ st h=>wpAny_pyIter_rangeiter st h
section
variable {X:Cx}{tg:Expr}
def xv4(K:Fg)(tl:TE):TI:=λσ H R=>tl σ H λx H1=>∃a,x=.ref a/\(∃xs,SqL K H1 a xs)/\R (Itl K a) H1
def iTup(K:Fg)(tl:TE):TI:=λσ H R=>tl σ H λx H1=>∃a,x=.ref a/\(∃xs,SqT K H1 a xs)/\R (Itt K a) H1
theorem xtj{l:Expr}{tl:TE}(m:PE X l tl):PI X tg l (xv4 X.K tl):=by
 intro pins s σ H R I h;refine thn (m pins s σ H _ I h) λv c ⟨x,H1,f,g,i⟩=>?_;obtain⟨a,e,⟨xs,j⟩,q⟩:=i;subst e;cases g;obtain⟨its,r,p,hz⟩:=f.list j;refine wpAny_pyIter_list p.isList ?_;refine⟨c.heap.objs.size,[c.heap.objs.size],_,_,H1,rfl,f.kept (t':=c.toks) λb o e=>zPO _ e,xok a _,⟨_,z6 _ rfl,rfl,rfl⟩,λb n=>?_,q⟩;have e:b=c.heap.objs.size:=by simpa using n
 subst e;exact f.fpOk (zZ _) (f.hok.fresh (zZ _))
theorem xvd{l:Expr}{tl:TE}(m:PE X l tl):PI X tg l (iTup X.K tl):=by
 intro pins s σ H R I h;refine thn (m pins s σ H _ I h) λv c ⟨x,H1,f,g,i⟩=>?_;obtain⟨a,e,⟨xs,j⟩,q⟩:=i;subst e;cases g;obtain⟨its,r,p,hz⟩:=f.tuple j;refine wpAny_pyIter_tuple (show c.heap.IsTuple a its.toArray from p) ?_;refine⟨c.heap.objs.size,[c.heap.objs.size],_,_,H1,rfl,f.kept (t':=c.toks) λb o e=>zPO _ e,xnt a _,⟨_,z6 _ rfl,rfl,rfl⟩,λb n=>?_,q⟩;have e:b=c.heap.objs.size:=by simpa using n
 subst e;exact f.fpOk (zZ _) (f.hok.fresh (zZ _))
theorem xm1 {pins:List (Addr×Obj)} {σ:St} {H:Hp} {s:Shared} {R:It->Hp->Prop} {E:Value->Shared->Prop} {lo hi:Int} {t u v:Tok} {tk:Nat} (I:Inv X pins σ H s) (h1:-(2 ^ 62)<=lo) (h2:lo<2 ^ 62) (h3:-(2 ^ 62)<=hi) (h4:hi<2 ^ 62)
  (q:R (Itr lo (hi-lo).toNat) H):wpAny (model X.prog X.w) X.A (pyIter (.ref s.heap.objs.size)) (PIE X pins σ tg R) E {s with heap:=s.heap.push {cls:=.type "range",data:=.fields #[.int lo t,.int hi u,.int 1 v]},toks:=tk}:=by
 refine wpAny_pyIter_range (IsRange.new ..) (small_one h1 h2 h3 h4) ?_;have I1:Inv X pins σ H {s with heap:=s.heap.push {cls:=.type "range",data:=.fields #[.int lo t,.int hi u,.int 1 v]},toks:=tk}:=I.kept λb o e=>zPO _ e
 refine⟨(s.heap.push {cls:=.type "range",data:=.fields #[.int lo t,.int hi u,.int 1 v]}).objs.size,[(s.heap.push {cls:=.type "range",data:=.fields #[.int lo t,.int hi u,.int 1 v]}).objs.size],_,_,H,rfl,
  I1.kept (t':=tk) λb o e=>zPO _ e,xnu _ lo (hi-lo).toNat,?_,λb hb=>?_,q⟩
 ·have e1:lo+((0:Nat):Int)*1=lo:=by simp
  have e2:(((hi-lo).toNat:Nat):Int)-((0:Nat):Int)=Builtin.Range.rangeSize lo hi 1:=by rw[rangeSize_one];split <;> omega
  show IsRangeIter _ _ (lo+((0:Nat):Int)*1) ((((hi-lo).toNat:Nat):Int)-((0:Nat):Int)) 1;rw[e1,e2];exact z6 _ rfl
 ·have e:b=(s.heap.push {cls:=.type "range",data:=.fields #[.int lo t,.int hi u,.int 1 v]}).objs.size:=by simpa using hb
  subst e;exact I1.fpOk (zZ _) (I1.hok.fresh (zZ _))
def xxb(ta:TA):TI:=λσ H R=>ta σ H λvs H1=>∃j:Int,vs=[.int j]/\-(2 ^ 62)<=j/\j<2 ^ 62/\R (Itr 0 j.toNat) H1
def xxa(ta:TA):TI:=λσ H R=>ta σ H λvs H1=>∃i j:Int,vs=[.int i,.int j]/\(-(2 ^ 62)<=i/\i<2 ^ 62/\-(2 ^ 62)<=j/\j<2 ^ 62)/\R (Itr i (j-i).toNat) H1
theorem xcb{a:Expr}{ta:TA}{p pos:Pos}(l:Gl X "range")(i:X.mg "range"=none)(m:PA X [a] ta)(hs:starEach [a] X.env=[(false,eval a X.env)]:=by rfl):PI X tg (.Call (.Name "range" p) [a] [] pos) (xxb ta):=by
 intro pins s σ H R I h;refine Call_ (xna I l i boot_range (PyProof.Rows.callWith_type1 (thn (m pos pins s σ H _ I h) λus o ⟨vs,H1,n,f,b⟩=>?_) hs rfl));obtain⟨j,e,b,g,q⟩:=b;subst e
 cases f with
 |cons r c=>
  cases c;obtain⟨t,rfl⟩:=r;exact call_range_1 (xm1 n (by omega) (by omega) b g (by simpa using q))
theorem xpb {a b:Expr} {ta:TA} {p pos:Pos} (x:Gl X "range") (w:X.mg "range"=none) (y:PA X [a,b] ta) (hs:starEach [a,b] X.env=[(false,eval a X.env),(false,eval b X.env)]:=by rfl) (c:starEach [b] X.env=[(false,eval b X.env)]:=by rfl) :
  PI X tg (.Call (.Name "range" p) [a,b] [] pos) (xxa ta):=by
 intro pins s σ H R I h;refine Call_ (xna I x w boot_range (PyProof.Rows.callWith_type1 (thn (y pos pins s σ H _ I h) λus C ⟨vs,H1,z,l,g⟩=>?_) (by rw[hs,c]) (by rw[c];rfl)));obtain⟨i,j,e,⟨g,u,o,n⟩,q⟩:=g;subst e
 cases l with
 | cons r f=>
  cases f with
  |cons m f=>
   cases f;obtain⟨t,rfl⟩:=r;obtain⟨t',rfl⟩:=m;exact call_range_2 (xm1 z g u o n q)
def tFor(wi:TI)(g:TG)(tb:TS):TS:=λD σ H=>wi σ H λJ H1=>∃W:Nat->Nat->St->Hp->Prop,(∃m,W 0 m σ H1)/\∀i m σ H,W i m σ H->
 (J.stop i H/\D.nx σ H)\/(J.go i H/\∃N:St->Hp->Prop,(∀σ' H',N σ' H'->∃m',m'<m/\W (i+1) m' σ' H')/\∀x H',J.yld i H x H'->g x σ H' λσ2 H2=>tb {D with nx:=N,ct:=N,bk:=D.nx} σ2 H2)
def xjz(fp:List Addr)(h:Heap):List (Addr×Obj):=fp.filterMap λb=>(h.get? b).map λo=>(b,o)
theorem xew{a:List Addr}{h:Heap}{b:Addr}{o:Obj}(c:b∈a)(e:h.get? b=some o):(b,o)∈xjz a h:=List.mem_filterMap.mpr ⟨b,c,by rw[e];rfl⟩
theorem xpt{a:List Addr}{h:Heap}{p:Addr×Obj}(c:p∈xjz a h):p.1∈a/\h.get? p.1=some p.2:=by
 obtain⟨b,f,e⟩:=List.mem_filterMap.mp c
 cases q:h.get? b with
 |none=>rw[q]at e;cases e
 |some o=>
  rw[q]at e;have g:(b,o)=p:=z8 e;subst g;exact⟨f,q⟩
theorem Inv.pinned{pins:List (Addr×Obj)}{σ:St}{H:Hp}{s:Shared}{a:List Addr}(I:Inv X pins σ H s)(i:∀b∈a,FpOk X pins H b)(h:∀b∈a,∃o,s.heap.get? b=some o/\∀v,o.data≠.cell v):Inv X (pins++xjz a s.heap) σ H s:=
 I.pins_of λp g=>(zMA g).elim (λz=>I.pin p (zJ _ z)) λz=>by
  obtain⟨c,e⟩:=xpt z;obtain⟨m,l,j,_⟩:=i p.1 c;obtain⟨o,f,d⟩:=h p.1 c;rw[e]at f;cases f;exact⟨e,m,l,j,d⟩
theorem Inv.unpinned{pins pl:List (Addr×Obj)}{σ:St}{H:Hp}{s:Shared}(I:Inv X (pins++pl) σ H s):Inv X pins σ H s:=I.pins_of λp a=>I.pin p (zJ _ (zR _ a))
theorem xb5 {j:Expr} {G:List Stmt} {wi:TI} {g:TG} {tb:TS} {pos:Pos} (hp:PassesOwn (model X.prog X.w) X.A X.env X.xe) (hc:X.calm=true) (hi:PI X tg j wi) (hg:PG X tg g) (l:PSs X G tb)
  (hs:∀x,foldedSetIterable j X.env x=pure x:=by intro _;rfl):PS X (.For tg j G [] pos) (tFor wi g tb):=by
 intro pins s σ H D I h;refine wpAny_For (thn (hi pins s σ H _ I h) λv s1 h1=>thn h1 λa5 s2 h2=>?_) hs;obtain⟨it,fp,tn,J,H2,e,I2,T,a2,f2,W,⟨m0,w0⟩,Y⟩:=h2;subst e;have c:∀{H':Hp},(∀b∈fp,H' b=none)->∀b∈fp,FpOk X pins H' b:=λhn b l=>⟨hn b l,(f2 b l).2⟩;refine codeAny_forLoop_any (λn s'=>∃i U H',Inv X pins U H' s'/\tn i s'.heap/\(∀b∈fp,H' b=none)/\W i n U H') ?_ m0 ⟨0,σ,H2,I2,a2,λb l=>(f2 b l).1,w0⟩;rintro n s3 ⟨i,O,H3,I3,a0,a1,w3⟩;rcases Y i n O H3 w3 with⟨Z,qn⟩ |⟨go,N,hN,step⟩
 ·refine wpAny_passesOwn hp (thn (T.done X rfl rfl rfl hc i pins s3 O H3 X.xe I3 (c a1) a0 Z) λr s4 ⟨hr,I4⟩=>?_)
  subst hr;exact wpAny_execs_nil ⟨O,H3,I4,qn⟩
 ·refine wpAny_passesOwn hp (thn (T.item X rfl rfl rfl hc i pins s3 O H3 X.xe I3 (c a1) a0 go) λr s4 ⟨u,hr,h4⟩=>?_)
  subst hr;refine wpAny_passesOwn hp (thn h4 λ_ s5 ⟨x,H5,I5,r5,y5,M,a3⟩=>?_);have a4:=I5.pinned (c a3) (T.obj _ _ M);refine wpAny_passesOwn hp (thn (hg _ s5 O H5 x u _ a4 r5 (step x H5 y5)) λ_ s6 ⟨σ6,H6,I6,q6⟩=>?_);refine wpAny_passesOwn hp (thn (l _ s6 σ6 H6 _ I6 q6) λf s7 C=>?_)
  have p:∀{a:St} {z:Hp},Inv X (pins++xjz fp s5.heap) a z s7->N a z->∃m,m<n/\∃i U H',Inv X pins U H' s7/\tn i s7.heap/\(∀b∈fp,H' b=none)/\W i m U H':=λ{a z} y n7=>by
   obtain⟨m',hm,w7⟩:=hN a z n7;refine⟨m',hm,i+1,a,z,y.unpinned,T.keep _ _ _ M λb l o e=>(y.pin (b,o) (zJ _ (zJ _ (xew l e)))).1,λb l=>?_,w7⟩;obtain⟨o,e,d⟩:=T.obj _ _ M b l;exact(y.pin (b,o) (zJ _ (zJ _ (xew l e)))).2.1
  cases f with
  |next=>obtain⟨a,z,y,n7⟩:=C;exact p y n7
  |cont=>obtain⟨a,z,y,n7⟩:=C;exact p y n7
  |brk=>obtain⟨a,z,y,C⟩:=C;exact⟨a,z,y.unpinned,C⟩
  |ret v=>obtain⟨x7,a,z,y,r7,C⟩:=C;exact⟨x7,a,z,y.unpinned,r7,C⟩
end
theorem xea {K:Fg} {a:Addr} {xs:List V} {g:TG} {tb:TS} {D:Ends} {σ:St} {H:Hp} (Pv:Nat->St->Hp->Prop) (h0:Pv 0 σ H) (hl:∀i σ H,i<=xs.length->Pv i σ H->SqL K H a xs)
  (hs:∀i x σ H,xs[i]?=some x->Pv i σ H->g x σ H λσ2 H2=>tb {D with nx:=Pv (i+1),ct:=Pv (i+1),bk:=D.nx} σ2 H2) (hd:∀σ H,Pv xs.length σ H->D.nx σ H) :
  ∃W:Nat->Nat->St->Hp->Prop,(∃m,W 0 m σ H)/\∀i m σ H,W i m σ H->
   ((Itl K a).stop i H/\D.nx σ H)\/((Itl K a).go i H/\∃N:St->Hp->Prop,(∀σ' H',N σ' H'->∃m',m'<m/\W (i+1) m' σ' H')/\∀x H',(Itl K a).yld i H x H'->g x σ H' λσ2 H2=>tb {D with nx:=N,ct:=N,bk:=D.nx} σ2 H2):=by
 refine⟨λi m σ H=>m=xs.length-i/\i<=xs.length/\Pv i σ H,⟨xs.length,by simp,qL _,h0⟩,?_⟩;rintro i m σ H ⟨rfl,hi,p⟩;have q:=hl i σ H hi p;by_cases hlt:i<xs.length
 ·refine .inr ⟨⟨xs,xs[i],q,by simp[hlt]⟩,Pv (i+1),λσ' H' p'=>⟨xs.length-(i+1),by omega,rfl,hlt,p'⟩,λx H' y=>?_⟩
  obtain⟨e,y⟩:=y;subst e;exact hs i x σ _ (y xs q) p
 ·have e:i=xs.length:=by omega
  subst e;exact .inl ⟨⟨xs,q,zZ _⟩,hd σ H p⟩
theorem xcz {K:Fg} {a:Addr} {xs:List V} {g:TG} {tb:TS} {D:Ends} {σ:St} {H:Hp} (b:Nat->St->Hp->Prop) (h0:b 0 σ H) (n:∀i σ H,i<=xs.length->b i σ H->SqT K H a xs)
  (hs:∀i x σ H,xs[i]?=some x->b i σ H->g x σ H λf H2=>tb {D with nx:=b (i+1),ct:=b (i+1),bk:=D.nx} f H2) (hd:∀σ H,b xs.length σ H->D.nx σ H) :
  ∃W:Nat->Nat->St->Hp->Prop,(∃m,W 0 m σ H)/\∀i m σ H,W i m σ H->
   ((Itt K a).stop i H/\D.nx σ H)\/((Itt K a).go i H/\∃N:St->Hp->Prop,(∀h H',N h H'->∃j,j<m/\W (i+1) j h H')/\∀x H',(Itt K a).yld i H x H'->g x σ H' λf H2=>tb {D with nx:=N,ct:=N,bk:=D.nx} f H2):=by
 refine⟨λi m σ H=>m=xs.length-i/\i<=xs.length/\b i σ H,⟨xs.length,by simp,qL _,h0⟩,?_⟩;rintro i m σ H ⟨rfl,hi,p⟩;have q:=n i σ H hi p;by_cases c:i<xs.length
 ·refine .inr ⟨⟨xs,xs[i],q,by simp[c]⟩,b (i+1),λh H' l=>⟨xs.length-(i+1),by omega,rfl,c,l⟩,λx H' y=>?_⟩
  obtain⟨e,y⟩:=y;subst e;exact hs i x σ _ (y xs q) p
 ·have e:i=xs.length:=by omega
  subst e;exact .inl ⟨⟨xs,q,zZ _⟩,hd σ H p⟩
theorem xdi {lo:Int} {n:Nat} {g:TG} {tb:TS} {D:Ends} {σ:St} {H:Hp} (b:Nat->St->Hp->Prop) (h0:b 0 σ H)
  (hs:∀i σ H,i<n->b i σ H->g (.int (lo+i)) σ H λc H2=>tb {D with nx:=b (i+1),ct:=b (i+1),bk:=D.nx} c H2) (hd:∀σ H,b n σ H->D.nx σ H) :
  ∃W:Nat->Nat->St->Hp->Prop,(∃m,W 0 m σ H)/\∀i m σ H,W i m σ H->
   ((Itr lo n).stop i H/\D.nx σ H)\/((Itr lo n).go i H/\∃N:St->Hp->Prop,(∀f H',N f H'->∃h,h<m/\W (i+1) h f H')/\∀x H',(Itr lo n).yld i H x H'->g x σ H' λc H2=>tb {D with nx:=N,ct:=N,bk:=D.nx} c H2):=by
 refine⟨λi m σ H=>m=n-i/\i<=n/\b i σ H,⟨n,by simp,qL _,h0⟩,?_⟩;rintro i m σ H ⟨rfl,hi,p⟩;by_cases a:i<n
 ·refine .inr ⟨a,b (i+1),λf H' j=>⟨n-(i+1),by omega,rfl,a,j⟩,λx H' y=>?_⟩
  obtain⟨e,y⟩:=y;subst e y;exact hs i σ _ a p
 ·have e:i=n:=by omega
  subst e;exact .inl ⟨zZ _,hd σ H p⟩
abbrev R2:=V->V->Hp->VK->Prop
def OpR(X:Cx)(f:Value->Value->Sem Value)(r:R2):Prop:=
 ∀(pins:List (Addr×Obj)) (s:Shared) (σ:St) (H:Hp) (x y:V) (v u:Value) (Q:VK),Inv X pins σ H s->RelV x v->RelV y u->r x y H Q->
  wpAny (model X.prog X.w) X.A (f v u) (EP X pins σ Q) X.xe s
def UnR(X:Cx)(f:Value->Sem Value)(r:V->Hp->VK->Prop):Prop:=
 ∀(pins:List (Addr×Obj)) (s:Shared) (σ:St) (H:Hp) (x:V) (v:Value) (Q:VK),Inv X pins σ H s->RelV x v->r x H Q->
  wpAny (model X.prog X.w) X.A (f v) (EP X pins σ Q) X.xe s
def xe2(X:Cx)(f:Value)(r:List V->Hp->VK->Prop):Prop:=
 ∀(pins:List (Addr×Obj)) (s:Shared) (σ:St) (H:Hp) (xs:List V) (us:List Value) (Q:VK),Inv X pins σ H s->Vals xs us->r xs H Q->
  wpAny (model X.prog X.w) X.A (call f us) (EP X pins σ Q) X.xe s
def tOp(r:R2)(ta tb:TE):TE:=λσ H Q=>ta σ H λx H1=>tb σ H1 λy H2=>r x y H2 Q
def tUn(r:V->Hp->VK->Prop)(ta:TE):TE:=λσ H Q=>ta σ H λx H1=>r x H1 Q
def rI(C:Int->Int->Prop)(g:Int->Int->V):R2:=λx y H Q=>∃i j,x=.int i/\y=.int j/\C i j/\Q (g i j) H
def rI0(g:Int->Int->V):R2:=λx y H Q=>∃i j,x=.int i/\y=.int j/\Q (g i j) H
def rU(g:Int->V):V->Hp->VK->Prop:=λx H Q=>∃i,x=.int i/\Q (g i) H
section
variable {X:Cx}{a b c:Expr}{ta tb tc:TE}{pos:Pos}
theorem binT (r:PE X a ta) (p:PE X b tb) {pins:List (Addr×Obj)} {s:Shared} {σ:St} {H:Hp} {R:V->V->Hp->Prop} (I:Inv X pins σ H s)
  (h:ta σ H λx H1=>tb σ H1 λy H2=>R x y H2) {Q:Value->Shared->Prop} {f:Value->Value->Sem Value}
  (o:∀v u c x y H2,Inv X pins σ H2 c->RelV x v->RelV y u->R x y H2->wpAny (model X.prog X.w) X.A (f v u) Q X.xe c) :
  wpAny (model X.prog X.w) X.A (eval a X.env) (λv g=>wpAny (model X.prog X.w) X.A (eval b X.env) (λu e=>wpAny (model X.prog X.w) X.A (f v u) Q X.xe e) X.xe g) X.xe s:=by
 refine thn (r pins s σ H _ I h) λv i ⟨x,H1,C,l,n⟩=>?_;refine thn (p pins i σ H1 _ C n) λu c ⟨y,H2,z,j,m⟩=>?_;exact o v u c x y H2 z l j m
theorem xaq{op:Operator}{r:R2}(g:OpR X (binaryOp op) r)(j:PE X a ta)(i:PE X b tb):PE X (.BinOp a op b pos) (tOp r ta tb):=by
 intro pins s σ H Q I h;exact wpAny_BinOp (binT j i I h λv u c x y H2 l f e q=>g pins c σ H2 x y v u Q l f e q)
theorem xw4{op:UnaryOp}{r:V->Hp->VK->Prop}(f:UnR X (unaryOp op) r)(g:PE X a ta):PE X (.UnaryOp op a pos) (tUn r ta):=by
 intro pins s σ H Q I h;exact UnaryOp_ (thn (g pins s σ H _ I h) λv b ⟨x,H1,i,c,e⟩=>f pins b σ H1 x v Q i c e)
theorem opI {f:Value->Value->Sem Value} {C:Int->Int->Prop} {g:Int->Int->Int}
  (a:∀(i j:Int) (t u:Tok) (s:Shared) (Q:Value->Shared->Prop) (E:Value->Shared->Prop),C i j->Q (.int (g i j) s.toks) {s with toks:=s.toks+1}->wpAny (model X.prog X.w) X.A (f (.int i t) (.int j u)) Q E s) :
  OpR X f (rI C λi j=>.int (g i j)):=by
 intro pins s σ H x y v u Q I c b h;obtain⟨i,j,rfl,rfl,e,q⟩:=h;obtain⟨t,rfl⟩:=c;obtain⟨t',rfl⟩:=b;exact a i j t t' s _ _ e ⟨.int (g i j),H,I.tok _,⟨_,rfl⟩,q⟩
theorem opI0 {f:Value->Value->Sem Value} {g:Int->Int->Int}
  (a:∀(i j:Int) (t u:Tok) (s:Shared) (Q:Value->Shared->Prop) (E:Value->Shared->Prop),Q (.int (g i j) s.toks) {s with toks:=s.toks+1}->wpAny (model X.prog X.w) X.A (f (.int i t) (.int j u)) Q E s) :
  OpR X f (rI0 λi j=>.int (g i j)):=by
 intro pins s σ H x y v u Q I c b h;obtain⟨i,j,rfl,rfl,q⟩:=h;obtain⟨t,rfl⟩:=c;obtain⟨t',rfl⟩:=b;exact a i j t t' s _ _ ⟨.int (g i j),H,I.tok _,⟨_,rfl⟩,q⟩
theorem opB0 {f:Value->Value->Sem Value} {g:Int->Int->Bool}
  (a:∀(i j:Int) (t u:Tok) (s:Shared) (Q:Value->Shared->Prop) (E:Value->Shared->Prop),Q (.bool (g i j)) s->wpAny (model X.prog X.w) X.A (f (.int i t) (.int j u)) Q E s) :
  OpR X f (rI0 λi j=>.bl (g i j)):=by
 intro pins s σ H x y v u Q I c b h;obtain⟨i,j,rfl,rfl,q⟩:=h;obtain⟨t,rfl⟩:=c;obtain⟨t',rfl⟩:=b;exact a i j t t' s _ _ ⟨.bl (g i j),H,I,rfl,q⟩
def CPow(i j:Int):Prop:=0<=j/\j<=1000000/\i.natAbs<2 ^ 64
def CMul(i j:Int):Prop:=(-(2 ^ 64)<i/\i<2 ^ 64)\/(-(2 ^ 64)<j/\j<2 ^ 64)
theorem CMul.ok{i j:Int}(h:CMul i j):IntMulOk i j:=by
 rcases h with⟨h1,h2⟩ |⟨h1,h2⟩
 ·exact .of_left (intBits_le_64 h1 h2)
 ·exact .of_right (intBits_le_64 h1 h2)
theorem xbk:OpR X (binaryOp .Add) (rI0 λi j=>.int (i+j)):=opI0 λ_ _ _ _ _ _ _ q=>add_int q
theorem xc1:OpR X (binaryOp .Sub) (rI0 λi j=>.int (i-j)):=opI0 λ_ _ _ _ _ _ _ q=>sub_int q
theorem xdx:OpR X (binaryOp .Mult) (rI CMul λi j=>.int (i*j)):=opI λ_ _ _ _ _ _ _ a q=>mul_int q a.ok
theorem xcv:OpR X (binaryOp .Mod) (rI (λ_ j=>0<j) λi j=>.int (i%j)):=opI λi j _ _ _ _ _ hc q=>by
 have h1:(0:Int)<j:=hc;exact mod_int' (by omega) (by rw[Int.fmod_eq_emod_of_nonneg i (by omega)];exact q)
theorem xso:OpR X (binaryOp .Pow) (rI CPow λi j=>.int (i ^ j.toNat)):=opI λ_ _ _ _ _ _ _ a q=>pow_int_small a.1 a.2.1 a.2.2 q
theorem unI {f:Value->Sem Value} {g:Int->Int}
  (a:∀(i:Int) (t:Tok) (s:Shared) (Q:Value->Shared->Prop) (E:Value->Shared->Prop),Q (.int (g i) s.toks) {s with toks:=s.toks+1}->wpAny (model X.prog X.w) X.A (f (.int i t)) Q E s) :
  UnR X f (rU λi=>.int (g i)):=by
 intro pins s σ H x v Q I b h;obtain⟨i,rfl,q⟩:=h;obtain⟨t,rfl⟩:=b;exact a i t s _ _ ⟨.int (g i),H,I.tok _,⟨_,rfl⟩,q⟩
theorem xuj:UnR X (unaryOp .USub) (rU λi=>.int (-i)):=unI λ_ _ _ _ _ q=>neg_int q
end
def scal:V->V->Bool
 |.non,.non=>true |.non,.int _=>true |.int _,.non=>true |.non,.bl _=>true |.bl _,.non=>true |.non,.str _=>true |.str _,.non=>true
 |.int _,.int _=>true |.bl _,.bl _=>true |.str _,.str _=>true |.byt _,.byt _=>true
 |.int _,.str _=>true |.str _,.int _=>true |.bl _,.str _=>true |.str _,.bl _=>true
 |_,_=>false
def rEq:R2:=λx y H Q=>scal x y=true/\Q (.bl (decide (x=y))) H
def rNe:R2:=λx y H Q=>scal x y=true/\Q (.bl (!decide (x=y))) H
theorem xqs{i j:Int}:decide (V.int i=V.int j)=(i == j):=by
 rw[Bool.eq_iff_iff];simp
theorem xs0{i j:Bool}:decide (V.bl i=V.bl j)=(i == j):=by
 rw[Bool.eq_iff_iff];simp
theorem xqr{i j:Str}:decide (V.str i=V.str j)=(i == j):=by
 rw[Bool.eq_iff_iff];simp
theorem xqt{i j:Array UInt8}:decide (V.byt i=V.byt j)=(i.toList == j.toList):=by
 rw[Bool.eq_iff_iff];cases i;cases j;simp
section
variable {X:Cx}{a b c:Expr}{ta tb tc:TE}{pos:Pos}
theorem xb3{pins:List (Addr×Obj)}{σ:St}{H:Hp}{s:Shared}{Q:VK}{k k':Bool}(I:Inv X pins σ H s)(q:Q (.bl k) H)(e:k=k'):EP X pins σ Q (.bool k') s:=by
 subst e;exact⟨.bl k,H,I,rfl,q⟩
theorem xbf:OpR X (compareOp .Eq) rEq:=by
 intro pins s σ H x y v u Q I b a h;obtain⟨hs,q⟩:=h
 cases x with
 |non=>
  cases b
  cases y with
  |non=>cases a;exact PySem.EqNone.eq_none_none (xb3 I q (by simp))
  |bl j=>cases a;exact PySem.EqNone.eq_none_bool (xb3 I q (by simp))
  |int j=>obtain⟨t',rfl⟩:=a;exact PySem.EqNone.eq_none_int (xb3 I q (by simp))
  |str j=>obtain⟨t',rfl⟩:=a;exact PySem.EqNone.eq_none_str (xb3 I q (by simp))
  |_=>exact absurd (show false=true from hs) z7
 |bl i=>
  cases b
  cases y with
  |non=>cases a;exact PySem.EqNone.eq_bool_none (xb3 I q (by simp))
  |bl j=>cases a;exact eq_bool (xb3 I q xs0)
  |str j=>obtain⟨t',rfl⟩:=a;exact PySem.EqMixed.eq_bool_str (xb3 I q (by simp))
  |_=>exact absurd (show false=true from hs) z7
 |int i=>
  obtain⟨t,rfl⟩:=b
  cases y with
  |non=>cases a;exact PySem.EqNone.eq_int_none (xb3 I q (by simp))
  |int j=>obtain⟨t',rfl⟩:=a;exact eq_int (xb3 I q xqs)
  |str j=>obtain⟨t',rfl⟩:=a;exact PySem.EqMixed.eq_int_str (xb3 I q (by simp))
  |_=>exact absurd (show false=true from hs) z7
 |str i=>
  obtain⟨t,rfl⟩:=b
  cases y with
  |non=>cases a;exact PySem.EqNone.eq_str_none (xb3 I q (by simp))
  |bl j=>cases a;exact PySem.EqMixed.eq_str_bool (xb3 I q (by simp))
  |int j=>obtain⟨t',rfl⟩:=a;exact PySem.EqMixed.eq_str_int (xb3 I q (by simp))
  |str j=>obtain⟨t',rfl⟩:=a;exact eq_str (xb3 I q xqr)
  |_=>exact absurd (show false=true from hs) z7
 |byt i=>
  obtain⟨t,rfl⟩:=b
  cases y with
  |byt j=>obtain⟨t',rfl⟩:=a;exact PySem.W.eq_bytes (xb3 I q xqt)
  |_=>exact absurd (show false=true from hs) z7
 |_=>cases y <;> exact absurd (show false=true from hs) z7
theorem xph:OpR X (compareOp .NotEq) rNe:=by
 intro pins s σ H x y v u Q I b a h;obtain⟨hs,q⟩:=h
 cases x with
 |non=>
  cases b
  cases y with
  |non=>cases a;exact PySem.EqNone.ne_none_none (xb3 I q (by simp))
  |bl j=>cases a;exact PySem.EqNone.ne_none_bool (xb3 I q (by simp))
  |int j=>obtain⟨t',rfl⟩:=a;exact PySem.EqNone.ne_none_int (xb3 I q (by simp))
  |str j=>obtain⟨t',rfl⟩:=a;exact PySem.EqNone.ne_none_str (xb3 I q (by simp))
  |_=>exact absurd (show false=true from hs) z7
 |bl i=>
  cases b
  cases y with
  |non=>cases a;exact PySem.EqNone.ne_bool_none (xb3 I q (by simp))
  |bl j=>cases a;exact ne_bool (xb3 I q (congrArg not xs0))
  |str j=>obtain⟨t',rfl⟩:=a;exact PySem.EqMixed.ne_bool_str (xb3 I q (by simp))
  |_=>exact absurd (show false=true from hs) z7
 |int i=>
  obtain⟨t,rfl⟩:=b
  cases y with
  |non=>cases a;exact PySem.EqNone.ne_int_none (xb3 I q (by simp))
  |int j=>obtain⟨t',rfl⟩:=a;exact ne_int (xb3 I q (congrArg not xqs))
  |str j=>obtain⟨t',rfl⟩:=a;exact PySem.EqMixed.ne_int_str (xb3 I q (by simp))
  |_=>exact absurd (show false=true from hs) z7
 |str i=>
  obtain⟨t,rfl⟩:=b
  cases y with
  |non=>cases a;exact PySem.EqNone.ne_str_none (xb3 I q (by simp))
  |bl j=>cases a;exact PySem.EqMixed.ne_str_bool (xb3 I q (by simp))
  |int j=>obtain⟨t',rfl⟩:=a;exact PySem.EqMixed.ne_str_int (xb3 I q (by simp))
  |str j=>obtain⟨t',rfl⟩:=a;exact ne_str (xb3 I q (congrArg not xqr))
  |_=>exact absurd (show false=true from hs) z7
 |byt i=>
  obtain⟨t,rfl⟩:=b
  cases y with
  |byt j=>obtain⟨t',rfl⟩:=a;exact PySem.W.ne_bytes (xb3 I q (congrArg not xqt))
  |_=>exact absurd (show false=true from hs) z7
 |_=>cases y <;> exact absurd (show false=true from hs) z7
theorem xgy:OpR X (compareOp .Lt) (rI0 λi j=>.bl (decide (i<j))):=opB0 λ_ _ _ _ _ _ _ q=>lt_int q
theorem xd0:OpR X (compareOp .Gt) (rI0 λi j=>.bl (decide (j<i))):=opB0 λ_ _ _ _ _ _ _ q=>gt_int q
theorem xvn:OpR X (compareOp .GtE) (rI0 λi j=>.bl (decide (j<=i))):=opB0 λ_ _ _ _ _ _ _ q=>ge_int q
theorem xhy:OpR X (compareOp .Is) (λx y H Q=>y=.non/\Q (.bl (decide (x=.non))) H):=by
 intro pins s σ H x y v u Q I rx ry h;obtain⟨rfl,q⟩:=h;cases ry;refine is_none_gen (xb3 I q ?_)
 cases x <;> first
  |(cases rx;rfl)
  |(obtain⟨t,rfl⟩:=rx;rfl)
theorem nM(b:Expr){op:CmpOp}(h:op≠.In:=by decide)(h2:op≠.NotIn:=by decide):behindInMarks op b=false:=by
 have c:(op == CmpOp.In)=false:=by cases op <;> first |rfl |exact absurd rfl h
 have a:(op == CmpOp.NotIn)=false:=by cases op <;> first |rfl |exact absurd rfl h2
 cases b <;> simp[behindInMarks,c,a]
theorem xe9{op:CmpOp}{r:R2}(ho:OpR X (compareOp op) r)(ha:PE X a ta)(hb:PE X b tb)(hm:behindInMarks op b=false):PE X (.Compare a [op] [b] pos) (tOp r ta tb):=by
 intro pins s σ H Q I h;exact wpAny_Compare1 (binT ha hb I h λv u s2 x y H2 I2 rx ry q=>ho pins s2 σ H2 x y v u Q I2 rx ry q) hm
def xut(t:TE):TT:=λσ H Q=>t σ H λx H'=>∃k,x=.bl k/\Q k H'
theorem pR{op:CmpOp}{r:R2}(p:OpR X (compareOp op) r)(G:PE X a ta)(C:PE X b tb)(w:behindInMarks op b=false):PT X (.Compare a [op] [b] pos) (xut (tOp r ta tb)):=by
 intro pins s σ H Q I h
 refine wpAny_isTrue_Compare1 (thn (G pins s σ H _ I h) λv g ⟨x,H1,O,l,o⟩=>thn (C pins g σ H1 _ O o) λu f ⟨y,H2,M,j,n⟩=>
  thn (p pins f σ H2 x y v u _ M l j n) λc Y ⟨z,U,J,i,k,e,m⟩=>?_) w
 subst e;cases i;exact wpAny_truthy_bool ⟨U,J,m⟩
theorem xkj:(sizeLine:Nat)<2 ^ 63:=by rw[sizeLine_eq];decide
theorem xet:OpR X (binaryOp .Add) (λx y H Q=>∃i j,x=.str i/\y=.str j/\i.length+j.length<=sizeLine/\Q (.str (i++j)) H):=by
 intro pins s σ H x y v u Q I b a h;obtain⟨i,j,rfl,rfl,hz,q⟩:=h;obtain⟨t,rfl⟩:=b;obtain⟨t',rfl⟩:=a;exact add_str (λt' tk=>⟨.str (i++j),H,I.tok _,⟨_,rfl⟩,q⟩) hz
theorem xhg{x:V}{us:List Value}(r:Vals [x] us):∃u,us=[u]/\RelV x u:=by
 cases r with
 |cons b a=>cases a;exact⟨_,rfl,b⟩
theorem xui{x y:V}{us:List Value}(r:Vals [x,y] us):∃u a,us=[u,a]/\RelV x u/\RelV y a:=by
 cases r with
 |cons f e=>
  cases e with
  |cons c b=>cases b;exact⟨_,_,rfl,f,c⟩
theorem xqz(b:X.calm=true):xe2 X (.builtin "max") (λxs H Q=>∃i j,xs=[.int i,.int j]/\Q (.int (if j > i then j else i)) H):=by
 intro pins s σ H xs us Q I r h;obtain⟨i,j,rfl,q⟩:=h;obtain⟨u,c,rfl,⟨t,rfl⟩,⟨t',rfl⟩⟩:=xui r;refine max_two_ints (I.ok.hd b) λh' tk k=>⟨_,H,I.kept k,?_,q⟩;by_cases a:j > i
 ·rw[if_pos a,if_pos a];exact⟨_,rfl⟩
 ·rw[if_neg a,if_neg a];exact⟨_,rfl⟩
theorem xk0(b:X.calm=true):xe2 X (.builtin "min") (λxs H Q=>∃i j,xs=[.int i,.int j]/\Q (.int (if j<i then j else i)) H):=by
 intro pins s σ H xs us Q I r h;obtain⟨i,j,rfl,q⟩:=h;obtain⟨u,c,rfl,⟨t,rfl⟩,⟨t',rfl⟩⟩:=xui r;refine min_two_ints (I.ok.hd b) λh' tk k=>⟨_,H,I.kept k,?_,q⟩;by_cases a:j<i
 ·rw[if_pos a,if_pos a];exact⟨_,rfl⟩
 ·rw[if_neg a,if_neg a];exact⟨_,rfl⟩
theorem xhe:xe2 X (.type "int") (λxs H Q=>(∃i,xs=[.int i]/\Q (.int i) H)\/∃k,xs=[.bl k]/\Q (.int (if k then 1 else 0)) H):=by
 intro pins s σ H xs us Q I r h;rcases h with⟨i,rfl,q⟩ |⟨k,rfl,q⟩
 ·obtain⟨u,rfl,t,rfl⟩:=xhg r
  exact call_int_int ⟨.int i,H,I,⟨_,rfl⟩,q⟩
 ·obtain⟨u,rfl,a⟩:=xhg r
  cases a;exact call_int_bool ⟨.int (if k then 1 else 0),H,I.tok _,⟨_,rfl⟩,q⟩
end
structure ObjM(h:Heap)(x dx C:Addr)(mA:Str->Option Value):Prop where
 obj:h.get? x=some (PySem.W.instObj C dx)
 ns:h.Ns1 dx mA
 ne:dx≠x
theorem xp7{h:Heap}{dx:Addr}{mA:Str->Option Value}(n:h.Ns1 dx mA):∃od,h.get? dx=some od/\∀name,PySem.W.lookIn name od=some (mA name):=by
 obtain⟨o,es,ep,f,hd,i,_,g⟩:=n;refine⟨o,f,λname=>?_⟩;have e:=g name;unfold nsFind findBy at e;rw[<- Array.find?_toList]at e;unfold PySem.W.lookIn;rw[hd];dsimp only;split
 ·rename_i y q
  rw[q]at e;exact congrArg some e
 ·rename_i q
  rw[q]at e
  have a:es.toList.any (·.refKey)=false:=by
   rw[List.any_eq_false];intro y c;obtain⟨z,t,b⟩:=i y (Array.mem_toList_iff.mp c);simp[DictEntry.refKey,b]
  have j:¬es.toList.any (·.refKey)=true:=by rw[a];exact z7
  rw[if_neg j];exact congrArg some e
theorem ObjM.look{h:Heap}{x dx C:Addr}{mA:Str->Option Value}(I:ObjM h x dx C mA):∃od,PySem.W.InstAt h x (PySem.W.instObj C dx) C (some od)/\∀name,PySem.W.lookIn name od=some (mA name):=
 let ⟨od,a,b⟩:=xp7 I.ns
 ⟨od,⟨I.obj,rfl,rfl,a⟩,b⟩
section
variable {prog:Program}{w:World}{A:Around}{E:Value->Shared->Prop}{s:Shared}{K:Fg}{x dx C f:Addr}{mA:Str->Option Value}{name:Str}{v:Value}
theorem xud {a:Bool} {Q:Value->Shared->Prop} (X:K.In s.heap) (I:ObjM s.heap x dx C mA) (g:PySem.W.plainGet K C name=true) (f:PySem.W.hasDictIn K C=true)
  (i:PySem.W.findIn K (.ref C) name=some none) (c:mA name=some v) (b:PySem.W.handedIn v=true) (h:Q v {s with toks:=s.toks+1}) :
  wpAny (model prog w) A (getAttr (.ref x) name a) Q E s:=by
 obtain⟨od,J,e⟩:=I.look;exact PySem.W.get_value X J (PySem.W.plainGet_of g).1 (PySem.W.findObj_own f i rfl (by rw[e,c])) b h
theorem xr3 {pl:Sem Bool} {Q:Value×List Value->Shared->Prop} (X:K.In s.heap) (I:ObjM s.heap x dx C mA) (a:PySem.W.plainGet K C name=true)
  (g:PySem.W.findIn K (.ref C) name=some (some (.ref f))) (c:PySem.W.isFn K (.ref f)=true) (b:mA name=none) (h:Q (.ref f,[.ref x]) s) :
  wpAny (model prog w) A (getMethod (.ref x) name pl) Q E s:=by
 obtain⟨od,J,e⟩:=I.look;exact PySem.W.method_fn X J (PySem.W.plainGet_of a).1 (PySem.W.plainGet_of a).2 g (beq_iff_eq.mp c) (by show(PySem.W.lookIn name od).map (·.isSome)=some false;rw[e,b];rfl) h
theorem xtf {ns:List Str} {Q:Unit->Shared->Prop} (X:K.In s.heap) (I:ObjM s.heap x dx C mA)
  (hs:PySem.W.findIn K (.ref C) "__setattr__"=some (some (.builtin "object.__setattr__"))) (o:PySem.W.plainOver K C=true) (n:PySem.W.takerIn K C name=some none) (p:PySem.W.hasDictIn K C=true)
  (m:PySem.Within mA ns) (hsz:ns.length<=sizeLine)
  (h:∀h',ObjM h' x dx C (λy=>if y=name then some v else mA y)->Heap.SameBut dx s.heap h'->Q () {s with heap:=h',toks:=s.toks+2}) :
  wpAny (model prog w) A (setAttr (.ref x) name v) Q E s:=by
 obtain⟨od,J,O⟩:=I.look;refine PySem.W.set_plain X J hs (PySem.W.osa_open (s:={s with toks:=s.toks+1}) (r:=none) X J o n λb=>?_);obtain⟨cd,u,i⟩:=PySem.W.any_some p;have l:s.heap.get? x=some ⟨.ref C,some dx,.plain,#[]⟩:=I.obj;refine zX (z3 (zX (zX (wpAny_loadPart l (zX (PySem.W.Looks.here (s:={s with toks:=s.toks+1}) (PySem.W.looks_clsIn X u) ?_))))));rw[i];refine z3 (a:=some dx) (zX (z3 (zX ?_)));refine wpAny_nsSet1 (s:={s with toks:=s.toks+1}) I.ns λh' e c=>?_;obtain⟨M,z,G,f,g,j⟩:=e.count (PySem.Within.cons name v m);refine zX (wpAny_lookBehind f (by rw[g];exact pastItsLine_dict (zY j (by rw[List.length_cons];omega))) ?_);exact z3 (h _ ⟨(c.2 _ (Ne.symm I.ne)).trans I.obj,e,I.ne⟩ c)
theorem xru {R:Result->Shared->Prop} {vs:List Value} {kw:List (Str×Value)} (X:K.In s.heap) (hm:PySem.W.makesIn K C=true)
  (hi:PySem.W.findIn K (.ref C) "__init__"=some (some (.ref f))) (hf:PySem.W.typeIn K (.ref f)=some (.type "function"))
  (h:codeAny (model prog w) (A.under (.builtin "type.__call__" ⟨.ref C::vs,kw⟩)) (.call (.ref f) ⟨.ref (s.heap.objs.size+1)::vs,kw⟩) (PySem.W.InitBack (s.heap.objs.size+1) R)
   {s with heap:=(s.heap.push PySem.W.emptyDict).push (PySem.W.instObj C s.heap.objs.size)}) :
  codeAny (model prog w) A (.call (.ref C) ⟨vs,kw⟩) R s:=by
 obtain⟨hh,g,d,t,os⟩:=s;exact PySem.W.make_core (PySem.W.makes_of X hm) (PySem.W.looks_findIn X hi) (λself=>PySem.W.bind_fn X self hf) (.inl rfl) h
end
def putF(f:Str)(v:V):List (Str×V)->List (Str×V)
 |[]=>[(f,v)]
 |(g,x)::r=>if g=f then (g,v)::r else (g,x)::putF f v r
theorem xbw(f g:Str)(v:V):∀fs:List (Str×V),(putF f v fs).lookup g=if g=f then some v else fs.lookup g
 | []=>by
  show List.lookup g [(f,v)]=_;by_cases h:g=f
  ·have a:(g == f)=true:=beq_iff_eq.mpr h
   simp only[List.lookup,a,if_pos h]
  ·have a:(g == f)=false:=beq_eq_false_iff_ne.mpr h
   simp only[List.lookup,a,if_neg h]
 | (k,x)::r=>by
  have c:=xbw f g v r;rw[show putF f v ((k,x)::r)=(if k=f then (k,v)::r else (k,x)::putF f v r) from rfl];by_cases b:k=f
  ·rw[if_pos b]
   by_cases h:g=k
   ·have a:(g == k)=true:=beq_iff_eq.mpr h
    simp only[List.lookup,a,if_pos (h.trans b)]
   ·have a:(g == k)=false:=beq_eq_false_iff_ne.mpr h
    simp only[List.lookup,a,if_neg (λe:g=f=>h (e.trans b.symm))]
  ·rw[if_neg b]
   by_cases h:g=k
   ·have a:(g == k)=true:=beq_iff_eq.mpr h
    simp only[List.lookup,a,if_neg (λe:g=f=>b (h.symm.trans e))]
   ·have a:(g == k)=false:=beq_eq_false_iff_ne.mpr h
    simp only[List.lookup,a];exact c
theorem xg6(f:Str)(v:V):∀fs:List (Str×V),f∈(putF f v fs).map (·.1)/\∀g,g∈fs.map (·.1)->g∈(putF f v fs).map (·.1)
 |[]=>⟨by simp[putF],λg h=>by simp at h⟩
 | (k,x)::r=>by
  obtain⟨c,b⟩:=xg6 f v r;rw[show putF f v ((k,x)::r)=(if k=f then (k,v)::r else (k,x)::putF f v r) from rfl];by_cases a:k=f
  ·rw[if_pos a]
   subst a;exact⟨by simp,λg h=>by simpa using h⟩
  ·rw[if_neg a]
   refine⟨?_,λg h=>?_⟩
   ·rw[List.map_cons]
    exact qC _ c
   ·rw[List.map_cons]at h⊢
    rcases zMC h with e |e
    ·exact List.mem_cons.mpr (.inl e)
    ·exact qC _ (b g e)
theorem xav(f:Str)(v:V):∀fs:List (Str×V),(putF f v fs).length<=fs.length+1
 |[]=>by simp[putF]
 |(k,x)::r=>by
  have b:=xav f v r;rw[show putF f v ((k,x)::r)=(if k=f then (k,v)::r else (k,x)::putF f v r) from rfl];by_cases a:k=f
  ·rw[if_pos a,List.length_cons,List.length_cons];omega
  ·rw[if_neg a,List.length_cons,List.length_cons];omega
theorem RelO.some_of{v:V}{o:Option Value}(r:RelO (some v) o):∃u,o=some u/\RelV v u:=by
 cases o with
 |none=>exact(show False from r).elim
 |some u=>exact⟨u,rfl,r⟩
theorem RelO.none_of{o:Option Value}(r:RelO none o):o=none:=by
 cases o with
 |none=>rfl
 |some u=>exact(show False from r).elim
theorem xqi{v:V}{u:Value}(r:RelV v u):PySem.W.handedIn u=true:=by
 cases v with
 |non=>cases (show u=Value.none from r);rfl
 |bl b=>cases (show u=Value.bool b from r);rfl
 |int i=>obtain⟨t,e⟩:=(show ∃t,u=Value.int i t from r);cases e;rfl
 |str x=>obtain⟨t,e⟩:=(show ∃t,u=Value.str x t from r);cases e;rfl
 |byt b=>obtain⟨t,e⟩:=(show ∃t,u=Value.bytes b t from r);cases e;rfl
 |flt b=>obtain⟨t,e⟩:=(show ∃t,u=Value.float b t from r);cases e;rfl
 |ref a=>cases (show u=Value.ref a from r);rfl
 |ty n=>cases (show u=Value.type n from r);rfl
section
variable {P:Program}{w:World}{H H':Hp}{h h':Heap}{a C dx:Addr}{fs fs':List (Str×V)}
theorem xl4(b:HOk P w H h)(e:H a=some (.ins C dx fs)):∃mA,ObjM h a dx C mA/\(∀f,RelO (fs.lookup f) (mA f))/\PySem.Within mA (fs.map (·.1))/\fs.length<=1000/\H dx=some (.own a):=by
 obtain⟨d,z,ne,c,mA,n,r,q⟩:=(show ObjOk P w H h a (.ins C dx fs) from b a _ e);exact⟨mA,⟨c,n,ne⟩,r,q,z,d⟩
end
structure Cls(K:Fg)(C:Addr):Prop where
 pg:PySem.W.plainGet K C Str.empty=true
 hd:PySem.W.hasDictIn K C=true
 po:PySem.W.plainOver K C=true
 sa:PySem.W.findIn K (.ref C) "__setattr__"=some (some (.builtin "object.__setattr__"))
theorem Cls.get{K:Fg}{C:Addr}(c:Cls K C)(f:Str):PySem.W.plainGet K C f=true:=c.pg
def NoAttr(K:Fg)(C:Addr)(f:Str):Prop:=PySem.W.findIn K (.ref C) f=some none
theorem NoAttr.taker{K:Fg}{C:Addr}{f:Str}(n:NoAttr K C f):PySem.W.takerIn K C f=some none:=by
 unfold PySem.W.takerIn;rw[show PySem.W.findIn K (.ref C) f=some none from n];rfl
structure Meth(K:Fg)(C:Addr)(m:Str)(f:Addr):Prop where
 at_:PySem.W.findIn K (.ref C) m=some (some (.ref f))
 fn:PySem.W.isFn K (.ref f)=true
 kp:PySem.W.keepIn K (.ref f)=true
section
variable {X:Cx}{pins:List (Addr×Obj)}{σ:St}{H:Hp}{s:Shared}{a C dx:Addr}{fs:List (Str×V)}{f:Str}{v:V}{A:Around}{E:Value->Shared->Prop}
theorem xob {b:Bool} {Q:Value->Shared->Prop} (I:Inv X pins σ H s) (e:H a=some (.ins C dx fs)) (c:Cls X.K C) (n:NoAttr X.K C f) (l:fs.lookup f=some v)
  (h:∀u s',Inv X pins σ H s'->RelV v u->Q u s'):wpAny (model X.prog X.w) A (getAttr (.ref a) f b) Q E s:=by
 obtain⟨mA,O,r,_,_,_⟩:=xl4 I.hok e;obtain⟨u,i,g⟩:=RelO.some_of (v:=v) (o:=mA f) (by rw[<- l];exact r f);exact xud I.kIn O (c.get f) c.hd n i (xqi g) (h u _ (I.tok _) g)
theorem xh3 {m:Str} {g:Addr} {pl:Sem Bool} {Q:Value×List Value->Shared->Prop} (I:Inv X pins σ H s) (e:H a=some (.ins C dx fs)) (c:Cls X.K C) (k:Meth X.K C m g) (l:fs.lookup m=none)
  (h:Q (.ref g,[.ref a]) s):wpAny (model X.prog X.w) A (getMethod (.ref a) m pl) Q E s:=by
 obtain⟨mA,O,r,_,_,_⟩:=xl4 I.hok e;have hn:mA m=none:=RelO.none_of (by rw[<- l];exact r m);exact xr3 I.kIn O (c.get m) k.at_ k.fn hn h
theorem xn0 {y:V} {u:Value} {Q:Unit->Shared->Prop} (I:Inv X pins σ H s) (e:H a=some (.ins C dx fs)) (c:Cls X.K C) (n:NoAttr X.K C f) (U:fs.length<1000) (p:RelV y u)
  (h:∀s',Inv X pins σ (upd H a (.ins C dx (putF f y fs))) s'->Q () s'):wpAny (model X.prog X.w) A (setAttr (.ref a) f u) Q E s:=by
 obtain⟨mA,O,r,j,_,l⟩:=xl4 I.hok e;have hz:(fs.map (·.1)).length<=sizeLine:=by rw[zLM,sizeLine_eq];omega
 refine xtf I.kIn O c.sa c.po n.taker c.hd j hz λh' i m=>h _ ?_;have hd:∃o,h'.get? dx=some o:=let ⟨o,_,_,M,_⟩:=i.ns;⟨o,M⟩;refine I.write (x:=a) (e:=dx) (by rw[e];exact True.intro) (.inr l) (λb q J z=>(m.2 b J).trans z) hd ?_;refine⟨by rw[xak O.ne];exact l,?_,O.ne,i.obj,_,i.ns,λg=>?_,λg G=>?_⟩
 ·have:=xav f y fs;omega
 ·show RelO ((putF f y fs).lookup g) (if g=f then some u else mA g)
  rw[xbw];by_cases q:g=f
  ·rw[if_pos q,if_pos q];exact p
  ·rw[if_neg q,if_neg q];exact r g
 ·by_cases q:g=f
  ·rw[q];exact(xg6 f y fs).1
  ·refine(xg6 f y fs).2 g (j g λz=>G ?_)
   show(if g=f then some u else mA g)=none;rw[if_neg q];exact z
theorem Inv.made (I:Inv X pins σ H s):Inv X pins σ (upd (upd H s.heap.objs.size (.own (s.heap.objs.size+1))) (s.heap.objs.size+1) (.ins C s.heap.objs.size []))
  {s with heap:=(s.heap.push PySem.W.emptyDict).push (PySem.W.instObj C s.heap.objs.size)}:=by
 have e1:(s.heap.push PySem.W.emptyDict).get? s.heap.objs.size=some PySem.W.emptyDict:=z6 s.heap rfl
 have e2:((s.heap.push PySem.W.emptyDict).push (PySem.W.instObj C s.heap.objs.size)).get? (s.heap.objs.size+1)=some (PySem.W.instObj C s.heap.objs.size):=by
  have:=z6 (s.heap.push PySem.W.emptyDict) (o:=PySem.W.instObj C s.heap.objs.size) rfl
  rwa[Heap.size_push]at this
 have e3:(s.heap.push PySem.W.emptyDict).Ns s.heap.objs.size (λ_=>none):=⟨PySem.W.emptyDict,#[],_,e1,rfl,(λe he=>absurd he (by simp)),λ_=>rfl⟩;have I1:=I.laid (a:=s.heap.objs.size) (o:=.own (s.heap.objs.size+1)) (h':=s.heap.push PySem.W.emptyDict) (t':=s.toks) (λb u q=>zPO _ q) (zZ _) ⟨_,e1⟩;refine I1.laid (a:=s.heap.objs.size+1) (o:=.ins C s.heap.objs.size []) (t':=s.toks) (λb u q=>zPO _ q) (Nat.le_of_eq (Heap.size_push _ _)) ?_;have ne:s.heap.objs.size≠s.heap.objs.size+1:=z9 (Nat.lt_succ_self _);refine⟨by rw[xak ne,ups],qL _,ne,e2,λ_=>none,(Heap.Ns1.of_empty e3).at λo q=>zPO _ q,λ_=>True.intro,λy hy=>absurd rfl hy⟩
theorem xuh {prog:Program} {w:World} {env:Env} {e:Expr} {f:Str} {pos:Pos} {s:Shared} {Q:Value->Shared->Prop} (hb:attributeBase e f env (eval e env)=eval e env)
  (h:wpAny (model prog w) A (eval e env) (λo s₁=>wpAny (model prog w) A (getAttr o f true) Q E s₁) E s):wpAny (model prog w) A (eval (.Attribute e f pos) env) Q E s:=
 Attribute_any_ h (by rw[arm_eval_Attribute,hb])
end
def tFld(K:Fg)(ta:TE)(f:Str):TE:=λσ H Q=>ta σ H λx H1=>∃a C dx fs v,x=.ref a/\H1 a=some (.ins C dx fs)/\Cls K C/\NoAttr K C f/\fs.lookup f=some v/\Q v H1
def sFld(K:Fg)(ta tv:TE)(f:Str):TS:=λD σ H=>tv σ H λy H1=>ta σ H1 λx H2=>∃a C dx fs,x=.ref a/\H2 a=some (.ins C dx fs)/\Cls K C/\NoAttr K C f/\fs.length<1000 ∧
 D.nx σ (upd H2 a (.ins C dx (putF f y fs)))
section
variable {X:Cx}{o e value:Expr}{f:Str}{pos pos' tpos:Pos}{ta tv:TE}
theorem xbz(i:PE X e ta)(j:attributeBase e f X.env (eval e X.env)=eval e X.env):PE X (.Attribute e f pos) (tFld X.K ta f):=by
 intro pins s σ H Q I h;refine xuh j (thn (i pins s σ H _ I h) λu y ⟨x,H1,p,b,a,C,dx,fs,v,ex,m,c,n,l,q⟩=>?_);subst ex;obtain rfl:u=Value.ref a:=b;exact xob p m c n l λr w o g=>⟨v,H1,o,g,q⟩
theorem xdv(p:PE X o ta)(m:PE X value tv)(hs:swapsWith value (some (.Attribute o f pos')) pos.line X.env=pure false):PS X (.Assign [.Attribute o f pos'] value pos) (sFld X.K ta tv f):=by
 intro pins s σ H D I h;refine plainObj_wpAny_Assign_Attribute (thn (m pins s σ H _ I h) λu b ⟨y,H1,G,e,q⟩=>thn (p pins b σ H1 _ G q) λj M ⟨x,H2,z,g,a,C,dx,fs,ex,r,c,n,l,i⟩=>?_) hs;subst ex;obtain rfl:j=Value.ref a:=g;exact xn0 z r c n l e λJ w=>⟨σ,_,w,i⟩
end
structure Room(k:Nat)(A:Around):Prop where
 hd:(A.handled,A.guards)=(none,some [])
 dp:A.depth+3*k+5<recursionLimit
 un:A.units+16*k+200<cLine
theorem Room.mono{j k:Nat}{A:Around}(r:Room k A)(h:j<=k):Room j A:=⟨r.hd,by have:=r.dp;omega,by have:=r.un;omega⟩
theorem Room.deeper{k:Nat}{A:Around}(r:Room (k+1) A)(env:Env):Room k (A.deeper env):=
 ⟨r.hd,by have:=r.dp;show A.depth+1+3*k+5<_;omega,by have:=r.un;show A.units+3+16*k+200<_;omega⟩
theorem xn9{A:Around}{C:Addr}{us:List Value}{kw:List (Str×Value)}:(A.under (.builtin "type.__call__" ⟨.ref C::us,kw⟩)).depth=A.depth+1:=by
 first |rfl |simp[Around.under,Code.weight,Code.isCreation,Code.isGuard,Code.isCaller,Code.frames,Code.isFrame,guardIds]
theorem xn8{A:Around}{C:Addr}{us:List Value}{kw:List (Str×Value)}:(A.under (.builtin "type.__call__" ⟨.ref C::us,kw⟩)).units=A.units+1:=by
 first |rfl |simp[Around.under,Code.cUnits,Code.frames,Code.isFrame]
theorem xl1{A:Around}{C:Addr}{us:List Value}{kw:List (Str×Value)}:(A.under (.builtin "type.__call__" ⟨.ref C::us,kw⟩)).guards=A.guards:=by
 first |rfl |(cases h:A.guards <;> simp[Around.under,Code.guards,Code.isGuard,guardIds,pushGuards,h])
theorem Room.make{k:Nat}{A:Around}(r:Room (k+1) A)(C:Addr)(us:List Value)(kw:List (Str×Value)):Room k (A.under (.builtin "type.__call__" ⟨.ref C::us,kw⟩)):=
 ⟨by show(A.handled,_)=_;rw[xl1];exact r.hd,by have:=r.dp;rw[xn9];omega,by have:=r.un;rw[xn8];omega⟩
theorem Room.depth{k:Nat}{A:Around}(r:Room k A):A.depth<recursionLimit:=by have:=r.dp;omega
theorem Room.units{k:Nat}{A:Around}(r:Room k A):A.units+64<cLine:=by have:=r.un;omega
def tNil:TA:=λ_ H Q=>Q [] H
def xlb(ta:TE)(tr:TA):TA:=λσ H Q=>ta σ H λx H1=>tr σ H1 λxs H2=>Q (x::xs) H2
section
variable {X:Cx}{e:Expr}{es:List Expr}{te:TE}{t:TA}{pos:Pos}
theorem pN:PA X [] tNil:=λ_ _ _ _ H Q I h=>Calls.spliced_nil ⟨[],H,I,.nil,h⟩
theorem pc(j:PE X e te)(i:PA X es t)(hs:starEach (e::es) X.env=(false,eval e X.env)::starEach es X.env:=by rfl):PA X (e::es) (xlb te t):=by
 intro pos pins s σ H Q I h;rw[hs];show wpAny _ _ (spliced ((false,eval e X.env)::backTo pos (starEach es X.env))) _ _ s;refine Calls.spliced_cons (thn (j pins s σ H _ I h) λu a ⟨x,H1,m,c,g⟩=>?_);exact thn (i pos pins a σ H1 _ m g) λus n ⟨xs,H2,l,b,f⟩=>⟨x::xs,H2,l,.cons c b,f⟩
def tTup(t:TA):TE:=λσ H Q=>t σ H λxs H1=>xs.length<=sizeLine/\∀p,H1 p=none->Q (.ref p) (upd H1 p (.tup xs))
def tLst(t:TA):TE:=λσ H Q=>t σ H λxs H1=>xs.length<=sizeLine/\∀p,H1 p=none->Q (.ref p) (upd H1 p (.lst xs))
theorem xa2{f}(h:PA X es t):PE X (.Tuple es f pos) (tTup t):=by
 intro pins s σ H Q I g;refine wpAny_Tuple_spliced (thn (h pos pins s σ H _ I g) λus a ⟨xs,H1,c,r,z,q⟩=>⟨by rw[<- r.length];exact z,?_⟩);have i:H1 a.heap.objs.size=none:=c.hok.fresh (zZ _);refine⟨.ref a.heap.objs.size,upd H1 a.heap.objs.size (.tup xs),c.laid (t':=a.toks) (λb u e=>zPO _ e) (zZ _) ?_,rfl,q _ i⟩;exact⟨z,us,r,⟨_,z6 _ rfl,rfl,_,rfl,rfl⟩⟩
theorem xcd(h:PA X es t):PE X (.List es pos) (tLst t):=by
 intro pins s σ H Q I f;refine wpAny_List_spliced (thn (h pos pins s σ H _ I f) λus a ⟨xs,H1,c,r,z,q⟩=>⟨by rw[<- r.length];exact z,?_⟩);have g:H1 a.heap.objs.size=none:=c.hok.fresh (zZ _);refine⟨.ref a.heap.objs.size,upd H1 a.heap.objs.size (.lst xs),c.laid (t':=a.toks) (λb u e=>zPO _ e) (zZ _) ?_,rfl,q _ g⟩;exact⟨z,us,0,r,z6 _ rfl⟩
end
abbrev Sp:=List V->Hp->VK->XK->Prop
abbrev CXT:=List Env->Hp->Shared->XK->Value->Shared->Prop
structure Env0(P:Program)(w:World)(K:Fg)(mg:Str->Option Value)(base:Heap)(A:Around)(outer:List Env)(s:Shared)(H:Hp):Prop where
 frames:A.frames=some outer
 mod:Mod K mg base
 bs:∀b o,base.get? b=some o->s.heap.get? b=some o/\H b=none
 bsz:base.objs.size<=s.heap.objs.size
 funs:s.heap.FunFrames base outer
 frf:∀b∈frs outer,H b=none
 hok:HOk P w H s.heap
 bare:AllBare s.gens
def CE(outer:List Env)(P:Program)(w:World)(H:Hp)(s:Shared)(Q:VK)(u:Value)(s':Shared):Prop:=
 ∃v H',s'.os=s.os/\AllBare s'.gens/\Un (frs outer) [] H H' s.heap s'.heap/\HOk P w H' s'.heap/\RelV v u/\Q v H'
def CR(CX:CXT)(outer:List Env)(P:Program)(w:World)(H:Hp)(s:Shared)(Q:VK)(E:XK)(r:Result)(s':Shared):Prop:=
 match r with
 |.ok (.ret u)=>CE outer P w H s Q u s'
 |.ok _=>False
 |.error e=>CX outer H s E e s'
structure FnOk(P:Program)(w:World)(K:Fg)(mg:Str->Option Value)(base:Heap)(CX:CXT)(k:Nat)(f:Addr)(fd:FuncData)(ps:List Str)(sp:Sp):Prop where
 len:∀vs H Q E,sp vs H Q E->vs.length=ps.length
 run:∀(A:Around) (outer:List Env) (s:Shared) (H:Hp) (args:Args) (us:List Value) (vs:List V) (Q:VK) (E:XK),Room k A->Env0 P w K mg base A outer s H->BindsTo s fd args (ps.zip us)->Vals vs us->sp vs H Q E->
  codeAny (model P w) A (.call (.ref f) args) (CR CX outer P w H s Q E) s
theorem FnOk.mono {P:Program} {w:World} {K:Fg} {mg:Str->Option Value} {base:Heap} {CX:CXT} {j k:Nat} {f:Addr} {fd:FuncData} {ps:List Str} {sp:Sp} (F:FnOk P w K mg base CX j f fd ps sp) (h:j<=k) :
  FnOk P w K mg base CX k f fd ps sp:=⟨F.len,λA outer s H args us vs Q E a=>F.run A outer s H args us vs Q E (a.mono h)⟩
theorem FnOk.imp {P:Program} {w:World} {K:Fg} {mg:Str->Option Value} {base:Heap} {CX:CXT} {k:Nat} {f:Addr} {fd:FuncData} {ps:List Str} {sp sp':Sp} (F:FnOk P w K mg base CX k f fd ps sp)
  (h:∀vs H Q E,sp' vs H Q E->sp vs H Q E):FnOk P w K mg base CX k f fd ps sp':=
 ⟨λvs H Q E q=>F.len vs H Q E (h _ _ _ _ q),λA outer s H args us vs Q E hr he hb hv hs=>F.run A outer s H args us vs Q E hr he hb hv (h _ _ _ _ hs)⟩
theorem Env0.make {P:Program} {w:World} {K:Fg} {mg:Str->Option Value} {base:Heap} {A:Around} {outer:List Env} {s:Shared} {H:Hp} (e:Env0 P w K mg base A outer s H) (C:Addr) (us:List Value) (kw:List (Str×Value)) :
  Env0 P w K mg base (A.under (.builtin "type.__call__" ⟨.ref C::us,kw⟩)) outer s H:=⟨by first |exact e.frames |(simpa[Around.under,Code.envs,Code.isFrame,pushEnvs] using e.frames),e.mod,e.bs,e.bsz,e.funs,e.frf,e.hok,e.bare⟩
section
variable {X:Cx}{pins:List (Addr×Obj)}{σ:St}{H:Hp}{s s':Shared}
theorem Inv.env0(I:Inv X pins σ H s):Env0 X.prog X.w X.K X.mg X.base X.A X.stack s H:=
 ⟨I.ok.frames,I.ok.mod,I.bs,zY I.ok.bsz I.sz,I.stack,I.stkFree,I.hok,I.bare⟩
theorem Inv.after{Q:VK}{u:Value}(I:Inv X pins σ H s)(h:CE X.stack X.prog X.w H s Q u s'):EP X pins σ Q u s':=by
 obtain⟨v,H',os,bare,un,hok,r,q⟩:=h;obtain⟨hh,g,d,t,os'⟩:=s';obtain rfl:os'=s.os:=os;exact⟨v,H',I.call (h':=hh) (g':=g) (d':=d) (t':=t) (ch:=[]) un hok bare (λb z=>absurd z (by simp)),r,q⟩
end
def xop(sp:Sp)(dvs:List V)(E:XK)(t:TA):TE:=λσ H Q=>t σ H λvs H1=>sp (vs++dvs) H1 Q E
def xq4(C:Addr)(m:Str)(sp:Sp)(dvs:List V)(E:XK)(ta:TE)(t:TA):TE:=λσ H Q=>ta σ H λx H1=>∃a dx fs,x=.ref a/\H1 a=some (.ins C dx fs)/\fs.lookup m=none ∧
 t σ H1 λvs H2=>sp (x::(vs++dvs)) H2 Q E
def xuu(C:Addr)(sp:Sp)(dvs:List V)(E:XK)(t:TA):TE:=λσ H Q=>t σ H λvs H1=>∀x dx,H1 x=none->H1 dx=none->dx≠x->
 sp (.ref x::(vs++dvs)) (upd (upd H1 dx (.own x)) x (.ins C dx [])) (λv H2=>v=.non/\Q (.ref x) H2) E
def Binds(K:Fg)(fd:FuncData)(ps:List Str)(ds:List Value):Prop:=
 ∀(s:Shared) (us:List Value),K.In s.heap->(us++ds).length=ps.length->BindsTo s fd ⟨us,[]⟩ (ps.zip (us++ds))
theorem Binds.all{K:Fg}{fd:FuncData}{ps:List Str}(h:∀us:List Value,us.length=ps.length->bindArgs fd ⟨us,[]⟩=pure (ps.zip us)):Binds K fd ps []:=λs us _ hl=>by
 rw[List.append_nil]at hl⊢;exact .of_eq (h us hl)
def xhf(CX:CXT)(X:Cx)(E:XK):Prop:=∀(pins:List (Addr×Obj)) (σ:St) (H:Hp) (s:Shared) (e:Value) (s':Shared),Inv X pins σ H s->CX X.stack H s E e s'->X.xe e s'
section
variable {X:Cx}{CX:CXT}{k:Nat}{f C:Addr}{fd:FuncData}{ps:List Str}{sp:Sp}{dvs:List V}{ds:List Value}{E:XK}{x m:Str}{p pos apos:Pos}{e o:Expr}{es:List Expr}{ta:TE}{t:TA}
theorem xmz {pins:List (Addr×Obj)} {σ:St} {H:Hp} {s:Shared} {Q:VK} {us:List Value} {vs:List V} (F:FnOk X.prog X.w X.K X.mg X.base CX k f fd ps sp) (hr:Room k X.A) (hb:Binds X.K fd ps ds) (hd:Vals dvs ds) (hx:xhf CX X E)
  (I:Inv X pins σ H s) (r:Vals vs us) (h:sp (vs++dvs) H Q E):wpAny (model X.prog X.w) X.A (call (.ref f) us) (EP X pins σ Q) X.xe s:=by
 have r2:Vals (vs++dvs) (us++ds):=r.append hd;have hl:(us++ds).length=ps.length:=by rw[<- r2.length];exact F.len _ _ _ _ h
 refine wpAny_call (codeAny_mono (F.run X.A X.stack s H ⟨us,[]⟩ (us++ds) (vs++dvs) Q E hr I.env0 (hb s us I.kIn hl) r2 h) λr s' hq=>?_)
 cases r with
 |error e=>exact hx pins σ H s e s' I hq
 |ok fl=>
  cases fl with
  |ret u=>exact I.after hq
  |next=>exact False.elim hq
  |brk=>exact False.elim hq
  |cont=>exact False.elim hq
theorem xto (F:FnOk X.prog X.w X.K X.mg X.base CX k f fd ps sp) (i:Room k X.A) (m:Gl X x) (j:X.mg x=some (.ref f)) (l:PySem.W.keepIn X.K (.ref f)=true) (o:Binds X.K fd ps ds) (hd:Vals dvs ds) (g:xhf CX X E)
  (u:PA X (e::es) t) (b:(x == ("__debug__":Str))=false:=by decide) (n:starEach (e::es) X.env=(false,eval e X.env)::starEach es X.env:=by rfl) (a:(backTo pos (starEach es X.env)).any (·.1)=false:=by rfl) :
  PE X (.Call (.Name x p) (e::es) [] pos) (xop sp dvs E t):=by
 intro pins s σ H Q I h;refine wpAny_Call_Name_kw (xi4 I m j ?_ b);refine PySem.W.callWith_K (h₀:=X.base) I.ok.mod.kin l (thn (u pos pins s σ H _ I h) λus y ⟨vs,H1,c,r,q⟩=>⟨c.kIn,?_⟩) n a;exact xmz F i o hd g c r q
theorem xtl {pl:Sem Bool} (he:PE X o ta) (c:Cls X.K C) (hm:Meth X.K C m f) (F:FnOk X.prog X.w X.K X.mg X.base CX k f fd ps sp) (hr:Room k X.A) (hb:Binds X.K fd ps ds) (hd:Vals dvs ds) (hx:xhf CX X E) (ha:PA X (e::es) t)
  (hst:starEach (e::es) X.env=(false,eval e X.env)::starEach es X.env:=by rfl) (hpl:(backTo pos (starEach es X.env)).any (·.1)=false:=by rfl)
  (ht:eval (.Call (.Attribute o m apos) (e::es) [] pos) X.env=(do
   let ov <- eval o X.env
   standAt apos.atName
   let (f,first) <- holding [ov] (getMethod ov m pl)
   callWith pos f first (backTo pos (starEach (e::es) X.env)) (backToKw pos (keywordEach [] X.env))):=by rfl) :
  PE X (.Call (.Attribute o m apos) (e::es) [] pos) (xq4 C m sp dvs E ta t):=by
 intro pins s σ H Q I h;refine PySem.W.methodCall_KW (pl:=pl) (thn (he pins s σ H _ I h) λu s1 ⟨x,H1,I1,rx,a,dx,fs,ex,ea,l,q⟩=>?_) ht;subst ex;obtain rfl:u=Value.ref a:=rx;refine xh3 I1 ea c hm l ?_;refine PySem.W.callWith_K (first:=[.ref a]) (h₀:=X.base) I.ok.mod.kin hm.kp (thn (ha pos pins s1 σ H1 _ I1 q) λus s2 ⟨vs,H2,I2,r,q2⟩=>⟨I2.kIn,?_⟩) hst hpl;exact xmz (us:=.ref a::us) (vs:=.ref a::vs) F hr hb hd hx I2 (.cons rfl r) q2
theorem xrd {pl:Sem Bool} (he:PE X o ta) (c:Cls X.K C) (hm:Meth X.K C m f) (F:FnOk X.prog X.w X.K X.mg X.base CX k f fd ps sp) (hr:Room k X.A) (hb:Binds X.K fd ps ds) (hd:Vals dvs ds) (hx:xhf CX X E)
  (ht:eval (.Call (.Attribute o m apos) [] [] pos) X.env=(do
   let ov <- eval o X.env
   standAt apos.atName
   let (f,first) <- holding [ov] (getMethod ov m pl)
   callWith pos f first (backTo pos (starEach [] X.env)) (backToKw pos (keywordEach [] X.env))):=by rfl) :
  PE X (.Call (.Attribute o m apos) [] [] pos) (xq4 C m sp dvs E ta tNil):=by
 intro pins s σ H Q I h;refine PySem.W.methodCall_KW (pl:=pl) (thn (he pins s σ H _ I h) λu s1 ⟨x,H1,I1,rx,a,dx,fs,ex,ea,l,q⟩=>?_) ht;subst ex;obtain rfl:u=Value.ref a:=rx;refine xh3 I1 ea c hm l ?_;exact PySem.W.callWith_K0 (first:=[.ref a]) I1.kIn hm.kp (xmz (us:=[.ref a]) (vs:=[.ref a]) F hr hb hd hx I1 (.cons rfl .nil) q)
structure Mk(K:Fg)(C f:Addr):Prop where
 makes:PySem.W.makesIn K C=true
 init:PySem.W.findIn K (.ref C) "__init__"=some (some (.ref f))
 fn:PySem.W.isFn K (.ref f)=true
 kp:PySem.W.keepIn K (.ref C)=true
theorem xrb {pins:List (Addr×Obj)} {σ:St} {H:Hp} {s:Shared} {Q:VK} {us:List Value} {vs:List V} (M:Mk X.K C f) (F:FnOk X.prog X.w X.K X.mg X.base CX k f fd ps sp) (m:Room (k+1) X.A) (o:Binds X.K fd ps ds) (hd:Vals dvs ds)
  (l:xhf CX X E) (I:Inv X pins σ H s) (r:Vals vs us)
  (h:∀x dx,H x=none->H dx=none->dx≠x->sp (.ref x::(vs++dvs)) (upd (upd H dx (.own x)) x (.ins C dx [])) (λv H2=>v=.non/\Q (.ref x) H2) E) :
  wpAny (model X.prog X.w) X.A (call (.ref C) us) (EP X pins σ Q) X.xe s:=by
 have g:=h (s.heap.objs.size+1) s.heap.objs.size (I.hok.fresh (qG _)) (I.hok.fresh (zZ _)) (z9 (Nat.lt_succ_self _));have b:=Inv.made (C:=C) I;have c:Vals (V.ref (s.heap.objs.size+1)::(vs++dvs)) (Value.ref (s.heap.objs.size+1)::(us++ds)):=.cons rfl (r.append hd)
 have n:(Value.ref (s.heap.objs.size+1)::us++ds).length=ps.length:=by
  have e:=c.length;rw[F.len _ _ _ _ g]at e;exact e.symm
 refine wpAny_call (xru (f:=f) I.kIn M.makes M.init (beq_iff_eq.mp M.fn) (codeAny_mono (F.run _ X.stack _ _ ⟨Value.ref (s.heap.objs.size+1)::us,[]⟩ (Value.ref (s.heap.objs.size+1)::(us++ds)) _ _ E (m.make C us [])
  (b.env0.make C us []) (o _ (Value.ref (s.heap.objs.size+1)::us) b.kIn n) c g) λr s' a=>?_))
 cases r with
 |error e=>exact l pins σ _ _ e s' b a
 | ok p=>
  cases p with
  |ret u=>
   obtain⟨v,H',z,i,y,j⟩:=b.after a;subst y;exact⟨i,⟨V.ref (s.heap.objs.size+1),H',z,rfl,j⟩⟩
  |next=>exact False.elim a
  |brk=>exact False.elim a
  |cont=>exact False.elim a
theorem xtm (M:Mk X.K C f) (F:FnOk X.prog X.w X.K X.mg X.base CX k f fd ps sp) (i:Room (k+1) X.A) (l:Gl X x) (j:X.mg x=some (.ref C)) (n:Binds X.K fd ps ds) (hd:Vals dvs ds) (g:xhf CX X E)
  (o:PA X (e::es) t) (b:(x == ("__debug__":Str))=false:=by decide) (m:starEach (e::es) X.env=(false,eval e X.env)::starEach es X.env:=by rfl) (a:(backTo pos (starEach es X.env)).any (·.1)=false:=by rfl) :
  PE X (.Call (.Name x p) (e::es) [] pos) (xuu C sp dvs E t):=by
 intro pins s σ H Q I h;refine wpAny_Call_Name_kw (xi4 I l j ?_ b);refine PySem.W.callWith_K (h₀:=X.base) I.ok.mod.kin M.kp (thn (o pos pins s σ H _ I h) λus u ⟨vs,H1,c,r,q⟩=>⟨c.kIn,?_⟩) m a;exact xrb M F i n hd g c r q
end
structure FnScope(N P:List Str)(sc:Scope):Prop where
 kind:sc.kind=.function
 co:sc.isCoroutine=false
 gen:sc.isGenerator=false
 nd:N.Nodup
 pre:N.take P.length=P
 par:∀x∈P,sc.names.lookup x=some .local\/sc.names.lookup x=some .cell
 nofree:∀y∈sc.names,y.2≠.free
theorem xk2{a:Str->Option NameKind}{x:Str}:∀{binds:List (Str×Value)} {m:Str->Option Value},(∀v,(x,v) ∉binds)->bindL a binds m x=m x
 |[],_,_=>rfl
 | (n,v)::r,m,h=>by
  unfold bindL;rw[xk2 λw b=>h w (qC _ b)];split
  ·have:x≠n:=by rintro rfl;exact h v List.mem_cons_self
   simp[this]
  ·rfl
theorem xk4{a:Str->Option NameKind}{x:Str}:∀{binds:List (Str×Value)} {m:Str->Option Value},(∀v,(x,v) ∉binds)->bindC a binds m x=m x
 |[],_,_=>rfl
 | (n,v)::r,m,h=>by
  unfold bindC;rw[xk4 λw b=>h w (qC _ b)];split
  ·rfl
  ·have:x≠n:=by rintro rfl;exact h v List.mem_cons_self
   simp[this]
theorem xk3 {a:Str->Option NameKind} {x:Str} {v:Value}:∀{P:List Str} {vs:List Value} {i:Nat} {m:Str->Option Value},P.Nodup->P[i]?=some x->vs[i]?=some v->a x=some .local->
  bindL a (P.zip vs) m x=some v
 |[],_,_,_,_,h,_,_=>by simp at h
 |_::_,[],_,_,_,_,h,_=>by simp at h
 |p::P,w::vs,0,m,nd,h1,h2,b=>by
  simp at h1 h2;subst h1;subst h2;show bindL a ((p,w)::P.zip vs) m p=_;unfold bindL;rw[xk2 λv c=>(List.nodup_cons.mp nd).1 (List.of_mem_zip c).1,if_pos b];simp
 |p::P,w::vs,i+1,m,nd,h1,h2,b=>by
  show bindL a ((p,w)::P.zip vs) m x=_;unfold bindL;exact xk3 (i:=i) (List.nodup_cons.mp nd).2 (by simpa using h1) (by simpa using h2) b
theorem xk5 {a:Str->Option NameKind} {x:Str} {v:Value}:∀{P:List Str} {vs:List Value} {i:Nat} {m:Str->Option Value},P.Nodup->P[i]?=some x->vs[i]?=some v->a x≠some .local->
  bindC a (P.zip vs) m x=some v
 |[],_,_,_,_,h,_,_=>by simp at h
 |_::_,[],_,_,_,_,h,_=>by simp at h
 |p::P,w::vs,0,m,nd,h1,h2,b=>by
  simp at h1 h2;subst h1;subst h2;show bindC a ((p,w)::P.zip vs) m p=_;unfold bindC;rw[xk4 λv c=>(List.nodup_cons.mp nd).1 (List.of_mem_zip c).1,if_neg b];simp
 |p::P,w::vs,i+1,m,nd,h1,h2,b=>by
  show bindC a ((p,w)::P.zip vs) m x=_;unfold bindC;exact xk5 (i:=i) (List.nodup_cons.mp nd).2 (by simpa using h1) (by simpa using h2) b
def xf0(N:List Str)(vs:List V):St:=vs.map some++List.replicate (N.length-vs.length) none
def cxOf(CX:CXT)(P:Program)(w:World)(K:Fg)(mg:Str->Option Value)(base:Heap)(N:List Str)(qual:Str)(scope:Scope)(f:Addr)(cd:Value)(A:Around)(outer:List Env)(s:Shared)(H:Hp)(E:XK):Cx where
 prog:=P
 w:=w
 K:=K
 mg:=mg
 base:=base
 A:=A.deeper (envOfC qual scope s.heap.objs.size f cd)
 N:=N
 s₀:=s
 H₀:=H
 env:=envOfC qual scope s.heap.objs.size f cd
 outer:=outer
 stack:=envOfC qual scope s.heap.objs.size f cd::outer
 ex:=[]
 calm:=true
 fn:=λ_=>true
 pn:=[]
 xe:=λe s'=>wpAny (model P w) (A.deeper (envOfC qual scope s.heap.objs.size f cd)) (leaving (envOfC qual scope s.heap.objs.size f cd) e) (λ_ s''=>CX outer H s E e s'') (λe' s''=>CX outer H s E e' s'') s'
theorem xnq{a:Scope}{n:Nat}{x:Str}(h:a.names.lookup x=some .cell):∃c,(cellsFrom n a.names []).lookup x=some c:=by
 have q:=PySem.W.cellsFrom_some a.names n [] (.inl h);exact Option.isSome_iff_exists.mp q
theorem xqf {CX:CXT} {P:Program} {w:World} {K:Fg} {mg:Str->Option Value} {base:Heap} {N ps:List Str} {j:Str} {g:Scope} {f:Addr} {cd:Value} {A:Around} {outer:List Env} {s I:Shared} {H:Hp} {E:XK} {us:List Value} {vs:List V}
  (S:FnScope N ps g) (hd:A.handled=none) (l:Env0 P w K mg base A outer s H) (Z:vs.length=ps.length) (r:Vals vs us)
  (x:InCallC s s.heap.objs.size (bindL (envOfC j g s.heap.objs.size f cd).kindOf (ps.zip us) λ_=>none) (cellsFrom (s.heap.objs.size+1) g.names []) (bindC (envOfC j g s.heap.objs.size f cd).kindOf (ps.zip us) λ_=>none) I) :
  Inv (cxOf CX P w K mg base N j g f cd A outer s H E) [] (xf0 N vs) H I:=by
 have U:ps.length<=N.length:=by have:=congrArg List.length S.pre;rw[List.length_take]at this;omega
 obtain⟨h1,tk,rfl,M⟩:=x.done;have m:∀b:Addr,b ∉(cxOf CX P w K mg base N j g f cd A outer s H E).ex:=λb z=>absurd (show b∈([]:List Addr) from z) (by simp)
 refine⟨⟨l.mod,S.kind,rfl,rfl,zZ _,λy z c h1 h2=>?_,λy o=>?_,λy c _ h=>?_,λ_=>hd,Around.frames_deeper l.frames,.inr ⟨rfl,rfl⟩,λb z=>absurd z (m b),l.bs,l.bsz,λb _ _=>m b,λb z=>absurd z (m b),l.funs,l.frf⟩,
  rfl,l.bare,Un.kept M,⟨_,x.toInCall.ns,λi y v h1 h2 h3=>?_⟩,λy c h=>⟨_,x.cell y c h⟩,l.hok.fresh (zZ _),λy c h=>?_,λp G=>absurd (show p∈([]:List (Addr×Obj)) from G) (by simp),l.hok.kept M,?_⟩
 ·exact name_of_addr x.apart (zN h1) (zN h2)
 ·have o:g.names.lookup y=some .cell\/g.names.lookup y=some .free:=o
  rcases o with o |o
  ·exact xnq o
  ·exact absurd rfl (S.nofree _ (zN o))
 ·exact Nat.le_of_lt (x.above y c (zN h))
 ·have hi:i<vs.length:=by
   unfold xf0 at h2;by_cases hi:i<vs.length
   ·exact hi
   ·rw[List.getElem?_append_right (by simpa using hi)]at h2
    rw[List.getElem?_replicate]at h2;split at h2 <;> cases h2
  have Y:vs[i]?=some v:=by
   unfold xf0 at h2;rw[List.getElem?_append_left (by simpa using hi),zGM]at h2
   cases e:vs[i]? with
   |none=>rw[e]at h2;cases h2
   |some a=>rw[e]at h2;cases h2;rfl
  obtain⟨u,J,O⟩:=r.get Y
  have G:ps[i]?=some y:=by
   rw[<- S.pre,List.getElem?_take_of_lt (by omega)];exact h1
  have C:ps.Nodup:=by rw[<- S.pre];exact S.nd.sublist (List.take_sublist _ _)
  refine⟨u,O,?_⟩;rcases S.par y (zMG G) with k |k
  ·exact .inl ⟨k,xk3 C G J k⟩
  ·obtain⟨c,e⟩:=xnq (n:=s.heap.objs.size+1) k
   refine .inr ⟨.inl k,c,e,?_⟩;have q:=x.cell y c e;rw[xk5 C G J (by show g.names.lookup y≠_;rw[k];decide)]at q;exact q
 ·exact l.hok.fresh (Nat.le_of_lt (x.above y c (zN h)))
 ·unfold xf0
  show _=N.length;rw[zLA,zLM,List.length_replicate];omega
theorem xv7 {CX:CXT} {P:Program} {w:World} {K:Fg} {mg:Str->Option Value} {base:Heap} {k:Nat} {f:Addr} {name qual:Str} {params:Arguments} {body:List Stmt} {scope:Scope} {dV kV doc pm cdv ct oc:Value} {an od:Option Addr}
  {osl:Array (Option Value)} {N ps:List Str} {sp:Sp} (lk:K.lookup f=some ⟨oc,od,.func (PySem.W.fnOf name qual params body scope dV kV doc pm an cdv ct),osl⟩) (hcd:PySem.W.codeIn K cdv qual=true) (S:FnScope N ps scope)
  (len:∀vs H Q E,sp vs H Q E->vs.length=ps.length)
  (hbody:∀(A:Around) (outer:List Env) (s:Shared) (H:Hp) (vs:List V) (Q:VK) (E:XK),Room k (A.deeper (envOfC qual scope s.heap.objs.size f cdv))->sp vs H Q E->
   ∃t,PSs (cxOf CX P w K mg base N qual scope f cdv A outer s H E) body t/\t {nx:=λ_ H'=>Q .non H',rt:=Q} (xf0 N vs) H) :
  FnOk P w K mg base CX (k+1) f (PySem.W.fnOf name qual params body scope dV kV doc pm an cdv ct) ps sp:=by
 refine⟨len,λA outer s H args us vs Q E hr e0 hb r hsp=>?_⟩;have hl:=len _ _ _ _ hsp;have KX:K.In s.heap:=e0.mod.kin.keeps λb o e=>(e0.bs b o e).1;have lim:s.heap.NoLimit:=e0.mod.nolimit.keeps λb o e=>(e0.bs b o e).1
 have hkind:∀y∈ps.zip us,scope.names.lookup y.1=some .local\/(scope.names.lookup y.1=some .cell/\((cellsFrom (s.heap.objs.size+1) scope.names []).lookup y.1).isSome=true):=λ⟨n,v⟩ hy=>by
  rcases S.par n (List.of_mem_zip hy).1 with q |q
  ·exact .inl q
  ·exact .inr ⟨q,PySem.W.cellsFrom_some _ _ _ (.inl q)⟩
 refine codeAny_call_function hr.depth (KX _ _ lk) rfl S.co S.gen rfl (PySem.W.codeRec_of KX hcd) (hb _ _ _ _ ?_);refine wpAny_newFunctionEnv_cells S.kind hkind λenv he s1 x=>?_;subst he;refine⟨lim.keeps x.toInCall.keep,codeAny_func ?_⟩;obtain⟨t,ht,hq⟩:=hbody A outer s H vs Q E (hr.deeper _) hsp;have I:Inv (cxOf CX P w K mg base N qual scope f cdv A outer s H E) [] (xf0 N vs) H s1:=xqf S (Prod.mk.inj hr.hd).1 e0 hl r x;refine wpAny_mono (ht [] s1 (xf0 N vs) H _ I hq) (λfl s' hs=>?_) λe s' hs=>hs
 have fin:∀{σ':St} {H':Hp} {v:V} {u:Value},Inv (cxOf CX P w K mg base N qual scope f cdv A outer s H E) [] σ' H' s'->RelV v u->Q v H'->CE outer P w H s Q u s':=
  λ{σ' H' v u} J rv q=>⟨v,H',J.os,J.bare,J.base,J.hok,rv,q⟩
 cases fl with
 |ret u=>
  obtain⟨v,σ',H',J,rv,q⟩:=hs;exact fin J rv q
 |next=>
  obtain⟨σ',H',J,q⟩:=hs;exact fin (v:=V.non) (u:=Value.none) J rfl q
 |brk=>
  obtain⟨_,_,_,q⟩:=hs;exact False.elim q
 |cont=>
  obtain⟨_,_,_,q⟩:=hs;exact False.elim q
section
variable {X:Cx}{x:Str}{p pos:Pos}{e:Expr}{es:List Expr}{t:TA}{id T:String}{r:List V->Hp->VK->Prop}
def tCB(r:List V->Hp->VK->Prop)(t:TA):TE:=λσ H Q=>t σ H λvs H1=>r vs H1 Q
theorem xax (hc:xe2 X (.builtin id) r) (hg:Gl X x) (hm:X.mg x=none) (hv:bootBuiltins x=some (.builtin id)) (ha:PA X (e::es) t) (hn:x≠"__name__":=by decide) (hdb:(x == ("__debug__":Str))=false:=by decide)
  (he:starEach (e::es) X.env=(false,eval e X.env)::starEach es X.env:=by rfl) (hpl:(backTo pos (starEach es X.env)).any (·.1)=false:=by rfl):PE X (.Call (.Name x p) (e::es) [] pos) (tCB r t):=by
 intro pins s σ H Q I h;refine wpAny_Call_Name_kw (xna I hg hm hv ?_ hn hdb);exact PyProof.Rows.callWith_builtin1 (thn (ha pos pins s σ H _ I h) λus s1 ⟨vs,H1,I1,r1,q1⟩=>hc pins s1 σ H1 vs us Q I1 r1 q1) he hpl
theorem xau (hc:xe2 X (.type T) r) (hg:Gl X x) (hm:X.mg x=none) (hv:bootBuiltins x=some (.type T)) (ha:PA X (e::es) t) (hn:x≠"__name__":=by decide) (hdb:(x == ("__debug__":Str))=false:=by decide)
  (he:starEach (e::es) X.env=(false,eval e X.env)::starEach es X.env:=by rfl) (hpl:(backTo pos (starEach es X.env)).any (·.1)=false:=by rfl):PE X (.Call (.Name x p) (e::es) [] pos) (tCB r t):=by
 intro pins s σ H Q I h;refine wpAny_Call_Name_kw (xna I hg hm hv ?_ hn hdb);exact PyProof.Rows.callWith_type1 (thn (ha pos pins s σ H _ I h) λus s1 ⟨vs,H1,I1,r1,q1⟩=>hc pins s1 σ H1 vs us Q I1 r1 q1) he hpl
end
end L2
namespace HT
open PySem PyProof.Rows
section
variable {prog:Program}{w:World}{A:Around}{E:Value->Shared->Prop}{s:Shared}
theorem cat_tup {t b:Addr} {vs ws:List Value} {Q:Value->Shared->Prop} (ht:IsTup s.heap t vs.toArray) (hb:IsTup s.heap b ws.toArray) (hv:vs≠[])
  (h1:ws=[]->Q (.ref t) s) (h2:ws≠[]->Q (.ref s.heap.objs.size) {s with heap:=s.heap.push {cls:=.type "tuple",data:=.seq (vs++ws).toArray}})
  (hsz:vs.length+ws.length<=sizeLine):wpAny (model prog w) A (binaryOp .Add (.ref t) (.ref b)) Q E s:=by
 obtain⟨⟨cls,dd,data,sl⟩,ho,hc,n,hd⟩:=id ht;obtain⟨⟨cls2,dd2,data2,sl2⟩,ho2,hc2,n2,hd2⟩:=id hb;simp only at hc hd hc2 hd2;subst hc hd hc2 hd2;have e:vs.toArray++ws.toArray=(vs++ws).toArray:=by simp
 by_cases hw:ws=[]
 ·exact concat_meets ⟨_,ho,rfl⟩ ⟨_,ho2,rfl⟩ noFill_tuple_add seq_tuple_add PySem.F.slot_tuple_add PySem.F.entry_tuple_add (PySem.F.args_tuple_add_2 _ _)
   (tuple_addW1 t b vs.toArray ws.toArray n n2 dd dd2 sl sl2 (by simpa using hv) (by simp[hw])) ⟨ho,ho2,h1 hw⟩
 ·refine concat_meets ⟨_,ho,rfl⟩ ⟨_,ho2,rfl⟩ noFill_tuple_add seq_tuple_add PySem.F.slot_tuple_add PySem.F.entry_tuple_add (PySem.F.args_tuple_add_2 _ _)
   (tuple_addW2 t b vs.toArray ws.toArray n n2 dd dd2 sl sl2 (by simpa using hv) (by simpa using hw) (by rw[List.size_toArray,List.size_toArray];exact hsz)) ⟨ho,ho2,?_⟩
  rw[e];exact h2 hw
def sIx(n d:Nat):Option Int->Nat
 |none=>d
 |some v=>if v<0 then (v+(n:Int)).toNat else min v.toNat n
theorem sIx_none(n d:Nat):sIx n d none=d:=rfl
theorem sIx_nat(n d k:Nat):sIx n d (some (k:Int))=min k n:=by
 show(if (k:Int)<0 then ((k:Int)+(n:Int)).toNat else min (k:Int).toNat n)=min k n;rw[if_neg (by omega),Int.toNat_natCast]
end
end HT
namespace L2
open PySem PySem.Spec PyProof.Rows
abbrev TO:=St->Hp->(Option Int->Hp->Prop)->Prop
def PO(X:Cx)(e:Option Expr)(t:TO):Prop:=
 ∀(pins:List (Addr×Obj)) (s:Shared) (σ:St) (H:Hp) (Q:Option Int->Hp->Prop),Inv X pins σ H s->t σ H Q->
  wpAny (model X.prog X.w) X.A (evalPart e X.env) (λu s'=>∃o H',Inv X pins σ H' s'/\IsPart u o/\Q o H') X.xe s
def xs9:TO:=λ_ H Q=>Q none H
def xwq(t:TE):TO:=λσ H Q=>t σ H λx H1=>∃i,x=.int i/\Q (some i) H1
theorem xh1{ns:List Int}:∀{us:List Value},Vals (ns.map V.int) us->IntsAre us ns:=by
 induction ns with
 |nil=>intro us r;rw[List.map_nil]at r;cases r;exact .nil
 | cons n ns c=>
  intro us r;rw[List.map_cons]at r
  cases r with
  |cons b a=>
   obtain⟨t,e⟩:=b;subst e;exact .cons n t (c a)
section
variable {X:Cx}{e:Expr}{te:TE}{lo hi:Option Expr}{tl th:TO}{pos p2:Pos}
theorem xis:PO X none xs9:=by
 intro pins s σ H Q I h;rw[evalPart_none];exact z3 ⟨none,H,I,.none,h⟩
theorem xeg(h:PE X e te):PO X (some e) (xwq te):=by
 intro pins s σ H Q I c;rw[evalPart_some];refine thn (h pins s σ H _ I c) λu g ⟨x,H1,f,a,b⟩=>?_;obtain⟨i,rfl,q⟩:=b;obtain⟨t,rfl⟩:=a;exact⟨some i,H1,f,.int i t,q⟩
def SlR(X:Cx)(r:V->Option Int->Option Int->Hp->VK->Prop):Prop:=
 ∀(pins:List (Addr×Obj)) (s:Shared) (σ:St) (H:Hp) (x:V) (v vl vu:Value) (lo hi:Option Int) (sl:Addr) (Q:VK),Inv X pins σ H s->RelV x v->s.heap.IsSliceOf sl vl vu .none->IsPart vl lo->IsPart vu hi->r x lo hi H Q->
  ∃T id,typeLookup (.type T) "__getitem__"=pure (some (.builtin id))/\s.TypeIs v T/\wpAny (model X.prog X.w) X.A (getItem v (.ref sl)) (EP X pins σ Q) X.xe s
def tSl(r:V->Option Int->Option Int->Hp->VK->Prop)(te:TE)(tl th:TO):TE:=λσ H Q=>te σ H λx H1=>tl σ H1 λl H2=>th σ H2 λu H3=>r x l u H3 Q
theorem xes{r:V->Option Int->Option Int->Hp->VK->Prop}(hr:SlR X r)(he:PE X e te)(hl:PO X lo tl)(hu:PO X hi th):PE X (.Subscript e (.Slice lo hi none p2) pos) (tSl r te tl th):=by
 intro pins s σ H Q I h;refine Subscript_ (thn (he pins s σ H _ I h) λv s1 ⟨x,H1,I1,r1,q1⟩=>?_);refine wpAny_Slice (thn (hl pins s1 σ H1 _ I1 q1) λvl s2 ⟨l,H2,I2,pl,q2⟩=>thn (hu pins s2 σ H2 _ I2 q2) λvu s3 ⟨u,H3,I3,pu,q3⟩=>?_);rw[evalPart_none];refine z3 ?_;have I4:Inv X pins σ H3 {s3 with heap:=s3.heap.push {cls:=.type "slice",data:=.fields #[vl,vu,.none]}}:=I3.kept (t':=s3.toks) λb ob q=>zPO _ q;obtain⟨T,id,hT,ht,hg⟩:=hr pins {s3 with heap:=s3.heap.push {cls:=.type "slice",data:=.fields #[vl,vu,.none]}} σ H3 x v vl vu l u s3.heap.objs.size Q I4 r1 (Heap.IsSliceOf.new ..) pl pu q3;show wpAny (model X.prog X.w) X.A (subscriptTail e (.Slice lo hi none p2) v (.ref s3.heap.objs.size)) (EP X pins σ Q) X.xe {s3 with heap:=s3.heap.push {cls:=.type "slice",data:=.fields #[vl,vu,.none]}};exact tail_any (ops:=[.ref s3.heap.objs.size,v]) ht hT hg (by with_unfolding_all rfl)
def cutV(xs:List V)(lo hi:Option Int):List V:=(xs.drop (HT.sIx xs.length 0 lo)).take (HT.sIx xs.length xs.length hi-HT.sIx xs.length 0 lo)
theorem xme(xs:List V)(lo hi:Option Int):(cutV xs lo hi).length<=xs.length:=by
 unfold cutV;rw[List.length_take,List.length_drop];omega
def xw3(K:Fg):R2:=λx y H Q=>∃a b xs ys,x=.ref a/\y=.ref b/\SqT K H a xs/\SqT K H b ys/\xs≠[]/\xs.length+ys.length<=sizeLine ∧
 (ys=[]->Q (.ref a) H)/\(ys≠[]->∀p,H p=none->Q (.ref p) (upd H p (.tup (xs++ys))))
theorem Vals.nil_iff{xs:List V}{us:List Value}(r:Vals xs us):us=[] ↔ xs=[]:=by
 cases r with
 |nil=>simp
 |cons _ _=>simp
theorem xtr:OpR X (binaryOp .Add) (xw3 X.K):=by
 intro pins s σ H x y v u Q I i g h;obtain⟨a,b,xs,ys,rfl,rfl,r,p,n,hz,l,j⟩:=h;cases i;cases g;obtain⟨its,e,m,_⟩:=I.tuple r;obtain⟨f,c,p2,_⟩:=I.tuple p;refine HT.cat_tup m p2 (λz=>n (e.nil_iff.mp z)) (λz=>⟨.ref a,H,I,rfl,l (c.nil_iff.mp z)⟩) (λz=>?_) (by rw[<- e.length,<- c.length];exact hz);refine⟨.ref s.heap.objs.size,_,I.laid (t':=s.toks) (o:=.tup (xs++ys)) (λb C q=>zPO _ q) (zZ _) ?_,rfl,j (λw=>z (c.nil_iff.mpr w)) _ (I.hok.fresh (zZ _))⟩;exact⟨by rw[zLA];exact hz,_,e.append c,_,z6 _ rfl,rfl,_,rfl,rfl⟩
end
def ixN(n:Nat)(i:Int):Option Nat:=if 0<=i then (if i<n then some i.toNat else none) else if -(n:Int)<=i then some (i+n).toNat else none
def atI{α:Type}(xs:List α)(i:Int):Option α:=(ixN xs.length i).bind λj=>xs[j]?
theorem xqe{n:Nat}{i:Int}{j:Nat}(h:ixN n i=some j):seqIndex? i n=some j/\j<n/\-(n:Int)<=i/\i<n:=by
 unfold ixN at h;by_cases h0:0<=i
 ·rw[if_pos h0]at h
  by_cases h1:i<n
  ·rw[if_pos h1]at h
   have e:i.toNat=j:=z8 h;exact⟨by rw[seqIndex_of h0 h1,e],by omega,by omega,h1⟩
  ·rw[if_neg h1]at h;cases h
 ·rw[if_neg h0]at h
  by_cases h1:-(n:Int)<=i
  ·rw[if_pos h1]at h
   have e:(i+n).toNat=j:=z8 h;exact⟨by rw[seqIndex_neg (by omega) h1,e],by omega,h1,by omega⟩
  ·rw[if_neg h1]at h;cases h
theorem xmg{α:Type}{xs:List α}{i:Int}{v:α}(h:atI xs i=some v):∃j,seqIndex? i xs.length=some j/\xs[j]?=some v/\j<xs.length/\-(xs.length:Int)<=i/\i<xs.length:=by
 unfold atI at h
 cases e:ixN xs.length i with
 |none=>rw[e]at h;cases h
 |some j=>
  rw[e]at h;obtain⟨h1,h2,b,a⟩:=xqe e;exact⟨j,h1,h,h2,b,a⟩
theorem xam{α:Type}{xs:List α}{j:Nat}{v:α}(h:xs[j]?=some v):atI xs (j:Int)=some v:=by
 have a:j<xs.length:=(zES h).1
 have e:ixN xs.length (j:Int)=some j:=by
  unfold ixN;rw[if_pos (by omega),if_pos (by omega)];simp
 unfold atI;rw[e];exact h
def xmi(b:Expr):Prop:=∀o i,subscripted b false o i=operate [o,i] (getItem o i)
def IxR(X:Cx)(r:R2):Prop:=
 ∀(value slice:Expr) (pins:List (Addr×Obj)) (s:Shared) (σ:St) (H:Hp) (x y:V) (v u:Value) (Q:VK),Inv X pins σ H s->RelV x v->RelV y u->r x y H Q->
  subscripted slice false v u=operate [v,u] (getItem v u)->wpAny (model X.prog X.w) X.A (subscriptTail value slice v u) (EP X pins σ Q) X.xe s
def MtR(X:Cx)(id:String)(r:V->List V->Hp->VK->Prop):Prop:=
 ∀(pins:List (Addr×Obj)) (s:Shared) (σ:St) (H:Hp) (x:V) (xs:List V) (v:Value) (us:List Value) (Q:VK),Inv X pins σ H s->RelV x v->Vals xs us->r x xs H Q->
  wpAny (model X.prog X.w) X.A (call (.builtin id) (v::us)) (EP X pins σ Q) X.xe s
section
variable {X:Cx}{a b:Expr}{ta tb:TE}{pos:Pos}
theorem xn3{r:R2}(hr:IxR X r)(ha:PE X a ta)(hb:PE X b tb)(hs:xmi b):PE X (.Subscript a b pos) (tOp r ta tb):=by
 intro pins s σ H Q I h;exact Subscript_ (binT ha hb I h λv u s2 x y H2 I2 rx ry q=>hr a b pins s2 σ H2 x y v u Q I2 rx ry q (hs _ _))
def rIxL(K:Fg):R2:=λx y H Q=>∃p xs i v,x=.ref p/\y=.int i/\SqL K H p xs/\atI xs i=some v/\Q v H
def rIxT(K:Fg):R2:=λx y H Q=>∃p xs i v,x=.ref p/\y=.int i/\SqT K H p xs/\atI xs i=some v/\Q v H
def rIxS:R2:=λx y H Q=>∃z i c,x=.str z/\y=.int i/\z.length<=sizeLine/\atI z.cps.toList i=some c/\Q (.str ⟨#[c]⟩) H
theorem iL:IxR X (rIxL X.K):=by
 intro value a pins s σ H x y v u Q I g f h hs;obtain⟨p,xs,i,z,rfl,rfl,l,n,q⟩:=h;cases g;obtain⟨t,rfl⟩:=f;obtain⟨its,r,pl,hz⟩:=I.list l;obtain⟨j,h1,h2,G,C,o⟩:=xmg n;obtain⟨w,e,b⟩:=r.get h2;have m:=r.length;have hn:=xkj;have fin:EP X pins σ Q w s:=⟨z,H,I,b,q⟩;by_cases h0:0<=i
 ·have c:i.toNat=j:=by
   rw[seqIndex_of h0 o]at h1;exact z8 h1
  exact item_listR pl.isList h0 (by omega) (by rw[c];simpa using e) fin hs
 ·have c:(i+(its.toArray.size:Int)).toNat=j:=by
   rw[seqIndex_neg (by omega) C]at h1;rw[List.size_toArray,<- m];exact z8 h1
  exact subscriptTail_builtinR (x:=w) pl.isList.typeIs slot_list_getitem.lookup
   (wpAny_getItem_list_neg (Q:=λr s'=>r=w/\EP X pins σ Q r s') pl.isList (by omega) (by rw[List.size_toArray] <;> omega) (by omega) (by rw[c];simpa using e) ⟨rfl,fin⟩) hs
theorem xv1:IxR X (rIxT X.K):=by
 intro value a pins s σ H x y v u Q I e c h hs;obtain⟨p,xs,i,z,rfl,rfl,f,l,q⟩:=h;cases e;obtain⟨t,rfl⟩:=c;obtain⟨its,r,pl,hz⟩:=I.tuple f;obtain⟨j,h1,h2,C,o,n⟩:=xmg l;obtain⟨w,m,b⟩:=r.get h2;have g:=r.length;have hn:=xkj;have fin:EP X pins σ Q w s:=⟨z,H,I,b,q⟩
 exact subscriptTail_builtinR (x:=w) pl.typeIs slot_tuple_getitem.lookup
  (getItem_tuple (j:=j) (Q:=λr s'=>r=w/\EP X pins σ Q r s') pl (by omega) (by omega) (by rw[List.size_toArray,<- g];exact h1) (by simpa using m) ⟨rfl,fin⟩) hs
theorem xnc:IxR X rIxS:=by
 intro value a pins s σ H x y v u Q I e b h hs;obtain⟨z,i,c,rfl,rfl,hz,g,q⟩:=h;obtain⟨t,rfl⟩:=e;obtain⟨t',rfl⟩:=b;obtain⟨j,h1,h2,p,m,l⟩:=xmg g;have f:z.cps.toList.length=z.length:=by simp[Str.length]
 rw[f]at h1 m l;have hn:=xkj
 exact tail_any (typeIs_str s z t) slot_str_getitem.lookup (getItem_str (c:=c) (by
  have o:decide (i < -(2 ^ 63:Int))=false:=zDF (by omega);have n:decide (i ≥ 2 ^ 63)=false:=zDF (by omega);rw[o,n,Bool.or_false]) (by rw[h1];simpa using h2) ⟨.str ⟨#[c]⟩,H,I.tok _,⟨_,rfl⟩,q⟩) hs
theorem xn7(its:List Value)(n j:Nat)(u:Value):Obj.mapSeq (·.setIfInBounds j u) {cls:=.type "list",data:=.seq its.toArray n}={cls:=.type "list",data:=.seq (its.set j u).toArray n}:=by
 simp[Obj.mapSeq]
theorem Inv.lst {pins:List (Addr×Obj)} {σ:St} {H:Hp} {s:Shared} {p:Addr} {xs:List V} (I:Inv X pins σ H s) (h:H p=some (.lst xs)) :
  ∃(its:List Value) (n:Nat),Vals xs its/\s.heap.get? p=some {cls:=.type "list",data:=.seq its.toArray n}/\xs.length<=sizeLine:=by
 obtain⟨z,its,n,r,e⟩:=I.hok p _ h;exact⟨its,n,r,e,z⟩
theorem Inv.lstUpd {pins:List (Addr×Obj)} {σ:St} {H:Hp} {s:Shared} {p:Addr} {xs ys:List V} {its its':List Value} {n n':Nat} {f:Obj->Obj} (I:Inv X pins σ H s) (h:H p=some (.lst xs))
  (ho:s.heap.get? p=some {cls:=.type "list",data:=.seq its.toArray n}) (hf:f {cls:=.type "list",data:=.seq its.toArray n}={cls:=.type "list",data:=.seq its'.toArray n'}) (r:Vals ys its') (hz:ys.length<=sizeLine) (t:Nat) :
  Inv X pins σ (upd H p (.lst ys)) {s with heap:=s.heap.update p f,toks:=t}:=by
 have e:(s.heap.update p f).get? p=some {cls:=.type "list",data:=.seq its'.toArray n'}:=by
  rw[Heap.get?_update_self f ho (by rw[hf] <;> rfl),hf]
 refine I.write (x:=p) (e:=p) (by rw[h];trivial) (.inl rfl) (λb u hb q=>(Heap.get?_update_other _ _ (Ne.symm hb)).trans q) ⟨_,e⟩ ?_;exact⟨hz,its',n',r,e⟩
def xw1:V->V->V->Hp->(Hp->Prop)->Prop:=λo i v H Q=>∃p xs k j,o=.ref p/\i=.int k/\H p=some (.lst xs)/\ixN xs.length k=some j/\Q (upd H p (.lst (xs.set j v)))
theorem xmy:PSet X xw1:=by
 intro pins s σ H o i v z C u Q I w x m h;obtain⟨p,xs,k,j,rfl,rfl,e,y,q⟩:=h;cases w;obtain⟨t,rfl⟩:=x;obtain⟨its,n,r,a,hz⟩:=I.lst e;obtain⟨h1,h2,g,f⟩:=xqe y;have b:=r.length;have hn:=xkj
 have l:Inv X pins σ (upd H p (.lst (xs.set j v))) {s with heap:=s.heap.update p (Obj.mapSeq (·.setIfInBounds j u))}:=
  I.lstUpd e a (xn7 its n j u) (r.set m j) (by rw[List.length_set];exact hz) s.toks
 by_cases h0:0<=k
 ·have c:k.toNat=j:=by
   rw[seqIndex_of h0 f]at h1;exact z8 h1
  exact PySem.W.ki_setAt a h0 (by omega) (by rw[List.size_toArray,<- b];exact f) (by rw[c];exact⟨_,l,q⟩)
 ·have c:(k+(its.toArray.size:Int)).toNat=j:=by
   rw[seqIndex_neg (by omega) g]at h1;rw[List.size_toArray,<- b];exact z8 h1
  exact PySem.W.ki_setBack a (by omega) (by rw[List.size_toArray,<- b];exact g) (by omega) (by rw[c];exact⟨_,l,q⟩)
theorem xjp(lo hi:Option Int)(n:Nat):(sliceBounds lo hi none n).1=((HT.sIx n 0 lo:Nat):Int)/\(sliceBounds lo hi none n).2.1=((HT.sIx n n hi:Nat):Int)/\(sliceBounds lo hi none n).2.2=1:=by
 refine⟨?_,?_,rfl⟩
 ·cases lo with
  |none=>simp[sliceBounds,HT.sIx]
  |some i=>
   simp only[sliceBounds,HT.sIx,Option.getD_none,show(1:Int) > 0 by decide,if_true];by_cases h:i<0
   ·simp only[h,if_true] <;> omega
   ·simp only[h,if_false] <;> omega
 ·cases hi with
  |none=>simp[sliceBounds,HT.sIx]
  |some i=>
   simp only[sliceBounds,HT.sIx,Option.getD_none,show(1:Int) > 0 by decide,if_true];by_cases h:i<0
   ·simp only[h,if_true] <;> omega
   ·simp only[h,if_false] <;> omega
theorem xij(its:List Value)(lo hi:Option Int):slicePick its.toArray lo hi none=((its.drop (HT.sIx its.length 0 lo)).take (HT.sIx its.length its.length hi-HT.sIx its.length 0 lo)).toArray:=by
 obtain⟨h1,h2,a⟩:=xjp lo hi its.toArray.size;unfold slicePick;rw[h1,h2,a];simp only[sliceRange_one,pick_run,List.size_toArray] <;> rfl
def rSlL(K:Fg):V->Option Int->Option Int->Hp->VK->Prop:=λx lo hi H Q=>∃a xs,x=.ref a/\SqL K H a xs/\∀p,H p=none->Q (.ref p) (upd H p (.lst (cutV xs lo hi)))
theorem xik:SlR X (rSlL X.K):=by
 intro pins s σ H x v l j lo hi sl Q I f hs pl g h;obtain⟨a,xs,rfl,i,q⟩:=h;cases f;obtain⟨its,r,e,hz⟩:=I.list i;have c:=r.length;refine⟨"list",_,slot_list_getitem.lookup,e.isList.typeIs,?_⟩;refine wpAny_getItem_list_slice e.isList hs pl g .none (by simp) ?_ (by rw[List.size_toArray] <;> omega);rw[xij,<- c];refine⟨.ref s.heap.objs.size,_,I.laid (t':=s.toks) (o:=.lst (cutV xs lo hi)) (λb m q=>zPO _ q) (zZ _) ?_,rfl,q _ (I.hok.fresh (zZ _))⟩;exact⟨zY (xme xs lo hi) hz,_,0,(r.drop (HT.sIx xs.length 0 lo)).take (HT.sIx xs.length xs.length hi-HT.sIx xs.length 0 lo),z6 _ rfl⟩
def xhs:V->Bool
 |.non=>true
 |.bl _=>true
 |.int _=>true
 |.str _=>true
 |_=>false
def eqV:V->V->Bool
 |.non,.non=>true
 |.bl a,.bl b=>a == b
 |.bl a,.int b=>(if a then 1 else 0) == b
 |.int a,.bl b=>a == (if b then 1 else 0)
 |.int a,.int b=>a == b
 |.str a,.str b=>a == b
 |_,_=>false
theorem xv9{A:Around}{s:Shared}{y x:V}{u v:Value}(e:RelV y u)(c:RelV x v)(g:xhs y=true)(f:xhs x=true):SeqAt.EqAt A s u v (eqV y x):=by
 cases y with
 |non=>
  cases e
  cases x with
  |non=>cases c;exact SeqAt.EqAt.same _
  |bl b=>cases c;exact SeqAt.EqAt.none_bool b
  |int b=>obtain⟨t,rfl⟩:=c;exact SeqAt.EqAt.none_int b t
  |str b=>obtain⟨t,rfl⟩:=c;exact SeqAt.EqAt.none_str b t
  |_=>exact absurd (show false=true from f) z7
 |bl a=>
  cases e
  cases x with
  |non=>cases c;exact SeqAt.EqAt.bool_none a
  |bl b=>cases c;exact SeqAt.EqAt.bool_bool a b
  |int b=>obtain⟨t,rfl⟩:=c;exact SeqAt.EqAt.bool_int a b t
  |str b=>obtain⟨t,rfl⟩:=c;exact SeqAt.EqAt.bool_str a b t
  |_=>exact absurd (show false=true from f) z7
 |int a=>
  obtain⟨t',rfl⟩:=e
  cases x with
  |non=>cases c;exact SeqAt.EqAt.int_none a t'
  |bl b=>cases c;exact SeqAt.EqAt.int_bool a t' b
  |int b=>obtain⟨t,rfl⟩:=c;exact SeqAt.EqAt.int_int a t' b t
  |str b=>obtain⟨t,rfl⟩:=c;exact SeqAt.EqAt.int_str a t' b t
  |_=>exact absurd (show false=true from f) z7
 |str a=>
  obtain⟨t',rfl⟩:=e
  cases x with
  |non=>cases c;exact SeqAt.EqAt.str_none a t'
  |bl b=>cases c;exact SeqAt.EqAt.str_bool a t' b
  |int b=>obtain⟨t,rfl⟩:=c;exact SeqAt.EqAt.str_int a t' b t
  |str b=>obtain⟨t,rfl⟩:=c;exact SeqAt.EqAt.str_str a t' b t
  |_=>exact absurd (show false=true from f) z7
 |_=>exact absurd (show false=true from g) z7
def eqU(x:V)(u:Value):Bool:=match u with
 |.none=>eqV .non x
 |.bool b=>eqV (.bl b) x
 |.int i _=>eqV (.int i) x
 |.str z _=>eqV (.str z) x
 |_=>false
theorem xqo{x y:V}{u:Value}(r:RelV y u)(f:xhs y=true):eqU x u=eqV y x:=by
 cases y with
 |non=>cases r;rfl
 |bl b=>cases r;rfl
 |int i=>obtain⟨t,rfl⟩:=r;rfl
 |str z=>obtain⟨t,rfl⟩:=r;rfl
 |_=>exact absurd (show false=true from f) z7
theorem xmh{x:V}:∀{xs:List V} {us:List Value},Vals xs us->xs.all xhs=true->us.any (eqU x)=xs.any λy=>eqV y x
 |_,_,.nil,_=>rfl
 |y::xs,u::us,.cons r t,f=>by
  rw[List.all_cons,Bool.and_eq_true]at f;rw[List.any_cons,List.any_cons,xqo r f.1,xmh t f.2]
theorem xge{A:Around}{s:Shared}{x:V}{v:Value}(b:RelV x v)(c:xhs x=true):∀{xs:List V} {us:List Value},Vals xs us->xs.all xhs=true->∀u∈us,SeqAt.EqAt A s u v (eqU x u)
 |_,_,.nil,_=>λu a=>by cases a
 |y::xs,u::us,.cons r t,f=>λe a=>by
  rw[List.all_cons,Bool.and_eq_true]at f;rcases zMC a with rfl |a
  ·rw[xqo r f.1];exact xv9 r b f.1 c
  ·exact xge b c t f.2 e a
def inV(x:V)(xs:List V):Bool:=xs.any λy=>eqV y x
def rIn(K:Fg)(neg:Bool):R2:=λx y H Q=>∃p xs,y=.ref p/\(SqL K H p xs\/SqT K H p xs)/\xhs x=true/\xs.all xhs=true/\Q (.bl (if neg then !inV x xs else inV x xs)) H
theorem xej:OpR X (compareOp .NotIn) (rIn X.K true):=by
 intro pins s σ H x y v u Q I c f h;obtain⟨p,xs,rfl,a,e,fs,q⟩:=h;cases f;rcases a with a |a
 ·obtain⟨its,r,pl,hz⟩:=I.list a
  refine SeqAt.notIn_listAt (eqU x) pl.isList (λw b=>xge c e r fs w (by simpa using b)) ⟨.bl _,H,I,rfl,?_⟩;rw[show its.toArray.any (eqU x)=its.any (eqU x) by simp,xmh r fs];exact q
 ·obtain⟨its,r,pl,hz⟩:=I.tuple a
  refine SeqAt.notIn_tupleAt (eqU x) pl (λw b=>xge c e r fs w (by simpa using b)) ⟨.bl _,H,I,rfl,?_⟩;rw[show its.toArray.any (eqU x)=its.any (eqU x) by simp,xmh r fs];exact q
theorem xk1:xe2 X (.builtin "len") (λxs H Q=>∃p ys,xs=[.ref p]/\(SqL X.K H p ys\/SqT X.K H p ys)/\Q (.int ys.length) H):=by
 intro pins s σ H xs us Q I r h;obtain⟨p,ys,rfl,b,q⟩:=h;obtain⟨u,rfl,e⟩:=xhg r;cases e;have hn:=xkj;rcases b with b |b
 ·obtain⟨its,c,pl,hz⟩:=I.list b
  have a:=c.length;exact Calls.call_len_list pl.isList (by simp only[List.size_toArray] <;> omega) ⟨.int ys.length,H,I.tok _,⟨s.toks+1,by rw[List.size_toArray,a]⟩,q⟩
 ·obtain⟨its,c,pl,hz⟩:=I.tuple b
  have a:=c.length;exact len_tuple pl (by simp only[List.size_toArray] <;> omega) ⟨.int ys.length,H,I.tok _,⟨s.toks+1,by rw[List.size_toArray,a]⟩,q⟩
theorem xb4:xe2 X (.type "list") (λxs H Q=>∃p ys,xs=[.ref p]/\(SqL X.K H p ys\/SqT X.K H p ys)/\∀l,H l=none->Q (.ref l) (upd H l (.lst ys))):=by
 intro pins s σ H xs us Q I r h;obtain⟨p,ys,rfl,g,q⟩:=h;obtain⟨u,rfl,x⟩:=xhg r;cases x
 have fin:∀(its:List Value),Vals ys its->ys.length<=sizeLine->∀(h':Heap) (c:Nat),(∀b o',s.heap.get? b=some o'->h'.get? b=some o')->
   h'.get? s.heap.objs.size=some {cls:=.type "list",dict:=none,data:=.seq its.toArray c,slots:=#[]}->EP X pins σ Q (.ref s.heap.objs.size) {s with heap:=h'}:=λits a hz h' c f e=>
  ⟨.ref s.heap.objs.size,_,I.laid (t':=s.toks) f (zZ _) (show ObjOk X.prog X.w _ h' _ (.lst ys) from⟨hz,its,c,a,e⟩),rfl,q _ (I.hok.fresh (zZ _))⟩
 rcases g with g |g
 ·obtain⟨its,a,pl,hz⟩:=I.list g
  have i:=a.length;obtain⟨o,j,m,n,hd⟩:=pl.isList;exact call_list_seq p (.inl rfl) j m hd (λh' c f e=>fin its a hz h' c f e) (by simp only[List.size_toArray] <;> omega)
 ·obtain⟨its,a,pl,hz⟩:=I.tuple g
  have i:=a.length;obtain⟨o,j,m,n,hd⟩:=pl;exact call_list_seq p (.inr rfl) j m hd (λh' c f e=>fin its a hz h' c f e) (by simp only[List.size_toArray] <;> omega)
theorem xjb:xe2 X (.type "tuple") (λxs H Q=>∃p ys,xs=[.ref p]/\((SqL X.K H p ys/\∀l,H l=none->Q (.ref l) (upd H l (.tup ys)))\/(SqT X.K H p ys/\Q (.ref p) H))):=by
 intro pins s σ H xs us Q I r h;obtain⟨p,ys,rfl,h⟩:=h;obtain⟨u,rfl,i⟩:=xhg r;cases i;rcases h with⟨c,q⟩ |⟨c,q⟩
 ·obtain⟨its,a,pl,hz⟩:=I.list c
  have f:=a.length;refine call_tuple_list pl.isList (λh' j=>?_) (by simp only[List.size_toArray] <;> omega);have g:Inv X pins σ H {s with heap:=h'}:=I.kept (t':=s.toks) j
  have m:Inv X pins σ (upd H h'.objs.size (.tup ys)) {s with heap:=h'.push {cls:=.type "tuple",data:=.seq its.toArray}}:=
   g.laid (t':=s.toks) (λb o e=>zPO _ e) (zZ _) (show ObjOk X.prog X.w _ _ _ (.tup ys) from⟨hz,its,a,_,z6 _ rfl,rfl,_,rfl,rfl⟩)
  exact⟨.ref h'.objs.size,_,m,rfl,q _ (g.hok.fresh (zZ _))⟩
 ·obtain⟨its,a,pl,hz⟩:=I.tuple c
  exact call_tuple_same pl ⟨.ref p,H,I,rfl,q⟩
def tyV(K:Fg)(T:String)(x:V)(H:Hp):Prop:=match x with
 |.str _=>T="str"
 |.int _=>T="int"
 | .ref p=>(T="list"/\∃xs,SqL K H p xs)\/(T="tuple"/\∃o,K.lookup p=some o/\o.cls=.type "tuple"/\o.dict=none) ∨
   (T="dict"/\((∃kvs,H p=some (.dK kvs))\/∃kvs,H p=some (.dT kvs)))\/(T="set"/\∃S n,H p=some (.set S n))
 |_=>False
theorem xsf {pins:List (Addr×Obj)} {σ:St} {H:Hp} {s:Shared} {T:String} {x:V} {v:Value} (I:Inv X pins σ H s) (r:RelV x v) (f:tyV X.K T x H) :
  s.TypeIs v T/\∀a,v=.ref a->∃h,s.heap.get? a=some h/\h.dict=none:=by
 cases x with
 |str z=>
  obtain⟨t,rfl⟩:=r;cases (show T="str" from f);exact⟨typeIs_str s z t,λ_ e=>nomatch e⟩
 |int i=>
  obtain⟨t,rfl⟩:=r;cases (show T="int" from f);exact⟨typeIs_int s i t,λ_ e=>nomatch e⟩
 | ref p=>
  cases r;rcases f with⟨rfl,xs,j⟩ |⟨rfl,o,b,l,hd⟩ |⟨rfl,b⟩ |⟨rfl,S,n,b⟩
  ·obtain⟨its,_,pl,_⟩:=I.list j
   refine⟨pl.isList.typeIs,λa e=>?_⟩;cases e;obtain⟨o,n,e,c,hd,_⟩:=pl;exact⟨o,e,hd⟩
  ·refine⟨⟨o,I.kIn p o b,l⟩,λa e=>?_⟩
   cases e;exact⟨o,I.kIn _ o b,hd⟩
  ·have z:∃o,s.heap.get? p=some o/\o.ExactDict:=by
    rcases b with⟨kvs,b⟩ |⟨kvs,b⟩
    ·obtain⟨_,_,_,_,o,_,_,e,ex,_⟩:=I.hok p _ b
     exact⟨o,e,ex⟩
    ·obtain⟨_,_,_,_,o,_,_,e,ex,_⟩:=I.hok p _ b
     exact⟨o,e,ex⟩
   obtain⟨o,e,ex⟩:=z;refine⟨⟨o,e,ex.1⟩,λa g=>?_⟩;cases g;exact⟨o,e,ex.2.1⟩
  ·obtain⟨o,_,_,_,e,ex,_⟩:=I.hok p _ b
   refine⟨⟨o,e,ex.1⟩,λa g=>?_⟩;cases g;exact⟨o,e,ex.2.1⟩
 |_=>exact False.elim f
def tBM0(K:Fg)(T:String)(r:V->List V->Hp->VK->Prop)(to:TE):TE:=λσ H Q=>to σ H λx H1=>tyV K T x H1/\r x [] H1 Q
def tBM(K:Fg)(T:String)(r:V->List V->Hp->VK->Prop)(to:TE)(t:TA):TE:=λσ H Q=>to σ H λx H1=>tyV K T x H1/\t σ H1 λxs H2=>r x xs H2 Q
variable {o e:Expr}{es:List Expr}{to:TE}{t:TA}{name:Str}{apos cpos:Pos}{T id:String}{r:V->List V->Hp->VK->Prop}
theorem xvi (pa:PlainAttrs T) (c:Slot T name id) (e:typeOf (.builtin id)=pure (.type "method_descriptor")) (n:MtR X id r) (m:PE X o to)
  (b:attributeBase o name X.env (eval o X.env)=eval o X.env:=by rfl) (a:(apos.endLine == cpos.line)=true:=by rfl):PE X (.Call (.Attribute o name apos) [] [] cpos) (tBM0 X.K T r to):=by
 intro pins s σ H Q I h;refine wpAny_Call_method0_late b a (thn (m pins s σ H _ I h) λv j ⟨x,H1,g,f,i,l⟩=>?_);obtain⟨h1,h2⟩:=xsf g f i;exact⟨T,id,pa,c,e,h1,h2,Calls.callWith_builtin rfl (PySem.evalArgs_none (n pins j σ H1 x [] v [] Q g f .nil l))⟩
theorem xds (pa:PlainAttrs T) (f:Slot T name id) (i:typeOf (.builtin id)=pure (.type "method_descriptor")) (G:MtR X id r) (C:PE X o to) (J:PA X (e::es) t)
  (c:attributeBase o name X.env (eval o X.env)=eval o X.env:=by rfl)
  (g:((backTo cpos (starEach (e::es) X.env)).all (λx=>!x.1) && (backToKw cpos (keywordEach [] X.env)).all (λx=>x.1.isSome)
   && decide ((e::es).length+([]:List Keyword).length+(if ([]:List Keyword).isEmpty then 0 else 1)<30))=true:=by rfl)
  (b:(apos.endLine == cpos.line)=true:=by rfl) (hs:starEach (e::es) X.env=(false,eval e X.env)::starEach es X.env:=by rfl) (a:(backTo cpos (starEach es X.env)).any (·.1)=false:=by rfl) :
  PE X (.Call (.Attribute o name apos) (e::es) [] cpos) (tBM X.K T r to t):=by
 intro pins s σ H Q I h;refine wpAny_Call_method_late c g b rfl (thn (C pins s σ H _ I h) λv u ⟨x,H1,m,j,n,z⟩=>?_);obtain⟨h1,h2⟩:=xsf m j n;refine⟨T,id,pa,f,i,h1,h2,?_⟩;have l:=J cpos pins u σ H1 _ m z;rw[hs]at l⊢;refine Calls.callWith_builtin (by show(false || (backTo cpos (starEach es X.env)).any (·.1))=false;rw[a] <;> rfl) (Calls.evalArgs_plain ?_);exact thn l λus p ⟨vs,H2,M,w,y⟩=>G pins p σ H2 x vs v us Q M j w y
end
def MtM(X:Cx)(id:String)(r:V->List V->Hp->VK->Prop):Prop:=
 ∀(pins:List (Addr×Obj)) (s:Shared) (σ:St) (H:Hp) (x:V) (xs:List V) (v:Value) (us:List Value) (Q:VK),Inv X pins σ H s->RelV x v->Vals xs us->r x xs H Q->
  wpAny (model X.prog X.w) X.A (call (.builtin id) (v::us)) (EP X pins σ Q) X.xe s
theorem Vals.one:∀{x:V} {us:List Value},Vals [x] us->∃u,us=[u]/\RelV x u
 |_,_,.cons r .nil=>⟨_,rfl,r⟩
theorem Vals.two:∀{x y:V} {us:List Value},Vals [x,y] us->∃u v,us=[u,v]/\RelV x u/\RelV y v
 |_,_,_,.cons r (.cons q .nil)=>⟨_,_,rfl,r,q⟩
theorem Vals.zero:∀{us:List Value},Vals [] us->us=[]
 |_,.nil=>rfl
theorem Vals.eraseIdx:∀{xs:List V} {us:List Value} (i:Nat),Vals xs us->Vals (xs.eraseIdx i) (us.eraseIdx i)
 |_,_,_,.nil=>.nil
 |_,_,0,.cons _ t=>t
 |_,_,i+1,.cons r t=>.cons r (Vals.eraseIdx i t)
theorem Vals.reverse{xs:List V}{us:List Value}(h:Vals xs us):Vals xs.reverse us.reverse:=by
 induction h with
 |nil=>exact .nil
 |cons r t a=>rw[List.reverse_cons,List.reverse_cons];exact Vals.append a (.cons r .nil)
theorem xkl{α:Type}:∀(l:List α) (i:Nat),(l.eraseIdx i).length<=l.length
 |[],_=>zZ _
 |_::_,0=>qG _
 |_::r,i+1=>zI (xkl r i)
section
variable {X:Cx}{pins:List (Addr×Obj)}{σ:St}{H:Hp}{s:Shared}{l b:Addr}{xs ys zs:List V}
theorem Inv.lset {its its':List Value} {n:Nat} {f:Array Value->Array Value} {t':Nat} (I:Inv X pins σ H s) (h:H l=some (.lst xs))
  (e:s.heap.get? l=some {cls:=.type "list",data:=.seq its.toArray n}) (c:f its.toArray=its'.toArray) (a:Vals ys its') (hz:ys.length<=sizeLine) :
  Inv X pins σ (upd H l (.lst ys)) {s with heap:=s.heap.update l (Obj.mapSeq f),toks:=t'}:=by
 have q:=PySem.IsL.update e f;rw[c]at q;refine I.write (x:=l) (e:=l) (by rw[h];exact trivial) (.inl rfl) (λi u g b=>(Heap.get?_update_other s.heap (Obj.mapSeq f) (Ne.symm g)).trans b) ⟨_,q⟩ ?_;exact⟨hz,its',_,a,q⟩
theorem Inv.lnew {its:List Value} {t':Nat} (I:Inv X pins σ H s) (a:Vals ys its) (hz:ys.length<=sizeLine) :
  Inv X pins σ (upd H s.heap.objs.size (.lst ys)) {s with heap:=s.heap.push {cls:=.type "list",data:=.seq its.toArray},toks:=t'}:=
 I.laid (λ_ _ q=>zPO _ q) (zZ _) ⟨hz,its,0,a,z6 _ rfl⟩
theorem Inv.fresh(I:Inv X pins σ H s):H s.heap.objs.size=none:=I.hok.fresh (zZ _)
theorem Inv.lstM(I:Inv X pins σ H s)(a:H l=some (.lst xs)):xs.length<=sizeLine/\∃(its:List Value) (n:Nat),Vals xs its/\xs.length=its.length/\s.heap.get? l=some {cls:=.type "list",data:=.seq its.toArray n}:=by
 obtain⟨z,its,n,r,e⟩:=I.hok l _ a;exact⟨z,its,n,r,r.length,e⟩
end
section
variable {X:Cx}
def xti:V->List V->Hp->VK->Prop:=λx vs H Q=>∃l xs y,x=.ref l/\vs=[y]/\H l=some (.lst xs)/\xs.length<sizeLine/\Q .non (upd H l (.lst (xs++[y])))
theorem xb0:MtM X "list.append" xti:=by
 intro pins s σ H x vs v us Q I b c h;obtain⟨l,xs,y,rfl,rfl,a,hz,q⟩:=h;cases b;obtain⟨u,rfl,f⟩:=c.one;obtain⟨z,its,n,r,g,e⟩:=I.lstM a;refine call_meets F.slot_list_append ⟨_,e,rfl⟩ F.entry_list_append (F.args_list_append_2 _ _) (PySem.list_append l its.toArray n u (by rw[List.size_toArray];omega)) ⟨e,?_⟩;refine⟨.non,_,I.lset (its':=its++[u]) a e (by simp) (r.append (.cons f .nil)) ?_,rfl,q⟩;rw[zLA,List.length_singleton];omega
def xu9:V->List V->Hp->VK->Prop:=λx vs H Q=>∃l xs i k y,x=.ref l/\vs=[.int i]/\H l=some (.lst xs)/\-(2 ^ 63)<=i/\i<2 ^ 63/\seqIndex? i xs.length=some k/\xs[k]?=some y/\Q y (upd H l (.lst (xs.eraseIdx k)))
theorem xi1:MtM X "list.pop" xu9:=by
 intro pins s σ H x vs v us Q I c f h;obtain⟨l,xs,i,k,y,rfl,rfl,b,h1,h2,p,j,q⟩:=h;cases c;obtain⟨u,rfl,g⟩:=f.one;obtain⟨t,rfl⟩:=g;obtain⟨z,its,n,r,o,e⟩:=I.lstM b;obtain⟨w,m,a⟩:=r.get j
 refine call_meets F.slot_list_pop ⟨_,e,rfl⟩ F.entry_list_pop (F.args_list_pop_2 _ _)
  (MeetsSeq.list_pop_at l its.toArray n i t k w (fitsIndex_both h1 h2) (by rw[List.size_toArray,<- o];exact p) (by rw[<- Array.getElem?_toList];exact m) (by rw[List.size_toArray];omega)) ⟨e,?_⟩
 refine⟨y,_,I.lset (its':=its.eraseIdx k) b e ?_ (r.eraseIdx k) ?_,a,q⟩
 ·show its.toArray.eraseIdxIfInBounds k=(its.eraseIdx k).toArray
  rw[List.eraseIdxIfInBounds_toArray]
 ·have:=xkl xs k
  omega
def xrc:V->List V->Hp->VK->Prop:=λx vs H Q=>∃l xs,x=.ref l/\vs=[]/\H l=some (.lst xs)/\Q .non (upd H l (.lst xs.reverse))
theorem xn6:MtM X "list.reverse" xrc:=by
 intro pins s σ H x vs v us Q I c f h;obtain⟨l,xs,rfl,rfl,b,q⟩:=h;cases c;have a:=f.zero;subst a;obtain⟨z,its,n,r,g,e⟩:=I.lstM b;refine call_meets F.slot_list_reverse ⟨_,e,rfl⟩ F.entry_list_reverse (F.args_list_reverse_1 _) (AutoSeq1.list_reverse_list_0 l its.toArray n (by rw[List.size_toArray];omega)) ⟨e,?_⟩;refine⟨.non,_,I.lset (its':=its.reverse) b e (by simp) r.reverse ?_,rfl,q⟩;rw[List.length_reverse];omega
def rCat:R2:=λx y H Q=>∃l b xs zs,x=.ref l/\y=.ref b/\H l=some (.lst xs)/\H b=some (.lst zs)/\xs.length+zs.length<=sizeLine/\∀p,H p=none->Q (.ref p) (upd H p (.lst (xs++zs)))
theorem xfx:OpR X (binaryOp .Add) rCat:=by
 intro pins s σ H x y v u Q I f c h;obtain⟨l,b,xs,zs,rfl,rfl,j,m,hz,q⟩:=h;cases f;cases c;obtain⟨z,its,n,r,G,e⟩:=I.lstM j;obtain⟨w,a,C,g,i,p⟩:=I.lstM m;refine PySem.P.add_list e p ?_ (by rw[List.size_toArray,List.size_toArray];omega);have o:its.toArray++a.toArray=(its++a).toArray:=by simp
 rw[o];exact⟨.ref _,_,I.lnew (t':=s.toks) (r.append g) (by rw[zLA];omega),rfl,q _ I.fresh⟩
end
end L2
namespace Att
open PySem PySem.W PySem.Calls PyProof.Rows
theorem xg7{P:Params}{h:Heap}:∀(ns:List Int) (vs:List Value),WellAll P h vs (ns.map WData.int)->IntsAre vs ns:=by
 intro ns
 induction ns with
 |nil=>
  intro vs w;rw[List.map_nil]at w;cases w;exact .nil
 | cons n ns c=>
  intro vs w;rw[List.map_cons]at w
  cases w with
  |cons a b=>
   cases a;exact .cons _ _ (c _ b)
theorem xo4 {l:OpenLaw} {n:Nat} (hn:l.most=some n) {P:Params} {h:Heap} {args:List WData} {b:List Value}
  (c:l.row.toRowW.claim.pre args=true) (j:WellAll P h b args) :
  ∃a vs ns,b=[Value.ref a]/\args=[WData.list (ns.map WData.int)]/\h.get? a=some {cls:=.type "list",data:=.seq vs.toArray}/\IntsAre vs ns/\ns.length<=n:=by
 have m:WShape.hasAll [] args [.list .int]=true:=(pre_splitW c).1;have o:l.pre.holds [] {args:=args}=true:=(pre_splitW c).2;obtain⟨d,r,rfl,h1,h2⟩:=hasAllW_cons m;obtain rfl:=hasAllW_nil h2;obtain⟨xs,rfl,x⟩:=hasW_list h1;obtain⟨ns,rfl⟩:=items_int x
 have e:ns.length<=n:=by
  unfold OpenLaw.pre at o
  have i:(WTm.not (.lt (.lit (.int (n:Int))) (.len (.arg 0)))).holds [] {args:=[.list (ns.map .int)]}=true:=by
   have i:=(holds_andW o).1;rw[hn]at i;exact i
  have g:=condW_of i (w_not (w_lt w_lit (w_len_list (w_arg rfl))));rw[zLM]at g;refine Nat.le_of_not_lt λq=>?_;have u:(n:Int)<((ns.length:Nat):Int):=by omega
  first
   |(rw[zDT u]at g;exact absurd g (by decide))
   |(simp at g;omega)
 cases j with
 |cons s p=>
  cases p
  cases s with
  |list w f=>exact⟨_,_,ns,rfl,rfl,w,xg7 ns _ f,e⟩
theorem xpa(l:OpenLaw)(args:List WData):l.row.toRowW.claim.post args (.bool true) args=true:=
 postW_of (r:=l.row.toRowW) (X:=(true == true))
  (show WShape.has [] (.bool true) .bool=true by first |rfl |decide |simp[WShape.has,WShape.arms,WShape.armsAll])
  (show(WTm.eq .res (.lit (.bool true))).value [] {args:=args,res:=some (.bool true),after:=args}=some (.bool (true == true)) from w_eq_bool (w_res rfl) w_lit) rfl
theorem attach_call {l:OpenLaw} {n:Nat} {q:Program} {loose:List Str} {XP:(Str->Option Value)->Heap->Prop} {YP:World->Heap->Prop} {d:DefRec}
  (hn:l.most=some n) (hdf:d.params.defaults=[])
  (call:∀(w:World) (s₀ s₁:Shared) (mg mb:Str->Option Value) (fa:Addr) (o:Obj) (pm cd doc:Value) (a:Addr) (vs:List Value) (ns:List Int),
   Ground q loose [] XP w s₀ mg mb s₁.heap->YP w s₁.heap->
   s₁.heap.get? fa=some o->o.data=.func (docDef d.name d.params d.body d.scope pm cd doc)->s₁.heap.CodeRec cd d.name->mg d.name=some (.ref fa)->
   s₁.heap.get? a=some {cls:=.type "list",data:=.seq vs.toArray}->IntsAre vs ns->ns.length<=n->s₁.gens=#[]->
   codeAny (model l.prog w) callerA (.call (.ref fa) ⟨[.ref a],[]⟩) (λr s'=>r=.ok (.ret (.bool true))/\OldK s₁.heap s'.heap/\s'.os=s₁.os/\AllBare s'.gens) s₁) :
  WalkO q loose XP YP l.row.toRowW d [] (λf vs=>PySem.call f vs):=by
 intro w s₀ s₁ mg mb G Y fa o pm cd doc dV kV ho hd hcd hD hmg hg args vals as hpre hlay hrd hwl hlo;obtain rfl:dV=.none:=Dflts.none hD hdf;obtain rfl:kV=.none:=Dflts.noKw hD;obtain⟨a,vs,ns,rfl,rfl,hobj,hints,hlen⟩:=xo4 hn hpre hwl;refine enter_call (codeAny_mono (call w s₀ s₁ mg mb fa o pm cd doc a vs ns G Y ho (fd_plain hd) hcd hmg hobj hints hlen hg) λr s' hq=>?_);obtain⟨rfl,h2,h3,h4⟩:=hq;exact⟨.inl ⟨.bool true,.bool true,[],rfl,λ_=>rfl,.bool true,xpa l _,λ_=>⟨List.Pairwise.nil,λ_ hm=>(nomatch hm)⟩⟩,h2,h3,h4⟩
end Att
namespace L2
open PySem PySem.Spec PyProof.Rows
theorem xjc:∀{vs:List Value} {ns:List Int},IntsAre vs ns->Vals (ns.map V.int) vs
 |_,_,.nil=>.nil
 |_,_,.cons n t h=>.cons ⟨t,rfl⟩ (xjc h)
def Only(H:Hp):Prop:=∀b,H b=none\/∃o xs,H b=some (.frz o (.lst xs))
theorem xrx {P:Program} {w:World} {K:Fg} {mg mb:Str->Option Value} {CX:CXT} {k:Nat} {fa a:Addr} {fd:FuncData} {x:Str} {sp:Sp} {s₁:Shared} {vs:List Value} {ns:List Int}
  (KX:K.In s₁.heap) (hns:s₁.heap.Ns mainGlobals mg) (hb:s₁.heap.Ns builtinsNs mb) (hbb:∀x:Str,x≠"__name__"->mb x=bootBuiltins x) (hlim:s₁.heap.NoLimit) (hg:s₁.gens=#[])
  (ha:s₁.heap.get? a=some {cls:=.type "list",data:=.seq vs.toArray}) (hi:IntsAre vs ns) (hl:ns.length<=sizeLine) (hr:Room k callerA)
  (F:∀base:Heap,K.In base->base.Ns mainGlobals mg->FnOk P w K mg base CX k fa fd [x] sp) (hbind:∀(s:Shared) (u:Value),BindsTo s fd ⟨[u],[]⟩ [(x,u)])
  (hsp:∀H:Hp,Only H->SqL K H a (ns.map V.int)->sp [.ref a] H (λv _=>v=.bl true) λ_ _ _=>False)
  (hCX:∀H e s',CX [] H s₁ (λ_ _ _=>False) e s'->False) :
  codeAny (model P w) callerA (.call (.ref fa) ⟨[.ref a],[]⟩) (λr s'=>r=.ok (.ret (.bool true))/\OldK s₁.heap s'.heap/\s'.os=s₁.os/\AllBare s'.gens) s₁:=by
 have rv:=xjc hi;have lenV:=hi.length
 have core:∀H:Hp,Only H->SqL K H a (ns.map V.int)->HOk P w H s₁.heap->(∀b,H b≠none->b=a)->(H a≠none->K.lookup a=none)->
   codeAny (model P w) callerA (.call (.ref fa) ⟨[.ref a],[]⟩) (λr s'=>r=.ok (.ret (.bool true))/\OldK s₁.heap s'.heap/\s'.os=s₁.os/\AllBare s'.gens) s₁:=by
  intro H hO hS hok hA hK;have base_of:∀{b:Addr} {o:Obj},s₁.heap.get? b=some o->H b=none->(hidT s₁.heap H).get? b=some o:=λe n=>xr0 e n
  have noA:∀{b:Addr} {o:Obj} {es:Array DictEntry} {ep:Nat},s₁.heap.get? b=some o->o.data=.dict es ep->H b=none:=λ{b o es ep} e d=>by
   cases q:H b with
   |none=>rfl
   |some u=>
    have e':b=a:=hA b (by rw[q];simp);subst e';rw[ha]at e;cases e;have d':Data.seq vs.toArray _=Data.dict es ep:=d;cases d'
  have nsK:∀{b:Addr} {m:Str->Option Value},s₁.heap.Ns b m->(hidT s₁.heap H).Ns b m:=λ{b m} ⟨o,es,ep,e,d,r⟩=>⟨o,es,ep,base_of e (noA e d),d,r⟩
  have hKb:K.In (hidT s₁.heap H):=λb o e=>base_of (KX b o e) (by
   cases q:H b with
   |none=>rfl
   |some u=>
    have e':b=a:=hA b (by rw[q];simp);subst e';rw[hK (by rw[q];simp)]at e;cases e)
  have hM:Mod K mg (hidT s₁.heap H):=⟨hKb,nsK hns,⟨mb,nsK hb,hbb⟩,let ⟨mc,h1,h2⟩:=hlim;⟨mc,nsK h1,h2⟩⟩;have e0:Env0 P w K mg (hidT s₁.heap H) callerA [] s₁ H:=⟨rfl,hM,λb o e=>xtu e,Nat.le_of_eq (xqg _ _),trivial,λb hb=>absurd (show b∈([]:List Addr) from hb) (by simp),hok,.of_eq hg⟩;refine codeAny_mono ((F _ hKb (nsK hns)).run callerA [] s₁ H ⟨[.ref a],[]⟩ [.ref a] [.ref a] _ _ hr e0 (hbind s₁ (.ref a)) (.cons rfl .nil) (hsp H hO hS)) λr s' h=>?_
  cases r with
  |error e=>exact(hCX H e s' h).elim
  | ok fl=>
   cases fl with
   |next=>exact False.elim h
   |brk=>exact False.elim h
   |cont=>exact False.elim h
   | ret u=>
    obtain⟨v,H',os,bare,un,hok',r',q⟩:=h;have q':v=.bl true:=q;subst q';obtain rfl:u=Value.bool true:=r';refine⟨rfl,OldK.of_keep λb o e=>?_,os,bare⟩
    cases q:H b with
    |none=>exact un.keep b o e q (by intro z;exact absurd (show b∈([]:List Addr) from z) (by simp)) (by simp)
    | some u=>
     rcases hO b with z |⟨ob,xs,z⟩
     ·rw[q]at z;cases z
     ·have z2:=un.frzs b ob _ z
      obtain⟨e1,_⟩:=hok b _ z;obtain⟨e2,_⟩:=hok' b _ z2;rw[e]at e1;cases e1;exact e2
 cases hk:K.lookup a with
 |some o=>
  have e:=KX a o hk;rw[ha]at e;cases e;refine core (λ_=>none) (λ_=>.inl rfl) (.inr ⟨_,vs.toArray,_,hk,rfl,rfl,rfl,by rw[List.size_toArray,lenV];exact hl,by simpa using rv⟩) (λb u z=>by have z':(none:Option HO)=some u:=z;cases z') (λb z=>absurd rfl z) λz=>absurd rfl z
 | none=>
  refine core (λb=>if b=a then some (.frz {cls:=.type "list",data:=.seq vs.toArray} (.lst (ns.map V.int))) else none) (λb=>?_) (.inl (.inr ⟨{cls:=.type "list",data:=.seq vs.toArray},if_pos rfl⟩)) (λb u z=>?_) (λb z=>?_) λ_=>hk
  ·by_cases hb:b=a
   ·exact .inr ⟨_,_,if_pos hb⟩
   ·exact .inl (if_neg hb)
  ·by_cases hb:b=a
   ·have z':=(if_pos hb).symm.trans z
    cases z';subst hb;exact⟨ha,by rw[zLM];exact hl,vs,_,rv,ha⟩
   ·have z':=(if_neg hb).symm.trans z
    cases z'
  ·by_cases hb:b=a
   ·exact hb
   ·exact absurd (if_neg hb) z
abbrev KOf{K:Fg}{h:Heap}(_:K.In h):Fg:=K
theorem walk_of {l:PySem.W.OpenLaw} {n k:Nat} {q:Program} {loose:List Str} {XP:(Str->Option Value)->Heap->Prop} {YP:World->Heap->Prop} {d:DefRec} {K:Params->Fg} {CX:World->CXT} {sp:World->Sp} {x:Str}
  (hn:l.most=some n) (hn2:n<=sizeLine) (hdf:d.params.defaults=[]) (hr:Room k callerA)
  (hY:∀(w:World) (h:Heap),YP w h->(K w.params).In h)
  (F:∀(w:World) (mg:Str->Option Value) (fa:Addr) (h:Heap),(K w.params).In h->h.Ns mainGlobals mg->mg d.name=some (.ref fa)->
   ∃fd:FuncData,(∀(s:Shared) (u:Value),BindsTo s fd ⟨[u],[]⟩ [(x,u)]) ∧
    ∀base:Heap,(K w.params).In base->base.Ns mainGlobals mg->FnOk l.prog w (K w.params) mg base (CX w) k fa fd [x] (sp w))
  (hsp:∀(w:World) (H:Hp) (a:Addr) (ns:List Int),ns.length<=n->Only H->SqL (K w.params) H a (ns.map V.int)->sp w [.ref a] H (λv _=>v=.bl true) λ_ _ _=>False)
  (hCX:∀(w:World) (H:Hp) (s:Shared) (e:Value) (s':Shared),CX w [] H s (λ_ _ _=>False) e s'->False) :
  PySem.W.WalkO q loose XP YP l.row.toRowW d [] (λf vs=>PySem.call f vs):=by
 refine Att.attach_call hn hdf λw s₀ s₁ mg mb fa o pm cd doc a vs ns G Y ho hd hcd hmg hobj hints hlen hg=>?_;have KX:=hY w _ Y;obtain⟨fd,hb,hF⟩:=F w mg fa _ KX G.T.g hmg;exact xrx KX G.T.g G.T.b G.T.builtins G.T.nolimit hg hobj hints (zY hlen hn2) hr hF hb (λH hO hS=>hsp w H a ns hlen hO hS) λH e s'=>hCX w H s₁ e s'
def xdm(s:Stmt):Arguments:=match s with
 |.FunctionDef _ a _ _ _ _ _ _ _ _=>a
 |_=>{posonlyargs:=[],args:=[],vararg:=none,kwonlyargs:=[],kw_defaults:=[],kwarg:=none,defaults:=[]}
def xc0(s:Stmt):List Stmt:=match s with
 |.FunctionDef _ _ b _ _ _ _ _ _ _=>b
 |_=>[]
def xac(s:Stmt):Scope:=match s with
 |.FunctionDef _ _ _ _ _ _ sc _ _ _=>sc
 |_=>{kind:=.function,names:=[],isGenerator:=false,isCoroutine:=false}
abbrev CX0:CXT:=λ_ _ _ _ _ _=>False
abbrev E0:XK:=λ_ _ _=>False
theorem xpf{X:Cx}:xhf CX0 X E0:=λ_ _ _ _ _ _ _ h=>h.elim
structure Fun(K:Fg)(x qual:Str)(st:Stmt)(f:Addr)(fd:FuncData):Prop where
 ex:∃(oc:Value) (od:Option Addr) (kV doc pm:Value) (an:Option Addr) (cdv ct:Value) (osl:Array (Option Value)),
  fd=PySem.W.fnOf x qual (xdm st) (xc0 st) (xac st) .none kV doc pm an cdv ct/\K.lookup f=some ⟨oc,od,.func fd,osl⟩/\PySem.W.codeIn K cdv qual=true
 kp:PySem.W.keepIn K (.ref f)=true
section
variable {P:Program}{w:World}{K:Fg}{mg:Str->Option Value}{base:Heap}
theorem Fun.ok {x qual:Str} {st:Stmt} {f:Addr} {fd:FuncData} {N ps:List Str} {k:Nat} {sp:Sp} (F:Fun K x qual st f fd) (S:FnScope N ps (xac st)) (len:∀vs H Q E,sp vs H Q E->vs.length=ps.length)
  (hbody:∀(cdv:Value) (A:Around) (outer:List Env) (s:Shared) (H:Hp) (vs:List V) (Q:VK) (E:XK),Room k (A.deeper (envOfC qual (xac st) s.heap.objs.size f cdv))->sp vs H Q E->
   ∃t,PSs (cxOf CX0 P w K mg base N qual (xac st) f cdv A outer s H E).nox (xc0 st) t/\t {nx:=λ_ H'=>Q .non H',rt:=Q} (xf0 N vs) H):FnOk P w K mg base CX0 (k+1) f fd ps sp:=by
 obtain⟨oc,od,kV,doc,pm,an,cdv,ct,osl,rfl,lk,hcd⟩:=F.ex;refine xv7 lk hcd S len λA outer s H vs Q E hr hsp=>?_;obtain⟨t,h,q⟩:=hbody cdv A outer s H vs Q E hr hsp;exact⟨t,h.nox,q⟩
theorem xv6 {x a:Str} {st:Stmt} {f:Addr} {j:Value} {od i:Option Addr} {g:Array (Option Value)} {kV e h b ct:Value} (l:K.lookup f=some ⟨j,od,.func (PySem.W.fnOf x a (xdm st) (xc0 st) (xac st) .none kV e h i b ct),g⟩)
  (c:PySem.W.codeIn K b a=true) (k:PySem.W.keepIn K (.ref f)=true):Fun K x a st f (PySem.W.fnOf x a (xdm st) (xc0 st) (xac st) .none kV e h i b ct):=⟨⟨j,od,kV,e,h,i,b,ct,g,rfl,l,c⟩,k⟩
end
theorem xd2{A:Around}{k:Nat}(a:Room k A):A.units+1<cLine:=zT (Nat.add_le_add_left (by decide:1<=64) _) a.units
section
variable {X:Cx}
theorem pv (i:Nat) {x:Str} {pos:Pos} (c:X.N[i]?=some x:=by rfl) (b:Vis X.env.scope x:=by first |exact Or.inl rfl |exact Or.inr (Or.inl rfl) |exact Or.inr (Or.inr rfl)) (hd:(x == ("__debug__":Str))=false:=by decide)
  (a:(x == ("__classdict__":Str))=false:=by decide):PE X (.Name x pos) (tVar i):=xvg c b hd a
end
theorem iteF{A B:Prop}(h:B):if false=true then A else B:=by
 rw[if_neg z7];exact h
theorem iteT{A B:Prop}(h:A):if true=true then A else B:=by
 rw[if_pos rfl];exact h
theorem ite2{c A B:Prop}[Decidable c](h1:c->A)(h2:¬c->B):if c then A else B:=by
 by_cases h:c
 ·rw[if_pos h]
  exact h1 h
 ·rw[if_neg h]
  exact h2 h
def Same(H H':Hp):Prop:=∀b o,H b=some o->H' b=some o
theorem Same.refl(H:Hp):Same H H:=λ_ _ h=>h
theorem Same.trans{H H1 H2:Hp}(a:Same H H1)(b:Same H1 H2):Same H H2:=λc o h=>b c o (a c o h)
theorem Same.seq{K:Fg}{H H':Hp}{a:Addr}{xs:List V}(e:Same H H')(h:SqL K H a xs):SqL K H' a xs:=by
 rcases h with(h |⟨o,h⟩) |h
 ·exact .inl (.inl (e _ _ h))
 ·exact .inl (.inr ⟨o,e _ _ h⟩)
 ·exact .inr h
def clOf(env:Env):List (Str×NameKind)->List (Str×Addr)->List (Str×Addr)
 |[],cs=>cs
 |(n,k)::r,cs=>clOf env r (if k == .free then match env.cells.lookup n with |some a=>(n,a)::cs |none=>cs else cs)
theorem xkx{env:Env}{x:Str}{c:Addr}:∀{ns:List (Str×NameKind)} {cs:List (Str×Addr)},(∀p∈cs,env.cells.lookup p.1=some p.2)->(clOf env ns cs).lookup x=some c->env.cells.lookup x=some c
 |[],cs,h,e=>by
  unfold clOf at e;exact h (x,c) (zN e)
 | (n,k)::r,cs,h,e=>by
  unfold clOf at e;refine xkx (ns:=r) ?_ e;intro p b;split at b
  ·split at b
   ·rename_i a f
    rcases zMC b with rfl |b
    ·exact f
    ·exact h p b
   ·exact h p b
  ·exact h p b
theorem xe3{x:Str}:∀{cs:List (Str×Addr)},(∃c,(x,c)∈cs)->∃c,cs.lookup x=some c
 |[],⟨_,h⟩=>nomatch h
 | (n,a)::r,⟨c,h⟩=>by
  rw[List.lookup_cons]
  cases e:x == n with
  |true=>exact⟨a,rfl⟩
  | false=>
   rcases zMC h with h |h
   ·cases h
    rw[beq_self_eq_true]at e;cases e
   ·exact xe3 ⟨c,h⟩
theorem xnp{env:Env}{x:Str}:∀{ns:List (Str×NameKind)} {cs:List (Str×Addr)},((∃c,(x,c)∈cs)\/((x,NameKind.free)∈ns/\∃c,env.cells.lookup x=some c))->∃c,(x,c)∈clOf env ns cs
 |[],cs,h=>by
  unfold clOf;rcases h with h |⟨h,_⟩
  ·exact h
  ·cases h
 | (n,k)::r,cs,h=>by
  unfold clOf;refine xnp (ns:=r) ?_;rcases h with⟨c,h⟩ |⟨h,c,a⟩
  ·refine .inl ⟨c,?_⟩
   split
   ·split
    ·exact qC _ h
    ·exact h
   ·exact h
  ·rcases zMC h with h |h
   ·cases h
    refine .inl ⟨c,?_⟩;rw[if_pos (by decide),a];exact List.mem_cons_self
   ·exact .inr ⟨h,c,a⟩
theorem xfq{a:Scope}{env:Env}(h:∀p∈a.names,p.2=NameKind.free->∃c,env.cells.lookup p.1=some c):closureFor a env=pure (clOf env a.names []):=by
 have go:∀(ns:List (Str×NameKind)) (cs:List (Str×Addr)),(∀p∈ns,p.2=NameKind.free->∃c,env.cells.lookup p.1=some c)->
   (forIn ns cs λ(x:Str×NameKind) (r:List (Str×Addr))=>(if (x.2 == NameKind.free)=true then do
     let y <- cellOf env x.1
     pure (ForInStep.yield ((x.1,y)::r)) else pure (ForInStep.yield r):Sem (ForInStep (List (Str×Addr)))))=(pure (clOf env ns cs):Sem (List (Str×Addr))):=by
  intro ns
  induction ns with
  |nil=>intro cs _;rfl
  | cons p r f=>
   intro cs e;obtain⟨n,k⟩:=p;rw[List.forIn_cons];unfold clOf;by_cases g:k=NameKind.free
   ·subst g
    obtain⟨c,i⟩:=e (n,.free) List.mem_cons_self rfl;have l:cellOf env n=pure c:=by unfold cellOf;rw[i]
    simp only[beq_self_eq_true,if_true,l,i,pure_bind];exact f _ λq b=>e q (qC _ b)
   ·have j:(k == NameKind.free)=false:=by simpa using g
    simp only[j,Bool.false_eq_true,if_false,pure_bind];exact f _ λq b=>e q (qC _ b)
 unfold closureFor;have:=go a.names [] h;simp only[bind_pure_comp,id_map']at this⊢;rw[this];rfl
theorem xdc {env:Env} {x:Str} {k':NameKind}:∀{ns:List (Str×NameKind)},
  (ns.map λ(n,k)=>if (k == NameKind.free && env.scope.kind == .function && env.kindOf n == some .cell) then (n,NameKind.cell) else (n,k)).lookup x=some k'->
  ∃k,ns.lookup x=some k/\(k'=k\/(k=.free/\k'=.cell))
 |[],h=>by simp at h
 | (n,k)::r,h=>by
  have h':List.lookup x ((if (k == NameKind.free && env.scope.kind == .function && env.kindOf n == some .cell)=true then (n,NameKind.cell) else (n,k))::(r.map λ(n,k)=>if (k == NameKind.free && env.scope.kind == .function && env.kindOf n == some .cell) then (n,NameKind.cell) else (n,k)))=some k':=h;rw[List.lookup_cons];by_cases a:(k == NameKind.free && env.scope.kind == .function && env.kindOf n == some .cell)=true
  ·rw[if_pos a,List.lookup_cons]at h'
   cases e:x == n with
   |true=>
    rw[e]at h';cases h';refine⟨k,rfl,.inr ⟨?_,rfl⟩⟩;rw[Bool.and_eq_true,Bool.and_eq_true]at a;exact eq_of_beq a.1.1
   |false=>
    rw[e]at h';exact xdc h'
  ·rw[if_neg a,List.lookup_cons]at h'
   cases e:x == n with
   |true=>
    rw[e]at h';cases h';exact⟨_,rfl,.inl rfl⟩
   |false=>
    rw[e]at h';exact xdc h'
theorem xe8 {env:Env} {x:Str} {k:NameKind}:∀{ns:List (Str×NameKind)},ns.lookup x=some k->
  ∃k',(ns.map λ(n,k)=>if (k == NameKind.free && env.scope.kind == .function && env.kindOf n == some .cell) then (n,NameKind.cell) else (n,k)).lookup x=some k'/\(k'=k\/(k=.free/\k'=.cell))
 |[],h=>by simp at h
 | (n,b)::r,h=>by
  show ∃k',List.lookup x ((if (b == NameKind.free && env.scope.kind == .function && env.kindOf n == some .cell)=true then (n,NameKind.cell) else (n,b))::(r.map λ(n,k)=>if (k == NameKind.free && env.scope.kind == .function && env.kindOf n == some .cell) then (n,NameKind.cell) else (n,k)))=some k'/\_;rw[List.lookup_cons]at h;by_cases a:(b == NameKind.free && env.scope.kind == .function && env.kindOf n == some .cell)=true
  ·rw[if_pos a,List.lookup_cons]
   cases e:x == n with
   |true=>
    rw[e]at h;cases h;refine⟨_,rfl,.inr ⟨?_,rfl⟩⟩;rw[Bool.and_eq_true,Bool.and_eq_true]at a;exact eq_of_beq a.1.1
   |false=>
    rw[e]at h;exact xe8 h
  ·rw[if_neg a,List.lookup_cons]
   cases e:x == n with
   |true=>
    rw[e]at h;cases h;exact⟨_,rfl,.inl rfl⟩
   |false=>
    rw[e]at h;exact xe8 h
abbrev Cap:=List (Option Nat)
def capt(ix:Cap)(σ:St):St:=ix.map λo=>(o.bind λj=>σ[j]?).join
def xr9(N N':List Str)(sc sc':Scope)(ix:Cap):Bool:=
 (ix.length == N'.length) && (sc'.kind == .function) &&
 (sc'.names.all λp=>p.2 != .cell && (p.2 != .local || sc'.names.lookup p.1 == some .local) && (p.2 != .free || (sc.names.lookup p.1 == some .cell || sc.names.lookup p.1 == some .free))) &&
 (List.range ix.length).all λk=>match ix[k]? with
  |some (some j)=>match N'[k]? with
   |some x=>N[j]? == some x && sc'.names.lookup x == some .free
   |none=>false
  |_=>true
structure CapOk(N N':List Str)(sc sc':Scope)(ix:Cap):Prop where
 len:ix.length=N'.length
 kind:sc'.kind=.function
 nocell:∀p∈sc'.names,p.2≠.cell
 loc:∀p∈sc'.names,p.2=.local->sc'.names.lookup p.1=some .local
 fre:∀p∈sc'.names,p.2=.free->sc.names.lookup p.1=some .cell\/sc.names.lookup p.1=some .free
 cap:∀(k j:Nat),ix[k]?=some (some j)->∃x,N'[k]?=some x/\N[j]?=some x/\sc'.names.lookup x=some .free
theorem xnr{N g:List Str}{i a:Scope}{ix:Cap}(h:xr9 N g i a ix=true):CapOk N g i a ix:=by
 unfold xr9 at h;simp only[Bool.and_eq_true,List.all_eq_true,beq_iff_eq]at h;obtain⟨⟨⟨s,r⟩,f⟩,o⟩:=h;refine⟨s,r,λp b=>?_,λp b m=>?_,λp b n=>?_,λk j l=>?_⟩
 ·have:=(f p b).1.1
  simpa using this
 ·have:=(f p b).1.2
  rw[m]at this;simpa using this
 ·have:=(f p b).2
  rw[n]at this;simpa using this
 ·have c:k<ix.length:=(zES l).1
  have:=o k (List.mem_range.mpr c);rw[l]at this;simp only at this
  cases e:g[k]? with
  |none=>rw[e]at this;simp at this
  |some x=>
   rw[e]at this;simp only[Bool.and_eq_true,beq_iff_eq]at this;exact⟨x,rfl,this.1,this.2⟩
abbrev Cx.comp(X:Cx)(sc:Scope)(N':List Str)(C:Addr)(s₀:Shared)(H₀:Hp)(ex:List Addr):Cx:=
 {X with N:=N',s₀:=s₀,H₀:=H₀,env:=compEnvC sc (clOf X.env sc.names []) C X.env,outer:=X.stack,stack:=X.stack,ex:=ex,fn:=λ_=>false,pn:=[],xe:=λ_ _=>False}
def Ext(σ σ':St):Prop:=σ.length=σ'.length/\∀(i:Nat) v,σ[i]?=some (some v)->σ'[i]?=some (some v)
theorem xhc{σ:St}{i:Nat}{v:Option V}(h:σ[i]?=some none):Ext σ (σ.set i v):=by
 refine⟨by simp,λj w e=>?_⟩;by_cases a:i=j
 ·subst a;rw[h]at e;cases e
 ·rw[List.getElem?_set_ne a];exact e
def PTs(X:Cx)(ifs:List Expr)(t:TT):Prop:=
 ∀(pins:List (Addr×Obj)) (s:Shared) (σ:St) (H:Hp) (Q:Bool->Hp->Prop),Inv X pins σ H s->t σ H Q->
  wpAny (model X.prog X.w) X.A (forIn ifs true λc r=>if r=true then do let ok <- isTrue c X.env (eval c X.env);pure (ForInStep.yield ok) else pure (ForInStep.yield r)) (TP X pins σ Q) X.xe s
def tYes:TT:=λ_ H Q=>Q true H
theorem xbo{X:Cx}:PTs X [] tYes:=λ_ _ _ H _ I h=>wpAny_tests_nil ⟨H,I,h⟩
theorem xdr{X:Cx}{c:Expr}{t:TT}(h:PT X c t):PTs X [c] t:=λa s σ H Q I b=>wpAny_tests_one (h a s σ H Q I b)
def xfz(J:It)(ix:Cap)(g:TG)(tt:TT)(te:TE)(σ:St)(H1:Hp)(Q:VK):Prop:=∃W:Nat->Nat->List V->Hp->Prop,(∃m,W 0 m [] H1)/\∀i m ys H,W i m ys H->
 (J.stop i H/\∀D,H D=none->Q (.ref D) (upd H D (.lst ys))) ∨
 (J.go i H/\ys.length<sizeLine/\∀x H',J.yld i H x H'->g x (capt ix σ) H' λσ2 H2=>Ext (capt ix σ) σ2/\tt σ2 H2 λb H3=>
  if b=true then te σ2 H3 λy H4=>∃m',m'<m/\W (i+1) m' (ys++[y]) H4 else ∃m',m'<m/\W (i+1) m' ys H3)
def xux(ix:Cap)(wi:TI)(g:TG)(tt:TT)(te:TE):TE:=λσ H Q=>wi σ H λJ H1=>xfz J ix g tt te σ H1 Q
theorem HOk.track{P:Program}{w:World}{H:Hp}{h:Heap}{a:Addr}{o:HO}(x:HOk P w H h)(hn:H a=none)(new:ObjOk P w (upd H a o) h a o):HOk P w (upd H a o) h:=λb u e=>by
 by_cases f:b=a
 ·subst f;rw[ups]at e;cases e;exact new
 ·rw[xak f]at e
  exact(x b u e).stay (λc v _ q=>q) (λc q=>by rw[xak (neN q hn)];exact q) λc xs q=>by rw[xak (neN q hn)];exact q
theorem xe1 {prog:Program} {w:World} {A:Around} {R:Result->Shared->Prop} {s:Shared} {i a f:Expr} {g:List Expr} {b:Scope} {pos:Pos} {it acc:Value} {env:Env} (I:Nat->Shared->Prop)
  (j:∀ n s,I n s->wpAny (model prog w) A (pyNext it) (λr p=>match r with
   |none=>R (.ok .next) p
   | some v=>wpAny (model prog w) A (letOwnedTupleGo a it v) (λ_ l=>wpAny (model prog w) A (assign a env v) (λ_ C=>
     wpAny (model prog w) A (forIn g true λc r=>if r=true then do let ok <- isTrue c env (eval c env);pure (ForInStep.yield ok) else pure (ForInStep.yield r)) (λok o=>
      if ok=true then wpAny (model prog w) A (eval i env) (λx z=>
       wpAny (model prog w) A (call (.builtin "list.append") [acc,x]) (λ_ y=>∃m,m<n/\I m y) (notedBy (model prog w) A env λe s'=>R (.error e) s') z) (notedBy (model prog w) A env λe s'=>R (.error e) s') o
      else ∃m,m<n/\I m o) (notedBy (model prog w) A env λe s'=>R (.error e) s') C) (notedBy (model prog w) A env λe s'=>R (.error e) s') l) (notedBy (model prog w) A env λe s'=>R (.error e) s') p) (notedBy (model prog w) A env λe s'=>R (.error e) s') s)
  (n:Nat) (h:I n s) :
  codeAny (model prog w) A (.compLoop (.ListComp i [⟨a,f,g,0⟩] b pos) 0 it acc env) R s:=by
 refine codeAny_loop rfl I (λn s U=>?_) n h;show wpAny _ A ((compTurn (.ListComp i [⟨a,f,g,0⟩] b pos) 0 it acc env).onRaise (λx=>do noteFrame x env;theTreesLotGoes x)) _ _ s;refine wpAny_noted ?_;rw[compTurn_list];refine zX (wpAny_standAt (zX (wpAny_mono (j n s U) (λr p h₁=>?_) λ_ _ h'=>h')))
 cases r with
 |none=>exact z3 h₁
 | some v=>
  refine zX (wpAny_mono h₁ (λ_ l u=>?_) λ_ _ h'=>h');refine zX (wpAny_mono u (λ_ C O=>zX (wpAny_mono O (λok o G=>?_) λ_ _ h'=>h')) λ_ _ h'=>h')
  cases ok with
  |false=>exact z3 ⟨rfl,G⟩
  |true=>
   exact zX (zX (wpAny_mono G (λx z M=>zX (wpAny_mono M (λ_ y J=>z3 (z3 ⟨rfl,J⟩)) λ_ _ h'=>h')) λ_ _ h'=>h'))
section
variable {X:Cx}
theorem xh0{M:Model}{A:Around}{α:Type}{t:Sem α}{Q:α->Shared->Prop}{E:Value->Shared->Prop}{s:Shared}(h:wpAny M A t Q (λ_ _=>False) s):wpAny M A t Q E s:=wpAny_mono h (λ_ _ q=>q) λ_ _ z=>z.elim
theorem xh6 {elt tg iter:Expr} {ifs:List Expr} {sc:Scope} {pos:Pos} {N':List Str} {ix:Cap} {g:TG} {tt:TT} {te:TE} {pins:List (Addr×Obj)} {σ:St} {s:Shared} {Q:VK} {RR:Value->Addr->Result->Shared->Prop} {E:Value->Shared->Prop}
  {itv:Value} (hc:X.calm=true) (ok:CapOk X.N N' X.env.scope sc ix)
  (hg:∀C s₀ H₀ ex,PG (X.comp sc N' C s₀ H₀ ex) tg g) (ht:∀C s₀ H₀ ex,PTs (X.comp sc N' C s₀ H₀ ex) ifs tt) (he:∀C s₀ H₀ ex,PE (X.comp sc N' C s₀ H₀ ex) elt te)
  (hi:PIE X pins σ tg (λJ H1=>xfz J ix g tt te σ H1 Q) itv s)
  (fin:∀(D C:Addr) (s':Shared) (H':Hp) (m:Str->Option Value),Inv X pins σ H' s'->Q (.ref D) H'->s'.heap.Ns C m->H' C=none->C≠X.env.locals->X.s₀.heap.objs.size<=C->(∀x c,X.env.cells.lookup x=some c->c≠C)->(∀p∈X.pn++pins,p.1≠C)->
   RR (.ref D) C (.ok .next) s') :
  wpAny (model X.prog X.w) X.A (newList []) (λacc s₃=>wpAny (model X.prog X.w) X.A (newFunctionEnv sc X.env.globals (clOf X.env sc.names []) [] X.env.qual none .none (some X.env)) (λcenv s₄=>
   codeAny (model X.prog X.w) X.A (.compStart (.ListComp elt [⟨tg,iter,ifs,0⟩] sc pos) 0 itv acc {cenv with scope:=relabel sc X.env}) (RR acc cenv.locals) s₄) E s₃) E s:=by
 obtain⟨it,fp,tn,J,H2,rfl,I2,T,st2,f2,W,⟨m0,w0⟩,turn⟩:=hi;refine wpAny_newObj_type (wpAny_newFunctionEnv ok.nocell (by intro y hy;simp at hy) (λh₁ hns₁ hsb₁=>?_) ok.kind);dsimp only at hns₁ hsb₁⊢;generalize hHD:s.heap.push {cls:=.type "list",dict:=none,data:=.seq ([]:List Value).toArray}=hD at hns₁ hsb₁⊢;have hCs:hD.objs.size=s.heap.objs.size+1:=by rw[<- hHD,Heap.size_push]
 have upC:s.heap.objs.size<hD.objs.size:=by rw[hCs];exact Nat.lt_succ_self _
 have hDC:s.heap.objs.size≠hD.objs.size:=by rw[hCs];exact z9 (Nat.lt_succ_self _)
 have below:∀b o,s.heap.get? b=some o->b≠hD.objs.size/\b≠s.heap.objs.size:=λb o e=>by
  have:=z5 e;exact⟨z9 (by rw[hCs];exact Nat.lt_succ_of_lt this),z9 this⟩
 have old:∀b o,s.heap.get? b=some o->h₁.get? b=some o:=λb o e=>hsb₁.extBut b o (below b o e).1 (zPO _ (hHD ▸ zPO _ e));have hacc:h₁.get? s.heap.objs.size=some {cls:=.type "list",data:=.seq ([]:List Value).toArray 0}:=hsb₁.extBut _ _ hDC (zPO _ (hHD ▸ z6 _ rfl));have fpo:∀b∈fp,b<s.heap.objs.size:=λb hb=>let ⟨o,e,_⟩:=T.obj _ _ st2 b hb;z5 e;have cellX:∀x c,(clOf X.env sc.names []).lookup x=some c->X.env.cells.lookup x=some c:=λx c e=>xkx (λp hp=>absurd hp (by simp)) e;have cellLt:∀x c,X.env.cells.lookup x=some c->c<s.heap.objs.size:=λx c e=>let ⟨v,z⟩:=I2.cell x c e;z.lt
 have hasC:∀x,(x,NameKind.free)∈sc.names->∃c,(clOf X.env sc.names []).lookup x=some c:=λx hx=>by
  have h1:=I2.ok.has x (ok.fre (x,.free) hx rfl);exact xe3 (xnp (.inr ⟨hx,h1⟩))
 have okX:(X.comp sc N' hD.objs.size s H2 fp).Ok:=by
  refine⟨I2.ok.mod,ok.kind,I2.ok.glob,I2.ok.blt,?_,?_,?_,?_,I2.ok.hd,I2.ok.frames,.inl rfl,?_,I2.bs,zY I2.ok.bsz I2.sz,?_,?_,I2.stack,I2.stkFree⟩
  ·exact Nat.le_of_lt upC
  ·intro x y c h1 h2
   exact I2.ok.inj x y c (cellX x c h1) (cellX y c h2)
  ·intro x hx
   have hx':(relabel sc X.env).names.lookup x=some .cell\/(relabel sc X.env).names.lookup x=some .free:=hx
   have:∃k,sc.names.lookup x=some k/\(k=.free\/k=.cell):=by
    rcases hx' with h |h
    ·obtain⟨k,e,z⟩:=xdc h
     rcases z with z |⟨z,_⟩
     ·exact⟨k,e,.inr z.symm⟩
     ·exact⟨k,e,.inl z⟩
    ·obtain⟨k,e,z⟩:=xdc h
     rcases z with z |⟨_,z⟩
     ·exact⟨k,e,.inl z.symm⟩
     ·cases z
   obtain⟨k,e,z⟩:=this;rcases z with rfl |rfl
   ·exact hasC x (zN e)
   ·exact absurd rfl (ok.nocell _ (zN e))
  ·intro x c h _
   cases h
  ·intro b hb
   refine⟨?_,λx c e=>(f2 b hb).2.2.2.2.1 x c (cellX x c e)⟩;exact z9 (by rw[hCs];exact Nat.lt_succ_of_lt (fpo b hb))
  ·intro b o e hb
   rcases(f2 b hb).2.2.2.1 with z |z
   ·exact I2.ok.noex b o e z
   ·exact absurd (qB (z5 (I2.ok.bs b o e).1) z) (qE _)
  ·intro b hb z
   rcases zMC (I2.stkSub b z) with z |z
   ·exact(f2 b hb).2.1 z
   ·exact(f2 b hb).2.2.1 z
 have hnD:H2 s.heap.objs.size=none:=I2.hok.fresh (zZ _);have hnC:H2 hD.objs.size=none:=I2.hok.fresh (Nat.le_of_lt upC)
 have nofsD:∀a,s.heap.objs.size<=a->a ∉frs X.stack:=λa ha z=>by
  rcases zMC (I2.stkSub a z) with z |z
  ·exact absurd (qB I2.lt ha) (by rw[z];exact qE _)
  ·exact I2.nofs ha z
 have xf0:Inv (X.comp sc N' hD.objs.size s H2 fp) [(s.heap.objs.size,{cls:=.type "list",data:=.seq ([]:List Value).toArray 0})] (capt ix σ) H2 {s with heap:=h₁,toks:=s.toks+([]:List (Str×Value)).length}:=by
  refine⟨okX,rfl,I2.bare,Un.kept old,⟨_,hns₁,?_⟩,λx c e=>?_,hnC,λx c e=>I2.freeC x c (cellX x c e),λp hp=>?_,I2.hok.kept old,?_⟩
  ·intro i x v hN hv hvis
   have hl:i<ix.length:=by rw[ok.len];exact(zES hN).1
   have hv':(ix.map λo=>(o.bind λj=>σ[j]?).join)[i]?=some (some v):=hv;rw[zGM,zGA hl]at hv';have hv'':((ix[i].bind λj=>σ[j]?).join)=some v:=z8 hv'
   cases ej:ix[i] with
   |none=>rw[ej]at hv'';cases hv''
   | some j=>
    rw[ej]at hv''
    have hσ:σ[j]?=some (some v):=by
     have z:(σ[j]?).join=some v:=hv''
     cases q:σ[j]? with
     |none=>rw[q]at z;cases z
     |some o=>rw[q]at z;exact congrArg some z
    obtain⟨x',e1,e2,e3⟩:=ok.cap i j (by rw[zGA hl,ej]);rw[show N'[i]?=some x from hN]at e1;cases e1;have hk:=ok.fre (x,.free) (zN e3) rfl;obtain⟨m,hm,hl'⟩:=I2.loc;obtain⟨u,ru,lk⟩:=hl' j x v e2 hσ (hk.elim (λz=>.inr (.inl z)) λz=>.inr (.inr z));refine⟨u,ru,.inr ⟨?_,?_⟩⟩
    ·show(relabel sc X.env).names.lookup x=some .cell\/(relabel sc X.env).names.lookup x=some .free
     obtain⟨k',q1,q2⟩:=xe8 (env:=X.env) e3;rcases q2 with q2 |⟨_,q2⟩
     ·exact .inr (q1.trans (congrArg some q2))
     ·exact .inl (q1.trans (congrArg some q2))
    ·obtain⟨c,hc'⟩:=hasC x (zN e3)
     refine⟨c,hc',?_⟩;rcases lk with⟨z,_⟩ |⟨_,c',ec,⟨o,ho,hd⟩⟩
     ·have z':X.env.scope.names.lookup x=some .local:=z
      rcases hk with hk |hk
      ·rw[z']at hk;cases hk
      ·rw[z']at hk;cases hk
     ·rw[cellX x c hc']at ec
      cases ec;exact⟨o,old _ _ ho,hd⟩
  ·obtain⟨v,o,ho,hd⟩:=I2.cell x c (cellX x c e)
   exact⟨v,o,old _ _ ho,hd⟩
  ·have e:p=(s.heap.objs.size,{cls:=.type "list",data:=.seq ([]:List Value).toArray 0}):=by simpa using hp
   subst e;exact⟨hacc,hnD,hDC,nofsD _ (zZ _),λv z=>by cases z⟩
  ·show(ix.map _).length=N'.length
   rw[zLM];exact ok.len
 have st1:tn 0 h₁:=T.keep _ _ _ st2 λb hb o e=>old b o e
 have loop:∀s₃:Shared,s₃={s with heap:=h₁,toks:=s.toks+([]:List (Str×Value)).length}->
   codeAny (model X.prog X.w) X.A (.compLoop (.ListComp elt [⟨tg,iter,ifs,0⟩] sc pos) 0 (.ref it) (.ref s.heap.objs.size) (compEnvC sc (clOf X.env sc.names []) hD.objs.size X.env))
    (RR (.ref s.heap.objs.size) hD.objs.size) s₃:=by
  rintro s₃ rfl
  have fpI:∀{H':Hp} {o:Obj},(∀b∈fp,H' b=none)->∀b∈fp,FpOk (X.comp sc N' hD.objs.size s H2 fp) [(s.heap.objs.size,o)] H' b:=λ{H' o} hn b hb=>by
   have hlt:=fpo b hb;refine⟨hn b hb,(okX.exf b hb).1,okX.exfs b hb,.inl hb,(okX.exf b hb).2,λp hp=>?_⟩;have e:p=(s.heap.objs.size,o):=by simpa using hp
   subst e;exact Nat.ne_of_gt hlt
  refine xe1 (λn s'=>∃i ys its k H',Inv (X.comp sc N' hD.objs.size s H2 fp) [(s.heap.objs.size,{cls:=.type "list",data:=.seq its.toArray k})] (capt ix σ) H' s'/\Vals ys its/\ys.length<=sizeLine/\tn i s'.heap/\(∀b∈fp,H' b=none)/\W i n ys H')
   ?_ m0 ⟨0,[],[],0,H2,xf0,.nil,qL _,st1,λb hb=>(f2 b hb).1,w0⟩
  rintro n s4 ⟨i,ys,its,k,H4,I4,r4,z4,st4,fr4,w4⟩;rcases turn i n ys H4 w4 with⟨stop,q⟩ |⟨go,hz,step⟩
  ·refine xh0 (thn (T.done (X.comp sc N' hD.objs.size s H2 fp) rfl rfl rfl hc i _ s4 _ H4 (λ_ _=>False) I4 (fpI fr4) st4 stop) λr s5 ⟨hr,I5⟩=>?_)
   subst hr;show RR (.ref s.heap.objs.size) hD.objs.size (.ok .next) s5;obtain⟨pD,nD,_,_,_⟩:=I5.pin (s.heap.objs.size,{cls:=.type "list",data:=.seq its.toArray k}) (by simp);obtain⟨m5,hm5,_⟩:=I5.loc;have okD:HOk X.prog X.w (upd H4 s.heap.objs.size (.lst ys)) s5.heap:=I5.hok.track nD ⟨z4,its,k,r4,pD⟩
   have un:Un (frs X.stack) fp H2 (upd H4 s.heap.objs.size (.lst ys)) s.heap s5.heap:=by
    have B:Un (frs X.stack) fp H2 H4 s.heap s5.heap:=I5.base;have ne:∀b u,H2 b=some u->b≠s.heap.objs.size:=λb u e=>neN e hnD;refine⟨B.keep,B.slot,λb o e n hb=>?_,B.there,λb xs e=>?_,λb o u e=>?_,λb ps e=>?_⟩
    ·rw[xak (below b o e).2];exact B.free b o e n hb
    ·rw[xak (ne b _ e)];exact B.tups b xs e
    ·rw[xak (ne b _ e)];exact B.frzs b o u e
    ·rw[xak (ne b _ e)];exact B.tbls b ps e
   have IX:Inv X pins σ (upd H4 s.heap.objs.size (.lst ys)) s5:=I2.call' (ch:=fp) I5.os un okD I5.bare λb hb=>⟨(f2 b hb).2.2.2.1,(f2 b hb).2.1,(f2 b hb).2.2.2.2.1,(f2 b hb).2.2.2.2.2⟩;refine fin _ _ s5 _ m5 IX (q _ nD) hm5 ?_ (Nat.ne_of_gt (Nat.lt_trans I2.lt upC)) (Nat.le_of_lt (zT I2.sz upC)) (λx c e=>z9 (Nat.lt_trans (cellLt x c e) upC)) (λp hp=>z9 (Nat.lt_trans (z5 (I2.pin p hp).1) upC));rw[xak (Ne.symm hDC)];exact I5.free
  ·refine xh0 (thn (T.item (X.comp sc N' hD.objs.size s H2 fp) rfl rfl rfl hc i _ s4 _ H4 (λ_ _=>False) I4 (fpI fr4) st4 go) λr s5 ⟨u,hr,h5⟩=>?_)
   subst hr;refine xh0 (thn h5 λ_ s6 ⟨x,H6,I6,r6,y6,st6,fr6⟩=>?_);have I6':=I6.pinned (fpI fr6) (T.obj _ _ st6);refine xh0 (thn (hg _ _ _ _ _ s6 _ H6 x u _ I6' r6 (step x H6 y6)) λ_ s7 ⟨σ7,H7,I7,x7,q7⟩=>?_);refine xh0 (thn (ht _ _ _ _ _ s7 σ7 H7 _ I7 q7) λb s8 ⟨H8,I8,q8⟩=>?_)
   have back:∀{s9:Shared} {H9:Hp},Inv (X.comp sc N' hD.objs.size s H2 fp) ([(s.heap.objs.size,{cls:=.type "list",data:=.seq its.toArray k})]++xjz fp s6.heap) σ7 H9 s9->
     Inv (X.comp sc N' hD.objs.size s H2 fp) [(s.heap.objs.size,{cls:=.type "list",data:=.seq its.toArray k})] (capt ix σ) H9 s9/\tn (i+1) s9.heap/\(∀b∈fp,H9 b=none):=λ{s9 H9} J9=>by
    refine⟨(J9.unpinned).weak x7.1 x7.2,T.keep _ _ _ st6 λb hb o e=>(J9.pin (b,o) (zJ _ (zJ _ (xew hb e)))).1,λb hb=>?_⟩;obtain⟨o,e,d⟩:=T.obj _ _ st6 b hb;exact(J9.pin (b,o) (zJ _ (zJ _ (xew hb e)))).2.1
   cases b with
   |false=>
    rw[if_neg z7]at q8⊢;obtain⟨m',hm,w8⟩:=q8;obtain⟨J8,st8,fr8⟩:=back I8;exact⟨m',hm,i+1,ys,its,k,H8,J8,r4,z4,st8,fr8,w8⟩
   | true=>
    rw[if_pos rfl]at q8⊢;refine xh0 (thn (he _ _ _ _ _ s8 σ7 H8 _ I8 q8) λy s9 ⟨v9,H9,I9,r9,q9⟩=>?_);obtain⟨m',hm,w9⟩:=q9;obtain⟨J9,st9,fr9⟩:=back I9;obtain⟨pD,nD,neC,nf,_⟩:=J9.pin (s.heap.objs.size,{cls:=.type "list",data:=.seq its.toArray k}) (by simp);have hlen:=r4.length;refine call_meets F.slot_list_append ⟨_,pD,rfl⟩ F.entry_list_append (F.args_list_append_2 _ _) (PySem.list_append s.heap.objs.size its.toArray k y (by rw[List.size_toArray];omega)) ⟨pD,?_⟩;have q:=PySem.IsL.update pD (·.push y);have ep:its.toArray.push y=(its++[y]).toArray:=by simp
    dsimp only at q;rw[ep]at q;obtain⟨k',q⟩:∃k',(s9.heap.update s.heap.objs.size (Obj.mapSeq (·.push y))).get? s.heap.objs.size=some {cls:=.type "list",data:=.seq (its++[y]).toArray k'}:=⟨_,q⟩;have J0:Inv (X.comp sc N' hD.objs.size s H2 fp) [] (capt ix σ) H9 s9:=J9.pins_of λp hp=>absurd hp (by simp)
    have J1:Inv (X.comp sc N' hD.objs.size s H2 fp) [] (capt ix σ) H9 {s9 with heap:=s9.heap.update s.heap.objs.size (Obj.mapSeq (·.push y))}:=
     J0.turned (it:=s.heap.objs.size) (t':=s9.toks) (λb o hb e=>(Heap.get?_update_other _ _ (Ne.symm hb)).trans e) nD neC (.inr (zZ _)) (λx c e=>z9 (cellLt x c (cellX x c e))) λp hp=>absurd hp (by simp)
    refine⟨m',hm,i+1,ys++[v9],its++[y],k',H9,J1.pins_of λp hp=>?_,r4.append (.cons r9 .nil),?_,T.keep _ _ _ st9 λb hb o e=>(Heap.get?_update_other _ _ ?_).trans e,fr9,w9⟩
    ·have e:p=_:=zMO hp
     subst e;exact⟨q,nD,neC,nf,λv z=>by cases z⟩
    ·rw[zLA,List.length_singleton];omega
    ·exact Nat.ne_of_gt (fpo b hb)
 exact codeAny_compStart_list (loop _ rfl) (T.self _ 0 _ _ _ st1 (loop _ rfl))
theorem Inv.letGo {pins:List (Addr×Obj)} {σ:St} {H:Hp} {s:Shared} {C:Addr} {h':Heap} (I:Inv X pins σ H s) (hs:Heap.SameBut C s.heap h') (h0:H C=none) (h1:C≠X.env.locals) (h2:X.s₀.heap.objs.size<=C) (h3:∀x c,X.env.cells.lookup x=some c->c≠C)
  (h4:∀p∈X.pn++pins,p.1≠C):Inv X pins σ H {s with heap:=h'}:=I.turned (t':=s.toks) (λb o hb e=>(hs.2 b hb).trans e) h0 h1 (.inr h2) h3 h4
theorem xbh {elt tg iter:Expr} {ifs:List Expr} {sc:Scope} {pos:Pos} (N':List Str) (ix:Cap) {wi:TI} {g:TG} {tt:TT} {te:TE} (hc:X.calm=true) (hok:xr9 X.N N' X.env.scope sc ix=true)
  (hi:PI X tg iter wi) (hg:∀C s₀ H₀ ex,PG (X.comp sc N' C s₀ H₀ ex) tg g) (ht:∀C s₀ H₀ ex,PTs (X.comp sc N' C s₀ H₀ ex) ifs tt) (he:∀C s₀ H₀ ex,PE (X.comp sc N' C s₀ H₀ ex) elt te)
  (hs:∀x,foldedSetIterable iter X.env x=pure x:=by intro _;rfl):PE X (.ListComp elt [⟨tg,iter,ifs,0⟩] sc pos) (xux ix wi g tt te):=by
 intro pins s σ H Q I h;have ok:=xnr hok;rw[eval_ListComp];refine wpAny_comprehension_free (use:=none) rfl hs (xfq λp hp hk=>I.ok.has p.1 (ok.fre p hp hk)) ok.kind ok.loc (thn (hi pins s σ H _ I h) λv s1 h1=>thn h1 λitv s2 h2=>?_);refine xh6 (RR:=λacc C=>compPost (model X.prog X.w) X.A X.xe none (EP X pins σ Q) acc C) hc ok hg ht he h2 ?_;intro D C s' H' m I' q hm h0 h1 h2 h3 h4;exact⟨m,hm,λh' hsb=>⟨.ref D,H',I'.letGo hsb h0 h1 h2 h3 h4,rfl,q⟩⟩
theorem xc8 {elt tg iter:Expr} {ifs:List Expr} {sc:Scope} {pos spos py:Pos} {i:Nat} {y:Str} (N':List Str) (ix:Cap) {wi:TI} {g:TG} {tt:TT} {te:TE} (hc:X.calm=true) (hok:xr9 X.N N' X.env.scope sc ix=true)
  (hN:X.N.Nodup) (hy:X.N[i]?=some y) (hx:Loc X.env.scope y)
  (hi:PI X tg iter wi) (hg:∀C s₀ H₀ ex,PG (X.comp sc N' C s₀ H₀ ex) tg g) (ht:∀C s₀ H₀ ex,PTs (X.comp sc N' C s₀ H₀ ex) ifs tt) (he:∀C s₀ H₀ ex,PE (X.comp sc N' C s₀ H₀ ex) elt te)
  (hs:∀x,foldedSetIterable iter X.env x=pure x:=by intro _;rfl) (hsw:swapsWith (.ListComp elt [⟨tg,iter,ifs,0⟩] sc pos) (some (.Name y py)) spos.line X.env=pure true:=by rfl)
  (hf:X.fn y=true\/X.env.scope.names.lookup y=some .local:=by first |exact .inl rfl |exact .inr rfl |assumption) :
  PS X (.Assign [.Name y py] (.ListComp elt [⟨tg,iter,ifs,0⟩] sc pos) spos) (tAsg (xux ix wi g tt te) (xg9 i)):=by
 intro pins s σ H D I h;have ok:=xnr hok;rw[exec_Assign_Name_used _ _ _ _ hsw];refine zX (wpAny_standAt (zX ?_));show wpAny _ X.A (do let _ <- comprehension (.ListComp elt [⟨tg,iter,ifs,0⟩] sc pos) sc X.env _ (newList []) false (eval iter X.env) (some (assign (.Name y py) X.env))) _ _ s
 refine zX (wpAny_mono (wpAny_comprehension_free (use:=some (assign (.Name y py) X.env)) (Q:=λ_ s'=>SP X pins D .next s') rfl hs (xfq λp hp hk=>I.ok.has p.1 (ok.fre p hp hk)) ok.kind ok.loc
  (thn (hi pins s σ H _ I h) λv s1 h1=>thn h1 λitv s2 h2=>?_)) (λ_ s' hq=>z3 (z3 hq)) λ_ _ e=>e)
 refine xh6 (Q:=λx H1=>xg9 i x σ H1 D.nx) (RR:=λacc C=>compPost (model X.prog X.w) X.A X.xe (some (assign (.Name y py) X.env)) (λ_ s'=>SP X pins D .next s') acc C) hc ok hg ht he h2 ?_;intro Dl C s' H' m I' q hm h0 h1 h2 h3 h4;refine wpAny_assign_Name (xjg I' hN hy hx (v:=.ref Dl) rfl (λs3 I3 sb=>?_) hf);obtain⟨a,hsb,ha⟩:=sb
 have hne:C≠a:=by
  rcases ha with e |e
  ·rw[e];exact h1
  ·exact Ne.symm (h3 y a e)
 exact⟨m,hm.sameBut hsb hne,λh' hs'=>⟨_,H',I3.letGo hs' h0 h1 h2 h3 h4,q⟩⟩
end
section
variable {ix:Cap}{tt:TT}{te:TE}{g:TG}{σ:St}{H:Hp}{Q:VK}
def Nxt(Pv:Nat->List V->Hp->Prop)(n i:Nat)(ys:List V):VK:=λy H2=>∃m',m'<n-i/\m'=n-(i+1)/\i+1<=n/\(ys++[y]).length=i+1/\Pv (i+1) (ys++[y]) H2
theorem nxt{a:Nat->List V->Hp->Prop}{n i:Nat}{ys:List V}{y:V}{b:Hp}(hi:i<n)(c:ys.length=i)(h:a (i+1) (ys++[y]) b):Nxt a n i ys y b:=
 ⟨n-(i+1),by omega,rfl,hi,by rw[zLA,List.length_singleton,c],h⟩
theorem xdb {lo:Int} {n j:Nat} (Pv:Nat->List V->Hp->Prop) (hj:(capt ix σ)[j]?=some none) (h0:Pv 0 [] H) (hn:n<sizeLine)
  (hs:∀i ys H,i<n->ys.length=i->Pv i ys H->te ((capt ix σ).set j (some (.int (lo+i)))) H (Nxt Pv n i ys))
  (hd:∀ys H,ys.length=n->Pv n ys H->∀D,H D=none->Q (.ref D) (upd H D (.lst ys))):xfz (Itr lo n) ix (xg9 j) tYes te σ H Q:=by
 refine⟨λi m ys H=>m=n-i/\i<=n/\ys.length=i/\Pv i ys H,⟨n,by simp,qL _,rfl,h0⟩,?_⟩;rintro i m ys H ⟨rfl,hi,hl,p⟩;by_cases hlt:i<n
 ·refine .inr ⟨hlt,by omega,λx H' y=>?_⟩
  obtain⟨e,y⟩:=y;subst e y;refine⟨xhc hj,?_⟩;unfold tYes;dsimp only;rw[if_pos rfl];exact hs i ys _ hlt hl p
 ·have e:i=n:=by omega
  subst e;exact .inl ⟨zZ _,hd ys H hl p⟩
theorem xkw {K:Fg} {a:Addr} {xs:List V} {j:Nat} (Pv:Nat->List V->Hp->Prop) (hj:(capt ix σ)[j]?=some none) (h0:Pv 0 [] H) (hn:xs.length<sizeLine) (hl':∀i ys H,i<=xs.length->Pv i ys H->SqL K H a xs)
  (hs:∀i x ys H,xs[i]?=some x->ys.length=i->Pv i ys H->te ((capt ix σ).set j (some x)) H (Nxt Pv xs.length i ys))
  (hd:∀ys H,ys.length=xs.length->Pv xs.length ys H->∀D,H D=none->Q (.ref D) (upd H D (.lst ys))):xfz (Itl K a) ix (xg9 j) tYes te σ H Q:=by
 refine⟨λi m ys H=>m=xs.length-i/\i<=xs.length/\ys.length=i/\Pv i ys H,⟨xs.length,by simp,qL _,rfl,h0⟩,?_⟩;rintro i m ys H ⟨rfl,hi,hl,p⟩;have q:=hl' i ys H hi p;by_cases hlt:i<xs.length
 ·refine .inr ⟨⟨xs,xs[i],q,by simp[hlt]⟩,by omega,λv H' y=>?_⟩
  obtain⟨e,y⟩:=y;subst e;refine⟨xhc hj,?_⟩;unfold tYes;dsimp only;rw[if_pos rfl];exact hs i v ys _ (y xs q) hl p
 ·have e:i=xs.length:=by omega
  subst e;exact .inl ⟨⟨xs,q,zZ _⟩,hd ys H hl p⟩
theorem xgj {K:Fg} {a:Addr} {xs:List V} {j:Nat} (b:Nat->List V->Hp->Prop) (h:(capt ix σ)[j]?=some none) (h0:b 0 [] H) (hn:xs.length<sizeLine) (f:∀i ys H,i<=xs.length->b i ys H->SqT K H a xs)
  (hs:∀i x ys H,xs[i]?=some x->ys.length=i->b i ys H->te ((capt ix σ).set j (some x)) H (Nxt b xs.length i ys))
  (hd:∀ys H,ys.length=xs.length->b xs.length ys H->∀D,H D=none->Q (.ref D) (upd H D (.lst ys))):xfz (Itt K a) ix (xg9 j) tYes te σ H Q:=by
 refine⟨λi m ys H=>m=xs.length-i/\i<=xs.length/\ys.length=i/\b i ys H,⟨xs.length,by simp,qL _,rfl,h0⟩,?_⟩;rintro i m ys H ⟨rfl,hi,g,p⟩;have q:=f i ys H hi p;by_cases c:i<xs.length
 ·refine .inr ⟨⟨xs,xs[i],q,by simp[c]⟩,by omega,λv l y=>?_⟩
  obtain⟨e,y⟩:=y;subst e;refine⟨xhc h,?_⟩;unfold tYes;dsimp only;rw[if_pos rfl];exact hs i v ys _ (y xs q) g p
 ·have e:i=xs.length:=by omega
  subst e;exact .inl ⟨⟨xs,q,zZ _⟩,hd ys H g p⟩
end
section
variable {X:Cx}
def xxj(i j:Int):Prop:=0<j/\j<2 ^ 64
theorem xcs:OpR X (binaryOp .FloorDiv) (rI xxj λi j=>.int (i / j)):=opI λi j _ _ _ _ _ a q=>by
 have f:(0:Int)<j:=a.1;have e:j<2 ^ 64:=a.2;refine floordiv_int (by omega) (by rw[Int.fdiv_eq_ediv_of_nonneg i (by omega)];exact q) (.inl (PyProof.noPylong_of_log2 ?_));have b:j.natAbs<2 ^ 64:=by omega
 have h0:j.natAbs≠0:=by omega
 have c:j.natAbs.log2<64:=(Nat.log2_lt h0).mpr b;omega
theorem xnx{ys:List Str}:∀{us:List Value},Vals (ys.map V.str) us->StrsAre us ys:=by
 induction ys with
 |nil=>intro us r;rw[List.map_nil]at r;cases r;exact .nil
 | cons n ns c=>
  intro us r;rw[List.map_cons]at r
  cases r with
  |cons b a=>
   obtain⟨t,e⟩:=b;subst e;exact .cons n t (c a)
def xw2(K:Fg):V->List V->Hp->VK->Prop:=λx vs H Q=>∃(sep:Str) (p:Addr) (ys:List Str),x=.str sep/\vs=[.ref p]/\SqL K H p (ys.map V.str)/\(ys.map (·.length)).sum+ys.length*sep.length<=16777216/\Q (.str (Txt.join sep ys)) H
theorem xt1:MtR X "str.join" (xw2 X.K):=by
 intro a s σ H x vs v us Q I c e h;obtain⟨b,p,ys,rfl,rfl,g,hz,q⟩:=h;obtain⟨t,rfl⟩:=c;obtain⟨u,rfl,f⟩:=e.one;cases f;obtain⟨its,r,pl,_⟩:=I.list g;exact join_list pl.isList (by simpa using xnx r) hz λt' k=>⟨.str _,H,I.tok k,⟨t',rfl⟩,q⟩
def rSlS:V->Option Int->Option Int->Hp->VK->Prop:=λx lo hi H Q=>∃z:Str,x=.str z/\z.length<=sizeLine/\Q (.str (Txt.slice z lo hi)) H
theorem xsk:SlR X rSlS:=by
 intro f s σ H x v G C y hi sl Q I w hs pl r h;obtain⟨z,rfl,hz,q⟩:=h;obtain⟨t,rfl⟩:=w;refine⟨"str",_,F.slot_str_getitem.lookup,typeIs_str _ _ _,?_⟩
 have m:∀(o:Str),o=Txt.slice z y hi->o.length<=sizeLine/\∀t' k,EP X f σ Q (.str o t') {s with toks:=k}:=λo e=>by
  subst e;exact⟨zY (Txt.slice_le z _ _) hz,λt' k=>⟨.str _,H,I.tok k,⟨t',rfl⟩,q⟩⟩
 obtain⟨g,a,c,b⟩:=hs
 cases pl with
 |none=>
  cases r with
  |none=>exact wpAny_getItem_str_slice (l:=none) (u:=none) (st:=none) ⟨g,a,c,b⟩ rfl (post_val_or_str (m _ rfl))
  |int j n=>exact wpAny_getItem_str_slice (l:=none) (u:=some (j,n)) (st:=none) ⟨g,a,c,b⟩ rfl (post_val_or_str (m _ rfl))
 |int i p=>
  cases r with
  |none=>exact wpAny_getItem_str_slice (l:=some (i,p)) (u:=none) (st:=none) ⟨g,a,c,b⟩ rfl (post_val_or_str (m _ rfl))
  |int j n=>exact wpAny_getItem_str_slice (l:=some (i,p)) (u:=some (j,n)) (st:=none) ⟨g,a,c,b⟩ rfl (post_val_or_str (m _ rfl))
theorem xsa(G:X.calm=true):xe2 X (.builtin "all") (λxs H Q=>∃(p:Addr) (bs:List Bool),xs=[.ref p]/\SqL X.K H p (bs.map V.bl)/\Q (.bl (bs.all id)) H):=by
 intro a s σ H xs us Q I r h;obtain⟨p,bs,rfl,C,q⟩:=h;obtain⟨u,rfl,g⟩:=xhg r;cases g;obtain⟨its,n,pl,hz⟩:=I.list C;have c:=n.length;rw[zLM]at c;have j:p<s.heap.objs.size:=by obtain⟨_,e,_⟩:=pl.isList;exact z5 e
 refine call_all_walk (wpAny_pyIter_list pl.isList ?_);refine⟨s.heap.objs.size,_,_,_,_,_,λi=>bs.getD i true,rfl,Walks.list (A:=X.A.in1) (I.ok.hd G) s.heap.objs.size p (z9 j) its.toArray,⟨⟨_,z6 _ rfl,rfl,rfl⟩,pl.isList.push _⟩,?_,?_⟩
 ·intro i v s' Q' E' z m
  have f:its[i]?=some v:=by simpa using z
  have hi:i<bs.length:=by
   have:=(zES f).1;omega
  obtain⟨u',e,g⟩:=n.get (i:=i) (x:=V.bl bs[i]) (by rw[zGM,zGA hi] <;> rfl);rw[f]at e;cases e;cases g;dsimp only at m;rw[List.getD_eq_getElem?_getD,zGA hi]at m;exact wpAny_truthy_bool m
 ·intro h' w y
  have I1:Inv X a σ H {s with heap:=s.heap.push {cls:=.type "list_iterator",data:=.fields #[.ref p,.int 0 0]}}:=I.kept (t':=s.toks) λb o e=>zPO _ e;obtain⟨Y,U,f2,O,M,J⟩:=I.fpOk (b:=s.heap.objs.size) (zZ _) (I.hok.fresh (zZ _));have Z:Inv X a σ H {s with heap:=h',toks:=w}:=I1.turned (λb o l e=>y b o (by simpa using l) e) Y U O M J;refine⟨.bl _,H,Z,rfl,?_⟩
  have e:(List.range its.toArray.size).all (λi=>bs.getD i true)=bs.all id:=by
   rw[List.size_toArray,<- c];rw[Bool.eq_iff_iff];simp only[List.all_eq_true,List.mem_range,id];constructor
   ·intro h b l
    obtain⟨i,hi,e⟩:=zMI l;have:=h i hi;rw[List.getD_eq_getElem?_getD,zGA hi]at this;rw[<- e];exact this
   ·intro h i hi
    rw[List.getD_eq_getElem?_getD,zGA hi];exact h _ (qM hi)
  rw[e];exact q
end
def SameBut(a:Addr)(H H':Hp):Prop:=∀b o,H b=some o->b≠a->H' b=some o
theorem SameBut.refl(a:Addr)(H:Hp):SameBut a H H:=λ_ _ h _=>h
theorem SameBut.trans{a:Addr}{H f c:Hp}(h:SameBut a H f)(k:SameBut a f c):SameBut a H c:=λb o e n=>k b o (h b o e n) n
theorem SameBut.upd(a:Addr)(H:Hp)(o:HO):SameBut a H (upd H a o):=λb u e n=>by rw[xak n];exact e
theorem Same.but{a:Addr}{H c:Hp}(h:Same H c):SameBut a H c:=λb o e _=>h b o e
theorem Same.new{H:Hp}{p:Addr}(h:H p=none)(o:HO):Same H (upd H p o):=λb u q=>by rw[xak (neN q h)];exact q
noncomputable def zA:=@Same.new
theorem xae{H a:Hp}{p:Addr}(h:Same H a)(n:a p=none):H p=none:=by
 cases e:H p with
 |none=>rfl
 |some o=>rw[h p o e]at n;cases n
structure DefTx(K:Fg)(mg:Str->Option Value)(x:Str)(st:Stmt)(ps:List Str):Prop where
 ex:∃(f:Addr) (fd:FuncData),Fun K x x st f fd/\mg x=some (.ref f)/\∀us:List Value,us.length=ps.length->bindArgs fd ⟨us,[]⟩=pure (ps.zip us)
structure DefIs(P:Program)(w:World)(K:Fg)(mg:Str->Option Value)(base:Heap)(n:Nat)(x:Str)(ps:List Str)(sp:Sp):Prop where
 ex:∃(f:Addr) (fd:FuncData),FnOk P w K mg base CX0 n f fd ps sp/\Binds K fd ps []/\PySem.W.keepIn K (.ref f)=true/\mg x=some (.ref f)/\∃oc od osl,K.lookup f=some ⟨oc,od,.func fd,osl⟩
theorem xqj{K:Fg}{x:Str}{st:Stmt}{f:Addr}{c:FuncData}(F:Fun K x x st f c):∃b od a,K.lookup f=some ⟨b,od,.func c,a⟩:=by
 obtain⟨b,od,kV,e,h,i,g,ct,a,_,l,_⟩:=F.ex;exact⟨b,od,a,l⟩
section
variable {P:Program}{w:World}{K:Fg}{mg:Str->Option Value}{base:Heap}{n m:Nat}{x:Str}{ps N:List Str}{sp:Sp}{st:Stmt}
theorem DefIs.mono(D:DefIs P w K a base n x ps sp)(h:n<=m):DefIs P w K a base m x ps sp:=by
 obtain⟨f,b,F,r⟩:=D.ex;exact⟨f,b,F.mono h,r⟩
theorem DefIs.imp{a:Sp}(D:DefIs P w K b base n x ps sp)(h:∀vs H Q E,a vs H Q E->sp vs H Q E):DefIs P w K b base n x ps a:=by
 obtain⟨f,c,F,r⟩:=D.ex;exact⟨f,c,F.imp h,r⟩
theorem DefIs.of (T:DefTx K e x st ps) (S:FnScope N ps (xac st)) (len:∀vs H Q E,sp vs H Q E->vs.length=ps.length)
  (c:∀(f:Addr) (a:Value) (A:Around) (outer:List Env) (s:Shared) (H:Hp) (vs:List V) (Q:VK) (E:XK),Room n (A.deeper (envOfC x (xac st) s.heap.objs.size f a))->sp vs H Q E->
   ∃t,PSs (cxOf CX0 P w K e base N x (xac st) f a A outer s H E).nox (xc0 st) t/\t {nx:=λ_ j=>Q .non j,rt:=Q} (xf0 N vs) H):DefIs P w K e base (n+1) x ps sp:=by
 obtain⟨f,i,F,m,b⟩:=T.ex;exact⟨f,i,F.ok S len (λa A outer s H vs Q E g h=>c f a A outer s H vs Q E g h),Binds.all b,F.kp,m,xqj F⟩
theorem DefIs.none(T:DefTx K a x st ps)(no:∀vs H Q E,¬sp vs H Q E):DefIs P w K a base n x ps sp:=by
 obtain⟨f,c,F,m,b⟩:=T.ex;exact⟨f,c,⟨λvs H Q E h=>absurd h (no vs H Q E),λA outer s H args us vs Q E _ _ _ _ h=>absurd h (no vs H Q E)⟩,Binds.all b,F.kp,m,xqj F⟩
end
section
variable {X:Cx}{n:Nat}{x:Str}{ps:List Str}{sp:Sp}{e:Expr}{es:List Expr}{p pos:Pos}{t:TA}
theorem pd (D:DefIs X.prog X.w X.K X.mg X.base n x ps sp) (g:Room n X.A) (j:PA X (e::es) t) (h:Gl X x:=by rfl) (c:(x == ("__debug__":Str))=false:=by decide)
  (i:starEach (e::es) X.env=(false,eval e X.env)::starEach es X.env:=by rfl) (a:(backTo pos (starEach es X.env)).any (·.1)=false:=by rfl):PE X (.Call (.Name x p) (e::es) [] pos) (xop sp [] E0 t):=by
 obtain⟨f,l,F,b,k,m,_⟩:=D.ex;exact xto F g h m k b .nil xpf j c i a
theorem xlp{i:Int}(hm:∃t,X.mg x=some (.int i t))(hg:Gl X x:=by rfl)(hd:(x == ("__debug__":Str))=false:=by decide):PE X (.Name x pos) (tC (.int i)):=by
 obtain⟨t,h⟩:=hm;exact xtn hg h ⟨t,rfl⟩ hd
end
def Fed(a:Addr)(H H':Hp):Prop:=SameBut a H H'/\∃p q:Int,H' a=some (.lst [.int p,.int q])
theorem Fed.trans{a:Addr}{H c b:Hp}(h:Fed a H c)(k:Fed a c b):Fed a H b:=⟨h.1.trans k.1,k.2⟩
theorem Fed.of{a:Addr}{H:Hp}{p q:Int}:Fed a H (upd H a (.lst [.int p,.int q])):=⟨SameBut.upd a H _,p,q,ups⟩
theorem Fed.refl{a:Addr}{H:Hp}{p q:Int}(h:H a=some (.lst [.int p,.int q])):Fed a H H:=⟨SameBut.refl a H,p,q,h⟩
theorem Fed.same{a:Addr}{H c b:Hp}(h:Fed a H c)(s:Same c b):Fed a H b:=by
 obtain⟨k,p,q,e⟩:=h;exact⟨k.trans s.but,p,q,s _ _ e⟩
theorem Fed.back{a:Addr}{H H0 H':Hp}(n:H a=none)(s:Same H H0)(h:Fed a H0 H'):Same H H':=λb o e=>h.1 b o (s b o e) (neN e n)
theorem deftx_mk {K:Fg} {h:Heap} {n:Str->Option Value} (X:K.In h) (G:h.Ns mainGlobals n) {x:Str} {st:Stmt} {ps:List Str} {f:Addr} {o:Value} {od j:Option Addr} {m:Array (Option Value)} {kV g i e ct:Value}
  (a:PySem.W.nsIn K mainGlobals x=some (some (.ref f))) (l:K.lookup f=some ⟨o,od,.func (PySem.W.fnOf x x (xdm st) (xc0 st) (xac st) .none kV g i j e ct),m⟩)
  (c:PySem.W.codeIn K e x=true) (k:PySem.W.keepIn K (.ref f)=true)
  (b:∀(kV g i:Value) (j:Option Addr) (e ct:Value) (us:List Value),us.length=ps.length->bindArgs (PySem.W.fnOf x x (xdm st) (xc0 st) (xac st) .none kV g i j e ct) ⟨us,[]⟩=pure (ps.zip us)):DefTx K n x st ps:=by
 have F:=xv6 (st:=st) l c k;exact⟨f,_,F,PySem.W.mg_of X G a,b kV g i j e ct⟩
theorem law_top {P:Program} {w:World} {K:Fg} {mg:Str->Option Value} {n:Nat} {x y:Str} {st:Stmt} {sp:Sp} {fa:Addr} (T:DefTx K mg x st [y]) (hmg:mg x=some (.ref fa)) (D:∀base,DefIs P w K mg base n x [y] sp) :
  ∃fd:FuncData,(∀(s:Shared) (u:Value),BindsTo s fd ⟨[u],[]⟩ [(y,u)])/\∀base:Heap,K.In base->base.Ns mainGlobals mg->FnOk P w K mg base CX0 n fa fd [y] sp:=by
 obtain⟨f,fd,F,m,b⟩:=T.ex;rw[hmg]at m;cases m;refine⟨fd,λs u=>.of_eq (b [u] rfl),λbase _ _=>?_⟩;obtain⟨f',fd',G,_,_,m',oc,od,osl,l⟩:=(D base).ex;rw[hmg]at m';cases m';obtain⟨oc2,od2,osl2,l2⟩:=xqj F;rw[l]at l2;cases l2;exact G
theorem gint_mk{K:Fg}{h:Heap}{b:Str->Option Value}(X:K.In h)(G:h.Ns mainGlobals b){x:Str}{i:Int}{t:Tok}(a:PySem.W.nsIn K mainGlobals x=some (some (.int i t))):∃t,b x=some (.int i t):=⟨t,PySem.W.mg_of X G a⟩
abbrev TJ:=St->Hp->Str->VK->Prop
def PJ(X:Cx)(es:List Expr)(t:TJ):Prop:=
 ∀(pins:List (Addr×Obj)) (s:Shared) (σ:St) (H:Hp) (out:Str) (Q:VK),Inv X pins σ H s->t σ H out Q->wpAny (model X.prog X.w) X.A (joinParts out (evalEach es X.env)) (EP X pins σ Q) X.xe s
section
variable {X:Cx}
def rNeE(K:Fg):R2:=λx y H Q=>∃a b xs,x=.ref a/\y=.ref b/\SqL K H a xs/\SqL K H b []/\Q (.bl (!xs.isEmpty)) H
theorem xvk(m:X.A.units<cLine):OpR X (compareOp .NotEq) (rNeE X.K):=by
 intro f s σ H x y v u Q I o n h;obtain⟨a,b,xs,rfl,rfl,C,z,q⟩:=h;cases o;cases n;obtain⟨its,r,i,_⟩:=I.list C;obtain⟨l,p,g,_⟩:=I.list z;have c:=r.length;have w:=p.length
 cases xs with
 | nil=>
  refine PySem.EqBoolInt.of_rcne (SeqAt.RcNeAt.lists (e:=λ_=>true) i.isList g.isList (by simp only[List.size_toArray];omega) m λj G J=>?_) ⟨.bl _,H,I,rfl,?_⟩
  ·simp only[List.size_toArray]at G
   simp at c;omega
  ·have:its=[]:=List.eq_nil_of_length_eq_zero (by simpa using c.symm)
   subst this;exact q
 |cons x xs=>
  refine PySem.EqBoolInt.of_rcne (SeqAt.RcNeAt.lists_lengths i.isList g.isList (by simp only[List.size_toArray];simp at c w⊢;omega) m) ⟨.bl _,H,I,rfl,?_⟩;simpa using q
end
section
variable {es:List Expr}{env:Env}
theorem zso{c k p}:starEach (.Constant c k p::es) env=(false,eval (.Constant c k p) env)::starEach es env:=rfl
theorem zsn{x p}:starEach (.Name x p::es) env=(false,eval (.Name x p) env)::starEach es env:=rfl
theorem zsc{a b c d}:starEach (.Call a b c d::es) env=(false,eval (.Call a b c d) env)::starEach es env:=rfl
theorem xa8{a b c d}:starEach (.BinOp a b c d::es) env=(false,eval (.BinOp a b c d) env)::starEach es env:=rfl
theorem ss{a b c}:starEach (.Subscript a b c::es) env=(false,eval (.Subscript a b c) env)::starEach es env:=rfl
theorem zsT{a b c}:starEach (.Tuple a b c::es) env=(false,eval (.Tuple a b c) env)::starEach es env:=rfl
theorem xib{a b}:starEach (.List a b::es) env=(false,eval (.List a b) env)::starEach es env:=rfl
theorem xmq{a b c d}:starEach (.Compare a b c d::es) env=(false,eval (.Compare a b c d) env)::starEach es env:=rfl
theorem xoq{a b c}:starEach (.BoolOp a b c::es) env=(false,eval (.BoolOp a b c) env)::starEach es env:=rfl
theorem xbt{a b c d}:starEach (.ListComp a b c d::es) env=(false,eval (.ListComp a b c d) env)::starEach es env:=rfl
theorem xq6{a b c d}:starEach (.IfExp a b c d::es) env=(false,eval (.IfExp a b c d) env)::starEach es env:=rfl
theorem xby{a b c}:starEach (.Attribute a b c::es) env=(false,eval (.Attribute a b c) env)::starEach es env:=rfl
end
end L2
end
section
namespace M
open PySem
inductive D where
 |int (i:Int)
 |str (x:Str)
 |tup (ds:List D)
inductive All2{α β:Type}(R:α->β->Prop):List α->List β->Prop where
 |nil:All2 R [] []
 |cons {a b as bs} (h:R a b) (t:All2 R as bs):All2 R (a::as) (b::bs)
theorem All2.length{α β:Type}{R:α->β->Prop}{as:List α}{bs:List β}(h:All2 R as bs):as.length=bs.length:=by
 induction h with
 |nil=>rfl
 |cons _ _ a=>simp[a]
theorem All2.imp{α β:Type}{R S:α->β->Prop}{as:List α}{bs:List β}(h:All2 R as bs)(f:∀a b,R a b->S a b):All2 S as bs:=by
 induction h with
 |nil=>exact .nil
 |cons h _ c=>exact .cons (f _ _ h) c
theorem All2.get{α β:Type}{R:α->β->Prop}{as:List α}{bs:List β}(h:All2 R as bs):∀{i:Nat} {a:α},as[i]?=some a->∃b,bs[i]?=some b/\R a b:=by
 induction h with
 |nil=>intro i a e;simp at e
 |cons h _ c=>
  intro i a e
  cases i with
  |zero=>simp at e;subst e;exact⟨_,by simp,h⟩
  |succ i=>simpa using c (i:=i) (a:=a) (by simpa using e)
def S(s:String):Str:=Str.ofString s
def xfm(c:Nat):Bool:=97<=c && c<=122
def xrs(x:List Nat):Bool:=1<=x.length && x.length<=6 && x.all xfm && x != [110,117,109] && x != [105,116]
def Name(x:Str):Prop:=xrs x.cps.toList=true
def L(x:Str):List Nat:=x.cps.toList
def ofL(l:List Nat):Str:=⟨l.toArray⟩
theorem xen(l:List Nat):L (ofL l)=l:=rfl
theorem xvt(x:Str):ofL (L x)=x:=by
 cases x;rfl
theorem xq2{x y:Str}(h:L x=L y):x=y:=by
 rw[<- xvt x,<- xvt y,h]
theorem xe0(x y:Str):L (x++y)=L x++L y:=by
 show(x.cps++y.cps).toList=_;simp[L]
theorem xfs(x:Str):(L x).length=x.length:=by
 simp[L,Str.length]
end M
end
section
namespace M
open PySem L2
mutual
def RelD(H:Hp):V->D->Prop
 |v,.int i=>v=.int i
 |v,.str x=>v=.str x
 |v,.tup ds=>∃a vs,v=.ref a/\H a=some (.tup vs)/\RelDs H vs ds
def RelDs(H:Hp):List V->List D->Prop
 |vs,[]=>vs=[]
 |vs,d::ds=>∃v r,vs=v::r/\RelD H v d/\RelDs H r ds
end
mutual
theorem RelD.same{H H':Hp}(s:Same H H'):∀{v:V} (d:D),RelD H v d->RelD H' v d
 |v,.int i,h=>h
 |v,.str x,h=>h
 |v,.tup ds,⟨a,vs,e,ha,h⟩=>⟨a,vs,e,s _ _ ha,RelDs.same s ds h⟩
theorem RelDs.same{H H':Hp}(s:Same H H'):∀{vs:List V} (ds:List D),RelDs H vs ds->RelDs H' vs ds
 |vs,[],h=>h
 |vs,d::ds,⟨v,r,e,h1,h2⟩=>⟨v,r,e,RelD.same s d h1,RelDs.same s ds h2⟩
end
theorem RelDs.length{H:Hp}:∀{vs:List V} {ds:List D},RelDs H vs ds->vs.length=ds.length
 |vs,[],h=>by rw[show vs=[] from h];rfl
 |vs,d::ds,⟨v,r,e,_,a⟩=>by rw[e,List.length_cons,List.length_cons,RelDs.length a]
theorem RelDs.append{H:Hp}:∀{vs us:List V} {ds es:List D},RelDs H vs ds->RelDs H us es->RelDs H (vs++us) (ds++es)
 |vs,us,[],es,h,k=>by rw[show vs=[] from h];exact k
 |vs,us,d::ds,es,⟨v,r,e,b,a⟩,k=>by subst e;exact⟨v,r++us,rfl,b,RelDs.append a k⟩
theorem RelDs.get{H:Hp}:∀{vs:List V} {ds:List D} {i:Nat} {v:V},RelDs H vs ds->vs[i]?=some v->∃d,ds[i]?=some d/\RelD H v d
 |vs,[],i,v,h,e=>by rw[show vs=[] from h]at e;simp at e
 |vs,d::ds,0,v,⟨u,r,a,g,_⟩,e=>by
  subst a;simp at e;subst e;exact⟨d,rfl,g⟩
 |vs,d::ds,i+1,v,⟨u,r,a,_,f⟩,e=>by
  subst a;obtain⟨x,b,c⟩:=RelDs.get (i:=i) (v:=v) f (by simpa using e);exact⟨x,by simpa using b,c⟩
theorem iteKF{c A B:Prop}[Decidable c](h:decide c=false)(b:B):if decide c=true then A else B:=by
 rw[h];exact b
theorem iteKT{c A B:Prop}[Decidable c](h:decide c=true)(a:A):if decide c=true then A else B:=by
 rw[h];exact a
mutual
theorem RelD.tups{H H':Hp}(s:∀b vs,H b=some (.tup vs)->H' b=some (.tup vs)):∀{v:V} (d:D),RelD H v d->RelD H' v d
 |v,.int i,h=>h
 |v,.str x,h=>h
 |v,.tup ds,⟨a,vs,e,ha,h⟩=>⟨a,vs,e,s _ _ ha,RelDs.tups s ds h⟩
theorem RelDs.tups{H H':Hp}(s:∀b vs,H b=some (.tup vs)->H' b=some (.tup vs)):∀{vs:List V} (ds:List D),RelDs H vs ds->RelDs H' vs ds
 |vs,[],h=>h
 |vs,d::ds,⟨v,r,e,h1,h2⟩=>⟨v,r,e,RelD.tups s d h1,RelDs.tups s ds h2⟩
end
theorem xai{a:Addr}{H c:Hp}(g:∃p q:Int,H a=some (.lst [.int p,.int q]))(f:Fed a H c):∀b vs,H b=some (.tup vs)->c b=some (.tup vs):=λb vs e=>f.1 b _ e λz=>by
 obtain⟨p,q,h⟩:=g;rw[z,h]at e;cases e
def xdu(c:Nat):Str:=⟨#[c]⟩
theorem xko:∀cs:List Nat,Txt.join (S "") (cs.map xdu)=ofL cs:=by
 have h:∀cs:List Nat,L (Str.join (S "") (cs.map xdu))=cs:=by
  intro cs
  induction cs with
  |nil=>rfl
  | cons c r a=>
   cases r with
   |nil=>rfl
   |cons d r=>
    show L (xdu c++S ""++Str.join (S "") ((d::r).map xdu))=_;rw[xe0,xe0,a];have e:L (S "")=[]:=by walk_at"k"
    rw[e];rfl
 intro cs;apply xq2;show L (Builtin.Str.glued (S "") (cs.map xdu))=cs;rw[StrLaws.glued_eq_join,h]
theorem xlc(cs:List Nat):((cs.map xdu).map (·.length)).sum=cs.length:=by
 induction cs with
 |nil=>rfl
 |cons c r a=>
  show(xdu c).length+((r.map xdu).map (·.length)).sum=r.length+1;rw[a,show(xdu c).length=1 from rfl];omega
theorem xns{α:Type}{cs:List α}{r:Int}(h0:0<=r)(h:r<(cs.length:Int)):∃c∈cs,atI cs r=some c:=by
 have a:r.toNat<cs.length:=by omega
 have b:r=((r.toNat:Nat):Int):=by omega
 refine⟨cs[r.toNat],qM a,?_⟩;have q:atI cs ((r.toNat:Nat):Int)=some cs[r.toNat]:=xam (zGA a);rw[<- b]at q;exact q
end M
end
section
namespace L2
open PySem PySem.Spec PyProof.Rows
section
variable {κ:Type}[DecidableEq κ]
def valV(kvs:List (κ×V))(k:κ):Option V:=(kvs.find? λkv=>decide (kv.1=k)).map (·.2)
def putK(kvs:List (κ×V))(k:κ)(v:V):List (κ×V):=
 if (kvs.any λkv=>decide (kv.1=k))=true then kvs.map (λkv=>if kv.1=k then (kv.1,v) else kv) else kvs++[(k,v)]
theorem xcj{p:κ×V}{r:List (κ×V)}{k:κ}(e:p.1=k):valV (p::r) k=some p.2:=by simp[valV,List.find?_cons,e]
theorem xck{p:κ×V}{r:List (κ×V)}{k:κ}(e:¬p.1=k):valV (p::r) k=valV r k:=by simp[valV,List.find?_cons,e]
theorem xf6(k:κ):∀kvs:List (κ×V),(kvs.any λa=>decide (a.1=k))=(valV kvs k).isSome
 |[]=>rfl
 |p::r=>by
  rw[List.any_cons];by_cases e:p.1=k
  ·simp only[xcj e,zDT e,Bool.true_or,Option.isSome_some]
  ·rw[xck e,zDF e,Bool.false_or];exact xf6 k r
theorem xmm(k j:κ)(y:V):∀kvs:List (κ×V),valV (kvs.map λa=>if a.1=k then (a.1,y) else a) j=(valV kvs j).map λx=>if j=k then y else x
 |[]=>rfl
 | p::r=>by
  have b:=xmm k j y r;rw[List.map_cons];by_cases h:p.1=k
  ·rw[if_pos h]
   by_cases e:p.1=j
   ·rw[xcj (p:=(p.1,y)) e,xcj e,Option.map_some,if_pos (e.symm.trans h)]
   ·rw[xck (p:=(p.1,y)) e,xck e,b]
  ·rw[if_neg h]
   by_cases e:p.1=j
   ·rw[xcj (p:=p) e,xcj e,Option.map_some,if_neg (λz=>h (e.trans z))]
   ·rw[xck (p:=p) e,xck e,b]
theorem xjd(k j:κ)(y:V):∀kvs:List (κ×V),valV kvs k=none->valV (kvs++[(k,y)]) j=if j=k then some y else valV kvs j
 |[],_=>by
  by_cases e:k=j
  ·rw[if_pos e.symm];exact xcj (p:=(k,y)) e
  ·rw[if_neg (λz=>e z.symm)];exact xck (p:=(k,y)) e
 |p::r,hn=>by
  rw[List.cons_append];have a:¬p.1=k:=λz=>by rw[xcj z]at hn;cases hn
  rw[xck a]at hn;have b:=xjd k j y r hn;by_cases e:p.1=j
  ·rw[xcj e,xcj e,if_neg (λz=>a (e.trans z))]
  ·rw[xck e,xck e,b]
theorem xh9(kvs:List (κ×V))(k j:κ)(y:V):valV (putK kvs k y) j=if j=k then some y else valV kvs j:=by
 unfold putK;by_cases a:(kvs.any λb=>decide (b.1=k))=true
 ·rw[if_pos a,xmm]
  rw[xf6]at a;by_cases e:j=k
  ·obtain⟨x,c⟩:=Option.isSome_iff_exists.mp a
   rw[if_pos e,e,c,Option.map_some,if_pos rfl]
  ·rw[if_neg e]
   cases valV kvs j with
   |none=>rfl
   |some x=>rw[Option.map_some,if_neg e]
 ·rw[if_neg a]
  refine xjd k j y kvs ?_;rw[xf6]at a
  cases q:valV kvs k with
  |none=>rfl
  |some x=>rw[q]at a;exact(a rfl).elim
theorem xd8(kvs:List (κ×V))(k:κ)(v:V):(putK kvs k v).length<=kvs.length+1:=by
 unfold putK;split
 ·rw[zLM];omega
 ·rw[zLA,List.length_cons,List.length_nil];omega
theorem RelO.isSome_eq{o:Option V}{u:Option Value}(r:RelO o u):o.isSome=u.isSome:=by
 cases o with
 |none=>cases u with
  |none=>rfl
  |some _=>exact(show False from r).elim
 |some _=>cases u with
  |none=>exact(show False from r).elim
  |some _=>rfl
theorem RelO.getD{o:Option V}{u:Option Value}{d:V}{d':Value}(r:RelO o u)(rd:RelV d d'):RelV (o.getD d) (u.getD d'):=by
 cases o with
 |none=>cases u with
  |none=>exact rd
  |some _=>exact(show False from r).elim
 |some _=>cases u with
  |none=>exact(show False from r).elim
  |some _=>exact r
theorem KV.val{kvs:List (κ×V)}{vs:List (κ×Value)}(r:KV kvs vs)(k:κ):RelO (valV kvs k) (valueAt vs k):=by
 unfold KV at r
 induction r with
 |nil=>exact True.intro
 | @cons p q ps qs h t ih=>
  obtain⟨h1,h2⟩:=h;by_cases e:p.1=k
  ·have e':q.1=k:=h1.symm.trans e
   have b:valueAt (q::qs) k=some q.2:=by simp[valueAt,List.find?_cons,e']
   rw[xcj e,b];exact h2
  ·have e':¬q.1=k:=λz=>e (h1.trans z)
   have b:valueAt (q::qs) k=valueAt qs k:=by simp[valueAt,List.find?_cons,e']
   rw[xck e,b];exact ih
theorem KV.any{kvs:List (κ×V)}{vs:List (κ×Value)}(r:KV kvs vs)(k:κ):(kvs.any λa=>decide (a.1=k))=vs.any λa=>decide (a.1=k):=by
 unfold KV at r
 induction r with
 |nil=>rfl
 |cons h t b=>rw[List.any_cons,List.any_cons,b,h.1]
theorem KV.repl {kvs:List (κ×V)} {vs:List (κ×Value)} (r:KV kvs vs) (k:κ) {y:V} {u:Value} (c:RelV y u) :
  KV (kvs.map λa=>if a.1=k then (a.1,y) else a) (vs.map λa=>if a.1=k then (a.1,u) else a):=by
 unfold KV at r⊢
 induction r with
 |nil=>exact .nil
 |@cons p q ps i h t f=>
  rw[List.map_cons,List.map_cons];refine .cons ?_ f;obtain⟨b,g⟩:=h;by_cases e:p.1=k
  ·rw[if_pos e,if_pos (b.symm.trans e)];exact⟨b,c⟩
  ·rw[if_neg e,if_neg (λz=>e (b.trans z))];exact⟨b,g⟩
theorem KV.put{kvs:List (κ×V)}{vs:List (κ×Value)}(r:KV kvs vs)(k:κ){y:V}{u:Value}(a:RelV y u):KV (putK kvs k y) (stored vs k u):=by
 unfold putK stored;rw[r.any k];by_cases e:(vs.any λb=>decide (b.1=k))=true
 ·rw[if_pos e,if_pos e];exact r.repl k a
 ·rw[if_neg e,if_neg e];exact Paired.snoc r ⟨rfl,a⟩
theorem KV.length{kvs:List (κ×V)}{vs:List (κ×Value)}(r:KV kvs vs):kvs.length=vs.length:=Paired.length r
end
theorem xqd{P:Program}{w:World}{k:Key}{u:Value}(r:RelV (kV k) u):(xca P w).is k u=true:=by
 cases k with
 |inl i=>obtain⟨t,e⟩:=(show ∃t,u=Value.int i t from r);subst e;exact xl0 P w i t
 |inr x=>obtain⟨t,e⟩:=(show ∃t,u=Value.str x t from r);subst e;exact xlz P w x t
theorem xkp{P:Program}{w:World}:∀{ks:List Key} {us:List Value},Vals (ks.map kV) us->ItemsAre (xca P w) ks us
 |[],_,r=>by rw[List.map_nil]at r;cases r;exact .nil
 |k::ks,_,r=>by
  rw[List.map_cons]at r
  cases r with
  |cons h t=>exact .cons (xqd h) (xkp t)
abbrev KT(H:Hp):List (List Key×V)->List (List Key×Addr×Value)->Prop:=Paired λp q=>p.1=q.1/\H q.2.1=some (.tup (p.1.map kV))/\RelV p.2 q.2.2
theorem KT.val{H:Hp}{kvs:List (List Key×V)}{xs:List (List Key×Addr×Value)}(r:KT H kvs xs)(k:List Key):RelO (valV kvs k) ((atKey xs k).map (·.2)):=by
 induction r with
 |nil=>exact True.intro
 | @cons p q ps a h t g=>
  obtain⟨f,_,i⟩:=h;by_cases e:p.1=k
  ·have c:q.1=k:=f.symm.trans e
   have b:atKey (q::a) k=some q.2:=by simp[atKey,List.find?_cons,c]
   rw[xcj e,b];exact i
  ·have c:¬q.1=k:=λz=>e (f.trans z)
   have b:atKey (q::a) k=atKey a k:=by simp[atKey,List.find?_cons,c]
   rw[xck e,b];exact g
theorem KT.repl {H:Hp} {kvs:List (List Key×V)} {xs:List (List Key×Addr×Value)} (r:KT H kvs xs) (k:List Key) {y:V} {u:Value} (f:RelV y u) :
  KT H (kvs.map λb=>if b.1=k then (b.1,y) else b) (xs.map (putAt k u)):=by
 induction r with
 |nil=>exact .nil
 |@cons p q ps j h t g=>
  rw[List.map_cons,List.map_cons];refine .cons ?_ g;obtain⟨a,c,i⟩:=h;unfold putAt;by_cases e:p.1=k
  ·rw[if_pos e,if_pos (a.symm.trans e)];exact⟨a,c,f⟩
  ·rw[if_neg e,if_neg (λz=>e (a.trans z))];exact⟨a,c,i⟩
theorem KT.put {H:Hp} {kvs:List (List Key×V)} {xs:List (List Key×Addr×Value)} (r:KT H kvs xs) (k:List Key) {b:Addr} {y:V} {u:Value} (f:H b=some (.tup (k.map kV))) (a:RelV y u) :
  KT H (putK kvs k y) (storedH xs k b u):=by
 have e:(kvs.any λc=>decide (c.1=k))=(atKey xs k).isSome:=by
  rw[xf6,(r.val k).isSome_eq,Option.isSome_map]
 unfold putK storedH;rw[e];by_cases q:(atKey xs k).isSome=true
 ·rw[if_pos q,if_pos q];exact r.repl k a
 ·rw[if_neg q,if_neg q];exact Paired.snoc r ⟨rfl,f,a⟩
theorem KT.keeps{H a:Hp}{kvs:List (List Key×V)}{xs:List (List Key×Addr×Value)}(r:KT H kvs xs)(c:∀b ys,H b=some (.tup ys)->a b=some (.tup ys)):KT a kvs xs:=
 Paired.mapP r λ_ _ z=>⟨z.1,c _ _ z.2.1,z.2.2⟩
section
variable {P:Program}{w:World}{H:Hp}{h:Heap}{a:Addr}
theorem xu8{u:HO}(ok:HOk P w H h)(e:Rd H a u):ObjOk P w H h a u:=e.ok ok
theorem xoe{kvs:List (Key×V)}(ok:HOk P w H h)(e:Rd H a (.dK kvs)):kvs.length<=sizeLine/\(a == sysModules)=false/\∃vs,KV kvs vs/\h.DictOf (xca P w) a vs:=
 show ObjOk P w H h a (.dK kvs) from xu8 ok e
theorem xht{kvs:List (Key×V)}(ok:HOk P w H h)(e:H a=some (.dK kvs)):kvs.length<=sizeLine/\(a == sysModules)=false/\∃vs,KV kvs vs/\h.DictOf (xca P w) a vs:=xoe ok (.inl e)
theorem xnb{ks:List Key}(ok:HOk P w H h)(e:H a=some (.tup (ks.map kV))):(tupleKind (xca P w)).is h ks a:=by
 obtain⟨_,its,r,o,h1,h2,n,h3,_⟩:=(show ObjOk P w H h a (.tup (ks.map kV)) from ok a _ e);exact⟨o,its.toArray,n,h1,h2,h3,by simpa using xkp r⟩
theorem xqp {kvs:List (List Key×V)} (ok:HOk P w H h) (e:Rd H a (.dT kvs)):kvs.length<=sizeLine/\(a == sysModules)=false ∧
  ∃xs,KT H kvs xs/\h.DictOfH (tupleKind (xca P w)) a xs:=by
 obtain⟨z,y,xs,r,o,es,ep,s,n,j,i,g⟩:=(show ObjOk P w H h a (.dT kvs) from xu8 ok e);refine⟨z,y,xs,r,o,es,ep,s,n,j,i,λx b=>?_,g⟩
 have all:∀{l:List (List Key×V)} {m:List (List Key×Addr×Value)},KT H l m->∀x∈m,(tupleKind (xca P w)).is h x.1 x.2.1:=by
  intro l m q
  induction q with
  |nil=>intro x b;exact nomatch b
  | @cons p q ps u c t f=>
   intro x b;rcases zMC b with e |b
   ·subst e
    exact xnb ok (by rw[<- c.1];exact c.2.1)
   ·exact f x b
 exact all r x b
theorem xxe {kvs:List (List Key×V)} (ok:HOk P w H h) (e:H a=some (.dT kvs)):kvs.length<=sizeLine/\(a == sysModules)=false ∧
  ∃xs,KT H kvs xs/\h.DictOfH (tupleKind (xca P w)) a xs:=xqp ok (.inl e)
end
def DGet(H:Hp)(a:Addr)(y:V)(r:Option V):Prop:=
 (∃kvs k,Rd H a (.dK kvs)/\y=kV k/\r=valV kvs k)\/∃kvs k b,Rd H a (.dT kvs)/\y=.ref b/\H b=some (.tup (k.map kV))/\r=valV kvs k
def DPut(H:Hp)(a:Addr)(y v:V)(H':Hp):Prop:=
 (∃kvs k,H a=some (.dK kvs)/\y=kV k/\kvs.length<sizeLine/\H'=upd H a (.dK (putK kvs k v))) ∨
 ∃kvs k b,H a=some (.dT kvs)/\y=.ref b/\H b=some (.tup (k.map kV))/\kvs.length<sizeLine/\H'=upd H a (.dT (putK kvs k v))
theorem DGet.k{H:Hp}{a:Addr}{kvs:List (Key×V)}{k:Key}(e:H a=some (.dK kvs)):DGet H a (kV k) (valV kvs k):=.inl ⟨kvs,k,.inl e,rfl,rfl⟩
theorem DPut.k{H:Hp}{a:Addr}{kvs:List (Key×V)}{k:Key}{v:V}(e:H a=some (.dK kvs))(b:kvs.length<sizeLine):DPut H a (kV k) v (upd H a (.dK (putK kvs k v))):=.inl ⟨kvs,k,e,rfl,b,rfl⟩
section
variable {X:Cx}{pins:List (Addr×Obj)}{σ:St}{H:Hp}{s:Shared}{a:Addr}{y v:V}{u r:Value}{o:Option V}{A:Around}{E:Value->Shared->Prop}
theorem Inv.big(I:Inv X pins σ H s):sysModules<s.heap.objs.size:=by
 have h:mainGlobals<s.heap.objs.size:=(I.mod.glob.keeps I.bk).lt;exact Nat.lt_trans (by decide) h
theorem xqv {Q:Value->Shared->Prop} (hu:A.units+1<cLine) (I:Inv X pins σ H s) (g:DGet H a y (some v)) (ry:RelV y u) (h:∀w' s',Inv X pins σ H s'->RelV v w'->Q w' s') :
  wpAny (model X.prog X.w) A (getItem (.ref a) u) Q E s:=by
 rcases g with⟨kvs,k,e,ey,l⟩ |⟨kvs,k,b,e,ey,eb,l⟩
 ·subst ey
  obtain⟨z,hd,vs,rel,dd⟩:=xoe I.hok e;obtain⟨w',hw,rw'⟩:=RelO.some_of (v:=v) (o:=valueAt vs k) (by rw[l];exact rel.val k);exact wpAny_getItem_of (xqd ry) dd.mapOf hw (h w' _ (I.tok _) rw')
 ·subst ey
  cases (show u=Value.ref b from ry);obtain⟨z,hd,xs,rel,dd⟩:=xqp I.hok e;obtain⟨w',hw,rw'⟩:=RelO.some_of (v:=v) (o:=(atKey xs k).map (·.2)) (by rw[l];exact rel.val k);obtain⟨p,hp,hp2⟩:=zMS hw;refine wpAny_getItem_heap (tupleKind_room_in1 hu) (xnb I.hok eb) dd hp ?_;rw[hp2];exact h w' _ (I.tok _) rw'
theorem xja {h':Heap} {t':Nat} {ob:HO} (I:Inv X pins σ H s) (mu:Mut (H a)) (hs:Heap.SameBut a s.heap h') (he:∃q,h'.get? a=some q) (new:ObjOk X.prog X.w (upd H a ob) h' a ob) :
  Inv X pins σ (upd H a ob) {s with heap:=h',toks:=t'}:=
 I.write (x:=a) (e:=a) mu (.inl rfl) (λb q hb z=>(hs.2 b hb).trans z) he new
theorem xku {P:Program} {w:World} {e:Hp} {h':Heap} {kvs:List (Key×V)} {vs:List (Key×Value)} (z:kvs.length<=sizeLine) (hd:(a == sysModules)=false) (b:KV kvs vs) (c:h'.DictOf (xca P w) a vs) :
  ObjOk P w e h' a (.dK kvs):=⟨z,hd,vs,b,c⟩
theorem xqu {H':Hp} {Q:Unit->Shared->Prop} (hu:A.units+1<cLine) (I:Inv X pins σ H s) (g:DPut H a y v H') (ry:RelV y u) (rv:RelV v r) (h:∀s',Inv X pins σ H' s'->Q () s') :
  wpAny (model X.prog X.w) A (setItem (.ref a) u r) Q E s:=by
 rcases g with⟨kvs,k,e,ey,l,eH⟩ |⟨kvs,k,b,e,ey,eb,l,eH⟩
 ·subst ey eH
  obtain⟨z,hd,vs,rel,dd⟩:=xht I.hok e;have hz:vs.length<=sizeLine:=by rw[<- rel.length];exact z
  have hl:(putK kvs k v).length<=sizeLine:=by have:=xd8 kvs k v;omega
  refine wpAny_setItem_pairs (hsz:=hz) (xqd ry) dd λh' dd' hs=>h _ ?_;have he:∃q,h'.get? a=some q:=let ⟨q,_,_,hq,_⟩:=dd';⟨q,hq⟩;exact xja I (by rw[e];exact True.intro) hs he (xku hl hd (rel.put k rv) dd')
 ·subst ey eH
  cases (show u=Value.ref b from ry);obtain⟨z,hd,xs,rel,dd⟩:=xxe I.hok e;have hz:xs.length<=sizeLine:=by rw[<- Paired.length rel];exact z
  have hl:(putK kvs k v).length<=sizeLine:=by have:=xd8 kvs k v;omega
  refine wpAny_setItem_heap (hsz:=hz) (tupleKind_room_in1 hu) (xnb I.hok eb) dd λh' dd' hs=>h _ ?_;obtain⟨q,es,ep,hq,h2,h3,h4,_,h5⟩:=dd';refine xja I (by rw[e];exact True.intro) hs ⟨q,hq⟩ ⟨hl,hd,_,(rel.put k eb rv).keeps λc ys ec=>?_,q,es,ep,hq,h2,h3,h4,h5⟩;rw[xak (xw7 ec e (λz=>nomatch z))];exact ec
end
def NoSl(i:Expr):Prop:=∀ov iv,subscripted i false ov iv=operate [ov,iv] (getItem ov iv)
theorem xtb {prog:Program} {w:World} {A:Around} {E:Value->Shared->Prop} {s:Shared} {env:Env} {value a:Expr} {pos:Pos} {T id:String} {Q:Value->Shared->Prop}
  (l:typeLookup (.type T) "__getitem__"=pure (some (.builtin id))) (hs:NoSl a)
  (h:wpAny (model prog w) A (eval value env) (λo f=>wpAny (model prog w) A (eval a env) (λi b=>b.TypeIs o T/\wpAny (model prog w) A (getItem o i) Q E b) E f) E s) :
  wpAny (model prog w) A (eval (.Subscript value a pos) env) Q E s:=by
 refine Subscript_ (wpAny_mono h (λo f h₁=>wpAny_mono h₁ (λi b c=>?_) λ_ _ x=>x) λ_ _ x=>x);obtain⟨g,c⟩:=c;unfold subscriptTail;refine zX ?_;rw[getitemInPython_of_ne g.not_modules];refine zX (wpAny_specialOf g l ?_)
 have fin:wpAny (model prog w) A (subscripted a false o i) (λr e=>wpAny (model prog w) A (letTemporaryGo value o r >>= λ_=>pure r) Q E e) E b:=by
  rw[hs o i];exact wpAny_operating (wpAny_mono c (λr e j=>zX (wpAny_letTemporaryGo (z3 j))) λ_ _ x=>x)
 first
  |exact z3 (zX fin)
  |exact zX (z3 (zX fin))
  |exact zX fin
theorem xmc{X:Cx}{pins:List (Addr×Obj)}{σ:St}{H:Hp}{s:Shared}{a:Addr}{y:V}{o:Option V}(I:Inv X pins σ H s)(g:DGet H a y o):s.TypeIs (.ref a) "dict":=by
 rcases g with⟨kvs,k,e,_,_⟩ |⟨kvs,k,b,e,_,_,_⟩
 ·obtain⟨_,_,vs,_,c⟩:=xoe I.hok e
  exact c.typeIs
 ·obtain⟨_,_,xs,_,c⟩:=xqp I.hok e
  exact c.typeIs
def xwu(td ty:TE):TE:=λσ H Q=>td σ H λx H1=>ty σ H1 λy H2=>∃a v,x=.ref a/\DGet H2 a y (some v)/\Q v H2
def xw0(td ty tv:TE):TS:=λD σ H=>tv σ H λv H1=>td σ H1 λx H2=>ty σ H2 λy H3=>∃a H4,x=.ref a/\DPut H3 a y v H4/\D.nx σ H4
section
variable {X:Cx}{o i e value:Expr}{pos pos' tpos:Pos}{td ty tv:TE}
theorem xb2(n:X.A.units+1<cLine)(p:PE X o td)(hi:PE X i ty)(hs:NoSl i):PE X (.Subscript o i pos) (xwu td ty):=by
 intro pins s σ H Q I h;refine xtb PySem.F.slot_dict_getitem.lookup hs (thn (p pins s σ H _ I h) λu e ⟨x,C,w,j,m⟩=>thn (hi pins e σ C _ w m) λO M ⟨y,z,c,f,a,v,ex,g,l⟩=>?_);subst ex;obtain rfl:u=Value.ref a:=j;exact⟨xmc c g,xqv n c g f λG J r b=>⟨v,z,r,b,l⟩⟩
theorem xc9 (w:X.A.units+1<cLine) (z:PE X o td) (hi:PE X i ty) (p:PE X value tv) (hs:swapsWith value (some (.Subscript o i pos')) pos.line X.env=pure false) :
  PS X (.Assign [.Subscript o i pos'] value pos) (xw0 td ty tv):=by
 intro pins s σ H D I h;refine wpAny_Assign_Subscript (thn (p pins s σ H _ I h) λr c ⟨v,Y,M,j,n⟩=>thn (z pins c σ Y _ M n) λu b ⟨x,U,J,f,m⟩=>thn (hi pins b σ U _ J m) λiv s3 ⟨y,H3,G,e,a,O,ex,g,l⟩=>?_) hs;subst ex;obtain rfl:u=Value.ref a:=f;exact xqu w G g e j λZ C=>⟨σ,O,C,l⟩
end
theorem xr7{P:Program}{w:World}{H:Hp}(h:Heap)(a:sysModules<h.objs.size):ObjOk P w H (h.push {cls:=.type "dict",data:=.dict #[]}) h.objs.size (.dK []):=
 ⟨qL _,beq_eq_false_iff_ne.mpr (Ne.symm (z9 a)),[],.nil,Heap.DictOf.new h⟩
def xuv:TE:=λ_ H Q=>∀p,H p=none->Q (.ref p) (upd H p (.dK []))
section
variable {X:Cx}{pos:Pos}
theorem xde:PE X (.Dict [] [] pos) xuv:=λpins s σ H Q I h=>
 wpAny_Dict_empty ⟨.ref s.heap.objs.size,_,I.laid (a:=s.heap.objs.size) (o:=.dK []) (t':=s.toks) (λ_ _ q=>zPO _ q) (zZ _) (xr7 s.heap I.big),rfl,h _ (I.hok.fresh (zZ _))⟩
end
def xc2(kvs more:List (Key×V)):List (Key×V):=more.foldl (λacc kv=>putK acc kv.1 kv.2) kvs
theorem KV.merge:∀{more:List (Key×V)} {rs:List (Key×Value)} {kvs:List (Key×V)} {vs:List (Key×Value)},KV more rs->KV kvs vs->KV (xc2 kvs more) (merged vs rs):=by
 intro more rs kvs vs r;unfold KV at r
 induction r generalizing kvs vs with
 |nil=>intro q;exact q
 | @cons p q ps c h t b=>
  intro a
  have e:KV (putK kvs p.1 p.2) (stored vs q.1 q.2):=by
   have:=a.put p.1 h.2;rw[<- h.1];exact this
  exact b e
theorem xd9:∀(more kvs:List (Key×V)),(xc2 kvs more).length<=kvs.length+more.length
 |[],kvs=>by show kvs.length<=kvs.length+0;omega
 |p::r,kvs=>by
  have b:=xd9 r (putK kvs p.1 p.2);have a:=xd8 kvs p.1 p.2;show(xc2 (putK kvs p.1 p.2) r).length<=_;rw[List.length_cons];omega
structure M1(X:Cx)(o:Expr)(m:Str)(apos:Pos)(e:Expr)(cpos:Pos):Prop where
 base:attributeBase o m X.env (eval o X.env)=eval o X.env
 few:((backTo cpos (starEach [e] X.env)).all (λx=>!x.1) && (backToKw cpos (keywordEach [] X.env)).all (λx=>x.1.isSome)
  && decide (([e]:List Expr).length+([]:List Keyword).length+(if ([]:List Keyword).isEmpty then 0 else 1)<30))=true
 line:(apos.endLine == cpos.line)=true
 trees:backTo cpos (starEach [e] X.env)=[(false,eval e X.env)]
structure M2(X:Cx)(o:Expr)(m:Str)(apos:Pos)(e f:Expr)(cpos:Pos):Prop where
 base:attributeBase o m X.env (eval o X.env)=eval o X.env
 few:((backTo cpos (starEach [e,f] X.env)).all (λx=>!x.1) && (backToKw cpos (keywordEach [] X.env)).all (λx=>x.1.isSome)
  && decide (([e,f]:List Expr).length+([]:List Keyword).length+(if ([]:List Keyword).isEmpty then 0 else 1)<30))=true
 line:(apos.endLine == cpos.line)=true
 trees:backTo cpos (starEach [e,f] X.env)=[(false,eval e X.env),(false,eval f X.env)]
def IsD(H:Hp)(a:Addr):Prop:=(∃kvs,Rd H a (.dK kvs))\/∃kvs,Rd H a (.dT kvs)
theorem xnd {X:Cx} {pins:List (Addr×Obj)} {σ:St} {H:Hp} {s:Shared} {a:Addr} (I:Inv X pins σ H s) (d:IsD H a) :
  s.TypeIs (.ref a) "dict"/\(∀b,Value.ref a=.ref b->∃c,s.heap.get? b=some c/\c.dict=none)/\(a == sysModules)=false:=by
 rcases d with⟨kvs,e⟩ |⟨kvs,e⟩
 ·obtain⟨_,hd,vs,_,f⟩:=xoe I.hok e
  refine⟨f.typeIs,λb q=>?_,hd⟩;cases q;obtain⟨c,_,_,h,g,_⟩:=f;exact⟨c,h,g.2.1⟩
 ·obtain⟨_,hd,xs,_,f⟩:=xqp I.hok e
  refine⟨f.typeIs,λb q=>?_,hd⟩;cases q;obtain⟨c,_,_,h,g,_⟩:=f;exact⟨c,h,g.2.1⟩
section
variable {X:Cx}{pins:List (Addr×Obj)}{σ:St}{H:Hp}{s:Shared}{a:Addr}{y d:V}{u r:Value}{o:Option V}{A:Around}{E:Value->Shared->Prop}
theorem xwc {Q:Value->Shared->Prop} (hu:A.units+1<cLine) (I:Inv X pins σ H s) (g:DGet H a y o) (ry:RelV y u) (rd:RelV d r) (h:∀w' s',Inv X pins σ H s'->RelV (o.getD d) w'->Q w' s') :
  wpAny (model X.prog X.w) A (call (.builtin "dict.get") [.ref a,u,r]) Q E s:=by
 rcases g with⟨kvs,k,e,ey,l⟩ |⟨kvs,k,b,e,ey,eb,l⟩
 ·subst ey
  obtain⟨z,hd,vs,rel,dd⟩:=xoe I.hok e;refine call_meetsIn PySem.F.slot_dict_get dd.typeIs PySem.F.entry_dict_get (PySem.F.args_dict_get_3 _ _ _) (meets_dict_get_default (xca X.prog X.w) a (xqd ry) hd r) ⟨_,dd.mapOf,h _ _ (I.tok _) ?_⟩;rw[l];exact(rel.val k).getD rd
 ·subst ey
  cases (show u=Value.ref b from ry);obtain⟨z,hd,xs,rel,dd⟩:=xqp I.hok e;refine call_meetsIn PySem.F.slot_dict_get dd.typeIs PySem.F.entry_dict_get (PySem.F.args_dict_get_3 _ _ _) (meetsH_dict_get_default (tupleKind (xca X.prog X.w)) a b hd r) ⟨tupleKind_room_in1 hu,k,xs,xnb I.hok eb,dd,h _ _ (I.tok _) ?_⟩;rw[l];exact(rel.val k).getD rd
end
def xuw(td ty tx:TE):TE:=λσ H Q=>td σ H λx H1=>∃a,x=.ref a/\IsD H1 a/\ty σ H1 λy H2=>tx σ H2 λz H3=>∃o,DGet H3 a y o/\Q (o.getD z) H3
section
variable {X:Cx}{o e f:Expr}{apos cpos:Pos}{td ty tx:TE}
theorem xre(J:X.A.units+1<cLine)(M:PE X o td)(U:PE X e ty)(O:PE X f tx)(m:M2 X o "get" apos e f cpos):PE X (.Call (.Attribute o "get" apos) [e,f] [] cpos) (xuw td ty tx):=by
 intro pins s σ H Q I h;refine wpAny_Call_method m.base m.few m.line PySem.F.plainAttrs_dict PySem.F.slot_dict_get PySem.F.type_dict_get (thn (M pins s σ H _ I h) λu l ⟨x,H1,c,r,a,ex,d,G⟩=>?_);subst ex;obtain rfl:u=Value.ref a:=r;obtain⟨i,t2,_⟩:=xnd c d;refine⟨i,t2,?_⟩;rw[m.trees]
 refine Calls.callWith_builtin rfl (Calls.evalArgs_plain (Calls.spliced_cons (thn (U pins l σ H1 _ c G) λiv j ⟨y,H2,I2,p,C⟩=>
  Calls.spliced_cons (thn (O pins j σ H2 _ I2 C) λfv s3 ⟨z,H3,Z,n,ov,g,w⟩=>Calls.spliced_nil ?_))))
 exact xwc J Z g p n λw' s4 Y b=>⟨_,H3,Y,b,w⟩
end
section
variable {X:Cx}{pins:List (Addr×Obj)}{σ:St}{H:Hp}{s:Shared}{a:Addr}{kvs:List (Key×V)}{A:Around}{E:Value->Shared->Prop}
theorem xr8{Q:Value->Shared->Prop}(I:Inv X pins σ H s)(e:Rd H a (.dK kvs))(h:∀p s',H p=none->Inv X pins σ (upd H p (.dK kvs)) s'->Q (.ref p) s'):wpAny (model X.prog X.w) A (call (.type "dict") [.ref a]) Q E s:=by
 obtain⟨z,hd,vs,c,i⟩:=xoe I.hok e;refine kt_call_dict hd i (by rw[<- c.length];exact z) λh' f hs=>?_;refine h _ _ (I.hok.fresh (zZ _)) (I.laid (a:=s.heap.objs.size) (o:=.dK kvs) (t':=s.toks) (λb q g=>?_) (zZ _) (xku z (beq_eq_false_iff_ne.mpr (Ne.symm (z9 I.big))) c f));exact(hs.2 b (z9 (z5 g))).trans (zPO _ g)
end
section
variable {κ:Type}[DecidableEq κ]
theorem xly:∀{l:List κ} {k:κ},l.Nodup->¬k∈l->(l++[k]).Nodup
 |[],k,_,_=>by simp
 |a::r,k,h,b=>by
  obtain⟨e,c⟩:=List.nodup_cons.mp h;show(a::(r++[k])).Nodup;refine List.nodup_cons.mpr ⟨λm=>?_,xly c λm=>b (List.mem_cons.mpr (Or.inr m))⟩;rcases zMA m with q |q
  ·exact e q
  ·exact b (List.mem_cons.mpr (Or.inl (zMO q).symm))
end
section
variable {es:List Expr}{env:Env}
theorem xdg{a b c}:starEach (.Dict a b c::es) env=(false,eval (.Dict a b c) env)::starEach es env:=rfl
end
section
variable {X:Cx}
theorem xh7:xe2 X (.type "dict") (λxs H Q=>∃a kvs,xs=[V.ref a]/\H a=some (.dK kvs)/\∀p,H p=none->Q (.ref p) (upd H p (.dK kvs))):=by
 intro pins s σ H xs us Q I r h;obtain⟨a,kvs,rfl,ha,q⟩:=h;obtain⟨u,rfl,ru⟩:=xhg r;cases ru;exact xr8 I (.inl ha) λp s' hp I'=>⟨.ref p,_,I',rfl,q p hp⟩
end
section
variable {ix:Cap}{tt:TT}{te:TE}{g:TG}{σ:St}{H:Hp}{Q:VK}
def NxtG(Pv:Nat->List V->Hp->Prop)(n i:Nat)(ys:List V):VK:=λy H2=>∃m',m'<n-i/\m'=n-(i+1)/\i+1<=n/\(ys++[y]).length<=i+1/\Pv (i+1) (ys++[y]) H2
def NxtN(Pv:Nat->List V->Hp->Prop)(n i:Nat)(ys:List V):Hp->Prop:=λH2=>∃m',m'<n-i/\m'=n-(i+1)/\i+1<=n/\ys.length<=i+1/\Pv (i+1) ys H2
theorem nxtG{a:Nat->List V->Hp->Prop}{n i:Nat}{ys:List V}{y:V}{b:Hp}(hi:i<n)(c:ys.length<=i)(h:a (i+1) (ys++[y]) b):NxtG a n i ys y b:=
 ⟨n-(i+1),by omega,rfl,hi,by rw[zLA,List.length_singleton];omega,h⟩
theorem nxtN{a:Nat->List V->Hp->Prop}{n i:Nat}{ys:List V}{b:Hp}(hi:i<n)(c:ys.length<=i)(h:a (i+1) ys b):NxtN a n i ys b:=
 ⟨n-(i+1),by omega,rfl,hi,by omega,h⟩
theorem xbj {K:Fg} {a:Addr} {xs:List V} (c:Nat->List V->Hp->Prop) (h0:c 0 [] H) (hn:xs.length<sizeLine) (j:∀i ys H,i<=xs.length->c i ys H->SqT K H a xs)
  (hs:∀i x ys H,xs[i]?=some x->i<xs.length->ys.length<=i->c i ys H->g x (capt l σ) H λh u=>Ext (capt l σ) h/\r h u λb o=>if b=true then s h o (NxtG c xs.length i ys) else NxtN c xs.length i ys o)
  (hd:∀ys H,ys.length<=xs.length->c xs.length ys H->∀D,H D=none->Q (.ref D) (upd H D (.lst ys))):xfz (Itt K a) l g r s σ H Q:=by
 refine⟨λi m ys H=>m=xs.length-i/\i<=xs.length/\ys.length<=i/\c i ys H,⟨xs.length,by simp,qL _,zZ _,h0⟩,?_⟩;rintro i m ys H ⟨rfl,hi,n,p⟩;have q:=j i ys H hi p;by_cases f:i<xs.length
 ·refine .inr ⟨⟨xs,xs[i],q,by simp[f]⟩,by omega,λv w y=>?_⟩
  obtain⟨e,y⟩:=y;subst e;exact hs i v ys _ (y xs q) f n p
 ·have e:i=xs.length:=by omega
  subst e;exact .inl ⟨⟨xs,q,zZ _⟩,hd ys H n p⟩
theorem xd3 {K:Fg} {a:Addr} {xs:List V} (c:Nat->List V->Hp->Prop) (h0:c 0 [] H) (hn:xs.length<sizeLine) (j:∀i ys H,i<=xs.length->c i ys H->SqL K H a xs)
  (hs:∀i x ys H,xs[i]?=some x->i<xs.length->ys.length<=i->c i ys H->g x (capt l σ) H λh u=>Ext (capt l σ) h/\r h u λb o=>if b=true then s h o (NxtG c xs.length i ys) else NxtN c xs.length i ys o)
  (hd:∀ys H,ys.length<=xs.length->c xs.length ys H->∀D,H D=none->Q (.ref D) (upd H D (.lst ys))):xfz (Itl K a) l g r s σ H Q:=by
 refine⟨λi m ys H=>m=xs.length-i/\i<=xs.length/\ys.length<=i/\c i ys H,⟨xs.length,by simp,qL _,zZ _,h0⟩,?_⟩;rintro i m ys H ⟨rfl,hi,n,p⟩;have q:=j i ys H hi p;by_cases f:i<xs.length
 ·refine .inr ⟨⟨xs,xs[i],q,by simp[f]⟩,by omega,λv w y=>?_⟩
  obtain⟨e,y⟩:=y;subst e;exact hs i v ys _ (y xs q) f n p
 ·have e:i=xs.length:=by omega
  subst e;exact .inl ⟨⟨xs,q,zZ _⟩,hd ys H n p⟩
theorem ext2{σ:St}{i j:Nat}{v w:Option V}(h:σ[i]?=some none)(k:σ[j]?=some none):Ext σ ((σ.set i v).set j w):=by
 refine⟨by simp,λn c e=>?_⟩;have b:i≠n:=λz=>by subst z;rw[h]at e;cases e
 have a:j≠n:=λz=>by subst z;rw[k]at e;cases e
 rw[List.getElem?_set_ne a,List.getElem?_set_ne b];exact e
end
section
variable {X:Cx}
def xva:V->List V->Hp->VK->Prop:=λx vs H Q=>∃l,∃ys:List Str,∃z j,x=.ref l/\vs=[.str z]/\H l=some (.lst (ys.map V.str))/\ys.findIdx? (λy=>decide (y=z))=some j/\Q (.int (j:Nat)) H
theorem xrt:MtM X "list.index" xva:=by
 intro p s σ H x vs v us Q I C G h;obtain⟨l,ys,z,j,rfl,rfl,Z,Y,q⟩:=h;cases C;obtain⟨u,rfl,J⟩:=G.one;obtain⟨o,its,n,r,U,e⟩:=I.lstM Z
 have fs:(ys.map V.str).all xhs=true:=by
  rw[List.all_eq_true];intro y b;obtain⟨y',_,rfl⟩:=zMP b;rfl
 obtain⟨h1,h2,h3⟩:=List.findIdx?_eq_some_iff_getElem.mp Y;rw[zLM]at U o
 have a:∀i (hi:i<ys.length) (f:i<its.toArray.size),eqU (.str z) its.toArray[i]=decide (ys[i]=z):=λi hi f=>by
  obtain⟨w,e',M⟩:=r.get (i:=i) (x:=.str ys[i]) (by rw[zGM,zGA hi];rfl)
  have g:its.toArray[i]=w:=by
   have:its[i]?=some its[i]:=zGA (by omega);rw[e']at this;simpa using (z8 this).symm
  rw[g,xqo M rfl];show(ys[i] == z)=_;rw[Bool.eq_iff_iff];simp
 refine call_meets F.slot_list_index ⟨_,e,rfl⟩ F.entry_list_index (F.args_list_index_2 _ _) (SeqAt.list_indexAt l its.toArray n none #[] u (eqU (.str z)) j (by simp;omega) ?_ ?_ ?_) ⟨e,λy b=>xge J rfl r fs y (by simpa using b),⟨.int j,H,I.tok _,⟨_,rfl⟩,q⟩⟩
 ·rw[sizeLine_eq]at o
  omega
 ·rw[a j h1 (by simp;omega)]
  exact h2
 ·intro m O c
  rw[a m (by omega) O];have:=h3 m c;simpa using this
end
theorem xjf:∀{ns:List Int},(∀n∈ns,0<=n/\n<=1000000)->0<=ns.sum/\ns.sum<=1000000*(ns.length:Int)
 |[],_=>by simp
 |n::ns,h=>by
  have c:=h n (by simp);have b:=xjf (ns:=ns) λm a=>h m (qC _ a);rw[List.sum_cons,List.length_cons];push_cast;omega
section
variable {X:Cx}
theorem xkz(x:X.calm=true):xe2 X (.builtin "sum") (λxs H Q=>∃p,∃ns:List Int,xs=[.ref p]/\SqL X.K H p (ns.map V.int)/\(∀n∈ns,0<=n/\n<=1000000)/\ns.length<=1000/\Q (.int ns.sum) H):=by
 intro b s σ H xs us Q I r h;obtain⟨p,ns,rfl,m,g,c,q⟩:=h;obtain⟨u,rfl,l⟩:=xhg r;cases l;obtain⟨its,i,pl,hz⟩:=I.list m;have hi:=xh1 i;obtain⟨xs,e⟩:=hi.allInts.items;have a:ns=xs.toList.map (·.1):=by rw[<- hi.numsOf,<- nums_intItems,<- e]
 have f:=pl.isList;rw[e]at f;have hsz:xs.size=ns.length:=by rw[a,zLM,Array.length_toList]
 refine sum_intList (I.ok.hd x) f (λj w=>?_) λh' y t' k=>⟨.int ns.sum,H,I.kept k,?_,q⟩
 ·have o:numAt xs j∈ns:=by
   rw[a,numAt_eq];exact getD_mem (by rw[zLM,Array.length_toList];exact w)
  have G:=g _ o;have C:=xjf (ns:=ns.take (j+1)) λn hn=>g n (qK hn);have z:(ns.take (j+1)).length<=1000:=zY (List.length_take_le _ _) (by omega);rw[preSum_eq,<- a];unfold InLong;omega
 ·refine⟨t',?_⟩
  rw[preSum_eq,<- a,zTL (by omega)]
theorem xqy(z:X.calm=true):xe2 X (.builtin "max") (λxs H Q=>∃p,∃ns:List Int,xs=[.ref p]/\SqL X.K H p (ns.map V.int)/\ns≠[]/\∀m,m∈ns->(∀n∈ns,n<=m)->Q (.int m) H):=by
 intro f s σ H xs us Q I r h;obtain⟨p,ns,rfl,x,c,q⟩:=h;obtain⟨u,rfl,o⟩:=xhg r;cases o;obtain⟨its,l,pl,hz⟩:=I.list x;have hi:=xh1 l;obtain⟨xs,e⟩:=hi.allInts.items;have b:ns=xs.toList.map (·.1):=by rw[<- hi.numsOf,<- nums_intItems,<- e]
 have g:=pl.isList;rw[e]at g;have hsz:xs.size=ns.length:=by rw[b,zLM,Array.length_toList]
 have J:0<ns.length:=List.length_pos_iff.mpr c;refine max_intList (I.ok.hd z) g (by omega) λv h' G w k=>?_;obtain⟨t,rfl⟩:=intItems_at w;obtain⟨M,C⟩:=argBest_gt (numAt xs) (xs.size-1);refine⟨.int _,H,I.kept k,⟨t,rfl⟩,q _ ?_ λa i=>?_⟩
 ·rw[b,numAt_eq]
  exact getD_mem (by rw[zLM,Array.length_toList];omega)
 ·rw[b]at i
  obtain⟨j,y,rfl⟩:=mem_getD i;rw[zLM,Array.length_toList]at y;rw[<- numAt_eq];exact C j (by omega)
end
section
variable {X:Cx}{K:Fg}
theorem xt5(h:X.K=K):IxR X (rIxT K):=by subst h;exact xv1
theorem xry(h:X.K=K):IxR X (rIxL K):=by subst h;exact iL
theorem xag(h:X.K=K):xe2 X (.builtin "len") (λxs H Q=>∃p ys,xs=[.ref p]/\(SqL K H p ys\/SqT K H p ys)/\Q (.int ys.length) H):=by subst h;exact xk1
theorem xbc {es:List Expr} {k:Nat} {t:TGs} {n:Nat} {pos:Pos} (c:X.K=K) (b:X.calm=true) (h:PGs X es t)
  (hn:(assignEach es X.env).length=n:=by rfl) (a:(assignEach es X.env).findIdx? (·.1)=none:=by rfl):PG X (.Tuple es k pos) (gTup K n t):=by subst c;exact xvf b h hn a
end
end L2
end
section
namespace M
open PySem L2
structure Kn where
 name:Str
 rc:Bool
 parts:List (Str×Str)
def Kn.sort(k:Kn):Str:=if k.rc=true then S "rec" else S "alt"
def xmd(p:Str×Str):D:=.tup [.str p.1,.str p.2]
def xee(ps:List (Str×Str)):D:=.tup (ps.map xmd)
def Kn.d(k:Kn):D:=.tup [.str k.name,.str k.sort,xee k.parts]
def xef(ks:List Kn):D:=.tup (ks.map Kn.d)
def kAt(ks:List Kn)(x:Str):Option Kn:=ks.find? λk=>decide (k.name=x)
def xwy:Option Kn->V
 |some k=>.str k.sort
 |none=>.non
def xm4:Option Kn->D
 |some k=>xee k.parts
 |none=>.tup []
def KsAt(H:Hp)(v:V)(ks:List Kn):Prop:=RelD H v (xef ks)/\ks.length<=100/\∀k∈ks,k.parts.length<=100
theorem KsAt.same{H a:Hp}{v:V}{ks:List Kn}(h:KsAt H v ks)(s:Same H a):KsAt a v ks:=⟨h.1.same s _,h.2⟩
abbrev En:=Str->Option D
def En.put(e:En)(x:Str)(d:D):En:=λy=>if y=x then some d else e y
def EnAt(H:Hp)(p:Addr)(m:Nat)(e:En):Prop:=
 ∃kvs,H p=some (.dK kvs)/\kvs.length<=m/\∀x,(e x=none->valV kvs (Sum.inr x)=none)/\∀d,e x=some d->∃v,valV kvs (Sum.inr x)=some v/\RelD H v d
theorem EnAt.same{H b:Hp}{p:Addr}{m:Nat}{e:En}(h:EnAt H p m e)(s:Same H b):EnAt b p m e:=by
 obtain⟨kvs,g,f,a⟩:=h;refine⟨kvs,s _ _ g,f,λx=>⟨(a x).1,λd hd=>?_⟩⟩;obtain⟨v,c,r⟩:=(a x).2 d hd;exact⟨v,c,r.same s _⟩
theorem EnAt.mono{H:Hp}{p:Addr}{m a:Nat}{e:En}(h:EnAt H p m e)(l:m<=a):EnAt H p a e:=by
 obtain⟨kvs,c,f,b⟩:=h;exact⟨kvs,c,by omega,b⟩
theorem EnAt.put {H a:Hp} {p q:Addr} {m:Nat} {e:En} {kvs:List (Key×V)} (l:H p=some (.dK kvs)) (n:kvs.length<=m) (h:∀x,(e x=none->valV kvs (Sum.inr x)=none)/\∀d,e x=some d->∃v,valV kvs (Sum.inr x)=some v/\RelD H v d)
  (s:Same H a) {x:Str} {v:V} {d:D} (g:RelD a v d) (j:a q=some (.dK (putK kvs (Sum.inr x) v))):EnAt a q (m+1) (e.put x d):=by
 refine⟨_,j,by have:=xd8 kvs (Sum.inr x) v;omega,λy=>?_⟩;rw[xh9];unfold En.put;by_cases c:y=x
 ·subst c
  rw[if_pos rfl,if_pos rfl];refine⟨λz=>(by cases z),λd' f=>?_⟩;cases f;exact⟨v,rfl,g⟩
 ·have b:¬(Sum.inr y:Key)=Sum.inr x:=λz=>c (Sum.inr.inj z)
  rw[if_neg c,if_neg b];refine⟨(h y).1,λd' f=>?_⟩;obtain⟨u,i,r⟩:=(h y).2 d' f;exact⟨u,i,r.same s _⟩
def opV(s:Str)(x y:Int):Int:=
 if s=S "+" then (x+y)%4294967296 else if s=S "-" then (x-y)%4294967296 else if s=S "*" then x*y%4294967296 else if s=S "<" then (if x<y then 1 else 0) else (if x=y then 1 else 0)
def Nm(x:Int):Prop:=0<=x/\x<4294967296
theorem xvr(s:Str)(x y:Int):Nm (opV s x y):=by
 have h:∀z:Int,Nm (z%4294967296):=λz=>⟨zQ _ (by decide),zO _ (by decide)⟩;unfold opV;split
 ·exact h _
 split
 ·exact h _
 split
 ·exact h _
 split
 ·split <;> exact⟨by decide,by decide⟩
 ·split <;> exact⟨by decide,by decide⟩
abbrev tNum(n:Int):D:=.tup [.str (S "num"),.int n]
abbrev tBox(x:Str):D:=.tup [.str (S "box"),.str x]
abbrev tOpD(s:Str)(a b:D):D:=.tup [.str (S "op"),.str s,a,b]
abbrev tRec(k:Str)(es:List D):D:=.tup [.str (S "rec"),.str k,.tup es]
abbrev tGet(a:D)(f:Str):D:=.tup [.str (S "get"),a,.str f]
abbrev tTag(k t:Str)(a:D):D:=.tup [.str (S "tag"),.str k,.str t,a]
abbrev dArm(r:Str×Str×D):D:=.tup [.str r.1,.str r.2.1,r.2.2]
abbrev xnw(a:D)(rs:List (Str×Str×D)):D:=.tup [.str (S "case"),a,.tup (rs.map dArm)]
abbrev tIfD(a b c:D):D:=.tup [.str (S "if"),a,b,c]
def xe6(env:En)(d v:D):Prop:=(∃n,d=tNum n/\v=.int n)\/∃x,env x=some v/\d=tBox x
def NodeEv(ks:List Kn)(R:En->D->D->Prop)(env:En)(d v:D):Prop:=
 (∃s a b x y,R env a (.int x)/\R env b (.int y)/\Nm x/\Nm y/\d=tOpD s a b/\v=.int (opV s x y)) ∨
 (∃k es vs,es.length<=1000/\All2 (R env) es vs/\d=tRec k es/\v=.tup [.str k,.tup vs]) ∨
 (∃a k vs f kn i,R env a (.tup [.str k,.tup vs])/\kAt ks k=some kn/\(kn.parts.map (·.1)).findIdx? (λz=>decide (z=f))=some i/\vs[i]?=some v/\d=tGet a f) ∨
 (∃k t a x,R env a x/\d=tTag k t a/\v=.tup [.str k,.str t,x]) ∨
 (∃a rs k t x y e,rs.length<=1000/\R env a (.tup [.str k,.str t,x])/\rs.find? (λr=>decide (r.1=t))=some (t,y,e)/\R (env.put y x) e v/\d=xnw a rs) ∨
 (∃a b c x,R env a (.int x)/\R env (if x=0 then c else b) v/\d=tIfD a b c)
def Ev(ks:List Kn):Nat->En->D->D->Prop
 |0=>xe6
 |n+1=>λenv d v=>xe6 env d v\/NodeEv ks (Ev ks n) env d v
def xq1(env:En)(d:D)(k:Str):Prop:=(∃n,Nm n/\d=tNum n/\k=S "num")\/∃x,env x=some (.str k)/\d=tBox x
def xj1(kn:Kn)(f:Str):Option Str:=(kn.parts.find? λp=>decide (p.1=f)).map (·.2)
abbrev RKn:=En->D->Str->Prop
def OpKd(R:RKn):RKn:=λenv d k=>∃s a b,R env a (S "num")/\R env b (S "num")/\d=tOpD s a b/\k=S "num"
def xxg(ks:List Kn)(R:RKn):RKn:=λenv d k=>∃es kn,kAt ks k=some kn/\kn.rc=true/\All2 (λe (p:Str×Str)=>R env e p.2) es kn.parts/\d=tRec k es
def xxh(ks:List Kn)(R:RKn):RKn:=λenv d k=>∃a k1 f kn,R env a k1/\kAt ks k1=some kn/\kn.rc=true/\xj1 kn f=some k/\d=tGet a f
def xxf(ks:List Kn)(R:RKn):RKn:=λenv d k=>∃t a kn k1,kAt ks k=some kn/\kn.rc=false/\xj1 kn t=some k1/\R env a k1/\d=tTag k t a
def xwj (cs:Prop) (ks:List Kn) (R:RKn):RKn:=λenv d k=>cs/\∃a,∃rs:List (Str×Str×D),∃k1 kn,R env a k1/\kAt ks k1=some kn/\kn.rc=false/\rs≠[]/\rs.length=kn.parts.length/\(rs.map (·.1)).Nodup ∧
  (∀r∈rs,env r.2.1=none/\∃k2,xj1 kn r.1=some k2/\R (env.put r.2.1 (.str k2)) r.2.2 k)/\d=xnw a rs
def IfKd(R:RKn):RKn:=λenv d k=>∃a b c,R env a (S "num")/\R env b k/\R env c k/\d=tIfD a b c
def NodeKd(cs:Prop)(ks:List Kn)(R:RKn):RKn:=λenv d k=>OpKd R env d k\/xxg ks R env d k\/xxh ks R env d k\/xxf ks R env d k\/xwj cs ks R env d k\/IfKd R env d k
def Kd(cs:Prop)(ks:List Kn):Nat->En->D->Str->Prop
 |0=>xq1
 |n+1=>λenv d k=>xq1 env d k\/NodeKd cs ks (Kd cs ks n) env d k
theorem xdj{α:Type}{p:α->Bool}{xs:List α}{i:Nat}{a:α}(h:(xs.take i).find? p=none)(c:xs[i]?=some a):(p a=true->xs.find? p=some a)/\(p a=false->(xs.take (i+1)).find? p=none):=by
 have hi:i<xs.length:=(zES c).1;have e:xs[i]=a:=(zES c).2;refine⟨λb=>?_,λb=>?_⟩
 ·have f:xs=xs.take i++a::xs.drop (i+1):=by
   rw[<- e,<- List.drop_eq_getElem_cons hi,List.take_append_drop]
  rw[f,List.find?_append,h];simp[b]
 ·rw[zTA,c,List.find?_append,h]
  simp[b]
theorem Same.new2{H:Hp}{p:Addr}(h:H p=none)(o c:HO):Same H (upd (upd H p o) p c):=λb u q=>by
 have a:=neN q h;rw[xak a,xak a];exact q
mutual
def D.deep:D->Nat
 |.int _=>0
 |.str _=>0
 |.tup ds=>xhd ds+1
def xhd:List D->Nat
 |[]=>0
 |d::ds=>max d.deep (xhd ds)
end
theorem xem:∀{ds:List D} {d:D},d∈ds->d.deep<=xhd ds
 | e::ds,d,h=>by
  show d.deep<=max e.deep (xhd ds);rcases zMC h with rfl |h
  ·omega
  ·have:=xem h
   omega
theorem xeb{n:Nat}:∀{ds:List D},(∀d∈ds,d.deep<=n)->xhd ds<=n
 |[],_=>qL _
 |e::ds,h=>by
  show max e.deep (xhd ds)<=n;have b:=h e (by simp);have a:=xeb (ds:=ds) λd hd=>h d (qC _ hd);omega
section
variable {X:Cx}{pins:List (Addr×Obj)}{σ:St}{H:Hp}{s:Shared}
theorem xfy{vs:List V}{its:List Value}(r:Vals vs its){j:Nat}(a:j<its.toArray.size):∃x,vs[j]?=some x/\RelV x its.toArray[j]:=by
 have b:=r.length;have h:j<its.length:=by simpa using a
 obtain⟨u,e,q⟩:=r.get (i:=j) (x:=vs[j]'(by omega)) (zGA _)
 have g:its.toArray[j]=u:=by
  have:its[j]?=some its[j]:=zGA h;rw[e]at this;simpa using (z8 this).symm
 exact⟨vs[j]'(by omega),zGA _,by rw[g];exact q⟩
theorem xqm(I:Inv X pins σ H s):∀(n:Nat) (d:D) {x y:V} {u v:Value} {A:Around},d.deep<=n->RelD H x d->RelD H y d->RelV x u->RelV y v->A.units+n<cLine->SeqAt.EqAt A s u v true
 |n,.int i,x,y,u,v,A,_,hx,hy,ru,rv,_=>by
  cases hx;cases hy;obtain⟨t,rfl⟩:=ru;obtain⟨t',rfl⟩:=rv;have:=SeqAt.EqAt.int_int (A:=A) (s:=s) i t i t';rw[beq_self_eq_true]at this;exact this
 |n,.str z,x,y,u,v,A,_,hx,hy,ru,rv,_=>by
  cases hx;cases hy;obtain⟨t,rfl⟩:=ru;obtain⟨t',rfl⟩:=rv;have:=SeqAt.EqAt.str_str (A:=A) (s:=s) z t z t';rw[beq_self_eq_true]at this;exact this
 |0,.tup ds,x,y,u,v,A,h,_,_,_,_,_=>absurd h (Nat.not_succ_le_zero _)
 | n + 1,.tup ds,x,y,u,v,A,h,hx,hy,ru,rv,hA=>by
  obtain⟨a,vs,rfl,ha,rvs⟩:=hx;obtain⟨b,ws,rfl,hb,rws⟩:=hy;obtain rfl:u=.ref a:=ru;obtain rfl:v=.ref b:=rv;by_cases hab:a=b
  ·subst hab
   exact SeqAt.EqAt.same _
  ·obtain⟨its,r1,p1,_⟩:=I.tuple (zB (K:=X.K) ha)
   obtain⟨its2,r2,p2,_⟩:=I.tuple (zB (K:=X.K) hb);have l1:=r1.length;have l2:=r2.length;have l3:=rvs.length;have l4:=rws.length;have:=SeqAt.EqAt.of_refs hab (SeqAt.RcAt.tuples (A:=A) (e:=λ_=>true) p1 p2 (by omega) λj h1 h2=>?_)
   ·have e:((List.range (min its.toArray.size its2.toArray.size)).all (λ_=>true) && its.toArray.size == its2.toArray.size)=true:=by
     rw[show its.toArray.size=its2.toArray.size by simp only[List.size_toArray];omega];simp
    rw[e]at this;exact this
   ·obtain⟨x1,e1,q1⟩:=xfy r1 h1
    obtain⟨x2,e2,q2⟩:=xfy r2 h2;obtain⟨d1,f1,g1⟩:=rvs.get e1;obtain⟨d2,f2,g2⟩:=rws.get e2;rw[f1]at f2;cases f2;refine xqm I n d1 ?_ g1 g2 q1 q2 (by show A.units+1+n<cLine;omega);have:=xem (zMG f1);have h':xhd ds+1<=n+1:=h;omega
end
def five:List Nat:=[113,120,122,118,119]
def nmA(cs:List Nat)(a:Nat)(b:Int)(k:Nat):List Nat:=cs.take a++(97+((b+5*(k:Int))%26).toNat)::cs.drop a
def nmB(cs:List Nat)(a:Nat)(b:Int)(k:Nat):List Nat:=nmA cs a b (k-k%2)++List.replicate (k%2) 113
def xk8(nms:List Str):Prop:=nms.length=26/\nms.Nodup/\∀z∈nms,Name z
theorem xg1(cs:List Nat)(a:Nat)(b:Int)(k:Nat):(nmA cs a b k).length=cs.length+1:=by
 unfold nmA;rw[zLA,List.length_cons,List.length_take,List.length_drop];omega
theorem xg0(cs:List Nat)(a:Nat)(b:Int)(k:Nat):(nmB cs a b k).length=cs.length+1+k%2:=by
 unfold nmB;rw[zLA,xg1,List.length_replicate]
theorem xpw{cs:List Nat}{a:Nat}{b:Int}{k j:Nat}(e:k<26)(f:j<26)(h:nmA cs a b k=nmA cs a b j):k=j:=by
 unfold nmA at h;have c:=List.append_cancel_left h;have g:=(zS c).1;omega
theorem xt0{cs:List Nat}{a:Nat}{b:Int}{k j:Nat}(g:k<26)(i:j<26)(h:nmB cs a b k=nmB cs a b j):k=j:=by
 have e:=congrArg List.length h;rw[xg0,xg0]at e;have c:k%2=j%2:=by omega
 unfold nmB at h;rw[c]at h;have f:=List.append_cancel_right h;have l:=xpw (by omega) (by omega) f;omega
theorem xkf{f:Nat->Str}(h:∀k j,k<26->j<26->f k=f j->k=j):((List.range 26).map f).Nodup:=by
 refine List.pairwise_map.mpr (List.Pairwise.imp_of_mem (λhi b a e=>?_) (List.pairwise_lt_range (n:=26)));have:=h _ _ (List.mem_range.mp hi) (List.mem_range.mp b) e;omega
theorem xhb:∀c∈five,xfm c=true:=by decide
theorem xkk(i:Int):xfm (97+(i%26).toNat)=true:=by
 unfold xfm;have b:0<=i%26:=zQ _ (by decide);have a:i%26<26:=zO _ (by decide);rw[Bool.and_eq_true,decide_eq_true_eq,decide_eq_true_eq];omega
theorem xpy{l:List Nat}(i:1<=l.length)(h:l.length<=6)(f:∀c∈l,xfm c=true)(a:l.length=1\/∃c∈l,c∈five):Name (ofL l):=by
 show xrs l=true;unfold xrs
 have ne:∀z:List Nat,z.length≠1->(∀c∈z,c ∉five)->(l != z)=true:=λz hz g=>by
  rw[bne_iff_ne];intro e;subst e;rcases a with a |⟨c,b,a⟩
  ·exact hz a
  ·exact g c b a
 rw[ne [110,117,109] (by decide) (by decide),ne [105,116] (by decide) (by decide),zDT i,zDT h,List.all_eq_true.mpr f];rfl
theorem mem_nmA{cs:List Nat}{a:Nat}{b:Int}{k c:Nat}:c∈nmA cs a b k ↔ c∈cs\/c=97+((b+5*(k:Int))%26).toNat:=by
 unfold nmA;rw[List.mem_append,List.mem_cons]
 have e:c∈cs ↔ c∈cs.take a\/c∈cs.drop a:=by
  rw[<- List.mem_append,List.take_append_drop]
 rw[e];constructor
 ·rintro(h |h |h)
  ·exact .inl (.inl h)
  ·exact .inr h
  ·exact .inl (.inr h)
 ·rintro((h |h) |h)
  ·exact .inl h
  ·exact .inr (.inr h)
  ·exact .inr (.inl h)
theorem xrr{cs:List Nat}{a:Nat}{b:Int}{k:Nat}(g:cs.length<=4)(e:∀c∈cs,c∈five):Name (ofL (nmA cs a b k)):=by
 refine xpy (by rw[xg1];omega) (by rw[xg1];omega) (λc f=>?_) ?_
 ·rcases mem_nmA.mp f with h |h
  ·exact xhb c (e c h)
  ·rw[h];exact xkk _
 ·cases cs with
  |nil=>exact .inl (by rw[xg1];rfl)
  |cons c r=>exact .inr ⟨c,mem_nmA.mpr (.inl (by simp)),e c (by simp)⟩
theorem xrq{cs:List Nat}{a:Nat}{b:Int}{k:Nat}(i:cs.length<=4)(f:∀c∈cs,c∈five):Name (ofL (nmB cs a b k)):=by
 refine xpy (by rw[xg0];omega) (by rw[xg0];omega) (λc e=>?_) ?_
 ·unfold nmB at e
  rcases zMA e with e |e
  ·rcases mem_nmA.mp e with h |h
   ·exact xhb c (f c h)
   ·rw[h];exact xkk _
  ·rw[(List.mem_replicate.mp e).2];decide
 ·by_cases g:k%2=0
  ·cases cs with
   |nil=>exact .inl (by rw[xg0,g];rfl)
   |cons c r=>exact .inr ⟨c,by unfold nmB;exact zR _ (mem_nmA.mpr (.inl (by simp))),f c (by simp)⟩
  ·refine .inr ⟨113,?_,by decide⟩
   unfold nmB;exact zJ _ (List.mem_replicate.mpr ⟨by omega,rfl⟩)
theorem nmsA{cs:List Nat}{a:Nat}{b:Int}(h:cs.length<=4)(i:∀c∈cs,c∈five):xk8 ((List.range 26).map λk=>ofL (nmA cs a b k)):=by
 refine⟨by simp,xkf λk j f g e=>xpw f g (congrArg L e),λz hz=>?_⟩;obtain⟨k,_,rfl⟩:=zMP hz;exact xrr h i
theorem nmsB{cs:List Nat}{a:Nat}{b:Int}(h:cs.length<=4)(i:∀c∈cs,c∈five):xk8 ((List.range 26).map λk=>ofL (nmB cs a b k)):=by
 refine⟨by simp,xkf λk j f g e=>xt0 f g (congrArg L e),λz hz=>?_⟩;obtain⟨k,_,rfl⟩:=zMP hz;exact xrq h i
theorem xra(x:Str){j:Int}(h0:0<=j)(a:j<=x.length):Txt.slice x none (some j)=ofL ((L x).take j.toNat):=by
 have e:Txt.slice x none (some j)=StrLaws.sliceText x none (some j):=rfl;rw[e,StrLaws.sliceText_to ⟨h0,by rw[show x.cps.toList.length=x.length by simp[Str.length]];exact a⟩];show ofL ((((L x).drop 0).take (j-0).toNat))=_;rw[List.drop_zero,Int.sub_zero]
theorem xnz(x:Str){j:Int}(h0:0<=j)(a:j<=x.length):Txt.slice x (some j) none=ofL ((L x).drop j.toNat):=by
 have e:Txt.slice x (some j) none=StrLaws.sliceText x (some j) none:=rfl;rw[e,StrLaws.sliceText_from ⟨h0,by rw[show x.cps.toList.length=x.length by simp[Str.length]];exact a⟩];apply xq2;show((L x).drop j.toNat).take _=(L x).drop j.toNat;refine zTL ?_;rw[List.length_drop];show(L x).length-j.toNat<=(((L x).length:Int)-j).toNat;omega
theorem xp8{i:Int}(h0:0<=i)(h:i<26):atI (S "abcdefghijklmnopqrstuvwxyz").cps.toList i=some (97+i.toNat):=by
 have all:∀k,k<26->(S "abcdefghijklmnopqrstuvwxyz").cps.toList[k]?=some (97+k):=by walk_at"k"
 have a:i=((i.toNat:Nat):Int):=by omega
 have q:=xam (all i.toNat (by omega));rw[<- a]at q;exact q
theorem xue{i:Int}(h0:0<=i)(h:i<5):∃c∈five,atI (S "qxzvw").cps.toList i=some c:=by
 have e:(S "qxzvw").cps.toList=five:=by walk_at"k"
 rw[e];exact xns h0 h
theorem xpx(cs:List Nat)(a ch:Nat):ofL (cs.take a)++(⟨#[ch]⟩:Str)++ofL (cs.drop a)=ofL (cs.take a++ch::cs.drop a):=by
 apply xq2;rw[xe0,xe0,xen,xen,xen];show cs.take a++[ch]++cs.drop a=_;simp
end M
namespace L2
open PySem PySem.Spec PyProof.Rows
theorem xtq{X:Cx}:OpR X (binaryOp .Mult) (λx y H Q=>∃i n,x=.str i/\y=.int n/\(n=0\/n=1)/\Q (.str (if n=1 then i else Str.empty)) H):=by
 intro pins s σ H x y v u Q I rx ry h;obtain⟨i,n,rfl,rfl,hn,q⟩:=h;obtain⟨t,rfl⟩:=rx;obtain⟨t',rfl⟩:=ry;refine SB.mul ?_ λt' k=>⟨.str _,H,I.tok k,⟨t',rfl⟩,?_⟩
 ·rcases hn with rfl |rfl
  ·exact⟨by decide,λh=>absurd (by decide) h,λh=>absurd (by decide) h⟩
  ·exact⟨by decide,λ_ h=>by simp at h,λ_ h=>by simp at h⟩
 ·have e:Txt.mul i n=if n=1 then i else Str.empty:=by
   rcases hn with rfl |rfl
   ·rfl
   ·unfold Txt.mul
    rw[if_neg (by decide),if_pos (by simp),if_pos rfl]
  rw[e];exact q
end L2
end
section
namespace M
open PySem L2
structure KWf(ks:List Kn):Prop where
 nd:(ks.map Kn.name).Nodup
 nm:∀k∈ks,Name k.name
 ref:∀(i:Nat) (k:Kn),ks[i]?=some k->∀p∈k.parts,p.2=S "num"\/∃j,∃k':Kn,j<i/\ks[j]?=some k'/\k'.name=p.2
 alt:∀k∈ks,k.rc=false->k.parts≠[]
 few:ks.length<=6
 pts:∀k∈ks,k.parts.length<=5
 pnd:∀k:Kn,k∈ks->(k.parts.map (λp:Str×Str=>p.1)).Nodup
 pnm:∀k:Kn,k∈ks->∀p∈k.parts,Name p.1
theorem xfc{x:Str}(h:Name x):x≠S "num":=λe=>by
 rw[e]at h;exact absurd (show xrs (S "num").cps.toList=true from h) (by walk_at"k")
theorem KWf.nil:KWf []:=⟨List.nodup_nil,(λ_ h=>nomatch h),(λi k h=>by simp at h),(λ_ h=>nomatch h),qL _,(λ_ h=>nomatch h),(λ_ h=>nomatch h),(λ_ h=>nomatch h)⟩
theorem xey{α:Type}{f:α->Str}:∀{xs:List α} {i:Nat} {a:α},(xs.map f).Nodup->xs[i]?=some a->xs.find? (λz=>decide (f z=f a))=some a
 |x::xs,0,a,nd,h=>by
  simp at h;subst h;rw[List.find?_cons,zDT rfl]
 |x::xs,i+1,a,nd,h=>by
  have h':xs[i]?=some a:=by simpa using h
  rw[List.map_cons,List.nodup_cons]at nd;have b:f x≠f a:=λe=>nd.1 (by rw[e];exact qD (zMG h'));rw[List.find?_cons,zDF b];exact xey nd.2 h'
theorem KWf.at{ks:List Kn}(w:KWf ks){i:Nat}{k:Kn}(h:ks[i]?=some k):kAt ks k.name=some k:=xey (f:=Kn.name) w.nd h
theorem KWf.no{ks:List Kn}{x:Str}(h:∀k∈ks,k.name≠x):kAt ks x=none:=by
 unfold kAt;rw[List.find?_eq_none];intro k a;simpa using h k a
theorem KWf.num{ks:List Kn}(w:KWf ks):kAt ks (S "num")=none:=KWf.no λk a=>xfc (w.nm k a)
def KIn(ks:List Kn)(n:Nat)(x:Str):Prop:=x=S "num"\/∃j k,j<n/\ks[j]?=some k/\k.name=x
theorem KIn.mono{ks:List Kn}{n m:Nat}{x:Str}(h:KIn ks n x)(l:n<=m):KIn ks m x:=by
 rcases h with h |⟨j,k,a,h⟩
 ·exact .inl h
 ·exact .inr ⟨j,k,by omega,h⟩
theorem KIn.ap{ks more:List Kn}{n:Nat}{x:Str}(h:KIn ks n x):KIn (ks++more) n x:=by
 rcases h with h |⟨j,k,b,a,c⟩
 ·exact .inl h
 ·exact .inr ⟨j,k,b,by rw[List.getElem?_append_left (zES a).1];exact a,c⟩
theorem KIn.of{ks:List Kn}{x:Str}(h:x=S "num"\/∃k∈ks,k.name=x):KIn ks ks.length x:=by
 rcases h with h |⟨k,b,h⟩
 ·exact .inl h
 ·obtain⟨j,a,e⟩:=zMI b
  exact .inr ⟨j,k,a,by rw[<- e];exact zGA a,h⟩
theorem KWf.snoc {ks:List Kn} (w:KWf ks) {k:Kn} (o:k.name ∉ks.map Kn.name) (n:Name k.name) (m:∀p∈k.parts,KIn ks ks.length p.2) (l:k.rc=false->k.parts≠[]) (r:ks.length<6) (j:k.parts.length<=5)
  (h:(k.parts.map (·.1)).Nodup) (g:∀p∈k.parts,Name p.1):KWf (ks++[k]):=by
 have c:∀{q:Kn->Prop},(∀z∈ks,q z)->q k->∀z∈ks++[k],q z:=λa b z hz=>by
  rcases zMA hz with hz |hz
  ·exact a z hz
  ·rw[zMO hz];exact b
 refine⟨?_,c w.nm n,?_,c w.alt l,by rw[zLA,List.length_singleton];omega,c w.pts j,c w.pnd h,c w.pnm g⟩
 ·rw[zAP]
  exact xly w.nd o
 ·intro i z hz p f
  by_cases hi:i<ks.length
  ·rw[List.getElem?_append_left hi]at hz
   exact KIn.ap (w.ref i z hz p f)
  ·rw[List.getElem?_append_right (by omega)]at hz
   have e:i-ks.length=0:=by
    have:=(zES hz).1;simp at this;omega
   rw[e]at hz;simp at hz;subst hz;exact(m p f).ap.mono (by omega)
def maxD:List Int->Int
 |[]=>0
 |n::ns=>max n (maxD ns)
theorem xp1:∀{ns:List Int} {n:Int},n∈ns->n<=maxD ns
 | m::ns,n,h=>by
  show n<=max m (maxD ns);rcases zMC h with rfl |h
  ·omega
  ·have:=xp1 h
   omega
theorem xi2:∀{ns:List Int},ns≠[]->(∀n∈ns,0<=n)->maxD ns∈ns
 |[n],_,h=>by
  have h0:=h n (by simp);show max n 0∈[n];rw[Int.max_eq_left h0];simp
 |n::m::ns,_,h=>by
  have a:=xi2 (ns:=m::ns) (by simp) λx b=>h x (qC _ b);show max n (maxD (m::ns))∈n::m::ns;rcases Int.le_total n (maxD (m::ns)) with e |e
  ·rw[Int.max_eq_right e];exact qC _ a
  ·rw[Int.max_eq_left e];simp
theorem xt2{ns:List Int}{m:Int}(hn:ns≠[])(h0:∀n∈ns,0<=n)(a:m∈ns)(h:∀n∈ns,n<=m):m=maxD ns:=by
 have c:=xp1 a;have b:=h _ (xi2 hn h0);omega
def szF:Nat->List Kn->Str->Int
 |0,_,_=>1
 |n+1,ks,x=>match kAt ks x with
  |none=>1
  |some k=>1+(if k.rc=true then (k.parts.map λp=>szF n ks p.2).sum else maxD (k.parts.map λp=>szF n ks p.2))
theorem xgl{ks:List Kn}(e:∀k∈ks,k.parts.length<=5):∀(n:Nat) (x:Str),1<=szF n ks x/\szF n ks x<=6 ^ n
 |0,x=>by simp[szF]
 | n + 1,x=>by
  unfold szF;have u:(1:Int)<=6 ^ n:=Int.pow_pos (by decide);have w:(6:Int) ^ (n+1)=6*6 ^ n:=by rw[Int.pow_succ,Int.mul_comm]
  cases j:kAt ks x with
  |none=>simp only;omega
  | some k=>
   simp only;have c:=e k (zMF j)
   have all:∀m∈k.parts.map (λp=>szF n ks p.2),1<=m/\m<=6 ^ n:=λm b=>by
    obtain⟨p,_,rfl⟩:=zMP b;exact xgl e n p.2
   have i:(k.parts.map (λp=>szF n ks p.2)).length<=5:=by rw[zLM];exact c
   generalize k.parts.map (λp=>szF n ks p.2)=ns at all i⊢
   have hs:∀(l:List Int),(∀m∈l,1<=m/\m<=(6:Int) ^ n)->0<=l.sum/\l.sum<=l.length*6 ^ n:=by
    intro l
    induction l with
    |nil=>intro _;simp
    |cons a r g=>
     intro h;have s:=h a (by simp);have o:=g λm b=>h m (qC _ b);rw[List.sum_cons,List.length_cons];push_cast;rw[Int.add_mul];omega
   have b:0<=maxD ns/\maxD ns<=6 ^ n:=by
    by_cases f:ns=[]
    ·subst f;simp[maxD];omega
    ·have:=all _ (xi2 f λm b=>by have:=all m b;omega)
     omega
   have s:=hs ns all;have o:(ns.length:Int)*6 ^ n<=5*6 ^ n:=Int.mul_le_mul_of_nonneg_right (by omega) (by omega);split <;> omega
def KsSeq(H:Hp)(v:V)(ks:List Kn):Prop:=∃a vs,v=.ref a/\(H a=some (.lst vs)\/H a=some (.tup vs))/\RelDs H vs (ks.map Kn.d)
theorem KsSeq.same{H b:Hp}{v:V}{ks:List Kn}(h:KsSeq H v ks)(s:Same H b):KsSeq b v ks:=by
 obtain⟨a,vs,e,f,c⟩:=h;exact⟨a,vs,e,f.imp (s _ _) (s _ _),c.same s _⟩
theorem KWf.ksAt{ks:List Kn}(w:KWf ks){H:Hp}{v:V}(h:RelD H v (xef ks)):KsAt H v ks:=⟨h,by have:=w.few;omega,λk a=>by have:=w.pts k a;omega⟩
theorem KsAt.seq{H:Hp}{v:V}{ks:List Kn}(h:KsAt H v ks):KsSeq H v ks:=by
 obtain⟨a,vs,e,c,b⟩:=h.1;exact⟨a,vs,e,.inr c,b⟩
def xgu:Option Kn->Str
 |some k=>k.sort
 |none=>S "num"
end M
namespace L2
open PySem PySem.Spec PyProof.Rows
theorem xve{X:Cx}{b it:Expr}{e c:TI}(g:PI X b it e)(f:PI X b it c):PI X b it (λσ H R=>e σ H R\/c σ H R):=λa s σ H R I h=>by
 rcases h with h |h
 ·exact g a s σ H R I h
 ·exact f a s σ H R I h
end L2
namespace L2
theorem xdn{σ:St}{H:Hp}{A B:Hp->Prop}(h:A H):tYes σ H (λb a=>if b=true then A a else B a):=by
 unfold tYes;show if true=true then A H else B H;rw[if_pos rfl];exact h
end L2
namespace M
open PySem L2
theorem Fed.put{f p:Addr}{H c:Hp}(h:Fed f H c)(i:H p=none)(j:p≠f)(o:HO):Fed f H (upd c p o):=by
 obtain⟨s,x,y,e⟩:=h;refine⟨λb u a g=>?_,x,y,?_⟩
 ·rw[xak (neN a i)]
  exact s b u a g
 ·rw[xak (Ne.symm j)]
  exact e
theorem xc5{H:Hp}{p:Addr}{us:List V}(h:H p=some (.lst us))(o:HO):∀b vs,H b=some (.tup vs)->upd H p o b=some (.tup vs):=λb vs a=>by
 rw[xak λe=>by rw[e,h]at a;cases a];exact a
theorem xi0{ks:List Kn}{r:Int}(h0:0<=r)(h:r<1+(ks.length:Int)):∃x,atI ([V.str (S "num")]++(ks.map Kn.name).map V.str) r=some (.str x)/\KIn ks ks.length x:=by
 have e:[V.str (S "num")]++(ks.map Kn.name).map V.str=(S "num"::ks.map Kn.name).map V.str:=rfl;obtain⟨z,hz,b⟩:=xns (cs:=(S "num"::ks.map Kn.name).map V.str) h0 (by rw[zLM,List.length_cons,zLM];push_cast;omega);obtain⟨y,a,rfl⟩:=zMP hz;refine⟨y,by rw[e];exact b,?_⟩;rcases zMC a with rfl |a
 ·exact .inl rfl
 ·obtain⟨k,c,rfl⟩:=zMP a
  exact KIn.of (.inr ⟨k,c,rfl⟩)
theorem xmn{ys:List Str}{i:Nat}(h:i<ys.length):atI (ys.map V.str) (0+(i:Int))=some (.str ys[i]):=by
 rw[Int.zero_add];exact xam (by rw[zGM,zGA h];rfl)
theorem xwe{a:List Str}(h:a.length=26):cutV (a.map V.str) (some 8) (some 12)=((a.drop 8).take 4).map V.str:=by
 unfold cutV HT.sIx;rw[zLM,h,List.map_take,List.map_drop];rfl
theorem xw5{a:List Str}(h:xk8 a)(i:Nat):(((a.drop 8).take 4).take i).Nodup/\∀z∈((a.drop 8).take 4).take i,Name z:=by
 have hs:(((a.drop 8).take 4).take i).Sublist a:=((List.take_sublist _ _).trans (List.take_sublist _ _)).trans (List.drop_sublist _ _);exact⟨h.2.1.sublist hs,λz hz=>h.2.2 z (hs.subset hz)⟩
theorem xpu{a:List Str}(h:a.Nodup){i:Nat}(hi:i<a.length):a[i] ∉a.take i:=λb=>by
 obtain⟨j,c,e⟩:=zMI b;rw[List.length_take]at c;rw[List.getElem_take]at e;have:=(List.getElem_inj h).mp e;omega
def xwh(nms:List Str)(ks:List Kn):Prop:=KWf ks/\ks.length<=4/\ks.map Kn.name=nms.take ks.length/\∀k∈ks,k.parts.length<=4/\k.parts.map (·.1)=((nms.drop 8).take 4).take k.parts.length
theorem xsu{A:Around}{k:Nat}(a:Room k A):A.units+200<cLine:=by
 have:=a.un;omega
def nuT:Nat->List Kn->Str->D
 |0,_,_=>tNum 0
 | n+1,ks,x=>match kAt ks x with
  |none=>tNum 0
  |some k=>if k.rc=true then tRec x (k.parts.map λp=>nuT n ks p.2) else match k.parts with
   |[]=>tNum 0
   |p::_=>tTag x p.1 (nuT n ks p.2)
def nuV:Nat->List Kn->Str->D
 |0,_,_=>.int 0
 | n+1,ks,x=>match kAt ks x with
  |none=>.int 0
  |some k=>if k.rc=true then .tup [.str x,.tup (k.parts.map λp=>nuV n ks p.2)] else match k.parts with
   |[]=>.int 0
   |p::_=>.tup [.str x,.str p.1,nuV n ks p.2]
theorem KIn.look{ks:List Kn}(a:KWf ks){m:Nat}{x:Str}(h:KIn ks m x):(x=S "num"/\kAt ks x=none)\/∃j k,m=j+1/\kAt ks x=some k/\k.name=x/\k∈ks/\∀p∈k.parts,KIn ks j p.2:=by
 rcases h with rfl |⟨j,k,f,b,rfl⟩
 ·exact .inl ⟨rfl,a.num⟩
 ·refine .inr ⟨m-1,k,by omega,a.at b,rfl,zMG b,λp e=>?_⟩
  rcases a.ref j k b p e with z |⟨i,c,hi,z⟩
  ·exact .inl z
  ·exact .inr ⟨i,c,by omega,z⟩
def NuAt (ks:List Kn) (m:Nat) (x:Str):Prop:=
  (x=S "num"/\kAt ks x=none/\nuT (m+1) ks x=tNum 0/\nuV (m+1) ks x=.int 0) ∨
  ∃ j k,m=j+1/\kAt ks x=some k/\k.name=x/\k∈ks/\(∀p∈k.parts,KIn ks j p.2)/\x≠S "num" ∧
    ((k.rc=true/\nuT (m+1) ks x=tRec x (k.parts.map λp=>nuT m ks p.2)/\nuV (m+1) ks x=.tup [.str x,.tup (k.parts.map λp=>nuV m ks p.2)]) ∨
     (k.rc=false/\∃p r,k.parts=p::r/\nuT (m+1) ks x=tTag x p.1 (nuT m ks p.2)/\nuV (m+1) ks x=.tup [.str x,.str p.1,nuV m ks p.2]))
theorem KIn.nu{ks:List Kn}(b:KWf ks){m:Nat}{x:Str}(h:KIn ks m x):NuAt ks m x:=by
 rcases h.look b with⟨rfl,e⟩ |⟨j,k,rfl,e,hn,c,i⟩
 ·refine .inl ⟨rfl,e,?_,?_⟩
  ·unfold nuT;rw[e]
  ·unfold nuV;rw[e]
 ·refine .inr ⟨j,k,rfl,e,hn,c,i,by rw[<- hn];exact xfc (b.nm k c),?_⟩
  cases a:k.rc with
  | true=>
   refine .inl ⟨rfl,?_,?_⟩
   ·conv=>lhs;unfold nuT
    rw[e];show(if k.rc=true then _ else _)=_;rw[if_pos a]
   ·conv=>lhs;unfold nuV
    rw[e];show(if k.rc=true then _ else _)=_;rw[if_pos a]
  | false=>
   obtain⟨p,r,f⟩:∃p r,k.parts=p::r:=by
    cases g:k.parts with
    |nil=>exact absurd g (b.alt k c a)
    |cons p r=>exact⟨p,r,rfl⟩
   refine .inr ⟨rfl,p,r,f,?_,?_⟩
   ·conv=>lhs;unfold nuT
    rw[e];show(if k.rc=true then _ else _)=_;rw[if_neg (by rw[a];decide),f]
   ·conv=>lhs;unfold nuV
    rw[e];show(if k.rc=true then _ else _)=_;rw[if_neg (by rw[a];decide),f]
end M
end
section
namespace L2
open PySem PySem.Spec PyProof.Rows
theorem xv2{P:Program}{w:World}{k:Key}{v:Value}(h:(xca P w).is k v=true):RelV (kV k) v:=by
 cases k with
 |inl i=>
  have h':Value.isInt i v=true:=h;unfold Value.isInt at h';split at h' <;> simp_all [RelV,kV]
 |inr x=>
  have h':Value.isStrOf x v=true:=h;unfold Value.isStrOf at h';split at h' <;> simp_all [RelV,kV]
theorem KV.get{κ:Type}{kvs:List (κ×V)}{vs:List (κ×Value)}(r:KV kvs vs){i:Nat}{p:κ×V}{q:κ×Value}(a:kvs[i]?=some p)(b:vs[i]?=some q):p.1=q.1:=by
 unfold KV at r
 induction r generalizing i with
 |nil=>simp at a
 | cons h t c=>
  cases i with
  |zero=>
   simp at a b;subst a b;exact h.1
  |succ i=>exact c (by simpa using a) (by simpa using b)
end L2
end
section
namespace M
open PySem L2
theorem xje{ks:List Kn}{k:Kn}{x:Str}(h:kAt ks x=some k)(n:Nat):szF (n+1) ks x=1+(if k.rc=true then (k.parts.map λp=>szF n ks p.2).sum else maxD (k.parts.map λp=>szF n ks p.2)):=by
 conv=>lhs;unfold szF
 rw[h]
theorem xe7 {ks:List Kn} {x:Str} (h:kAt ks x=none):∀n,szF n ks x=1
  |0=>rfl
  | n + 1 => by conv => lhs;unfold szF
                rw[h]
theorem xq5{ks:List Kn}(w:KWf ks)(j:Nat):∀(x:Str),KIn ks j x->∀n,j+1<=n->szF n ks x=szF (j+1) ks x:=by
 induction j with
 |zero=>
  intro x h n hn;rcases h.look w with⟨rfl,e⟩ |⟨i,k,b,_⟩
  ·rw[xe7 e,xe7 e]
  ·cases b
 | succ j c=>
  intro x h n hn;rcases h.look w with⟨rfl,e⟩ |⟨i,k,b,e,_,_,f⟩
  ·rw[xe7 e,xe7 e]
  ·cases b
   obtain⟨m,rfl⟩:∃m,n=m+1:=⟨n-1,by omega⟩;have this:(k.parts.map λp=>szF m ks p.2)=k.parts.map λp=>szF (j+1) ks p.2:=zP λp a=>c p.2 (f p a) m (by omega);rw[xje e,xje e,this]
def sz(ks:List Kn)(x:Str):Int:=szF 7 ks x
theorem xuy{ks:List Kn}(w:KWf ks):sz ks (S "num")=1:=xe7 w.num _
theorem xww{ks:List Kn}(w:KWf ks)(x:Str):1<=sz ks x:=(xgl w.pts 7 x).1
def inSz(k:Kn)(f:Str->Int):Int:=if k.rc=true then (k.parts.map λp=>f p.2).sum else maxD (k.parts.map λp=>f p.2)
theorem xh2{k:Kn}{f g:Str->Int}(h:∀p∈k.parts,f p.2=g p.2):inSz k f=inSz k g:=by
 unfold inSz;rw[List.map_congr_left (g:=λp=>g p.2) h]
theorem xwx{ks:List Kn}(w:KWf ks){i:Nat}{k:Kn}(h:ks[i]?=some k):sz ks k.name=1+inSz k (sz ks):=by
 have c:=w.few;have hi:i<ks.length:=(zES h).1;show szF 7 ks k.name=_;rw[xje (w.at h)];show 1+inSz k (szF 6 ks)=_;rw[xh2 (g:=sz ks)];intro p b;have a:KIn ks 5 p.2:=KIn.mono (n:=i) (w.ref i k h p b) (by omega);exact(xq5 w 5 p.2 a 7 (by omega)).symm
theorem xv0{ks more:List Kn}{x:Str}{k:Kn}(h:kAt ks x=some k):kAt (ks++more) x=some k:=by
 unfold kAt at h⊢;rw[List.find?_append,h];rfl
theorem xsg{ks more:List Kn}(w:KWf ks)(b:KWf (ks++more)):∀(n:Nat) (x:Str),KIn ks ks.length x->szF n (ks++more) x=szF n ks x
 |0,_,_=>rfl
 |n+1,x,h=>by
  rcases h.look w with⟨rfl,e⟩ |⟨i,k,f,e,_,_,c⟩
  ·rw[xe7 e,xe7 b.num]
  ·rw[xje e,xje (xv0 e),List.map_congr_left (g:=λp=>szF n ks p.2) λp a=>xsg w b n p.2 ((c p a).mono (by omega))]
theorem xuz{ks more:List Kn}(w:KWf ks)(a:KWf (ks++more)){x:Str}(h:KIn ks ks.length x):sz (ks++more) x=sz ks x:=xsg w a 7 x h
def Fit(ks:List Kn):Prop:=∀k∈ks,sz ks k.name<=30
theorem Fit.nil:Fit []:=λ_ h=>nomatch h
theorem Fit.snoc{ks:List Kn}{k:Kn}(w:KWf ks)(a:KWf (ks++[k]))(f:Fit ks)(c:∀p∈k.parts,KIn ks ks.length p.2)(e:inSz k (sz ks)<=29):Fit (ks++[k]):=by
 intro z hz;rcases zMA hz with hz |hz
 ·rw[xuz w a (KIn.of (.inr ⟨z,hz,rfl⟩))]
  exact f z hz
 ·rw[zMO hz,xwx a (i:=ks.length) (by simp),xh2 (g:=sz ks) λp b=>xuz w a (c p b)]
  omega
end M
end
section
end
section
end
section
namespace L2
open PySem PySem.Spec PyProof.Rows
section
variable {X:Cx}{pins:List (Addr×Obj)}{σ:St}{H:Hp}{s:Shared}{C:Addr}{Q:VK}{us:List Value}{vs:List V}{CX:CXT}{k:Nat}{f:Addr}{fd:FuncData}{ps:List Str}{sp:Sp}{E:XK}
theorem xl8{h:Heap}{o u:Obj}{b:Addr}(e:(h.push o).get? b=some u)(q:b≠h.objs.size):h.get? b=some u:=by
 rwa[Heap.get?_push_ne h b o q]at e
variable {x:Str}{p pos:Pos}{e:Expr}{es:List Expr}{t:TA}
variable {o value:Expr}{fl:Str}{pos':Pos}{ta tv:TE}
end
section
variable {X:Cx}{pins:List (Addr×Obj)}{σ:St}{H:Hp}{s:Shared}{h':Heap}
theorem Inv.turnedL{t':Nat}{fp:List Addr}(I:Inv X pins σ H s)(k:∀b o,b ∉fp->s.heap.get? b=some o->h'.get? b=some o)(hf:∀b∈fp,FpOk X pins H b):Inv X pins σ H {s with heap:=h',toks:=t'}:=by
 have nit:∀b u,H b=some u->b ∉fp:=λb u e z=>by rw[(hf b z).1]at e;cases e
 refine I.step (g':=s.gens) (d':=s.drawn) (ch:=fp) (λb hb=>?_) (λb o _ _ hc e _=>k b o hc e) (λb o _ _ hc e _=>⟨o.slots,k b o hc e⟩) (λ_ _ _ _ n=>n)
  (λb o hc e=>⟨o,k b o hc e⟩) (λ_ _ e=>e) (λ_ _ _ e=>e) (λb ps e=>⟨#[],by rw[e];simp⟩) (λm hm=>?_) (λb u e=>?_) I.bare
 ·obtain⟨f0,f1,f2,f3,f4,f5⟩:=hf b hb
  exact⟨f3,f1,f4,f5⟩
 ·obtain⟨o,es,ep,ho,r⟩:=hm
  exact⟨o,es,ep,k _ o (λz=>(hf _ z).2.1 rfl) ho,r⟩
 ·refine(I.hok b u e).stay (λc v hc q=>k c v ?_ q) (λ_ q=>q) λ_ _ q=>q
  rcases hc with z |z
  ·rw[z];exact nit b u e
  ·exact nit c _ z
end
open PySem.W in
def ad(K:Frag)(x:Str):Addr:=match nsIn K mainGlobals x with |some (some (.ref C))=>C |_=>0
theorem xwf{K:Fg}{x:Str}{C:Addr}(e:PySem.W.nsIn K mainGlobals x=some (some (.ref C))):ad K x=C:=by unfold ad;rw[e]
def xdk(s:Stmt)(j:Nat):Stmt:=match s with
 |.ClassDef _ _ _ b _ _ _ _ _ _ _=>b.getD j (.Pass ⟨0,0,0,0⟩)
 |_=>.Pass ⟨0,0,0,0⟩
end L2
end
section
namespace L2
open PySem PySem.Spec PyProof.Rows M
section
variable {X:Cx}
def xsl(K:Fg):R2:=λx y H Q=>∃a b xs ys,x=.ref a/\y=.ref b/\SqT K H a xs/\SqT K H b ys/\xs.length+ys.length<=sizeLine ∧
 (xs=[]->Q (.ref b) H)/\(xs≠[]->ys=[]->Q (.ref a) H)/\(xs≠[]->ys≠[]->∀p,H p=none->Q (.ref p) (upd H p (.tup (xs++ys))))
theorem xrg:OpR X (binaryOp .Add) (xsl X.K):=by
 intro c s σ H x y v u Q I r p h;obtain⟨a,b,xs,ys,rfl,rfl,G,C,hz,Y,U,O⟩:=h;by_cases f:xs=[]
 ·cases r
  cases p;obtain⟨its,M,p1,_⟩:=I.tuple G;obtain⟨e,r2,Z,_⟩:=I.tuple C;obtain⟨⟨cls,dd,data,sl⟩,w,z,n,hd⟩:=id p1;obtain⟨⟨J,m,o,l⟩,g,j,n2,i⟩:=id Z;simp only at z hd j i;subst z hd j i
  exact concat_meets ⟨_,w,rfl⟩ ⟨_,g,rfl⟩ noFill_tuple_add seq_tuple_add PySem.F.slot_tuple_add PySem.F.entry_tuple_add (PySem.F.args_tuple_add_2 _ _)
   (tuple_addW0 a b its.toArray e.toArray n n2 dd m sl l (by rw[M.nil_iff.mpr f];rfl)) ⟨w,g,⟨.ref b,H,I,rfl,Y f⟩⟩
 ·exact xtr c s σ H _ _ v u Q I r p ⟨a,b,xs,ys,rfl,rfl,G,C,f,hz,U f,O f⟩
end
section
variable {X:Cx}
theorem xvl:OpR X (compareOp .Is) (λx y H Q=>y=.bl true/\∃b,x=.bl b/\Q (.bl b) H):=by
 intro a s σ H x y v u Q I e c h;obtain⟨rfl,b,rfl,q⟩:=h;cases e;cases c;cases b <;> exact z3 (xb3 I q rfl)
end
end L2
end
section
namespace PySem
open Sem (wp)
section
variable {prog:Program}{w:World}{A:Around}{E:Value->Shared->Prop}{s:Shared}
theorem xfo {a:Addr} {xs:Array Value} {k:Nat} {sl:Array (Option Value)} {name:Str} {Q:Option Value->Shared->Prop}
  (hx:s.heap.get? a=some {cls:=.type "list",dict:=none,data:=.seq xs k,slots:=sl}) (hmiss:typeLookup (.type "list") name=pure none) (hname:(["__module__","__name__","__qualname__","__doc__","__annotations__"]:List Str).contains name=false) (hA:A.handled=none)
  (h:∀h' tk,(∀b o,s.heap.get? b=some o->h'.get? b=some o)->Q none {s with heap:=h',toks:=tk}) (hsz:name.length+100<=sizeLine) :
  wpAny (model prog w) A (getAttr? (.ref a) name) Q E s:=by
 obtain⟨hp,g,d,tk,os⟩:=s;have hT:∀tk',(⟨hp,g,d,tk',os⟩:Shared).TypeIs (.ref a) "list":=λ_=>⟨_,hx,rfl⟩;have f1:=sub_AttributeError;have f3:=F.slot_list_getattribute.lookup;have f4:=F.slot_list_getattribute.bind (.ref a);have f5:=am_list_getattr_none;unfold getAttr? getAttrBy? getAttrBy
 repeat (any_goals (first |assumption |exact hT _ |((with_reducible show wpAny _ _ (call (Value.builtin "list.__getattribute__") _ _) _ _ _);refine call_meets F.slot_list_getattribute (hT _) am_entry_list_getattribute (F.args_list_getattribute_2 _ _) (meets_getattribute_miss_list a xs k sl name _ hmiss hname hsz) ⟨hx,hA,λh' tk' e hx'=>?_⟩) |wp_step))
 obtain⟨t',u',he⟩:=hx'.there;show wpAny _ _ (getattributeRaised _ _ _ _ _ _ _) _ _ _;unfold getattributeRaised
 repeat (any_goals (first |assumption |wp_step))
 all_goals first |exact h _ _ hx'.keeps |skip
end
end PySem
namespace L2
open PySem PySem.Spec PyProof.Rows
theorem xdd:plainId "dict.update.loop"=true:=by walk_at"k"
theorem xe4:entryFor table "dict.update.loop"=some Builtin.«dict.update.loop»:=entryFor_of_fast (by kernel_rfl)
section
variable {prog:Program}{w:World}{A:Around}{K:Type}[DecidableEq K]{knd:KeyKind prog w K}
def PairsAt(knd:KeyKind prog w K)(h:Heap):List Value->List (K×Value)->Prop
 |[],[]=>True
 |it::its,p::ps=>(∃a key,it=.ref a/\h.IsTuple a #[key,p.2]/\knd.is p.1 key=true)/\PairsAt knd h its ps
 |_,_=>False
theorem PairsAt.keep{h h':Heap}:∀{its:List Value} {ps:List (K×Value)},PairsAt knd h its ps->(∀a xs,h.IsTuple a xs->h'.IsTuple a xs)->PairsAt knd h' its ps
 |[],[],_,_=>trivial
 |it::its,p::ps,⟨⟨a,b,e,f,c⟩,r⟩,k=>⟨⟨a,b,e,k _ _ f,c⟩,PairsAt.keep r k⟩
 |[],_::_,h,_=>h.elim
 |_::_,[],h,_=>h.elim
theorem xla{h:Heap}{a d:Addr}{xs:Array Value}{kvs:List (K×Value)}(g:h.IsTuple a xs)(hd:h.DictOf knd d kvs):a≠d:=λe=>by
 subst e;obtain⟨o,i,j,_⟩:=g;obtain⟨t,_,_,f,c,_⟩:=hd;have b:=c.1;have:o=t:=z8 (i.symm.trans f);subst this;rw[j]at b;exact absurd (Value.type.inj b) (by decide)
theorem xgk{h:Heap}{a I l:Addr}{i:Nat}{xs:Array Value}(f:h.IsTuple a xs)(hd:h.IsListIter I l i):a≠I:=λe=>by
 subst e;obtain⟨o,g,j,_⟩:=f;obtain⟨t,c,b,_⟩:=hd;have:o=t:=z8 (g.symm.trans c);subst this;rw[j]at b;exact absurd (Value.type.inj b) (by decide)
theorem xq3 {R:Result->Shared->Prop} {I l d:Addr} {its:List Value} {ps:List (K×Value)} (hh:A.in1.handled=none) (a0:l≠I) (a7:l≠d) (G:I≠d) :
    ∀(k i:Nat) (s:Shared) (f:List (K×Value)),its.length-i=k->i<=its.length->s.heap.IsListIter I l i->s.heap.IsList l its.toArray->s.heap.DictOf knd d f->PairsAt knd s.heap (its.drop i) (ps.drop i)->f.length+(its.length-i)<=sizeLine->
    (∀h' tk,h'.DictOf knd d (merged f (ps.drop i))->(∀b o,b≠d->b≠I->s.heap.get? b=some o->h'.get? b=some o)->R (.ok (.ret .none)) {s with heap:=h',toks:=tk})->
    codeAny (model prog w) A (.builtin "dict.update.loop" ⟨[.ref d,.ref I,rawInt i,.none],[]⟩) R s:=by
  intro k
  induction k with
  | zero=>
    intro i s f hk hi g hl hd j hsz hR;have C:i=its.length:=by omega
    have W:=Walks.list (prog:=prog) (w:=w) (A:=A.in1) hh I l a0 its.toArray;refine codeAny_builtin xe4 ?_;rw[Around.under_plainId xdd _];show wpAny _ A.in1 (pyNext (.ref I) >>= _) _ _ s
    refine wpAny_bind (W.done s _ _ (by have e:its.toArray.size = i := by simp[C]
                                        rw[e];exact⟨g,hl⟩) λh' tk c=>?_)
    show wpAny _ _ (Builtin.Dict.addKeywords d [] >>= _) _ _ _;refine zX (z3 (z3 ?_))
    have a5:ps.drop i=[]:=by
      rw[C,List.drop_length]at j;rw[C]
      cases hq:ps.drop its.length with
      |nil=>rfl
      |cons p r=>rw[hq]at j;exact j.elim
    refine hR h' tk ?_ λb o J n e=>c b o (by simpa using n) e;rw[a5];exact hd.at λo e=>c d o (by simpa using (Ne.symm G)) e
  | succ k ih=>
    intro i s f hk hi g hl hd j hsz hR;have m:i<its.length:=by omega
    have W:=Walks.list (prog:=prog) (w:=w) (A:=A.in1) hh I l a0 its.toArray;have a8:its.drop i=its[i]::its.drop (i+1):=List.drop_eq_getElem_cons m;rw[a8]at j
    obtain⟨p,r,z⟩:∃p r,ps.drop i=p::r:=by
      cases hq:ps.drop i with
      |nil=>rw[hq]at j;exact j.elim
      |cons p r=>exact⟨p,r,rfl⟩
    have Y:ps.drop (i+1)=r:=by rw[<- List.tail_drop,z];rfl
    rw[z]at j;obtain⟨⟨a,x,ea,U,a1⟩,y⟩:=j;refine codeAny_builtin xe4 ?_;rw[Around.under_plainId xdd _];show wpAny _ A.in1 (pyNext (.ref I) >>= _) _ _ s;refine zX (W.item i s _ _ (by simpa using m) ⟨g,hl⟩ λv h' tk hP u c=>?_)
    have hv:v=.ref a:=by
      have:its[i]?=some v:=by simpa using hP
      rw[zGA m,ea]at this;exact(z8 this).symm
    subst hv;have O:h'.IsTuple a #[x,p.2]:=U.at λo e=>c a o (by simpa using xgk U g) e;have a3:h'.DictOf knd d f:=hd.at λo e=>c d o (by simpa using (Ne.symm G)) e;obtain⟨oa,Z,ab,na,a9⟩:=id O;refine zX (qI (zX (wpAny_tryCatch ?_)));unfold Builtin.Dict.pairItems;refine zX (wpAny_typeOf ⟨oa,Z,ab⟩ ?_);rw[if_pos (by decide)];refine zX (wpAny_seqItems Z a9 (z3 ?_));show wpAny _ _ (holding [x,p.2] (dictSet d x p.2)) _ _ _;refine qI (wpAny_dictSet_pairs a1 a3 (λh2 aa h=>?_) (by omega));have M:h2.IsListIter I l (i+1)/\h2.IsList l its.toArray:=⟨u.1.at λo e=>(h.2 I G).trans e,u.2.at λo e=>(h.2 l a7).trans e⟩;refine z3 ⟨plainId_quiet xdd _,ih (i+1) _ _ (by omega) m M.1 M.2 aa ?_ ?_ λh3 a4 a2 a6=>?_⟩
    · rw[Y]
      exact y.keep λb xs J=>by
        have h1:h'.IsTuple b xs:=J.at λo e=>c b o (by simpa using xgk J g) e;exact h1.at λo e=>(h.2 b (xla h1 a3)).trans e
    · have:=stored_length_le f p.1 p.2
      omega
    · refine hR h3 a4 ?_ λb o J n e=>a6 b o J n ((h.2 b J).trans (c b o (by simpa using n) e))
      rw[z];rw[Y]at a2;exact a2
end
theorem xki:typeLookup (.type "list") "keys"=pure none:=am_miss_of_fast (by kernel_rfl)
section
variable {prog:Program}{w:World}{A:Around}{E:Value->Shared->Prop}{s:Shared}{K:Type}[DecidableEq K]{knd:KeyKind prog w K}
theorem xkv {l:Addr} {its:List Value} {n:Nat} {ps:List (K×Value)} {Q:Value->Shared->Prop} (hh:A.handled=none) (hl:s.heap.get? l=some {cls:=.type "list",data:=.seq its.toArray n}) (hp:PairsAt knd s.heap its ps) (hsz:its.length<=sizeLine)
  (h:∀h' tk,h'.DictOf knd s.heap.objs.size (merged [] ps)->(∀b o,s.heap.get? b=some o->h'.get? b=some o)->Q (.ref s.heap.objs.size) {s with heap:=h',toks:=tk}) :
  wpAny (model prog w) A (call (.type "dict") [.ref l]) Q E s:=by
 refine callType_codes (Q₁:=λobj s₁=>obj=.ref s.heap.objs.size/\s₁={s with heap:=s.heap.push {cls:=.type "dict",data:=.dict #[]}}) F.kt_called_dict (F.kt_typeCall_dict_1 _) F.entry_dict_init (kt_code_dict_new _ ⟨rfl,rfl⟩) ?_;rintro obj s₁ ⟨rfl,rfl⟩;have hnew:(s.heap.push {cls:=.type "dict",data:=.dict #[]}).DictOf knd s.heap.objs.size []:=Heap.DictOf.new s.heap;have ext0:∀b o,s.heap.get? b=some o->(s.heap.push {cls:=.type "dict",data:=.dict #[]}).get? b=some o:=λb o e=>zPO _ e;have hl0:=ext0 _ _ hl;have hT:(⟨s.heap.push {cls:=.type "dict",data:=.dict #[]},s.gens,s.drawn,s.toks,s.os⟩:Shared).TypeIs (.ref l) "list":=⟨_,hl0,rfl⟩;have hdl:l≠s.heap.objs.size:=λe=>absurd (z5 hl) (by rw[e];exact qE _);refine⟨hnew.typeIs,F.args_dict_init_2 _ _,?_⟩;unfold Builtin.«dict.__init__»;refine zX ?_;unfold Builtin.Dict.selfAndRest;refine zX (wpAny_notOrdered_dict hnew.typeIs ?_);show wpAny _ _ (pure (s.heap.objs.size,[Value.ref l])) _ _ _;refine z3 ?_;show wpAny _ _ (Builtin.Dict.updateFrom "dict.__init__" s.heap.objs.size (.ref l) [] .none) _ _ _;unfold Builtin.Dict.updateFrom;refine zX (wpAny_typeOf hT ?_);rw[if_pos (by decide)];refine zX (xfo (sl:=#[]) hl0 xki (by walk_at"k") hh (λh1 tk1 k1=>?_) (by walk_at"k"));rw[if_pos (show(none:Option Value).isNone=true from rfl)];refine zX (wpAny_rule ?_);have hl1:=k1 _ _ hl0;have hL1:h1.IsList l its.toArray:=⟨_,hl1,rfl,_,rfl⟩
 refine zX (wpAny_pyIter_list hL1 (z3 ⟨plainId_quiet xdd _,?_⟩));have hsz1:s.heap.objs.size<h1.objs.size:=z5 (k1 _ _ (z6 _ rfl));have hlI:l<h1.objs.size:=z5 hl1;have ext2:∀b o,h1.get? b=some o->(h1.push {cls:=.type "list_iterator",data:=.fields #[.ref l,.int 0 0]}).get? b=some o:=λb o e=>zPO _ e;refine xq3 (knd:=knd) (A:=A.in1) (ps:=ps) (l:=l) (d:=s.heap.objs.size) (its:=its) hh (z9 hlI) hdl (Nat.ne_of_gt hsz1) its.length 0 _ [] (Nat.sub_zero _) (qL _) ⟨_,z6 _ rfl,rfl,rfl⟩ (hL1.push _) (hnew.at λo e=>ext2 _ _ (k1 _ _ e)) (hp.keep λa xs ha=>ha.at λo e=>ext2 _ _ (k1 _ _ (ext0 _ _ e))) (by simpa using hsz) λh3 tk3 hd3 hk3=>?_;refine⟨rfl,h h3 tk3 hd3 λb o e=>hk3 b o ?_ ?_ (ext2 _ _ (k1 _ _ (ext0 _ _ e)))⟩
 ·exact λz=>absurd (z5 e) (by rw[z];exact qE _)
 ·exact λz=>absurd (z5 e) (by rw[z];exact Nat.not_lt_of_gt hsz1)
end
def PairsV(H:Hp):List V->List (Key×V)->Prop
 |[],[]=>True
 |y::ys,kv::kvs=>(∃b,y=.ref b/\H b=some (.tup [kV kv.1,kv.2]))/\PairsV H ys kvs
 |_,_=>False
theorem PairsV.same{H a:Hp}(s:∀b us,H b=some (.tup us)->a b=some (.tup us)):∀{ys:List V} {kvs:List (Key×V)},PairsV H ys kvs->PairsV a ys kvs
 |[],[],_=>trivial
 |y::ys,f::kvs,⟨⟨b,e,c⟩,r⟩=>⟨⟨b,e,s _ _ c⟩,PairsV.same s r⟩
 |[],_::_,h=>h.elim
 |_::_,[],h=>h.elim
theorem PairsV.append{H:Hp}:∀{ys zs:List V} {kvs more:List (Key×V)},PairsV H ys kvs->PairsV H zs more->PairsV H (ys++zs) (kvs++more)
 |[],zs,[],more,_,k=>k
 |y::ys,zs,a::kvs,more,⟨h,r⟩,k=>⟨h,PairsV.append r k⟩
 |[],_,_::_,_,h,_=>h.elim
 |_::_,_,[],_,h,_=>h.elim
theorem PairsV.length{H:Hp}:∀{ys:List V} {kvs:List (Key×V)},PairsV H ys kvs->ys.length=kvs.length
 |[],[],_=>rfl
 |y::ys,a::kvs,⟨_,r⟩=>by rw[List.length_cons,List.length_cons,PairsV.length r]
 |[],_::_,h=>h.elim
 |_::_,[],h=>h.elim
section
variable {X:Cx}
theorem xm6{a:List (Addr×Obj)}{σ:St}{H:Hp}{s:Shared}(I:Inv X a σ H s):∀{ys:List V} {its:List Value} {kvs:List (Key×V)},Vals ys its->PairsV H ys kvs->∃ps,KV kvs ps/\PairsAt (xca X.prog X.w) s.heap its ps
 |[],_,[],r,_=>by cases r;exact⟨[],.nil,trivial⟩
 | y::ys,_,j::kvs,r,⟨⟨b,o,n⟩,rest⟩=>by
  subst o
  cases r with
  |cons h t=>
   obtain⟨ps,m,l⟩:=xm6 I t rest;obtain⟨c,g,i,_⟩:=I.tuple (zB (K:=X.K) n);obtain⟨f,e,rfl,u,p⟩:=g.two;exact⟨(j.1,e)::ps,.cons ⟨rfl,p⟩ m,⟨b,f,h,i,xqd u⟩,l⟩
 |[],_,_::_,_,h=>h.elim
 |_::_,_,[],_,h=>h.elim
theorem xco(hc:X.calm=true):xe2 X (.type "dict") (λxs H Q=>∃a ys,∃kvs:List (Key×V),xs=[.ref a]/\H a=some (.lst ys)/\PairsV H ys kvs/\∀p,H p=none->Q (.ref p) (upd H p (.dK (xc2 [] kvs)))):=by
 intro pins s σ H xs us Q I r h;obtain⟨a,ys,kvs,rfl,ha,hp,q⟩:=h;obtain⟨u,rfl,ru⟩:=xhg r;obtain rfl:u=.ref a:=ru;obtain⟨hz,its,n,rv,hl⟩:=(show ObjOk X.prog X.w H s.heap a (.lst ys) from I.hok a _ ha);obtain⟨ps,hk,hpa⟩:=xm6 I rv hp;have hyl:=hp.length;refine xkv (knd:=xca X.prog X.w) (I.ok.hd hc) hl hpa (by rw[<- rv.length];exact hz) λh' tk dd' k'=>?_
 have hz':(xc2 [] kvs).length<=sizeLine:=by
  have:=xd9 kvs [];rw[List.length_nil]at this;omega
 exact⟨.ref s.heap.objs.size,_,I.laid (a:=s.heap.objs.size) (o:=.dK (xc2 [] kvs)) (t':=tk) k' (zZ _) (xku hz' (beq_eq_false_iff_ne.mpr (Ne.symm (z9 I.big))) (hk.merge .nil) dd'),rfl,q _ (I.hok.fresh (zZ _))⟩
end
end L2
end
section
namespace L2
open PySem PySem.Spec PySem.W PyProof.Rows M
theorem KV.get2{κ:Type}{kvs:List (κ×V)}{vs:List (κ×Value)}(r:KV kvs vs){i:Nat}{q:κ×Value}(a:vs[i]?=some q):∃v,kvs[i]?=some (q.1,v)/\RelV v q.2:=by
 unfold KV at r
 induction r generalizing i with
 |nil=>simp at a
 | @cons p c as bs h t b=>
  cases i with
  |zero=>
   simp at a;subst a;exact⟨p.2,by simp[<- h.1],h.2⟩
  |succ i=>exact b (by simpa using a)
end L2
end
section
namespace M
open PySem L2
inductive Vk(ks:List Kn):Str->D->Prop
 |num (i:Int) (h:Nm i):Vk ks (S "num") (.int i)
 |rc {x:Str} {k:Kn} {ws:List D} (hk:kAt ks x=some k) (hr:k.rc=true) (hl:ws.length=k.parts.length) (h:∀(i:Nat) (w:D) (p:Str×Str),ws[i]?=some w->k.parts[i]?=some p->Vk ks p.2 w):Vk ks x (.tup [.str x,.tup ws])
 |al {x:Str} {k:Kn} {p:Str×Str} {w:D} (hk:kAt ks x=some k) (hr:k.rc=false) (hp:p∈k.parts) (h:Vk ks p.2 w):Vk ks x (.tup [.str x,.str p.1,w])
theorem xhv{ks:List Kn}(b:KWf ks){x:Str}{v:D}(c:x=S "num")(h:Vk ks x v):∃i,Nm i/\v=.int i:=by
 cases h with
 |num i hi=>exact⟨i,hi,rfl⟩
 |rc a=>rw[c,b.num]at a;cases a
 |al a=>rw[c,b.num]at a;cases a
theorem xsc{ks:List Kn}(e:KWf ks){x:Str}{k:Kn}{v:D}(c:kAt ks x=some k)(f:k.rc=true)(h:Vk ks x v):∃ws,ws.length=k.parts.length/\(∀(i:Nat) w p,ws[i]?=some w->k.parts[i]?=some p->Vk ks p.2 w)/\v=.tup [.str x,.tup ws]:=by
 cases h with
 |num i hi=>rw[e.num]at c;cases c
 |rc b a g h=>
  rw[c]at b;cases b;exact⟨_,g,h,rfl⟩
 |al b a=>
  rw[c]at b;cases b;rw[f]at a;cases a
theorem xsd{ks:List Kn}(e:KWf ks){x:Str}{k:Kn}{v:D}(c:kAt ks x=some k)(f:k.rc=false)(h:Vk ks x v):∃p∈k.parts,∃w,Vk ks p.2 w/\v=.tup [.str x,.str p.1,w]:=by
 cases h with
 |num i hi=>rw[e.num]at c;cases c
 |rc b a=>
  rw[c]at b;cases b;rw[f]at a;cases a
 |@al _ _ p w b a g h=>
  rw[c]at b;cases b;exact⟨p,g,w,h,rfl⟩
theorem xk9{ks:List Kn}(a:KWf ks):∀(m:Nat) (x:Str) (v:D),KIn ks m x->Vk ks x v->v.deep<=2*m
 | 0,x,v,b,h=>by
  rcases b.look a with⟨e,_⟩ |⟨j,k,e,_⟩
  ·obtain⟨i,_,rfl⟩:=xhv a e h
   exact qL _
  ·cases e
 | m + 1,x,v,b,h=>by
  rcases b.look a with⟨e,_⟩ |⟨j,k,e,c,hn,r,n⟩
  ·obtain⟨i,_,rfl⟩:=xhv a e h
   exact qL _
  ·cases e
   cases o:k.rc with
   | true=>
    obtain⟨ws,s,g,rfl⟩:=xsc a c o h
    have:xhd ws<=2*m:=xeb λd hd=>by
     obtain⟨i,hi,e⟩:=zMI hd;have f:i<k.parts.length:=by omega
     exact xk9 a m _ d (n _ (qM f)) (g i d k.parts[i] (by rw[<- e];exact zGA hi) (zGA f))
    show max 0 (max (xhd ws+1) 0)+1<=2*(m+1);omega
   |false=>
    obtain⟨p,l,w,g,rfl⟩:=xsd a c o h;have:=xk9 a m _ w (n p l) g;show max 0 (max 0 (max w.deep 0))+1<=2*(m+1);omega
def FitB(ks:List Kn)(bs:List (Str×Str))(env:En):Prop:=∀p∈bs,∃v,env p.1=some v/\Vk ks p.2 v
theorem FitB.put{ks:List Kn}{bs:List (Str×Str)}{env:En}{y k:Str}{v:D}(h:FitB ks bs env)(c:∀p∈bs,p.1≠y)(e:Vk ks k v):FitB ks (bs++[(y,k)]) (env.put y v):=λp a=>by
 unfold En.put;rcases zMA a with a |a
 ·obtain⟨b,g,f⟩:=h p a
  exact⟨b,by rw[if_neg (c p a)];exact g,f⟩
 ·rw[zMO a]
  exact⟨v,by rw[if_pos rfl],e⟩
def Sg(s:Str):Prop:=s=S "+"\/s=S "-"\/s=S "*"\/s=S "<"\/s=S "="
def SgD(d:D):Prop:=∀s a b,d=tOpD s a b->Sg s
def Evs(ks:List Kn):Nat->En->D->D->Prop
 |0=>xe6
 |n+1=>λenv d v=>xe6 env d v\/(NodeEv ks (Evs ks n) env d v/\SgD d)
theorem All2.imp3{α β:Type}{R c:α->β->Prop}(k:∀a b,R a b->c a b):∀{as:List α} {bs:List β},All2 R as bs->All2 c as bs
 |_,_,.nil=>.nil
 |_,_,.cons h t=>.cons (k _ _ h) (All2.imp3 k t)
theorem NodeEv.mono{ks:List Kn}{R n:En->D->D->Prop}(k:∀env d v,R env d v->n env d v){env:En}{d v:D}(h:NodeEv ks R env d v):NodeEv ks n env d v:=by
 rcases h with⟨s,a,b,x,y,g,l,r⟩ |⟨j,es,vs,m,g,r⟩ |⟨a,j,vs,f,o,i,g,r⟩ |⟨j,t,a,x,g,r⟩ |⟨a,rs,j,t,x,y,e,m,g,p,l,r⟩ |⟨a,b,c,x,g,l,r⟩
 ·exact .inl ⟨s,a,b,x,y,k _ _ _ g,k _ _ _ l,r⟩
 ·exact .inr (.inl ⟨j,es,vs,m,g.imp3 (k env),r⟩)
 ·exact .inr (.inr (.inl ⟨a,j,vs,f,o,i,k _ _ _ g,r⟩))
 ·exact .inr (.inr (.inr (.inl ⟨j,t,a,x,k _ _ _ g,r⟩)))
 ·exact .inr (.inr (.inr (.inr (.inl ⟨a,rs,j,t,x,y,e,m,k _ _ _ g,p,k _ _ _ l,r⟩))))
 ·exact .inr (.inr (.inr (.inr (.inr ⟨a,b,c,x,k _ _ _ g,k _ _ _ l,r⟩))))
theorem xnl{ks:List Kn}:∀(n:Nat) (env:En) (d v:D),Evs ks n env d v->Ev ks n env d v
 |0,_,_,_,h=>h
 |n+1,env,d,v,h=>by
  rcases h with h |⟨h,_⟩
  ·exact .inl h
  ·exact .inr (h.mono (xnl n))
theorem xn5{h:Str}{r:List D}(c:h≠S "op"):SgD (.tup (.str h::r)):=λs a b e=>by
 have g:=D.tup.inj e;have f:=(zS g).1;exact absurd (D.str.inj f) c
theorem xwz{s:Str}{a b:D}(h:Sg s):SgD (tOpD s a b):=λs' i g e=>by
 have f:=D.tup.inj e;have c:=(zS (zS f).2).1;rw[<- D.str.inj c];exact h
def TmOk(ks:List Kn)(n:Nat)(bs:List (Str×Str))(d:D)(x:Str):Prop:=∀env,FitB ks bs env->∃v,Evs ks n env d v/\Vk ks x v
theorem xql{ks:List Kn}{n:Nat}{env:En}{d v:D}(h:xe6 env d v):Evs ks n env d v:=by
 cases n with
 |zero=>exact h
 |succ n=>exact .inl h
theorem xum{ks:List Kn}{n:Nat}{bs:List (Str×Str)}{i:Int}(h:Nm i):TmOk ks n bs (tNum i) (S "num"):=λenv _=>⟨.int i,xql (.inl ⟨i,rfl,rfl⟩),.num i h⟩
theorem xuo{ks:List Kn}{n:Nat}{bs:List (Str×Str)}{y x:Str}(h:(y,x)∈bs):TmOk ks n bs (tBox y) x:=λenv a=>by
 obtain⟨v,c,b⟩:=a _ h;exact⟨v,xql (.inr ⟨y,c,rfl⟩),b⟩
theorem xwk{ks:List Kn}(c:KWf ks){n:Nat}{bs:List (Str×Str)}{s:Str}{a b:D}(hs:Sg s)(m:TmOk ks n bs a (S "num"))(l:TmOk ks n bs b (S "num")):TmOk ks (n+1) bs (tOpD s a b) (S "num"):=λenv e=>by
 obtain⟨u,p,g⟩:=m env e;obtain⟨v,o,f⟩:=l env e;obtain⟨i,hi,rfl⟩:=xhv c rfl g;obtain⟨j,h,rfl⟩:=xhv c rfl f;exact⟨_,.inr ⟨.inl ⟨s,a,b,i,j,p,o,hi,h,rfl,rfl⟩,xwz hs⟩,.num _ (xvr s i j)⟩
theorem xon{ks:List Kn}{n:Nat}{bs:List (Str×Str)}{env:En}(c:FitB ks bs env):∀{es:List D} {ps:List (Str×Str)},All2 (λe (p:Str×Str)=>TmOk ks n bs e p.2) es ps->∃vs,All2 (Evs ks n env) es vs/\vs.length=ps.length/\∀(i:Nat) w p,vs[i]?=some w->ps[i]?=some p->Vk ks p.2 w
 |_,_,.nil=>⟨[],.nil,rfl,λi w p h=>by simp at h⟩
 | _,_,.cons h t=>by
  obtain⟨v,m,l⟩:=h env c;obtain⟨vs,j,g,f⟩:=xon c t;refine⟨v::vs,.cons m j,by rw[List.length_cons,List.length_cons,g],λi w p a b=>?_⟩
  cases i with
  |zero=>
   simp at a b;subst a b;exact l
  |succ i=>exact f i w p (by simpa using a) (by simpa using b)
theorem xul{ks:List Kn}{n:Nat}{bs:List (Str×Str)}{x:Str}{k:Kn}{es:List D}(c:kAt ks x=some k)(a:k.rc=true)(b:k.parts.length<=1000)(h:All2 (λe (p:Str×Str)=>TmOk ks n bs e p.2) es k.parts):TmOk ks (n+1) bs (tRec x es) x:=λenv f=>by
 obtain⟨vs,j,i,g⟩:=xon f h;exact⟨_,.inr ⟨.inr (.inl ⟨x,es,vs,by rw[h.length];exact b,j,rfl,rfl⟩),xn5 (by walk_at"k")⟩,.rc c a i g⟩
theorem xkr{f:Str}:∀{l:List Str} {i:Nat},l.Nodup->l[i]?=some f->l.findIdx? (λz=>decide (z=f))=some i
 |[],i,_,h=>by simp at h
 |y::l,0,_,h=>by
  simp at h;subst h;simp[List.findIdx?_cons]
 |y::l,i+1,nd,h=>by
  have b:f∈l:=zMG (by simpa using h);have a:¬y=f:=λe=>by subst e;exact(List.nodup_cons.mp nd).1 b
  rw[List.findIdx?_cons,zDF a];have:=xkr (l:=l) (i:=i) (List.nodup_cons.mp nd).2 (by simpa using h);simp[this]
theorem xun{ks:List Kn}(f:KWf ks){n:Nat}{bs:List (Str×Str)}{y:Str}{k:Kn}{a:D}{p:Str×Str}(c:kAt ks y=some k)(l:k.rc=true)(m:p∈k.parts)(h:TmOk ks n bs a y):TmOk ks (n+1) bs (tGet a p.1) p.2:=λenv r=>by
 obtain⟨v,u,s⟩:=h env r;obtain⟨ws,w,j,rfl⟩:=xsc f c l s;obtain⟨i,hi,e⟩:=zMI m;have b:i<ws.length:=by omega
 have o:=zMF c;have g:k.parts[i]?=some p:=by rw[<- e];exact zGA hi
 exact⟨ws[i],.inr ⟨.inr (.inr (.inl ⟨a,y,ws,p.1,k,i,u,c,xkr (f.pnd k o) (by rw[zGM,g];rfl),zGA b,rfl⟩)),xn5 (by walk_at"k")⟩,j i _ p (zGA b) g⟩
theorem xuk{ks:List Kn}{n:Nat}{bs:List (Str×Str)}{x:Str}{k:Kn}{a:D}{p:Str×Str}(e:kAt ks x=some k)(b:k.rc=false)(c:p∈k.parts)(h:TmOk ks n bs a p.2):TmOk ks (n+1) bs (tTag x p.1 a) x:=λenv f=>by
 obtain⟨v,i,g⟩:=h env f;exact⟨_,.inr ⟨.inr (.inr (.inr (.inl ⟨x,p.1,a,v,i,rfl,rfl⟩))),xn5 (by walk_at"k")⟩,.al e b c g⟩
theorem xs6 {ks:List Kn} (c:KWf ks) {n:Nat} {bs:List (Str×Str)} {x y:Str} {k:Kn} {a:D} {rs:List (Str×Str×D)} (u:kAt ks y=some k) (l:k.rc=false) (G:TmOk ks n bs a y) (s:rs.length<=1000) (nd:(rs.map (·.1)).Nodup)
  (h:∀p∈k.parts,∃z e,(p.1,z,e)∈rs/\(∀q∈bs,q.1≠z)/\TmOk ks n (bs++[(z,p.2)]) e x):TmOk ks (n+1) bs (xnw a rs) x:=λenv b=>by
 obtain⟨v,O,M⟩:=G env b;obtain⟨p,m,w,j,rfl⟩:=xsd c u l M;obtain⟨z,e,o,hz,C⟩:=h p m;obtain⟨g,J,I⟩:=C _ (b.put hz j);obtain⟨i,hi,U⟩:=zMI o;have:=xey (f:=λr:Str×Str×D=>r.1) (xs:=rs) (i:=i) (a:=(p.1,z,e)) nd (by rw[<- U];exact zGA hi);exact⟨g,.inr ⟨.inr (.inr (.inr (.inr (.inl ⟨a,rs,y,p.1,w,z,e,s,O,this,J,rfl⟩)))),xn5 (by walk_at"k")⟩,I⟩
theorem xwl{ks:List Kn}(j:KWf ks){n:Nat}{bs:List (Str×Str)}{x:Str}{a b c:D}(p:TmOk ks n bs a (S "num"))(o:TmOk ks n bs b x)(m:TmOk ks n bs c x):TmOk ks (n+1) bs (tIfD a b c) x:=λenv f=>by
 obtain⟨u,h,l⟩:=p env f;obtain⟨i,hi,rfl⟩:=xhv j rfl l;by_cases h0:i=0
 ·obtain⟨v,g,e⟩:=m env f
  exact⟨v,.inr ⟨.inr (.inr (.inr (.inr (.inr ⟨a,b,c,i,h,by rw[if_pos h0];exact g,rfl⟩)))),xn5 (by walk_at"k")⟩,e⟩
 ·obtain⟨v,g,e⟩:=o env f
  exact⟨v,.inr ⟨.inr (.inr (.inr (.inr (.inr ⟨a,b,c,i,h,by rw[if_neg h0];exact g,rfl⟩)))),xn5 (by walk_at"k")⟩,e⟩
def smS(f:Str->Int)(k:Kn):Int:=if k.rc=true then (k.parts.map λp=>f p.2).sum else match k.parts with |[]=>0 |p::_=>f p.2
def hiS(f:Str->Int)(k:Kn):Int:=if k.rc=true then maxD (k.parts.map λp=>f p.2) else match k.parts with |[]=>0 |p::_=>f p.2
theorem xjn{f g:Str->Int}{k:Kn}(h:∀p∈k.parts,f p.2=g p.2):smS f k=smS g k:=by
 unfold smS;rw[List.map_congr_left h]
 cases a:k.parts with
 |nil=>rfl
 |cons p r=>
  show(if k.rc=true then _ else f p.2)=(if k.rc=true then _ else g p.2);rw[h p (by rw[a];simp)]
theorem xks{f g:Str->Int}{k:Kn}(h:∀p∈k.parts,f p.2=g p.2):hiS f k=hiS g k:=by
 unfold hiS;rw[List.map_congr_left h]
 cases a:k.parts with
 |nil=>rfl
 |cons p r=>
  show(if k.rc=true then _ else f p.2)=(if k.rc=true then _ else g p.2);rw[h p (by rw[a];simp)]
def smF:Nat->List Kn->Str->Int
 |0,_,_=>1
 |n+1,ks,x=>match kAt ks x with
  |none=>1
  |some k=>1+smS (smF n ks) k
def hiF:Nat->List Kn->Str->Int
 |0,_,_=>1
 |n+1,ks,x=>match kAt ks x with
  |none=>1
  |some k=>1+hiS (hiF n ks) k
theorem xeq{n:Nat}{ks:List Kn}{x:Str}(h:kAt ks x=none):smF (n+1) ks x=1:=by unfold smF;rw[h]
theorem xgc{n:Nat}{ks:List Kn}{x:Str}{k:Kn}(h:kAt ks x=some k):smF (n+1) ks x=1+smS (smF n ks) k:=by
 show(match kAt ks x with |none=>1 |some k=>1+smS (smF n ks) k)=_;rw[h]
theorem xex{n:Nat}{ks:List Kn}{x:Str}(h:kAt ks x=none):hiF (n+1) ks x=1:=by unfold hiF;rw[h]
theorem xgg{n:Nat}{ks:List Kn}{x:Str}{k:Kn}(h:kAt ks x=some k):hiF (n+1) ks x=1+hiS (hiF n ks) k:=by
 show(match kAt ks x with |none=>1 |some k=>1+hiS (hiF n ks) k)=_;rw[h]
theorem xu5{ks:List Kn}(f:KWf ks):∀(m:Nat) (x:Str),KIn ks m x->smF (m+2) ks x=smF (m+1) ks x/\hiF (m+2) ks x=hiF (m+1) ks x:=by
 intro m
 induction m with
 |zero=>
  intro x h;rcases h.look f with⟨_,e⟩ |⟨j,k,c,_⟩
  ·exact⟨(xeq e).trans (xeq e).symm,(xex e).trans (xex e).symm⟩
  ·cases c
 | succ m g=>
  intro x h;rcases h.look f with⟨_,e⟩ |⟨j,k,c,b,hn,l,i⟩
  ·exact⟨(xeq e).trans (xeq e).symm,(xex e).trans (xex e).symm⟩
  ·cases c
   rw[xgc b,xgc b,xgg b,xgg b,xjn λp a=>(g p.2 (i p a)).1,xks λp a=>(g p.2 (i p a)).2];exact⟨rfl,rfl⟩
def smK(ks:List Kn)(x:Str):Int:=smF 7 ks x
def hiK(ks:List Kn)(x:Str):Int:=hiF 7 ks x
theorem xu3{ks:List Kn}(b:KWf ks){m:Nat}{x:Str}(h:KIn ks m x)(c:m<=6):smF (m+1) ks x=smK ks x/\hiF (m+1) ks x=hiK ks x:=by
 have:∀k,smF (m+k+1) ks x=smF (m+1) ks x/\hiF (m+k+1) ks x=hiF (m+1) ks x:=λk=>by
  induction k with
  |zero=>exact⟨rfl,rfl⟩
  |succ k a=>
   have u:=xu5 b (m+k) x (h.mono (by omega));exact⟨u.1.trans a.1,u.2.trans a.2⟩
 have u:=this (6-m);rw[show m+(6-m)+1=7 by omega]at u;exact⟨u.1.symm,u.2.symm⟩
theorem xo2{ks:List Kn}(a:KWf ks):smK ks (S "num")=1/\hiK ks (S "num")=1:=⟨xeq a.num,xex a.num⟩
theorem xu4{ks:List Kn}(wf:KWf ks){x:Str}{k:Kn}(hk:kAt ks x=some k):smK ks x=1+smS (smK ks) k/\hiK ks x=1+hiS (hiK ks) k:=by
 have hm:=zMF hk
 have hx:k.name=x:=by
  have:=zU hk;exact z0 this
 have hin:KIn ks 6 x:=(KIn.of (.inr ⟨k,hm,hx⟩)).mono wf.few;rcases hin.look wf with⟨_,e⟩ |⟨j,k',e0,hk',hn,hm',hp⟩
 ·rw[e]at hk;cases hk
 ·cases e0
  rw[hk]at hk';cases hk';exact⟨(xgc (n:=6) hk).trans (congrArg (λz=>1+z) (xjn λp hp'=>(xu3 wf (hp p hp') (by omega)).1)),(xgg (n:=6) hk).trans (congrArg (λz=>1+z) (xks λp hp'=>(xu3 wf (hp p hp') (by omega)).2))⟩
theorem xjo{ks:List Kn}(g:∀k∈ks,k.parts.length<=5):∀(n:Nat) (x:Str),(1<=smF n ks x/\smF n ks x<=6 ^ n)/\(1<=hiF n ks x/\hiF n ks x<=n+1)
 |0,x=>⟨⟨Int.le_refl _,Int.le_refl _⟩,⟨Int.le_refl _,Int.le_refl _⟩⟩
 | n + 1,x=>by
  have o:(1:Int)<=6 ^ n:=Int.pow_pos (by decide);have m:(6:Int) ^ (n+1)=6*6 ^ n:=by rw[Int.pow_succ,Int.mul_comm]
  cases b:kAt ks x with
  |none=>
   rw[xeq b,xex b];exact⟨⟨Int.le_refl _,by rw[m];omega⟩,Int.le_refl _,by push_cast;omega⟩
  | some k=>
   rw[xgc b,xgg b];have j:=g k (zMF b);have f:=λy=>xjo g n y
   have hs:∀(l:List (Str×Str)),0<=(l.map λp=>smF n ks p.2).sum/\(l.map λp=>smF n ks p.2).sum<=l.length*6 ^ n:=by
    intro l
    induction l with
    |nil=>simp
    |cons a r c=>
     have h:=(f a.2).1;rw[List.map_cons,List.sum_cons,List.length_cons];push_cast;rw[Int.add_mul];omega
   have i:∀(l:List (Str×Str)),0<=maxD (l.map λp=>hiF n ks p.2)/\maxD (l.map λp=>hiF n ks p.2)<=n+1:=by
    intro l
    induction l with
    |nil=>show 0<=(0:Int)/\(0:Int)<=n+1;omega
    |cons a r c=>
     have h:=(f a.2).2;have e:maxD ((a::r).map λp=>hiF n ks p.2)=max (hiF n ks a.2) (maxD (r.map λp=>hiF n ks p.2)):=rfl;rw[e];omega
   have h:=hs k.parts;have w:(k.parts.length:Int)*6 ^ n<=5*6 ^ n:=Int.mul_le_mul_of_nonneg_right (by omega) (by omega);have u:=i k.parts;unfold smS hiS;push_cast
   cases k.rc with
   |true=>
    rw[if_pos rfl,if_pos rfl];refine⟨⟨?_,?_⟩,?_,?_⟩ <;> omega
   | false=>
    rw[if_neg (by decide),if_neg (by decide)]
    cases k.parts with
    |nil=>
     refine⟨⟨?_,?_⟩,?_,?_⟩ <;> dsimp only <;> omega
    |cons p r=>
     have s:=f p.2;refine⟨⟨?_,?_⟩,?_,?_⟩ <;> dsimp only <;> omega
theorem xmx{ks:List Kn}(a:KWf ks)(x:Str):1<=smK ks x/\smK ks x<=279936/\1<=hiK ks x/\hiK ks x<=8:=by
 have:=xjo a.pts 7 x;have e:(6:Int) ^ 7=279936:=by decide
 unfold smK hiK;omega
end M
end
section
namespace L2
open PySem PySem.Spec PyProof.Rows M
section
variable {X:Cx}
def rEqE(K:Fg):R2:=λx y H Q=>∃a b xs,x=.ref a/\y=.ref b/\SqL K H a xs/\SqL K H b []/\Q (.bl xs.isEmpty) H
theorem xvq(m:X.A.units<cLine):OpR X (compareOp .Eq) (rEqE X.K):=by
 intro f s σ H x y v u Q I o n h;obtain⟨a,b,xs,rfl,rfl,C,z,q⟩:=h;cases o;cases n;obtain⟨its,r,i,_⟩:=I.list C;obtain⟨l,p,g,_⟩:=I.list z;have c:=r.length;have w:=p.length
 cases xs with
 | nil=>
  refine SeqAt.eq_listAt (e:=λ_=>true) i.isList g.isList (by simp only[List.size_toArray];omega) m (λj G J=>?_) ⟨.bl _,H,I,rfl,?_⟩
  ·simp only[List.size_toArray]at G
   simp at c;omega
  ·have:its=[]:=List.eq_nil_of_length_eq_zero (by simpa using c.symm)
   subst this;exact q
 |cons x xs=>
  refine PySem.EqBoolInt.of_rc (SeqAt.RcAt.lists_lengths i.isList g.isList (by simp only[List.size_toArray];simp at c w⊢;omega) m) ⟨.bl _,H,I,rfl,?_⟩;simpa using q
end
end L2
end
section
end
section
end
section
end
section
end
section
end
section
end
section
end
section
end
section
namespace M
open PySem L2
def byN(j:Nat):Str:=ofL [98,121,97+j]
theorem xug{i j:Nat}(h:byN i=byN j):i=j:=by
 have:=congrArg L h;unfold byN at this;rw[xen,xen]at this;simp at this;exact this
def NoBy(x:Str):Prop:=∀j:Nat,x≠byN j
theorem xw8{l:List Nat}(h:l[0]?≠some 98\/l[1]?≠some 121):NoBy (ofL l):=λj e=>by
 have:=congrArg L e;unfold byN at this;rw[xen,xen]at this;subst this;simp at h
theorem xma{c:Nat}(h:c∈five):c≠98/\c≠121:=by
 revert h;unfold five;simp;omega
theorem xsr{cs:List Nat}(h:∀c∈cs,c∈five)(a:Nat)(b:Int)(k:Nat)(t:List Nat)(i:∀c∈t,c∈five):NoBy (ofL (nmA cs a b k++t)):=by
 apply xw8;unfold nmA
 cases g:cs.take a with
 |nil=>
  right;rw[List.nil_append,List.cons_append,List.getElem?_cons_succ];intro e;have f:=zMG e;rcases zMA f with f |f
  ·exact(xma (h _ (List.mem_of_mem_drop f))).2 rfl
  ·exact(xma (i _ f)).2 rfl
 |cons c r=>
  left;intro e;simp at e;have:c∈cs.take a:=by rw[g];simp
  exact(xma (h c (qK this))).1 e
theorem xtz{cs:List Nat}{a:Nat}{b:Int}(e:∀c∈cs,c∈five):∀z∈((List.range 26).map λk=>ofL (nmA cs a b k)),NoBy z:=λz hz=>by
 obtain⟨k,_,rfl⟩:=zMP hz;have:=xsr e a b k [] (λ_ h=>nomatch h);rw[List.append_nil]at this;exact this
theorem xtx{cs:List Nat}{a:Nat}{b:Int}(f:∀c∈cs,c∈five):∀z∈((List.range 26).map λk=>ofL (nmB cs a b k)),NoBy z:=λz hz=>by
 obtain⟨k,_,rfl⟩:=zMP hz;unfold nmB;exact xsr f a b _ _ λc e=>by rw[List.eq_of_mem_replicate e];decide
theorem xr5{i:Nat}(h:i<8):atI (S "abcdefgh").cps.toList (i:Int)=some (97+i):=by
 have all:∀k,k<8->(S "abcdefgh").cps.toList[k]?=some (97+k):=by walk_at"k"
 exact xam (all i h)
theorem xsb(i:Nat):S "by"++(⟨#[97+i]⟩:Str)=byN i:=by
 apply xq2;rw[xe0,show L (S "by")=[98,121] by walk_at"k"];rfl
def BxAt(H:Hp)(f:Addr)(bv:V)(bs:List (Str×Str)):Prop:=∃bl us,bv=.ref bl/\H bl=some (.lst us)/\RelDs H us (bs.map xmd)/\bl≠f
def xxk(bs:List (Str×Str))(m:Nat):Prop:=∀b∈bs,∀j,j<m->b.1≠byN j
def PNB(ks:List Kn):Prop:=∀k∈ks,∀p∈k.parts,NoBy p.1
structure TIn(H:Hp)(f:Addr)(kv bv:V)(ks:List Kn)(bs:List (Str×Str))(m:Nat):Prop where
 fd:∃p q:Int,H f=some (.lst [.int p,.int q])
 kd:RelD H kv (xef ks)
 wf:KWf ks
 nb:PNB ks
 bx:BxAt H f bv bs
 nd:(bs.map (·.1)).Nodup
 bl:bs.length+m<=30
 fr:xxk bs m
 kn:∀b∈bs,KIn ks 6 b.2
theorem TIn.same{H c:Hp}{f:Addr}{a b:V}{ks:List Kn}{bs:List (Str×Str)}{m:Nat}(h:TIn H f a b ks bs m)(s:Same H c):TIn c f a b ks bs m:=by
 obtain⟨p,q,i⟩:=h.fd;obtain⟨l,us,e,j,g,n⟩:=h.bx;exact⟨⟨p,q,s _ _ i⟩,h.kd.same s _,h.wf,h.nb,⟨l,us,e,s _ _ j,g.same s _,n⟩,h.nd,h.bl,h.fr,h.kn⟩
theorem TIn.fed{H c:Hp}{f:Addr}{a b:V}{ks:List Kn}{bs:List (Str×Str)}{m:Nat}(h:TIn H f a b ks bs m)(s:Fed f H c):TIn c f a b ks bs m:=by
 obtain⟨j,us,e,i,g,n⟩:=h.bx;exact⟨s.2,h.kd.tups (xai h.fd s) _,h.wf,h.nb,⟨j,us,e,s.1 _ _ i n,g.tups (xai h.fd s) _,n⟩,h.nd,h.bl,h.fr,h.kn⟩
theorem TIn.down{H:Hp}{f:Addr}{c e:V}{ks:List Kn}{bs:List (Str×Str)}{m a:Nat}(h:TIn H f c e ks bs m)(l:a<=m):TIn H f c e ks bs a:=
 ⟨h.fd,h.kd,h.wf,h.nb,h.bx,h.nd,by have:=h.bl;omega,λb g j i=>h.fr b g j (by omega),h.kn⟩
end M
end
section
set_option maxHeartbeats 400000
end
section
namespace L2
open PySem PySem.Spec PyProof.Rows M
section
variable {X:Cx}{K:Fg}
theorem xas{b:Expr}(e:X.K=K){l:Expr}{a:TE}(c:PE X l a):PI X b l (iTup K a):=by subst e;exact xvd c
theorem xbv{b:Expr}(e:X.K=K){l:Expr}{a:TE}(c:PE X l a):PI X b l (xv4 K a):=by subst e;exact xtj c
theorem xbx(a:X.K=K):xe2 X (.type "tuple") (λxs H Q=>∃p ys,xs=[.ref p]/\((SqL K H p ys/\∀l,H l=none->Q (.ref l) (upd H l (.tup ys)))\/(SqT K H p ys/\Q (.ref p) H))):=by subst a;exact xjb
theorem xnh(a:X.K=K):OpR X (binaryOp .Add) (xsl K):=by subst a;exact xrg
end
section
variable {X:Cx}
theorem va(i:Nat){x:Str}{p:Pos}{es:List Expr}{t:TA}(c:PA X es t)(e:X.N[i]?=some x:=by rfl)(b:Vis X.env.scope x:=by first |exact Or.inl rfl |exact Or.inr (Or.inl rfl) |exact Or.inr (Or.inr rfl))(hd:(x == ("__debug__":Str))=false:=by decide)(a:(x == ("__classdict__":Str))=false:=by decide):PA X (.Name x p::es) (xlb (tVar i) t):=pc (pv i e b hd a) c zsn
theorem v1(i:Nat){x:Str}{p:Pos}(c:X.N[i]?=some x:=by rfl)(b:Vis X.env.scope x:=by first |exact Or.inl rfl |exact Or.inr (Or.inl rfl) |exact Or.inr (Or.inr rfl))(hd:(x == ("__debug__":Str))=false:=by decide)(a:(x == ("__classdict__":Str))=false:=by decide):PA X [.Name x p] (xlb (tVar i) tNil):=va i pN c b hd a
theorem psn(i:Nat){x:Str}{e:Expr}{b:TE}{pos a:Pos}(h:X.N.Nodup)(g:PE X e b)(hi:X.N[i]?=some x:=by rfl)(c:Loc X.env.scope x:=by first |exact Or.inl rfl |exact Or.inr rfl)(hs:swapsWith e (some (.Name x a)) pos.line X.env=pure false:=by rfl)(f:X.fn x=true\/X.env.scope.names.lookup x=some .local:=by first |exact .inl rfl |exact .inr rfl |assumption):PS X (.Assign [.Name x a] e pos) (tAsg b (xg9 i)):=xvc h hi c g hs f
theorem pgn(i:Nat){x:Str}{pos:Pos}(c:X.N.Nodup)(hi:X.N[i]?=some x:=by rfl)(a:Loc X.env.scope x:=by first |exact Or.inl rfl |exact Or.inr rfl)(b:X.fn x=true\/X.env.scope.names.lookup x=some .local:=by first |exact .inl rfl |exact .inr rfl |assumption):PG X (.Name x pos) (xg9 i):=xpd c hi a b
theorem px(K:Fg){a b:Expr}{ta c:TE}{pos:Pos}(f:PE X a ta)(e:PE X b c)(g:X.K=K:=by rfl)(hs:xmi b:=by exact λ_ _=>rfl):PE X (.Subscript a b pos) (tOp (rIxT K) ta c):=xn3 (xt5 g) f e hs
theorem pxl(K:Fg){a b:Expr}{ta c:TE}{pos:Pos}(f:PE X a ta)(e:PE X b c)(g:X.K=K:=by rfl)(hs:xmi b:=by exact λ_ _=>rfl):PE X (.Subscript a b pos) (tOp (rIxL K) ta c):=xn3 (xry g) f e hs
theorem pgc(i:Nat){x:Str}{pos:Pos}(hi:X.N[i]?=some x:=by rfl)(hN:X.N.Nodup:=by exact z0 (by kernel_rfl))(hx:Loc X.env.scope x:=by exact Or.inl rfl)(hf:X.fn x=true\/X.env.scope.names.lookup x=some .local:=by first |exact .inl rfl |exact .inr rfl |assumption):PG X (.Name x pos) (xg9 i):=xpd hN hi hx hf
end
end L2
end
section
namespace L2
open PySem PySem.Spec PyProof.Rows
open PySem.W in
def xs1(K:Frag)(x:Str)(fs:List Str):Bool:=
 plainGet K (ad K x) Str.empty && (hasDictIn K (ad K x) && (plainOver K (ad K x) && (findIn K (.ref (ad K x)) "__setattr__" == some (some (.builtin "object.__setattr__")) && (makesIn K (ad K x) && (keepIn K (.ref (ad K x)) &&
 fs.all λf=>findIn K (.ref (ad K x)) f == some none)))))
structure DTab(K:Fg)(x:Str)(fs:List Str):Prop where
 cl:Cls K (ad K x)
 ms:PySem.W.makesIn K (ad K x)=true
 kp:PySem.W.keepIn K (.ref (ad K x))=true
 no:∀f∈fs,NoAttr K (ad K x) f
theorem dtab_of{K:Fg}{x:Str}{fs:List Str}(e:xs1 K x fs=true):DTab K x fs:=by
 unfold xs1 at e;simp only[Bool.and_eq_true,List.all_eq_true,beq_iff_eq]at e;obtain⟨i,h,g,f,c,b,a⟩:=e;exact⟨⟨i,h,g,f⟩,c,b,a⟩
structure MethTx(K:Fg)(q:Str)(C:Addr)(m:Str)(st:Stmt)(ps:List Str)(dss:List (List Value)):Prop where
 ex:∃(f:Addr) (dV kV doc pm:Value) (an:Option Addr) (cdv ct oc:Value) (od:Option Addr) (osl:Array (Option Value)),PySem.W.findIn K (.ref C) m=some (some (.ref f))/\PySem.W.isFn K (.ref f)=true/\PySem.W.keepIn K (.ref f)=true ∧
  K.lookup f=some ⟨oc,od,.func (PySem.W.fnOf m q (xdm st) (xc0 st) (xac st) dV kV doc pm an cdv ct),osl⟩/\PySem.W.codeIn K cdv q=true/\∀ds∈dss,Binds K (PySem.W.fnOf m q (xdm st) (xc0 st) (xac st) dV kV doc pm an cdv ct) ps ds
theorem meth_mk {K:Fg} {x q m:Str} {C f:Addr} {st:Stmt} {ps:List Str} {r:Value} {od p:Option Addr} {o:Array (Option Value)} {kV g j e ct:Value} (a:PySem.W.nsIn K mainGlobals x=some (some (.ref C)))
  (i:PySem.W.findIn K (.ref C) m=some (some (.ref f))) (n:PySem.W.isFn K (.ref f)=true)
  (l:K.lookup f=some ⟨r,od,.func (PySem.W.fnOf m q (xdm st) (xc0 st) (xac st) .none kV g j p e ct),o⟩) (c:PySem.W.codeIn K e q=true) (k:PySem.W.keepIn K (.ref f)=true)
  (b:∀(kV g j:Value) (p:Option Addr) (e ct:Value) (us:List Value),us.length=ps.length->bindArgs (PySem.W.fnOf m q (xdm st) (xc0 st) (xac st) .none kV g j p e ct) ⟨us,[]⟩=pure (ps.zip us)):MethTx K q (ad K x) m st ps [[]]:=by
 rw[xwf a];exact⟨f,_,kV,g,j,p,e,ct,r,od,o,i,n,k,l,c,λds h=>by rw[zMO h];exact Binds.all (b kV g j p e ct)⟩
theorem meth_mkD {K:Fg} {x q m:Str} {C f T:Addr} {st:Stmt} {ps:List Str} {oc:Value} {od an:Option Addr} {osl:Array (Option Value)} {kV doc pm cdv ct:Value} {o:Obj} {N:Nat} (a:PySem.W.nsIn K mainGlobals x=some (some (.ref C)))
  (i:PySem.W.findIn K (.ref C) m=some (some (.ref f))) (n:PySem.W.isFn K (.ref f)=true)
  (l:K.lookup f=some ⟨oc,od,.func (PySem.W.fnOf m q (xdm st) (xc0 st) (xac st) (.ref T) kV doc pm an cdv ct),osl⟩) (c:PySem.W.codeIn K cdv q=true) (k:PySem.W.keepIn K (.ref f)=true) (d:K.lookup T=some o) (e:o.data=.seq #[.none] N)
  (b:∀(s:Shared) (T:Addr) (kV doc pm:Value) (an:Option Addr) (cdv ct:Value) (us ds:List Value),K.In s.heap->K.lookup T=some o->o.data=.seq #[.none] N->ds=[.none]\/ds=[]->(us++ds).length=ps.length->BindsTo s (PySem.W.fnOf m q (xdm st) (xc0 st) (xac st) (.ref T) kV doc pm an cdv ct) ⟨us,[]⟩ (ps.zip (us++ds))):MethTx K q (ad K x) m st ps [[.none],[]]:=by
 rw[xwf a];exact⟨f,_,kV,doc,pm,an,cdv,ct,oc,od,osl,i,n,k,l,c,λds h s us hk hl=>b s T kV doc pm an cdv ct us ds hk d e (by simpa using h) hl⟩
structure MethIs(P:Program)(w:World)(K:Fg)(mg:Str->Option Value)(base:Heap)(n:Nat)(C:Addr)(m:Str)(ps:List Str)(dss:List (List Value))(sp:Sp):Prop where
 ex:∃(f:Addr) (fd:FuncData),Meth K C m f/\FnOk P w K mg base CX0 n f fd ps sp/\∀ds∈dss,Binds K fd ps ds
section
variable {P:Program}{w:World}{K:Fg}{mg:Str->Option Value}{base:Heap}{n n':Nat}{q m:Str}{C:Addr}{st:Stmt}{ps N:List Str}{sp:Sp}{dss:List (List Value)}
theorem MethIs.mono(D:MethIs P w K e base n C m ps a sp)(h:n<=c):MethIs P w K e base c C m ps a sp:=by
 obtain⟨f,g,M,F,b⟩:=D.ex;exact⟨f,g,M,F.mono h,b⟩
theorem MethIs.of (T:MethTx K q C m st ps j) (S:FnScope N ps (xac st)) (len:∀vs H Q E,sp vs H Q E->vs.length=ps.length)
  (e:∀(f:Addr) (a:Value) (A:Around) (outer:List Env) (s:Shared) (H:Hp) (vs:List V) (Q:VK) (E:XK),Room n (A.deeper (envOfC q (xac st) s.heap.objs.size f a))->sp vs H Q E->
   ∃t,PSs (cxOf CX0 P w K r base N q (xac st) f a A outer s H E).nox (xc0 st) t/\t {nx:=λ_ y=>Q .non y,rt:=Q} (xf0 N vs) H):MethIs P w K r base (n+1) C m ps j sp:=by
 obtain⟨f,I,kV,x,z,J,a,ct,G,od,o,i,p,k,l,c,b⟩:=T.ex;refine⟨f,_,⟨i,p,k⟩,xv7 l c S len λA outer s H vs Q E u g=>?_,b⟩;obtain⟨t,h,q⟩:=e f a A outer s H vs Q E u g;exact⟨t,h.nox,q⟩
end
section
variable {X:Cx}{n:Nat}{x m:Str}{ps:List Str}{sp:Sp}{p pos apos:Pos}{fs:List Str}{C:Addr}{dss:List (List Value)}{ds:List Value}{dvs:List V}{e o:Expr}{es:List Expr}{t:TA}{ta:TE}
theorem xbs {pl:Sem Bool} (D:MethIs X.prog X.w X.K X.mg X.base n C m ps [[]] sp) (c:Cls X.K C) (l:Room n X.A) (p:PE X o ta) (r:PA X (e::es) t)
  (g:starEach (e::es) X.env=(false,eval e X.env)::starEach es X.env:=by rfl) (h:(backTo pos (starEach es X.env)).any (·.1)=false:=by rfl)
  (j:eval (.Call (.Attribute o m a) (e::es) [] pos) X.env=(do
   let i <- eval o X.env
   standAt a.atName
   let (f,first) <- holding [i] (getMethod i m pl)
   callWith pos f first (backTo pos (starEach (e::es) X.env)) (backToKw pos (keywordEach [] X.env))):=by rfl):PE X (.Call (.Attribute o m a) (e::es) [] pos) (xq4 C m sp [] E0 ta t):=by
 obtain⟨f,s,M,F,b⟩:=D.ex;exact xtl p c M F l (b [] (by simp)) .nil xpf r g h j
theorem xdh {pl:Sem Bool} (D:MethIs X.prog X.w X.K X.mg X.base n C m ps [[]] sp) (c:Cls X.K C) (h:Room n X.A) (i:PE X o ta)
  (g:eval (.Call (.Attribute o m a) [] [] pos) X.env=(do
   let e <- eval o X.env
   standAt a.atName
   let (f,first) <- holding [e] (getMethod e m pl)
   callWith pos f first (backTo pos (starEach [] X.env)) (backToKw pos (keywordEach [] X.env))):=by rfl):PE X (.Call (.Attribute o m a) [] [] pos) (xq4 C m sp [] E0 ta tNil):=by
 obtain⟨f,j,M,F,b⟩:=D.ex;exact xrd i c M F h (b [] (by simp)) .nil xpf g
theorem xgx (D:MethIs X.prog X.w X.K X.mg X.base n (ad X.K x) "__init__" ps dss sp) (M:DTab X.K x fs) (hr:Room (n+1) X.A) (hm:X.mg x=some (.ref (ad X.K x))) (hds:ds∈dss) (hd:Vals dvs ds) (ha:PA X (e::es) t) (hg:Gl X x:=by rfl) (hdb:(x == ("__debug__":Str))=false:=by decide)
  (he:starEach (e::es) X.env=(false,eval e X.env)::starEach es X.env:=by rfl) (hpl:(backTo pos (starEach es X.env)).any (·.1)=false:=by rfl):PE X (.Call (.Name x p) (e::es) [] pos) (xuu (ad X.K x) sp dvs E0 t):=by
 obtain⟨f,fd,N,F,b⟩:=D.ex;exact xtm ⟨M.ms,N.at_,N.fn,M.kp⟩ F hr hg hm (b ds hds) hd xpf ha hdb he hpl
end
section
variable {X:Cx}
theorem Inv.reH {pins:List (Addr×Obj)} {σ:St} {H:Hp} {s:Shared} {a:Addr} {o u:HO} (I:Inv X pins σ H s) (ha:H a=some o) (n1:∀xs,o≠.tup xs) (n2:∀ps,o≠.tbl ps) (n3:∀x,o≠.own x) (nz:∀ob v,X.H₀ a≠some (.frz ob v))
  (new:ObjOk X.prog X.w (upd H a u) s.heap a u):Inv X pins σ (upd H a u) s:=by
 have hn:∀{b:Addr},H b=none->upd H a u b=none:=λ{b} e=>by
  rw[xak λz=>by rw[z,ha]at e;cases e];exact e
 have hs:∀{b:Addr} {v:HO},H b=some v->v≠o->upd H a u b=some v:=λ{b v} e ne=>by
  rw[xak λz=>by rw[z,ha]at e;exact ne (z8 e).symm];exact e
 refine⟨I.ok,I.os,I.bare,⟨I.base.keep,I.base.slot,λb ob e n hx=>hn (I.base.free b ob e n hx),I.base.there,λb xs e=>hs (I.base.tups b xs e) λz=>n1 xs z.symm,λb ob v e=>?_,λb ps e=>?_⟩,I.loc,I.cell,hn I.free,λx c e=>hn (I.freeC x c e),λp hp=>?_,λb v e=>?_,I.len⟩
 ·rw[xak λz=>by subst z;exact nz ob v e]
  exact I.base.frzs b ob v e
 ·obtain⟨more,e'⟩:=I.base.tbls b ps e
  exact⟨more,hs e' λz=>n2 _ z.symm⟩
 ·obtain⟨q1,q2,q3⟩:=I.pin p hp
  exact⟨q1,hn q2,q3⟩
 ·by_cases hb:b=a
  ·subst hb
   rw[ups]at e;cases e;exact new
  ·rw[xak hb]at e
   exact(I.hok b v e).stay (λ_ _ _ q=>q) (λc q=>hs q λz=>n3 _ z.symm) λc xs q=>hs q λz=>n1 _ z.symm
def NoFz(H0:Hp)(a:Addr):Prop:=∀ob u,H0 a≠some (.frz ob u)
theorem Inv.noFz{b:List (Addr×Obj)}{σ:St}{H:Hp}{s:Shared}{a:Addr}{kvs:List (Key×V)}(I:Inv X b σ H s)(f:H a=some (.dK kvs)):NoFz X.H₀ a:=λc u e=>by
 have:=I.base.frzs a c u e;rw[f]at this;cases this
theorem Inv.freeze{pins:List (Addr×Obj)}{σ:St}{H:Hp}{s:Shared}{a:Addr}{ob:Obj}{kvs:List (Key×V)}(I:Inv X pins σ H s)(ha:H a=some (.dK kvs))(e:s.heap.get? a=some ob):Inv X pins σ (upd H a (.frz ob (.dK kvs))) s:=by
 refine I.reH ha (λ_ z=>by cases z) (λ_ z=>by cases z) (λ_ z=>by cases z) (I.noFz ha) ⟨e,?_⟩;obtain⟨z,y,r⟩:=(show ObjOk X.prog X.w H s.heap a (.dK kvs) from I.hok a _ ha);exact⟨z,y,r⟩
theorem Inv.thaw{b:List (Addr×Obj)}{σ:St}{H:Hp}{s:Shared}{a:Addr}{c:Obj}{kvs:List (Key×V)}(I:Inv X b σ H s)(e:H a=some (.frz c (.dK kvs)))(f:NoFz X.H₀ a):Inv X b σ (upd H a (.dK kvs)) s:=by
 obtain⟨_,z,y,r⟩:=(show ObjOk X.prog X.w H s.heap a (.frz c (.dK kvs)) from I.hok a _ e);exact I.reH e (λ_ z=>by cases z) (λ_ z=>by cases z) (λ_ z=>by cases z) f ⟨z,y,r⟩
def Itd(a:Addr)(o:Obj)(kvs:List (Key×V)):It:=
 ⟨λi H=>H a=some (.frz o (.dK kvs))/\i<kvs.length,λi H x H'=>H'=H/\∃kv,kvs[i]?=some kv/\x=kV kv.1,λi H=>H a=some (.frz o (.dK kvs))/\kvs.length<=i⟩
theorem xni{P:Program}{w:World}{H:Hp}{h:Heap}{a:Addr}{o:Obj}{kvs:List (Key×V)}{es:Array DictEntry}{ep:Nat}(ok:HOk P w H h)(e:H a=some (.frz o (.dK kvs)))(hd:o.data=.dict es ep):∃vs,KV kvs vs/\h.DictAt (xca P w) a vs ep:=by
 obtain⟨f,_,_,vs,r,i,es',g,b,c,d,q⟩:=(show ObjOk P w H h a (.frz o (.dK kvs)) from ok a _ e);rw[f]at b;cases b;rw[hd]at d;cases d;exact⟨vs,r,o,es,f,c,hd,q⟩
theorem xol{P:Program}{w:World}{K:Fg}{tg:Expr}{a it:Addr}{o:Obj}{kvs:List (Key×V)}{es:Array DictEntry}{ep:Nat}(a0:a≠it)(hd:o.data=.dict es ep):Turn P w K tg (Itd a o kvs) [it] it (λi h=>h.IsKeyIter it a i kvs.length ep) where
 mem:=by simp
 obj:=λi h st b j=>by
  have e:b=it:=by simpa using j
  subst e;obtain⟨o,e,c,d⟩:=st;exact⟨o,e,λv z=>by rw[d]at z;cases z⟩
 keep:=λi h h' st k=>st.at λo e=>k it (by simp) o e
 item:=by
  intro X C u G Z i g s σ H E I p st x;subst C u G;obtain⟨y,hi⟩:=x;obtain⟨vs,f,dat⟩:=xni I.hok y hd;have n:=f.length;obtain⟨Y,U,f2,O,M,J⟩:=p it (by simp);have m:i<vs.length:=by omega
  refine wpAny_pyNext_dict_item (kvs:=vs) (k:=vs[i].1) (v:=vs[i].2) (by rw[<- n];exact st) dat (by rw[zGA m]) λr h' l st' sb=>?_;have I1:Inv X g σ H {s with heap:=h'}:=I.turned (t':=s.toks) (λb o j e=>(sb.2 b j).trans e) Y U O M J;rw[<- n]at st';obtain⟨o',e,c,d⟩:=id st';have ek:=KV.get f (zGA hi) (zGA m);exact⟨r,rfl,xr2 (s:={s with heap:=h'}) e c d (by decide) ⟨kV kvs[i].1,H,I1,by rw[ek];exact xv2 l,⟨rfl,_,zGA hi,rfl⟩,st',λb j=>(p b j).1⟩⟩
 done:=by
  intro X C u G Z i g s σ H E I p st x;subst C u G;obtain⟨y,hi⟩:=x;obtain⟨vs,f,dat⟩:=xni I.hok y hd;have n:=f.length;obtain⟨Y,U,f2,O,M,J⟩:=p it (by simp);exact wpAny_pyNext_dict_end (I.ok.hd Z) (kvs:=vs) (by rw[<- n];exact st) dat (List.getElem?_eq_none (by omega)) λh' eb=>⟨rfl,I.turned (t':=s.toks) (λb o j e=>eb b o j e) Y U O M J⟩
 self:=λ_ _ _ _ _ st h=>wpAny_pyIter_keyiter st h
def xxc(H0:Hp)(td:TE):TI:=λσ H R=>td σ H λx H1=>∃a,∃kvs:List (Key×V),x=.ref a/\H1 a=some (.dK kvs)/\∀o,NoFz H0 a->R (Itd a o kvs) (upd H1 a (.frz o (.dK kvs)))
theorem xpc{tg l:Expr}{tl:TE}(hl:PE X l tl):PI X tg l (xxc X.H₀ tl):=by
 intro pins s σ H R I h;refine thn (hl pins s σ H _ I h) λv s1 ⟨x,H1,I1,r1,q1⟩=>?_;obtain⟨a,kvs,e,ha,q⟩:=q1;subst e;cases r1;obtain⟨hz,hsys,vs,rel,dd⟩:=xht I1.hok ha;obtain⟨ep,dat⟩:=dd.dictAt;obtain⟨o,es,ho,hx,hdat,_⟩:=id dat;have hlen:=rel.length;refine wpAny_pyIter_dict hsys dat ?_;have I2:=I1.freeze ha ho;have hn:upd H1 a (.frz o (.dK kvs)) s1.heap.objs.size=none:=I2.hok.fresh (zZ _);refine⟨s1.heap.objs.size,[s1.heap.objs.size],_,_,_,rfl,I2.kept (t':=s1.toks) λb o e=>zPO _ e,xol (λz=>?_) hdat,⟨_,z6 _ rfl,rfl,by rw[hlen];rfl⟩,λb hb=>?_,q o (I1.noFz ha)⟩
 ·rw[<- z,ups]at hn
  cases hn
 ·have e:b=s1.heap.objs.size:=by simpa using hb
  subst e;exact I2.fpOk (zZ _) hn
def xwm(H0:Hp)(N:St->Hp->Prop):St->Hp->Prop:=λσ H=>∃a o,∃kvs:List (Key×V),H a=some (.frz o (.dK kvs))/\NoFz H0 a/\N σ (upd H a (.dK kvs))
theorem xo9{st:Stmt}{t:TS}(h:PS X st t):PS X st (λD σ H=>t {D with nx:=xwm X.H₀ D.nx} σ H):=by
 intro b s σ H D I j;refine thn (h b s σ H _ I j) λf s' q=>?_
 cases f with
 |next=>
  obtain⟨c,m,l,a,o,kvs,e,i,g⟩:=q;exact⟨c,_,l.thaw e i,g⟩
 |cont=>exact q
 |brk=>exact q
 |ret v=>exact q
theorem xnj {a:Addr} {o:Obj} {kvs:List (Key×V)} {g:TG} {r:TS} {D:Ends} {σ:St} {H:Hp} (b:Nat->St->Hp->Prop) (h0:b 0 σ H) (w:∀i σ H,i<=kvs.length->b i σ H->H a=some (.frz o (.dK kvs)))
  (hs:∀i h σ H,kvs[i]?=some h->b i σ H->g (kV h.1) σ H λj n=>r {D with nx:=b (i+1),ct:=b (i+1),bk:=D.nx} j n) (hd:∀σ H,b kvs.length σ H->D.nx σ H) :
  ∃W:Nat->Nat->St->Hp->Prop,(∃m,W 0 m σ H)/\∀i m σ H,W i m σ H->
   ((Itd a o kvs).stop i H/\D.nx σ H)\/((Itd a o kvs).go i H/\∃N:St->Hp->Prop,(∀l c,N l c->∃s,s<m/\W (i+1) s l c)/\∀x c,(Itd a o kvs).yld i H x c->g x σ c λj n=>r {D with nx:=N,ct:=N,bk:=D.nx} j n):=by
 refine⟨λi m σ H=>m=kvs.length-i/\i<=kvs.length/\b i σ H,⟨kvs.length,by simp,qL _,h0⟩,?_⟩;rintro i m σ H ⟨rfl,hi,p⟩;have q:=w i σ H hi p;by_cases f:i<kvs.length
 ·refine .inr ⟨⟨q,f⟩,b (i+1),λl c u=>⟨kvs.length-(i+1),by omega,rfl,f,u⟩,λx c y=>?_⟩
  obtain⟨e,h,z,C⟩:=y;subst e C;exact hs i h σ _ z p
 ·have e:i=kvs.length:=by omega
  subst e;exact .inl ⟨⟨q,zZ _⟩,hd σ H p⟩
end
section
variable {X:Cx}
def Itm(a:Addr)(o:Obj)(kvs:List (Key×V)):It:=
 ⟨λi H=>H a=some (.frz o (.dK kvs))/\i<kvs.length,λi H x H'=>∃p kv,x=.ref p/\H p=none/\kvs[i]?=some kv/\H'=upd H p (.tup [kV kv.1,kv.2]),λi H=>H a=some (.frz o (.dK kvs))/\kvs.length<=i⟩
theorem xnv{P:Program}{w:World}{K:Fg}{r:List Expr}{x1}{pos:Pos}{a it:Addr}{o:Obj}{kvs:List (Key×V)}{es:Array DictEntry}{ep:Nat}(a0:a≠it)(hd:o.data=.dict es ep):Turn P w K (.Tuple r x1 pos) (Itm a o kvs) [it] it (λi h=>∃ok m,IsItemIter h it a i kvs.length ep ok m) where
 mem:=by simp
 obj:=λi h st b j=>by
  have e:b=it:=by simpa using j
  subst e;obtain⟨_,_,e⟩:=st;exact⟨_,e,λv z=>by cases z⟩
 keep:=λi h h' st k=>by
  obtain⟨ok,m,e⟩:=st;exact⟨ok,m,k it (by simp) _ e⟩
 item:=by
  intro X O C U hc i c s σ H E I x st J;subst O C U;obtain⟨M,hi⟩:=J;obtain⟨vs,f,dat⟩:=xni I.hok M hd;have u:=f.length;have l:i<vs.length:=by omega
  obtain⟨ok,m,st⟩:=st;rw[u]at st;refine wpAny_pyNext_items_item (kvs:=vs) (k:=vs[i].1) (v:=vs[i].2) st dat (by rw[zGA l]) λg h1 n a1 a3 a4 a5=>⟨_,rfl,?_⟩;refine wpAny_letOwnedTupleGo_items a1 λh2 b1 b2=>?_;have ek:=KV.get f (zGA hi) (zGA l);obtain⟨v,hv,rv⟩:=KV.get2 f (zGA l);have G:H s.heap.objs.size=none:=I.hok.fresh (zZ _);have y:it<s.heap.objs.size:=z5 st;have g1:(s.heap.push {cls:=.type "tuple",data:=.seq #[g,vs[i].2]}).get? s.heap.objs.size=some {cls:=.type "tuple",data:=.seq #[g,vs[i].2]}:=z6 _ rfl
  have I1:Inv X c σ (upd H s.heap.objs.size (.tup [kV vs[i].1,v])) {s with heap:=s.heap.push {cls:=.type "tuple",data:=.seq #[g,vs[i].2]}}:=
   I.laid (t':=s.toks) (λb o q=>zPO _ q) (zZ _) ⟨by show 2<=sizeLine;decide,[g,vs[i].2],.cons (xv2 n) (.cons rv .nil),⟨_,g1,rfl,_,rfl,rfl⟩⟩
  have p:∀b∈[it],FpOk X c (upd H s.heap.objs.size (.tup [kV vs[i].1,v])) b:=λb j=>by
   refine⟨?_,(x b j).2⟩;have e:b=it:=by simpa using j
   subst e;rw[xak (z9 y)];exact(x b j).1
  have I2:Inv X c σ (upd H s.heap.objs.size (.tup [kV vs[i].1,v])) {s with heap:=h2}:=
   I1.turnedL (t':=s.toks) (λb o j q=>by
    have Z:b≠it:=by simpa using j
    have q1:h1.get? b=some o:=by
     by_cases z:b=s.heap.objs.size
     ·subst z
      have Y:(s.heap.push {cls:=.type "tuple",data:=.seq #[g,vs[i].2]}).get? s.heap.objs.size=some o:=q;rw[g1]at Y;cases Y;exact a3
     ·exact a5 b o Z (xl8 q z)
    exact(b2.2 b Z).trans q1) p
  rw[<- u]at b1;exact⟨.ref s.heap.objs.size,_,I2,rfl,⟨_,_,rfl,G,hv,rfl⟩,⟨_,_,b1⟩,λb j=>(p b j).1⟩
 done:=by
  intro X O C U hc i c s σ H E I x st J;subst O C U;obtain⟨M,hi⟩:=J;obtain⟨vs,f,dat⟩:=xni I.hok M hd;have u:=f.length;obtain⟨ok,m,st⟩:=st;rw[u]at st;obtain⟨f0,f1,f2,f3,f4,f5⟩:=x it (by simp);exact wpAny_pyNext_items_end (I.ok.hd hc) (kvs:=vs) st dat (List.getElem?_eq_none (by omega)) λh' eb=>⟨rfl,I.turned (t':=s.toks) (λb o j e=>eb b o j e) f0 f1 f3 f4 f5⟩
 self:=λ_ _ _ _ _ st h=>by
  obtain⟨ok,m,st⟩:=st;exact PySem.W.kcp_self st h
def xv5(H0:Hp)(td:TE):TI:=λσ H R=>td σ H λx H1=>∃a,∃kvs:List (Key×V),x=.ref a/\H1 a=some (.dK kvs)/\∀o,NoFz H0 a->R (Itm a o kvs) (upd H1 a (.frz o (.dK kvs)))
theorem xm3 {elts:List Expr} {x1} {tp:Pos} {o:Expr} {td:TE} {apos q2:Pos} (ho:PE X o td) (hbase:attributeBase o "items" X.env (eval o X.env)=eval o X.env:=by rfl) (hline:(apos.endLine == q2.line)=true:=by rfl) :
  PI X (.Tuple elts x1 tp) (.Call (.Attribute o "items" apos) [] [] q2) (xv5 X.H₀ td):=by
 intro pins s σ H R I h;refine wpAny_Call_method0_late hbase hline (thn (ho pins s σ H _ I h) λv s1 ⟨x,H1,I1,r1,q1⟩=>?_);obtain⟨a,kvs,e,ha,q⟩:=q1;subst e;obtain rfl:v=.ref a:=r1;obtain⟨t1,t2,_⟩:=xnd I1 (.inl ⟨kvs,.inl ha⟩);obtain⟨z,hd,vs,rel,dd⟩:=xht I1.hok ha;have hlen:=rel.length;refine⟨"dict","dict.items",PySem.F.plainAttrs_dict,PySem.F.slot_dict_items,PySem.F.type_dict_items,t1,t2,Calls.callWith_builtin rfl (PySem.evalArgs_none ?_)⟩;refine call_meetsIn PySem.F.slot_dict_items dd.typeIs PySem.F.entry_dict_items (PySem.F.args_dict_items_1 _) (meets_dict_items (xca X.prog X.w) a hd) ⟨⟨vs,dd⟩,?_⟩;obtain⟨ep,hat⟩:=(dd.push {cls:=.type "dict_items",data:=.fields #[.ref a]}).dictAt;obtain⟨ob,es,hob,hx,hdat,_⟩:=id hat;refine wpAny_pyIter_items (kvs:=vs) (ep:=ep) ⟨_,z6 _ rfl,rfl,rfl⟩ hat ?_;have I2:Inv X pins σ H1 {s1 with heap:=s1.heap.push {cls:=.type "dict_items",data:=.fields #[.ref a]}}:=I1.kept (t':=s1.toks) λb o e=>zPO _ e;have I3:=I2.freeze ha hob;have hn:upd H1 a (.frz ob (.dK kvs)) (s1.heap.push {cls:=.type "dict_items",data:=.fields #[.ref a]}).objs.size=none:=I3.hok.fresh (zZ _);refine⟨(s1.heap.push {cls:=.type "dict_items",data:=.fields #[.ref a]}).objs.size,[(s1.heap.push {cls:=.type "dict_items",data:=.fields #[.ref a]}).objs.size],_,_,_,rfl,I3.kept (t':=s1.toks) λb o e=>zPO _ e,xnv (λz=>?_) hdat,⟨.none,.none,?_⟩,λb hb=>?_,q ob (I1.noFz ha)⟩
 ·rw[<- z,ups]at hn
  cases hn
 ·rw[hlen]
  exact z6 _ rfl
 ·have e:b=(s1.heap.push {cls:=.type "dict_items",data:=.fields #[.ref a]}).objs.size:=by simpa using hb
  subst e;exact I3.fpOk (zZ _) hn
theorem xpe{e:Expr}{t:TE}(h:PE X e t):PE X e (λσ H Q=>t σ H λv H'=>∃a o,∃kvs:List (Key×V),H' a=some (.frz o (.dK kvs))/\NoFz X.H₀ a/\Q v (upd H' a (.dK kvs))):=by
 intro pins s σ H Q I hh;refine thn (h pins s σ H _ I hh) λu s' ⟨v,H',I',r,a,o,kvs,ea,nz,q⟩=>?_;exact⟨v,_,I'.thaw ea nz,r,q⟩
theorem xh5 {a:Addr} {o:Obj} {kvs:List (Key×V)} {ix:Cap} {g:TG} {tt:TT} {te:TE} {σ:St} {H1:Hp} {Q:VK} (Pv:Nat->List V->Hp->Prop) (h0:Pv 0 [] H1) (hn:kvs.length<sizeLine) (hl':∀i ys H,i<=kvs.length->Pv i ys H->H a=some (.frz o (.dK kvs)))
  (hs:∀i kv p ys H,kvs[i]?=some kv->i<kvs.length->ys.length<=i->H p=none->Pv i ys H->g (.ref p) (capt ix σ) (upd H p (.tup [kV kv.1,kv.2])) λσ2 H2=>Ext (capt ix σ) σ2/\tt σ2 H2 λb H3=>if b=true then te σ2 H3 (NxtG Pv kvs.length i ys) else NxtN Pv kvs.length i ys H3)
  (hd:∀ys H,ys.length<=kvs.length->Pv kvs.length ys H->∀D,H D=none->Q (.ref D) (upd H D (.lst ys))):xfz (Itm a o kvs) ix g tt te σ H1 Q:=by
 refine⟨λi m ys H=>m=kvs.length-i/\i<=kvs.length/\ys.length<=i/\Pv i ys H,⟨kvs.length,by simp,qL _,zZ _,h0⟩,?_⟩;rintro i m ys H ⟨rfl,hi,hl,p⟩;have q:=hl' i ys H hi p;by_cases hlt:i<kvs.length
 ·refine .inr ⟨⟨q,hlt⟩,by omega,λv H' y=>?_⟩
  obtain⟨pp,kv,rfl,hp,hk,rfl⟩:=y;exact hs i kv pp ys _ hk hlt hl hp p
 ·have e:i=kvs.length:=by omega
  subst e;exact .inl ⟨⟨q,zZ _⟩,hd ys H hl p⟩
end
section
variable {X:Cx}
theorem xfr{K:Fg}(h:X.K=K):xe2 X (.type "list") (λxs H Q=>∃p ys,xs=[.ref p]/\(SqL K H p ys\/SqT K H p ys)/\∀l,H l=none->Q (.ref l) (upd H l (.lst ys))):=by subst h;exact xb4
end
theorem ext1{σ:St}{i:Nat}{v:Option V}(h:σ[i]?=some none):Ext σ (σ.set i v):=by
 refine⟨by simp,λn b e=>?_⟩;have a:i≠n:=λz=>by subst z;rw[h]at e;cases e
 rw[List.getElem?_set_ne a];exact e
theorem ext4{σ:St}{i j k l:Nat}{u v w x:Option V}(h:σ[i]?=some none)(o:σ[j]?=some none)(m:σ[k]?=some none)(g:σ[l]?=some none):Ext σ ((((σ.set i u).set j v).set k w).set l x):=by
 refine⟨by simp,λn p e=>?_⟩;have f:i≠n:=λz=>by subst z;rw[h]at e;cases e
 have c:j≠n:=λz=>by subst z;rw[o]at e;cases e
 have b:k≠n:=λz=>by subst z;rw[m]at e;cases e
 have a:l≠n:=λz=>by subst z;rw[g]at e;cases e
 rw[List.getElem?_set_ne a,List.getElem?_set_ne b,List.getElem?_set_ne c,List.getElem?_set_ne f];exact e
theorem xkg:∀(kvs acc:List (Key×V)),((acc++kvs).map (·.1)).Nodup->xc2 acc kvs=acc++kvs
 |[],acc,_=>by show acc=_;rw[List.append_nil]
 | a::kvs,acc,h=>by
  have hn:(acc.any λp=>decide (p.1=a.1))=false:=by
   rw[List.any_eq_false];intro p b e;rw[zAP,List.nodup_append]at h;exact h.2.2 p.1 (qD b) a.1 (by simp) (z0 e)
  have e:putK acc a.1 a.2=acc++[a]:=by
   unfold putK;rw[if_neg (by rw[hn];decide)]
  show xc2 (putK acc a.1 a.2) kvs=_;rw[e,xkg kvs (acc++[a]) (by rw[List.append_assoc];exact h),List.append_assoc];rfl
theorem xdo{kvs:List (Key×V)}(h:(kvs.map (·.1)).Nodup):xc2 [] kvs=kvs:=xkg kvs [] h
end L2
end
section
namespace L2
open PySem PySem.Spec PySem.W PyProof.Rows M
def xta(td:TE):TE:=λσ H Q=>td σ H λx H1=>∃a,∃kvs:List (Key×V),x=.ref a/\H1 a=some (.dK kvs)/\Q .non (upd H1 a (.dK []))
section
variable {X:Cx}{o:Expr}{td:TE}{apos cpos:Pos}
theorem xj0(r:PE X o td)(y:attributeBase o "clear" X.env (eval o X.env)=eval o X.env:=by rfl)(u:(f.endLine == e.line)=true:=by rfl):PE X (.Call (.Attribute o "clear" f) [] [] e) (xta td):=by
 intro b s σ H Q I h;refine wpAny_Call_method0_late y u (thn (r b s σ H _ I h) λv C ⟨x,G,j,n,a,kvs,ex,i,q⟩=>?_);subst ex;obtain rfl:v=.ref a:=n;obtain⟨m,t2,_⟩:=xnd j (.inl ⟨kvs,.inl i⟩);obtain⟨z,hd,vs,g,l⟩:=xht j.hok i;refine⟨"dict","dict.clear",PySem.F.plainAttrs_dict,PySem.F.slot_dict_clear,PySem.F.type_dict_clear,m,t2,Calls.callWith_builtin rfl (PySem.evalArgs_none ?_)⟩;refine call_meetsIn PySem.F.slot_dict_clear l.typeIs PySem.F.entry_dict_clear (PySem.F.args_dict_clear_1 _) (meets_dict_clear (knd:=xca X.prog X.w) a) ⟨vs,l,by rw[<- g.length];exact z,λh' c hs=>?_⟩;exact⟨.non,_,xja j (by rw[i];exact True.intro) hs (let ⟨q,_,_,p,_⟩:=c;⟨q,p⟩) (xku (kvs:=[]) (qL _) hd .nil c),rfl,q⟩
end
def EqW(P:Program)(w:World)(A:Around)(s:Shared)(y x:Value):Prop:=∀(E:Value->Shared->Prop) (Q:Bool->Shared->Prop),Q true s->wpAny (model P w) A (eqBool y x) Q E s
theorem xs4 {P:Program} {w:World} {l b:Addr} {us zs:Array Value} {n m:Nat} {I G:Option Addr} {j i:Array (Option Value)} (hz:us.size=zs.size) :
  MeetsIn P w (Builtin.«tuple.__ne__» ⟨[.ref l,.ref b],[]⟩) (λA R s=>s.heap.get? l=some {cls:=.type "tuple",dict:=I,data:=.seq us n,slots:=j}/\s.heap.get? b=some {cls:=.type "tuple",dict:=G,data:=.seq zs m,slots:=i} ∧
   (∀p∈us.toList.zip zs.toList,EqW P w A.in1 s p.1 p.2)/\R (.ok (.ret (.bool false))) s):=
 .of_wp λA R s h=>by
  obtain⟨h0,C,J,g,o⟩:=s;obtain⟨r,z,u,h⟩:=h;have M:=AutoSeq1.sub_tuple_tuple
  wp_walk using AutoSeq1.wpAny_loadPart' r,AutoSeq1.wpAny_loadPart' z,wpAny_forIn_list _ (λrest c s'=>c.1=none/\s'=⟨h0,C,J,g,o⟩/\∀p∈rest,p∈us.toList.zip zs.toList) _
  case turn=>
   rintro⟨y,x⟩ rest c s' ⟨e,rfl,f⟩;refine zX (u (y,x) (f _ (by simp)) _ _ ?_)
   wp_walk
   exact⟨rfl,rfl,λp a=>f p (by simp[a])⟩
  case fin=>
   rintro⟨U,O⟩ s' ⟨e,rfl,_⟩;simp only at e;subst e
   wp_walk
   exact⟨_,rfl,by simpa[Builtin.Tuple.tupleCompareSizes,bne,hz] using h⟩
  case h=>exact⟨rfl,rfl,λp a=>a⟩
section
variable {X:Cx}
theorem xnm{P:Program}{w:World}{A:Around}{s:Shared}{y x:Value}(h:SeqAt.EqAt A s y x true):EqW P w A s y x:=λE Q q=>h P w E Q q
end
end L2
end
section
namespace L2
open PySem PySem.Spec PyProof.Rows
open PySem.W in
def xs3(K:Frag)(x m:Str):Bool:=
 specialIn K (.ref (ad K x)) "__getattribute__" == some (some (.builtin "type.__getattribute__")) && (readsIn K (ad K x) (.type "type") &&
 (match findCls K (.ref (ad K x)) (.type "type") m,findIn K (.ref (ad K x)) m with
  |some (.val a),some (some b)=>a == b
  |_,_=>false))
structure CTab(K:Fg)(x m:Str):Prop where
 ga:PySem.W.specialIn K (.ref (ad K x)) "__getattribute__"=some (some (.builtin "type.__getattribute__"))
 rd:PySem.W.readsIn K (ad K x) (.type "type")=true
 fc:∀f:Addr,PySem.W.findIn K (.ref (ad K x)) m=some (some (.ref f))->PySem.W.findCls K (.ref (ad K x)) (.type "type") m=some (.val (.ref f))
theorem ctab_of{K:Fg}{x m:Str}(e:xs3 K x m=true):CTab K x m:=by
 unfold xs3 at e;simp only[Bool.and_eq_true,beq_iff_eq]at e;obtain⟨l,j,b⟩:=e;refine⟨l,j,λf i=>?_⟩;rw[i]at b
 cases h:PySem.W.findCls K (.ref (ad K x)) (.type "type") m with
 |none=>rw[h]at b;cases b
 | some r=>
  cases r with
  |val a=>
   rw[h]at b;have:a=Value.ref f:=by simpa using b
   rw[this]
  |get g a c n=>rw[h]at b;cases b
section
variable {X:Cx}{n:Nat}{x m:Str}{ps:List Str}{sp:Sp}{p pos apos:Pos}{e:Expr}{es:List Expr}{t:TA}
theorem xrf {pl:Sem Bool} (D:MethIs X.prog X.w X.K X.mg X.base n (ad X.K x) m ps [[]] sp) (c:CTab X.K x m) (C:Room n X.A) (G:X.mg x=some (.ref (ad X.K x))) (O:PA X (e::es) t) (J:Gl X x:=by rfl) (l:(x == ("__debug__":Str))=false:=by decide)
  (i:starEach (e::es) X.env=(false,eval e X.env)::starEach es X.env:=by rfl) (j:(backTo pos (starEach es X.env)).any (·.1)=false:=by rfl)
  (z:eval (.Call (.Attribute (.Name x p) m a) (e::es) [] pos) X.env=(do
   let o <- eval (.Name x p) X.env
   standAt a.atName
   let (f,first) <- holding [o] (getMethod o m pl)
   callWith pos f first (backTo pos (starEach (e::es) X.env)) (backToKw pos (keywordEach [] X.env))):=by rfl):PE X (.Call (.Attribute (.Name x p) m a) (e::es) [] pos) (xop sp [] E0 t):=by
 obtain⟨f,Z,M,F,b⟩:=D.ex;intro g s σ H Q I h;refine PySem.W.methodCall_KW (pl:=pl) (xi4 I J G ?_ l) z;refine PySem.W.method_cls I.kIn c.ga (PySem.W.cls_value I.kIn c.rd (c.fc f M.at_) rfl ?_);have U:=I.tok (s.toks+1);refine PySem.W.callWith_K (h₀:=X.base) I.ok.mod.kin M.kp (thn (O pos g _ σ H _ U h) λus Y ⟨vs,H2,u,r,y⟩=>⟨u.kIn,?_⟩) i j;exact xmz F C (b [] (by simp)) .nil xpf u r y
end
end L2
end
section
namespace L2
open PySem PySem.Spec PySem.W PyProof.Rows M
open PySem.AutoSeq1 (wpAny_loadPart')
open PySem.MeetsSeq PySem.MeetsSeq2 PySem.MeetsSeq3 PySem.SeqRoads2 PySem.SeqAt
theorem xkh {P:Program} {w:World} (l b:Addr) (us zs:Array Value) (n m:Nat) (Y U:Option Addr) (G C:Array (Option Value)) (hz:us.size=zs.size) (c:Bool) (k:Nat) :
  ∀ i:Nat,us.size-i=k->MeetsIn P w (Builtin.«list.__eq__.loop» ⟨[.ref l,.ref b,rawInt i,rawInt (if c=true then 2 else 3)],[]⟩)
   (λA R s=>s.heap.get? l=some {cls:=.type "list",dict:=Y,data:=.seq us n,slots:=G}/\s.heap.get? b=some {cls:=.type "list",dict:=U,data:=.seq zs m,slots:=C} ∧
    (∀j (h1:j<us.size) (Z:j<zs.size),EqW P w A.in1 s us[j] zs[j])/\R (.ok (.ret (.bool c))) s):=by
 induction k with
 | zero=>
  intro i O A R s h;obtain⟨M,g,d,z,I⟩:=s;obtain⟨p,r,x,h⟩:=h;have f:us[((i:Nat):Int).toNat]?=none:=by simp;omega
  have e:zs[((i:Nat):Int).toNat]?=none:=by simp;omega
  cases c with
  |true=>
   simp only[if_true]
   wp_walk using wpAny_loadPart' p,wpAny_loadPart' r
   rw[f,e]
   wp_walk using wpAny_loadPart' p,wpAny_loadPart' r
   show R (.ok (.ret (.bool (us.size == zs.size)))) _;rw[hz];simpa using h
  |false=>
   simp only[Bool.false_eq_true,if_false]
   wp_walk using wpAny_loadPart' p,wpAny_loadPart' r
   rw[f,e]
   wp_walk using wpAny_loadPart' p,wpAny_loadPart' r
   show R (.ok (.ret (.bool (us.size != zs.size)))) _;rw[hz];simpa using h
 | succ k J=>
  intro i O A R s h;obtain⟨M,g,d,z,I⟩:=s;obtain⟨p,r,x,h⟩:=h;have u:i<us.size:=by omega
  have a:i<zs.size:=by omega
  have f:us[((i:Nat):Int).toNat]?=some us[i]:=by simp[u]
  have e:zs[((i:Nat):Int).toNat]?=some zs[i]:=by simp[a]
  have y:((i:Int)+1)=((i+1:Nat):Int):=by push_cast;rfl
  have o:=J (i+1) (by omega)
  cases c with
  | true=>
   simp only[if_true]at o⊢
   wp_walk using wpAny_loadPart' p,wpAny_loadPart' r
   rw[f,e];refine zX (x i u a _ _ ?_)
   wp_walk
   rw[y]
   exact⟨plainId_quiet plain_eq_loop _,codeAny_builtin entry_eq_loop (by
    rw[Around.under_plainId plain_eq_loop _];exact o A R _ ⟨p,r,x,h⟩)⟩
  | false=>
   simp only[Bool.false_eq_true,if_false]at o⊢
   wp_walk using wpAny_loadPart' p,wpAny_loadPart' r
   rw[f,e];refine zX (x i u a _ _ ?_)
   wp_walk
   rw[y]
   exact⟨plainId_quiet plain_eq_loop _,codeAny_builtin entry_eq_loop (by
    rw[Around.under_plainId plain_eq_loop _];exact o A R _ ⟨p,r,x,h⟩)⟩
theorem xt4 {P:Program} {w:World} {l b:Addr} {us zs:Array Value} {n m:Nat} {o i:Option Addr} {c a:Array (Option Value)} (hz:us.size=zs.size) :
  MeetsIn P w (Builtin.«list.__eq__» ⟨[.ref l,.ref b],[]⟩)
   (λA R s=>s.heap.get? l=some {cls:=.type "list",dict:=o,data:=.seq us n,slots:=c}/\s.heap.get? b=some {cls:=.type "list",dict:=i,data:=.seq zs m,slots:=a} ∧
    (∀j (C:j<us.size) (z:j<zs.size),EqW P w A.in1 s us[j] zs[j])/\R (.ok (.ret (.bool true))) s):=by
 intro A R s h;obtain⟨y,g,d,u,x⟩:=s;obtain⟨e,f,r,h⟩:=h;have G:=AutoSeq1.sub_list_list;have p:¬(us.size != zs.size)=true:=by simp[hz]
 wp_walk using wpAny_loadPart' e,wpAny_loadPart' f
 exact⟨plainId_quiet plain_eq_loop _,codeAny_builtin entry_eq_loop (by
  rw[Around.under_plainId plain_eq_loop _];exact xkh l b us zs n m o i c a hz true _ 0 rfl A R _ ⟨e,f,r,h⟩)⟩
theorem xt3 {P:Program} {w:World} {l b:Addr} {us zs:Array Value} {n m:Nat} {o i:Option Addr} {c a:Array (Option Value)} (hz:us.size=zs.size) :
  MeetsIn P w (Builtin.«list.__ne__» ⟨[.ref l,.ref b],[]⟩)
   (λA R s=>s.heap.get? l=some {cls:=.type "list",dict:=o,data:=.seq us n,slots:=c}/\s.heap.get? b=some {cls:=.type "list",dict:=i,data:=.seq zs m,slots:=a} ∧
    (∀j (C:j<us.size) (z:j<zs.size),EqW P w A.in1 s us[j] zs[j])/\R (.ok (.ret (.bool false))) s):=by
 intro A R s h;obtain⟨y,g,d,u,x⟩:=s;obtain⟨e,f,r,h⟩:=h;have G:=AutoSeq1.sub_list_list;have p:¬(us.size != zs.size)=true:=by simp[hz]
 wp_walk using wpAny_loadPart' e,wpAny_loadPart' f
 exact⟨plainId_quiet plain_eq_loop _,codeAny_builtin entry_eq_loop (by
  rw[Around.under_plainId plain_eq_loop _];exact xkh l b us zs n m o i c a hz false _ 0 rfl A R _ ⟨e,f,r,h⟩)⟩
theorem xs5 {P:Program} {w:World} {l b:Addr} {us zs:Array Value} {n m:Nat} {I G:Option Addr} {j i:Array (Option Value)} (hz:us.size=zs.size) :
  MeetsIn P w (Builtin.«tuple.__eq__» ⟨[.ref l,.ref b],[]⟩) (λA R s=>s.heap.get? l=some {cls:=.type "tuple",dict:=I,data:=.seq us n,slots:=j}/\s.heap.get? b=some {cls:=.type "tuple",dict:=G,data:=.seq zs m,slots:=i} ∧
   (∀p∈us.toList.zip zs.toList,EqW P w A.in1 s p.1 p.2)/\R (.ok (.ret (.bool true))) s):=
 .of_wp λA R s h=>by
  obtain⟨h0,C,J,g,o⟩:=s;obtain⟨r,z,u,h⟩:=h;have M:=AutoSeq1.sub_tuple_tuple
  wp_walk using AutoSeq1.wpAny_loadPart' r,AutoSeq1.wpAny_loadPart' z,wpAny_forIn_list _ (λrest c s'=>c.1=none/\s'=⟨h0,C,J,g,o⟩/\∀p∈rest,p∈us.toList.zip zs.toList) _
  case turn=>
   rintro⟨y,x⟩ rest c s' ⟨e,rfl,f⟩;refine zX (u (y,x) (f _ (by simp)) _ _ ?_)
   wp_walk
   exact⟨rfl,rfl,λp a=>f p (by simp[a])⟩
  case fin=>
   rintro⟨U,O⟩ s' ⟨e,rfl,_⟩;simp only at e;subst e
   wp_walk
   exact⟨_,rfl,by simpa[Builtin.Tuple.tupleCompareSizes,hz] using h⟩
  case h=>exact⟨rfl,rfl,λp a=>a⟩
end L2
end
section
namespace L2
open PySem PySem.Spec PySem.W PyProof.Rows M
open PySem.SeqAt
abbrev opC(c:Bool):CmpOp:=if c=true then .Eq else .NotEq
def RcW(P:Program)(w:World)(A:Around)(s:Shared)(c:Bool)(y x:Value):Prop:=∀(E:Value->Shared->Prop) (Q:Value->Shared->Prop),Q (.bool c) s->wpAny (model P w) A (compareOp (opC c) y x) Q E s
theorem xh4{P:Program}{w:World}{A:Around}{s:Shared}{a b:Addr}(h:RcW P w A s true (.ref a) (.ref b)):EqW P w A s (.ref a) (.ref b):=by
 by_cases e:a=b
 ·subst e
  exact xnm (EqAt.same _)
 intro E Q q;unfold eqBool;refine qI ?_;refine wpAny_ite_split (λc=>absurd (by have:=eq_of_beq c;injection this) e) (λ_=>?_);exact zX (h E _ (wpAny_truthy_bool q))
def EqA(H:Hp)(x y:V):Prop:=(∃d:D,RelD H x d/\RelD H y d/\d.deep<=100)\/∃a b us zs ds,x=.ref a/\y=.ref b/\H a=some (.lst us)/\H b=some (.lst zs)/\RelDs H us ds/\RelDs H zs ds/\xhd ds<=100
def EqS(H:Hp):Nat->V->V->Prop
 |0,x,y=>EqA H x y
 |n+1,x,y=>EqS H n x y\/(∃a b us zs,x=.ref a/\y=.ref b/\((H a=some (.tup us)/\H b=some (.tup zs))\/(H a=some (.lst us)/\H b=some (.lst zs)))/\us.length=zs.length/\∀(i:Nat) u z,us[i]?=some u->zs[i]?=some z->EqS H n u z) ∨
  ∃a b,∃k1 k2:List (Key×V),x=.ref a/\y=.ref b/\H a=some (.dK k1)/\H b=some (.dK k2)/\k1.length=k2.length/\∀p∈k1,∃v,valV k2 p.1=some v/\EqA H p.2 v
theorem EqS.mono{H:Hp}{n:Nat}{x y:V}(h:EqS H n x y):∀m,EqS H (n+m) x y
 |0=>h
 |m+1=>.inl (EqS.mono h m)
theorem EqS.dat{H:Hp}{n:Nat}{x y:V}(h:EqA H x y):EqS H n x y:=by
 have:=EqS.mono (n:=0) h n
 rwa[Nat.zero_add]at this
section
variable {X:Cx}{pins:List (Addr×Obj)}{σ:St}{H:Hp}{s:Shared}{A:Around}
theorem xp5 (I:Inv X O σ H s) {a b:Addr} {us zs:List V} (ha:H a=some (.lst us)) (hb:H b=some (.lst zs)) (hl:us.length=zs.length) (U:A.units<cLine)
  (he:∀(i:Nat) u z (G C:Value),us[i]?=some u->zs[i]?=some z->RelV u G->RelV z C->EqW X.prog X.w A.in1 s G C) (c:Bool):RcW X.prog X.w A s c (.ref a) (.ref b):=by
 intro E Q q;obtain⟨p,M,o1,_⟩:=I.list (zC (K:=X.K) ha);obtain⟨o,J,o2,_⟩:=I.list (zC (K:=X.K) hb);have e1:=M.length;have e2:=J.length;have hi:=o1.isList;have r:=o2.isList;obtain⟨⟨cls,dd,data,sl⟩,f,Y,n,hd⟩:=id hi;obtain⟨⟨a0,a2,y,a1⟩,e,m,n2,l⟩:=id r;simp only at Y hd m l;subst Y hd m l;have g:Value.bool c≠Value.notImplemented:=λx=>nomatch x;have hz:p.toArray.size=o.toArray.size:=by simp only[List.size_toArray];omega
 have h:∀j (h1:j<p.toArray.size) (Z:j<o.toArray.size),EqW X.prog X.w A.in1 s p.toArray[j] o.toArray[j]:=λj h1 Z=>by
  obtain⟨x1,f1,g1⟩:=xfy M h1;obtain⟨x2,f2,g2⟩:=xfy J Z;exact he j x1 x2 _ _ f1 f2 g1 g2
 cases c with
 |true=>exact wpAny_richCompare_same_room (op:=.Eq) ⟨_,f,rfl⟩ ⟨_,e,rfl⟩ PySem.F.slot_list_eq (call_meetsIn PySem.F.slot_list_eq ⟨_,f,rfl⟩ PySem.F.entry_list_eq (PySem.F.args_list_eq_2 _ _) (xt4 hz) ⟨f,e,h,g,q⟩) U
 |false=>exact wpAny_richCompare_same_room (op:=.NotEq) ⟨_,f,rfl⟩ ⟨_,e,rfl⟩ PySem.F.slot_list_ne (call_meetsIn PySem.F.slot_list_ne ⟨_,f,rfl⟩ PySem.F.entry_list_ne (PySem.F.args_list_ne_2 _ _) (xt3 hz) ⟨f,e,h,g,q⟩) U
theorem xom (I:Inv X Y σ H s) {a b:Addr} {us zs:List V} (ha:H a=some (.tup us)) (hb:H b=some (.tup zs)) (hl:us.length=zs.length) (Z:A.units<cLine)
  (he:∀(i:Nat) u z (M J:Value),us[i]?=some u->zs[i]?=some z->RelV u M->RelV z J->EqW X.prog X.w A.in1 s M J) (c:Bool):RcW X.prog X.w A s c (.ref a) (.ref b):=by
 intro E Q q;obtain⟨y,U,p1,_⟩:=I.tuple (zB (K:=X.K) ha);obtain⟨r,O,p2,_⟩:=I.tuple (zB (K:=X.K) hb);have e1:=U.length;have e2:=O.length;obtain⟨⟨cls,dd,data,sl⟩,g,hc,n,hd⟩:=id p1;obtain⟨⟨a0,a2,G,a1⟩,f,o,n2,m⟩:=id p2;simp only at hc hd o m;subst hc hd o m;have h:Value.bool c≠Value.notImplemented:=λx=>nomatch x;have hz:y.toArray.size=r.toArray.size:=by simp only[List.size_toArray];omega
 have l:∀p∈y.toArray.toList.zip r.toArray.toList,EqW X.prog X.w A.in1 s p.1 p.2:=λp hp=>by
  obtain⟨j,C,e⟩:=zMI hp;rw[List.length_zip]at C;have h1:j<y.toArray.size:=by simp at C⊢;omega
  have h2:j<r.toArray.size:=by simp at C⊢;omega
  obtain⟨x1,f1,g1⟩:=xfy U h1;obtain⟨x2,f2,g2⟩:=xfy O h2;rw[<- e,List.getElem_zip];exact he j x1 x2 _ _ f1 f2 (by simpa using g1) (by simpa using g2)
 cases c with
 |true=>exact wpAny_richCompare_same_room (op:=.Eq) ⟨_,g,rfl⟩ ⟨_,f,rfl⟩ PySem.F.slot_tuple_eq (call_meetsIn PySem.F.slot_tuple_eq ⟨_,g,rfl⟩ PySem.F.entry_tuple_eq (PySem.F.args_tuple_eq_2 _ _) (xs5 hz) ⟨g,f,l,h,q⟩) Z
 |false=>exact wpAny_richCompare_same_room (op:=.NotEq) ⟨_,g,rfl⟩ ⟨_,f,rfl⟩ PySem.F.slot_tuple_ne (call_meetsIn PySem.F.slot_tuple_ne ⟨_,g,rfl⟩ PySem.F.entry_tuple_ne (PySem.F.args_tuple_ne_2 _ _) (xs4 hz) ⟨g,f,l,h,q⟩) Z
theorem xsy(I:Inv X r σ H s){x y:V}{u v:Value}(h:EqA H x y)(l:RelV x u)(i:RelV y v)(hu:A.units+110<cLine):EqAt A s u v true:=by
 rcases h with⟨d,g,f,hd⟩ |⟨a,b,us,zs,ds,rfl,rfl,Y,U,n,m,hd⟩
 ·exact xqm I 100 d hd g f l i (by omega)
 ·obtain rfl:u=.ref a:=l
  obtain rfl:v=.ref b:=i;by_cases c:a=b
  ·subst c
   exact EqAt.same _
  obtain⟨O,p,G,_⟩:=I.list (zC (K:=X.K) Y);obtain⟨i2,o,C,_⟩:=I.list (zC (K:=X.K) U);have e1:=p.length;have e2:=o.length;have e3:=n.length;have e4:=m.length;have:=EqAt.of_refs c (RcAt.lists (A:=A) (e:=λ_=>true) G.isList C.isList (by simp only[List.size_toArray];omega) (by omega) λj g f=>?_)
  ·have e:(List.range O.toArray.size).all (λ_=>true)=true:=by simp
   rw[e]at this;exact this
  ·obtain⟨x1,f1,g1⟩:=xfy p g
   obtain⟨x2,f2,Z⟩:=xfy o f;obtain⟨d1,z,M⟩:=n.get f1;obtain⟨d2,w,J⟩:=m.get f2;rw[z]at w;cases w;exact xqm I 100 d1 (zY (xem (zMG z)) hd) M J g1 Z (by show A.units+1+100<cLine;omega)
theorem xno(I:Inv X i σ H s)(l:A.units+110<cLine){j:List (Key×V)}{a:List (Key×Value)}(h:KV j a):∀(ks:List (Key×V)) (us:List (Key×Value)),KV ks us->(∀p∈ks,∃v,valV j p.1=some v/\EqA H p.2 v)->KeqHits A s a us true
 |[],us,r,_=>by cases r;exact .nil
 | k::ks,us,r,hd=>by
  cases r with
  | @cons _ m _ f w n=>
   obtain⟨v,z,x⟩:=hd k (by simp);have c:=h.val k.1;rw[z]at c
   cases g:valueAt a k.1 with
   |none=>rw[g]at c;exact c.elim
   |some y=>
    rw[g]at c;obtain⟨G,C⟩:=m;obtain⟨rfl,u⟩:=w;have:=KeqHits.hit (e:=true) (b:=true) g (xsy I x u c l) (xno I l h ks f n λp o=>hd p (qC _ o));exact this
theorem xwb (I:Inv X o σ H s) {a b:Addr} {m n:List (Key×V)} (C:H a=some (.dK m)) (y:H b=some (.dK n)) (M:m.length=n.length) (J:A.units+111<cLine)
  (x:∀p∈m,∃v,valV n p.1=some v/\EqA H p.2 v) (c:Bool):RcW X.prog X.w A s c (.ref a) (.ref b):=by
 intro E Q q;obtain⟨z,j,vs,h,u⟩:=xht I.hok C;obtain⟨G,i,g,e,l⟩:=xht I.hok y;have U:=h.length;have O:=e.length;have f:=xno (A:=A.in1) I (by show A.units+1+110<cLine;omega) e m vs h x;have r:(vs.length == g.length && true)=true:=by rw[show vs.length=g.length by omega];simp
 cases c with
 |true=>exact keq_eq j i u l (by omega) (λ_=>f) (by rw[r];exact q)
 |false=>exact keq_ne j i u l (by omega) (λ_=>f) (by rw[r];exact q)
theorem xr4(I:Inv X r σ H s):∀(n:Nat) {x y:V} {u v:Value} {A:Around},EqS H n x y->RelV x u->RelV y v->A.units+120+n<cLine->EqW X.prog X.w A s u v
 |0,x,y,u,v,A,h,e,c,C=>xnm (xsy I h e c (by omega))
 | n+1,x,y,u,v,A,h,e,c,C=>by
  rcases h with h |⟨a,b,us,zs,rfl,rfl,h,l,p⟩ |⟨a,b,Y,U,rfl,rfl,j,g,l,p⟩
  ·exact xr4 I n h e c (by omega)
  ·obtain rfl:u=.ref a:=e
   obtain rfl:v=.ref b:=c;have f:∀(i:Nat) u z (o m:Value),us[i]?=some u->zs[i]?=some z->RelV u o->RelV z m->EqW X.prog X.w A.in1 s o m:=λi u z o m O M J G=>xr4 I n (p i u z O M) J G (by show A.units+1+120+n<cLine;omega);rcases h with⟨j,g⟩ |⟨j,g⟩
   ·exact xh4 (xom I j g l (by omega) f true)
   ·exact xh4 (xp5 I j g l (by omega) f true)
  ·obtain rfl:u=.ref a:=e
   obtain rfl:v=.ref b:=c;exact xh4 (xwb I j g l (by omega) p true)
def rEqZ(c:Bool):R2:=λx y H Q=>EqS H 12 x y/\(∃a b,x=.ref a/\y=.ref b)/\Q (.bl c) H
theorem rcS(I:Inv X a0 σ H s)(c:Bool):∀(n:Nat) {a b:Addr} {A:Around},EqS H n (.ref a) (.ref b)->A.units+120+n<cLine->RcW X.prog X.w A s c (.ref a) (.ref b)
 | 0,a,b,A,h,hA=>by
  rcases h with⟨d,x,Z,hd⟩ |⟨a',b',us,zs,ds,j,g,f,e,p,o,hd⟩
  ·cases d with
   |int i=>exact nomatch x
   |str z=>exact nomatch x
   |tup ds=>
    obtain⟨a',us,j,f,p⟩:=x;obtain⟨b',zs,g,e,o⟩:=Z;cases j;cases g;refine xom I f e (by rw[p.length,o.length]) (by omega) (λi u z m l J G U O=>?_) c;obtain⟨d1,C,g1⟩:=p.get J;obtain⟨d2,y,g2⟩:=o.get G;rw[C]at y;cases y;have h':xhd ds+1<=100:=hd;exact xnm (xqm I 100 d1 (zY (xem (zMG C)) (by omega)) g1 g2 U O (by show A.units+1+100<cLine;omega))
  ·cases j
   cases g;refine xp5 I f e (by rw[p.length,o.length]) (by omega) (λi u z m l J G U O=>?_) c;obtain⟨d1,C,g1⟩:=p.get J;obtain⟨d2,y,g2⟩:=o.get G;rw[C]at y;cases y;exact xnm (xqm I 100 d1 (zY (xem (zMG C)) hd) g1 g2 U O (by show A.units+1+100<cLine;omega))
 | n+1,a,b,A,h,hA=>by
  rcases h with h |⟨a',b',us,zs,j,g,h,M,Y⟩ |⟨a',b',J,G,j,g,f,e,M,Y⟩
  ·exact rcS I c n h (by omega)
  ·cases j
   cases g;have r:∀(i:Nat) u z (m l:Value),us[i]?=some u->zs[i]?=some z->RelV u m->RelV z l->EqW X.prog X.w A.in1 s m l:=λi u z m l x Z h3 h4=>xr4 I n (Y i u z x Z) h3 h4 (by show A.units+1+120+n<cLine;omega);rcases h with⟨f,e⟩ |⟨f,e⟩
   ·exact xom I f e M (by omega) r c
   ·exact xp5 I f e M (by omega) r c
  ·cases j
   cases g;exact xwb I f e M (by omega) Y c
theorem xvo(j:X.A.units+200<cLine)(c:Bool):OpR X (compareOp (opC c)) (rEqZ c):=by
 intro e s σ H x y v u Q I g f h;obtain⟨i,⟨a,b,rfl,rfl⟩,q⟩:=h;obtain rfl:v=.ref a:=g;obtain rfl:u=.ref b:=f;exact rcS I c 12 i (by omega) _ _ ⟨.bl c,H,I,rfl,q⟩
theorem xfu(a:X.A.units+200<cLine):OpR X (compareOp .NotEq) (rEqZ false):=xvo a false
end
end L2
end
section
namespace L2
open PySem PySem.Spec PyProof.Rows
theorem xml:∀{xs:List V} {us:List Value},Vals xs us->Vals xs.reverse us.reverse
 |_,_,.nil=>.nil
 |_,_,.cons r t=>by
  rw[List.reverse_cons,List.reverse_cons];exact(xml t).append (.cons r .nil)
section
variable {X:Cx}{e st o:Expr}{te ts td ty:TE}{pos p2 apos cpos:Pos}
def xwp(K:Fg)(te ts:TE):TE:=λσ H Q=>te σ H λx H1=>ts σ H1 λy H2=>y=.int (-1)/\∃a xs,x=.ref a/\SqL K H2 a xs/\∀l,H2 l=none->Q (.ref l) (upd H2 l (.lst xs.reverse))
theorem xtk{ops:Value->Value->List Value}(J:PE X e m)(hs:PE X st ts)(f:∀o i,subscripted (.Slice none none (some st) z) false o i=operate (ops o i) (getItem o i)):PE X (.Subscript e (.Slice none none (some st) z) pos) (xwp X.K m ts):=by
 intro c s σ H Q I h;refine Subscript_ (thn (J c s σ H _ I h) λv n ⟨x,Z,U,r,w⟩=>?_);refine wpAny_Slice ?_;rw[evalPart_none];refine z3 (z3 ?_);rw[evalPart_some];refine thn (hs c n σ Z _ U w) λu g ⟨y,Y,O,p,M,a,xs,ex,G,q⟩=>?_;subst M ex;obtain⟨t,rfl⟩:=p;obtain rfl:v=.ref a:=r;have j:Inv X c σ Y {g with heap:=g.heap.push {cls:=.type "slice",data:=.fields #[.none,.none,.int (-1) t]}}:=O.kept (t':=g.toks) λb C q=>zPO _ q;obtain⟨its,l,pl,hz⟩:=j.list G;refine tail_any pl.isList.typeIs slot_list_getitem.lookup ?_ (f _ _);refine wpAny_getItem_list_slice pl.isList (Heap.IsSliceOf.new ..) .none .none (.int (-1) t) (by decide) ?_ (by rw[List.size_toArray,<- l.length];exact hz);rw[PySem.W.krv_pick];exact⟨.ref _,_,j.laid (t':=g.toks) (o:=.lst xs.reverse) (λb C q=>zPO _ q) (zZ _) ⟨by rw[List.length_reverse];exact hz,its.reverse,0,xml l,z6 _ rfl⟩,rfl,q _ (j.hok.fresh (zZ _))⟩
def xwt(td ty:TE):TE:=λσ H Q=>td σ H λx H1=>∃a,x=.ref a/\IsD H1 a/\ty σ H1 λy H2=>∃b,∃kvs more:List (Key×V),y=.ref b/\H2 a=some (.dK kvs)/\H2 b=some (.dK more)/\a≠b/\kvs.length+more.length<=sizeLine/\Q .non (upd H2 a (.dK (xc2 kvs more)))
theorem xit(ho:PE X o td)(he:PE X e M)(m:M1 X o "update" l e j):PE X (.Call (.Attribute o "update" l) [e] [] j) (xwt td M):=by
 intro f s σ H Q I h;refine wpAny_Call_method m.base m.few m.line PySem.F.plainAttrs_dict PySem.F.slot_dict_update PySem.F.type_dict_update (thn (ho f s σ H _ I h) λu U ⟨x,H1,J,Z,a,ex,d,q1⟩=>?_);subst ex;obtain rfl:u=Value.ref a:=Z;obtain⟨O,t2,_⟩:=xnd J d;refine⟨O,t2,?_⟩;rw[m.trees];refine Calls.callWith_builtin rfl (Calls.evalArgs_plain (Calls.spliced_cons (thn (he f U σ H1 _ J q1) λiv s2 ⟨y,H2,z,Y,b,kvs,more,ey,C,hb,ne,hz,q2⟩=>Calls.spliced_nil ?_)));subst ey;obtain rfl:iv=Value.ref b:=Y;obtain⟨z1,p,vs,g,G⟩:=xht z.hok C;obtain⟨z2,n,ws,c,r⟩:=xht z.hok hb;have l1:=g.length;have l2:=c.length;refine call_meetsIn PySem.F.slot_dict_update G.typeIs PySem.F.entry_dict_update (PySem.F.args_dict_update_2 _ _) (meets_dict_update (xca X.prog X.w) a b ne n) ⟨vs,ws,G,r,by omega,λh' i _ hs=>?_⟩;exact⟨.non,_,xja z (by rw[C];exact True.intro) hs (let ⟨q,_,_,hq,_⟩:=i;⟨q,hq⟩) (xku (zY (xd9 more kvs) hz) p (c.merge g) i),rfl,q2⟩
end
end L2
end
section
namespace L2
open PySem PySem.Spec PySem.W PyProof.Rows M
open PySem.SeqAt
theorem xof {P:Program} {w:World} {G:Type} [DecidableEq G] {kk:KeyKind P w G} {A:Around} {E:Value->Shared->Prop} {s:Shared} {nm:String} {a b:Addr} {ka kb:List (G×Value)} {Q:Bool->Shared->Prop}
  (na:(a == sysModules)=false) (nb:(b == sysModules)=false) (da:s.heap.DictOf kk a ka) (db:s.heap.DictOf kk b kb) (hl:ka.length=kb.length) (he:∀p∈ka,∃y,valueAt kb p.1=some y/\EqW P w A s p.2 y) (h:Q true s) :
  wpAny (model P w) A (Builtin.Dict.samePairs nm a b) Q E s:=by
 obtain⟨oa,es,ep,ga,_,fa,ha,pa,_⟩:=da;obtain⟨ob,fs,eq,gb,_,fb,hb,pb,_⟩:=db;have la:es.size=ka.length:=by rw[<- pa.length,Array.length_toList]
 have lb:fs.size=kb.length:=by rw[<- pb.length,Array.length_toList]
 have sz:es.size=fs.size:=by omega
 have look:∀k,findBy kk.is fs k=valueAt kb k:=λk=>by
  rw[<- pb.find k];clear lb pb hb fb gb sz;obtain⟨l⟩:=fs;simp[findBy]
 unfold Builtin.Dict.samePairs Builtin.Dict.showsAll;rw[na,nb];simp only[Bool.false_eq_true,if_false];refine zX (z3 (zX (z3 (zX (wpAny_dictEntries ga fa (zX (wpAny_dictEntries gb fb ?_)))))));rw[if_neg (by rw[sz];simp)];refine zX (wpAny_dictEpoch ga fa (zX ?_));rw[Std.Legacy.Range.forIn_eq_forIn_range'];refine wpAny_forIn_list _ (λrest c s'=>s'=s/\c.1=none/\∀i∈rest,i<es.size) _ ?_ ?_ _ _ ⟨rfl,rfl,λi hi=>?_⟩
 ·rintro i rest ⟨c1,c2⟩ s' ⟨rfl,hc,hm⟩
  simp only at hc;subst hc;have hi:i<es.size:=hm i (by simp);have hk:i<ka.length:=by omega
  obtain⟨e1,e2⟩:=pa.get? (i:=i) (e:=es[i]) (k:=ka[i].1) (v:=ka[i].2) (by rw[Array.getElem?_toList];exact Array.getElem?_eq_getElem hi) (by rw[zGA hk]);obtain⟨k',f1,f2⟩:=ha es[i] (Array.getElem_mem hi);obtain rfl:k'=ka[i].1:=kk.inj _ _ _ f1 e1;obtain⟨y,y1,y2⟩:=he ka[i] (qM hk);refine zX (wpAny_dictEntries ga fa ?_);rw[Array.getElem?_eq_getElem hi];show wpAny _ _ (holding [es[i].key,es[i].val] _ >>= _) _ _ _;rw[f2];refine zX (qI (zX (wpAny_dictFind_of e1 gb fb hb ?_)));rw[<- look,findBy_of_findIdx?]at y1
  cases hj:fs.findIdx? λe=>kk.is ka[i].1 e.key with
  |none=>rw[hj]at y1;exact nomatch y1
  |some j=>
   obtain⟨hj',_,_⟩:=Array.findIdx?_eq_some_iff_getElem.mp hj;rw[hj]at y1;have ey:fs[j].val=y:=by simpa[Array.getElem?_eq_getElem hj'] using y1
   refine zX (wpAny_dictEntries gb fb ?_);rw[Array.getElem?_eq_getElem hj'];rw[<- ey,<- e2]at y2;refine qI (y2 _ _ ?_);simp only[Bool.not_true,Bool.false_eq_true,if_false];refine zX (wpAny_dictEpoch ga fa ?_);rw[if_neg (by simp)];exact z3 ⟨rfl,rfl,λj hj=>hm j (by simp[hj])⟩
 ·rintro⟨c1,c2⟩ s' ⟨rfl,hc,_⟩
  simp only at hc;subst hc;exact z3 h
 ·simp only[Std.Legacy.Range.size]at hi
  have:=List.mem_range'.mp hi;obtain⟨j,h1,h2⟩:=this;omega
def EqX(H:Hp):Nat->V->V->Prop
 |0,x,y=>EqS H 12 x y
 |n+1,x,y=>EqX H n x y\/(∃a b us zs,x=.ref a/\y=.ref b/\((H a=some (.tup us)/\H b=some (.tup zs))\/(H a=some (.lst us)/\H b=some (.lst zs)))/\us.length=zs.length/\∀(i:Nat) u z,us[i]?=some u->zs[i]?=some z->EqX H n u z) ∨
  ∃a b,∃k1 k2:List (Key×V),x=.ref a/\y=.ref b/\H a=some (.dK k1)/\H b=some (.dK k2)/\k1.length=k2.length/\∀p∈k1,∃v,valV k2 p.1=some v/\EqX H n p.2 v
section
variable {X:Cx}{pins:List (Addr×Obj)}{σ:St}{H:Hp}{s:Shared}
theorem xst:∀{b:List (Key×V)} {vs:List (Key×Value)},KV b vs->∀p∈vs,∃v,(p.1,v)∈b/\RelV v p.2
 |_,_,.nil,p,a=>nomatch a
 | _,_,@Paired.cons _ _ _ x y _ _ h t,p,a=>by
  rcases zMC a with rfl |a
  ·obtain⟨f,c⟩:=x
   obtain⟨e,r⟩:=h;exact⟨c,by rw[show p.1=f from e.symm];simp,r⟩
  ·obtain⟨v,i,g⟩:=xst t p a
   exact⟨v,qC _ i,g⟩
theorem xsz (I:Inv X C σ H s) {A:Around} {a b:Addr} {n m:List (Key×V)} (ha:H a=some (.dK n)) (Z:H b=some (.dK m)) (hl:n.length=m.length) (J:A.units<cLine)
  (Y:∀p∈n,∃v,valV m p.1=some v/\∀u z,RelV p.2 u->RelV v z->EqW X.prog X.w A.in1 s u z) (c:Bool):RcW X.prog X.w A s c (.ref a) (.ref b):=by
 intro E Q q;obtain⟨z,r,vs,j,h⟩:=xht I.hok ha;obtain⟨z2,o,i,g,e⟩:=xht I.hok Z;have e1:=j.length;have e2:=g.length
 have U:∀p∈vs,∃y,valueAt i p.1=some y/\EqW X.prog X.w A.in1 s p.2 y:=λp O=>by
  obtain⟨v,h1,h2⟩:=xst j p O;obtain⟨v',h3,h4⟩:=Y _ h1;have l:=g.val p.1;rw[h3]at l
  cases G:valueAt i p.1 with
  |none=>rw[G]at l;exact l.elim
  |some y=>rw[G]at l;exact⟨y,rfl,h4 _ _ h2 l⟩
 have f:∀(nm:String) (R:Bool->Shared->Prop),R true s->∀M,wpAny (model X.prog X.w) A.in1 (Builtin.Dict.samePairs nm a b) R M s:=λnm R hR M=>xof r o h e (by omega) U hR
 cases c with
 |true=>
  refine wpAny_richCompare_same_room (op:=.Eq) h.typeIs e.typeIs PySem.F.slot_dict_eq (wpAny_call_entry PySem.F.slot_dict_eq h.typeIs PySem.F.entry_dict_eq ?_ (PySem.F.args_dict_eq_2 _ _)) J;show wpAny _ _ (Builtin.Dict.dictSlotArgs "__eq__" ⟨[.ref a,.ref b],[]⟩ >>= _) _ _ s;unfold Builtin.Dict.dictSlotArgs;refine zX (zX (wpAny_notOrdered_dict h.typeIs (z3 (zX (wpAny_isInstance (T:="dict") e.typeIs PySem.F.sub_dict_dict ?_)))));simp only[Bool.not_true,Bool.false_eq_true,if_false];exact zX (z3 (zX (z3 (zX (f _ _ (z3 ⟨_,rfl,(λx=>by cases x),q⟩) _)))))
 |false=>
  refine wpAny_richCompare_same_room (op:=.NotEq) h.typeIs e.typeIs PySem.F.slot_dict_ne (wpAny_call_entry PySem.F.slot_dict_ne h.typeIs PySem.F.entry_dict_ne ?_ (PySem.F.args_dict_ne_2 _ _)) J;show wpAny _ _ (Builtin.Dict.dictSlotArgs "__ne__" ⟨[.ref a,.ref b],[]⟩ >>= _) _ _ s;unfold Builtin.Dict.dictSlotArgs;refine zX (zX (wpAny_notOrdered_dict h.typeIs (z3 (zX (wpAny_isInstance (T:="dict") e.typeIs PySem.F.sub_dict_dict ?_)))));simp only[Bool.not_true,Bool.false_eq_true,if_false];exact zX (z3 (zX (z3 (zX (f _ _ (z3 ⟨_,rfl,(λx=>by cases x),q⟩) _)))))
theorem xqn(I:Inv X J σ H s):∀(n:Nat) {x y:V} {u v:Value} {A:Around},EqX H n x y->RelV x u->RelV y v->A.units+140+n<cLine->EqW X.prog X.w A s u v
 |0,x,y,u,v,A,h,e,c,Y=>xr4 I 12 h e c (by omega)
 | n+1,x,y,u,v,A,h,e,c,Y=>by
  rcases h with h |⟨a,b,us,zs,rfl,rfl,h,l,r⟩ |⟨a,b,k1,k2,rfl,rfl,j,g,l,r⟩
  ·exact xqn I n h e c (by omega)
  ·obtain rfl:u=.ref a:=e
   obtain rfl:v=.ref b:=c;have f:∀(i:Nat) u z (o m:Value),us[i]?=some u->zs[i]?=some z->RelV u o->RelV z m->EqW X.prog X.w A.in1 s o m:=λi u z o m G C h3 Z=>xqn I n (r i u z G C) h3 Z (by show A.units+1+140+n<cLine;omega);rcases h with⟨j,g⟩ |⟨j,g⟩
   ·exact xh4 (xom I j g l (by omega) f true)
   ·exact xh4 (xp5 I j g l (by omega) f true)
  ·obtain rfl:u=.ref a:=e
   obtain rfl:v=.ref b:=c;exact xh4 (xsz I j g l (by omega) (λp U=>by obtain⟨v,G,C⟩:=r p U;exact⟨v,G,λu z O M=>xqn I n C O M (by show A.units+1+140+n<cLine;omega)⟩) true)
theorem rcX(I:Inv X G σ H s)(c:Bool):∀(n:Nat) {a b:Addr} {A:Around},EqX H n (.ref a) (.ref b)->A.units+140+n<cLine->RcW X.prog X.w A s c (.ref a) (.ref b)
 |0,a,b,A,h,U=>rcS I c 12 h (by omega)
 | n+1,a,b,A,h,U=>by
  rcases h with h |⟨a',b',us,zs,C,y,h,j,o⟩ |⟨a',b',k1,k2,C,y,g,f,j,o⟩
  ·exact rcX I c n h (by omega)
  ·cases C
   cases y;have e:∀(i:Nat) u z (m l:Value),us[i]?=some u->zs[i]?=some z->RelV u m->RelV z l->EqW X.prog X.w A.in1 s m l:=λi u z m l x r Z Y=>xqn I n (o i u z x r) Z Y (by show A.units+1+140+n<cLine;omega);rcases h with⟨g,f⟩ |⟨g,f⟩
   ·exact xom I g f j (by omega) e c
   ·exact xp5 I g f j (by omega) e c
  ·cases C
   cases y;exact xsz I g f j (by omega) (λp O=>by obtain⟨v,x,r⟩:=o p O;exact⟨v,x,λu z M J=>xqn I n r M J (by show A.units+1+140+n<cLine;omega)⟩) c
def rEqX(c:Bool):R2:=λx y H Q=>EqX H 6 x y/\(∃a b,x=.ref a/\y=.ref b)/\Q (.bl c) H
theorem xvp(j:X.A.units+200<cLine)(c:Bool):OpR X (compareOp (opC c)) (rEqX c):=by
 intro e s σ H x y v u Q I g f h;obtain⟨i,⟨a,b,rfl,rfl⟩,q⟩:=h;obtain rfl:v=.ref a:=g;obtain rfl:u=.ref b:=f;exact rcX I c 6 i (by omega) _ _ ⟨.bl c,H,I,rfl,q⟩
theorem xtp(a:X.A.units+200<cLine):OpR X (compareOp .NotEq) (rEqX false):=xvp a false
theorem xvm:OpR X (compareOp .Is) (λx y H Q=>y=.bl false/\∃b,x=.bl b/\Q (.bl (!b)) H):=by
 intro a s σ H x y v u Q I e c h;obtain⟨rfl,b,rfl,q⟩:=h;cases e;cases c;cases b <;> exact z3 ⟨.bl _,H,I,rfl,q⟩
end
end L2
end
section
namespace M
open PySem L2
def ArmN(ks:List Kn)(z:Str):Prop:=(∃j,z=byN j)\/∃k∈ks,∃p∈k.parts,p.1=z
def FitK(ks:List Kn)(bs:List (Str×Str))(env:En):Prop:=(∀p∈bs,env p.1=some (.str p.2))/\∀z,ArmN ks z->(∀q∈bs,q.1≠z)->env z=none
theorem FitK.put{ks:List Kn}{bs:List (Str×Str)}{env:En}{y k:Str}(h:FitK ks bs env)(f:∀p∈bs,p.1≠y):FitK ks (bs++[(y,k)]) (env.put y (.str k)):=by
 refine⟨λp a=>?_,λz hz e=>?_⟩
 ·unfold En.put
  rcases zMA a with a |a
  ·rw[if_neg (f p a)];exact h.1 p a
  ·rw[zMO a,if_pos rfl]
 ·unfold En.put
  have b:y≠z:=e (y,k) (by simp);rw[if_neg (Ne.symm b)];exact h.2 z hz λq c=>e q (by simp[c])
def TmK(ks:List Kn)(n:Nat)(bs:List (Str×Str))(d:D)(x:Str):Prop:=∀env,FitK ks bs env->Kd True ks n env d x
def TmB(ks:List Kn)(n:Nat)(bs:List (Str×Str))(d:D)(x:Str):Prop:=TmOk ks n bs d x/\TmK ks n bs d x
theorem xqc{ks:List Kn}{n:Nat}{env:En}{d:D}{x:Str}(h:xq1 env d x):Kd True ks n env d x:=by
 cases n with
 |zero=>exact h
 |succ n=>exact .inl h
theorem xur{ks:List Kn}{n:Nat}{bs:List (Str×Str)}{i:Int}(h:Nm i):TmB ks n bs (tNum i) (S "num"):=⟨xum h,λenv _=>xqc (.inl ⟨i,h,rfl,rfl⟩)⟩
theorem xoo{ks:List Kn}{n:Nat}{bs:List (Str×Str)}{y x:Str}(h:(y,x)∈bs):TmB ks n bs (tBox y) x:=⟨xuo h,λenv a=>xqc (.inr ⟨y,a.1 _ h,rfl⟩)⟩
theorem xwn{ks:List Kn}(g:KWf ks){n:Nat}{bs:List (Str×Str)}{s:Str}{a b:D}(hs:Sg s)(f:TmB ks n bs a (S "num"))(e:TmB ks n bs b (S "num")):TmB ks (n+1) bs (tOpD s a b) (S "num"):=
 ⟨xwk g hs f.1 e.1,λenv c=>.inr (.inl ⟨s,a,b,f.2 env c,e.2 env c,rfl,rfl⟩)⟩
theorem xuq{ks:List Kn}{n:Nat}{bs:List (Str×Str)}{x:Str}{k:Kn}{es:List D}(b:kAt ks x=some k)(a:k.rc=true)(c:k.parts.length<=1000)(h:All2 (λe (p:Str×Str)=>TmB ks n bs e p.2) es k.parts):TmB ks (n+1) bs (tRec x es) x:=
 ⟨xul b a c (h.imp λ_ _ h=>h.1),λenv f=>.inr (.inr (.inl ⟨es,k,b,a,h.imp λ_ _ h=>h.2 env f,rfl⟩))⟩
theorem xlq{k:Kn}{p:Str×Str}(nd:(k.parts.map (·.1)).Nodup)(b:p∈k.parts):xj1 k p.1=some p.2:=by
 unfold xj1;obtain⟨i,hi,e⟩:=zMI b;have:=xey (f:=λr:Str×Str=>r.1) (xs:=k.parts) (i:=i) (a:=p) nd (by rw[<- e];exact zGA hi);rw[this];rfl
theorem xus{ks:List Kn}(c:KWf ks){n:Nat}{bs:List (Str×Str)}{y:Str}{k:Kn}{a:D}{p:Str×Str}(b:kAt ks y=some k)(e:k.rc=true)(f:p∈k.parts)(h:TmB ks n bs a y):TmB ks (n+1) bs (tGet a p.1) p.2:=
 ⟨xun c b e f h.1,λenv g=>.inr (.inr (.inr (.inl ⟨a,y,p.1,k,h.2 env g,b,e,xlq (c.pnd k (zMF b)) f,rfl⟩)))⟩
theorem xup{ks:List Kn}(f:KWf ks){n:Nat}{bs:List (Str×Str)}{x:Str}{k:Kn}{a:D}{p:Str×Str}(b:kAt ks x=some k)(c:k.rc=false)(e:p∈k.parts)(h:TmB ks n bs a p.2):TmB ks (n+1) bs (tTag x p.1 a) x:=
 ⟨xuk b c e h.1,λenv g=>.inr (.inr (.inr (.inr (.inl ⟨p.1,a,k,p.2,b,c,xlq (f.pnd k (zMF b)) e,h.2 env g,rfl⟩))))⟩
theorem xcr{α β:Type}{f:α->β}:∀{l:List α},(l.map f).Nodup->∀{a b:α},a∈l->b∈l->f a=f b->a=b
 |[],_,a,_,i,_,_=>nomatch i
 | c::l,nd,a,b,i,j,e=>by
  rw[List.map_cons,List.nodup_cons]at nd;rcases zMC i with h |h <;> rcases zMC j with g |g
  ·rw[h,g]
  ·rw[h]at e
   exact absurd (by rw[e];exact qD g) nd.1
  ·rw[g]at e
   exact absurd (by rw[<- e];exact qD h) nd.1
  ·exact xcr nd.2 h g e
theorem xs8 {ks:List Kn} (j:KWf ks) {n:Nat} {bs:List (Str×Str)} {x y:Str} {k:Kn} {a:D} {rs:List (Str×Str×D)} (m:kAt ks y=some k) (l:k.rc=false) (w:TmB ks n bs a y) (C:rs.length<=1000) (nd:(rs.map (·.1)).Nodup)
  (b:rs.length=k.parts.length) (c:∀r∈rs,∃p∈k.parts,p.1=r.1)
  (h:∀p∈k.parts,∃z e,(p.1,z,e)∈rs/\(∀q∈bs,q.1≠z)/\ArmN ks z/\TmB ks n (bs++[(z,p.2)]) e x):TmB ks (n+1) bs (xnw a rs) x:=by
 have u:=zMF m;refine⟨xs6 j m l w.1 C nd λp g=>?_,λenv o=>.inr (.inr (.inr (.inr (.inr (.inl ⟨True.intro,a,rs,y,k,w.2 env o,m,l,?_,b,nd,λr f=>?_,rfl⟩)))))⟩
 ·obtain⟨z,e,s,i,g3,g4⟩:=h p g
  exact⟨z,e,s,i,g4.1⟩
 ·intro e
  have h0:k.parts=[]:=List.eq_nil_of_length_eq_zero (by rw[<- b,e];rfl);exact j.alt k u l h0
 ·obtain⟨p,g,e⟩:=c r f
  obtain⟨z,I,s,i,g3,g4⟩:=h p g;have G:r=(p.1,z,I):=xcr nd f s e.symm;subst G;exact⟨o.2 z g3 i,p.2,xlq (j.pnd k u) g,g4.2 _ (o.put i)⟩
theorem xwo{ks:List Kn}(i:KWf ks){n:Nat}{bs:List (Str×Str)}{x:Str}{a b c:D}(h:TmB ks n bs a (S "num"))(g:TmB ks n bs b x)(f:TmB ks n bs c x):TmB ks (n+1) bs (tIfD a b c) x:=
 ⟨xwl i h.1 g.1 f.1,λenv e=>.inr (.inr (.inr (.inr (.inr (.inr ⟨a,b,c,h.2 env e,g.2 env e,f.2 env e,rfl⟩)))))⟩
theorem NodeKd.mono{cs:Prop}{ks:List Kn}{R n:RKn}(k:∀env d x,R env d x->n env d x){env:En}{d:D}{x:Str}(h:NodeKd cs ks R env d x):NodeKd cs ks n env d x:=by
 rcases h with⟨s,a,b,e,g,r⟩ |⟨es,i,e,g,j,r⟩ |⟨a,l,f,i,e,r⟩ |⟨t,a,i,l,e,g,j,m,r⟩ |⟨u,a,rs,l,i,e,g,j,m,z,y,w,r⟩ |⟨a,b,c,e,g,j,r⟩
 ·exact .inl ⟨s,a,b,k _ _ _ e,k _ _ _ g,r⟩
 ·exact .inr (.inl ⟨es,i,e,g,j.imp λ_ _ h=>k _ _ _ h,r⟩)
 ·exact .inr (.inr (.inl ⟨a,l,f,i,k _ _ _ e,r⟩))
 ·exact .inr (.inr (.inr (.inl ⟨t,a,i,l,e,g,j,k _ _ _ m,r⟩)))
 ·refine .inr (.inr (.inr (.inr (.inl ⟨u,a,rs,l,i,k _ _ _ e,g,j,m,z,y,λr p=>?_,r⟩))))
  obtain⟨G,o,C,g3⟩:=w r p;exact⟨G,o,C,k _ _ _ g3⟩
 ·exact .inr (.inr (.inr (.inr (.inr ⟨a,b,c,k _ _ _ e,k _ _ _ g,k _ _ _ j,r⟩))))
theorem xvz{cs:Prop}{ks:List Kn}:∀(n:Nat) (env:En) (d:D) (x:Str),Kd cs ks n env d x->Kd cs ks (n+1) env d x
 |0,_,_,_,h=>.inl h
 |n+1,env,d,x,h=>by
  rcases h with h |h
  ·exact .inl h
  ·exact .inr (h.mono (xvz n))
theorem xw9{cs:Prop}{ks:List Kn}{n m:Nat}(l:n<=m){env:En}{d:D}{x:Str}(h:Kd cs ks n env d x):Kd cs ks m env d x:=by
 obtain⟨k,rfl⟩:∃k,m=n+k:=⟨m-n,by omega⟩;clear l
 induction k with
 |zero=>exact h
 |succ k a=>exact xvz _ _ _ _ a
def NoMo(x:Str):Prop:=x≠S "more"
theorem xw6{l:List Nat}(h:l[0]?≠some 109\/l[1]?≠some 111):NoMo (ofL l):=λe=>by
 have:=congrArg L e;rw[xen,show L (S "more")=[109,111,114,101] by walk_at"k"]at this;subst this;simp at h
theorem xl9{c:Nat}(h:c∈five):c≠109/\c≠111:=by
 revert h;unfold five;simp;omega
theorem xsq{cs:List Nat}(h:∀c∈cs,c∈five)(a:Nat)(b:Int)(k:Nat)(t:List Nat)(i:∀c∈t,c∈five):NoMo (ofL (nmA cs a b k++t)):=by
 apply xw6;unfold nmA
 cases g:cs.take a with
 |nil=>
  right;rw[List.nil_append,List.cons_append,List.getElem?_cons_succ];intro e;have f:=zMG e;rcases zMA f with f |f
  ·exact(xl9 (h _ (List.mem_of_mem_drop f))).2 rfl
  ·exact(xl9 (i _ f)).2 rfl
 |cons c r=>
  left;intro e;simp at e;have:c∈cs.take a:=by rw[g];simp
  exact(xl9 (h c (qK this))).1 e
theorem xty{cs:List Nat}{a:Nat}{b:Int}(e:∀c∈cs,c∈five):∀z∈((List.range 26).map λk=>ofL (nmA cs a b k)),NoMo z:=λz hz=>by
 obtain⟨k,_,rfl⟩:=zMP hz;have:=xsq e a b k [] (λ_ h=>nomatch h);rw[List.append_nil]at this;exact this
theorem xtw{cs:List Nat}{a:Nat}{b:Int}(f:∀c∈cs,c∈five):∀z∈((List.range 26).map λk=>ofL (nmB cs a b k)),NoMo z:=λz hz=>by
 obtain⟨k,_,rfl⟩:=zMP hz;unfold nmB;exact xsq f a b _ _ λc e=>by rw[List.eq_of_mem_replicate e];decide
theorem DGet.rd{H:Hp}{a:Addr}{kvs:List (Key×V)}{k:Key}(e:Rd H a (.dK kvs)):DGet H a (kV k) (valV kvs k):=.inl ⟨kvs,k,e,rfl,rfl⟩
inductive Row where
 |set (x:Str) (t:D)
 |send (c:Str) (t:D)
 |take (l c x:Str)
 |tell (t:D)
 |go (g:Nat)
 |cond (t:D) (g:Nat)
 |fin
def Row.hd:Row->Str
 |.set _ _=>S "set"
 |.send _ _=>S "send"
 |.take _ _ _=>S "take"
 |.tell _=>S "tell"
 |.go _=>S "go"
 |.cond _ _=>S "if"
 |.fin=>S "end"
def Row.as:Row->List D
 |.set x t=>[.str x,t]
 |.send c t=>[.str c,t]
 |.take l c x=>[.str l,.str c,.str x]
 |.tell t=>[t]
 |.go g=>[.int g]
 |.cond t g=>[t,.int g]
 |.fin=>[]
def Row.d(r:Row):D:=.tup (.str r.hd::r.as)
abbrev Chn:=Str×Str×Str×Str
def dChn(c:Chn):D:=.tup [.str c.1,.str c.2.1,.str c.2.2.1,.str c.2.2.2]
structure Hand where
 name:Str
 boxes:List (Str×Str)
 rows:List Row
def Hand.d(h:Hand):D:=.tup [.str h.name,xee h.boxes,.tup (h.rows.map Row.d)]
structure Mak where
 kinds:List Kn
 chans:List Chn
 hands:List Hand
def Mak.d(m:Mak):D:=.tup [xef m.kinds,.tup (m.chans.map dChn),.tup (m.hands.map Hand.d)]
def xed(m:Mak)(x:Str):Option Hand:=m.hands.find? λh=>decide (h.name=x)
def xf5(ks:List Kn)(cs:List Chn)(h:Str)(bs:List (Str×Str))(n:Nat):Row->Prop
 |.set x t=>∃k,(x,k)∈bs/\TmOk ks 21 bs t k
 |.send c t=>∃ch∈cs,ch.1=c/\ch.2.1=h/\TmOk ks 21 bs t ch.2.2.2
 |.take _ c x=>∃ch∈cs,ch.1=c/\ch.2.2.1=h/\(x,ch.2.2.2)∈bs
 |.tell t=>TmOk ks 21 bs t (S "num")
 |.go g=>g<n
 |.cond t g=>TmOk ks 21 bs t (S "num")/\g<n
 |.fin=>True
def Row.ends:Row->Prop
 |.go _=>True
 |.fin=>True
 |_=>False
structure HandOk(ks:List Kn)(cs:List Chn)(h:Hand):Prop where
 nd:(h.boxes.map (·.1)).Nodup
 few:h.boxes.length<=5
 kin:∀b∈h.boxes,KIn ks 6 b.2
 len:h.rows.length<=30
 ok:∀r∈h.rows,xf5 ks cs h.name h.boxes h.rows.length r
 last:∃r,h.rows.getLast?=some r/\r.ends
structure MakOk(m:Mak):Prop where
 wf:KWf m.kinds
 cnd:(m.chans.map (·.1)).Nodup
 cfew:m.chans.length<=6
 ckin:∀c∈m.chans,KIn m.kinds 6 c.2.2.2
 hnd:(m.hands.map Hand.name).Nodup
 hfew:m.hands.length<=4
 hok:∀h∈m.hands,HandOk m.kinds m.chans h
def putA(bx:List (Str×D))(x:Str)(d:D):List (Str×D):=
 if (bx.any λb=>decide (b.1=x))=true then bx.map (λb=>if b.1=x then (b.1,d) else b) else bx++[(x,d)]
def enOf(bx:List (Str×D)):En:=λx=>(bx.find? λb=>decide (b.1=x)).map (·.2)
def KvD(H:Hp):List (Key×V)->List (Str×D)->Prop
 |[],[]=>True
 |kv::kvs,b::bs=>kv.1=Sum.inr b.1/\RelD H kv.2 b.2/\KvD H kvs bs
 |_,_=>False
theorem KvD.tups{H a:Hp}(s:∀b vs,H b=some (.tup vs)->a b=some (.tup vs)):∀{kvs:List (Key×V)} {bx:List (Str×D)},KvD H kvs bx->KvD a kvs bx
 |[],[],_=>trivial
 |g::kvs,b::bs,⟨f,e,c⟩=>⟨f,e.tups s _,KvD.tups s c⟩
 |[],_::_,h=>h.elim
 |_::_,[],h=>h.elim
theorem KvD.length{H:Hp}:∀{kvs:List (Key×V)} {bx:List (Str×D)},KvD H kvs bx->kvs.length=bx.length
 |[],[],_=>rfl
 |c::kvs,b::bs,⟨_,_,a⟩=>by rw[List.length_cons,List.length_cons,KvD.length a]
 |[],_::_,h=>h.elim
 |_::_,[],h=>h.elim
theorem KvD.keys{H:Hp}:∀{kvs:List (Key×V)} {bx:List (Str×D)},KvD H kvs bx->kvs.map (·.1)=bx.map λb=>(Sum.inr b.1:Key)
 |[],[],_=>rfl
 |e::kvs,b::bs,⟨c,_,a⟩=>by rw[List.map_cons,List.map_cons,KvD.keys a,c]
 |[],_::_,h=>h.elim
 |_::_,[],h=>h.elim
theorem KvD.snoc{H:Hp}{v:V}{x:Str}{d:D}(r:RelD H v d):∀{kvs:List (Key×V)} {bx:List (Str×D)},KvD H kvs bx->KvD H (kvs++[(Sum.inr x,v)]) (bx++[(x,d)])
 |[],[],_=>⟨rfl,r,trivial⟩
 |f::kvs,b::bs,⟨e,c,a⟩=>⟨e,c,KvD.snoc r a⟩
 |[],_::_,h=>h.elim
 |_::_,[],h=>h.elim
theorem xt6{a b:Str}:((Sum.inr a:Key)=Sum.inr b)=(a=b):=propext ⟨λh=>Sum.inr.inj h,λh=>congrArg _ h⟩
theorem KvD.any{H:Hp}{x:Str}:∀{kvs:List (Key×V)} {bx:List (Str×D)},KvD H kvs bx->(kvs.any λa=>decide (a.1=Sum.inr x))=bx.any λb=>decide (b.1=x)
 |[],[],_=>rfl
 |a::kvs,b::bs,⟨e,_,c⟩=>by
  rw[List.any_cons,List.any_cons,KvD.any c,e];simp only[xt6]
 |[],_::_,h=>h.elim
 |_::_,[],h=>h.elim
theorem KvD.map{H:Hp}{v:V}{x:Str}{d:D}(r:RelD H v d):∀{kvs:List (Key×V)} {bx:List (Str×D)},KvD H kvs bx->KvD H (kvs.map λc=>if c.1=Sum.inr x then (c.1,v) else c) (bx.map λb=>if b.1=x then (b.1,d) else b)
 |[],[],_=>trivial
 | c::kvs,b::bs,⟨a,g,f⟩=>by
  refine⟨?_,?_,KvD.map r f⟩ <;> dsimp only
  ·by_cases e:b.1=x
   ·rw[if_pos (by rw[a,e]),if_pos e];exact a
   ·rw[if_neg (by rw[a];exact λz=>e (Sum.inr.inj z)),if_neg e];exact a
  ·by_cases e:b.1=x
   ·rw[if_pos (by rw[a,e]),if_pos e];exact r
   ·rw[if_neg (by rw[a];exact λz=>e (Sum.inr.inj z)),if_neg e];exact g
 |[],_::_,h=>h.elim
 |_::_,[],h=>h.elim
theorem KvD.put{H:Hp}{v:V}{x:Str}{d:D}{kvs:List (Key×V)}{bx:List (Str×D)}(h:KvD H kvs bx)(r:RelD H v d):KvD H (putK kvs (Sum.inr x) v) (putA bx x d):=by
 unfold putK putA;rw[h.any];split
 ·exact h.map r
 ·exact h.snoc r
theorem KvD.val{H:Hp}{x:Str}:∀{kvs:List (Key×V)} {bx:List (Str×D)},KvD H kvs bx->(enOf bx x=none->valV kvs (Sum.inr x)=none)/\∀d,enOf bx x=some d->∃v,valV kvs (Sum.inr x)=some v/\RelD H v d
 |[],[],_=>⟨λ_=>rfl,λd e=>by cases e⟩
 | j::kvs,b::bs,⟨c,i,g⟩=>by
  have f:=KvD.val (x:=x) g;by_cases e:b.1=x
  ·have a:enOf (b::bs) x=some b.2:=by unfold enOf;rw[List.find?_cons,zDT e];rfl
   rw[a,xcj (by rw[c,e])];exact⟨λz=>(by cases z),λd z=>⟨_,rfl,by cases z;exact i⟩⟩
  ·have a:enOf (b::bs) x=enOf bs x:=by unfold enOf;rw[List.find?_cons,zDF e]
   rw[a,xck (by rw[c];exact λz=>e (Sum.inr.inj z))];exact f
 |[],_::_,h=>h.elim
 |_::_,[],h=>h.elim
theorem KvD.en{H:Hp}{p:Addr}{kvs:List (Key×V)}{bx:List (Str×D)}{m:Nat}(a:H p=some (.dK kvs))(h:KvD H kvs bx)(b:bx.length<=m):EnAt H p m (enOf bx):=
 ⟨kvs,a,by rw[h.length];exact b,λx=>h.val⟩
theorem xwa(bx:List (Str×D))(x:Str)(d:D):enOf (putA bx x d)=(enOf bx).put x d:=by
 funext y
 unfold En.put enOf putA;split
 ·rename_i h
  induction bx with
  |nil=>simp at h
  | cons b bs j=>
   rw[List.map_cons,List.find?_cons,List.find?_cons];by_cases e:b.1=x
   ·rw[if_pos e]
    by_cases a:y=x
    ·subst a
     rw[if_pos rfl,zDT e];rfl
    ·have l:¬b.1=y:=λz=>a (z.symm.trans e)
     rw[if_neg a,zDF l];show(List.find? _ (bs.map _)).map _=(List.find? _ bs).map _;by_cases f:(bs.any λb=>decide (b.1=x))=true
     ·have:=j f
      rw[if_neg a]at this;exact this
     ·have c:∀z∈bs,¬z.1=x:=λz hz i=>f (List.any_eq_true.mpr ⟨z,hz,zDT i⟩)
      rw[List.map_congr_left (g:=id) λz hz=>by rw[if_neg (c z hz)];rfl,List.map_id]
   ·rw[if_neg e]
    have f:(bs.any λb=>decide (b.1=x))=true:=by
     rw[List.any_cons,zDF e,Bool.false_or]at h;exact h
    by_cases a:b.1=y
    ·rw[zDT a,if_neg (λz=>e (a.trans z))]
    ·rw[zDF a]
     exact j f
 ·rename_i h
  have c:∀z∈bx,¬z.1=x:=λz hz i=>h (List.any_eq_true.mpr ⟨z,hz,zDT i⟩);rw[List.find?_append];by_cases a:y=x
  ·subst a
   rw[if_pos rfl,List.find?_eq_none.mpr λz hz=>by simpa using c z hz];simp
  ·rw[if_neg a,List.find?_singleton,zDF (λz=>a z.symm)]
   simp
theorem xfh{bx:List (Str×D)}{x:Str}{d:D}(h:x∈bx.map (·.1)):(putA bx x d).map (·.1)=bx.map (·.1):=by
 unfold putA;obtain⟨b,a,e⟩:=zMP h;rw[if_pos (List.any_eq_true.mpr ⟨b,a,zDT e⟩),List.map_map]
 exact zP λz _=>by
  show(if z.1=x then (z.1,d) else z).1=z.1;split <;> rfl
theorem xr1{a b:Str}{r c:List D}(h:a≠b):D.tup (.str a::r)≠D.tup (.str b::c):=λe=>h (D.str.inj (zS (D.tup.inj e)).1)
theorem xkm{env:En}{d v a:D}(h:xe6 env d v)(h':xe6 env d a):v=a:=by
 rcases h with⟨n,rfl,rfl⟩ |⟨x,c,rfl⟩ <;> rcases h' with⟨m,e,rfl⟩ |⟨y,b,e⟩
 ·cases e
  rfl
 ·exact absurd e (xr1 (by walk_at"k"))
 ·exact absurd e (xr1 (by walk_at"k"))
 ·cases e
  rw[c]at b;exact z8 b
theorem xkn{ks:List Kn}{R:En->D->D->Prop}{env:En}{d v a:D}(h:xe6 env d v)(h':NodeEv ks R env d a):False:=by
 rcases h with⟨n,rfl,rfl⟩ |⟨x,b,rfl⟩ <;> rcases h' with⟨_,_,_,_,_,_,_,_,_,e,_⟩ |⟨_,_,_,_,_,e,_⟩ |⟨_,_,_,_,_,_,_,_,_,_,e⟩ |⟨_,_,_,_,_,e,_⟩ |⟨_,_,_,_,_,_,_,_,_,_,_,e⟩ |⟨_,_,_,_,_,_,e⟩ <;> exact absurd e (xr1 (by walk_at"k"))
theorem xk6{R:D->D->Prop}(u:∀a v c,R a v->R a c->v=c):∀{es vs b:List D},All2 R es vs->All2 R es b->vs=b
 |_,_,_,.nil,.nil=>rfl
 |_,_,_,.cons h t,.cons h' t'=>by rw[u _ _ _ h h',xk6 u t t']
theorem xqk{ks:List Kn}:∀(n:Nat) (env:En) (d v w:D),Ev ks n env d v->Ev ks n env d w->v=w
 |0,_,_,_,_,h,h'=>xkm h h'
 | n + 1,env,d,v,w,h,h'=>by
  have m:=xqk (ks:=ks) n;rcases h with h |h <;> rcases h' with h' | h'
  ·exact xkm h h'
  ·exact(xkn h h').elim
  ·exact(xkn h' h).elim
  rcases h with⟨s,a,b,x,y,g,u,_,_,rfl,rfl⟩ |⟨k,es,vs,_,g,rfl,rfl⟩ |⟨a,k,vs,f,kn,i,g,u,M,h4,rfl⟩ |⟨k,t,a,x,g,rfl,rfl⟩ |⟨a,rs,k,t,x,y,e0,_,g,u,M,rfl⟩ |⟨a,b,c,x,g,u,rfl⟩ <;>
  rcases h' with⟨s',z,b',C,O,j,o,_,_,e,rfl⟩ |⟨k',es',G,_,j,e,rfl⟩ |⟨z,k',G,f',a0,i',j,o,g3,g4,e⟩ |⟨k',t',z,C,j,e,rfl⟩ |⟨z,I,k',t',C,O,a1,_,j,o,g3,e⟩ |⟨z,b',c',C,j,o,e⟩ <;>
  first |exact absurd e (xr1 (by walk_at"k")) |skip
  ·cases e
   have:=m _ _ _ _ g j;have h:=m _ _ _ _ u o;cases this;cases h;rfl
  ·cases e
   rw[xk6 (λa v w=>m env a v w) g j]
  ·cases e
   have:=m _ _ _ _ g j;cases this;rw[u]at o;cases o;rw[M]at g3;cases g3;rw[h4]at g4;exact z8 g4
  ·cases e
   rw[m _ _ _ _ g j]
  ·have e1:=(zS (zS (D.tup.inj e)).2).1
   have e2:=D.tup.inj (zS (zS (zS (D.tup.inj e)).2).2).1
   have e3:rs=I:=by
    have:∀{l p:List (Str×Str×D)},l.map dArm=p.map dArm->l=p:=by
     intro l
     induction l with
     |nil=>intro p h;cases p with |nil=>rfl |cons _ _=>cases h
     | cons r l J=>
      intro p h
      cases p with
      |nil=>cases h
      |cons r' p=>
       rw[List.map_cons,List.map_cons]at h;have q:=zS h;obtain⟨r1,r2,r3⟩:=r;obtain⟨Z,Y,U⟩:=r';have q1:=q.1;cases q1;rw[J q.2]
    exact this e2
   subst e1 e3;have:=m _ _ _ _ g j;cases this;rw[u]at o;cases o;exact m _ _ _ _ M g3
  ·cases e
   have:=m _ _ _ _ g j;cases this;exact m _ _ _ _ u o
noncomputable def wv(ks:List Kn)(bx:List (Str×D))(t:D):D:=open Classical in if h:∃v,Ev ks 21 (enOf bx) t v then h.choose else .int 0
theorem xh8{ks:List Kn}{bs:List (Str×Str)}{bx:List (Str×D)}{t:D}{k:Str}(h:TmOk ks 21 bs t k)(f:FitB ks bs (enOf bx)):Ev ks 21 (enOf bx) t (wv ks bx t)/\Vk ks k (wv ks bx t):=by
 obtain⟨v,b,c⟩:=h _ f;have a:∃v,Ev ks 21 (enOf bx) t v:=⟨v,xnl _ _ _ _ b⟩;have e:wv ks bx t=a.choose:=by unfold wv;rw[dif_pos a]
 rw[e,xqk _ _ _ _ _ a.choose_spec (xnl _ _ _ _ b)];exact⟨xnl _ _ _ _ b,c⟩
abbrev Lts:=List (Str×List D)
def getL(cs:Lts)(c:Str):Option (List D):=(cs.find? λp=>decide (p.1=c)).map (·.2)
def modL(f:List D->List D)(c:Str):Lts->Lts
 |[]=>[]
 |p::ps=>if p.1=c then (p.1,f p.2)::ps else p::modL f c ps
theorem xc7{p:Str×List D}{ps:Lts}{c:Str}:getL (p::ps) c=if p.1=c then some p.2 else getL ps c:=by
 unfold getL;rw[List.find?_cons];by_cases e:p.1=c
 ·rw[zDT e,if_pos e];rfl
 ·rw[zDF e,if_neg e]
theorem xfv(f:List D->List D)(c:Str):∀cs:Lts,(modL f c cs).map (·.1)=cs.map (·.1)
 |[]=>rfl
 |p::ps=>by
  unfold modL;split
  ·rfl
  ·rw[List.map_cons,List.map_cons,xfv f c ps]
theorem xgh{f:List D->List D}{c b:Str}:∀{cs:Lts},getL (modL f c cs) b=if b=c then (getL cs c).map f else getL cs b
 |[]=>by show none=_;split <;> rfl
 | p::ps=>by
  unfold modL;by_cases e:p.1=c
  ·rw[if_pos e,xc7,xc7,xc7,if_pos e]
   by_cases a:b=c
   ·rw[if_pos a,if_pos (show p.1=b by rw[e,a])];rfl
   ·have:¬p.1=b:=λz=>a (z.symm.trans e)
    rw[if_neg a,if_neg this,if_neg this]
  ·rw[if_neg e,xc7,xc7,xc7,if_neg e,xgh]
   by_cases a:b=c
   ·rw[if_neg (λz=>e (z.trans a))]
    rw[if_pos a,if_pos a]
   ·rw[if_neg a,if_neg a]
theorem xfw{cs:Lts}{c:Str}(h:c∈cs.map (·.1)):∃ds,getL cs c=some ds/\(c,ds)∈cs:=by
 induction cs with
 |nil=>exact nomatch h
 | cons p ps a=>
  rw[xc7];by_cases e:p.1=c
  ·rw[if_pos e]
   exact⟨p.2,rfl,by rw[<- e];simp⟩
  ·rw[if_neg e]
   rcases zMC h with h |h
   ·exact absurd h.symm e
   ·obtain⟨ds,f,b⟩:=a h
    exact⟨ds,f,qC _ b⟩
def Chg(la:Addr)(xs:List V)(H H':Hp):Prop:=∀b o,H b=some o->H' b=some (if b=la then .lst xs else o)
theorem Chg.upd{la:Addr}{xs:List V}{H:Hp}:Chg la xs H (upd H la (.lst xs)):=λb o e=>by
 by_cases h:b=la
 ·subst h;rw[ups,if_pos rfl]
 ·rw[xak h,if_neg h];exact e
theorem Chg.pre{la:Addr}{xs:List V}{H f a:Hp}(s:Same H f)(c:Chg la xs f a):Chg la xs H a:=λb o e=>c b o (s b o e)
theorem Chg.ne{la:Addr}{xs:List V}{H a:Hp}(c:Chg la xs H a){b:Addr}{o:HO}(e:H b=some o)(h:b≠la):a b=some o:=by
 have:=c b o e
 rwa[if_neg h]at this
theorem Chg.at{la:Addr}{xs:List V}{H a:Hp}(c:Chg la xs H a){o:HO}(e:H la=some o):a la=some (.lst xs):=by
 have:=c la o e
 rwa[if_pos rfl]at this
theorem Chg.tups{la:Addr}{us xs:List V}{H a:Hp}(c:Chg la xs H a)(h:H la=some (.lst us)):∀b vs,H b=some (.tup vs)->a b=some (.tup vs):=λb vs e=>c.ne e λz=>by subst z;rw[h]at e;cases e
theorem Same.tups{H a:Hp}(s:Same H a):∀b vs,H b=some (.tup vs)->a b=some (.tup vs):=λb vs e=>s b _ e
def LsAt(H:Hp):List (Key×V)->Lts->List Addr->Prop
 |[],[],[]=>True
 |kv::kvs,c::cs,a::L=>kv=(Sum.inr c.1,.ref a)/\(∃us,H a=some (.lst us)/\RelDs H us c.2)/\LsAt H kvs cs L
 |_,_,_=>False
theorem LsAt.keep{H f:Hp}(s:∀b vs,H b=some (.tup vs)->f b=some (.tup vs)):∀{kvs:List (Key×V)} {cs:Lts} {L:List Addr},(∀a∈L,∀us,H a=some (.lst us)->f a=some (.lst us))->LsAt H kvs cs L->LsAt f kvs cs L
 |[],[],[],_,_=>trivial
 |m::kvs,c::cs,a::L,k,⟨e,⟨us,l,j⟩,i⟩=>⟨e,⟨us,k a (by simp) us l,j.tups s _⟩,LsAt.keep s (λb g=>k b (qC _ g)) i⟩
 |[],[],_::_,_,h=>h.elim
 |[],_::_,_,_,h=>h.elim
 |_::_,[],_,_,h=>h.elim
 |_::_,_::_,[],_,h=>h.elim
theorem LsAt.same{H b:Hp}(s:Same H b){kvs:List (Key×V)}{cs:Lts}{L:List Addr}(h:LsAt H kvs cs L):LsAt b kvs cs L:=LsAt.keep (Same.tups s) (λa _ us e=>s _ _ e) h
theorem LsAt.lens{H:Hp}:∀{kvs:List (Key×V)} {cs:Lts} {L:List Addr},LsAt H kvs cs L->kvs.length=cs.length/\L.length=cs.length
 |[],[],[],_=>⟨rfl,rfl⟩
 |b::kvs,c::cs,a::L,⟨_,_,h⟩=>by
  have:=LsAt.lens h;exact⟨by rw[List.length_cons,List.length_cons,this.1],by rw[List.length_cons,List.length_cons,this.2]⟩
 |[],[],_::_,h=>h.elim
 |[],_::_,_,h=>h.elim
 |_::_,[],_,h=>h.elim
 |_::_,_::_,[],h=>h.elim
theorem LsAt.snoc{H:Hp}{c:Str}{a:Addr}{us:List V}{ds:List D}(b:H a=some (.lst us))(r:RelDs H us ds):∀{kvs:List (Key×V)} {cs:Lts} {L:List Addr},LsAt H kvs cs L->LsAt H (kvs++[(Sum.inr c,.ref a)]) (cs++[(c,ds)]) (L++[a])
 |[],[],[],_=>⟨rfl,⟨us,b,r⟩,trivial⟩
 |i::kvs,c::cs,a::L,⟨e,g,f⟩=>⟨e,g,LsAt.snoc b r f⟩
 |[],[],_::_,h=>h.elim
 |[],_::_,_,h=>h.elim
 |_::_,[],_,h=>h.elim
 |_::_,_::_,[],h=>h.elim
theorem LsAt.idx{H:Hp}:∀{kvs:List (Key×V)} {cs:Lts} {L:List Addr} {i:Nat} {b:Key×V},LsAt H kvs cs L->kvs[i]?=some b->∃c a us,cs[i]?=some c/\b=(Sum.inr c.1,.ref a)/\H a=some (.lst us)/\RelDs H us c.2
 |[],[],[],i,b,_,e=>by simp at e
 |kv'::kvs,c::cs,a::L,0,b,⟨m,⟨us,g,f⟩,_⟩,e=>by
  simp at e;subst e;exact⟨c,a,us,rfl,m,g,f⟩
 |kv'::kvs,c::cs,a::L,i+1,b,⟨_,_,h⟩,e=>by
  obtain⟨n,o,us,l,j⟩:=LsAt.idx (i:=i) h (by simpa using e);exact⟨n,o,us,by simpa using l,j⟩
 |[],[],_::_,_,_,h,_=>h.elim
 |[],_::_,_,_,_,h,_=>h.elim
 |_::_,[],_,_,_,h,_=>h.elim
 |_::_,_::_,[],_,_,h,_=>h.elim
theorem LsAt.keys{H:Hp}:∀{kvs:List (Key×V)} {cs:Lts} {L:List Addr},LsAt H kvs cs L->kvs.map (·.1)=cs.map λc=>(Sum.inr c.1:Key)
 |[],[],[],_=>rfl
 |b::kvs,c::cs,a::L,⟨e,_,h⟩=>by rw[List.map_cons,List.map_cons,LsAt.keys h,e]
 |[],[],_::_,h=>h.elim
 |[],_::_,_,h=>h.elim
 |_::_,[],_,h=>h.elim
 |_::_,_::_,[],h=>h.elim
theorem xkq{α:Type}{f:α->Str}{l:List α}(h:(l.map f).Nodup):(l.map λa=>(Sum.inr (f a):Key)).Nodup:=List.pairwise_map.mpr ((List.pairwise_map.mp h).imp λh z=>h (Sum.inr.inj z))
theorem LsAt.there{H:Hp}:∀{kvs:List (Key×V)} {cs:Lts} {L:List Addr},LsAt H kvs cs L->∀a∈L,∃us,H a=some (.lst us)
 |[],[],[],_,a,h=>nomatch h
 |i::kvs,c::cs,a::L,⟨_,⟨us,g,_⟩,f⟩,b,e=>by
  rcases zMC e with rfl |e
  ·exact⟨us,g⟩
  ·exact LsAt.there f b e
 |[],[],_::_,h,_,_=>h.elim
 |[],_::_,_,h,_,_=>h.elim
 |_::_,[],_,h,_,_=>h.elim
 |_::_,_::_,[],h,_,_=>h.elim
theorem LsAt.get {H:Hp} {c:Str}:∀{kvs:List (Key×V)} {cs:Lts} {L:List Addr} {ds:List D},LsAt H kvs cs L->L.Nodup->getL cs c=some ds->
  ∃la us,valV kvs (Sum.inr c)=some (.ref la)/\la∈L/\H la=some (.lst us)/\RelDs H us ds/\∀(H':Hp) (us':List V) (f:List D->List D),Chg la us' H H'->RelDs H' us' (f ds)->LsAt H' kvs (modL f c cs) L
 |[],[],[],ds,_,_,e=>nomatch e
 | kv::kvs,p::cs,a::L,ds,⟨e,⟨us,h1,h2⟩,h3⟩,nd,hg=>by
  subst e;rw[List.nodup_cons]at nd;rw[xc7]at hg;by_cases ec:p.1=c
  ·rw[if_pos ec]at hg
   cases hg;refine⟨a,us,by rw[xcj (by rw[ec])],by simp,h1,h2,λH' us' f ch r=>?_⟩;unfold modL;rw[if_pos ec];refine⟨rfl,⟨us',ch.at h1,r⟩,LsAt.keep (ch.tups h1) (λb hb vs q=>ch.ne q λz=>nd.1 (by rw[<- z];exact hb)) h3⟩
  ·rw[if_neg ec]at hg
   obtain⟨la,us2,g1,g2,g3,g4,g5⟩:=LsAt.get h3 nd.2 hg;refine⟨la,us2,by rw[xck (λz=>ec (Sum.inr.inj z))];exact g1,qC _ g2,g3,g4,λH' us' f ch r=>?_⟩;unfold modL;rw[if_neg ec];refine⟨rfl,⟨us,ch.ne h1 λz=>nd.1 (by rw[z];exact g2),h2.tups (ch.tups g3) _⟩,g5 H' us' f ch r⟩
 |[],[],_::_,_,h,_,_=>h.elim
 |[],_::_,_,_,h,_,_=>h.elim
 |_::_,[],_,_,h,_,_=>h.elim
 |_::_,_::_,[],_,h,_,_=>h.elim
def StAt(H:Hp)(sa p:Addr)(k:Nat)(bx:List (Str×D)):Prop:=H sa=some (.tup [.int k,.ref p])/\∃kvs,H p=some (.dK kvs)/\KvD H kvs bx
theorem StAt.keep{H a:Hp}{sa p:Addr}{k:Nat}{bx:List (Str×D)}(h:StAt H sa p k bx)(s:∀b vs,H b=some (.tup vs)->a b=some (.tup vs))(c:∀o,H p=some o->a p=some o):StAt a sa p k bx:=by
 obtain⟨g,kvs,f,e⟩:=h;exact⟨s _ _ g,kvs,c _ f,e.tups s⟩
theorem StAt.same{H a:Hp}{sa p:Addr}{k:Nat}{bx:List (Str×D)}(h:StAt H sa p k bx)(s:Same H a):StAt a sa p k bx:=h.keep (Same.tups s) λo e=>s _ _ e
theorem StAt.chg{H f:Hp}{sa p la:Addr}{us xs:List V}{k:Nat}{bx:List (Str×D)}(h:StAt H sa p k bx)(a:H la=some (.lst us))(c:Chg la xs H f):StAt f sa p k bx:=h.keep (c.tups a) λo e=>c.ne e λz=>by
 obtain⟨_,kvs,b,_⟩:=h;rw[z,a]at b;cases b
theorem hdT{x y:Str}(h:x=y):decide (V.str x=V.str y)=true:=zDT (congrArg V.str h)
theorem hdF{x y:Str}(h:x≠y):decide (V.str x=V.str y)=false:=zDF λz=>h (V.str.inj z)
theorem xua{r:Row}(h:∀g,r≠.go g):r.hd≠S "go":=by cases r <;> first |exact absurd rfl (h _) |(show S _≠S _;decide +kernel)
theorem xt9{r:Row}(h:∀t g,r≠.cond t g):r.hd≠S "if":=by cases r <;> first |exact absurd rfl (h _ _) |(show S _≠S _;decide +kernel)
theorem xkt{r:Row}(h:r≠.fin):r.hd≠S "end":=by cases r <;> first |exact absurd rfl h |(show S _≠S _;decide +kernel)
theorem xfd{r:Row}(h:∀l c x,r≠.take l c x):r.hd≠S "take":=by cases r <;> first |exact absurd rfl (h _ _ _) |(show S _≠S _;decide +kernel)
theorem xqh{r:Row}(h:∀c t,r≠.send c t):r.hd≠S "send":=by cases r <;> first |exact absurd rfl (h _ _) |(show S _≠S _;decide +kernel)
theorem xsv{r:Row}(h:∀x t,r≠.set x t):r.hd≠S "set":=by cases r <;> first |exact absurd rfl (h _ _) |(show S _≠S _;decide +kernel)
theorem xt8{r:Row}(h:∀t,r≠.tell t):r.hd≠S "tell":=by cases r <;> first |exact absurd rfl (h _) |(show S _≠S _;decide +kernel)
open Classical in
noncomputable def xc4(ks:List Kn)(bx:List (Str×D))(k:Nat):Row->Nat
 |.go g=>g
 |.cond t g=>if wv ks bx t=.int 0 then k+1 else g
 |_=>k+1
noncomputable def xec(ks:List Kn)(bx:List (Str×D))(l:D):Row->List (Str×D)
 |.set x t=>putA bx x (wv ks bx t)
 |.take _ _ x=>putA bx x l
 |_=>bx
structure LSt where
 row:Nat
 bx:List (Str×D)
 com:Lts
 goi:Lts
 told:List D
 many:Nat
def Row.shut(com:Lts):Row->Bool
 |.fin=>true
 |.take _ c _=>((getL com c).getD []).isEmpty
 |_=>false
def Row.letter(com:Lts):Row->D
 |.take _ c _=>((getL com c).getD []).headD (.int 0)
 |_=>.int 0
def Row.com(com:Lts):Row->Lts
 |.take _ c _=>modL List.tail c com
 |_=>com
noncomputable def Row.goi(ks:List Kn)(bx:List (Str×D))(goi:Lts):Row->Lts
 |.send c t=>modL (λl=>l++[wv ks bx t]) c goi
 |_=>goi
noncomputable def Row.told(ks:List Kn)(bx:List (Str×D))(told:List D):Row->List D
 |.tell t=>told++[wv ks bx t]
 |_=>told
noncomputable def LSt.next(ks:List Kn)(s:LSt)(r:Row):LSt:=⟨xc4 ks s.bx s.row r,xec ks s.bx (r.letter s.com) r,r.com s.com,r.goi ks s.bx s.goi,r.told ks s.bx s.told,s.many+1⟩
structure LOk(m:Mak)(h:Hand)(s:LSt):Prop where
 row:s.row<h.rows.length
 keys:s.bx.map (·.1)=h.boxes.map (·.1)
 fit:FitB m.kinds h.boxes (enOf s.bx)
 com:s.com.map (·.1)=(m.chans.filter λc=>decide (c.2.2.1=h.name)).map (·.1)
 goi:s.goi.map (·.1)=(m.chans.filter λc=>decide (c.2.1=h.name)).map (·.1)
 cok:∀c∈m.chans,∀ds,getL s.com c.1=some ds->∀d∈ds,Vk m.kinds c.2.2.2 d
 gok:∀p∈s.goi,p.2.length<=s.many/\∀d∈p.2,d.deep<=12
 tok:s.told.length<=s.many/\∀d∈s.told,d.deep<=12
theorem xir{f:Str}{v u:V}:∀{fs:List (Str×V)},fs.lookup f=some u->(putF f v fs).length=fs.length
 |[],h=>nomatch h
 | (g,x)::r,h=>by
  unfold putF;by_cases e:g=f
  ·rw[if_pos e];rfl
  ·rw[if_neg e,List.length_cons,List.length_cons]
   rw[List.lookup_cons,show(f == g)=false from beq_eq_false_iff_ne.mpr (Ne.symm e)]at h;rw[xir h]
def Lms:List Str:=[Str.ofString "step",Str.ofString "stand",Str.ofString "told",Str.ofString "sent",Str.ofString "left",Str.ofString "count"]
structure Lf(fs:List (Str×V))(mv:V)(h:Str)(sa ca ga ta:Addr)(n:Int):Prop where
 mkv:fs.lookup (Str.ofString "make")=some mv
 nm:fs.lookup (Str.ofString "name")=some (.str h)
 nw:fs.lookup (Str.ofString "now")=some (.ref sa)
 cm:fs.lookup (Str.ofString "coming")=some (.ref ca)
 gn:fs.lookup (Str.ofString "going")=some (.ref ga)
 tl:fs.lookup (Str.ofString "tellings")=some (.ref ta)
 mn:fs.lookup (Str.ofString "many")=some (.int n)
 len:fs.length<=7
 no:∀f∈Lms,fs.lookup f=none
theorem Lf.init{c:V}{h:Str}{sa l j ta:Addr}:Lf (putF (Str.ofString "many") (.int 0) (putF (Str.ofString "tellings") (.ref ta) (putF (Str.ofString "going") (.ref j) (putF (Str.ofString "coming") (.ref l) (putF (Str.ofString "now") (.ref sa) (putF (Str.ofString "name") (.str h) (putF (Str.ofString "make") c []))))))) c h sa l j ta 0:=by
 have ne:∀{f g:Str} {v u:V} {fs:List (Str×V)},fs.lookup g=some u->g≠f->(putF f v fs).lookup g=some u:=λe n=>by rw[xbw,if_neg n];exact e
 have b:∀{f:Str} {v:V} {fs:List (Str×V)},(putF f v fs).lookup f=some v:=by intro f v fs;rw[xbw,if_pos rfl]
 have a:∀{g:Str} {v:V} {fs:List (Str×V)},(∀f∈Lms,fs.lookup f=none)->(∀f∈Lms,f≠g)->∀f∈Lms,(putF g v fs).lookup f=none:=λh n f i=>by rw[xbw,if_neg (n f i)];exact h f i
 refine⟨?_,?_,?_,?_,?_,?_,b,?_,?_⟩
 ·exact ne (ne (ne (ne (ne (ne b (by walk_at"k")) (by walk_at"k")) (by walk_at"k")) (by walk_at"k")) (by walk_at"k")) (by walk_at"k")
 ·exact ne (ne (ne (ne (ne b (by walk_at"k")) (by walk_at"k")) (by walk_at"k")) (by walk_at"k")) (by walk_at"k")
 ·exact ne (ne (ne (ne b (by walk_at"k")) (by walk_at"k")) (by walk_at"k")) (by walk_at"k")
 ·exact ne (ne (ne b (by walk_at"k")) (by walk_at"k")) (by walk_at"k")
 ·exact ne (ne b (by walk_at"k")) (by walk_at"k")
 ·exact ne b (by walk_at"k")
 ·refine zY (xav _ _ _) (zI (zY (xav _ _ _) (zI (zY (xav _ _ _) (zI (zY (xav _ _ _) (zI (zY (xav _ _ _) (zI (zY (xav _ _ _) (zI (zY (xav _ _ _) ?_))))))))))))
  exact zZ _
 ·exact a (a (a (a (a (a (a (λ_ _=>rfl) (by walk_at"k")) (by walk_at"k")) (by walk_at"k")) (by walk_at"k")) (by walk_at"k")) (by walk_at"k")) (by walk_at"k")
theorem Lf.now{fs:List (Str×V)}{b:V}{h:Str}{sa g e ta:Addr}{n:Int}(l:Lf fs b h sa g e ta n)(a:Addr):Lf (putF (Str.ofString "now") (.ref a) fs) b h a g e ta n:=by
 refine⟨?_,?_,?_,?_,?_,?_,?_,by rw[xir l.nw];exact l.len,λf c=>by rw[xbw,if_neg ((by walk_at"k":∀f∈Lms,f≠Str.ofString "now") f c)];exact l.no f c⟩ <;> rw[xbw]
 ·rw[if_neg (by walk_at"k")];exact l.mkv
 ·rw[if_neg (by walk_at"k")];exact l.nm
 ·rw[if_pos rfl]
 ·rw[if_neg (by walk_at"k")];exact l.cm
 ·rw[if_neg (by walk_at"k")];exact l.gn
 ·rw[if_neg (by walk_at"k")];exact l.tl
 ·rw[if_neg (by walk_at"k")];exact l.mn
theorem Lf.many{fs:List (Str×V)}{b:V}{h:Str}{sa g e ta:Addr}{n:Int}(l:Lf fs b h sa g e ta n)(a:Int):Lf (putF (Str.ofString "many") (.int a) fs) b h sa g e ta a:=by
 refine⟨?_,?_,?_,?_,?_,?_,?_,by rw[xir l.mn];exact l.len,λf c=>by rw[xbw,if_neg ((by walk_at"k":∀f∈Lms,f≠Str.ofString "many") f c)];exact l.no f c⟩ <;> rw[xbw]
 ·rw[if_neg (by walk_at"k")];exact l.mkv
 ·rw[if_neg (by walk_at"k")];exact l.nm
 ·rw[if_neg (by walk_at"k")];exact l.nw
 ·rw[if_neg (by walk_at"k")];exact l.cm
 ·rw[if_neg (by walk_at"k")];exact l.gn
 ·rw[if_neg (by walk_at"k")];exact l.tl
 ·rw[if_pos rfl]
structure LnA where
 dx:Addr
 sa:Addr
 p:Addr
 ca:Addr
 ga:Addr
 ta:Addr
 Lc:List Addr
 Lg:List Addr
structure LnAt(H:Hp)(C x:Addr)(mv:V)(h:Str)(a:LnA)(st:LSt):Prop where
 ob:∃fs,H x=some (.ins C a.dx fs)/\Lf fs mv h a.sa a.ca a.ga a.ta st.many
 sta:StAt H a.sa a.p st.row st.bx
 com:∃kc,H a.ca=some (.dK kc)/\LsAt H kc st.com a.Lc
 goi:∃kg,H a.ga=some (.dK kg)/\LsAt H kg st.goi a.Lg
 tel:∃ut,H a.ta=some (.lst ut)/\RelDs H ut st.told
 nd:(a.ta::(a.Lc++a.Lg)).Nodup
def LnA.F(a:LnA)(x:Addr):List Addr:=x::a.p::a.ca::a.ga::a.ta::(a.Lc++a.Lg)
theorem LnAt.keep{H f:Hp}{C x:Addr}{g:V}{h:Str}{a:LnA}{st:LSt}(l:LnAt H C x g h a st)(s:∀b vs,H b=some (.tup vs)->f b=some (.tup vs))(k:∀b∈a.F x,∀o,H b=some o->f b=some o):LnAt f C x g h a st:=by
 obtain⟨⟨fs,I,G⟩,z,⟨m,y,w⟩,⟨j,u,r⟩,⟨i,p,n⟩,nd⟩:=l;exact⟨⟨fs,k x (by simp[LnA.F]) _ I,G⟩,z.keep s λo e=>k _ (by simp[LnA.F]) o e,⟨m,k _ (by simp[LnA.F]) _ y,w.keep s λb c us e=>k b (by simp[LnA.F,c]) _ e⟩,⟨j,k _ (by simp[LnA.F]) _ u,r.keep s λb c us e=>k b (by simp[LnA.F,c]) _ e⟩,⟨i,k _ (by simp[LnA.F]) _ p,n.tups s _⟩,nd⟩
theorem LnAt.same{H f:Hp}{C x:Addr}{c:V}{h:Str}{a:LnA}{st:LSt}(l:LnAt H C x c h a st)(s:Same H f):LnAt f C x c h a st:=l.keep (Same.tups s) λb _ o e=>s b o e
theorem LnAt.there{H:Hp}{C x:Addr}{f:V}{h:Str}{a:LnA}{st:LSt}(l:LnAt H C x f h a st):∀b∈a.F x,∃o,H b=some o/\∀vs,o≠.tup vs:=by
 obtain⟨⟨fs,r,_⟩,⟨_,u,p,_⟩,⟨y,n,m⟩,⟨w,j,i⟩,⟨s,g,_⟩,nd⟩:=l;intro b c;simp only[LnA.F,List.mem_cons,List.mem_append]at c;rcases c with rfl |rfl |rfl |rfl |rfl |c |c
 ·exact⟨_,r,λvs e=>by cases e⟩
 ·exact⟨_,p,λvs e=>by cases e⟩
 ·exact⟨_,n,λvs e=>by cases e⟩
 ·exact⟨_,j,λvs e=>by cases e⟩
 ·exact⟨_,g,λvs e=>by cases e⟩
 ·obtain⟨us,e⟩:=m.there b c
  exact⟨_,e,λvs e=>by cases e⟩
 ·obtain⟨us,e⟩:=i.there b c
  exact⟨_,e,λvs e=>by cases e⟩
theorem LnAt.stepped {H c:Hp} {C x:Addr} {G:V} {h:Str} {a:LnA} {st st':LSt} {g r:Addr} {fs fs2:List (Str×V)} (l:LnAt H C x G h a st) (U:c x=some (.ins C a.dx fs)) (O:Lf fs2 G h g a.ca a.ga a.ta st'.many) (y:StAt c g r st'.row st'.bx)
  (com:∃m,c a.ca=some (.dK m)/\LsAt c m st'.com a.Lc) (goi:∃I,c a.ga=some (.dK I)/\LsAt c I st'.goi a.Lg) (w:∃u,c a.ta=some (.lst u)/\RelDs c u st'.told)
  (fr:∀b o,H b=some o->b ∉a.F x->c b=some o) (M:∀b vs,H b=some (.tup vs)->c b=some (.tup vs)) (s:r=a.p\/H r=none) :
  LnAt (upd c x (.ins C a.dx fs2)) C x G h {a with sa:=g,p:=r} st'/\(∀b o,H b=some o->b ∉a.F x->upd c x (.ins C a.dx fs2) b=some o)/\(∀b vs,H b=some (.tup vs)->upd c x (.ins C a.dx fs2) b=some (.tup vs))/\∀b∈({a with sa:=g,p:=r}:LnA).F x,b∈a.F x\/H b=none:=by
 have ne:∀b o,c b=some o->(∀fs,o≠.ins C a.dx fs)->upd c x (.ins C a.dx fs2) b=some o:=λb o e n=>by
  rw[xak λz=>by rw[z,U]at e;exact n fs (z8 e).symm];exact e
 have f:∀b vs,c b=some (.tup vs)->upd c x (.ins C a.dx fs2) b=some (.tup vs):=λb vs e=>ne b _ e λfs z=>by cases z
 have ls:∀{kvs cs L},LsAt c kvs cs L->LsAt (upd c x (.ins C a.dx fs2)) kvs cs L:=λh=>h.keep f λb _ us e=>ne b _ e λfs z=>by cases z
 refine⟨⟨⟨fs2,ups,O⟩,?_,?_,?_,?_,l.nd⟩,λb o e n=>?_,λb vs e=>f b vs (M b vs e),λb J=>?_⟩
 ·obtain⟨j,kvs,i,Y⟩:=y
  exact⟨f _ _ j,kvs,ne _ _ i (λfs z=>by cases z),Y.tups f⟩
 ·obtain⟨m,j,i⟩:=com
  exact⟨m,ne _ _ j (λfs z=>by cases z),ls i⟩
 ·obtain⟨m,j,i⟩:=goi
  exact⟨m,ne _ _ j (λfs z=>by cases z),ls i⟩
 ·obtain⟨u,j,i⟩:=w
  exact⟨u,ne _ _ j (λfs z=>by cases z),i.tups f _⟩
 ·rw[xak λz=>n (by rw[z];simp[LnA.F])]
  exact fr b o e n
 ·simp only[LnA.F,List.mem_cons]at J⊢
  rcases J with h |h |h |h |h |h
  ·exact .inl (.inl h)
  ·rcases s with s |s
   ·exact .inl (.inr (.inl (h.trans s)))
   ·exact .inr (by rw[h];exact s)
  ·exact .inl (.inr (.inr (.inl h)))
  ·exact .inl (.inr (.inr (.inr (.inl h))))
  ·exact .inl (.inr (.inr (.inr (.inr (.inl h)))))
  ·exact .inl (.inr (.inr (.inr (.inr (.inr h)))))
theorem LsAt.val{H:Hp}{c:Str}:∀{kvs:List (Key×V)} {cs:Lts} {L:List Addr},LsAt H kvs cs L->(getL cs c=none->valV kvs (Sum.inr c)=none)/\∀ds,getL cs c=some ds->∃la us,valV kvs (Sum.inr c)=some (.ref la)/\H la=some (.lst us)/\RelDs H us ds
 |[],[],[],_=>⟨λ_=>rfl,λds e=>by cases e⟩
 | l::kvs,p::cs,a::L,⟨e,⟨us,j,i⟩,g⟩=>by
  subst e;have f:=LsAt.val (c:=c) g;rw[xc7];by_cases b:p.1=c
  ·rw[if_pos b,xcj (by rw[b])]
   exact⟨λz=>(by cases z),λds z=>by cases z;exact⟨a,us,rfl,j,i⟩⟩
  ·rw[if_neg b,xck (λz=>b (Sum.inr.inj z))]
   exact f
 |[],[],_::_,h=>h.elim
 |[],_::_,_,h=>h.elim
 |_::_,[],_,h=>h.elim
 |_::_,_::_,[],h=>h.elim
theorem xtv{ks:List Kn}(b:KWf ks):∀(m:Nat) (x:Str),KIn ks m x->Vk ks x (nuV (m+1) ks x)
 | 0,x,h=>by
  rcases h.nu b with⟨rfl,_,_,e⟩ |⟨j,k,f,_⟩
  ·rw[e]
   exact .num 0 ⟨by decide,by decide⟩
  ·cases f
 | m+1,x,h=>by
  rcases h.nu b with⟨rfl,_,_,e⟩ |⟨j,k,f,n,hn,u,l,_,s⟩
  ·rw[e]
   exact .num 0 ⟨by decide,by decide⟩
  ·cases f
   rcases s with⟨c,_,e⟩ |⟨c,p,r,o,_,e⟩
   ·rw[e]
    refine .rc n c (by rw[zLM]) λi w p g a=>?_;rw[zGM,a]at g;cases g;exact xtv b m p.2 (l p (zMG a))
   ·rw[e]
    exact .al n c (by rw[o];simp) (xtv b m p.2 (l p (by rw[o];simp)))
theorem LOk.bxlen{m:Mak}{h:Hand}{s:LSt}(o:LOk m h s)(a:HandOk m.kinds m.chans h):s.bx.length<=5:=by
 have:=congrArg List.length o.keys;rw[zLM,zLM]at this;have:=a.few;omega
theorem xd5{ks:List Kn}(b:KWf ks){x:Str}{v:D}(a:KIn ks 6 x)(h:Vk ks x v):v.deep<=12:=xk9 b 6 x v a h
theorem xi6{ks:List Kn}{bs:List (Str×Str)}{bx:List (Str×D)}{x k:Str}{d:D}(nd:(bs.map (·.1)).Nodup)(f:FitB ks bs (enOf bx))(b:(x,k)∈bs)(c:Vk ks k d):FitB ks bs (enOf (putA bx x d)):=λp a=>by
 rw[xwa];unfold En.put;by_cases e:p.1=x
 ·have:p=(x,k):=xcr nd a b e
  subst this;exact⟨d,if_pos rfl,c⟩
 ·obtain⟨v,h,g⟩:=f p a
  exact⟨v,by rw[if_neg e];exact h,g⟩
theorem HandOk.pos{ks:List Kn}{cs:List Chn}{h:Hand}(o:HandOk ks cs h):0<h.rows.length:=by
 obtain⟨r,e,_⟩:=o.last
 cases b:h.rows with
 |nil=>rw[b]at e;cases e
 |cons a l=>simp
theorem xm0{ks:List Kn}{cs:List Chn}{h:Hand}(o:HandOk ks cs h){bx:List (Str×D)}{k:Nat}{r:Row}(f:h.rows[k]?=some r)(i:r≠.fin):xc4 ks bx k r<h.rows.length:=by
 have n:=(zES f).1;have a:=o.ok r (zMG f)
 have step:¬r.ends->k+1<h.rows.length:=λj=>by
  rcases Nat.lt_or_ge (k+1) h.rows.length with z |z
  ·exact z
  ·obtain⟨m,e,b⟩:=o.last
   have:h.rows.getLast?=some r:=by
    rw[List.getLast?_eq_getElem?,show h.rows.length-1=k by omega];exact f
   rw[this]at e;cases e;exact absurd b j
 cases r with
 |fin=>exact absurd rfl i
 |go g=>exact a
 | cond t g=>
  by_cases e:wv ks bx t=.int 0
  ·rw[show xc4 ks bx k (.cond t g)=k+1 from if_pos e]
   exact step λh=>h
  ·rw[show xc4 ks bx k (.cond t g)=g from if_neg e]
   exact a.2
 |set x t=>exact step λh=>h
 |send c t=>exact step λh=>h
 |take l c x=>exact step λh=>h
 |tell t=>exact step λh=>h
theorem xp0{f:List D->List D}{c:Str}{p:Str×List D}:∀{cs:Lts},p∈modL f c cs->p∈cs\/∃q∈cs,p=(q.1,f q.2)
 |[],h=>nomatch h
 | q::cs,h=>by
  unfold modL at h;split at h
  ·rcases zMC h with h |h
   ·exact .inr ⟨q,by simp,h⟩
   ·exact .inl (qC _ h)
  ·rcases zMC h with h |h
   ·exact .inl (by rw[h];simp)
   ·rcases xp0 h with h |⟨a,b,e⟩
    ·exact .inl (qC _ h)
    ·exact .inr ⟨a,qC _ b,e⟩
theorem LOk.next{m:Mak}{h:Hand}{s:LSt}{r:Row}(g:MakOk m)(J:h∈m.hands)(o:LOk m h s)(Z:h.rows[s.row]?=some r)(Y:r.shut s.com=false):LOk m h (s.next m.kinds r):=by
 have w:=g.hok h J;have a:=w.ok r (zMG Z);have I:r≠.fin:=λe=>by subst e;cases Y
 have U:=g.wf;refine⟨xm0 w Z I,?_,?_,?_,?_,?_,?_,?_⟩
 ·show(xec m.kinds s.bx (r.letter s.com) r).map (·.1)=_
  rw[<- o.keys]
  cases r with
  |set x t=>
   obtain⟨k,i,_⟩:=a;exact xfh (by rw[o.keys];exact qD i)
  |take l c x=>
   obtain⟨ch,_,_,_,i⟩:=a;exact xfh (by rw[o.keys];exact qD i)
  |_=>rfl
 ·show FitB m.kinds h.boxes (enOf (xec m.kinds s.bx (r.letter s.com) r))
  cases r with
  |set x t=>
   obtain⟨k,i,C⟩:=a;exact xi6 w.nd o.fit i (xh8 C o.fit).2
  | take l c x=>
   obtain⟨ch,f,rfl,z,i⟩:=a;refine xi6 w.nd o.fit i ?_
   have M:ch.1∈s.com.map (·.1):=by
    rw[o.com];exact qD (List.mem_filter.mpr ⟨f,zDT z⟩)
   obtain⟨ds,u,_⟩:=xfw M;have n:((getL s.com ch.1).getD []).isEmpty=false:=Y;show Vk m.kinds ch.2.2.2 (((getL s.com ch.1).getD []).headD (.int 0));rw[u]at n⊢
   cases ds with
   |nil=>cases n
   |cons d ds=>exact o.cok ch f _ u d (by simp)
  |_=>exact o.fit
 ·show(r.com s.com).map (·.1)=_
  rw[<- o.com]
  cases r with
  |take l c x=>exact xfv _ _ _
  |_=>rfl
 ·show(r.goi m.kinds s.bx s.goi).map (·.1)=_
  rw[<- o.goi]
  cases r with
  |send c t=>exact xfv _ _ _
  |_=>rfl
 ·show ∀c∈m.chans,∀ds,getL (r.com s.com) c.1=some ds->∀d∈ds,Vk m.kinds c.2.2.2 d
  intro c f ds u d hd
  cases r with
  | take l c' x=>
   have b:getL (modL List.tail c' s.com) c.1=some ds:=u;rw[xgh]at b;by_cases e:c.1=c'
   ·rw[if_pos e]at b
    obtain⟨O,h0,rfl⟩:=zMS b;exact o.cok c f O (by rw[e];exact h0) d (List.mem_of_mem_tail hd)
   ·rw[if_neg e]at b
    exact o.cok c f ds b d hd
  |_=>exact o.cok c f ds u d hd
 ·show ∀p∈r.goi m.kinds s.bx s.goi,p.2.length<=s.many+1/\∀d∈p.2,d.deep<=12
  have old:∀p∈s.goi,p.2.length<=s.many+1/\∀d∈p.2,d.deep<=12:=λp j=>⟨by have:=(o.gok p j).1;omega,(o.gok p j).2⟩
  cases r with
  | send c t=>
   obtain⟨ch,f,_,_,C⟩:=a;intro p j;rcases xp0 (show p∈modL _ c s.goi from j) with j |⟨q,hq,rfl⟩
   ·exact old p j
   ·have G:=o.gok q hq
    refine⟨by rw[zLA,List.length_singleton];omega,λd hd=>?_⟩;rcases zMA hd with hd |hd
    ·exact G.2 d hd
    ·rw[zMO hd]
     exact xd5 U (g.ckin ch f) (xh8 C o.fit).2
  |_=>exact old
 ·show(r.told m.kinds s.bx s.told).length<=s.many+1/\∀d∈r.told m.kinds s.bx s.told,d.deep<=12
  have y:=o.tok
  cases r with
  | tell t=>
   refine⟨by show(s.told++[_]).length<=_;rw[zLA,List.length_singleton];omega,λd hd=>?_⟩;rcases zMA (show d∈s.told++[_] from hd) with hd |hd
   ·exact y.2 d hd
   ·rw[zMO hd]
    exact xd5 U (.inl rfl) (xh8 a o.fit).2
  |_=>exact⟨by have:=y.1;show s.told.length<=_;omega,y.2⟩
structure HSt where
 sd:Str->Nat×List (Str×D)
 bt:Str->List D
 tl:Str->List D
 ct:Str->Nat
def upF{α:Type}(f:Str->α)(x:Str)(v:α):Str->α:=λz=>if z=x then v else f z
theorem xao{α:Type}{f:Str->α}{x:Str}{v:α}:upF f x v x=v:=if_pos rfl
theorem xa4{α:Type}{f:Str->α}{x z:Str}{v:α}(h:z≠x):upF f x v z=f z:=if_neg h
def Row.shutF(bt:Str->List D):Row->Bool
 |.fin=>true
 |.take _ c _=>(bt c).isEmpty
 |_=>false
def Row.letF(bt:Str->List D):Row->D
 |.take _ c _=>(bt c).headD (.int 0)
 |_=>.int 0
noncomputable def Row.btF(ks:List Kn)(bx:List (Str×D))(bt:Str->List D):Row->Str->List D
 |.take _ c _=>upF bt c (bt c).tail
 |.send c t=>upF bt c (bt c++[wv ks bx t])
 |_=>bt
noncomputable def HSt.go(ks:List Kn)(s:HSt)(h:Str)(r:Row):HSt:=
 ⟨upF s.sd h (xc4 ks (s.sd h).2 (s.sd h).1 r,xec ks (s.sd h).2 (r.letF s.bt) r),r.btF ks (s.sd h).2 s.bt,upF s.tl h (r.told ks (s.sd h).2 (s.tl h)),upF s.ct h (s.ct h+1)⟩
def Stp(m:Mak)(s s':HSt)(h:Hand):Prop:=h∈m.hands/\∃r,h.rows[(s.sd h.name).1]?=some r/\r.shutF s.bt=false/\s'=s.go m.kinds h.name r
inductive Rch(m:Mak):HSt->HSt->Prop
 |refl (s:HSt):Rch m s s
 |head {s s' t:HSt} {h:Hand}:Stp m s s' h->Rch m s' t->Rch m s t
def xoh(m:Mak)(s:HSt):Prop:=∀h∈m.hands,∀r,h.rows[(s.sd h.name).1]?=some r->r.shutF s.bt=true
theorem Rch.trans{m:Mak}{s t u:HSt}(a:Rch m s t)(b:Rch m t u):Rch m s u:=by
 induction a with
 |refl=>exact b
 |head h _ c=>exact .head h (c b)
theorem Rch.one{m:Mak}{s t:HSt}{h:Hand}(a:Stp m s t h):Rch m s t:=.head a (.refl _)
theorem Stp.moves{m:Mak}{s s':HSt}{h:Hand}(a:Stp m s s' h)(st:xoh m s):False:=by
 obtain⟨e,r,c,b,_⟩:=a;have:=st h e r c;rw[b]at this;cases this
structure HOk(m:Mak)(s:HSt)(N:Nat):Prop where
 row:∀h∈m.hands,(s.sd h.name).1<h.rows.length
 keys:∀h∈m.hands,(s.sd h.name).2.map (·.1)=h.boxes.map (·.1)
 fit:∀h∈m.hands,FitB m.kinds h.boxes (enOf (s.sd h.name).2)
 cok:∀c∈m.chans,(s.bt c.1).length<=N/\∀d∈s.bt c.1,Vk m.kinds c.2.2.2 d
 tok:∀h∈m.hands,(s.tl h.name).length<=N/\∀d∈s.tl h.name,d.deep<=12
theorem HOk.mono{m:Mak}{s:HSt}{N b:Nat}(o:HOk m s N)(h:N<=b):HOk m s b:=⟨o.row,o.keys,o.fit,λc a=>⟨zY (o.cok c a).1 h,(o.cok c a).2⟩,λc a=>⟨zY (o.tok c a).1 h,(o.tok c a).2⟩⟩
theorem HOk.bxlen{m:Mak}{s:HSt}{N:Nat}(o:HOk m s N)(a:MakOk m){h:Hand}(b:h∈m.hands):(s.sd h.name).2.length<=5:=by
 have:=congrArg List.length (o.keys h b);rw[zLM,zLM]at this;have:=(a.hok h b).few;omega
theorem HOk.go{m:Mak}{s:HSt}{N:Nat}(f:MakOk m)(o:HOk m s N){h:Hand}(I:h∈m.hands){r:Row}(O:h.rows[(s.sd h.name).1]?=some r)(M:r.shutF s.bt=false):HOk m (s.go m.kinds h.name r) (N+1):=by
 have y:=f.hok h I;have b:=y.ok r (zMG O);have G:r≠.fin:=λe=>by subst e;cases M
 have Y:=f.wf;have fit:=o.fit h I;have nm:∀{h':Hand},h'∈m.hands->h'≠h->h'.name≠h.name:=λa n z=>n (xcr f.hnd a I z);have g:(s.go m.kinds h.name r).sd h.name=(xc4 m.kinds (s.sd h.name).2 (s.sd h.name).1 r,xec m.kinds (s.sd h.name).2 (r.letF s.bt) r):=xao;have i:∀{h':Hand},h'∈m.hands->h'≠h->(s.go m.kinds h.name r).sd h'.name=s.sd h'.name:=λa n=>xa4 (nm a n);refine⟨λh' a=>?_,λh' a=>?_,λh' a=>?_,λc u=>?_,λh' a=>?_⟩
 ·by_cases e:h'=h
  ·subst e
   rw[g];exact xm0 y O G
  ·rw[i a e];exact o.row h' a
 ·by_cases e:h'=h
  ·subst e
   rw[g,<- o.keys h' a];show(xec m.kinds (s.sd h'.name).2 (r.letF s.bt) r).map (·.1)=_
   cases r with
   |set x t=>
    obtain⟨k,j,_⟩:=b;exact xfh (by rw[o.keys h' a];exact qD j)
   |take l c x=>
    obtain⟨ch,_,_,_,j⟩:=b;exact xfh (by rw[o.keys h' a];exact qD j)
   |_=>rfl
  ·rw[i a e];exact o.keys h' a
 ·by_cases e:h'=h
  ·subst e
   rw[g];show FitB m.kinds h'.boxes (enOf (xec m.kinds (s.sd h'.name).2 (r.letF s.bt) r))
   cases r with
   |set x t=>
    obtain⟨k,j,C⟩:=b;exact xi6 y.nd fit j (xh8 C fit).2
   |take l c x=>
    obtain⟨ch,u,rfl,a0,j⟩:=b;refine xi6 y.nd fit j ?_;have w:(s.bt ch.1).isEmpty=false:=M;show Vk m.kinds ch.2.2.2 ((s.bt ch.1).headD (.int 0));have Z:=(o.cok ch u).2
    cases U:s.bt ch.1 with
    |nil=>rw[U]at w;cases w
    |cons d ds=>exact Z d (by rw[U];simp)
   |_=>exact fit
  ·rw[i a e];exact o.fit h' a
 ·show(r.btF m.kinds (s.sd h.name).2 s.bt c.1).length<=N+1/\∀d∈r.btF m.kinds (s.sd h.name).2 s.bt c.1,Vk m.kinds c.2.2.2 d
  have old:(s.bt c.1).length<=N+1/\∀d∈s.bt c.1,Vk m.kinds c.2.2.2 d:=⟨Nat.le_succ_of_le (o.cok c u).1,(o.cok c u).2⟩
  cases r with
  | take l p x=>
   show(upF s.bt p _ c.1).length<=_/\∀d∈upF s.bt p _ c.1,_;by_cases e:c.1=p
   ·rw[<- e,xao]
    refine⟨?_,λd hd=>old.2 d (List.mem_of_mem_tail hd)⟩;rw[List.length_tail];have:=old.1;omega
   ·rw[xa4 e];exact old
  | send p t=>
   show(upF s.bt p _ c.1).length<=_/\∀d∈upF s.bt p _ c.1,_;by_cases e:c.1=p
   ·rw[<- e,xao]
    refine⟨?_,λd hd=>?_⟩
    ·rw[zLA,List.length_singleton]
     have:=(o.cok c u).1;omega
    ·rcases zMA hd with hd |hd
     ·exact old.2 d hd
     ·rw[zMO hd]
      obtain⟨ch,J,e1,_,C⟩:=b;have:ch=c:=xcr f.cnd J u (e1.trans e.symm);subst this;exact(xh8 C fit).2
   ·rw[xa4 e];exact old
  |_=>exact old
 ·show(upF s.tl h.name (r.told m.kinds (s.sd h.name).2 (s.tl h.name)) h'.name).length<=N+1/\∀d∈upF s.tl h.name (r.told m.kinds (s.sd h.name).2 (s.tl h.name)) h'.name,d.deep<=12
  have old:=o.tok h' a;by_cases e:h'=h
  ·subst e
   rw[xao]
   cases r with
   | tell t=>
    refine⟨by show(s.tl h'.name++[_]).length<=_;rw[zLA,List.length_singleton];have:=old.1;omega,λd hd=>?_⟩;rcases zMA (show d∈s.tl h'.name++[_] from hd) with hd |hd
    ·exact old.2 d hd
    ·rw[zMO hd]
     exact xd5 Y (.inl rfl) (xh8 b fit).2
   |_=>exact⟨Nat.le_succ_of_le old.1,old.2⟩
  ·rw[xa4 (nm a e)]
   exact⟨Nat.le_succ_of_le old.1,old.2⟩
def mapK(ns:List Str)(f:Str->V):List (Key×V):=ns.map λx=>(Sum.inr x,f x)
theorem xp2(ns:List Str)(f:Str->V):(mapK ns f).map (·.1)=ns.map λx=>(Sum.inr x:Key):=by
 unfold mapK;rw[List.map_map];rfl
theorem xg4{ns:List Str}{f:Str->V}(h:ns.Nodup):((mapK ns f).map (·.1)).Nodup:=by
 rw[xp2];exact xkq (f:=λx:Str=>x) (by rw[List.map_id'];exact h)
theorem xcy{f:Str->V}{x:Str}:∀{ns:List Str},x∈ns->valV (mapK ns f) (Sum.inr x)=some (f x)
 | y::ns,h=>by
  show valV ((Sum.inr y,f y)::mapK ns f) _=_;by_cases e:y=x
  ·rw[xcj (by rw[e]),e]
  ·rw[xck (λz=>e (Sum.inr.inj z))]
   rcases zMC h with h |h
   ·exact absurd h.symm e
   ·exact xcy h
theorem xi3{f:Str->V}{x:Str}{v:V}{ns:List Str}(h:x∈ns):putK (mapK ns f) (Sum.inr x) v=mapK ns (upF f x v):=by
 have b:((mapK ns f).any λa=>decide (a.1=(Sum.inr x:Key)))=true:=List.any_eq_true.mpr ⟨(Sum.inr x,f x),List.mem_map.mpr ⟨x,h,rfl⟩,zDT rfl⟩;unfold putK;rw[if_pos b];unfold mapK;rw[List.map_map];refine zP λz _=>?_;show(if (Sum.inr z:Key)=Sum.inr x then ((Sum.inr z:Key),v) else (Sum.inr z,f z))=(Sum.inr z,upF f x v z);unfold upF;by_cases e:z=x
 ·rw[if_pos (by rw[e]),if_pos e]
 ·rw[if_neg (λq=>e (Sum.inr.inj q)),if_neg e]
theorem xda{f g:Str->V}{ns:List Str}(h:∀x∈ns,f x=g x):mapK ns f=mapK ns g:=zP λx a=>by rw[h x a]
theorem xce(ns:List Str)(f:Str->V):(mapK ns f).length=ns.length:=zLM ..
def Hms:List Str:=[Str.ofString "step",Str.ofString "weave",Str.ofString "still",Str.ofString "stays",Str.ofString "stand",Str.ofString "told",Str.ofString "letters",Str.ofString "count"]
abbrev hn(m:Mak):List Str:=m.hands.map Hand.name
abbrev cn(m:Mak):List Str:=m.chans.map (·.1)
structure HsA where
 dx:Addr
 sd:Addr
 bd:Addr
 td:Addr
 cd:Addr
 sa:Str->Addr
 pa:Str->Addr
 la:Str->Addr
 ta:Str->Addr
structure Hf(fs:List (Str×V))(mv:V)(a:HsA):Prop where
 mkv:fs.lookup (Str.ofString "make")=some mv
 st:fs.lookup (Str.ofString "stands")=some (.ref a.sd)
 bt:fs.lookup (Str.ofString "between")=some (.ref a.bd)
 tl:fs.lookup (Str.ofString "tellings")=some (.ref a.td)
 ct:fs.lookup (Str.ofString "counts")=some (.ref a.cd)
 len:fs.length<=5
 no:∀f∈Hms,fs.lookup f=none
def hFs(a:HsA):List (Str×V):=putF (Str.ofString "counts") (.ref a.cd) (putF (Str.ofString "tellings") (.ref a.td) (putF (Str.ofString "between") (.ref a.bd) (putF (Str.ofString "stands") (.ref a.sd) [])))
theorem Hf.init{i:V}{a:HsA}:Hf (putF (Str.ofString "make") i (hFs a)) i a:=by
 have ne:∀{f g:Str} {v u:V} {fs:List (Str×V)},fs.lookup g=some u->g≠f->(putF f v fs).lookup g=some u:=λe n=>by rw[xbw,if_neg n];exact e
 have c:∀{f:Str} {v:V} {fs:List (Str×V)},(putF f v fs).lookup f=some v:=by intro f v fs;rw[xbw,if_pos rfl]
 have b:∀{g:Str} {v:V} {fs:List (Str×V)},(∀f∈Hms,fs.lookup f=none)->(∀f∈Hms,f≠g)->∀f∈Hms,(putF g v fs).lookup f=none:=λh n f j=>by rw[xbw,if_neg (n f j)];exact h f j
 refine⟨c,?_,?_,?_,?_,?_,?_⟩
 ·exact ne (ne (ne (ne c (by walk_at"k")) (by walk_at"k")) (by walk_at"k")) (by walk_at"k")
 ·exact ne (ne (ne c (by walk_at"k")) (by walk_at"k")) (by walk_at"k")
 ·exact ne (ne c (by walk_at"k")) (by walk_at"k")
 ·exact ne c (by walk_at"k")
 ·exact zY (xav _ _ _) (zI (zY (xav _ _ _) (zI (zY (xav _ _ _) (zI (zY (xav _ _ _) (zI (zY (xav _ _ _) (zZ _)))))))))
 ·exact b (b (b (b (b (λ_ _=>rfl) (by walk_at"k")) (by walk_at"k")) (by walk_at"k")) (by walk_at"k")) (by walk_at"k")
structure HsIn(H:Hp)(m:Mak)(a:HsA)(s:HSt):Prop where
 hsd:H a.sd=some (.dK (mapK (hn m) λz=>.ref (a.sa z)))
 hbd:H a.bd=some (.dK (mapK (cn m) λz=>.ref (a.la z)))
 htd:H a.td=some (.dK (mapK (hn m) λz=>.ref (a.ta z)))
 hcd:H a.cd=some (.dK (mapK (hn m) λz=>.int (s.ct z:Nat)))
 sta:∀z∈hn m,StAt H (a.sa z) (a.pa z) (s.sd z).1 (s.sd z).2
 let_:∀z∈cn m,∃us,H (a.la z)=some (.lst us)/\RelDs H us (s.bt z)
 tel:∀z∈hn m,∃us,H (a.ta z)=some (.lst us)/\RelDs H us (s.tl z)
 nl:∀z∈cn m,∀y∈cn m,a.la z=a.la y->z=y
 nt:∀z∈hn m,∀y∈hn m,a.ta z=a.ta y->z=y
 nlt:∀z∈cn m,∀y∈hn m,a.la z≠a.ta y
 n1:a.sd≠a.bd/\a.sd≠a.td/\a.sd≠a.cd/\a.cd≠a.bd/\a.cd≠a.td
 np:∀z∈hn m,a.pa z≠a.sd/\a.pa z≠a.cd
structure HsAt(H:Hp)(C x:Addr)(mv:V)(m:Mak)(a:HsA)(s:HSt):Prop where
 ob:∃fs,H x=some (.ins C a.dx fs)/\Hf fs mv a
 inn:HsIn H m a s
def HsA.F(a:HsA)(m:Mak)(x b:Addr):Prop:=b=x\/b=a.sd\/b=a.bd\/b=a.td\/b=a.cd\/(∃z∈cn m,b=a.la z)\/∃z∈hn m,b=a.ta z\/b=a.pa z
theorem HsIn.keep{H i:Hp}{m:Mak}{a:HsA}{s:HSt}{x:Addr}(h:HsIn H m a s)(c:∀b vs,H b=some (.tup vs)->i b=some (.tup vs))(k:∀b,a.F m x b->∀o,H b=some o->i b=some o):HsIn i m a s:=by
 refine⟨k _ (.inr (.inl rfl)) _ h.hsd,k _ (.inr (.inr (.inl rfl))) _ h.hbd,k _ (.inr (.inr (.inr (.inl rfl)))) _ h.htd,k _ (.inr (.inr (.inr (.inr (.inl rfl))))) _ h.hcd,λz hz=>?_,λz hz=>?_,λz hz=>?_,h.nl,h.nt,h.nlt,h.n1,h.np⟩
 ·exact(h.sta z hz).keep c λo e=>k _ (.inr (.inr (.inr (.inr (.inr (.inr ⟨z,hz,.inr rfl⟩)))))) o e
 ·obtain⟨us,g,f⟩:=h.let_ z hz
  exact⟨us,k _ (.inr (.inr (.inr (.inr (.inr (.inl ⟨z,hz,rfl⟩)))))) _ g,f.tups c _⟩
 ·obtain⟨us,g,f⟩:=h.tel z hz
  exact⟨us,k _ (.inr (.inr (.inr (.inr (.inr (.inr ⟨z,hz,.inl rfl⟩)))))) _ g,f.tups c _⟩
theorem HsIn.there{H:Hp}{m:Mak}{a:HsA}{s:HSt}(i:HsIn H m a s):∀b,a.F m a.sd b->∃o,H b=some o/\∀C d f,o≠.ins C d f:=by
 intro b g;rcases g with rfl |rfl |rfl |rfl |rfl |⟨z,hz,rfl⟩ |⟨z,hz,rfl |rfl⟩
 ·exact⟨_,i.hsd,λ_ _ _ e=>by cases e⟩
 ·exact⟨_,i.hsd,λ_ _ _ e=>by cases e⟩
 ·exact⟨_,i.hbd,λ_ _ _ e=>by cases e⟩
 ·exact⟨_,i.htd,λ_ _ _ e=>by cases e⟩
 ·exact⟨_,i.hcd,λ_ _ _ e=>by cases e⟩
 ·obtain⟨us,c,_⟩:=i.let_ z hz
  exact⟨_,c,λ_ _ _ e=>by cases e⟩
 ·obtain⟨us,c,_⟩:=i.tel z hz
  exact⟨_,c,λ_ _ _ e=>by cases e⟩
 ·obtain⟨_,kvs,c,_⟩:=i.sta z hz
  exact⟨_,c,λ_ _ _ e=>by cases e⟩
theorem HsAt.keep{H c:Hp}{C x:Addr}{e:V}{m:Mak}{a:HsA}{s:HSt}(h:HsAt H C x e m a s)(f:∀b vs,H b=some (.tup vs)->c b=some (.tup vs))(k:∀b,a.F m x b->∀o,H b=some o->c b=some o):HsAt c C x e m a s:=by
 obtain⟨⟨fs,j,i⟩,g⟩:=h;exact⟨⟨fs,k x (.inl rfl) _ j,i⟩,g.keep f k⟩
theorem HsAt.same{H f:Hp}{C x:Addr}{c:V}{m:Mak}{a:HsA}{s:HSt}(h:HsAt H C x c m a s)(q:Same H f):HsAt f C x c m a s:=h.keep (Same.tups q) λb _ o e=>q b o e
theorem HsAt.there{H:Hp}{C x:Addr}{f:V}{m:Mak}{a:HsA}{s:HSt}(h:HsAt H C x f m a s):∀b,a.F m x b->∃o,H b=some o/\∀vs,o≠.tup vs:=by
 obtain⟨⟨fs,c,_⟩,i⟩:=h;intro b g;rcases g with rfl |rfl |rfl |rfl |rfl |⟨z,hz,rfl⟩ |⟨z,hz,rfl |rfl⟩
 ·exact⟨_,c,λvs e=>by cases e⟩
 ·exact⟨_,i.hsd,λvs e=>by cases e⟩
 ·exact⟨_,i.hbd,λvs e=>by cases e⟩
 ·exact⟨_,i.htd,λvs e=>by cases e⟩
 ·exact⟨_,i.hcd,λvs e=>by cases e⟩
 ·obtain⟨us,c,_⟩:=i.let_ z hz
  exact⟨_,c,λvs e=>by cases e⟩
 ·obtain⟨us,c,_⟩:=i.tel z hz
  exact⟨_,c,λvs e=>by cases e⟩
 ·obtain⟨_,kvs,c,_⟩:=i.sta z hz
  exact⟨_,c,λvs e=>by cases e⟩
theorem HsAt.stepped {H g:Hp} {C x:Addr} {mv:V} {m:Mak} {a:HsA} {s s':HSt} {h:Str} {w y:Addr} (l:HsAt H C x mv m a s) (hh:h∈hn m)
  (a1:s'.sd=upF s.sd h (s'.sd h)) (a2:s'.ct=upF s.ct h (s.ct h+1))
  (a0:StAt g w y (s'.sd h).1 (s'.sd h).2) (lt:∀z∈cn m,∃us,g (a.la z)=some (.lst us)/\RelDs g us (s'.bt z)) (tl:∀z∈hn m,∃us,g (a.ta z)=some (.lst us)/\RelDs g us (s'.tl z))
  (f:∀b o,H b=some o->(∀us,o≠.lst us)->g b=some o) (fr:∀b o,H b=some o->¬a.F m x b->g b=some o) (u:y=a.pa h\/H y=none) :
  let J:=upd (upd g a.sd (.dK (putK (mapK (hn m) λz=>.ref (a.sa z)) (Sum.inr h) (.ref w)))) a.cd (.dK (putK (mapK (hn m) λz=>.int (s.ct z:Nat)) (Sum.inr h) (.int ((s.ct h:Int)+1))))
  let I:HsA:={a with sa:=upF a.sa h w,pa:=upF a.pa h y}
  HsAt J C x mv m I s'/\(∀b o,H b=some o->¬a.F m x b->J b=some o)/\(∀b vs,H b=some (.tup vs)->J b=some (.tup vs))/\∀b,I.F m x b->a.F m x b\/H b=none:=by
 intro J I;obtain⟨⟨fs,hx,M⟩,i⟩:=l;obtain⟨m1,m2,m3,m4,m5⟩:=i.n1;have Y:=f _ _ i.hsd λus e=>by cases e
 have Z:=f _ _ i.hcd λus e=>by cases e
 have p:∀b o,g b=some o->b≠a.sd->b≠a.cd->J b=some o:=λb o e n1 n2=>by
  show upd (upd g _ _) _ _ b=_;rw[xak n2,xak n1];exact e
 have G:∀b o,g b=some o->(∀U,o≠.dK U)->J b=some o:=λb o e n=>p b o e (λz=>by rw[z,Y]at e;exact n _ (z8 e).symm) λz=>by rw[z,Z]at e;exact n _ (z8 e).symm
 have j:∀b vs,g b=some (.tup vs)->J b=some (.tup vs):=λb vs e=>G b _ e λU z=>by cases z
 have O:∀z∈hn m,I.pa z≠a.sd/\I.pa z≠a.cd:=λz hz=>by
  show upF a.pa h y z≠_/\upF a.pa h y z≠_;by_cases e:z=h
  ·subst e
   rw[xao];rcases u with u |u
   ·rw[u];exact i.np z hz
   ·exact⟨λq=>(by rw[q,i.hsd]at u;cases u),λq=>(by rw[q,i.hcd]at u;cases u)⟩
  ·rw[xa4 e];exact i.np z hz
 refine⟨⟨⟨fs,G _ _ (f _ _ hx λus e=>by cases e) (λU e=>by cases e),⟨M.mkv,M.st,M.bt,M.tl,M.ct,M.len,M.no⟩⟩,?_⟩,λb o e n=>?_,λb vs e=>?_,λb hb=>?_⟩
 ·refine⟨?_,?_,?_,?_,λz hz=>?_,λz hz=>?_,λz hz=>?_,i.nl,i.nt,i.nlt,i.n1,O⟩
  ·show upd (upd g _ _) _ _ a.sd=_
   rw[xak m3,ups,xi3 hh];refine congrArg some (congrArg HO.dK (xda λz _=>?_));show upF _ h _ z=V.ref (upF a.sa h w z);unfold upF;split <;> rfl
  ·exact p _ _ (f _ _ i.hbd λus e=>by cases e) (Ne.symm m1) (Ne.symm m4)
  ·exact p _ _ (f _ _ i.htd λus e=>by cases e) (Ne.symm m2) (Ne.symm m5)
  ·show upd (upd g _ _) _ _ a.cd=_
   rw[ups,xi3 hh];refine congrArg some (congrArg HO.dK (xda λz _=>?_));rw[a2];unfold upF;split
   ·show V.int _=V.int ((s.ct h+1:Nat):Int)
    congr 1
   ·rfl
  ·have r:=O z hz
   show StAt J (upF a.sa h w z) (upF a.pa h y z) _ _;rw[a1];by_cases e:z=h
   ·subst e
    rw[xao,xao,xao];have q:(I.pa z)=y:=xao;rw[q]at r;exact a0.keep j λo e=>p _ _ e r.1 r.2
   ·rw[xa4 e,xa4 e,xa4 e]
    have q:(I.pa z)=a.pa z:=xa4 e;rw[q]at r;obtain⟨c,kvs,h2,h3⟩:=i.sta z hz;have nt:∀b vs,H b=some (.tup vs)->g b=some (.tup vs):=λb vs e=>f _ _ e λus z=>by cases z
    exact⟨j _ _ (nt _ _ c),kvs,p _ _ (f _ _ h2 λus z=>by cases z) r.1 r.2,h3.tups λb vs e=>j _ _ (nt _ _ e)⟩
  ·obtain⟨us,c,h2⟩:=lt z hz
   exact⟨us,G _ _ c (λU e=>by cases e),h2.tups j _⟩
  ·obtain⟨us,c,h2⟩:=tl z hz
   exact⟨us,G _ _ c (λU e=>by cases e),h2.tups j _⟩
 ·exact p _ _ (fr b o e n) (λz=>n (.inr (.inl z))) λz=>n (.inr (.inr (.inr (.inr (.inl z)))))
 ·exact j _ _ (f _ _ e λus z=>by cases z)
 ·rcases hb with c |c |c |c |c |c |⟨z,hz,c |c⟩
  ·exact .inl (.inl c)
  ·exact .inl (.inr (.inl c))
  ·exact .inl (.inr (.inr (.inl c)))
  ·exact .inl (.inr (.inr (.inr (.inl c))))
  ·exact .inl (.inr (.inr (.inr (.inr (.inl c)))))
  ·exact .inl (.inr (.inr (.inr (.inr (.inr (.inl c))))))
  ·exact .inl (.inr (.inr (.inr (.inr (.inr (.inr ⟨z,hz,.inl c⟩))))))
  ·by_cases e:z=h
   ·subst e
    have q:(I.pa z)=y:=xao;rw[q]at c;rcases u with u |u
    ·exact .inl (.inr (.inr (.inr (.inr (.inr (.inr ⟨z,hz,.inr (c.trans u)⟩))))))
    ·exact .inr (by rw[c];exact u)
   ·have q:(I.pa z)=a.pa z:=xa4 e
    rw[q]at c;exact .inl (.inr (.inr (.inr (.inr (.inr (.inr ⟨z,hz,.inr c⟩))))))
def begM(mk:Mak)(hd:Hand):List (Str×D):=hd.boxes.map λb=>(b.1,nuV 7 mk.kinds b.2)
def hs0(mk:Mak):HSt:=⟨λz=>(0,match xed mk z with |some hd=>begM mk hd |none=>[]),λ_=>[],λ_=>[],λ_=>0⟩
theorem xfn{b:Mak}(c:MakOk b){hd:Hand}(a:hd∈b.hands):xed b hd.name=some hd:=by
 unfold xed
 cases e:b.hands.find? λh=>decide (h.name=hd.name) with
 |none=>exact absurd (zDT rfl) (List.find?_eq_none.mp e hd a)
 |some g=>
  have f:=z0 (zU (p:=λh:Hand=>decide (h.name=hd.name)) e);rw[xcr c.hnd (zMF e) a f]
theorem xng{a:Mak}(b:MakOk a){hd:Hand}(c:hd∈a.hands):(hs0 a).sd hd.name=(0,begM a hd):=by
 show(0,match xed a hd.name with |some hd=>begM a hd |none=>[])=_;rw[xfn b c]
theorem xi9{bx:List (Str×D)}(nd:(bx.map (·.1)).Nodup){b:Str×D}(h:b∈bx):enOf bx b.1=some b.2:=by
 unfold enOf
 cases e:bx.find? λc=>decide (c.1=b.1) with
 |none=>exact absurd (zDT rfl) (List.find?_eq_none.mp e b h)
 |some c=>
  have a:=z0 (zU (p:=λc:Str×D=>decide (c.1=b.1)) e);rw[xcr nd (zMF e) h a];rfl
theorem hok0{e:Mak}(a:MakOk e):HOk e (hs0 e) 0:=by
 have bk:∀hd:Hand,(begM e hd).map (·.1)=hd.boxes.map (·.1):=λhd=>by
  unfold begM;rw[List.map_map];rfl
 refine⟨λh b=>?_,λh b=>?_,λh b=>?_,λc i=>⟨zZ _,λd hd=>nomatch hd⟩,λh b=>⟨zZ _,λd hd=>nomatch hd⟩⟩
 ·rw[xng a b];exact(a.hok h b).pos
 ·rw[xng a b];exact bk h
 ·rw[xng a b]
  intro p f;have g:(p.1,nuV 7 e.kinds p.2)∈begM e h:=List.mem_map.mpr ⟨p,f,rfl⟩;exact⟨_,xi9 (by rw[bk];exact(a.hok h b).nd) g,xtv a.wf 6 p.2 ((a.hok h b).kin p f)⟩
theorem HOk.bxdeep{m:Mak}{s:HSt}{N:Nat}(o:HOk m s N)(a:MakOk m){h:Hand}(f:h∈m.hands):∀b∈(s.sd h.name).2,b.2.deep<=12:=λb i=>by
 have c:=a.hok h f;have l:((s.sd h.name).2.map (·.1)).Nodup:=by rw[o.keys h f];exact c.nd
 have:b.1∈h.boxes.map (·.1):=by rw[<- o.keys h f];exact qD i
 obtain⟨q,g,e⟩:=zMP this;obtain⟨v,j,n⟩:=o.fit h f q g;rw[e,xi9 l i]at j;cases j;exact xd5 a.wf (c.kin q g) n
theorem xdl{ns:List Str}(nd:ns.Nodup){i:Nat}{z:Str}(hz:ns[i]?=some z):∀y∈ns.take i,y≠z:=λy c e=>by
 subst e;obtain⟨j,f,a⟩:=List.getElem_of_mem c;rw[List.length_take]at f;rw[List.getElem_take]at a;obtain⟨hi,b⟩:=zES hz;have:=(List.getElem_inj nd).mp (a.trans b.symm);omega
theorem xdf{ns:List Str}{i:Nat}{z:Str}(hz:ns[i]?=some z):ns.take (i+1)=ns.take i++[z]:=by rw[zTA,hz];rfl
theorem xg3{ns:List Str}(nd:ns.Nodup){f:Str->V}{i:Nat}{z:Str}{v:V}(hz:ns[i]?=some z):mapK (ns.take (i+1)) (upF f z v)=mapK (ns.take i) f++[(Sum.inr z,v)]:=by
 rw[xdf hz];unfold mapK;rw[zAP,List.map_congr_left (g:=λx=>((Sum.inr x:Key),f x)) λy a=>by rw[xa4 (xdl nd hz y a)]];show _++[((Sum.inr z:Key),upF f z v z)]=_;rw[xao]
theorem xoj{f:Str->Addr}{z:Str}{l:Addr}:(λy=>V.ref (upF f z l y))=upF (λy=>V.ref (f y)) z (.ref l):=by
 funext y
 unfold upF;split <;> rfl
structure EmpAt(H H':Hp)(ns:List Str)(i:Nat)(ys:List V)(la:Str->Addr):Prop where
 pr:PairsV H' ys (mapK (ns.take i) λz=>.ref (la z))
 at_:∀z∈ns.take i,H' (la z)=some (.lst [])/\H (la z)=none
 inj:∀z∈ns.take i,∀y∈ns.take i,la z=la y->z=y
theorem EmpAt.snoc {H g:Hp} {ns:List Str} {i:Nat} {ys:List V} {la:Str->Addr} (e:EmpAt H g ns i ys la) (s:Same H g) (nd:ns.Nodup) {z:Str} (hz:ns[i]?=some z) {l t:Addr} (j:g l=none) (p:upd g l (.lst []) t=none) :
  EmpAt H (upd (upd g l (.lst [])) t (.tup [.str z,.ref l])) ns (i+1) (ys++[.ref t]) (upF la z l):=by
 have n:=zA j (.lst []);have m:=zA p (.tup [.str z,.ref l]);have c:=n.trans m;have f:=xdl nd hz;refine⟨?_,λy b=>?_,λy b h a q=>?_⟩
 ·rw[xoj,xg3 nd hz]
  exact(e.pr.same (Same.tups c)).append ⟨⟨t,rfl,ups⟩,trivial⟩
 ·rw[xdf hz]at b
  rcases zMA b with b |b
  ·rw[xa4 (f y b)]
   exact⟨c _ _ (e.at_ y b).1,(e.at_ y b).2⟩
  ·rw[zMO b,xao]
   exact⟨m _ _ ups,xae s j⟩
 ·rw[xdf hz]at b a
  have old:∀u∈ns.take i,la u≠l:=λu o q=>by have:=(e.at_ u o).1;rw[q,j]at this;cases this
  rcases zMA b with b |b <;> rcases zMA a with a |a
  ·rw[xa4 (f y b),xa4 (f h a)]at q
   exact e.inj y b h a q
  ·rw[zMO a,xa4 (f y b),xao]at q
   exact absurd q (old y b)
  ·rw[zMO b,xa4 (f h a),xao]at q
   exact absurd q.symm (old h a)
  ·rw[zMO b,zMO a]
structure NewSt(H H':Hp)(ns:List Str)(i:Nat)(ys:List V)(s:HSt)(sa pa:Str->Addr):Prop where
 pr:PairsV H' ys (mapK (ns.take i) λz=>.ref (sa z))
 at_:∀z∈ns.take i,StAt H' (sa z) (pa z) (s.sd z).1 (s.sd z).2/\H (pa z)=none
theorem NewSt.snoc {H g f:Hp} {ns:List Str} {i:Nat} {ys:List V} {s:HSt} {sa pa:Str->Addr} (e:NewSt H g ns i ys s sa pa) (q:Same H g) (l:Same g f) (nd:ns.Nodup) {z:Str} (hz:ns[i]?=some z) {a p t:Addr} (n:g p=none) (st:StAt f a p (s.sd z).1 (s.sd z).2) (m:f t=none) :
  NewSt H (upd f t (.tup [.str z,.ref a])) ns (i+1) (ys++[.ref t]) s (upF sa z a) (upF pa z p):=by
 have h:=zA m (.tup [.str z,.ref a]);have c:=l.trans h;have j:=xdl nd hz;refine⟨?_,λy b=>?_⟩
 ·rw[xoj,xg3 nd hz]
  exact(e.pr.same (Same.tups c)).append ⟨⟨t,rfl,ups⟩,trivial⟩
 ·rw[xdf hz]at b
  rcases zMA b with b |b
  ·rw[xa4 (j y b),xa4 (j y b)]
   exact⟨(e.at_ y b).1.same c,(e.at_ y b).2⟩
  ·rw[zMO b,xao,xao]
   exact⟨st.same h,xae q n⟩
end M
end
section
namespace L2
open PySem PySem.Spec PyProof.Rows
section
variable {X:Cx}
def xth:V->List V->Hp->VK->Prop:=λx vs H Q=>∃(l:Addr) (xs:List V) (i:Nat) (y:V),x=.ref l/\vs=[.int i,y]/\H l=some (.lst xs)/\i<=xs.length/\xs.length<1000/\Q .non (upd H l (.lst (xs.take i++y::xs.drop i)))
theorem xpz:MtM X "list.insert" xth:=by
 intro c s σ H x vs v us Q I o p h;obtain⟨l,xs,i,y,rfl,rfl,j,hi,hz,q⟩:=h;cases o;obtain⟨u,a,rfl,w,m⟩:=p.two;obtain⟨t,rfl⟩:=w;obtain⟨z,its,n,r,g,e⟩:=I.lstM j;have hs:its.toArray.size<=sizeLine:=by rw[List.size_toArray,<- g];exact z
 obtain⟨x,f⟩:∃x:Int,x=(i:Int):=⟨_,rfl⟩;rw[<- f]
 have C:(!Builtin.List.listFitsIndex x)=false:=by
  unfold Builtin.List.listFitsIndex;rw[zDT (show -(2 ^ 63:Int)<=x by omega),zDT (show x<(2 ^ 63:Int) by omega)];rfl
 have b:¬(!Builtin.List.listFitsIndex x)=true:=by rw[C];exact z7
 refine call_meets F.slot_list_insert ⟨_,e,rfl⟩ F.entry_list_insert (F.args_list_insert_3 _ _ _) (AutoListH.list_insert_list_int_val_1 l its.toArray n x t a b hs) ⟨e,?_⟩;subst f;refine⟨.non,_,I.lset (its':=its.take i++a::its.drop i) j e ?_ ((r.take i).append (.cons m (r.drop i))) ?_,rfl,q⟩
 ·show((its.toArray.extract 0 _).push a++its.toArray.extract _)=_
  rw[if_neg (by omega),Int.toNat_natCast,List.size_toArray,<- g,Nat.min_eq_left hi];apply Array.toList_inj.mp;simp;exact zTL (by rw[List.length_drop];omega)
 ·rw[zLA,List.length_cons,List.length_take,List.length_drop]
  have:(1000:Nat)<=sizeLine:=by decide
  omega
end
end L2
end
section
namespace M
open PySem L2
theorem xf7{α:Type}{f:Str->α}{x:Str}:upF f x (f x)=f:=by
 funext z
 unfold upF;split
 ·rename_i e;rw[e]
 ·rfl
theorem xg2{ns:List Str}{g:Str->V}:∀(a:List Str) (f:Str->V),(∀m∈a,m∈ns)->xc2 (mapK ns f) (mapK a g)=mapK ns λx=>if x∈a then g x else f x
 |[],f,_=>by
  refine xda λx _=>?_;rw[if_neg (by simp)]
 | m::a,f,h=>by
  show xc2 (putK (mapK ns f) (Sum.inr m) (g m)) (mapK a g)=_;rw[xi3 (h m (by simp)),xg2 a _ λz hz=>h z (qC _ hz)];refine xda λx _=>?_;by_cases b:x∈a
  ·rw[if_pos b,if_pos (qC _ b)]
  ·rw[if_neg b]
   by_cases c:x=m
   ·rw[c,xao,if_pos (by simp)]
   ·rw[xa4 c,if_neg (by simp[b,c])]
theorem xev(ns:List Str)(f g:Str->V):xc2 (mapK ns f) (mapK ns g)=mapK ns g:=by
 rw[xg2 ns f λ_ h=>h];exact xda λx a=>if_pos a
theorem xgf{ns:List Str}(nd:ns.Nodup){f:Str->V}{i:Nat}{z:Str}{v:V}(hz:ns[i]?=some z):putK (mapK (ns.take i) f) (Sum.inr z) v=mapK (ns.take (i+1)) (upF f z v):=by
 rw[xg3 nd hz];unfold putK;rw[if_neg];intro h;obtain⟨e,c,b⟩:=List.any_eq_true.mp h;obtain⟨y,a,rfl⟩:=zMP c;exact xdl nd hz y a (Sum.inr.inj (z0 b))
theorem lsK{H:Hp}{la:Str->Addr}{g:Str->List D}:∀{ns:List Str},(∀z∈ns,∃us,H (la z)=some (.lst us)/\RelDs H us (g z))->LsAt H (mapK ns λz=>.ref (la z)) (ns.map λz=>(z,g z)) (ns.map la)
 |[],_=>trivial
 |z::ns,h=>⟨rfl,h z (by simp),lsK λy a=>h y (qC _ a)⟩
theorem xl2{H:Hp}{g:Str->List D}:∀{ns:List Str} {kvs:List (Key×V)} {L:List Addr},ns.Nodup->L.Nodup->LsAt H kvs (ns.map λz=>(z,g z)) L->∃la:Str->Addr,kvs=mapK ns (λz=>.ref (la z))/\(∀z∈ns,la z∈L/\∃us,H (la z)=some (.lst us)/\RelDs H us (g z))/\∀z∈ns,∀y∈ns,la z=la y->z=y
 |[],[],[],_,_,_=>⟨λ_=>0,rfl,(λz h=>nomatch h),λz h=>nomatch h⟩
 | z::ns,G::kvs,a::L,u,s,⟨e,x,w⟩=>by
  obtain⟨p,o⟩:=List.nodup_cons.mp u;obtain⟨i,n⟩:=List.nodup_cons.mp s;obtain⟨la,m,l,C⟩:=xl2 o n w;have ne:∀y∈ns,y≠z:=λy b q=>p (q ▸ b);refine⟨upF la z a,?_,λy b=>?_,λy b j c q=>?_⟩
  ·show _=(Sum.inr z,V.ref (upF la z a z))::mapK ns _
   rw[xao,e,m,xda (f:=λy=>V.ref (upF la z a y)) (g:=λy=>V.ref (la y)) λy b=>by rw[xa4 (ne y b)]]
  ·rcases zMC b with rfl |b
   ·rw[xao]
    exact⟨by simp,x⟩
   ·rw[xa4 (ne y b)]
    exact⟨qC _ (l y b).1,(l y b).2⟩
  ·rcases zMC b with r |b <;> rcases zMC c with m |c
   ·rw[r,m]
   ·rw[r,xao,xa4 (ne j c)]at q
    exact absurd (q ▸ (l j c).1) i
   ·rw[m,xao,xa4 (ne y b)]at q
    exact absurd (q ▸ (l y b).1) i
   ·rw[xa4 (ne y b),xa4 (ne j c)]at q
    exact C y b j c q
 |[],_::_,_,_,_,h=>h.elim
 |[],[],_::_,_,_,h=>h.elim
 |_::_,[],_,_,_,h=>h.elim
 |_::_,_::_,[],_,_,h=>h.elim
structure Pts(H0 H:Hp)(p:Addr)(n1 n2 n3 cs:List Str)(a:HsA)(s:HSt):Prop where
 hp:H p=some (.lst [.ref a.sd,.ref a.bd,.ref a.td,.ref a.cd])
 hsd:H a.sd=some (.dK (mapK n1 λz=>.ref (a.sa z)))
 hbd:H a.bd=some (.dK (mapK cs λz=>.ref (a.la z)))
 htd:H a.td=some (.dK (mapK n2 λz=>.ref (a.ta z)))
 hcd:H a.cd=some (.dK (mapK n3 λz=>.int (s.ct z:Nat)))
 sta:∀z∈n1,StAt H (a.sa z) (a.pa z) (s.sd z).1 (s.sd z).2
 let_:∀z∈cs,∃us,H (a.la z)=some (.lst us)/\RelDs H us (s.bt z)
 tel:∀z∈n2,∃us,H (a.ta z)=some (.lst us)/\RelDs H us (s.tl z)
 nl:∀z∈cs,∀y∈cs,a.la z=a.la y->z=y
 nt:∀z∈n2,∀y∈n2,a.ta z=a.ta y->z=y
 nlt:∀z∈cs,∀y∈n2,a.la z≠a.ta y
 nlp:(∀z∈cs,a.la z≠p)/\∀z∈n2,a.ta z≠p
 dd:a.sd≠a.bd/\a.sd≠a.td/\a.sd≠a.cd/\a.bd≠a.td/\a.bd≠a.cd/\a.td≠a.cd
 np:∀z∈n1,a.pa z≠a.sd/\a.pa z≠a.bd/\a.pa z≠a.td/\a.pa z≠a.cd
 fr:H0 p=none/\H0 a.sd=none/\H0 a.bd=none/\H0 a.td=none/\H0 a.cd=none
 frp:∀z∈n1,H0 (a.pa z)=none
 frl:∀z∈cs,H0 (a.la z)=none
 frt:∀z∈n2,H0 (a.ta z)=none
section
variable {H0 H H':Hp}{p:Addr}{n1 n2 n3 cs:List Str}{a:HsA}{s:HSt}
theorem Pts.keep(h:Pts f H p l j i cs a s)(c:∀b vs,H b=some (.tup vs)->g b=some (.tup vs))(k:∀b o,f b=none->H b=some o->g b=some o):Pts f g p l j i cs a s:=by
 obtain⟨x,w,u,n,m⟩:=h.fr;refine⟨k _ _ x h.hp,k _ _ w h.hsd,k _ _ u h.hbd,k _ _ n h.htd,k _ _ m h.hcd,λz hz=>(h.sta z hz).keep c λo e=>k _ _ (h.frp z hz) e,λz hz=>?_,λz hz=>?_,h.nl,h.nt,h.nlt,h.nlp,h.dd,h.np,h.fr,h.frp,h.frl,h.frt⟩
 ·obtain⟨us,e,r⟩:=h.let_ z hz
  exact⟨us,k _ _ (h.frl z hz) e,r.tups c _⟩
 ·obtain⟨us,e,r⟩:=h.tel z hz
  exact⟨us,k _ _ (h.frt z hz) e,r.tups c _⟩
theorem Pts.same(h:Pts i H p g f c cs a s)(q:Same H j):Pts i j p g f c cs a s:=h.keep (Same.tups q) λb o _ e=>q b o e
theorem xe5{d:Addr}{kv kv':List (Key×V)}(hd:H d=some (.dK kv)):(∀b vs,H b=some (.tup vs)->upd H d (.dK kv') b=some (.tup vs))/\(∀b vs,H b=some (.lst vs)->upd H d (.dK kv') b=some (.lst vs))/\∀b o,b≠d->H b=some o->upd H d (.dK kv') b=some o:=
 ⟨λb vs e=>(by rw[xak λz=>by rw[z,hd]at e;cases e];exact e),λb vs e=>(by rw[xak λz=>by rw[z,hd]at e;cases e];exact e),λb o n e=>by rw[xak n];exact e⟩
theorem Pts.putS {ns:List Str} (nd:ns.Nodup) {i:Nat} {z:Str} (hz:ns[i]?=some z) (h:Pts I H p (ns.take i) M J cs a s) {j g:Addr} {r:Nat} {bx:List (Str×D)} (st:StAt H j g r bx) (f:I g=none) (n:g≠a.sd/\g≠a.bd/\g≠a.td/\g≠a.cd) {C:Hp->Prop}
  (k:∀G Z,Pts I G p (ns.take (i+1)) M J cs Z {s with sd:=upF s.sd z (r,bx)}->(∀b o,H b=some o->b≠a.sd->G b=some o)->C G):C (upd H a.sd (.dK (putK (mapK (ns.take i) λz=>.ref (a.sa z)) (Sum.inr z) (.ref j)))):=by
 obtain⟨u,w,l⟩:=xe5 (kv':=putK (mapK (ns.take i) λz=>.ref (a.sa z)) (Sum.inr z) (.ref j)) h.hsd;obtain⟨Y,U,O,d4,d5,d6⟩:=h.dd;have m:=xdl nd hz
 have x:∀y∈ns.take (i+1),y∈ns.take i\/y=z:=λy c=>by
  rw[xdf hz]at c;exact(zMA c).imp id zMO
 refine k _ {a with sa:=upF a.sa z j,pa:=upF a.pa z g} ⟨w _ _ h.hp,?_,l _ _ (Ne.symm Y) h.hbd,l _ _ (Ne.symm U) h.htd,l _ _ (Ne.symm O) h.hcd,λy c=>?_,λy c=>?_,λy c=>?_,h.nl,h.nt,h.nlt,h.nlp,h.dd,λy c=>?_,h.fr,λy c=>?_,h.frl,h.frt⟩ λb o e n=>l b o n e
 ·show upd H a.sd _ a.sd=_
  rw[ups,xgf nd hz,<- xoj]
 ·show StAt _ (upF a.sa z j y) (upF a.pa z g y) (upF s.sd z (r,bx) y).1 (upF s.sd z (r,bx) y).2
  rcases x y c with c |rfl
  ·rw[xa4 (m y c),xa4 (m y c),xa4 (m y c)]
   exact(h.sta y c).keep u λo e=>l _ _ (h.np y c).1 e
  ·rw[xao,xao,xao]
   exact st.keep u λo e=>l _ _ n.1 e
 ·obtain⟨us,e,q⟩:=h.let_ y c
  exact⟨us,w _ _ e,q.tups u _⟩
 ·obtain⟨us,e,q⟩:=h.tel y c
  exact⟨us,w _ _ e,q.tups u _⟩
 ·show upF a.pa z g y≠_/\upF a.pa z g y≠_/\upF a.pa z g y≠_/\upF a.pa z g y≠_
  rcases x y c with c |rfl
  ·rw[xa4 (m y c)];exact h.np y c
  ·rw[xao];exact n
 ·show I (upF a.pa z g y)=none
  rcases x y c with c |rfl
  ·rw[xa4 (m y c)];exact h.frp y c
  ·rw[xao];exact f
theorem Pts.putT {ns:List Str} (nd:ns.Nodup) {i:Nat} {z:Str} (hz:ns[i]?=some z) (h:Pts J H p Y (ns.take i) U cs a s) {l:Addr} {us:List V} {ds:List D} (Z:H l=some (.lst us)) (r:RelDs H us ds) (f:J l=none) (n:l≠p/\(∀y∈ns.take i,a.ta y≠l)/\∀y∈cs,a.la y≠l) {C:Hp->Prop}
  (k:∀I a2,Pts J I p Y (ns.take (i+1)) U cs a2 {s with tl:=upF s.tl z ds}->(∀b o,H b=some o->b≠a.td->I b=some o)->C I):C (upd H a.td (.dK (putK (mapK (ns.take i) λz=>.ref (a.ta z)) (Sum.inr z) (.ref l)))):=by
 obtain⟨G,x,w⟩:=xe5 (kv':=putK (mapK (ns.take i) λz=>.ref (a.ta z)) (Sum.inr z) (.ref l)) h.htd;obtain⟨d1,d2,d3,d4,d5,d6⟩:=h.dd;have m:=xdl nd hz
 have u:∀y∈ns.take (i+1),y∈ns.take i\/y=z:=λy c=>by
  rw[xdf hz]at c;exact(zMA c).imp id zMO
 refine k _ {a with ta:=upF a.ta z l} ⟨x _ _ h.hp,w _ _ d2 h.hsd,w _ _ d4 h.hbd,?_,w _ _ (Ne.symm d6) h.hcd,λy c=>?_,λy c=>?_,λy c=>?_,h.nl,λy c j g q=>?_,λy c j g=>?_,⟨h.nlp.1,λy c=>?_⟩,h.dd,h.np,h.fr,h.frp,h.frl,λy c=>?_⟩ λb o e n=>w b o n e
 ·show upd H a.td _ a.td=_
  rw[ups,xgf nd hz,<- xoj]
 ·exact(h.sta y c).keep G λo e=>w _ _ (h.np y c).2.2.1 e
 ·obtain⟨us,e,q⟩:=h.let_ y c
  exact⟨us,x _ _ e,q.tups G _⟩
 ·show ∃us,_=_/\RelDs _ us (upF s.tl z ds y)
  show ∃us,upd _ _ _ (upF a.ta z l y)=some (.lst us)/\RelDs _ us (upF s.tl z ds y);rcases u y c with c |rfl
  ·rw[xa4 (m y c),xa4 (m y c)]
   obtain⟨us,e,q⟩:=h.tel y c;exact⟨us,x _ _ e,q.tups G _⟩
  ·rw[xao,xao]
   exact⟨us,x _ _ Z,r.tups G _⟩
 ·have q:upF a.ta z l y=upF a.ta z l j:=q
  rcases u y c with c |O <;> rcases u j g with g |M
  ·rw[xa4 (m y c),xa4 (m j g)]at q;exact h.nt y c j g q
  ·rw[M,xao,xa4 (m y c)]at q;exact absurd q (n.2.1 y c)
  ·rw[O,xao,xa4 (m j g)]at q;exact absurd q.symm (n.2.1 j g)
  ·rw[O,M]
 ·show a.la y≠upF a.ta z l j
  rcases u j g with g |rfl
  ·rw[xa4 (m j g)];exact h.nlt y c j g
  ·rw[xao];exact n.2.2 y c
 ·show upF a.ta z l y≠p
  rcases u y c with c |rfl
  ·rw[xa4 (m y c)];exact h.nlp.2 y c
  ·rw[xao];exact n.1
 ·show J (upF a.ta z l y)=none
  rcases u y c with c |rfl
  ·rw[xa4 (m y c)];exact h.frt y c
  ·rw[xao];exact f
theorem Pts.putL {ns:List Str} (nd:ns.Nodup) {i:Nat} {z:Str} (hz:ns[i]?=some z) (h:Pts J H p Z M Y (ns.take i) a s) {l:Addr} {us:List V} {ds:List D} (hl:H l=some (.lst us)) (r:RelDs H us ds) (f:J l=none) (n:l≠p/\(∀y∈ns.take i,a.la y≠l)/\∀y∈M,a.ta y≠l) {C:Hp->Prop}
  (k:∀I a2,Pts J I p Z M Y (ns.take (i+1)) a2 {s with bt:=upF s.bt z ds}->(∀b o,H b=some o->b≠a.bd->I b=some o)->C I):C (upd H a.bd (.dK (putK (mapK (ns.take i) λz=>.ref (a.la z)) (Sum.inr z) (.ref l)))):=by
 obtain⟨G,x,w⟩:=xe5 (kv':=putK (mapK (ns.take i) λz=>.ref (a.la z)) (Sum.inr z) (.ref l)) h.hbd;obtain⟨d1,d2,d3,d4,d5,d6⟩:=h.dd;have m:=xdl nd hz
 have u:∀y∈ns.take (i+1),y∈ns.take i\/y=z:=λy c=>by
  rw[xdf hz]at c;exact(zMA c).imp id zMO
 refine k _ {a with la:=upF a.la z l} ⟨x _ _ h.hp,w _ _ d1 h.hsd,?_,w _ _ (Ne.symm d4) h.htd,w _ _ (Ne.symm d5) h.hcd,λy c=>?_,λy c=>?_,λy c=>?_,λy c j g q=>?_,h.nt,λy c j g=>?_,⟨λy c=>?_,h.nlp.2⟩,h.dd,h.np,h.fr,h.frp,λy c=>?_,h.frt⟩ λb o e n=>w b o n e
 ·show upd H a.bd _ a.bd=_
  rw[ups,xgf nd hz,<- xoj]
 ·exact(h.sta y c).keep G λo e=>w _ _ (h.np y c).2.1 e
 ·show ∃us,upd _ _ _ (upF a.la z l y)=some (.lst us)/\RelDs _ us (upF s.bt z ds y)
  rcases u y c with c |rfl
  ·rw[xa4 (m y c),xa4 (m y c)]
   obtain⟨us,e,q⟩:=h.let_ y c;exact⟨us,x _ _ e,q.tups G _⟩
  ·rw[xao,xao]
   exact⟨us,x _ _ hl,r.tups G _⟩
 ·obtain⟨us,e,q⟩:=h.tel y c
  exact⟨us,x _ _ e,q.tups G _⟩
 ·have q:upF a.la z l y=upF a.la z l j:=q
  rcases u y c with c |U <;> rcases u j g with g |O
  ·rw[xa4 (m y c),xa4 (m j g)]at q;exact h.nl y c j g q
  ·rw[O,xao,xa4 (m y c)]at q;exact absurd q (n.2.1 y c)
  ·rw[U,xao,xa4 (m j g)]at q;exact absurd q.symm (n.2.1 j g)
  ·rw[U,O]
 ·show upF a.la z l y≠a.ta j
  rcases u y c with c |rfl
  ·rw[xa4 (m y c)];exact h.nlt y c j g
  ·rw[xao];exact λe=>n.2.2 j g e.symm
 ·show upF a.la z l y≠p
  rcases u y c with c |rfl
  ·rw[xa4 (m y c)];exact h.nlp.1 y c
  ·rw[xao];exact n.1
 ·show J (upF a.la z l y)=none
  rcases u y c with c |rfl
  ·rw[xa4 (m y c)];exact h.frl y c
  ·rw[xao];exact f
theorem Pts.putC {ns:List Str} (nd:ns.Nodup) {i:Nat} {z:Str} (hz:ns[i]?=some z) (h:Pts J H p u r (ns.take i) cs a s) (c:Nat) {C:Hp->Prop}
  (k:∀m I,Pts J m p u r (ns.take (i+1)) cs I {s with ct:=upF s.ct z c}->(∀b o,H b=some o->b≠a.cd->m b=some o)->C m):C (upd H a.cd (.dK (putK (mapK (ns.take i) λz=>.int (s.ct z:Nat)) (Sum.inr z) (.int (c:Int))))):=by
 obtain⟨l,j,g⟩:=xe5 (kv':=putK (mapK (ns.take i) λz=>.int (s.ct z:Nat)) (Sum.inr z) (.int (c:Int))) h.hcd;obtain⟨U,O,G,M,x,w⟩:=h.dd;refine k _ a ⟨j _ _ h.hp,g _ _ G h.hsd,g _ _ x h.hbd,g _ _ w h.htd,?_,λy f=>?_,λy f=>?_,λy f=>?_,h.nl,h.nt,h.nlt,h.nlp,h.dd,h.np,h.fr,h.frp,h.frl,h.frt⟩ λb o e n=>g b o n e
 ·show upd H a.cd _ a.cd=_
  rw[ups,xgf nd hz];refine congrArg some (congrArg HO.dK (xda λy _=>?_));show upF _ z _ y=V.int ((upF s.ct z c y:Nat):Int);unfold upF;split <;> rfl
 ·exact(h.sta y f).keep l λo e=>g _ _ (h.np y f).2.2.2 e
 ·obtain⟨us,e,q⟩:=h.let_ y f
  exact⟨us,j _ _ e,q.tups l _⟩
 ·obtain⟨us,e,q⟩:=h.tel y f
  exact⟨us,j _ _ e,q.tups l _⟩
theorem Pts.hsIn{m:Mak}(h:Pts j H p (hn m) (hn m) (hn m) (cn m) a s):HsIn H m a s:=by
 obtain⟨g,f,e,i,c,b⟩:=h.dd;exact⟨h.hsd,h.hbd,h.htd,h.hcd,h.sta,h.let_,h.tel,h.nl,h.nt,h.nlt,⟨g,f,e,Ne.symm c,Ne.symm b⟩,λz hz=>⟨(h.np z hz).1,(h.np z hz).2.2.2⟩⟩
theorem Pts.free{m:Mak}(h:Pts l H p (hn m) (hn m) (hn m) (cn m) a s):∀b,a.F m p b->l b=none:=by
 obtain⟨j,i,g,f,e⟩:=h.fr;intro b c;rcases c with rfl |rfl |rfl |rfl |rfl |⟨z,hz,rfl⟩ |⟨z,hz,rfl |rfl⟩
 ·exact j
 ·exact i
 ·exact g
 ·exact f
 ·exact e
 ·exact h.frl z hz
 ·exact h.frt z hz
 ·exact h.frp z hz
end
theorem Pts.init {H:Hp} {a f g l p:Addr} (h0:H a=none) (C:upd H a (.dK []) f=none) (x:upd (upd H a (.dK [])) f (.dK []) g=none) (w:upd (upd (upd H a (.dK [])) f (.dK [])) g (.dK []) l=none) (J:upd (upd (upd (upd H a (.dK [])) f (.dK [])) g (.dK [])) l (.dK []) p=none) (s:HSt) :
  ∃I,I=upd (upd (upd (upd (upd H a (.dK [])) f (.dK [])) g (.dK [])) l (.dK [])) p (.lst [.ref a,.ref f,.ref g,.ref l])/\Same H I/\Pts H I p [] [] [] [] ⟨0,a,f,g,l,λ_=>0,λ_=>0,λ_=>0,λ_=>0⟩ s:=by
 have u:=zA h0 (.dK []);have j:=zA C (.dK []);have i:=zA x (.dK []);have r:=zA w (.dK []);have m:=zA J (.lst [.ref a,.ref f,.ref g,.ref l]);have ne:∀{O:Hp} {b c:Addr} {o:HO},O b=some o->O c=none->b≠c:=λe n z=>by rw[z,n]at e;cases e
 have y:upd H a (.dK []) a=some (.dK []):=ups;have G:upd (upd H a (.dK [])) f (.dK []) f=some (.dK []):=ups;have M:upd (upd (upd H a (.dK [])) f (.dK [])) g (.dK []) g=some (.dK []):=ups;refine⟨_,rfl,u.trans (j.trans (i.trans (r.trans m))),⟨ups,m _ _ (r _ _ (i _ _ (j _ _ y))),m _ _ (r _ _ (i _ _ G)),m _ _ (r _ _ M),m _ _ ups,?_,?_,?_,?_,?_,?_,⟨?_,?_⟩,⟨ne y C,ne (j _ _ y) x,ne (i _ _ (j _ _ y)) w,ne G x,ne (i _ _ G) w,ne M w⟩,?_,⟨xae (u.trans (j.trans (i.trans r))) J,h0,xae u C,xae (u.trans j) x,xae (u.trans (j.trans i)) w⟩,?_,?_,?_⟩⟩ <;> exact λz h=>nomatch h
theorem xiq{H c a:Hp}{d:Addr}(s:Same H c)(hd:H d=none)(k:∀b o,c b=some o->b≠d->a b=some o):Same H a:=λb o e=>k b o (s b o e) (neN e hd)
theorem xnk{f d:Addr}{H c a:Hp}(h:Fed f H c)(hd:H d=none)(g:∃o,H f=some o)(k:∀b o,c b=some o->b≠d->a b=some o):Fed f H a:=by
 obtain⟨s,x,y,e⟩:=h;obtain⟨o,i⟩:=g;exact⟨λb o e n=>k b o (s b o e n) (neN e hd),x,y,k _ _ e (neN i hd)⟩
theorem xm2{kvs:List (Key×V)}{k:Key}{v:V}(h:∀p∈kvs,p.1≠k):putK kvs k v=kvs++[(k,v)]:=by
 unfold putK;rw[if_neg];intro e;obtain⟨q,b,a⟩:=List.any_eq_true.mp e;exact h q b (z0 a)
structure Beg(mk:Mak)(hd:Hand)(row:Nat)(bx:List (Str×D)):Prop where
 row:row<hd.rows.length
 keys:bx.map (·.1)=hd.boxes.map (·.1)
 fit:FitB mk.kinds hd.boxes (enOf bx)
theorem Beg.of{l:Mak}{hd:Hand}{row:Nat}{bx:List (Str×D)}(h:row<hd.rows.length)(c:bx.map (·.1)=hd.boxes.map (·.1))(nd:(hd.boxes.map (·.1)).Nodup)(n:∀(j:Nat) b d,hd.boxes[j]?=some b->bx[j]?=some d->Vk l.kinds b.2 d.2):Beg l hd row bx:=by
 refine⟨h,c,λi e=>?_⟩;obtain⟨j,f⟩:=List.getElem?_of_mem e;have o:=(zES f).1
 have m:bx.length=hd.boxes.length:=by
  have:=congrArg List.length c;rw[zLM,zLM]at this;exact this
 have a:bx[j]?=some (bx[j]'(by omega)):=zGA _
 have p:(bx[j]'(by omega)).1=i.1:=by
  have g:(bx.map (·.1))[j]?=(hd.boxes.map (·.1))[j]?:=by rw[c]
  rw[zGM,zGM,a,f]at g;exact z8 g
 refine⟨_,?_,n j i _ f a⟩;rw[<- p];exact xi9 (by rw[c];exact nd) (zMG a)
theorem Pts.fed{c H l:Hp}{p f:Addr}{j i g cs:List Str}{a:HsA}{s:HSt}(h:Pts c H p j i g cs a s)(r:∃o,c f=some o)(m:∃x y:Int,H f=some (.lst [.int x,.int y]))(q:Fed f H l):Pts c l p j i g cs a s:=h.keep (xai m q) λb o n e=>q.1 b o e λz=>by
 obtain⟨w,u⟩:=r;rw[z,u]at n;cases n
theorem xi7{H a:Hp}{f b:Addr}(q:Fed f H a)(e:a b=none):H b=none:=by
 cases h:H b with
 |none=>rfl
 |some o=>
  obtain⟨x,y,c⟩:=q.2;by_cases z:b=f
  ·rw[z,c]at e;cases e
  ·rw[q.1 b o h z]at e;cases e
theorem Same.wr{H a:Hp}(s:Same H a){p:Addr}{o:HO}(c:H p=none):Same H (upd a p o):=λb u e=>by
 rw[xak (neN e c)];exact s _ _ e
section
variable {H H0:Hp}{C x:Addr}{mv:V}{m:Mak}{a:HsA}{s:HSt}
theorem HsAt.setS (h:HsAt H C x r m a s) {b c:Str->Addr} {v:Str->Nat×List (Str×D)} (st:∀z∈hn m,StAt H (b z) (c z) (v z).1 (v z).2) (p:∀z∈hn m,c z≠a.sd/\c z≠a.cd) :
  HsAt (upd H a.sd (.dK (mapK (hn m) λz=>.ref (b z)))) C x r m {a with sa:=b,pa:=c} {s with sd:=v}:=by
 obtain⟨⟨fs,l,f⟩,i⟩:=h;obtain⟨j,n,g⟩:=xe5 (kv':=mapK (hn m) λz=>.ref (b z)) i.hsd;obtain⟨y,w,u,I,G⟩:=i.n1;have xs:x≠a.sd:=λz=>by rw[z,i.hsd]at l;cases l
 refine⟨⟨fs,g _ _ xs l,f.mkv,f.st,f.bt,f.tl,f.ct,f.len,f.no⟩,ups,g _ _ (Ne.symm y) i.hbd,g _ _ (Ne.symm w) i.htd,g _ _ (Ne.symm u) i.hcd,λz hz=>?_,λz hz=>?_,λz hz=>?_,i.nl,i.nt,i.nlt,i.n1,p⟩
 ·exact(st z hz).keep j λo e=>g _ _ (p z hz).1 e
 ·obtain⟨us,e,q⟩:=i.let_ z hz
  exact⟨us,n _ _ e,q.tups j _⟩
 ·obtain⟨us,e,q⟩:=i.tel z hz
  exact⟨us,n _ _ e,q.tups j _⟩
theorem HsAt.setB (h:HsAt H C x w m a s) (j:∀z∈hn m,a.pa z≠a.bd) {b:Str->Addr} {v:Str->List D} (lt:∀z∈cn m,∃us,H (b z)=some (.lst us)/\RelDs H us (v z)) (u:∀z∈cn m,∀y∈cn m,b z=b y->z=y) (l:∀z∈cn m,∀y∈hn m,b z≠a.ta y) (p:a.bd≠a.td) :
  HsAt (upd H a.bd (.dK (mapK (cn m) λz=>.ref (b z)))) C x w m {a with la:=b} {s with bt:=v}:=by
 obtain⟨⟨fs,n,c⟩,i⟩:=h;obtain⟨g,r,f⟩:=xe5 (kv':=mapK (cn m) λz=>.ref (b z)) i.hbd;obtain⟨I,O,M,G,J⟩:=i.n1;have xs:x≠a.bd:=λz=>by rw[z,i.hbd]at n;cases n
 refine⟨⟨fs,f _ _ xs n,c.mkv,c.st,c.bt,c.tl,c.ct,c.len,c.no⟩,f _ _ I i.hsd,ups,f _ _ (Ne.symm p) i.htd,f _ _ G i.hcd,λz hz=>?_,λz hz=>?_,λz hz=>?_,u,i.nt,l,i.n1,i.np⟩
 ·exact(i.sta z hz).keep g λo e=>f _ _ (j z hz) e
 ·obtain⟨us,e,q⟩:=lt z hz
  exact⟨us,r _ _ e,q.tups g _⟩
 ·obtain⟨us,e,q⟩:=i.tel z hz
  exact⟨us,r _ _ e,q.tups g _⟩
theorem HsAt.setT (h:HsAt H C x w m a s) (j:∀z∈hn m,a.pa z≠a.td) {b:Str->Addr} {v:Str->List D} (lt:∀z∈hn m,∃us,H (b z)=some (.lst us)/\RelDs H us (v z)) (u:∀z∈hn m,∀y∈hn m,b z=b y->z=y) (l:∀z∈cn m,∀y∈hn m,a.la z≠b y) (p:a.bd≠a.td) :
  HsAt (upd H a.td (.dK (mapK (hn m) λz=>.ref (b z)))) C x w m {a with ta:=b} {s with tl:=v}:=by
 obtain⟨⟨fs,n,c⟩,i⟩:=h;obtain⟨g,r,f⟩:=xe5 (kv':=mapK (hn m) λz=>.ref (b z)) i.htd;obtain⟨O,I,M,J,G⟩:=i.n1;have xs:x≠a.td:=λz=>by rw[z,i.htd]at n;cases n
 refine⟨⟨fs,f _ _ xs n,c.mkv,c.st,c.bt,c.tl,c.ct,c.len,c.no⟩,f _ _ I i.hsd,f _ _ p i.hbd,ups,f _ _ G i.hcd,λz hz=>?_,λz hz=>?_,λz hz=>?_,i.nl,u,l,i.n1,i.np⟩
 ·exact(i.sta z hz).keep g λo e=>f _ _ (j z hz) e
 ·obtain⟨us,e,q⟩:=i.let_ z hz
  exact⟨us,r _ _ e,q.tups g _⟩
 ·obtain⟨us,e,q⟩:=lt z hz
  exact⟨us,r _ _ e,q.tups g _⟩
theorem HsAt.setC (h:HsAt H C x l m a s) (v:Str->Nat) :
  HsAt (upd H a.cd (.dK (mapK (hn m) λz=>.int (v z:Nat)))) C x l m a {s with ct:=v}:=by
 obtain⟨⟨fs,g,b⟩,i⟩:=h;obtain⟨f,j,c⟩:=xe5 (kv':=mapK (hn m) λz=>.int (v z:Nat)) i.hcd;obtain⟨w,u,r,p,n⟩:=i.n1;have xs:x≠a.cd:=λz=>by rw[z,i.hcd]at g;cases g
 refine⟨⟨fs,c _ _ xs g,b.mkv,b.st,b.bt,b.tl,b.ct,b.len,b.no⟩,c _ _ r i.hsd,c _ _ (Ne.symm p) i.hbd,c _ _ (Ne.symm n) i.htd,ups,λz hz=>?_,λz hz=>?_,λz hz=>?_,i.nl,i.nt,i.nlt,i.n1,i.np⟩
 ·exact(i.sta z hz).keep f λo e=>c _ _ (i.np z hz).2 e
 ·obtain⟨us,e,q⟩:=i.let_ z hz
  exact⟨us,j _ _ e,q.tups f _⟩
 ·obtain⟨us,e,q⟩:=i.tel z hz
  exact⟨us,j _ _ e,q.tups f _⟩
end
theorem HsIn.bt_ne{H:Hp}{m:Mak}{a:HsA}{s:HSt}(i:HsIn H m a s)(ne:m.hands≠[]):a.bd≠a.td:=λe=>by
 have b:=i.hbd;rw[e,i.htd]at b;have j:mapK (hn m) (λz=>.ref (a.ta z))=mapK (cn m) λz=>.ref (a.la z):=by injection b with b;injection b
 cases c:m.hands with
 |nil=>exact ne c
 |cons h hs=>
  have g:((Sum.inr h.name:Key),V.ref (a.ta h.name))∈mapK (hn m) λz=>.ref (a.ta z):=List.mem_map.mpr ⟨h.name,qD (by rw[c];simp),rfl⟩;rw[j]at g;obtain⟨z,hz,l⟩:=zMP g;injection l with e3 f;injection f with f;exact i.nlt z hz h.name (qD (by rw[c];simp)) f
theorem row3(r:Row):r=.fin\/(∃l c x,r=.take l c x)\/(r≠.fin/\(∀l c x,r≠.take l c x)/\∀a,r.shutF a=false):=by
 cases r with
 |fin=>exact .inl rfl
 |take l c x=>exact .inr (.inl ⟨l,c,x,rfl⟩)
 |_=>exact .inr (.inr ⟨(by intro e;cases e),(by intro _ _ _ e;cases e),λ_=>rfl⟩)
structure Sim(m:Mak)(h:Str)(s0 s:HSt)(st:LSt):Prop where
 sd:s.sd h=(st.row,st.bx)
 tl:s.tl h=s0.tl h++st.told
 ct:s.ct h=s0.ct h+st.many
 go:∀c∈m.chans,c.2.1=h->s.bt c.1=s0.bt c.1++(getL st.goi c.1).getD []
 co:∀c∈m.chans,c.2.2.1=h->s.bt c.1=(getL st.com c.1).getD []
theorem Sim.shut{m:Mak}{hd:Hand}{h s:HSt}{st:LSt}(q:Sim m hd.name h s st)(a:MakOk m)(g:hd∈m.hands){r:Row}(i:hd.rows[st.row]?=some r):r.shutF s.bt=r.shut st.com/\r.letF s.bt=r.letter st.com:=by
 have f:=(a.hok hd g).ok r (zMG i)
 cases r with
 |take l c x=>
  obtain⟨ch,j,rfl,b,_⟩:=f;have e:=q.co ch j b;exact⟨congrArg List.isEmpty e,congrArg (λl=>List.headD l (D.int 0)) e⟩
 |_=>exact⟨rfl,rfl⟩
theorem Sim.next{m:Mak}{hd:Hand}{n s:HSt}{st:LSt}(q:Sim m hd.name n s st)(a:MakOk m)(p:hd∈m.hands)(o:LOk m hd st)(free:∀c∈m.chans,c.2.1=hd.name->c.2.2.1≠hd.name){r:Row}(z:hd.rows[st.row]?=some r):Sim m hd.name n (s.go m.kinds hd.name r) (st.next m.kinds r):=by
 have h:=(a.hok hd p).ok r (zMG z);obtain⟨_,I⟩:=q.shut a p z;have f:=q.sd;refine⟨?_,?_,?_,λc g i=>?_,λc g w=>?_⟩
 ·show upF s.sd hd.name _ hd.name=_
  rw[xao,f,I];rfl
 ·show upF s.tl hd.name _ hd.name=n.tl hd.name++r.told m.kinds st.bx st.told
  rw[xao,f,q.tl]
  cases r with
  |tell t=>exact List.append_assoc ..
  |_=>rfl
 ·show upF s.ct hd.name _ hd.name=n.ct hd.name+(st.many+1)
  rw[xao,q.ct];rfl
 ·show r.btF m.kinds (s.sd hd.name).2 s.bt c.1=n.bt c.1++(getL (r.goi m.kinds st.bx st.goi) c.1).getD []
  rw[f];have old:=q.go c g i
  cases r with
  | take l j x=>
   obtain⟨ch,b,rfl,y,_⟩:=h;show upF s.bt ch.1 _ c.1=_;rw[xa4]
   ·exact old
   ·intro e
    have:c=ch:=xcr a.cnd g b e;subst this;exact free c g i y
  | send j t=>
   obtain⟨ch,b,rfl,u,_⟩:=h;show upF s.bt ch.1 (s.bt ch.1++[wv m.kinds st.bx t]) c.1=n.bt c.1++(getL (modL (λl=>l++[wv m.kinds st.bx t]) ch.1 st.goi) c.1).getD [];rw[xgh];by_cases e:c.1=ch.1
   ·rw[e,xao,if_pos rfl,<- e,old]
    have C:c.1∈st.goi.map (·.1):=by
     rw[o.goi];exact qD (List.mem_filter.mpr ⟨g,zDT i⟩)
    obtain⟨ds,G,_⟩:=xfw C;rw[G];exact List.append_assoc ..
   ·rw[xa4 e,if_neg e]
    exact old
  |_=>exact old
 ·show r.btF m.kinds (s.sd hd.name).2 s.bt c.1=(getL (r.com st.com) c.1).getD []
  rw[f];have old:=q.co c g w
  cases r with
  | take l j x=>
   show upF s.bt j (s.bt j).tail c.1=(getL (modL List.tail j st.com) c.1).getD [];rw[xgh];by_cases e:c.1=j
   ·rw[<- e,xao,if_pos rfl,old]
    cases getL st.com c.1 <;> rfl
   ·rw[xa4 e,if_neg e]
    exact old
  | send j t=>
   obtain⟨ch,b,rfl,u,_⟩:=h;show upF s.bt ch.1 _ c.1=_;rw[xa4]
   ·exact old
   ·intro e
    have:c=ch:=xcr a.cnd g b e;subst this;exact free c g u w
  |_=>exact old
end M
end
section
local macro_rules | `(tactic| obtain $p:rcasesPatMed:=$e:term)=>`(tactic| ((refine gcut λG hG=>?_;rcases $e:term with $p:rcasesPatMed) <;> refine hG ?_))
section
namespace L2
open PySem
abbrev qaa:List Str:=["self"]
abbrev qab:List Str:=["self","h"]
abbrev qac:List Str:=["make","h"]
abbrev qad:List Str:=["_law_kinds_here","_law_kind"]
abbrev qae:List Str:=["_law_feed_here","_law_many"]
abbrev qaf:List Str:=["kinds","term","boxes"]
abbrev qag:List Str:=["_law_house","_law_make_here"]
abbrev qah:List Str:=["_law_feed_here","_law_kinds_here","_law_boxes_here","_law_kind","_law_room","_law_deep"]
abbrev qai:List Str:=["self","make"]
abbrev qaj:List Str:=["kinds","K"]
abbrev qak:List Str:=["make","h","stand"]
abbrev qal:List Str:=["_law_feed_here","_law_kinds_here","_law_boxes_here","_law_kind"]
abbrev qam:List Str:=["self","c"]
abbrev qan:List Str:=["_law_script","_law_k"]
abbrev qao:List Str:=["_law_feed_here","_law_kinds_here"]
abbrev qap:List Str:=["_law_make_here"]
abbrev qaq:List Str:=["self","make","h","letters","stand"]
abbrev qar:List Str:=["boxes","x","thing"]
abbrev qas:List Str:=["kinds","kind"]
abbrev qat:List Str:=["row","letters"]
abbrev qau:List Str:=["make","h","stand","letter"]
abbrev qav:List Str:=["make","h","stand","coming","going","tellings"]
abbrev qaw:List Str:=["make","stands","letters","told","counts"]
abbrev qax:List Str:=["_law_feed_here"]
abbrev qay:List Str:=["_law_channels_here","_law_h","_law_boxes_here"]
abbrev qaz:List Str:=["_law_feed_here","_law_kinds_here","_law_kind"]
abbrev qa0:List Str:=["sign","a","b"]
abbrev qa1:List Str:=["make","row","boxes","letter"]
abbrev qa2:List Str:=["_law_feed_here","_law_kinds_here","_law_sort","_law_names_here"]
abbrev qa3:List Str:=["_law_feed_here","_law_some"]
abbrev qa4:List Str:=["_law_feed_here","_law_kinds_here","_law_channels_here","_law_h","_law_boxes_here","_law_marks"]
abbrev qa5:List Str:=["_law_feed_here","_law_kinds_here","_law_channels_here","_law_h","_law_boxes_here","_law_names_here"]
abbrev qa6:List Str:=["_law_script","_law_at","_law_names_here"]
abbrev qa7:List Str:=["_law_script","_law_at","_law_kinds_here","_law_channels_here","_law_many","_law_names_here"]
abbrev qa8:List Str:=["_law_feed_here","_law_make_here"]
abbrev qa9:List Str:=["_law_make_here","_law_feed_here"]
abbrev qba:List Str:=["self","hands"]
abbrev qbb:List Str:=["things","name"]
abbrev qbc:List Str:=["kinds","value","f"]
abbrev qbd:List Str:=["make","row","stand"]
abbrev qbe:List Str:=["_law_cell","_law_many"]
abbrev qbf:List Str:=["_law_feed_here","_law_names_here"]
abbrev qbg:List Str:=["_law_feed_here","_law_kinds_here","_law_boxes_here","_law_parts_here","_law_kind","_law_room","_law_deep"]
abbrev qbh:List Str:=["_law_feed_here","_law_kinds_here","_law_names_here","_law_hands_here"]
abbrev qbi:List Str:=["_law_feed_here","_law_kinds_here","_law_channels_here","_law_h","_law_names_here"]
abbrev qbj:List Str:=["_law_script","_law_at","_law_make_here"]
abbrev qbk:List Str:=["_law_parts_here"]
abbrev qbl:List Str:=["make","name","now","coming","going","tellings","many"]
end L2
namespace K39
open PySem L2 M
seal L2.PE L2.PA L2.PS L2.PSs L2.PT L2.PW L2.PI L2.PG L2.PJ L2.PTs
def top(i:Nat):Stmt:=PySem.Challenge.pw_swapstride_k39_houses_begun_amid.main.body.getD i (.Pass ⟨0,0,0,0⟩)
abbrev s_row_ways:Stmt:=top 1
theorem xll:FnScope ["row","k"] ["row","k"] (xac s_row_ways):=by walk_at"q"
abbrev s_hand_of:Stmt:=top 2
theorem xn1:FnScope qac qac (xac s_hand_of):=by walk_at"q"
abbrev s_named:Stmt:=top 3
theorem sc_named:FnScope ["things","name","thing"] qbb (xac s_named):=by walk_at"q"
abbrev s_channels_from:Stmt:=top 4
theorem xf1:FnScope qac qac (xac s_channels_from):=by walk_at"q"
abbrev s_channels_to:Stmt:=top 5
theorem xhh:FnScope qac qac (xac s_channels_to):=by walk_at"q"
abbrev s_sort_of:Stmt:=top 7
theorem sc_sort_of:FnScope ["kinds","K","name","sort","parts"] qaj (xac s_sort_of):=by walk_at"q"
abbrev s_parts_of:Stmt:=top 8
theorem sc_parts_of:FnScope ["kinds","K","name","sort","parts"] qaj (xac s_parts_of):=by walk_at"q"
abbrev s_with_box:Stmt:=top 11
theorem sc_with_box:FnScope ["boxes","x","thing","more"] qar (xac s_with_box):=by walk_at"q"
abbrev s_nought:Stmt:=top 13
theorem sc_nought:FnScope ["kinds","kind","parts"] qas (xac s_nought):=by walk_at"q"
abbrev s_field:Stmt:=top 14
theorem sc_field:FnScope ["kinds","value","f","names"] qbc (xac s_field):=by walk_at"q"
abbrev s_worth:Stmt:=top 16
theorem sc_worth:FnScope ["kinds","term","boxes","head","taken"] qaf (xac s_worth):=by walk_at"q"
abbrev s_op_worth:Stmt:=top 17
theorem xlm:FnScope qa0 qa0 (xac s_op_worth):=by walk_at"q"
abbrev s_case_worth:Stmt:=top 18
theorem sc_case_worth:FnScope ["kinds","term","boxes","value","arm"] qaf (xac s_case_worth):=by walk_at"q"
abbrev s_begin_of:Stmt:=top 20
theorem xln:FnScope qac qac (xac s_begin_of):=by walk_at"q"
abbrev s_own_stand:Stmt:=top 21
theorem xjs:FnScope ["stand"] ["stand"] (xac s_own_stand):=by walk_at"q"
abbrev s_own_lists:Stmt:=top 22
theorem xjt:FnScope ["lists"] ["lists"] (xac s_own_lists):=by walk_at"q"
abbrev s_row_at:Stmt:=top 23
theorem xo6:FnScope qak qak (xac s_row_at):=by walk_at"q"
abbrev s_first_letter:Stmt:=top 24
theorem xgv:FnScope qat qat (xac s_first_letter):=by walk_at"q"
abbrev s_stride:Stmt:=top 25
theorem sc_stride:FnScope ["make","h","stand","letter","row"] qau (xac s_stride):=by walk_at"q"
abbrev s_row_behind:Stmt:=top 26
theorem sc_row_behind:FnScope ["make","row","stand","ways"] qbd (xac s_row_behind):=by walk_at"q"
abbrev s_boxes_behind:Stmt:=top 27
theorem xgw:FnScope qa1 qa1 (xac s_boxes_behind):=by walk_at"q"
abbrev s_done:Stmt:=top 28
theorem sc_done:FnScope ["make","h","stand","coming","going","tellings","row","behind"] qav (xac s_done):=by walk_at"q"
abbrev s_plain_at:Stmt:=top 33
theorem sc_plain_at:FnScope ["make","stands","letters","told","counts","house"] qaw (xac s_plain_at):=by walk_at"q"
abbrev sl_feed:Stmt:=top 37
theorem scl_feed:FnScope ["_law_script","_law_k","_law_cell"] qan (xac sl_feed):=by walk_at"q"
abbrev sl_take:Stmt:=top 38
theorem scl_take:FnScope ["_law_feed_here","_law_many","_law_digit","_law_one"] qae (xac sl_take):=by walk_at"q"
abbrev sl_names:Stmt:=top 39
theorem scl_names:FnScope ["_law_cell","_law_many","_law_letters","_law_size_here","_law_at","_law_common","_law_found"] qbe (xac sl_names):=by walk_at"q"
abbrev sl_number:Stmt:=top 40
theorem scl_number:FnScope ["_law_feed_here","_law_form"] qax (xac sl_number):=by walk_at"q"
abbrev sl_sort_of:Stmt:=top 41
theorem scl_sort_of:FnScope ["_law_kinds_here","_law_kind","_law_name","_law_sort","_law_parts_here"] qad (xac sl_sort_of):=by walk_at"q"
abbrev sl_size:Stmt:=top 42
theorem scl_size:FnScope ["_law_kinds_here","_law_kind","_law_sort","_law_parts_here","_law_sizes"] qad (xac sl_size):=by walk_at"q"
abbrev sl_small:Stmt:=top 43
theorem scl_small:FnScope ["_law_kinds_here","_law_kind","_law_sort","_law_parts_here"] qad (xac sl_small):=by walk_at"q"
abbrev sl_parts:Stmt:=top 44
theorem scl_parts:FnScope ["_law_feed_here","_law_kinds_here","_law_sort","_law_names_here","_law_parts_here","_law_left","_law_j","_law_kind"] qa2 (xac sl_parts):=by walk_at"q"
abbrev sl_kinds:Stmt:=top 45
theorem scl_kinds:FnScope ["_law_feed_here","_law_names_here","_law_kinds_here","_law_k","_law_sort"] qbf (xac sl_kinds):=by walk_at"q"
abbrev sl_boxed:Stmt:=top 46
theorem xo5:FnScope qa3 qa3 (xac sl_boxed):=by walk_at"q"
abbrev sl_arms:Stmt:=top 47
theorem scl_arms:FnScope ["_law_feed_here","_law_kinds_here","_law_boxes_here","_law_parts_here","_law_kind","_law_room","_law_deep","_law_arms_here","_law_each","_law_t","_law_part","_law_x"] qbg (xac sl_arms):=by walk_at"q"
abbrev sl_whole_term:Stmt:=top 48
theorem scl_whole_term:FnScope ["_law_feed_here","_law_kinds_here","_law_boxes_here","_law_kind","_law_room","_law_deep","_law_sort","_law_parts_here","_law_one","_law_other","_law_some","_law_t","_law_part","_law_more","_law_terms","_law_f"] qah (xac sl_whole_term):=by walk_at"q"
abbrev sl_term:Stmt:=top 49
theorem scl_term:FnScope ["_law_feed_here","_law_kinds_here","_law_boxes_here","_law_kind","_law_room","_law_deep","_law_some","_law_form","_law_small_here","_law_more","_law_one","_law_first","_law_held","_law_x","_law_told","_law_sort","_law_parts_here","_law_f","_law_tags"] qah (xac sl_term):=by walk_at"q"
abbrev sl_new_term:Stmt:=top 50
theorem xjq:FnScope qal qal (xac sl_new_term):=by walk_at"q"
abbrev sl_any_kind:Stmt:=top 51
theorem scl_any_kind:FnScope qao qao (xac sl_any_kind):=by walk_at"q"
abbrev sl_channels:Stmt:=top 52
theorem scl_channels:FnScope ["_law_feed_here","_law_kinds_here","_law_names_here","_law_hands_here","_law_found","_law_turn","_law_k","_law_ends"] qbh (xac sl_channels):=by walk_at"q"
abbrev sl_boxes:Stmt:=top 53
theorem scl_boxes:FnScope ["_law_feed_here","_law_kinds_here","_law_channels_here","_law_h","_law_names_here","_law_wants","_law_c","_law_come","_law_to","_law_kind","_law_k","_law_turn"] qbi (xac sl_boxes):=by walk_at"q"
abbrev sl_into:Stmt:=top 54
theorem scl_into:FnScope ["_law_channels_here","_law_h","_law_boxes_here","_law_found","_law_c","_law_come","_law_to","_law_kind"] qay (xac sl_into):=by walk_at"q"
abbrev sl_deal:Stmt:=top 55
theorem scl_deal:FnScope ["_law_feed_here","_law_kinds_here","_law_channels_here","_law_h","_law_boxes_here","_law_marks","_law_form","_law_into_here","_law_out","_law_c","_law_x","_law_kind"] qa4 (xac sl_deal):=by walk_at"q"
abbrev sl_rows:Stmt:=top 56
theorem scl_rows:FnScope ["_law_feed_here","_law_kinds_here","_law_channels_here","_law_h","_law_boxes_here","_law_names_here","_law_marks","_law_rows_here","_law_many","_law_at","_law_form","_law_test","_law_into_here","_law_c","_law_x"] qa5 (xac sl_rows):=by walk_at"q"
abbrev sl_make:Stmt:=top 57
theorem scl_make:FnScope ["_law_script","_law_at","_law_names_here","_law_kinds_here","_law_feed_here","_law_hands_here"] qa6 (xac sl_make):=by walk_at"q"
abbrev sl_hands:Stmt:=top 58
theorem scl_hands:FnScope ["_law_script","_law_at","_law_kinds_here","_law_channels_here","_law_many","_law_names_here","_law_found","_law_k","_law_feed_here","_law_boxes_here"] qa7 (xac sl_hands):=by walk_at"q"
abbrev sl_value:Stmt:=top 59
theorem scl_value:FnScope ["_law_feed_here","_law_kinds_here","_law_kind","_law_sort","_law_parts_here","_law_t","_law_part"] qaz (xac sl_value):=by walk_at"q"
abbrev sl_hands_of:Stmt:=top 60
theorem xjr:FnScope qap qap (xac sl_hands_of):=by walk_at"q"
abbrev sl_weaving:Stmt:=top 61
theorem scl_weaving:FnScope ["_law_script","_law_at","_law_make_here","_law_found","_law_k","_law_feed_here"] qbj (xac sl_weaving):=by walk_at"q"
abbrev sl_state:Stmt:=top 62
theorem scl_state:FnScope ["_law_house","_law_make_here","_law_found","_law_h"] qag (xac sl_state):=by walk_at"q"
abbrev sl_parts_of:Stmt:=top 63
theorem scl_parts_of:FnScope ["_law_house","_law_make_here","_law_found","_law_h","_law_channel"] qag (xac sl_parts_of):=by walk_at"q"
abbrev sl_own:Stmt:=top 64
theorem scl_own:FnScope ["_law_feed_here","_law_make_here","_law_found","_law_h","_law_boxes_here","_law_rows_here","_law_held","_law_x","_law_kind","_law_c","_law_come","_law_to"] qa8 (xac sl_own):=by walk_at"q"
abbrev sl_spoil:Stmt:=top 65
theorem scl_spoil:FnScope ["_law_parts_here","_law_h","_law_c","_law_part"] qbk (xac sl_spoil):=by walk_at"q"
abbrev sl_still:Stmt:=top 66
theorem scl_still:FnScope ["_law_house","_law_make_here","_law_h","_law_boxes_here","_law_rows_here","_law_row"] qag (xac sl_still):=by walk_at"q"
abbrev sl_lone_alike:Stmt:=top 67
theorem scl_lone_alike:FnScope ["_law_make_here","_law_feed_here","_law_parts_here","_law_alone","_law_free","_law_h","_law_house","_law_letters","_law_c","_law_come","_law_to","_law_kind","_law_lone","_law_told","_law_k"] qa9 (xac sl_lone_alike):=by walk_at"q"
abbrev s_law:Stmt:=top 68
theorem sc_law:FnScope ["_law_script","_law_names_here","_law_make_here","_law_first","_law_weaving_here","_law_due","_law_parts_here","_law_handed","_law_second","_law_h"] ["_law_script"] (xac s_law):=by walk_at"q"
abbrev s_House_init:Stmt:=xdk (top 30) 0
theorem xip:FnScope qai qai (xac s_House_init):=by walk_at"q"
abbrev s_Plain_stand:Stmt:=xdk (top 30) 1
theorem xhj:FnScope qab qab (xac s_Plain_stand):=by walk_at"q"
abbrev s_Plain_told:Stmt:=xdk (top 30) 2
theorem xil:FnScope qab qab (xac s_Plain_told):=by walk_at"q"
abbrev s_Plain_letters:Stmt:=xdk (top 30) 3
theorem xf2:FnScope qam qam (xac s_Plain_letters):=by walk_at"q"
abbrev s_Plain_count:Stmt:=xdk (top 30) 4
theorem xhk:FnScope qab qab (xac s_Plain_count):=by walk_at"q"
abbrev s_Plain_init:Stmt:=xdk (top 32) 0
theorem xim:FnScope qai qai (xac s_Plain_init):=by walk_at"q"
abbrev s_Plain_step:Stmt:=xdk (top 32) 1
theorem sc_Plain_step:FnScope ["self","h","behind"] qab (xac s_Plain_step):=by walk_at"q"
abbrev s_Plain_weave:Stmt:=xdk (top 32) 2
theorem sc_Plain_weave:FnScope ["self","hands","many","h"] qba (xac s_Plain_weave):=by walk_at"q"
abbrev s_Plain_still:Stmt:=xdk (top 32) 3
theorem xhi:FnScope qaa qaa (xac s_Plain_still):=by walk_at"q"
abbrev s_Plain_stays:Stmt:=xdk (top 32) 4
theorem sc_Plain_stays:FnScope ["self","h","now"] qab (xac s_Plain_stays):=by walk_at"q"
abbrev s_Lone_init:Stmt:=xdk (top 35) 0
theorem xjx:FnScope qaq qaq (xac s_Lone_init):=by walk_at"q"
abbrev s_Lone_step:Stmt:=xdk (top 35) 1
theorem sc_Lone_step:FnScope ["self","behind"] qaa (xac s_Lone_step):=by walk_at"q"
abbrev s_Lone_stand:Stmt:=xdk (top 35) 2
theorem xin:FnScope qaa qaa (xac s_Lone_stand):=by walk_at"q"
abbrev s_Lone_told:Stmt:=xdk (top 35) 3
theorem xju:FnScope qaa qaa (xac s_Lone_told):=by walk_at"q"
abbrev s_Lone_sent:Stmt:=xdk (top 35) 4
theorem xjv:FnScope qaa qaa (xac s_Lone_sent):=by walk_at"q"
abbrev s_Lone_left:Stmt:=xdk (top 35) 5
theorem xjw:FnScope qaa qaa (xac s_Lone_left):=by walk_at"q"
abbrev s_Lone_count:Stmt:=xdk (top 35) 6
theorem xio:FnScope qaa qaa (xac s_Lone_count):=by walk_at"q"
structure Tx(K:Fg)(mg:Str->Option Value):Prop where
 jA:DefTx K mg "row_ways" s_row_ways ["row","k"]
 jB:DefTx K mg "hand_of" s_hand_of qac
 jC:DefTx K mg "named" s_named qbb
 jD:DefTx K mg "channels_from" s_channels_from qac
 jE:DefTx K mg "channels_to" s_channels_to qac
 jF:DefTx K mg "sort_of" s_sort_of qaj
 jG:DefTx K mg "parts_of" s_parts_of qaj
 jH:DefTx K mg "with_box" s_with_box qar
 jI:DefTx K mg "nought" s_nought qas
 jJ:DefTx K mg "field" s_field qbc
 jK:DefTx K mg "worth" s_worth qaf
 jL:DefTx K mg "op_worth" s_op_worth qa0
 jM:DefTx K mg "case_worth" s_case_worth qaf
 jN:DefTx K mg "begin_of" s_begin_of qac
 jO:DefTx K mg "own_stand" s_own_stand ["stand"]
 jP:DefTx K mg "own_lists" s_own_lists ["lists"]
 jQ:DefTx K mg "row_at" s_row_at qak
 jR:DefTx K mg "first_letter" s_first_letter qat
 jS:DefTx K mg "stride" s_stride qau
 jT:DefTx K mg "row_behind" s_row_behind qbd
 jU:DefTx K mg "boxes_behind" s_boxes_behind qa1
 jV:DefTx K mg "done" s_done qav
 jW:DefTx K mg "plain_at" s_plain_at qaw
 jX:DefTx K mg "_law_feed" sl_feed qan
 jY:DefTx K mg "_law_take" sl_take qae
 jZ:DefTx K mg "_law_names" sl_names qbe
 j0:DefTx K mg "_law_number" sl_number qax
 j1:DefTx K mg "_law_sort_of" sl_sort_of qad
 j2:DefTx K mg "_law_size" sl_size qad
 j3:DefTx K mg "_law_small" sl_small qad
 j4:DefTx K mg "_law_parts" sl_parts qa2
 j5:DefTx K mg "_law_kinds" sl_kinds qbf
 j6:DefTx K mg "_law_boxed" sl_boxed qa3
 j7:DefTx K mg "_law_arms" sl_arms qbg
 j8:DefTx K mg "_law_whole_term" sl_whole_term qah
 j9:DefTx K mg "_law_term" sl_term qah
 kA:DefTx K mg "_law_new_term" sl_new_term qal
 kB:DefTx K mg "_law_any_kind" sl_any_kind qao
 kC:DefTx K mg "_law_channels" sl_channels qbh
 kD:DefTx K mg "_law_boxes" sl_boxes qbi
 kE:DefTx K mg "_law_into" sl_into qay
 kF:DefTx K mg "_law_deal" sl_deal qa4
 kG:DefTx K mg "_law_rows" sl_rows qa5
 kH:DefTx K mg "_law_make" sl_make qa6
 kI:DefTx K mg "_law_hands" sl_hands qa7
 kJ:DefTx K mg "_law_value" sl_value qaz
 kK:DefTx K mg "_law_hands_of" sl_hands_of qap
 kL:DefTx K mg "_law_weaving" sl_weaving qbj
 kM:DefTx K mg "_law_state" sl_state qag
 kN:DefTx K mg "_law_parts_of" sl_parts_of qag
 kO:DefTx K mg "_law_own" sl_own qa8
 kP:DefTx K mg "_law_spoil" sl_spoil qbk
 kQ:DefTx K mg "_law_still" sl_still qag
 kR:DefTx K mg "_law_lone_alike" sl_lone_alike qa9
 kS:DefTx K mg "law" s_law ["_law_script"]
 kT:∃t,mg "WIDE"=some (.int 4294967296 t)
 kU:mg "all"=none
 kW:mg "dict"=none
 kX:mg "int"=none
 kY:mg "len"=none
 kZ:mg "list"=none
 k0:mg "max"=none
 k7:mg "min"=none
 uA:mg "range"=none
 uB:mg "sum"=none
 uC:mg "tuple"=none
 uD:mg "Plain"=some (.ref (ad K "Plain"))
 uE:DTab K "Plain" ["make","stands","between","tellings","counts"]
 uF:mg "Lone"=some (.ref (ad K "Lone"))
 uG:DTab K "Lone" qbl
 uH:mg "House"=some (.ref (ad K "House"))
 uI:CTab K "House" "__init__"
 uJ:MethTx K "House.__init__" (ad K "House") "__init__" s_House_init qai [[]]
 uK:MethTx K "House.stand" (ad K "Plain") "stand" s_Plain_stand qab [[]]
 uL:MethTx K "House.told" (ad K "Plain") "told" s_Plain_told qab [[]]
 uM:MethTx K "House.letters" (ad K "Plain") "letters" s_Plain_letters qam [[]]
 uN:MethTx K "House.count" (ad K "Plain") "count" s_Plain_count qab [[]]
 uO:MethTx K "Plain.__init__" (ad K "Plain") "__init__" s_Plain_init qai [[]]
 uP:MethTx K "Plain.step" (ad K "Plain") "step" s_Plain_step qab [[]]
 uQ:MethTx K "Plain.weave" (ad K "Plain") "weave" s_Plain_weave qba [[]]
 uR:MethTx K "Plain.still" (ad K "Plain") "still" s_Plain_still qaa [[]]
 uS:MethTx K "Plain.stays" (ad K "Plain") "stays" s_Plain_stays qab [[]]
 uT:MethTx K "Lone.__init__" (ad K "Lone") "__init__" s_Lone_init qaq [[.none],[]]
 uU:MethTx K "Lone.step" (ad K "Lone") "step" s_Lone_step qaa [[]]
 uV:MethTx K "Lone.stand" (ad K "Lone") "stand" s_Lone_stand qaa [[]]
 uW:MethTx K "Lone.told" (ad K "Lone") "told" s_Lone_told qaa [[]]
 uX:MethTx K "Lone.sent" (ad K "Lone") "sent" s_Lone_sent qaa [[]]
 uY:MethTx K "Lone.left" (ad K "Lone") "left" s_Lone_left qaa [[]]
 uZ:MethTx K "Lone.count" (ad K "Lone") "count" s_Lone_count qaa [[]]
theorem fits{n:Nat}(h:n<=4000000):n<=sizeLine:=zY h (by decide)
theorem xa3{n:Nat}(h:n<=4000000):n<sizeLine:=zT h (by decide)
theorem bind_Lone_init {K:Fg} {o:Obj} {N:Nat} (s:Shared) (T:Addr) (kV a g:Value) (m:Option Addr) (b ct:Value) (us ds:List Value) (f:K.In s.heap) (l:K.lookup T=some o) (e:o.data=.seq #[.none] N) (hd:ds=[.none]\/ds=[]) (c:(us++ds).length=5) :
  BindsTo s (PySem.W.fnOf "__init__" "Lone.__init__" (xdm s_Lone_init) (xc0 s_Lone_init) (xac s_Lone_init) (.ref T) kV a g m b ct) ⟨us,[]⟩ ((qaq:List Str).zip (us++ds)):=by
 rcases hd with rfl |rfl
 ·have j:us.length=4:=by simpa using c
  match us,j with
  |[_,_,_,_],_=>exact PySem.W.binds_K f rfl l e rfl rfl
 ·have i:us.length=5:=by simpa using c
  match us,i with
  |[_,_,_,_,_],_=>exact PySem.W.binds_K f rfl l e rfl rfl
def xmr:Sp:=λvs H Q _=>∃v ks x,vs=[v,.str x]/\KsAt H v ks/\Q (xwy (kAt ks x)) H
def xgo:Sp:=λvs H Q _=>∃v ks x,vs=[v,.str x]/\KsAt H v ks/\∀u H',Same H H'->RelD H' u (xm4 (kAt ks x))->Q u H'
section
variable {P:Program}{w:World}{K:Fg}{mg:Str->Option Value}{base:Heap}{n:Nat}
theorem xhz(T:Tx K y):DefIs P w K y base (n+1) "sort_of" qaj xmr:=by
 refine DefIs.of T.jF sc_sort_of (by walk_at"l") (λf O A outer s H vs Q E Z h=>?_);obtain⟨v,ks,x,rfl,I,q⟩:=h;have nd:=sc_sort_of.nd
 refine⟨_,(zpn (xb5 zF rfl (xas (K:=K) rfl (pv 0)) (xbc (K:=K) rfl rfl (xad (pgn 2 nd) (xad (pgn 3 nd) (xad (pgn 4 nd) xbb))))
   (zpo (xba (pR xbf (pv 2) (pv 1) (nM _)) (zpo (xaf (pv 3))) pQ)))
   (zpo (xaf xeh))),?_⟩
 obtain⟨a,us,rfl,r,u⟩:=I.1;refine(xbi _ rfl a rfl ⟨_,zB r⟩ ?_);have G:=u.length;rw[zLM]at G;refine xcz (xs:=us) (λi σ j=>∃o m l,σ=[some (.ref a),some (.str x),o,m,l]/\j=H/\(ks.take i).find? (λk=>decide (k.name=x))=none) (xbn none none none rfl rfl rfl) (λi σ j _ p=>?_) ?_ ?_
 ·obtain⟨_,_,_,_,rfl,_⟩:=p
  exact zB r
 ·rintro i v σ j C ⟨o,m,l,rfl,rfl,hn⟩
  obtain⟨d,hd,rd⟩:=u.get C;rw[zGM]at hd;obtain⟨k,g,rfl⟩:=zMS hd;obtain⟨b,ws,rfl,J,_,_,rfl,rfl,_,_,rfl,rfl,U,_,rfl,Y,rfl⟩:=rd;refine(xay b _ rfl (zB J) rfl _ _ rfl _ (xar _ rfl _ _ rfl rfl ?_));refine(xcp _ rfl _ rfl rfl _ rfl (ite2 (λc=>?_) (λc=>?_)))
  ·have e:k.name=x:=V.str.inj (z0 c)
   have M:kAt ks x=some k:=(xdj hn g).1 (zDT e);refine(jEA _ rfl ?_);rw[M]at q;exact q
  ·have e:¬k.name=x:=λz=>c (zDT (congrArg V.str z))
   exact(xbn _ _ _ rfl rfl ((xdj hn g).2 (zDF e)))
 ·rintro σ j ⟨o,m,l,rfl,rfl,hn⟩
  rw[zTL (by omega)]at hn;rw[show kAt ks x=none from hn]at q;exact q
theorem xfa(T:Tx K C):DefIs P w K C base (n+1) "parts_of" qaj xgo:=by
 refine DefIs.of T.jG sc_parts_of (by walk_at"l") (λf Y A outer s H vs Q E hr h=>?_);obtain⟨v,ks,x,rfl,M,q⟩:=h;have nd:=sc_parts_of.nd
 refine⟨_,(zpn (xb5 zF rfl (xas (K:=K) rfl (pv 0)) (xbc (K:=K) rfl rfl (xad (pgn 2 nd) (xad (pgn 3 nd) (xad (pgn 4 nd) xbb))))
   (zpo (xba (pR xbf (pv 2) (pv 1) (nM _)) (zpo (xaf (pv 4))) pQ)))
   (zpo (xaf (xa2 pN)))),?_⟩
 obtain⟨a,us,rfl,r,u⟩:=M.1;refine(xbi _ rfl a rfl ⟨_,zB r⟩ ?_);have J:=u.length;rw[zLM]at J;refine xcz (xs:=us) (λi σ j=>∃o m l,σ=[some (.ref a),some (.str x),o,m,l]/\j=H/\(ks.take i).find? (λk=>decide (k.name=x))=none) (xbn none none none rfl rfl rfl) (λi σ j _ p=>?_) ?_ ?_
 ·obtain⟨_,_,_,_,rfl,_⟩:=p
  exact zB r
 ·rintro i v σ j G ⟨o,m,l,rfl,rfl,hn⟩
  obtain⟨d,hd,rd⟩:=u.get G;rw[zGM]at hd;obtain⟨k,g,rfl⟩:=zMS hd;obtain⟨b,ws,rfl,O,_,_,rfl,rfl,_,_,rfl,rfl,Z,_,rfl,y,rfl⟩:=rd;refine(xay b _ rfl (zB O) rfl _ _ rfl _ (xar _ rfl _ _ rfl rfl ?_));refine(xcp _ rfl _ rfl rfl _ rfl (ite2 (λc=>?_) (λc=>?_)))
  ·have e:k.name=x:=V.str.inj (z0 c)
   have U:kAt ks x=some k:=(xdj hn g).1 (zDT e);refine(jEA _ rfl ?_);rw[U]at q;exact q _ _ (Same.refl _) y
  ·have e:¬k.name=x:=λz=>c (zDT (congrArg V.str z))
   exact(xbn _ _ _ rfl rfl ((xdj hn g).2 (zDF e)))
 ·rintro σ j ⟨o,m,l,rfl,rfl,hn⟩
  rw[zTL (by omega)]at hn;rw[show kAt ks x=none from hn]at q;exact⟨(by walk_at"s"),λp I=>q _ _ (zA I _) (xaw p ([]) rfl ups rfl)⟩
end
abbrev RW:=List Kn->En->D->D->Prop
def xdq(R:RW)(m:Nat):Sp:=λvs H Q _=>∃kv tv p ks d env val,vs=[kv,tv,.ref p]/\KsAt H kv ks/\RelD H tv d/\EnAt H p m env/\R ks env d val/\∀u H',Same H H'->RelD H' u val->Q u H'
def xjk:Sp:=λvs H Q _=>∃s x y,vs=[.str s,.int x,.int y]/\Nm x/\Nm y/\Q (.int (opV s x y)) H
section
variable {P:Program}{w:World}{K:Fg}{mg:Str->Option Value}{base:Heap}{n m:Nat}
theorem xlv(T:Tx K g):DefIs P w K g base (n+1) "op_worth" qa0 xjk:=by
 refine DefIs.of T.jL xlm (by walk_at"l") (λf j A outer s H vs Q E p h=>?_);obtain⟨s,x,y,rfl,i,o,q⟩:=h
 refine⟨_,(zpn (xba (pR xbf (pv 0) pS (nM _)) (zpo (xaf (xaq xcv (xaq xbk (pv 1) (pv 2)) (xlp T.kT)))) pQ)
   (zpn (xba (pR xbf (pv 0) pS (nM _)) (zpo (xaf (xaq xcv (xaq xc1 (pv 1) (pv 2)) (xlp T.kT)))) pQ)
   (zpn (xba (pR xbf (pv 0) pS (nM _)) (zpo (xaf (xaq xcv (xaq xdx (pv 1) (pv 2)) (xlp T.kT)))) pQ)
   (zpn (xba (pR xbf (pv 0) pS (nM _)) (zpo (xaf (xfi (pR xgy (pv 1) (pv 2) (nM _)) pI pI))) pQ)
   (zpo (xaf (xfi (pR xbf (pv 1) (pv 2) (nM _)) pI pI))))))),?_⟩
 have pos:(0:Int)<4294967296:=by decide
 unfold opV at q;refine(xa5 _ rfl rfl _ rfl (ite2 (λc=>?_) (λc=>?_)))
 ·rw[if_pos (show s=S "+" from V.str.inj (z0 c))]at q
  exact(xbg _ rfl _ rfl _ _ rfl rfl _ (xb8 _ rfl rfl pos q))
 rw[if_neg (show ¬s=S "+" from λz=>c (zDT (congrArg V.str z)))]at q;refine(xa5 _ rfl rfl _ rfl (ite2 (λc=>?_) (λc=>?_)))
 ·rw[if_pos (show s=S "-" from V.str.inj (z0 c))]at q
  exact(xbg _ rfl _ rfl _ _ rfl rfl _ (xb8 _ rfl rfl pos q))
 rw[if_neg (show ¬s=S "-" from λz=>c (zDT (congrArg V.str z)))]at q;refine(xa5 _ rfl rfl _ rfl (ite2 (λc=>?_) (λc=>?_)))
 ·rw[if_pos (show s=S "*" from V.str.inj (z0 c))]at q
  obtain⟨m,l⟩:=i;exact(jEA _ rfl (xar _ rfl _ _ rfl rfl (jAEE (.inl ⟨by omega,by omega⟩) _ _ (jAAA rfl rfl pos q))))
 rw[if_neg (show ¬s=S "*" from λz=>c (zDT (congrArg V.str z)))]at q;refine(xa5 _ rfl rfl _ rfl (ite2 (λc=>?_) (λc=>?_)))
 ·rw[if_pos (show s=S "<" from V.str.inj (z0 c))]at q
  refine(xbg _ rfl _ rfl _ _ rfl rfl _ ⟨rfl,ite2 (λe=>?_) (λe=>?_)⟩)
  ·rw[if_pos (z0 e)]at q
   exact q
  ·rw[if_neg (λz=>e (zDT z))]at q
   exact q
 rw[if_neg (show ¬s=S "<" from λz=>c (zDT (congrArg V.str z)))]at q;refine(xcp _ rfl _ rfl rfl _ rfl (ite2 (λe=>?_) (λe=>?_)))
 ·rw[if_pos (V.int.inj (z0 e))]at q
  exact q
 ·rw[if_neg (λz=>e (zDT (congrArg V.int z)))]at q
  exact q
def xjh(m:Nat):Sp:=λvs H Q _=>∃p x v d env,vs=[.ref p,.str x,v]/\EnAt H p m env/\RelD H v d/\m<=1000/\∀p' H',Same H H'->EnAt H' p' (m+1) (env.put x d)->Q (.ref p') H'
def xu0:Sp:=λvs H Q _=>∃p x v,∃kvs:List (Key×V),vs=[.ref p,.str x,v]/\H p=some (.dK kvs)/\kvs.length<=2000/\∀p' H',Same H H'->H p'=none->H' p'=some (.dK (putK kvs (Sum.inr x) v))->Q (.ref p') H'
theorem xsp(T:Tx K b):DefIs P w K b base (n+1) "with_box" qar xu0:=by
 refine DefIs.of T.jH sc_with_box (by walk_at"l") (λf j A outer s H vs Q E g h=>?_);obtain⟨p,x,v,kvs,rfl,i,l,q⟩:=h;have nd:=sc_with_box.nd;have e:=xd2 g
 refine⟨_,(zpn (psn 3 nd (xau xh7 rfl T.kW zL (v1 0)))
   (zpn (xc9 e (pv 3) (pv 1) (pv 2) rfl)
   (zpo (xaf (pv 3))))),?_⟩
 refine(xar _ rfl p kvs rfl i (λc a=>?_));refine(xa0 _ rfl _ rfl _ rfl c _ rfl (DPut.k (k:=Sum.inr x) ups (xa3 (by omega))) (jEA _ rfl ?_));exact q c _ (Same.new2 a (.dK kvs) (.dK (putK kvs (Sum.inr x) v))) a ups
theorem xls(T:Tx K c):DefIs P w K c base (n+1) "with_box" qar (xjh m):=(xsp T).imp λvs H Q E h=>by
 obtain⟨p,x,v,d,env,rfl,⟨kvs,a,g,i⟩,e,l,q⟩:=h;exact(xc6 p x v kvs rfl (jAA a (by omega) (λb j s f h'=>q b j s (EnAt.put a g i s (e.same s _) h'))))
def xoz:Sp:=λvs H Q _=>∃kv vv ks k kn ws f i d,vs=[kv,vv,.str f]/\KsAt H kv ks/\RelD H vv (.tup [.str k,.tup ws])/\kAt ks k=some kn/\(kn.parts.map (·.1)).findIdx? (λz=>decide (z=f))=some i/\ws[i]?=some d/\∀u H',Same H H'->RelD H' u d->Q u H'
theorem xrp(T:Tx K Z)(a:DefIs P w K Z base n "parts_of" qaj xgo):DefIs P w K Z base (n+1) "field" qbc xoz:=by
 refine DefIs.of T.jJ sc_field (by walk_at"l") (λf a4 A outer s H vs Q E hr h=>?_);obtain⟨kv,vv,ks,k,G,ws,f',i,d,rfl,hk,O,C,hi,hw,q⟩:=h;have nd:=sc_field.nd
 refine⟨_,(zpn (xc8 (i:=3) ["part"] [none] rfl (by kernel_rfl) nd rfl (by walk_at"o") (xas (K:=K) rfl (pd a hr (va 0 (pc (px K (pv 1) pI) pN ss)))) (λ_ _ _ _=>(pgc 0)) (λ_ _ _ _=>xbo) (λ_ _ _ _=>(px K (pv 0) pI)))
   (zpo (xaf (px K (px K (pv 1) pI) (xds zD PySem.F.slot_list_index PySem.F.type_list_index xrt (pv 3) (v1 2)))))),?_⟩
 obtain⟨l,us,rfl,ha,_,_,rfl,rfl,vw,_,rfl,J,rfl⟩:=O;obtain⟨c,zs,rfl,hc,y⟩:=J;refine(xan _ rfl _ rfl l _ _ (xbm _ rfl rfl (zB ha) rfl (xbn _ ks k rfl hk (λu H1 s1 Y=>?_))));rw[C]at Y;obtain⟨e,ps,rfl,he,z⟩:=Y;have hl:=z.length;rw[zLM]at hl;have a2:G.parts.length<=100:=hk.2.2 G (zMF C);refine(jEAA e rfl ⟨_,zB he⟩ ?_);refine xgj (j:=0) (xs:=ps) (λi ys I=>I=H1/\ys=((G.parts.take i).map (·.1)).map V.str) (by rfl) ⟨rfl,rfl⟩ (xa3 (by omega)) (λi ys I _ p=>by obtain⟨rfl,_⟩:=p;exact zB he) ?_ ?_
 ·rintro i x ys I hx r ⟨rfl,rfl⟩
  obtain⟨d',g,o⟩:=z.get hx;rw[zGM]at g;obtain⟨pt,U,rfl⟩:=zMS g;obtain⟨b,a0,rfl,hb,_,_,rfl,rfl,_,_,rfl,rfl,rfl⟩:=o;have hi:i<ps.length:=(zES hx).1;refine(xaa _ rfl b _ _ _ rfl rfl (zB hb) rfl (nxt hi r ⟨rfl,?_⟩));rw[zTA,U];simp
 ·rintro ys I r ⟨rfl,rfl⟩ D hD
  rw[zTL (by omega)];rw[zTL (by omega)]at r;have sD:=zA hD (.lst ((G.parts.map (·.1)).map V.str));have m:=s1.trans sD
  have M:∃v,zs[i]?=some v/\RelD H v d:=by
   have a3:i<ws.length:=(zES hw).1;have a1:=y.length;obtain⟨d',g,o⟩:=y.get (i:=i) (v:=zs[i]) (zGA (by omega));rw[hw]at g;cases g;exact(jEA (zs[i]) (zGA (by omega)) o)
  obtain⟨v,O,rv⟩:=M;refine(xaa _ rfl l _ _ _ rfl rfl (zB (m _ _ ha)) rfl ?_);refine(xa5 _ rfl (.inl (jAE rfl _ (zC ups))) _ rfl (xah D _ f' i rfl rfl ups hi ?_));exact(xah c _ _ v rfl rfl (zB (m _ _ hc)) (xam O) (q _ _ m (rv.same m _)))
def xgt(R:RW)(m:Nat):Sp:=λvs H Q _=>∃kv tv p ks env a rs k t x y e val,vs=[kv,tv,.ref p]/\KsAt H kv ks/\RelD H tv (xnw a rs)/\EnAt H p m env/\rs.length<=1000/\R ks env a (.tup [.str k,.str t,x])/\rs.find? (λr=>decide (r.1=t))=some (t,y,e)/\R ks (env.put y x) e val ∧
 ∀u H',Same H H'->RelD H' u val->Q u H'
theorem xiw(T:Tx K mg)(R:RW)(hm:m<=1000)(o:DefIs P w K mg base n "worth" qaf (xdq R (m+1)))(C:DefIs P w K mg base n "with_box" qar (xjh m)):DefIs P w K mg base (n+1) "case_worth" qaf (xgt R m):=by
 refine DefIs.of T.jM sc_case_worth (by walk_at"l") (λf a6 A outer s H vs Q E hr h=>?_);obtain⟨kv,tv,p,ks,env,a,rs,k,t,x,y,e,val,rfl,hk,hv,he,hl,h1,hf,h2,q⟩:=h;have nd:=sc_case_worth.nd
 refine⟨_,(zpn (psn 3 nd (pd o hr (va 0 (pc (px K (pv 1) pI) (v1 2) ss))))
   (zpn (psn 4 nd (pxl K (xbh ["each","value"] [none,some 3] rfl (by kernel_rfl) (xas (K:=K) rfl (px K (pv 1) pI)) (λ_ _ _ _=>(pgc 0)) (λ_ _ _ _=>(xdr (pR xbf (px K (pv 0) pI) (px K (pv 1) pI) (nM _)))) (λ_ _ _ _=>(pv 0))) pI))
   (zpo (xaf (pd o hr (va 0 (pc (px K (pv 4) pI) (pc (pd C hr (va 2 (pc (px K (pv 4) pI) (pc (px K (pv 3) pI) pN ss) ss))) pN zsc) ss))))))),?_⟩
 obtain⟨b,us,rfl,hb,_,_,rfl,rfl,va,_,rfl,ra,vr,_,rfl,rr,rfl⟩:=hv;obtain⟨c,ws,rfl,hc,a0⟩:=rr;refine(xan _ rfl _ rfl b _ _ (xbm _ rfl rfl (zB hb) rfl (jEA _ rfl ?_)));refine(xal _ _ _ ks _ (xa9 env _ rfl hk ra (he.mono (by omega)) h1 (λu H1 s1 r1=>?_)));obtain⟨g,zs,rfl,hg,_,_,rfl,rfl,_,_,rfl,rfl,vx,_,rfl,rx,rfl⟩:=r1;refine(xaa _ rfl b _ _ _ rfl rfl (zB (s1 _ _ hb)) rfl (jEAA c rfl ⟨_,zB (s1 _ _ hc)⟩ ?_));have a4:=a0.length;rw[zLM]at a4;refine xbj (xs:=ws) (λi ys H'=>H'=H1/\∃ds:List (Str×Str×D),ds=(rs.take i).filter (λr=>decide (r.1=t))/\RelDs H1 ys (ds.map dArm)) (jAEA rfl ([]) rfl rfl) (xa3 (by omega)) (λi ys H' _ p=>by obtain⟨rfl,_⟩:=p;exact zB (s1 _ _ hc)) ?_ ?_
 ·rintro i z ys H' hz hi O ⟨rfl,ds,rfl,G⟩
  obtain⟨d,hd,rd⟩:=(a0.same s1 _).get hz;rw[zGM]at hd;obtain⟨r,a1,rfl⟩:=zMS hd;have a3:=rd;obtain⟨l,zs,rfl,U,_,_,rfl,rfl,_,_,rfl,rfl,_,_,rfl,re,rfl⟩:=rd;refine⟨xhc rfl,?_⟩;refine(xaa _ rfl l _ _ _ rfl rfl (zB U) rfl (xaa _ rfl g _ _ _ rfl rfl (zB hg) rfl (jAEA rfl _ rfl (ite2 (λcc=>?_) (λcc=>?_)))))
  ·have ee:r.1=t:=V.str.inj (z0 cc)
   refine(jEA _ rfl (nxtG hi O (jAEA rfl _ rfl ?_)));rw[zTA,a1,List.filter_append,zAP];refine G.append ?_;simp only[Option.toList,List.filter_cons,zDT ee,if_true,List.filter_nil,List.map_cons,List.map_nil];exact(xaw _ ([]) rfl a3 rfl)
  ·have ee:¬r.1=t:=λz=>cc (zDT (congrArg V.str z))
   refine nxtN hi O (jAEA rfl _ rfl ?_);rw[zTA,a1,List.filter_append,zAP];simp only[Option.toList,List.filter_cons,zDF ee,Bool.false_eq_true,if_false,List.filter_nil,List.map_nil,List.append_nil];exact G
 ·rintro ys H' O ⟨rfl,ds,rfl,G⟩ D hD
  rw[zTL (by omega)]at G;have hh:(rs.filter (λr=>decide (r.1=t))).head?=some (t,y,e):=by rw[List.head?_filter,hf]
  obtain⟨rest,M⟩:∃rest,rs.filter (λr=>decide (r.1=t))=(t,y,e)::rest:=by
   cases hq:rs.filter (λr=>decide (r.1=t)) with
   |nil=>rw[hq]at hh;cases hh
   |cons z zs=>rw[hq]at hh;exact⟨zs,by rw[Option.some.inj hh]⟩
  rw[M]at G;obtain⟨Y,I,rfl,r0,_⟩:=G;have Z:=zA hD (.lst (Y::I));refine(xah D _ 0 Y rfl rfl (zC ups) (xam (j:=0) rfl) ?_);obtain⟨l,zs,rfl,U,_,_,rfl,rfl,_,_,rfl,rfl,ve,_,rfl,re,rfl⟩:=r0;have J:=s1.trans Z;have a2:SqT K (upd H' D (.lst (.ref l::I))) l [.str t,.str y,ve]:=zB (Z _ _ U);refine(xan _ rfl _ rfl l _ _ (xbm _ rfl rfl a2 rfl (xan _ rfl _ rfl l _ _ (xbr _ rfl rfl a2 rfl _ rfl g _ _ (xbm _ rfl rfl (zB (Z _ _ hg)) rfl ?_)))));refine(xal p y vx x env (jAAA rfl (he.same J) (rx.same Z _) ⟨hm,λp' H2 s2 a5=>?_⟩));exact(xal _ _ _ ks _ (xa9 _ _ rfl (hk.same (J.trans s2)) (re.same (Z.trans s2) _) a5 h2 (λu H3 s3 r3=>q u H3 (J.trans (s2.trans s3)) r3)))
theorem xrn (T:Tx K mg) (R:RW) (g:DefIs P w K mg base n "worth" qaf (xdq R m)) (G:DefIs P w K mg base n "op_worth" qa0 xjk)
  (Y:DefIs P w K mg base n "field" qbc xoz) (r:DefIs P w K mg base n "case_worth" qaf (xgt R m)) :
  DefIs P w K mg base (n+1) "worth" qaf (xdq (λks env d v=>xe6 env d v\/NodeEv ks (R ks) env d v) m):=by
 refine DefIs.of T.jK sc_worth (by walk_at"l") (λf aa A outer s H vs Q E U h=>?_);obtain⟨kv,tv,p,ks,d,env,val,rfl,hk,O,he,hR,q⟩:=h;have nd:=sc_worth.nd;have hu:=xd2 U
 refine⟨_,(zpn (psn 3 nd (px K (pv 1) pI))
   (zpn (xba (pR xbf (pv 3) pS (nM _)) (zpo (xaf (px K (pv 1) pI))) pQ)
   (zpn (xba (pR xbf (pv 3) pS (nM _)) (zpo (xaf (xb2 hu (pv 2) (px K (pv 1) pI) (λ_ _=>rfl)))) pQ)
   (zpn (xba (pR xbf (pv 3) pS (nM _)) (zpo (xaf (pd G U (pc (px K (pv 1) pI) (pc (pd g U (va 0 (pc (px K (pv 1) pI) (v1 2) ss))) (pc (pd g U (va 0 (pc (px K (pv 1) pI) (v1 2) ss))) pN zsc) zsc) ss)))) pQ)
   (zpn (xba (pR xbf (pv 3) pS (nM _)) (zpo (xaf (xa2 (pc (px K (pv 1) pI) (pc (xau (xbx (K:=K) rfl) rfl T.uC zK (pc (xbh ["inner","kinds","boxes"] [none,some 0,some 2] rfl (by kernel_rfl) (xas (K:=K) rfl (px K (pv 1) pI)) (λ_ _ _ _=>(pgc 0)) (λ_ _ _ _=>xbo) (λ_ _ _ _=>(pd g U (va 1 (va 0 (v1 2)))))) pN xbt)) pN zsc) ss)))) pQ)
   (zpn (xba (pR xbf (pv 3) pS (nM _)) (zpo (xaf (pd Y U (va 0 (pc (pd g U (va 0 (pc (px K (pv 1) pI) (v1 2) ss))) (pc (px K (pv 1) pI) pN ss) zsc))))) pQ)
   (zpn (xba (pR xbf (pv 3) pS (nM _)) (zpo (xaf (xa2 (pc (px K (pv 1) pI) (pc (px K (pv 1) pI) (pc (pd g U (va 0 (pc (px K (pv 1) pI) (v1 2) ss))) pN zsc) ss) ss)))) pQ)
   (zpn (xba (pR xbf (pv 3) pS (nM _)) (zpo (xaf (pd r U (va 0 (va 1 (v1 2)))))) pQ)
   (zpn (psn 4 nd (xfi (pR xbf (pd g U (va 0 (pc (px K (pv 1) pI) (v1 2) ss))) pI (nM _)) (px K (pv 1) pI) (px K (pv 1) pI)))
   (zpo (xaf (pd g U (va 0 (va 4 (v1 2))))))))))))))),?_⟩
 rcases hR with(⟨i,rfl,rfl⟩ |⟨x,hx,rfl⟩) |⟨sg,a,b,x,y,M,h2,nx,ny,rfl,rfl⟩ |⟨k,es,ws,hl,M,rfl,rfl⟩ |⟨a,k,ws,f',kn,i,M,a8,hi,hw,rfl⟩ |⟨k,t,a,x,M,rfl,rfl⟩ |⟨a,rs,k,t,x,y,e,hl,M,hf,h2,rfl⟩ |⟨a,b,c,x,M,h2,rfl⟩
 ·obtain⟨a,us,rfl,C,_,_,rfl,rfl,_,_,rfl,rfl,rfl⟩:=O
  have hS:SqT K H a [.str (S "num"),.int i]:=zB C;walk_at"rd";exact q _ _ (Same.refl _) rfl
 ·obtain⟨a,us,rfl,C,_,_,rfl,rfl,_,_,rfl,rfl,rfl⟩:=O
  have hS:SqT K H a [.str (S "box"),.str x]:=zB C;obtain⟨kvs,hp,hl,hh⟩:=he;obtain⟨v,O,rv⟩:=(hh x).2 _ hx;walk_at"rd";exact(xaw p v rfl (O ▸ DGet.k (k:=Sum.inr x) hp) (q _ _ (Same.refl _) rv))
 ·obtain⟨l,us,rfl,C,_,_,rfl,rfl,_,_,rfl,rfl,va,_,rfl,Z,vb,_,rfl,rb,rfl⟩:=O
  have hS:SqT K H l [.str (S "op"),.str sg,va,vb]:=zB C;walk_at"rd";refine(xal _ _ _ ks _ (xa9 env _ rfl hk Z he M (λu H1 o r1=>?_)));obtain rfl:u=.int x:=r1;have J:SqT K H1 l [.str (S "op"),.str sg,va,vb]:=zB (o _ _ C);refine(xan _ rfl _ rfl l _ _ (xbm _ rfl rfl J rfl (jEA _ rfl ?_)));refine(xal _ _ _ ks _ (xa9 env _ rfl (hk.same o) (rb.same o _) (he.same o) h2 (λu H2 I r2=>?_)));obtain rfl:u=.int y:=r2;exact(xcm sg x y rfl nx ny (q _ _ (o.trans I) rfl))
 ·obtain⟨l,us,rfl,C,_,_,rfl,rfl,_,_,rfl,rfl,va,_,rfl,Z,rfl⟩:=O
  obtain⟨c,a2,rfl,hc,a3⟩:=Z;have hS:SqT K H l [.str (S "rec"),.str k,.ref c]:=zB C;walk_at"rd";refine⟨⟨_,zB hc⟩,?_⟩;have l1:=a3.length;have l2:=M.length;refine xgj (j:=0) (xs:=a2) (λi ys H'=>Same H H'/\RelDs H' ys (ws.take i)) (by rfl) ⟨Same.refl _,rfl⟩ (xa3 (by omega)) (λi ys H' _ p=>zB (p.1 _ _ hc)) ?_ ?_
  ·rintro i x ys H' hx a4 ⟨sm,a0⟩
   obtain⟨d',a9,a6⟩:=a3.get hx;obtain⟨v',a1,a5⟩:=M.get a9;have hi:i<a2.length:=(zES hx).1;refine(xb1 _ rfl _ rfl _ rfl _ _ (xaj _ ks _ env _ rfl (hk.same sm) (a6.same sm _) (he.same sm) a5 (λu H2 I r2=>nxt hi a4 ⟨sm.trans I,?_⟩)));rw[zTA,a1];exact(a0.same I _).append (xaw u ([]) rfl r2 rfl)
  ·rintro ys H' a4 ⟨sm,a0⟩ D hD
   rw[zTL (by omega)]at a0;refine(jEEA D ys rfl (.inl ⟨zC ups,λl' a7=>?_⟩));have o:=zA hD (.lst ys);have I:=zA a7 (.tup ys);refine⟨(by walk_at"s"),λt ht=>?_⟩;have s3:=zA ht (.tup [.str k,.ref l']);exact q _ _ (sm.trans (o.trans (I.trans s3))) (xat t _ rfl ups _ _ rfl rfl _ (jEAA _ rfl (xaw l' ys rfl (s3 _ _ ups) (a0.same (o.trans (I.trans s3)) _)) rfl))
 ·obtain⟨l,us,rfl,C,_,_,rfl,rfl,va,_,rfl,Z,_,_,rfl,rfl,rfl⟩:=O
  have hS:SqT K H l [.str (S "get"),va,.str f']:=zB C;walk_at"rd";refine(xal _ _ _ ks _ (xa9 env _ rfl hk Z he M (λu H1 o r1=>?_)));have J:SqT K H1 l [.str (S "get"),va,.str f']:=zB (o _ _ C);refine(xaa _ rfl l _ _ _ rfl rfl J rfl ?_);exact(xal _ _ ks k kn (xap ws f' i val rfl (hk.same o) r1 a8 hi ⟨hw,λu H2 I r2=>q _ _ (o.trans I) r2⟩))
 ·obtain⟨l,us,rfl,C,_,_,rfl,rfl,_,_,rfl,rfl,_,_,rfl,rfl,va,_,rfl,Z,rfl⟩:=O
  have hS:SqT K H l [.str (S "tag"),.str k,.str t,va]:=zB C;walk_at"rd";refine(xal _ _ _ ks _ (xa9 env _ rfl hk Z he M (λu H1 o r1=>?_)));refine⟨(by walk_at"s"),λc hc=>?_⟩;have I:=zA hc (.tup [.str k,.str t,u]);exact q _ _ (o.trans I) (xat c _ rfl ups _ _ rfl rfl _ (xbu _ rfl rfl _ _ rfl (r1.same I _) rfl))
 ·have a1:=O
  obtain⟨l,us,rfl,C,_,_,rfl,rfl,va,_,rfl,Z,vr,_,rfl,rr,rfl⟩:=O;have hS:SqT K H l [.str (S "case"),va,vr]:=zB C;walk_at"rd";exact(xal _ _ p ks env (xal a rs k t x (xcn y e val rfl hk a1 he hl M (jAA hf h2 q))))
 ·obtain⟨l,us,rfl,C,_,_,rfl,rfl,va,_,rfl,Z,vb,_,rfl,rb,vc,_,rfl,rc,rfl⟩:=O
  have hS:SqT K H l [.str (S "if"),va,vb,vc]:=zB C;walk_at"rd";refine(xal _ _ _ ks _ (xa9 env _ rfl hk Z he M (λu H1 o r1=>?_)));obtain rfl:u=.int x:=r1;have J:SqT K H1 l [.str (S "if"),va,vb,vc]:=zB (o _ _ C);refine(jAEA rfl _ rfl (ite2 (λc'=>?_) (λc'=>?_)))
  ·have e:x=0:=V.int.inj (z0 c')
   rw[if_pos e]at h2;refine(xaa _ rfl l _ _ _ rfl rfl J rfl (jEA _ rfl (jEA _ rfl (jEA _ rfl ?_))));exact(xal _ _ _ ks _ (xa9 env _ rfl (hk.same o) (rc.same o _) (he.same o) h2 (λu H2 I r2=>q _ _ (o.trans I) r2)))
  ·have e:¬x=0:=λz=>c' (zDT (congrArg V.int z))
   rw[if_neg e]at h2;refine(xaa _ rfl l _ _ _ rfl rfl J rfl (jEA _ rfl (jEA _ rfl (jEA _ rfl ?_))));exact(xal _ _ _ ks _ (xa9 env _ rfl (hk.same o) (rb.same o _) (he.same o) h2 (λu H2 I r2=>q _ _ (o.trans I) r2)))
theorem xhu(T:Tx K a)(R:RW)(e:m<=1000)(D:DefIs P w K a base (n+1) "worth" qaf (xdq R (m+1))):DefIs P w K a base (n+3) "worth" qaf (xdq (λks env d v=>xe6 env d v\/NodeEv ks (R ks) env d v) m):=by
 have o:DefIs P w K a base (n+1) "worth" qaf (xdq R m):=D.imp (by
  rintro vs H Q E ⟨c,b,p,ks,d,env,val,l,j,i,h,g,f⟩;exact(xal c b p ks d (xa9 env val l j i (h.mono (by omega)) g f)))
 exact xrn T R (o.mono (by omega)) (xlv T) (xrp T (xfa T)) (xiw T R e D (xls T))
theorem xmj(T:Tx K b):∀n m,n+m<=1000->DefIs P w K b base (2*n+3) "worth" qaf (xdq (λks=>Ev ks n) m)
 | 0,m,h=>by
  refine(xhu (P:=P) (w:=w) (base:=base) (n:=0) (m:=m) T (λ_ _ _ _=>False) (by omega) (DefIs.none T.jK ?_)).imp ?_
  ·rintro vs H Q E ⟨_,_,_,_,_,_,_,_,_,_,_,h,_⟩
   exact h
  ·rintro vs H Q E ⟨c,a,p,ks,d,env,k,l,j,i,g,f,e⟩
   exact(xal c a p ks d (xa9 env k l j i g (.inl f) e))
 |n+1,m,h=>xhu (n:=2*n+2) (m:=m) T (λks=>Ev ks n) (by omega) (xmj T n (m+1) (by omega))
def xjm(K:Fg):Sp:=λvs H Q _=>∃(a:Addr) (ns:List Int) (k:Int),vs=[.ref a,.int k]/\SqL K H a (ns.map V.int)/\ns.length<=63/\0<=k/\∀(r:Addr) (p q:Int),H r=none->Q (.ref r) (upd H r (.lst [.int p,.int q]))
def xcw:Sp:=λvs H Q _=>∃(a:Addr) (p q m:Int),vs=[.ref a,.int m]/\H a=some (.lst [.int p,.int q])/\0<m/\m<2 ^ 64/\∀(r:Int) (H':Hp),0<=r->r<m->Fed a H H'->Q (.int r) H'
theorem xmf{ns:List Int}{k:Int}(h0:0<=k)(h:k<(ns.length:Int)):∃v:Int,atI (ns.map V.int) k=some (.int v):=by
 have a:k.toNat<ns.length:=by omega
 have b:k=((k.toNat:Nat):Int):=by omega
 refine⟨ns[k.toNat],?_⟩;have q:atI (ns.map V.int) ((k.toNat:Nat):Int)=some (.int ns[k.toNat]):=xam (by rw[zGM,zGA a] <;> rfl);rw[<- b]at q;exact q
theorem xdt:2<=sizeLine:=by decide
theorem xgd(T:Tx K z):DefIs P w K z base (n+1) "_law_feed" qan (xjm K):=by
 refine DefIs.of T.jX scl_feed (λvs H Q E h=>?_) (λf I A outer s H vs Q E J h=>?_)
 ·obtain⟨a,ns,k,rfl,_⟩:=h
  rfl
 obtain⟨a,ns,k,rfl,O,G,C,q⟩:=h;have nd:=scl_feed.nd;have g:(ns.map V.int).length=ns.length:=zLM _
 refine⟨_,(zpn (psn 2 nd pI)
   (zpn (xba (pR xgy (pv 1) (xax (xag (K:=K) rfl) rfl T.kY zE (v1 0)) (nM _)) (zpo (psn 2 nd (pxl K (pv 0) (pv 1)))) pQ)
   (zpn (xba (PW.pt (xcu (pR xd0 (xax (xag (K:=K) rfl) rfl T.kY zE (v1 0)) pI (nM _)) (xcg (pR xbf (xaq xcv (pxl K (pv 0) pI) pI) pI (nM _))))) (zpo (xaf (xcd (va 2 (pc (xaq xbk (xaq xcv (xaq xbk (xaq xdx (xaq xcv (pv 2) pI) pI) (xaq xdx pI (pv 1))) pI) pI) pN xa8))))) pQ)
   (zpn (xba (PW.pt (xcu (pR xvn (pv 1) (xax (xag (K:=K) rfl) rfl T.kY zE (v1 0)) (nM _)) (xcg (pR xd0 (xax (xag (K:=K) rfl) rfl T.kY zE (v1 0)) pI (nM _))))) (zpo (psn 2 nd (xaq xbk (pxl K (pv 0) (xaq xcv (pv 1) (xax (xag (K:=K) rfl) rfl T.kY zE (v1 0)))) (xaq xdx pI (pv 1))))) pQ)
   (zpo (xaf (xcd (pc pI (pc (xaq xbk (xaq xcv (xaq xbk (xaq xdx (xaq xcv (pv 2) pI) pI) (xaq xdx pI (pv 1))) pI) pI) pN xa8) zso)))))))),?_⟩
 have h0:0<ns.length->∃v:Int,atI (ns.map V.int) 0=some (.int v):=λh=>xmf (Int.le_refl 0) (by omega);walk_at"rd";refine ite2 (λc=>?_) (λc=>?_)
 ·have o:=z0 c
  rw[g]at o;obtain⟨v,x⟩:=xmf (ns:=ns) C o;obtain⟨y,p⟩:=h0 (by omega);walk_at"rd";refine ite2 (λj=>?_) (λj=>?_)
  ·walk_at"rd"
   refine ite2 (λu=>?_) (λu=>?_)
   ·walk_at"rd"
    exact⟨xdt,λl b=>q l _ _ b⟩
   ·walk_at"rd"
    refine ite2 (λi=>?_) (λi=>?_)
    ·have r:=z0 i
     rw[g]at r;omega
    ·refine iteF ?_
     walk_at"rd";exact⟨xdt,λl b=>q l _ _ b⟩
  ·have e:=of_decide_eq_false (Bool.eq_false_iff.mpr j)
   rw[g]at e;omega
 ·have o:=of_decide_eq_false (Bool.eq_false_iff.mpr c)
  rw[g]at o;walk_at"rd";refine ite2 (λj=>?_) (λj=>?_)
  ·have e:=z0 j
   rw[g]at e;obtain⟨y,p⟩:=h0 (by omega);walk_at"rd";refine ite2 (λu=>?_) (λu=>?_)
   ·walk_at"rd"
    exact⟨xdt,λl b=>q l _ _ b⟩
   ·walk_at"rd"
    refine ite2 (λi=>?_) (λi=>?_)
    ·walk_at"rd"
     refine ite2 (λm=>?_) (λm=>?_)
     ·obtain⟨v,x⟩:=xmf (ns:=ns) (k:=k%(ns.length:Int)) (zQ _ (by omega)) (zO _ (by omega))
      rw[<- g]at x;have M:(0:Int)<((ns.map V.int).length:Nat):=by rw[g];omega
      walk_at"rd";exact⟨xdt,λl b=>q l _ _ b⟩
     ·walk_at"rd"
      exact⟨xdt,λl b=>q l _ _ b⟩
    ·refine iteF ?_
     walk_at"rd";exact⟨xdt,λl b=>q l _ _ b⟩
  ·refine iteF ?_
   walk_at"rd";refine ite2 (λi=>?_) (λi=>?_)
   ·walk_at"rd"
    refine ite2 (λm=>?_) (λm=>?_)
    ·have e:=of_decide_eq_false (Bool.eq_false_iff.mpr j)
     exact absurd (z0 m) e
    ·walk_at"rd"
     exact⟨xdt,λl b=>q l _ _ b⟩
   ·refine iteF ?_
    walk_at"rd";exact⟨xdt,λl b=>q l _ _ b⟩
theorem xd6(T:Tx K e):DefIs P w K e base (n+1) "_law_take" qae xcw:=by
 refine DefIs.of T.jY scl_take (λvs H Q E h=>?_) (λf i A outer s H vs Q E l h=>?_)
 ·obtain⟨a,p,q,m,rfl,_⟩:=h
  rfl
 obtain⟨a,p,q,m,rfl,g,b,j,k⟩:=h;have nd:=scl_take.nd;have o:SqL K H a [.int p,.int q]:=zC g
 refine⟨_,(zpn (xba (pR xd0 (pxl K (pv 0) pI) pI (nM _)) (zpn (psn 2 nd (xaq xcv (pxl K (pv 0) pI) (pv 1)))
   (zpn (xdw (xaq xcs (pxl K (pv 0) pI) (pv 1)) (xsn (pv 0) pI xmy))
   (zpo (xaf (pv 2))))) pQ)
   (zpn (psn 3 nd (xaq xcv (xaq xdx (pxl K (pv 0) pI) pI) pI))
   (zpn (xdw (xaq xbk (xaq xcv (xaq xbk (xaq xdx (pv 3) pI) pI) pI) pI) (xsn (pv 0) pI xmy))
   (zpo (xaf (xaq xcv (xaq xcs (xaq xbk (xaq xdx (pv 3) pI) (pxl K (pv 0) pI)) pI) (pv 1))))))),?_⟩
 walk_at"rd";refine ite2 (λc=>?_) (λc=>?_)
 ·walk_at"rd"
  refine k _ _ (zQ _ (by omega)) (zO _ b) Fed.of
 ·walk_at"rd"
  refine(xah _ _ _ _ rfl rfl (zC ups) rfl ?_);walk_at"rd";refine k _ _ (zQ _ (by omega)) (zO _ b) Fed.of
def xos:Sp:=λvs H Q _=>∃c:Int,vs=[.int c,.int 26]/\∀(b:Addr) (H':Hp) (nms:List Str),Same H H'->H b=none->H' b=some (.lst (nms.map V.str))->xk8 nms->(∀z∈nms,NoBy z/\NoMo z)->Q (.ref b) H'
theorem xpm(T:Tx K mg):DefIs P w K mg base (n+1) "_law_names" qbe xos:=by
 refine DefIs.of T.jZ scl_names (by walk_at"l") (λf a4 A outer s H vs Q E hr h=>?_);obtain⟨c,rfl,k⟩:=h;have nd:=scl_names.nd
 refine⟨_,(zpn (psn 2 nd pS)
   (zpn (psn 3 nd (xaq xcv (pv 0) pI))
   (zpn (psn 4 nd (xaq xcv (xaq xcs (pv 0) pI) (xaq xbk (pv 3) pI)))
   (zpn (psn 5 nd (xds PySem.F.plainAttrs_str PySem.F.slot_str_join PySem.F.type_str_join xt1 pS (pc (xbh ["_law_j","_law_cell"] [none,some 0] rfl (by kernel_rfl) (xcb rfl T.uA (v1 3)) (λ_ _ _ _=>(pgc 0)) (λ_ _ _ _=>xbo) (λ_ _ _ _=>(xn3 xnc pS (xaq xcv (xaq xbk (xaq xcs (pv 1) pI) (pv 0)) pI) (λ_ _=>rfl)))) pN xbt)))
   (zpn (psn 6 nd (xbh ["_law_k","_law_common","_law_letters","_law_at","_law_cell"] [none,some 5,some 2,some 4,some 0] rfl (by kernel_rfl) (xcb rfl T.uA (v1 1)) (λ_ _ _ _=>(pgc 0)) (λ_ _ _ _=>xbo) (λ_ _ _ _=>(xaq xet (xaq xet (xes xsk (pv 1) xis (xeg (pv 3))) (xn3 xnc (pv 2) (xaq xcv (xaq xbk (xaq xcs (pv 4) pI) (xaq xdx pI (pv 0))) pI) (λ_ _=>rfl))) (xes xsk (pv 1) (xeg (pv 3)) xis)))))
   (zpn (xba (pR xbf (xaq xcv (xaq xcs (pv 0) pI) pI) pI (nM _)) (zpo (xaf (pv 6))) pQ)
   (zpo (xaf (xbh ["_law_k","_law_found"] [none,some 6] rfl (by kernel_rfl) (xcb rfl T.uA (v1 1)) (λ_ _ _ _=>(pgc 0)) (λ_ _ _ _=>xbo) (λ_ _ _ _=>(xaq xet (pxl K (pv 1) (xaq xc1 (pv 0) (xaq xcv (pv 0) pI))) (xaq xtq pS (xaq xcv (pv 0) pI))))))))))))),?_⟩
 have m0:0<=c%5:=zQ _ (by decide);have m5:c%5<5:=zO _ (by decide);refine(xar _ rfl _ _ rfl rfl ⟨(by show(0:Int)<5;decide),?_⟩);have hp:0<(c%5)+1:=by omega
 refine(xar _ rfl _ _ rfl rfl (jAEA ⟨by decide,by decide⟩ _ rfl (xaw _ _ rfl rfl (xb9 _ _ rfl rfl hp ?_))));have a0:0<=c / 5%((c%5)+1):=zQ _ (by omega);have a1:c / 5%((c%5)+1)<(c%5)+1:=zO _ hp;refine(jAEA rfl _ rfl (xb8 _ rfl (by omega) (by omega) ?_));refine xdb (j:=0) (λi ys I=>I=H/\∃cs:List Nat,ys=(cs.map xdu).map V.str/\∀c∈cs,c∈five) (by rfl) (jAEA rfl ([]) rfl (λ_ h=>nomatch h)) (xa3 (by omega)) ?_ ?_
 ·rintro i ys I hi Y ⟨rfl,cs,rfl,a⟩
  refine(xar _ rfl _ _ rfl rfl (jAEA ⟨by decide,by decide⟩ _ rfl (xaw _ _ rfl rfl (xb9 _ _ rfl rfl (by show(0:Int)<5;decide) ?_))));obtain⟨ch,Z,a2⟩:=xue (zQ (c / 25+(0+(i:Int))) (by decide:(5:Int)≠0)) (zO _ (by decide));refine(xa6 _ _ ch rfl rfl (by walk_at"k") a2 ?_)
  exact nxt hi Y ⟨rfl,cs++[ch],by simp[xdu],λx o=>by
   rcases zMA o with o |o
   ·exact a x o
   ·rw[zMO o];exact Z⟩
 ·rintro ys I Y ⟨rfl,cs,rfl,a⟩ D hD
  rw[zLM,zLM]at Y;refine(xa6 (S "") D (cs.map xdu) rfl rfl (zC ups) ?_ ?_)
  ·rw[xlc,show(S "").length=0 by walk_at"k"]
   omega
  rw[xko];have m:=zA hD (.lst ((cs.map xdu).map V.str));generalize upd I D (.lst ((cs.map xdu).map V.str))=H1 at m⊢;have b:(ofL cs).length=cs.length:=by rw[<- xfs,xen]
  have c4:cs.length<=4:=by omega
  refine(xbi _ rfl _ rfl (by decide) ⟨by decide,?_⟩);refine xdb (j:=0) (λi ys G=>G=H1/\ys=((List.range i).map λk=>ofL (nmA cs (c / 5%(c%5+1)).toNat (c / 125) k)).map V.str) (by rfl) ⟨rfl,rfl⟩ (xa3 (by decide)) ?_ ?_
  ·rintro i ys G hi r ⟨rfl,rfl⟩
   have e0:(0+(i:Int))=(i:Int):=by omega
   have U:0<=(c / 125+5*(0+(i:Int)))%26:=zQ _ (by decide);have O:(c / 125+5*(0+(i:Int)))%26<26:=zO _ (by decide);refine(jEA _ rfl (jEA _ rfl (xbi _ rfl _ rfl (fits (by rw[b];omega)) ?_)));refine(jEA _ rfl (xar _ rfl _ _ rfl rfl (jAEA ⟨by decide,by decide⟩ _ rfl (xb9 _ _ rfl rfl (.inl ⟨by decide,by decide⟩) (xaw _ _ rfl rfl (xb9 _ _ rfl rfl (by show(0:Int)<26;decide) ?_))))));refine(xa6 _ _ _ rfl rfl (by walk_at"k") (xp8 U O) ?_);rw[xra (ofL cs) a0 (by rw[b];omega)];refine(xb9 _ _ rfl rfl ?_ ?_)
   ·refine fits ?_
    rw[show(ofL ((L (ofL cs)).take (c / 5%(c%5+1)).toNat)).length=(cs.take (c / 5%(c%5+1)).toNat).length by rw[<- xfs,xen,xen],List.length_take];show _+1<=_;omega
   refine(jEA _ rfl (jEA _ rfl (xbi _ rfl _ rfl (fits (by rw[b];omega)) ?_)));rw[xnz (ofL cs) a0 (by rw[b];omega),xen];refine(xb9 _ _ rfl rfl ?_ ?_)
   ·refine fits ?_
    rw[Str.length_append,show(ofL (cs.take (c / 5%(c%5+1)).toNat)).length=(cs.take (c / 5%(c%5+1)).toNat).length by rw[<- xfs,xen],show(ofL (cs.drop (c / 5%(c%5+1)).toNat)).length=(cs.drop (c / 5%(c%5+1)).toNat).length by rw[<- xfs,xen],List.length_take,List.length_drop];show _+1+_<=_;omega
   rw[xpx];refine nxt hi r ⟨rfl,?_⟩;rw[List.range_succ,zAP,zAP,e0];rfl
  ·rintro ys G r ⟨rfl,rfl⟩ J y
   have g:=zA y (.lst (((List.range 26).map λk=>ofL (nmA cs (c / 5%(c%5+1)).toNat (c / 125) k)).map V.str));refine(xar _ rfl _ _ rfl rfl (jAEE ⟨by decide,by decide⟩ _ _ (jAAA rfl rfl (by show(0:Int)<3;decide) (jAEA rfl _ rfl (ite2 (λcc=>?_) (λcc=>?_))))))
   ·exact(jEA _ rfl (k J _ _ (m.trans g) (xae m y) ups (nmsA c4 a) (λz hz=>⟨xtz a z hz,xty a z hz⟩)))
   ·refine(xbi _ rfl _ rfl (by decide) ⟨by decide,?_⟩)
    obtain⟨C,l⟩:∃C,C=upd G J (.lst (((List.range 26).map λk=>ofL (nmA cs (c / 5%(c%5+1)).toNat (c / 125) k)).map V.str)):=⟨_,rfl⟩;have hb:C J=some (.lst (((List.range 26).map λk=>ofL (nmA cs (c / 5%(c%5+1)).toNat (c / 125) k)).map V.str)):=by rw[l];exact ups
    rw[<- l]at g;refine xdb (j:=0) (λi ys H4=>H4=C/\ys=((List.range i).map λk=>ofL (nmB cs (c / 5%(c%5+1)).toNat (c / 125) k)).map V.str) (by rfl) ⟨l.symm,rfl⟩ (xa3 (by decide)) ?_ ?_
    ·rintro i ys H4 hi p ⟨rfl,rfl⟩
     have a3:i<26:=hi;have er:(0+(i:Int))%2=((i%2:Nat):Int):=by omega
     have es:(0+(i:Int))-(0+(i:Int))%2=((i-i%2:Nat):Int):=by omega
     refine(xa0 _ rfl _ rfl _ rfl _ _ rfl rfl (jAEE (by show(0:Int)<2;decide) _ _ (jAA rfl rfl (xah J _ _ (.str (ofL (nmA cs (c / 5%(c%5+1)).toNat (c / 125) (i-i%2)))) rfl rfl (zC hb) ?_ ?_))))
     ·rw[es]
      refine xam ?_;rw[zGM,zGM,List.getElem?_range (by omega)];rfl
     refine(xar _ rfl _ _ rfl rfl (jAEE (by show(0:Int)<2;decide) _ _ (jAAA rfl rfl (by omega) ?_)));refine(xb9 _ _ rfl rfl ?_ ?_)
     ·refine fits ?_
      rw[show(ofL (nmA cs (c / 5%(c%5+1)).toNat (c / 125) (i-i%2))).length=cs.length+1 by rw[<- xfs,xen,xg1]];have:(if (0+(i:Int))%2=1 then S "q" else Str.empty).length<=1:=by split <;> decide +kernel
      show _+(if (0+(i:Int))%2=1 then S "q" else Str.empty).length<=_;omega
     refine nxt hi p ⟨rfl,?_⟩;rw[List.range_succ,zAP,zAP];congr 1;show[V.str _]=[V.str _];congr 2;apply xq2;rw[xe0,xen,xen];unfold nmB;congr 1;rw[er];rcases Nat.mod_two_eq_zero_or_one i with e |e
     ·rw[e];decide +kernel
     ·rw[e];decide +kernel
    ·rintro ys H4 p ⟨rfl,rfl⟩ D4 u
     have M:=zA u (.lst (((List.range 26).map λk=>ofL (nmB cs (c / 5%(c%5+1)).toNat (c / 125) k)).map V.str));exact k D4 _ _ (m.trans (g.trans M)) (xae (m.trans g) u) ups (nmsB c4 a) (λz hz=>⟨xtx a z hz,xtw a z hz⟩)
def xft:Sp:=λvs H Q _=>∃v ks x,vs=[v,.str x]/\KsSeq H v ks/\∀t pv H',Same H H'->H' t=some (.tup [.str (xgu (kAt ks x)),pv])->RelD H' pv (xm4 (kAt ks x))->Q (.ref t) H'
def xhw(m:Nat):Sp:=λvs H Q _=>∃v ks x,vs=[v,.str x]/\KsSeq H v ks/\KWf ks/\KIn ks m x/\∀H',Same H H'->Q (.int (szF (m+1) ks x)) H'
theorem xcq (T:Tx K Y):DefIs P w K Y base (n+1) "_law_sort_of" qad xft:=by
  refine DefIs.of T.j1 scl_sort_of (by walk_at"l") (λf a0 A outer s H vs Q E hr h=>?_);obtain⟨v,ks,x,rfl,⟨a,us,rfl,J,M⟩,q⟩:=h;have nd:=scl_sort_of.nd
  refine⟨_,(zpn (xb5 zF rfl (xve (xbv (K:=K) rfl (pv 0)) (xas (K:=K) rfl (pv 0))) (xbc (K:=K) rfl rfl (xad (pgn 2 nd) (xad (pgn 3 nd) (xad (pgn 4 nd) xbb))))
      (zpo (xba (pR xbf (pv 2) (pv 1) (nM _)) (zpo (xaf (xa2 (va 3 (v1 4))))) pQ)))
      (zpo (xaf (xa2 (pc pS (pc (xa2 pN) pN zsT) zso))))),?_⟩
  have Z:=M.length;rw[zLM]at Z
  have l:∀(i:Nat) (v:V),us[i]?=some v->(ks.take i).find? (λk=>decide (k.name=x))=none->∃k b pv,ks[i]?=some k/\v=.ref b/\H b=some (.tup [.str k.name,.str k.sort,pv])/\RelD H pv (xee k.parts):=λi v C hn=>by
    obtain⟨d,hd,rd⟩:=M.get C;rw[zGM]at hd;obtain⟨k,g,rfl⟩:=zMS hd;obtain⟨b,ws,rfl,I,_,_,rfl,rfl,_,_,rfl,rfl,O,_,rfl,y,rfl⟩:=rd;exact(xcm k b O g rfl I y)
  rcases J with u |u
  case' inl=>
    refine .inl (xbi _ rfl a rfl ⟨_,zC u⟩ ?_);refine xea (xs:=us) (λi σ j=>∃r o m,σ=[some (.ref a),some (.str x),r,o,m]/\j=H/\(ks.take i).find? (λk=>decide (k.name=x))=none) (xbn none none none rfl rfl rfl) (λi σ j _ p=>by obtain⟨_,_,_,_,rfl,_⟩:=p;exact zC u) ?_ ?_
  case' inr=>
    refine .inr (xbi _ rfl a rfl ⟨_,zB u⟩ ?_);refine xcz (xs:=us) (λi σ j=>∃r o m,σ=[some (.ref a),some (.str x),r,o,m]/\j=H/\(ks.take i).find? (λk=>decide (k.name=x))=none) (xbn none none none rfl rfl rfl) (λi σ j _ p=>by obtain⟨_,_,_,_,rfl,_⟩:=p;exact zB u) ?_ ?_
  all_goals first
    | (rintro i v σ j C ⟨r,o,m,rfl,rfl,hn⟩
       obtain⟨k,b,pv,g,rfl,I,y⟩:=l i v C hn;refine(xay b _ rfl (zB I) rfl _ _ rfl _ (xar _ rfl _ _ rfl rfl ?_));refine(xcp _ rfl _ rfl rfl _ rfl (ite2 (λc=>?_) (λc=>?_)))
       · have e:k.name=x:=V.str.inj (z0 c)
         have e2:kAt ks x=some k:=(xdj hn g).1 (zDT e);refine(xbi _ rfl _ rfl (by walk_at"s") (λt G=>?_));have st:=zA G (.tup [.str k.sort,pv]);rw[e2]at q;exact q t pv _ st ups (y.same st _)
       · have e:¬k.name=x:=λz=>c (zDT (congrArg V.str z))
         exact(xbn _ _ _ rfl rfl ((xdj hn g).2 (zDF e))))
    | (rintro σ j ⟨r,o,m,rfl,rfl,hn⟩
       rw[zTL (by omega)]at hn;rw[show kAt ks x=none from hn]at q;refine⟨(by walk_at"s"),λe he=>⟨(by walk_at"s"),λt G=>?_⟩⟩;have U:=zA he (.tup []);have st:=zA G (.tup [.str (S "num"),.ref e]);exact q t (.ref e) _ (U.trans st) ups (xaw e ([]) rfl (st _ _ ups) rfl))
theorem xm7 (T:Tx K mg) (G:Sp) (a:DefIs P w K mg base n "_law_sort_of" qad xft) (g:DefIs P w K mg base n "_law_size" qad G) (M:∀j,m=j+1->G=xhw j) (hm:m<=6) :
  DefIs P w K mg base (n+1) "_law_size" qad (xhw m):=by
 refine DefIs.of T.j2 scl_size (by walk_at"l") (λf a5 A outer s H vs Q E hr h=>?_);obtain⟨v,ks,x,rfl,hk,u,a3,q⟩:=h;have nd:=scl_size.nd
 refine⟨_,(zpn (xdw (pd a hr (va 0 (v1 1))) (xbc (K:=K) rfl rfl (xad (pgn 2 nd) (xad (pgn 3 nd) xbb))))
   (zpn (xc8 (i:=4) ["_law_name","_law_part","_law_kinds_here"] [none,none,some 0] rfl (by kernel_rfl) nd rfl (by walk_at"o") (xas (K:=K) rfl (pv 3)) (λ_ _ _ _=>(xbc (K:=K) (n:=2) rfl rfl (xad (pgc 0) (xad (pgc 1) xbb)))) (λ_ _ _ _=>xbo) (λ_ _ _ _=>(pd g hr (va 2 (v1 1)))))
   (zpn (xba (pR xbf (pv 2) pS (nM _)) (zpo (xaf (xaq xbk pI (xax (xqy rfl) rfl T.k0 PyProof.Rows.boot_max (v1 4))))) pQ)
   (zpo (xaf (xaq xbk pI (xax (xkz rfl) rfl T.uB PyProof.Rows.boot_sum (v1 4)))))))),?_⟩
 refine(xc3 _ rfl _ rfl v ks x rfl hk (λt pv H1 s1 ht rp=>?_));refine(xay t _ rfl (zB ht) rfl _ _ rfl _ (jEAA _ rfl rfl ?_))
 have a2:∃ps:List (Str×Str),xm4 (kAt ks x)=xee ps/\ps.length<=5/\(∀p∈ps,∃j,m=j+1/\KIn ks j p.2)/\(xgu (kAt ks x)=S "alt"->ps≠[]/\szF (m+1) ks x=1+maxD (ps.map λp=>szF m ks p.2)) ∧
   (xgu (kAt ks x)≠S "alt"->szF (m+1) ks x=1+(ps.map λp=>szF m ks p.2).sum):=by
  cases C:kAt ks x with
  |none=>
   refine(xbm ([]) rfl (by decide) (λ_ h=>nomatch h) (λh=>absurd h (by walk_at"k")) (λ_=>?_));unfold szF;rw[C];rfl
  | some k=>
   have l:k∈ks:=zMF C
   have y:k.name=x:=by
    have:=zU C;simpa using this
   refine(xbm k.parts rfl (u.pts k l) (λp hp=>?_) (λh=>?_) (λh=>?_))
   ·rcases a3 with rfl |⟨j,k',hj,a0,e⟩
    ·exact absurd y (xfc (u.nm k l))
    ·have e2:kAt ks k'.name=some k':=u.at a0
     rw[e,C]at e2;cases e2;refine(jEA (m-1) (by omega) ?_);rcases u.ref j k a0 p hp with z |⟨i,k2,hi,z⟩
     ·exact .inl z
     ·exact .inr (jEEA i k2 (by omega) z)
   ·have o:k.rc=false:=by
     cases hc:k.rc with
     |false=>rfl
     |true=>
      have:k.sort=S "alt":=h;unfold Kn.sort at this;rw[hc,if_pos rfl]at this;exact absurd this (by walk_at"k")
    refine⟨u.alt k l o,?_⟩
    conv=>lhs;unfold szF
    rw[C];show 1+(if k.rc=true then _ else _)=_;rw[if_neg (by rw[o];decide)]
   ·have o:k.rc=true:=by
     cases hc:k.rc with
     |true=>rfl
     |false=>
      refine absurd ?_ h;show k.sort=S "alt";unfold Kn.sort;rw[hc,if_neg (by decide)]
    conv=>lhs;unfold szF
    rw[C];show 1+(if k.rc=true then _ else _)=_;rw[if_pos o]
 obtain⟨ps,a4,h5,U,a1,O⟩:=a2;rw[a4]at rp;obtain⟨e,us,rfl,he,J⟩:=rp;have hl:=J.length;rw[zLM]at hl;refine(xbi _ rfl e rfl ⟨_,zB he⟩ ?_);refine xbj (xs:=us) (λi ys H'=>Same H1 H'/\ys=((ps.take i).map λp=>szF m ks p.2).map V.int) ⟨Same.refl _,rfl⟩ (xa3 (by omega)) (λi ys H' _ p=>zB (p.1 _ _ he)) ?_ ?_
 ·rintro i z ys H' hz hi Z ⟨I,rfl⟩
  obtain⟨d,hd,rd⟩:=J.get hz;rw[zGM]at hd;obtain⟨p,hp,rfl⟩:=zMS hd;obtain⟨b,ws,rfl,hb,_,_,rfl,rfl,_,_,rfl,rfl,rfl⟩:=rd;obtain⟨j,rfl,hj⟩:=U p (zMG hp);have D':=M j rfl;subst D';refine(xay b _ rfl (zB (I _ _ hb)) rfl _ _ rfl _ (xb8 _ rfl rfl (ext2 rfl rfl) (xdn ?_)));refine(xbq _ rfl _ rfl _ ks p.2 rfl (hk.same (s1.trans I)) u ⟨hj,λH2 s2=>nxtG hi Z ⟨I.trans s2,?_⟩⟩);rw[zTA,hp];simp
 ·rintro ys H' Z ⟨I,rfl⟩ D hD
  rw[zTL (by omega)];have sD:=zA hD (.lst ((ps.map λp=>szF m ks p.2).map V.int));have r:=s1.trans (I.trans sD)
  have hb:∀n∈ps.map (λp=>szF m ks p.2),0<=n/\n<=1000000:=λn hn=>by
   obtain⟨p,_,rfl⟩:=zMP hn;have h1:=xgl u.pts m p.2
   have h2:(6:Int) ^ m<=6 ^ 6:=by
    rcases(show m=0\/m=1\/m=2\/m=3\/m=4\/m=5\/m=6 by omega) with h |h |h |h |h |h |h <;> subst h <;> decide
   have h3:(6:Int) ^ 6=46656:=by decide
   omega
  refine(xa5 _ rfl rfl _ rfl (ite2 (λc=>?_) (λc=>?_)))
  ·obtain⟨Y,ez⟩:=a1 (V.str.inj (z0 c))
   refine(xar _ rfl D _ rfl (zC ups) ⟨(λz=>Y (List.map_eq_nil_iff.mp z)),λmx h1 h2=>(xaw _ _ rfl rfl ?_)⟩);have:=q _ r;rw[ez,<- xt2 (λz=>Y (List.map_eq_nil_iff.mp z)) (λn hn=>(hb n hn).1) h1 h2]at this;exact this
  ·have ez:=O (λz=>c (zDT (congrArg V.str z)))
   refine(xar _ rfl D _ rfl (zC ups) (jAA hb (by rw[zLM];omega) (xaw _ _ rfl rfl ?_)));have:=q _ r;rw[ez]at this;exact this
theorem xo3(T:Tx K a):∀m,m<=6->DefIs P w K a base (m+2) "_law_size" qad (xhw m)
 |0,h=>xm7 (n:=1) T (λ_ _ _ _=>False) (xcq T) (DefIs.none T.j2 λ_ _ _ _ h=>h) (λj e=>by cases e) h
 |m+1,h=>xm7 (n:=m+2) T (xhw m) (xcq T) (xo3 T m (by omega)) (λj e=>by cases e;rfl) h
def xld:Sp:=λvs H Q _=>∃(f l nb:Addr) (srt:Str) (p q:Int) (ws:List V) (ks:List Kn) (n4:List Str),vs=[.ref f,.ref l,.str srt,.ref nb]/\H f=some (.lst [.int p,.int q])/\H l=some (.lst ws)/\RelDs H ws (ks.map Kn.d)/\KWf ks ∧
 H nb=some (.lst (n4.map V.str))/\n4.length=4/\(srt=S "rec"\/srt=S "alt")/\l≠f/\nb≠f ∧
 ∀v ps (H':Hp),Fed f H H'->RelD H' v (xee ps)->ps.length<=4->ps.map (·.1)=n4.take ps.length->(srt=S "alt"->ps≠[])->(∀p∈ps,KIn ks ks.length p.2)->(ps.map λp=>sz ks p.2).sum<=29->Q v H'
theorem xv3{D:Ends}{σ:St}{H:Hp}{c:Bool}{B:Prop}{i:Nat}{v x:V}(a:V->St)(f:σ.set i (some v)=a v)(e:σ=a x)(b:D.nx σ H->B)(h:∀y,(y=v\/(y=x/\c=false))->D.nx (a y) H):if c=true then tAsg (tC v) (xg9 i) D σ H else B:=by
 cases c with
 |false=>exact b (by rw[e];exact h x (.inr ⟨rfl,rfl⟩))
 |true=>
  show D.nx (σ.set i (some v)) H;rw[f];exact h v (.inl rfl)
theorem and2{a:TE}{σ:St}{H:Hp}{Q:VK}{c cA:Bool}(f:Q (.bl cA) H->a σ H Q)(h:∀b:Bool,(b=true->cA=true)->Q (.bl b) H):if c=true then a σ H Q else Q (.bl false) H:=by
 cases c with
 |false=>exact h false (λe=>by cases e)
 |true=>exact f (h cA id)
theorem xm9:∀{ns:List Int},(∀n∈ns,0<=n)->maxD ns<=ns.sum/\0<=ns.sum
 |[],_=>⟨Int.le_refl _,Int.le_refl _⟩
 |n::ns,h=>by
  have c:=h n (by simp);have b:=xm9 (ns:=ns) λm a=>h m (by simp[a]);rw[List.sum_cons];show max n (maxD ns)<=_/\_;omega
theorem xrz{ks:List Kn}(a:KWf ks){x:Str}{b:Bool}{ps:List (Str×Str)}(h:(ps.map λp=>sz ks p.2).sum<=29):inSz (Kn.mk x b ps) (sz ks)<=29:=by
 have:=xm9 (ns:=ps.map λp=>sz ks p.2) λn hn=>by
  obtain⟨p,_,rfl⟩:=zMP hn;have:=xww a p.2;omega
 unfold inSz;show(if b=true then (ps.map λp=>sz ks p.2).sum else maxD (ps.map λp=>sz ks p.2))<=29;split <;> omega
theorem xpl (T:Tx K mg) (a:DefIs P w K mg base n "_law_take" qae xcw) (c:DefIs P w K mg base n "_law_size" qad (xhw 6)):DefIs P w K mg base (n+1) "_law_parts" qa2 xld:=by
  refine DefIs.of T.j4 scl_parts (by walk_at"l") (λf bh A outer s H vs Q E hr h=>?_);obtain⟨J,l,nb,C,p,q,ws,ks,n4,rfl,hf,hl,a4,wf,al,h4,hs,lf,nf,k⟩:=h;have nd:=scl_parts.nd
  refine⟨_,(zpn (psn 4 nd (xcd pN))
      (zpn (psn 5 nd pI)
      (zpn (xb5 zF rfl (xcb rfl T.uA (pc (xaq xbk (xaq xbk (pd a hr (va 0 (pc pI pN zso))) (xau xhe rfl T.kX PyProof.Rows.boot_int (pc (xe9 xbf (pv 2) pS (nM _)) pN xmq))) (xau xhe rfl T.kX PyProof.Rows.boot_int (pc (xvj (xe9 xbf (pd a hr (va 0 (pc pI pN zso))) pI (nM _)) (xvh (xe9 xbf (pv 2) pS (nM _)))) pN xoq))) pN xa8)) (pgn 6 nd)
      (zpn (psn 7 nd (pxl K (xaq xfx (xcd (pc pS pN zso)) (xbh ["_law_row"] [none] rfl (by kernel_rfl) (xbv (K:=K) rfl (pv 1)) (λ_ _ _ _=>(pgc 0)) (λ_ _ _ _=>xbo) (λ_ _ _ _=>(px K (pv 0) pI)))) (pd a hr (va 0 (pc (xaq xbk pI (xax (xag (K:=K) rfl) rfl T.kY zE (v1 1))) pN xa8)))))
      (zpn (xba (pR xd0 (pd c hr (va 1 (v1 7))) (pv 5) (nM _)) (zpo (psn 7 nd pS)) pQ)
      (zpn (psn 5 nd (xaq xc1 (pv 5) (pd c hr (va 1 (v1 7)))))
      (zpo (xbp (xds zD zH zG xb0 (pv 4) (pc (xa2 (pc (pxl K (pv 3) (pv 6)) (v1 7) ss)) pN zsT))))))))
      (zpo (xaf (xau (xbx (K:=K) rfl) rfl T.uC zK (pc (xes xik (pv 4) xis (xeg pI)) pN ss))))))),?_⟩
  refine⟨(by walk_at"s"),λpl a8=>?_⟩;have s0:=zA a8 (.lst []);have M:pl≠J:=Ne.symm (neN hf a8);have a2:=wf.few;have ah:=a4.length;rw[zLM]at ah;refine(xaa _ rfl J p q 4 rfl (s0 _ _ hf) (by decide) (by decide) (λr1 H1 bb ba f1=>?_));obtain⟨p1,q1,h1⟩:=f1.2;have F1:Fed J H H1:=⟨s0.but.trans f1.1,f1.2⟩;have au:H1 pl=some (.lst []):=f1.1 _ _ ups M
  have b6:∃cA cB:Bool,decide (V.str C=V.str (S "rec"))=cA/\decide (V.str C=V.str (S "alt"))=cB/\0<=(if cA=true then (1:Int) else 0)/\0<=(if cB=true then (1:Int) else 0)/\(if cA=true then (1:Int) else 0)+(if cB=true then (1:Int) else 0)<=1/\(C=S "alt"->(if cB=true then (1:Int) else 0)=1):=by
    rcases hs with rfl |rfl
    · exact(xa9 true false (by walk_at"k") (by walk_at"k") (by decide) (by decide) (by decide) (λe=>absurd e (by walk_at"k")))
    · exact(xa9 false true (by walk_at"k") (by walk_at"k") (by decide) (by decide) (by decide) (λ_=>rfl))
  obtain⟨cA,cB,eA,eB,b4,bg,bf,b3⟩:=b6;refine(jEAA _ rfl rfl (.inr (xar cB (congrArg (λb=>[V.bl b]) eB) r1 (if cB=true then 1 else 0) rfl rfl ?_)));refine(xaa _ rfl J p1 q1 9 rfl h1 (by decide) (by decide) (λr2 H2 b9 b8 f2=>(jAEA rfl _ rfl (and2 (cA:=decide (V.str C=V.str (S "rec"))) (λz=>(jEAA _ rfl rfl z)) (λb hb=>?_)))));rw[eA]at hb
  have be:0<=(if b=true then (1:Int) else 0)/\(if b=true then (1:Int) else 0)<=(if cA=true then (1:Int) else 0):=by
    cases b with
    |false=>exact⟨Int.le_refl _,b4⟩
    |true=>rw[hb rfl];exact⟨by decide,by decide⟩
  refine .inr (xbl b rfl _ (if b=true then 1 else 0) rfl rfl _ rfl (jAA (by omega) (by omega) ?_))
  all_goals
      have F2:Fed J H H2:=F1.trans f2;have ar:H2 pl=some (.lst []):=f2.1 _ _ au M
      refine xdi (λi σ H'=>∃us,∃ps:List (Str×Str),∃left o6 o7,σ=[some (.ref J),some (.ref l),some (.str _),some (.ref nb),some (.ref pl),some (.int left),o6,o7]/\Fed J H H'/\H' pl=some (.lst us)/\RelDs H' us (ps.map xmd)/\ps.length=i/\ps.map (·.1)=n4.take i/\(∀p∈ps,KIn ks ks.length p.2)/\(ps.map λp=>sz ks p.2).sum+left=25/\-(i:Int)<=left)
        (xaj ([]) ([]) 25 none none rfl F2 ar rfl rfl (jAAA rfl (λ_ h=>nomatch h) rfl (by decide))) ?_ ?_
      · rintro i σ H3 hi ⟨us,ps,left,o6,o7,rfl,F,a6,I,g,a7,ab,aj,a9⟩
        have bd:i<4:=by omega
        obtain⟨p3,q3,h3⟩:=F.2;have aa:=F.1 l _ hl lf;have bc:=F.1 nb _ al nf;have ag:=a4.tups (xai (jEE p q hf) F) _;refine⟨(by walk_at"s"),λl1 ax=>?_⟩;have U:=zA ax (.lst [.str (S "num")]);refine(xbi _ rfl l rfl ⟨_,zC (U _ _ aa)⟩ ?_);refine xkw (j:=0) (xs:=ws) (λi ys H'=>H'=upd H3 l1 (.lst [.str (S "num")])/\ys=((ks.take i).map Kn.name).map V.str) (by rfl) ⟨rfl,rfl⟩ (xa3 (by omega)) (λi ys H' _ p=>by obtain⟨rfl,_⟩:=p;exact zC (U _ _ aa)) ?_ ?_
        · rintro i' x ys H' hx am ⟨rfl,rfl⟩
          obtain⟨d,hd,rd⟩:=(ag.same U _).get hx;rw[zGM]at hd;obtain⟨k',az,rfl⟩:=zMS hd;obtain⟨b,b7,rfl,hb,_,_,rfl,rfl,_,_,rfl,rfl,v3,_,rfl,r3,rfl⟩:=rd;have b0:i'<ws.length:=(zES hx).1;refine(xaa _ rfl b _ _ _ rfl rfl (zB hb) rfl (nxt b0 am ⟨rfl,?_⟩));rw[zTA,az];simp
        rintro ys H' am ⟨rfl,rfl⟩ D2 b5;rw[zTL (by omega)];have s2:=zA b5 (.lst ((ks.map Kn.name).map V.str));refine(xap l1 D2 _ _ rfl rfl (s2 _ _ ups) ups (fits (by rw[zLM,zLM];show 1+_<=_;omega)) (λl3 a0=>?_));have s3:=zA a0 (.lst ([.str (S "num")]++(ks.map Kn.name).map V.str));have u:=U.trans (s2.trans s3);have aq:l3≠J:=Ne.symm (neN (s2 _ _ (U _ _ h3)) a0);refine(xbg _ rfl _ rfl l _ rfl (.inl (zC (u _ _ aa))) _ (jEAA _ rfl rfl ?_));refine(xah J p3 q3 _ rfl (u _ _ h3) (by omega) (by omega) (λr H4 r0 ac f4=>?_));rw[ah]at ac;obtain⟨x,hx,Z⟩:=xi0 r0 ac;have an:H4 l3=some (.lst ([.str (S "num")]++(ks.map Kn.name).map V.str)):=f4.1 _ _ ups aq;refine(xah l3 _ _ _ rfl rfl (zC an) hx ?_);have F4:Fed J H H4:=(F.same u).trans f4;have m:=f4.1 _ _ (u _ _ a6) M;have ai:=(I.same u _).tups (xai (jEE p3 q3 (u _ _ h3)) f4) _;have aw:=F4.1 l _ hl lf;have av:=F4.1 nb _ al nf;have af:=a4.tups (xai (jEE p q hf) F4) _;have O:KsSeq H4 (.ref l) ks:=(xaw l ws rfl (.inl aw) af);refine(xbq _ rfl _ rfl _ ks x rfl O wf ⟨Z.mono a2,λH5 s5=>(xbl _ rfl _ _ rfl rfl _ rfl (xv3 (x:=.str x) (λy=>[some (.ref J),some (.ref l),some (.str C),some (.ref nb),some (.ref pl),some (.int left),some (.int (0+(i:Int))),some y]) rfl rfl id (λy hy=>?_)))⟩)
        obtain⟨Y,rfl,ae,ay⟩:∃Y,y=.str Y/\KIn ks ks.length Y/\-((i:Int)+1)<=left-sz ks Y:=by
          rcases hy with rfl |⟨rfl,b1⟩
          · exact ⟨S "num", rfl, .inl rfl, by have h1:sz ks (S "num") = 1 := xuy wf
                                              omega⟩
          · refine(jEAA _ rfl Z ?_)
            have h0:¬left<sz ks x:=of_decide_eq_false b1;omega
        · refine(xb1 _ rfl _ rfl _ rfl _ ks (xbm Y rfl (O.same s5) wf (ae.mono a2) (λH6 s6=>(xaw _ _ rfl rfl ?_))))
          have a3:=s5.trans s6;have ak:=a3 _ _ m;have a1:i<n4.length:=by omega
          refine(xa5 _ rfl (.inl (jAE rfl _ (zC ak))) _ rfl (xaa _ rfl nb _ _ _ rfl rfl (zC (a3 _ _ av)) (xmn a1) (jEAA _ rfl (by walk_at"s") (λt ht=>?_))));have G:∀o,Same H4 (upd H6 t o):=λo=>a3.trans (zA ht o);have a5:=I.length;rw[zLM]at a5;refine(xa6 pl us _ rfl rfl (G _ _ _ m) (xa3 (by omega)) ?_);refine(xaj _ (ps++[(n4[i],Y)]) _ _ _ rfl (Fed.put (F4.same (G _)) a8 M _) ups ?_ (by rw[zLA,List.length_singleton,g]) (jAAA ?_ (λz hz=>?_) ?_ (by push_cast;exact ay)))
          · rw[zAP]
            refine RelDs.append ((ai.same (G _) _).tups (xc5 (G _ _ _ m) _) _) ?_;exact(xaw _ ([]) rfl (xat t _ rfl (xc5 (G _ _ _ m) _ _ _ ups) _ _ rfl rfl _ (jEAA _ rfl rfl rfl)) rfl)
          · rw[zAP,a7,zTA,zGA a1]
            rfl
          · rcases zMA hz with hz |hz
            · exact ab z hz
            · rw[zMO hz];exact ae
          · show((ps++[(n4[i],Y)]).map λp=>sz ks p.2).sum+(left-sz ks Y)=25
            rw[zAP,List.sum_append];simp only[List.map_cons,List.map_nil,List.sum_cons,List.sum_nil];omega
      · rintro σ H3 ⟨us,ps,left,o6,o7,rfl,F,a6,I,g,a7,ab,aj,a9⟩
        have a5:=I.length;rw[zLM]at a5;refine(jEA _ rfl (xar _ rfl pl us rfl (zC a6) (λc2 b2=>?_)))
        have ao:cutV us none (some 4)=us:=by
          unfold cutV;rw[show HT.sIx us.length 0 none=0 from rfl,List.drop_zero,Nat.sub_zero];refine zTL ?_;unfold HT.sIx;simp;omega
        have U:=zA b2 (.lst (cutV us none (some 4)));refine(jEEA c2 _ rfl (.inl ⟨zC ups,λt ht=>?_⟩));have s2:=zA ht (.tup (cutV us none (some 4)));refine k _ ps _ (F.same (U.trans s2)) (xaw t us rfl (by rw[ao];exact ups) (I.same (U.trans s2) _)) (by omega) (by rw[g];exact a7) ?_ ab (by omega);intro ha e;have h9:=b3 ha;rw[e]at g;simp only[List.length_nil]at g;omega
def xox:Sp:=λvs H Q _=>∃(f nb:Addr) (p q:Int) (nms:List Str),vs=[.ref f,.ref nb]/\H f=some (.lst [.int p,.int q])/\H nb=some (.lst (nms.map V.str))/\xk8 nms/\nb≠f/\∀v ks (H':Hp),Fed f H H'->RelD H' v (xef ks)->xwh nms ks->Fit ks->Q v H'
theorem xpn(T:Tx K mg)(a:DefIs P w K mg base n "_law_take" qae xcw)(g:DefIs P w K mg base n "_law_parts" qa2 xld):DefIs P w K mg base (n+1) "_law_kinds" qbf xox:=by
 refine DefIs.of T.j5 scl_kinds (by walk_at"l") (λf aq A outer s H vs Q E hr h=>?_);obtain⟨G,nb,p,q,j,rfl,hf,ag,J,nf,k⟩:=h;have nd:=scl_kinds.nd
 refine⟨_,(zpn (psn 2 nd (xcd pN))
   (zpn (xb5 zF rfl (xcb rfl T.uA (pc (pd a hr (va 0 (pc pI pN zso))) pN zsc)) (pgn 3 nd)
   (zpn (psn 4 nd (pxl K (xcd (pc pS (pc pS pN zso) zso)) (pd a hr (va 0 (pc pI pN zso)))))
   (zpo (xbp (xds zD zH zG xb0 (pv 2) (pc (xa2 (pc (pxl K (pv 1) (pv 3)) (va 4 (pc (pd g hr (va 0 (va 2 (va 4 (pc (xes xik (pv 1) (xeg pI) (xeg pI)) pN ss))))) pN zsc)) ss)) pN zsT))))))
   (zpo (xaf (xau (xbx (K:=K) rfl) rfl T.uC zK (v1 2)))))),?_⟩
 refine⟨(by walk_at"s"),λl hl=>?_⟩;have s0:=zA hl (.lst []);have lf:l≠G:=Ne.symm (neN hf hl);have a0:=J.1;refine(xaa _ rfl G p q 5 rfl (s0 _ _ hf) (by decide) (by decide) (λr1 H1 al ak f1=>(xb8 _ rfl (by omega) (by omega) ?_)));have F1:Fed G H H1:=⟨s0.but.trans f1.1,f1.2⟩;have af:H1 l=some (.lst []):=f1.1 _ _ ups lf
 refine xdi (λi σ H'=>∃us,∃ks:List Kn,∃o3 o4,σ=[some (.ref G),some (.ref nb),some (.ref l),o3,o4]/\Fed G H H'/\H' l=some (.lst us)/\RelDs H' us (ks.map Kn.d)/\ks.length=i/\Fit ks/\xwh j ks)
  (xap ([]) ([]) none none rfl F1 af rfl rfl (jAAA Fit.nil KWf.nil (qL _) ⟨rfl,λ_ h=>nomatch h⟩)) ?_ ?_
 ·rintro i σ H2 hi ⟨us,ks,o3,o4,rfl,F,a3,I,M,C,wf,an,ai,ah⟩
  have ao:i<4:=by omega
  have ac:=I.length;rw[zLM]at ac;obtain⟨p2,q2,h2⟩:=F.2;refine⟨(by walk_at"s"),λl1 a7=>?_⟩;have U:=zA a7 (.lst [.str (S "rec"),.str (S "alt")]);have aa:l1≠G:=Ne.symm (neN h2 a7);refine(xaa _ rfl G p2 q2 2 rfl (U _ _ h2) (by decide) (by decide) (λr H3 r0 am f3=>?_))
  have ab:∃b:Str,atI [V.str (S "rec"),V.str (S "alt")] r=some (.str b)/\(b=S "rec"\/b=S "alt"):=by
   rcases(show r=0\/r=1 by omega) with rfl |rfl
   ·exact(jEA (S "rec") rfl (.inl rfl))
   ·exact(jEA (S "alt") rfl (.inr rfl))
  obtain⟨b,aj,u⟩:=ab;refine(xah l1 _ _ _ rfl rfl (zC (f3.1 _ _ ups aa)) aj ?_);have F3:Fed G H H3:=(F.same U).trans f3;obtain⟨p3,q3,h3⟩:=f3.2;have y:=f3.1 _ _ (U _ _ a3) lf;have Y:=(I.same U _).tups (xai (jEE p2 q2 (U _ _ h2)) f3) _;have a6:=F3.1 nb _ ag nf;have O:i<j.length:=by omega
  refine(xa5 _ rfl (.inl (jAE rfl _ (zC y))) _ rfl (xaa _ rfl nb _ _ _ rfl rfl (zC a6) (xmn O) (jEA _ rfl ?_)));refine(xa1 _ rfl _ rfl _ rfl _ rfl _ rfl (xar _ rfl nb _ rfl (zC a6) (λc hc=>?_)));rw[xwe a0];have sc:=zA hc (.lst (((j.drop 8).take 4).map V.str));have cf:c≠G:=Ne.symm (neN h3 hc);refine(xal G l c b p3 (xap q3 us ks ((j.drop 8).take 4) rfl (sc _ _ h3) (sc _ _ y) (Y.same sc _) wf (jAAA ups (by rw[List.length_take,List.length_drop,a0];rfl) u (jAA lf cf (λv ps H4 f4 rv h4 a2 a8 Z a5=>?_)))));have F4:Fed G H H4:=(F3.same sc).trans f4;have m:=f4.1 _ _ (sc _ _ y) lf;have a4:=(Y.same sc _).tups (xai (jEE p3 q3 (sc _ _ h3)) f4) _;refine⟨(by walk_at"s"),λt ht=>?_⟩;have s5:∀o,Same H4 (upd H4 t o):=λo=>zA ht o;refine(xa6 l us _ rfl rfl (s5 _ _ _ m) (xa3 (by omega)) ?_);have a9:=xw5 J ps.length
  have a1:(Kn.mk j[i] (decide (b=S "rec")) ps).sort=b:=by
   unfold Kn.sort;rcases u with rfl |rfl
   ·rfl
   ·show(if decide (S "alt"=S "rec")=true then _ else _)=_
    rw[if_neg (by walk_at"k")]
  have x:ks.map Kn.name=j.take i:=by rw[ai,M]
  have w2:KWf (ks++[Kn.mk j[i] (decide (b=S "rec")) ps]):=by
   refine wf.snoc ?_ (J.2.2 _ (qM O)) Z ?_ (by omega) (by show ps.length<=5;omega) (by show(ps.map (·.1)).Nodup;rw[a2];exact a9.1) (λz hz=>a9.2 z.1 (by rw[<- a2];exact qD hz))
   ·show j[i] ∉ks.map Kn.name
    rw[x];exact xpu J.2.1 O
   ·intro ae
    refine a8 ?_;rcases u with e |e
    ·exact absurd ae (by show ¬decide (b=S "rec")=false;rw[e];decide +kernel)
    ·exact e
  refine(xap _ (ks++[Kn.mk j[i] (decide (b=S "rec")) ps]) _ _ rfl (Fed.put (F4.same (s5 _)) hl lf _) ups ?_ (by rw[zLA,List.length_singleton,M]) ⟨C.snoc wf w2 Z (xrz wf a5),?_⟩)
  ·rw[zAP]
   refine RelDs.append ((a4.same (s5 _) _).tups (xc5 (s5 _ _ _ m) _) _) ?_;refine(xaw _ ([]) rfl (xat t _ rfl (xc5 (s5 _ _ _ m) _ _ _ ups) _ _ rfl rfl _ (xbu _ rfl ?_ _ _ rfl ((rv.same (s5 _) _).tups (xc5 (s5 _ _ _ m) _) _) rfl)) rfl);show V.str b=V.str _;rw[a1]
  ·refine(jAAA w2 (by rw[zLA,List.length_singleton];omega) ?_ ?_)
   ·rw[zAP,x,zLA,List.length_singleton,M,zTA,zGA O]
    rfl
   ·intro z hz
    rcases zMA hz with hz |hz
    ·exact ah z hz
    ·rw[zMO hz]
     exact⟨h4,a2⟩
 ·rintro σ H2 ⟨us,ks,o3,o4,rfl,F,a3,I,M,C,hK⟩
  refine(jEA _ rfl (jEEA l us rfl (.inl ⟨zC a3,λt ht=>?_⟩)));have U:=zA ht (.tup us);exact k _ ks _ (F.same U) (xaw t us rfl ups (I.same U _)) hK C
def xmt:Sp:=λvs H Q _=>∃(a:Addr) (p q:Int),vs=[.ref a]/\H a=some (.lst [.int p,.int q])/\∀(i:Int) (H':Hp),Nm i->Fed a H H'->Q (.int i) H'
theorem xeu(T:Tx K x)(b:DefIs P w K x base n "_law_take" qae xcw):DefIs P w K x base (n+1) "_law_number" qax xmt:=by
 refine DefIs.of T.j0 scl_number (λvs H Q E h=>?_) (λf I A outer s H vs Q E j h=>?_)
 ·obtain⟨a,p,q,rfl,_⟩:=h
  rfl
 obtain⟨a,p,q,rfl,G,k⟩:=h;have nd:=scl_number.nd;have M:(2:Int) ^ (32:Int).toNat=4294967296:=by decide
 refine⟨_,(zpn (psn 1 nd (pd b j (va 0 (pc pI pN zso))))
   (zpn (xba (pR xgy (pv 1) pI (nM _)) (zpo (xaf (pd b j (va 0 (pc pI pN zso))))) pQ)
   (zpn (xba (pR xbf (pv 1) pI (nM _)) (zpo (xaf (xaq xc1 (xaq xc1 (xaq xso pI pI) pI) (pd b j (va 0 (pc pI pN zso)))))) pQ)
   (zpo (xaf (pd b j (va 0 (pc (xaq xso pI pI) pN xa8)))))))),?_⟩
 refine(xaa _ rfl a p q 4 rfl G (by decide) (by decide) (λJ O C z l=>?_));obtain⟨o,m,r⟩:=l.2;refine(xbl _ rfl _ _ rfl rfl _ rfl ?_);refine ite2 (λc=>?_) (λc=>?_)
 ·exact(xaa _ rfl a o m 6 rfl r (by decide) (by decide) (λu y e g i=>k _ _ ⟨e,by omega⟩ (l.trans i)))
 refine(xa5 _ rfl rfl _ rfl ?_);refine ite2 (λc=>?_) (λc=>?_)
 ·refine(xb9 _ _ rfl rfl (jAA (by decide) (by decide) (by decide)) (xaw _ _ rfl rfl (xaa _ rfl a o m 6 rfl r (by decide) (by decide) (λu y e g i=>(xaw _ _ rfl rfl (k _ _ ⟨by omega,by omega⟩ (l.trans i)))))))
 ·refine(xar _ rfl _ _ rfl rfl (jAEE (jAA (by decide) (by decide) (by decide)) a o (xci m _ rfl r (by omega) (by omega) (λu y e g i=>k _ _ ⟨e,by omega⟩ (l.trans i)))))
theorem xab{t u:TS}{D:Ends}{σ:St}{H:Hp}(h:∀R:St->Hp->Prop,(∀σ H,u D σ H->R σ H)->t {D with nx:=R} σ H):tSeq t u D σ H:=h (u D) λ_ _ h=>h
theorem xer{k:Kn}(h:k.rc=true):k.sort=S "rec":=by unfold Kn.sort;rw[if_pos h]
theorem xez{k:Kn}(h:k.rc=false):k.sort=S "alt":=by unfold Kn.sort;rw[if_neg (by rw[h];decide)]
def spSm(F:List Kn->Str->Int)(m:Nat):Sp:=λvs H Q _=>∃v ks x,vs=[v,.str x]/\RelD H v (xef ks)/\KWf ks/\KIn ks m x/\∀H',Same H H'->Q (.int (F ks x)) H'
theorem xj3 (T:Tx K mg) (U:Sp) (g:DefIs P w K mg base n "_law_sort_of" qad xft) (c:DefIs P w K mg base n "_law_small" qad U) (a0:∀j,m=j+1->U=spSm smK j) :
  DefIs P w K mg base (n+1) "_law_small" qad (spSm smK m):=by
 refine DefIs.of T.j3 scl_small (by walk_at"l") (λf a5 A outer s H vs Q E hr h=>?_);obtain⟨v,ks,x,rfl,hk,C,a2,q⟩:=h;have nd:=scl_small.nd
 refine⟨_,(zpn (xdw (pd g hr (va 0 (v1 1))) (xbc (K:=K) rfl rfl (xad (pgn 2 nd) (xad (pgn 3 nd) xbb))))
   (zpn (xba (pR xbf (pv 2) pS (nM _)) (zpo (xaf (xaq xbk pI (pd c hr (va 0 (pc (px K (px K (pv 3) pI) pI) pN ss)))))) pQ)
   (zpo (xaf (xaq xbk pI (xax (xkz rfl) rfl T.uB PyProof.Rows.boot_sum (pc (xbh ["_law_name","_law_part","_law_kinds_here"] [none,none,some 0] rfl (by kernel_rfl) (xas (K:=K) rfl (pv 3)) (λ_ _ _ _=>(xbc (K:=K) (n:=2) rfl rfl (xad (pgc 0) (xad (pgc 1) xbb)))) (λ_ _ _ _=>xbo) (λ_ _ _ _=>(pd c hr (va 2 (v1 1))))) pN xbt))))))),?_⟩
 refine(xc3 _ rfl _ rfl v ks x rfl ((C.ksAt hk).seq) (λt a4 H1 Y ht M=>?_));refine(xay t _ rfl (zB ht) rfl _ _ rfl _ (jEAA _ rfl rfl ?_));rcases a2.look C with⟨rfl,o⟩ |⟨j,k,rfl,o,hn,hm,hp⟩
 ·refine(xa5 _ rfl rfl _ rfl (iteKF (zDF (by rw[o];decide +kernel)) ?_))
  rw[o]at M;obtain⟨a,us,rfl,O,l⟩:=M;obtain rfl:us=[]:=l;refine(xbi _ rfl a rfl ⟨_,zB O⟩ ?_);refine xbj (xs:=[]) (λi ys G=>G=H1/\ys=[]) ⟨rfl,rfl⟩ (xa3 (by decide)) (λi ys G _ p=>by obtain⟨rfl,_⟩:=p;exact zB O) (λi y ys G hy=>by simp at hy) ?_;rintro ys G J ⟨rfl,rfl⟩ D hD;refine(xci D ([]) rfl (zC ups) (λ_ h=>nomatch h) (by decide) (xaw _ _ rfl rfl ?_));have e:=(xo2 C).1;rw[e]at q;exact q _ (Y.trans (zA hD _))
 ·have D':=a0 j rfl
  subst D';rw[o]at M;obtain⟨a,us,rfl,O,l⟩:=M;have hl:=l.length;rw[zLM]at hl;have h5:=C.pts k hm;have Z:xgu (kAt ks x)=k.sort:=by rw[o];rfl
  have e:=(xu4 C o).1;unfold smS at e
  cases hc:k.rc with
  | false=>
   rw[if_neg (by rw[hc];decide)]at e;refine(xa5 _ rfl rfl _ rfl (iteKT (zDT (by rw[Z,xez hc];rfl)) ?_))
   cases I:k.parts with
   |nil=>exact absurd I (C.alt k hm hc)
   |cons p r=>
    rw[I]at l e;obtain⟨vp,rest,rfl,M,_⟩:=l;obtain⟨b,ws,rfl,hb,_,_,rfl,rfl,_,_,rfl,rfl,rfl⟩:=M;refine(xan _ rfl _ rfl a _ _ (xbm _ rfl rfl (zB O) (xam (j:=0) rfl) (xah b _ _ _ rfl rfl (zB hb) rfl ?_)));refine(xa6 v ks p.2 rfl (hk.same Y _) C (hp p (by rw[I];simp)) (λH2 s2=>(xaw _ _ rfl rfl ?_)));rw[e]at q;exact q _ (Y.trans s2)
  | true=>
   rw[if_pos hc]at e;refine(xa5 _ rfl rfl _ rfl (iteKF (zDF (by rw[Z,xer hc];decide +kernel)) ?_));refine(xbi _ rfl a rfl ⟨_,zB O⟩ ?_);refine xbj (xs:=us) (λi ys G=>Same H1 G/\ys=((k.parts.take i).map λp=>smK ks p.2).map V.int) ⟨Same.refl _,rfl⟩ (xa3 (by omega)) (λi ys G _ p=>zB (p.1 _ _ O)) ?_ ?_
   ·rintro i y ys G hy a3 J ⟨u,rfl⟩
    obtain⟨d,hd,rd⟩:=l.get hy;rw[zGM]at hd;obtain⟨pr,a1,rfl⟩:=zMS hd;obtain⟨b,ws,rfl,hb,_,_,rfl,rfl,_,_,rfl,rfl,rfl⟩:=rd;refine(xay b _ rfl (zB (u _ _ hb)) rfl _ _ rfl _ (xb8 _ rfl rfl (ext2 rfl rfl) (xdn ?_)));refine(xbq _ rfl _ rfl v ks pr.2 rfl (hk.same (Y.trans u) _) C ⟨hp pr (zMG a1),λH2 s2=>nxtG a3 J ⟨u.trans s2,?_⟩⟩);rw[zTA,a1,zAP,zAP];rfl
   ·rintro ys G J ⟨u,rfl⟩ D hD
    rw[zTL (by omega)];refine(xci D (k.parts.map λp=>smK ks p.2) rfl (zC ups) (λz hz=>?_) (by rw[zLM];omega) (xaw _ _ rfl rfl ?_))
    ·obtain⟨p,_,rfl⟩:=zMP hz
     have:=xmx C p.2;omega
    ·rw[e]at q
     exact q _ (Y.trans (u.trans (zA hD _)))
theorem xii(T:Tx K a):∀m,DefIs P w K a base (m+2) "_law_small" qad (spSm smK m)
 |0=>xj3 (n:=1) T (λ_ _ _ _=>False) (xcq T) (DefIs.none T.j3 λ_ _ _ _ h=>h) (λj e=>by cases e)
 |m+1=>xj3 (n:=m+2) T (spSm smK m) (xcq T) (xii T m) (λj e=>by cases e;rfl)
def xq9:Sp:=λvs H Q _=>∃(f ka:Addr) (p q:Int) (us:List V) (ks:List Kn),vs=[.ref f,.ref ka]/\H f=some (.lst [.int p,.int q])/\(H ka=some (.lst us)\/H ka=some (.tup us))/\RelDs H us (ks.map Kn.d)/\ks.length<=6/\∀x H',KIn ks ks.length x->Fed f H H'->Q (.str x) H'
theorem xj8(T:Tx K mg)(c:DefIs P w K mg base n "_law_take" qae xcw):DefIs P w K mg base (n+1) "_law_any_kind" qao xq9:=by
 refine DefIs.of T.kB scl_any_kind (by walk_at"l") (λf a3 A outer s H vs Q E hr h=>?_);obtain⟨f',ka,p1,q1,us,ks,rfl,Y,a,I,a2,q⟩:=h;have nd:=scl_any_kind.nd;refine(jEA _ (zpo (xaf (pxl K (xaq xfx (xcd (pc pS pN zso)) (xbh ["_law_row"] [none] rfl (by kernel_rfl) (xve (xbv (K:=K) rfl (pv 1)) (xas (K:=K) rfl (pv 1))) (λ_ _ _ _=>(pgc 0)) (λ_ _ _ _=>xbo) (λ_ _ _ _=>(px K (pv 0) pI)))) (pd c hr (va 0 (pc (xaq xbk pI (xax (xag (K:=K) rfl) rfl T.kY zE (v1 1))) pN xa8)))))) ?_);refine⟨(by walk_at"s"),λl2 a1=>?_⟩;have o:=zA a1 (.lst [.str (S "num")]);have J:=I.length;rw[zLM]at J;rcases a with a |a
 ·refine .inl (xbi _ rfl ka rfl ⟨_,zC (o _ _ a)⟩ ?_)
  refine xkw (j:=0) (xs:=us) (λi ys u=>u=upd H l2 (.lst [.str (S "num")])/\ys=((ks.take i).map Kn.name).map V.str) (by rfl) ⟨rfl,rfl⟩ (xa3 (by omega)) (λi ys u _ p=>by obtain⟨rfl,_⟩:=p;exact zC (o _ _ a)) ?_ ?_
  ·rintro i' x ys u r l ⟨rfl,rfl⟩
   obtain⟨d,hd,rd⟩:=(I.same o _).get r;rw[zGM]at hd;obtain⟨k',M,rfl⟩:=zMS hd;obtain⟨b,a0,rfl,hb,_,_,rfl,rfl,_,_,rfl,rfl,v3,_,rfl,r3,rfl⟩:=rd;have O:i'<us.length:=(zES r).1;refine(xaa _ rfl b _ _ _ rfl rfl (zB hb) rfl (nxt O l ⟨rfl,?_⟩));rw[zTA,M];simp
  rintro ys u l ⟨rfl,rfl⟩ D2 U;rw[zTL (by omega)];have y:=zA U (.lst ((ks.map Kn.name).map V.str));refine(xap l2 D2 _ _ rfl rfl (y _ _ ups) ups (fits (by rw[zLM,zLM];show 1+_<=_;omega)) (λZ m=>?_));have s4:=zA m (.lst ([.str (S "num")]++(ks.map Kn.name).map V.str));have e:=o.trans (y.trans s4);have G:Z≠f':=Ne.symm (neN ((o.trans y) _ _ Y) m);refine(xbg _ rfl _ rfl ka _ rfl (.inl (zC (e _ _ a))) _ (jEAA _ rfl rfl (xah f' p1 q1 _ rfl (e _ _ Y) (by omega) (by omega) (λr5 H5 C z f5=>?_))));obtain⟨x,r,g⟩:=xi0 (ks:=ks) C (by rw[<- J];exact z);exact(xah Z _ _ _ rfl rfl (zC (f5.1 _ _ ups G)) r (q x _ g (((Fed.refl Y).same e).trans f5)))
 ·refine .inr (xbi _ rfl ka rfl ⟨_,zB (o _ _ a)⟩ ?_)
  refine xgj (j:=0) (xs:=us) (λi ys u=>u=upd H l2 (.lst [.str (S "num")])/\ys=((ks.take i).map Kn.name).map V.str) (by rfl) ⟨rfl,rfl⟩ (xa3 (by omega)) (λi ys u _ p=>by obtain⟨rfl,_⟩:=p;exact zB (o _ _ a)) ?_ ?_
  ·rintro i' x ys u r l ⟨rfl,rfl⟩
   obtain⟨d,hd,rd⟩:=(I.same o _).get r;rw[zGM]at hd;obtain⟨k',M,rfl⟩:=zMS hd;obtain⟨b,a0,rfl,hb,_,_,rfl,rfl,_,_,rfl,rfl,v3,_,rfl,r3,rfl⟩:=rd;have O:i'<us.length:=(zES r).1;refine(xaa _ rfl b _ _ _ rfl rfl (zB hb) rfl (nxt O l ⟨rfl,?_⟩));rw[zTA,M];simp
  rintro ys u l ⟨rfl,rfl⟩ D2 U;rw[zTL (by omega)];have y:=zA U (.lst ((ks.map Kn.name).map V.str));refine(xap l2 D2 _ _ rfl rfl (y _ _ ups) ups (fits (by rw[zLM,zLM];show 1+_<=_;omega)) (λZ m=>?_));have s4:=zA m (.lst ([.str (S "num")]++(ks.map Kn.name).map V.str));have e:=o.trans (y.trans s4);have G:Z≠f':=Ne.symm (neN ((o.trans y) _ _ Y) m);refine(xbg _ rfl _ rfl ka _ rfl (.inr (zB (e _ _ a))) _ (jEAA _ rfl rfl (xah f' p1 q1 _ rfl (e _ _ Y) (by omega) (by omega) (λr5 H5 C z f5=>?_))));obtain⟨x,r,g⟩:=xi0 (ks:=ks) C (by rw[<- J];exact z);exact(xah Z _ _ _ rfl rfl (zC (f5.1 _ _ ups G)) r (q x _ g (((Fed.refl Y).same e).trans f5)))
theorem RelDs.rev{H:Hp}:∀{vs:List V} {ds:List D},RelDs H vs ds->RelDs H vs.reverse ds.reverse
 |vs,[],h=>by rw[show vs=[] from h];rfl
 |vs,d::ds,⟨v,r,e,b,a⟩=>by
  subst e;rw[List.reverse_cons,List.reverse_cons];exact(RelDs.rev a).append (xaw v ([]) rfl b rfl)
theorem xpv{α:Type}{l:List α}(h:l.Nodup):l.reverse.Nodup:=List.pairwise_reverse.mpr (h.imp λh=>Ne.symm h)
def bKV(bs:List (Str×Str)):List (Key×V):=bs.map λb=>(Sum.inr b.1,.str b.2)
theorem xm5{H:Hp}:∀{us:List V} {bs:List (Str×Str)},RelDs H us (bs.map xmd)->PairsV H us (bKV bs)
 |us,[],h=>by rw[show us=[] from h];trivial
 |us,b::bs,⟨v,r,e,g,f⟩=>by
  subst e;obtain⟨a,ws,rfl,c,_,_,rfl,rfl,_,_,rfl,rfl,rfl⟩:=g;exact⟨(jEA a rfl c),xm5 f⟩
theorem xog{a b c d r:V}{i j:Int}(h:i=j):[a,b,c,d,r,V.int i]=[a,b,c,d,r,V.int j]:=by rw[h]
theorem xg5{ks:List Kn}(a:KWf ks){k:Kn}(h:k∈ks){p:Str×Str}(b:p∈k.parts):KIn ks 6 p.2:=by
 obtain⟨i,hi,e⟩:=zMI h;have:=a.few;exact KIn.mono (n:=i) (a.ref i k (by rw[<- e];exact zGA hi) p b) (by omega)
def spTw(c:Nat):Sp:=λvs H Q _=>∃(f:Addr) (kv bv:V) (ks:List Kn) (bs:List (Str×Str)) (x:Str) (room:Int) (m j:Nat),vs=[.ref f,kv,bv,.str x,.int room,.int (m:Int)]/\c=7*m+j/\j<=6/\TIn H f kv bv ks bs (m+1)/\m<=7/\KIn ks j x/\smK ks x<=room/\∀a d H',Fed f H H'->RelD H' (.ref a) d->TmB ks (c+1) bs d x->Q (.ref a) H'
def xq8(c:Nat):Sp:=λvs H Q E=>∃c',c'<c/\spTw c' vs H Q E
def xo1:Sp:=λvs H Q _=>∃(f l:Addr) (p q:Int) (zs:List Str),vs=[.ref f,.ref l]/\H f=some (.lst [.int p,.int q])/\H l=some (.lst (zs.map V.str))/\zs≠[]/\zs.length<=100/\l≠f/\∀z t H',z∈zs->Fed f H H'->RelD H' (.ref t) (tBox z)->Q (.ref t) H'
def xlk(m:Nat):Sp:=λvs H Q _=>∃(f:Addr) (kv bv pvv:V) (ks:List Kn) (bs ps:List (Str×Str)) (x:Str) (room:Int),vs=[.ref f,kv,bv,pvv,.str x,.int room,.int ((m+1:Nat):Int)]/\TIn H f kv bv ks bs (m+2)/\m<7/\RelD H pvv (xee ps)/\ps≠[]/\ps.length<=5/\(ps.map (·.1)).Nodup/\(∀p∈ps,KIn ks 6 p.2)/\KIn ks 6 x/\smK ks x*(ps.length:Int)<=room ∧
 ∀(u:V) (rs:List (Str×Str×D)) (H':Hp),Fed f H H'->RelD H' u (.tup (rs.map dArm))->rs.length=ps.length->(∀r∈rs,∃p∈ps,p.1=r.1)->(rs.map (·.1)).Nodup->(∀p∈ps,∃z e,(p.1,z,e)∈rs/\(∀q∈bs,q.1≠z)/\ArmN ks z/\TmB ks (7*m+7) (bs++[(z,p.2)]) e x)->Q u H'
theorem xpq(T:Tx K g)(a:DefIs P w K g base n "_law_take" qae xcw):DefIs P w K g base (n+1) "_law_boxed" qa3 xo1:=by
 refine DefIs.of T.j6 xo5 (by walk_at"l") (λf M A outer s H vs Q E G h=>?_);obtain⟨J,l,p,x,zs,rfl,I,j,e,m,y,q⟩:=h;refine(jEA _ (zpo (xaf (xa2 (pc pS (pc (pxl K (pv 1) (pd a G (va 0 (pc (xax (xag (K:=K) rfl) rfl T.kY zE (v1 1)) pN zsc)))) pN ss) zso)))) ?_);have z:0<zs.length:=List.length_pos_iff.mpr e;have c:(zs.map V.str).length=zs.length:=zLM _;refine(xa0 _ rfl _ rfl _ rfl l _ rfl (.inl (zC j)) (xah J p x _ rfl I (by rw[c];omega) (by rw[c];omega) (λr U O u o=>?_)));rw[c]at u;obtain⟨i,rfl⟩:∃i:Nat,r=(i:Int):=⟨r.toNat,by omega⟩;have b:i<zs.length:=by omega
 refine(xap l _ _ (.str zs[i]) rfl rfl (zC (o.1 _ _ j y)) (xam (by rw[zGM,zGA b];rfl)) (by walk_at"s") (λt C=>?_));have st:=zA C (.tup [.str (S "box"),.str zs[i]]);exact q zs[i] t _ (qM b) (o.same st) (xat t _ rfl ups _ _ rfl rfl _ (jEAA _ rfl rfl rfl))
theorem xrm(T:Tx K mg){c:Nat}(hc:7*m+6<c)(l:DefIs P w K mg base n "_law_take" qae xcw)(g:DefIs P w K mg base n "_law_term" qah (xq8 c)):DefIs P w K mg base (n+1) "_law_arms" qbg (xlk m):=by
 refine DefIs.of T.j7 scl_arms (by walk_at"l") (λf bc A outer s H vs Q E hr h=>?_);obtain⟨f',kv,bv,ba,ks,bs,ps,x,y,rfl,U,m8,ax,b0,h5,ag,ay,ab,a5,q⟩:=h;have nd:=scl_arms.nd;have hu:=xd2 hr
 refine⟨_,(zpn (psn 7 nd (xcd pN))
   (zpn (psn 8 nd (xaq xcs (pv 5) (xax (xag (K:=K) rfl) rfl T.kY zE (v1 3))))
   (zpn (xb5 zF rfl (xas (K:=K) rfl (pv 3)) (xbc (K:=K) rfl rfl (xad (pgn 9 nd) (xad (pgn 10 nd) xbb)))
   (zpn (psn 11 nd (xaq xet pS (xn3 xnc pS (pv 6) (λ_ _=>rfl))))
   (zpo (xbp (xds zD zH zG xb0 (pv 7) (pc (xa2 (va 9 (va 11 (pc (pd g hr (va 0 (va 1 (pc (xaq xfx (pv 2) (xcd (pc (xa2 (va 11 (v1 10))) pN zsT))) (va 4 (va 8 (pc (xaq xc1 (pv 6) pI) pN xa8))) xa8)))) pN zsc)))) pN zsT))))))
   (zpn (xba (pR xbf (pd l hr (va 0 (pc pI pN zso))) pI (nM _)) (zpo (xbp (xvi zD PySem.F.slot_list_reverse PySem.F.type_list_reverse xn6 (pv 7)))) pQ)
   (zpo (xaf (xau (xbx (K:=K) rfl) rfl T.uC zK (v1 7)))))))),xab λR1 b7=>?_⟩
 refine⟨(by walk_at"s"),λal Z=>?_⟩;have s0:=zA Z (.lst []);obtain⟨p0,q0,hf⟩:=U.fd;have O:al≠f':=Ne.symm (neN hf Z);obtain⟨pa,us,rfl,a9,ae⟩:=ax;have hl:=ae.length;rw[zLM]at hl;have b8:0<ps.length:=List.length_pos_iff.mpr b0;have a8:(0:Int)<(us.length:Int):=by omega
 have b2:(((m+1:Nat):Int))-1=(m:Int):=by omega
 have aa:smK ks x<=y / (us.length:Int):=by
  refine(Int.le_ediv_iff_mul_le a8).mpr ?_;rw[hl];exact a5
 refine b7 _ _ (xab λR2 b6=>?_);refine(xbg _ rfl _ rfl pa _ rfl (.inr (zB (s0 _ _ a9))) _ (xb8 _ rfl rfl ⟨by omega,by omega⟩ ?_));refine b6 _ _ (xab λR3 b5=>?_);refine(xbi _ rfl pa rfl ⟨_,zB (s0 _ _ a9)⟩ ?_)
 refine xcz (xs:=us) (λi σ H'=>∃(ws:List V) (rs:List (Str×Str×D)) (o8 o9 a3:Option V),σ=[some (.ref f'),some kv,some bv,some (.ref pa),some (.str x),some (.int y),some (.int ((m+1:Nat):Int)),some (.ref al),some (.int (y / (us.length:Int))),o8,o9,a3]/\Fed f' H H'/\H' al=some (.lst ws)/\RelDs H' ws (rs.map dArm)/\rs.map (·.1)=(ps.take i).map (·.1)/\∀p∈ps.take i,∃z e,(p.1,z,e)∈rs/\(∀q∈bs,q.1≠z)/\ArmN ks z/\TmB ks (7*m+7) (bs++[(z,p.2)]) e x)
  (xaj ([]) ([]) none none none rfl ((Fed.refl hf).same s0) ups rfl rfl (λp C=>by rw[List.take_zero]at C;exact nomatch C)) (λi σ H' _ p=>?_) ?_ ?_
 ·obtain⟨_,_,_,_,_,_,G,_⟩:=p
  exact zB (xai U.fd G _ _ a9)
 ·rintro i vv σ H1 ac ⟨ws,rs,o8,o9,a3,rfl,G,J,I,o,M⟩
  have tp:=xai U.fd G;obtain⟨d,hd,rd⟩:=ae.get ac;rw[zGM]at hd;obtain⟨pr,a7,rfl⟩:=zMS hd;obtain⟨b,wz,rfl,hb,_,_,rfl,rfl,_,_,rfl,rfl,rfl⟩:=rd;have az:=zMG a7;have bb:i<us.length:=(zES ac).1;have ar:=I.length
  have a6:rs.length<=5:=by
   have:=congrArg List.length o;rw[zLM,zLM,List.length_take]at this;omega
  rw[zLM]at ar;refine(xay b _ rfl (zB (tp _ _ hb)) rfl _ _ rfl _ (jEAA _ rfl rfl (xab λR4 b4=>?_)));have e2:(Str.ofString "by").length=2:=by walk_at"k"
  refine(jEA _ rfl (xa6 _ _ _ rfl rfl (by walk_at"k") (xr5 (i:=m+1) (by omega)) (xb9 _ _ rfl rfl (fits (by rw[e2];show 2+1<=_;decide)) ?_)));rw[show Str.ofString "by"++(⟨#[97+(m+1)]⟩:Str)=byN (m+1) from xsb (m+1)];have hy:∀b∈bs,b.1≠byN (m+1):=λb hb=>U.fr b hb (m+1) (by omega);have aq:∀j,j<m+1->byN (m+1)≠byN j:=λj hj e=>by have:=xug e;omega
  have t3:=U.fed G;obtain⟨bd,ak,e3,ai,a0,b9⟩:=t3.bx;cases e3;obtain⟨p3,q3,h3⟩:=G.2;refine b4 _ _ ?_;refine(xa5 _ rfl (.inl (jAE rfl _ (zC J))) _ rfl (xa1 _ rfl _ rfl _ rfl _ rfl _ rfl (jEAA _ rfl (by walk_at"s") (λt1 aw=>⟨(by walk_at"s"),λl1 b1=>?_⟩))));have y1:=zA aw (.tup [.str (byN (m+1)),.str pr.2]);have y2:=zA b1 (.lst [.ref t1]);have af:=a0.length;rw[zLM]at af;have b3:=U.bl;refine(xap _ l1 _ _ rfl rfl ((y1.trans y2) _ _ ai) ups (fits (by show _+1<=_;omega)) (λl2 ah=>?_));have y3:=zA ah (.lst (ak++[.ref t1]));have a2:=y1.trans (y2.trans y3);have t4:=t3.same a2;have ao:l2≠f':=Ne.symm (neN ((y1.trans y2) _ _ h3) ah);refine(xa0 _ rfl _ rfl _ rfl _ _ rfl rfl (xaz (7*m+6) hc f' kv (.ref l2) ks (xaj (bs++[((byN (m+1)),pr.2)]) x (y / (us.length:Int)) m 6 (xog b2) rfl (by decide) ⟨t4.fd,t4.kd,t4.wf,t4.nb,(xb9 l2 _ rfl ups ?_ ao),?_,?_,?_,?_⟩ (by omega) (jAA ab aa (λu dd H6 f6 ru au=>?_)))))
  ·rw[zAP]
   exact(a0.same a2 _).append (xaw _ ([]) rfl (xat t1 _ rfl ((y2.trans y3) _ _ ups) _ _ rfl rfl _ (jEAA _ rfl rfl rfl)) rfl)
  ·rw[zAP]
   exact xly U.nd λhm=>by
    obtain⟨b',a,e'⟩:=zMP hm;exact hy b' a e'
  ·rw[zLA,List.length_singleton]
   omega
  ·intro b' a j hj
   rcases zMA a with a |a
   ·exact U.fr b' a j (by omega)
   ·rw[zMO a]
    exact aq j hj
  ·intro b' a
   rcases zMA a with a |a
   ·exact U.kn b' a
   ·rw[zMO a]
    exact ay pr az
  refine⟨(by walk_at"s"),λt6 av=>?_⟩;have F6:Fed f' H1 H6:=((Fed.refl h3).same a2).trans f6;have st:=zA av (.tup [.str pr.1,.str (byN (m+1)),.ref u]);have Y:=st _ _ (F6.1 _ _ J O);have am:=(I.tups (xai G.2 F6) _).same st _;refine(xa6 al ws _ rfl rfl Y (xa3 (by omega)) (xaj _ (rs++[(pr.1,(byN (m+1)),dd)]) _ _ _ rfl (Fed.put ((G.trans F6).same st) Z O _) ups ?_ ?_ (λp C=>?_)))
  ·rw[zAP]
   exact(am.tups (xc5 Y _) _).append (xaw _ ([]) rfl (xat t6 _ rfl (xc5 Y _ _ _ ups) _ _ rfl rfl _ (xbu _ rfl rfl _ _ rfl ((ru.same st _).tups (xc5 Y _) _) rfl)) rfl)
  ·rw[zAP,o,zTA,a7,zAP]
   rfl
  ·rw[zTA,a7]at C
   rcases zMA C with C |C
   ·obtain⟨z,e,g1,g2,g3⟩:=M p C
    exact(xaw z e (zR _ g1) g2 g3)
   ·have ep:p=pr:=by simpa using C
    rw[ep];exact(xb9 (byN (m+1)) dd (zJ _ (by simp)) hy (.inl ⟨m+1,rfl⟩) au)
 ·rintro σ H1 ⟨ws,rs,o8,o9,a3,rfl,G,J,I,o,M⟩
  rw[zTL (by omega)]at o M
  have a6:rs.length=ps.length:=by
   have:=congrArg List.length o
   rwa[zLM,zLM]at this
  have a1:∀r∈rs,∃p∈ps,p.1=r.1:=λr hr=>by
   have:r.1∈rs.map (·.1):=qD hr;rw[o]at this;obtain⟨p,C,e⟩:=zMP this;exact(jEA p C e)
  obtain⟨p1,q1,h1⟩:=G.2;refine b5 _ _ (xab λR5 aj=>?_);refine(xaa _ rfl f' p1 q1 _ rfl h1 (by decide) (by decide) (λr H2 r0 r1 f2=>(jAEA rfl _ rfl (ite2 (λc=>?_) (λc=>?_)))))
  ·have a4:=f2.1 _ _ J O
   have an:=I.tups (xai G.2 f2) _;refine(xbu _ rfl (.inl (jAE rfl _ (zC a4))) al ws rfl rfl ⟨a4,?_⟩);refine aj _ _ ?_;refine(jEA _ rfl (jEEA al _ rfl (.inl ⟨zC ups,λt ht=>?_⟩)));have st:=zA ht (.tup ws.reverse);refine q _ rs.reverse _ ((Fed.put (G.trans f2) Z O _).same st) (xaw t _ rfl ups ?_) (by rw[List.length_reverse];exact a6) (λr hr=>a1 r (List.mem_reverse.mp hr)) ?_ λp C=>?_
   ·rw[List.map_reverse]
    exact(RelDs.rev (an.tups (xc5 a4 _) _)).same st _
   ·rw[List.map_reverse]
    exact xpv (by rw[o];exact ag)
   ·obtain⟨z,e,h1,h2,h3⟩:=M p C
    exact(xaw z e (List.mem_reverse.mpr h1) h2 h3)
  ·refine aj _ _ ?_
   refine(jEA _ rfl (jEEA al _ rfl (.inl ⟨zC (f2.1 _ _ J O),λt ht=>?_⟩)));have st:=zA ht (.tup ws);exact q _ rs _ ((G.trans f2).same st) (xaw t _ rfl ups ((I.tups (xai G.2 f2) _).same st _)) a6 a1 (by rw[o];exact ag) M
def PtAt(H:Hp)(ks:List Kn)(k:Kn)(room:Int)(w:V):Prop:=∃(b:Addr) (p:Str×Str),w=.ref b/\H b=some (.tup [.str p.1,.str p.2])/\p∈k.parts/\smK ks p.2<room
theorem PtAt.tups{H c:Hp}{ks:List Kn}{k:Kn}{a:Int}{w:V}(h:PtAt H ks k a w)(s:∀b us,H b=some (.tup us)->c b=some (.tup us)):PtAt c ks k a w:=by
 obtain⟨b,p,e,f,r⟩:=h;exact(xaw b p e (s _ _ f) r)
theorem xte{r:Int}(h0:0<=r)(h:r<5):∃c,atI (S "+-*<=").cps.toList r=some c/\Sg ⟨#[c]⟩:=by
 obtain⟨i,rfl⟩:∃i:Nat,r=(i:Int):=⟨r.toNat,by omega⟩;have hi:i=0\/i=1\/i=2\/i=3\/i=4:=by omega
 rcases hi with rfl |rfl |rfl |rfl |rfl
 ·exact(jEA 43 (xam (by walk_at"k")) (.inl (by walk_at"k")))
 ·exact(jEA 45 (xam (by walk_at"k")) (.inr (.inl (by walk_at"k"))))
 ·exact(jEA 42 (xam (by walk_at"k")) (.inr (.inr (.inl (by walk_at"k")))))
 ·exact(jEA 60 (xam (by walk_at"k")) (.inr (.inr (.inr (.inl (by walk_at"k"))))))
 ·exact(jEA 61 (xam (by walk_at"k")) (.inr (.inr (.inr (.inr (by walk_at"k"))))))
theorem xk7{α β:Type}{R:α->β->Prop}:∀{as:List α} {bs:List β} {a:α} {b:β},All2 R as bs->R a b->All2 R (as++[a]) (bs++[b])
 |_,_,_,_,.nil,h=>.cons h .nil
 |_,_,_,_,.cons h t,k=>.cons h (xk7 t k)
theorem xsw{ks:List Kn}:∀(n:Nat) (env:En) (d v:D),Evs ks n env d v->Evs ks (n+1) env d v
 |0,_,_,_,h=>.inl h
 |n+1,env,d,v,h=>by
  rcases h with h |⟨h,g⟩
  ·exact .inl h
  ·exact .inr ⟨h.mono (xsw n),g⟩
theorem xv8{ks:List Kn}{n m:Nat}(l:n<=m){env:En}{d v:D}(h:Evs ks n env d v):Evs ks m env d v:=by
 obtain⟨k,rfl⟩:∃k,m=n+k:=⟨m-n,by omega⟩;clear l
 induction k with
 |zero=>exact h
 |succ k a=>exact xsw _ _ _ _ a
theorem TmB.le{ks:List Kn}{n m:Nat}{bs:List (Str×Str)}{d:D}{x:Str}(h:TmB ks n bs d x)(l:n<=m):TmB ks m bs d x:=⟨λenv a=>by
 obtain⟨v,c,b⟩:=h.1 env a;exact(jEA v (xv8 l c) b),λenv a=>xw9 l (h.2 env a)⟩
theorem xhl (T:Tx K mg) {c:Nat} (G:DefIs P w K mg base n "_law_sort_of" qad xft) (o:DefIs P w K mg base n "_law_take" qae xcw) (I:DefIs P w K mg base n "_law_number" qax xmt) (l:DefIs P w K mg base n "_law_small" qad (spSm smK 6)) (g:DefIs P w K mg base n "_law_term" qah (xq8 c)) :
  DefIs P w K mg base (n+1) "_law_whole_term" qah (spTw c):=by
 refine DefIs.of T.j8 scl_whole_term (by walk_at"l") (λf bu A outer s H vs Q E hr h=>?_);obtain⟨Y,kv,bv,ks,bs,x,C,m,j,rfl,bt,bd,ti,m8,am,bb,q⟩:=h;have nd:=scl_whole_term.nd;have wf:=ti.wf;have an:KIn ks 6 x:=am.mono bd
 refine⟨_,(zpn (xdw (pd G hr (va 1 (v1 3))) (xbc (K:=K) rfl rfl (xad (pgn 6 nd) (xad (pgn 7 nd) xbb))))
   (zpn (xba (pR xbf (pv 6) pS (nM _)) (zpn (xba (PW.pt (xlo (pR xgy (pv 4) pI (nM _)) (xlo (pR xbf (pv 5) pI (nM _)) (xhx (pR xbf (pd o hr (va 0 (pc pI pN zso))) pI (nM _)))))) (zpo (xaf (xa2 (pc pS (pc (pd I hr (v1 0)) pN zsc) zso)))) pQ)
   (zpn (psn 8 nd (pd g hr (va 0 (va 1 (va 2 (pc pS (pc (xaq xcs (xaq xc1 (pv 4) pI) pI) (pc (xaq xc1 (pv 5) pI) pN xa8) xa8) zso))))))
   (zpn (psn 9 nd (pd g hr (va 0 (va 1 (va 2 (pc pS (pc (xaq xcs (xaq xc1 (pv 4) pI) pI) (pc (xaq xc1 (pv 5) pI) pN xa8) xa8) zso))))))
   (zpo (xaf (xa2 (pc pS (pc (xn3 xnc pS (pd o hr (va 0 (pc pI pN zso))) (λ_ _=>rfl)) (va 8 (v1 9)) ss) zso))))))) pQ)
   (zpn (xba (pR xbf (pv 6) pS (nM _)) (zpn (xc8 (i:=10) ["_law_part","_law_room","_law_kinds_here"] [none,some 4,some 1] rfl (by kernel_rfl) nd rfl (by walk_at"o") (xas (K:=K) rfl (pv 7)) (λ_ _ _ _=>(pgc 0)) (λ_ _ _ _=>(xdr (pR xgy (pd l hr (va 2 (pc (px K (pv 0) pI) pN ss))) (pv 1) (nM _)))) (λ_ _ _ _=>(pv 0)))
   (zpn (xdw (pxl K (pv 10) (pd o hr (va 0 (pc (xax (xag (K:=K) rfl) rfl T.kY zE (v1 10)) pN zsc)))) (xbc (K:=K) rfl rfl (xad (pgn 11 nd) (xad (pgn 12 nd) xbb))))
   (zpo (xaf (xa2 (pc pS (va 3 (va 11 (pc (pd g hr (va 0 (va 1 (va 2 (va 12 (pc (xaq xc1 (pv 4) pI) (v1 5) xa8)))))) pN zsc))) zso)))))) pQ)
   (zpn (psn 13 nd (xaq xc1 (pv 4) (pd l hr (va 1 (v1 3)))))
   (zpn (psn 14 nd (xcd pN))
   (zpn (xb5 zF rfl (xas (K:=K) rfl (pv 7)) (xbc (K:=K) rfl rfl (xad (pgn 15 nd) (xad (pgn 12 nd) xbb)))
   (zpo (xbp (xds zD zH zG xb0 (pv 14) (pc (pd g hr (va 0 (va 1 (va 2 (va 12 (pc (xaq xbk (pd l hr (va 1 (v1 12))) (xaq xcs (pv 13) (xax (xag (K:=K) rfl) rfl T.kY zE (v1 7)))) (v1 5) xa8)))))) pN zsc)))))
   (zpo (xaf (xa2 (pc pS (va 3 (pc (xau (xbx (K:=K) rfl) rfl T.uC zK (v1 14)) pN zsc)) zso)))))))))),xab λR1 bl=>?_⟩
 refine(xc3 _ rfl _ rfl kv ks x rfl ((wf.ksAt ti.kd).seq) (λt bm H1 s1 ht rp=>?_));refine(xay t _ rfl (zB ht) rfl _ _ rfl _ (jEAA _ rfl rfl ?_));refine bl _ _ (xab λR2 az=>?_);have t1:=ti.same s1;obtain⟨p1,q1,h1⟩:=t1.fd;obtain⟨p0,q0,hf⟩:=ti.fd;have F1:Fed Y H H1:=(Fed.refl hf).same s1;rcases am.look wf with⟨rfl,Z⟩ |⟨j',k,bc,Z,hn,a6,av⟩
 ·refine(xa5 _ rfl rfl _ rfl (iteKT (zDT (by rw[Z];rfl)) ?_))
  have RN:∀(H2:Hp) (f2:Fed Y H1 H2),∀(i:Int) (H3:Hp),Nm i->Fed Y H2 H3->∀t,H3 t=none->Q (.ref t) (upd H3 t (.tup [.str (S "num"),.int i])):=λH2 f2 i H3 hi f3 t ht=>by
   have st:=zA ht (.tup [.str (S "num"),.int i]);exact q _ (tNum i) _ (((F1.trans f2).trans f3).same st) (xat t _ rfl ups _ _ rfl rfl _ (jEAA _ rfl rfl rfl)) (xur hi)
  refine(xbl _ rfl _ _ rfl rfl _ rfl (ite2 (λc1=>?_) (λc1=>?_)))
  ·exact iteT (jEA _ rfl (xbn Y p1 q1 rfl h1 (λi H3 hi f3=>⟨(by walk_at"s"),λt ht=>RN H1 (Fed.refl h1) i H3 hi f3 t ht⟩)))
  refine(xa5 _ rfl rfl _ rfl (ite2 (λc2=>?_) (λc2=>?_)))
  ·exact iteT (jEA _ rfl (xbn Y p1 q1 rfl h1 (λi H3 hi f3=>⟨(by walk_at"s"),λt ht=>RN H1 (Fed.refl h1) i H3 hi f3 t ht⟩)))
  have bx:¬C<3:=λz=>c1 (zDT z);have bw:¬(m:Int)=0:=λz=>c2 (zDT (congrArg V.int z));obtain⟨m',rfl⟩:∃m',m=m'+1:=⟨m-1,by omega⟩;have aw:(((m'+1:Nat):Int))-1=(m':Int):=by omega
  refine(xaa _ rfl Y p1 q1 _ rfl h1 (by decide) (by decide) (λr H2 r0 r1 f2=>(jAEA rfl _ rfl (ite2 (λc3=>?_) (λc3=>?_)))))
  ·obtain⟨p2,q2,h2⟩:=f2.2
   exact(jEA _ rfl (xbn Y p2 q2 rfl h2 (λi H3 hi f3=>⟨(by walk_at"s"),λt ht=>RN H2 f2 i H3 hi f3 t ht⟩)))
  have t2:=t1.fed f2;have ba:=(xo2 wf).1;have ar:smK ks (S "num")<=(C-1) / 2:=by rw[ba];omega
  refine(jEA _ rfl (xa0 _ rfl _ rfl _ rfl _ _ rfl rfl (xb9 _ _ rfl rfl ⟨by decide,by decide⟩ (xar _ rfl _ _ rfl rfl ?_))));refine(xaz (7*m') (by omega) Y kv bv ks (xaj bs (S "num") ((C-1) / 2) m' 0 (xog aw) rfl (by decide) (t2.down (by omega)) (by omega) (jAA (.inl rfl) ar (λu1 d1 H3 f3 b4 b8=>?_))));have t3:=t2.fed f3;refine(jEA _ rfl (xa0 _ rfl _ rfl _ rfl _ _ rfl rfl (xb9 _ _ rfl rfl ⟨by decide,by decide⟩ (xar _ rfl _ _ rfl rfl ?_))));refine(xaz (7*m') (by omega) Y kv bv ks (xaj bs (S "num") ((C-1) / 2) m' 0 (xog aw) rfl (by decide) (t3.down (by omega)) (by omega) (jAA (.inl rfl) ar (λu2 d2 H4 f4 b3 af=>?_))));have t4:=t3.fed f4;obtain⟨p4,q4,h4⟩:=t4.fd;refine(xaa _ rfl Y p4 q4 _ rfl h4 (by decide) (by decide) (λr' H5 b6 b5 f5=>?_));obtain⟨ch,be,b9⟩:=xte b6 b5;refine(xa6 _ _ ch rfl rfl (by walk_at"k") be (xbi _ rfl _ rfl (by walk_at"s") (λt' ag=>?_)));have st:=zA ag (.tup [.str (S "op"),.str ⟨#[ch]⟩,.ref u1,.ref u2]);exact q _ (tOpD ⟨#[ch]⟩ d1 d2) _ (((((F1.trans f2).trans f3).trans f4).trans f5).same st) (xat t' _ rfl ups _ _ rfl rfl _ (xbu _ rfl rfl _ _ rfl (((b4.tups (xai t3.fd f4) _).tups (xai t4.fd f5) _).same st _) (xaw _ _ rfl ((b3.tups (xai t4.fd f5) _).same st _) rfl))) (TmB.le (xwn wf b9 b8 af) (by omega))
 ·subst bc
  rw[Z]at rp;obtain⟨a,us,rfl,ha,ac⟩:=rp;have hl:=ac.length;rw[zLM]at hl;have h5:=wf.pts k a6;have a5:xgu (kAt ks x)=k.sort:=by rw[Z];rfl
  have es:=(xu4 wf Z).1;unfold smS at es
  cases hc:k.rc with
  | false=>
   rw[if_neg (by rw[hc];decide)]at es;refine(xa5 _ rfl rfl _ rfl (iteKF (zDF (by rw[a5,xez hc];decide +kernel)) ?_));refine az _ _ (xab λR3 ay=>?_);refine(xa5 _ rfl rfl _ rfl (iteKT (zDT (by rw[a5,xez hc];rfl)) ?_));refine(xbi _ rfl a rfl ⟨_,zB ha⟩ ?_);refine xbj (xs:=us) (λi ys H'=>Same H1 H'/\(∀z∈ys,PtAt H' ks k C z)/\(1<=i->ys≠[])) (jAA (Same.refl _) (λ_ h=>nomatch h) (λh=>absurd h (by decide))) (xa3 (by omega)) (λi ys H' _ p=>zB (p.1 _ _ ha)) ?_ ?_
   ·rintro i y ys H' hy ax ai ⟨M,a3,ah⟩
    obtain⟨d',a1,a8⟩:=ac.get hy;rw[zGM]at a1;obtain⟨pr,J,rfl⟩:=zMS a1;obtain⟨b,b0,rfl,hb,_,_,rfl,rfl,_,_,rfl,rfl,rfl⟩:=a8;have O:=zMG J
    have first:i=0->smK ks pr.2<C:=λe0=>by
     subst e0
     cases au:k.parts with
     |nil=>rw[au]at J;simp at J
     |cons p r=>
      rw[au]at J es;simp at J;subst J;have es':smK ks x=1+smK ks p.2:=es;omega
    refine⟨xhc rfl,?_⟩;refine(xan _ rfl _ rfl b _ _ (xbm _ rfl rfl (zB (M _ _ hb)) rfl (xa6 kv ks pr.2 rfl (t1.kd.same M _) wf (xg5 wf a6 O) (λH3 s3=>(xbl _ rfl _ _ rfl rfl _ rfl (ite2 (λc1=>?_) (λc1=>?_)))))))
    ·refine(jEA _ rfl (nxtG ax ai (jAA (M.trans s3) (λz hz=>?_) (λ_=>by simp))))
     rcases zMA hz with hz |hz
     ·exact(a3 z hz).tups λb us q=>s3 _ _ q
     ·rw[zMO hz]
      exact(xb9 b pr rfl (s3 _ _ (M _ _ hb)) O (z0 c1))
    ·refine nxtN ax ai (jAA (M.trans s3) (λz hz=>(a3 z hz).tups λb us q=>s3 _ _ q) (λ_=>?_))
     by_cases e0:i=0
     ·exact absurd (zDT (first e0)) c1
     ·exact ah (by omega)
   ·rintro ys H2 ai ⟨M,a3,ah⟩ D hD
    have bq:k.parts.length≠0:=λe=>wf.alt k a6 hc (List.length_eq_zero_iff.mp e);have al:=ah (by omega);have bn:0<ys.length:=Nat.pos_of_ne_zero λe=>al (List.length_eq_zero_iff.mp e);have sD:=zA hD (.lst ys);have a0:=M.trans sD;have Df:D≠Y:=Ne.symm (neN (M _ _ h1) hD);refine(xa0 _ rfl _ rfl _ rfl D _ rfl (.inl (zC ups)) (xah Y p1 q1 _ rfl (a0 _ _ h1) (by omega) (by omega) (λr H5 r0 r1 f5=>?_)));obtain⟨i,rfl⟩:∃i:Nat,r=(i:Int):=⟨r.toNat,by omega⟩;have aj:i<ys.length:=by omega
    have t2:=t1.same a0;have b1:=xai t2.fd f5;obtain⟨b,p,eb,hb,O,bp⟩:=((a3 ys[i] (qM aj)).tups λb us q=>sD _ _ q).tups b1;have bf:atI ys (i:Int)=some (.ref b):=xam (by rw[zGA aj,eb]);refine(xbe D _ _ _ rfl rfl (zC (f5.1 _ _ ups Df)) bf b (xb8 _ rfl (zB hb) rfl (jEEA _ _ rfl (xaw _ _ rfl rfl ?_))));have t5:=t2.fed f5;refine(xa1 _ rfl _ rfl _ rfl _ rfl _ rfl (xbg _ rfl _ rfl _ _ rfl rfl _ ⟨rfl,?_⟩));refine(xaz (7*m+j') (by omega) Y kv bv ks (xaj bs p.2 (C-1) m j' rfl rfl (by omega) t5 m8 (jAA (av p O) (by omega) (λu du H7 f7 ru ae=>⟨(by walk_at"s"),λt' ag=>?_⟩))));have st:=zA ag (.tup [.str (S "tag"),.str x,.str p.1,.ref u]);exact q _ (tTag x p.1 du) _ ((((F1.same a0).trans f5).trans f7).same st) (xat t' _ rfl ups _ _ rfl rfl _ (xbu _ rfl rfl _ _ rfl rfl (xaw _ _ rfl (ru.same st _) rfl))) (TmB.le (xup wf Z hc O ae) (by omega))
  | true=>
   rw[if_pos hc]at es;refine(xa5 _ rfl rfl _ rfl (iteKF (zDF (by rw[a5,xer hc];decide +kernel)) ?_));refine az _ _ (xab λR3 ay=>?_);refine(xa5 _ rfl rfl _ rfl (iteKF (zDF (by rw[a5,xer hc];decide +kernel)) ?_));refine ay _ _ (xab λR4 bj=>?_);refine(xb1 _ rfl _ rfl _ rfl kv ks (xbm x rfl t1.kd wf an (λH2 s2=>(xaw _ _ rfl rfl ?_))));refine bj _ _ (xab λR5 bi=>?_);refine⟨(by walk_at"s"),λtl aq=>?_⟩;refine bi _ _ (xab λR6 bh=>?_);have a0:=s2.trans (zA aq (.lst []));have a7:=xae s2 aq;have ak:tl≠Y:=Ne.symm (neN h1 a7);refine(xbi _ rfl a rfl ⟨_,zB (a0 _ _ ha)⟩ ?_);refine xcz (xs:=us) (λi σ H'=>∃(ws:List V) (ds:List D) (aa a9:Option V),σ=[some (.ref Y),some kv,some bv,some (.str x),some (.int C),some (.int (m:Int)),some (.str (xgu (kAt ks x))),some (.ref a),none,none,none,none,aa,some (.int (C-smK ks x)),some (.ref tl),a9]/\Fed Y H1 H'/\H' tl=some (.lst ws)/\RelDs H' ws ds/\All2 (λe (p:Str×Str)=>TmB ks (7*m+j'+1) bs e p.2) ds (k.parts.take i)) (xah ([]) ([]) none none rfl ((Fed.refl h1).same a0) ups rfl (by rw[List.take_zero];exact .nil)) (λi σ H' _ p=>?_) ?_ ?_
   ·obtain⟨_,_,_,_,_,fm,_⟩:=p
    exact zB (xai t1.fd fm _ _ ha)
   ·rintro i vv σ H3 ao ⟨ws,ds,aa,a9,rfl,fm,a4,a2,U⟩
    have tp:=xai t1.fd fm;obtain⟨d',a1,a8⟩:=ac.get ao;rw[zGM]at a1;obtain⟨pr,J,rfl⟩:=zMS a1;obtain⟨b,b0,rfl,hb,_,_,rfl,rfl,_,_,rfl,rfl,rfl⟩:=a8;have O:=zMG J;have t3:=t1.fed fm;have bo:=a2.length;have bg:=U.length;rw[List.length_take]at bg;have aj:i<us.length:=(zES ao).1;refine(xay b _ rfl (zB (tp _ _ hb)) rfl _ _ rfl _ (jEAA _ rfl rfl ?_));refine(xa5 _ rfl (.inl (jAE rfl _ (zC a4))) _ rfl (xa1 _ rfl _ rfl _ rfl _ rfl _ rfl (xa6 kv ks pr.2 rfl t3.kd wf (xg5 wf a6 O) (λH4 s4=>?_))));have br:0<=(C-smK ks x) / (us.length:Int):=Int.ediv_nonneg (by omega) (by omega);refine(xbg _ rfl _ rfl a _ rfl (.inr (zB (s4 _ _ (tp _ _ ha)))) _ (xb8 _ rfl rfl ⟨by omega,by omega⟩ (xaw _ _ rfl rfl (jEA _ rfl ?_))));have t4:=t3.same s4;refine(xaz (7*m+j') (by omega) Y kv bv ks (xaj bs pr.2 (smK ks pr.2+(C-smK ks x) / (us.length:Int)) m j' rfl rfl (by omega) t4 m8 (jAA (av pr O) (by omega) (λu du H5 f5 ru ae=>?_))));have ab:=f5.1 _ _ (s4 _ _ a4) ak;have b2:=(a2.same s4 _).tups (xai t4.fd f5) _;refine(xa6 tl ws _ rfl rfl ab (xa3 (by omega)) (xah _ (ds++[du]) _ _ rfl (Fed.put ((fm.same s4).trans f5) a7 ak _) ups ((b2.tups (xc5 ab _) _).append (xaw (.ref u) ([]) rfl (ru.tups (xc5 ab _) _) rfl)) ?_));rw[zTA,J];exact xk7 U ae
   ·rintro σ H3 ⟨ws,ds,aa,a9,rfl,fm,a4,a2,U⟩
    rw[zTL (by omega)]at U;refine bh _ _ ?_;refine(jEA _ rfl (jEA _ rfl (jEEA tl ws rfl (.inl ⟨zC a4,λt2 af=>⟨(by walk_at"s"),λt3 b7=>?_⟩⟩))));have y2:=zA af (.tup ws);have y3:=zA b7 (.tup [.str (S "rec"),.str x,.ref t2]);exact q _ (tRec x ds) _ ((F1.trans fm).same (y2.trans y3)) (xat t3 _ rfl ups _ _ rfl rfl _ (xbu _ rfl rfl _ _ rfl (xaw t2 ws rfl (y3 _ _ ups) (a2.same (y2.trans y3) _)) rfl)) (TmB.le (xuq Z hc (by omega) U) (by omega))
structure Hold(R:Prop):Prop where
 go:R
theorem xss{R A:Prop}(h:Hold R->A)(r:R):A:=h ⟨r⟩
theorem DefIs.anyP{P:Program}{w:World}{K:Fg}{e:Str->Option Value}{base:Heap}{n:Nat}{x:Str}{st:Stmt}{ps:List Str}{Pr:Nat->Prop}{sps:Nat->Sp}(T:DefTx K e x st ps)(D:∀m,Pr m->DefIs P w K e base n x ps (sps m)):DefIs P w K e base n x ps (λvs H Q E=>∃m,Pr m/\sps m vs H Q E):=by
 by_cases p:∃m,Pr m
 ·obtain⟨u,h0⟩:=p
  obtain⟨f,I,F,b,k,o,l⟩:=(D u h0).ex;refine⟨f,(xbm I ⟨?_,?_⟩ b k o l)⟩
  ·rintro vs H Q E ⟨m,g,h⟩
   obtain⟨J,i,j,_⟩:=(D m g).ex;exact j.1 vs H Q E h
  ·rintro A outer s H args us vs Q E G C z y ⟨m,g,h⟩
   obtain⟨J,i,j,U,O,a,c⟩:=(D m g).ex;rw[o]at a;cases a;obtain⟨M,od,r,l⟩:=l;obtain⟨_,_,_,c⟩:=c;rw[l]at c;cases c;exact j.2 A outer s H args us vs Q E G C z y h
 ·exact DefIs.none T λvs H Q E h=>p ⟨h.choose,h.choose_spec.1⟩
def xtd(c:Nat):Sp:=λvs H Q E=>∃m,7*m+6<c/\xlk m vs H Q E
theorem xoi{z:Str}:∀{bs:List (Str×Str)},(∀b∈bs,b.1≠z)->∀acc,valV (xc2 acc (bKV bs)) (Sum.inr z)=valV acc (Sum.inr z)
 |[],_,acc=>rfl
 |b::bs,h,acc=>by
  have:=xoi (bs:=bs) (λc a=>h c (by simp[a])) (putK acc (Sum.inr b.1) (.str b.2));show valV (xc2 (putK acc (Sum.inr b.1) (.str b.2)) (bKV bs)) (Sum.inr z)=_;rw[this,xh9,if_neg];intro e;exact h b (by simp) (Sum.inr.inj e).symm
theorem xse{z k:Str}:∀{bs:List (Str×Str)},(bs.map (·.1)).Nodup->(z,k)∈bs->∀acc,valV (xc2 acc (bKV bs)) (Sum.inr z)=some (.str k)
 | b::bs,nd,h,acc=>by
  rw[List.map_cons,List.nodup_cons]at nd;show valV (xc2 (putK acc (Sum.inr b.1) (.str b.2)) (bKV bs)) (Sum.inr z)=_;rcases zMC h with h |h
  ·subst h
   rw[xoi (bs:=bs) (λc a e=>nd.1 (List.mem_map.mpr (jEA c a e))),xh9,if_pos rfl]
  ·exact xse nd.2 h _
theorem xp6{ks:List Kn}(f:KWf ks){y:Str}(h:KIn ks 6 y){H:Hp}{v:V}(b:RelD H v (xm4 (kAt ks y))):∃ps,RelD H v (xee ps)/\ps.length<=5/\(xgu (kAt ks y)=S "rec"->∃k,kAt ks y=some k/\k.rc=true/\k.parts=ps)/\(xgu (kAt ks y)=S "alt"->∃k,kAt ks y=some k/\k.rc=false/\k.parts=ps):=by
 rcases h.look f with⟨rfl,e⟩ |⟨j,k,l,e,hn,g,i⟩
 ·rw[e]at b⊢
  exact(xb8 ([]) b (by decide) (λz=>absurd z (by walk_at"k")) (λz=>absurd z (by walk_at"k")))
 ·rw[e]at b⊢
  refine(xb8 k.parts b (by have:=f.pts k g;omega) (λz=>(jEAA k rfl ?_ rfl)) (λz=>(jEAA k rfl ?_ rfl)))
  ·cases c:k.rc with
   |true=>rfl
   |false=>
    have a:k.sort=S "rec":=z;rw[xez c]at a;exact absurd a (by walk_at"k")
  ·cases c:k.rc with
   |false=>rfl
   |true=>
    have a:k.sort=S "alt":=z;rw[xer c]at a;exact absurd a (by walk_at"k")
def HdAt(H:Hp)(ks:List Kn)(bs:List (Str×Str))(x:Str)(w:V):Prop:=∃(b:Addr) (z g y:Str) (k:Kn),w=.ref b/\H b=some (.tup [.str z,.str g])/\(z,y)∈bs/\kAt ks y=some k/\k.rc=true/\(g,x)∈k.parts
theorem HdAt.tups{H a:Hp}{ks:List Kn}{bs:List (Str×Str)}{x:Str}{w:V}(h:HdAt H ks bs x w)(s:∀b us,H b=some (.tup us)->a b=some (.tup us)):HdAt a ks bs x w:=by
 obtain⟨b,z,g,y,k,e,c,r⟩:=h;exact(xal b z g y k (jAA e (s _ _ c) r))
def TgOk(ks:List Kn)(bs:List (Str×Str))(z:Str):Prop:=∃(y:Str) (k:Kn),(z,y)∈bs/\kAt ks y=some k/\k.rc=false
theorem xrh (T:Tx K mg) {c:Nat} (C:DefIs P w K mg base n "_law_take" qae xcw) (a3:DefIs P w K mg base n "_law_boxed" qa3 xo1) (a2:DefIs P w K mg base n "_law_small" qad (spSm smK 6)) (e:DefIs P w K mg base n "_law_sort_of" qad xft) (o:DefIs P w K mg base n "_law_term" qah (xq8 c)) (a6:DefIs P w K mg base n "_law_arms" qbg (xtd c)) (M:DefIs P w K mg base n "_law_whole_term" qah (spTw c)) :
  DefIs P w K mg base (n+1) "_law_term" qah (spTw c):=by
 refine DefIs.of T.j9 scl_term (by walk_at"l") (λf da A outer s H vs Q E hr h=>?_);obtain⟨f',kv,bv,ks,bs,x,l,m,j,rfl,ac,a0,ti,m8,Z,J,q⟩:=h;have nd:=scl_term.nd;have hu:=xd2 hr;have wf:=ti.wf;have ax:KIn ks 6 x:=Z.mono a0;have d8:=xmx wf x
 refine⟨_,(zpn (xc8 (i:=6) ["_law_x","_law_told","_law_kind"] [none,none,some 3] rfl (by kernel_rfl) nd rfl (by walk_at"o") (xbv (K:=K) rfl (pv 2)) (λ_ _ _ _=>(xbc (K:=K) (n:=2) rfl rfl (xad (pgc 0) (xad (pgc 1) xbb)))) (λ_ _ _ _=>(xdr (pR xbf (pv 1) (pv 2) (nM _)))) (λ_ _ _ _=>(pv 0)))
   (zpn (psn 7 nd (pd C hr (va 0 (pc pI pN zso))))
   (zpn (xba (PW.pt (xcu (pR xd0 (xax (xag (K:=K) rfl) rfl T.kY zE (v1 6)) pI (nM _)) (xcg (pR xgy (pv 7) pI (nM _))))) (zpo (xaf (pd a3 hr (va 0 (v1 6))))) pQ)
   (zpn (psn 8 nd (pd a2 hr (va 1 (v1 3))))
   (zpn (xba (PW.pt (xcu (pR xbf (pv 7) pI (nM _)) (xcu (pR xd0 (pv 5) pI (nM _)) (xcg (pR xd0 (pv 4) (xaq xbk (xaq xdx pI (pv 8)) pI) (nM _)))))) (zpn (psn 9 nd (xaq xcs (xaq xc1 (xaq xc1 (pv 4) pI) (xaq xdx pI (pv 8))) pI))
   (zpn (psn 10 nd (pd o hr (va 0 (va 1 (va 2 (pc pS (pc (xaq xbk pI (pv 9)) (pc (xaq xc1 (pv 5) pI) pN xa8) xa8) zso))))))
   (zpn (psn 11 nd (pd o hr (va 0 (va 1 (va 2 (va 3 (pc (xaq xbk (pv 8) (pv 9)) (pc (xaq xc1 (pv 5) pI) pN xa8) xa8)))))))
   (zpo (xaf (xa2 (pc pS (va 10 (va 11 (pc (pd o hr (va 0 (va 1 (va 2 (va 3 (pc (xaq xbk (pv 8) (pv 9)) (pc (xaq xc1 (pv 5) pI) pN xa8) xa8)))))) pN zsc))) zso))))))) pQ)
   (zpn (xba (PW.pt (xcu (pR xbf (pv 7) pI (nM _)) (xcg (pR xd0 (pv 4) pI (nM _))))) (zpn (psn 12 nd (xcd pN))
   (zpn (xb5 zF rfl (xbv (K:=K) rfl (pv 2)) (xbc (K:=K) rfl rfl (xad (pgn 13 nd) (xad (pgn 14 nd) xbb)))
   (zpn (xdw (pd e hr (va 1 (v1 14))) (xbc (K:=K) rfl rfl (xad (pgn 15 nd) (xad (pgn 16 nd) xbb))))
   (zpo (psn 12 nd (xaq xfx (pv 12) (xbh ["_law_f","_law_part","_law_x","_law_sort","_law_kind"] [none,none,some 13,some 15,some 3] rfl (by kernel_rfl) (xas (K:=K) rfl (pv 16)) (λ_ _ _ _=>(xbc (K:=K) (n:=2) rfl rfl (xad (pgc 0) (xad (pgc 1) xbb)))) (λ_ _ _ _=>(xdr (PW.pt (xcu (pR xbf (pv 3) pS (nM _)) (xcg (pR xbf (pv 1) (pv 4) (nM _))))))) (λ_ _ _ _=>(xa2 (va 2 (v1 0))))))))))
   (zpo (xba (pR xd0 (xax (xag (K:=K) rfl) rfl T.kY zE (v1 12)) pI (nM _)) (zpn (xdw (pxl K (pv 12) (pd C hr (va 0 (pc (xax (xag (K:=K) rfl) rfl T.kY zE (v1 12)) pN zsc)))) (xbc (K:=K) rfl rfl (xad (pgn 13 nd) (xad (pgn 17 nd) xbb))))
   (zpo (xaf (xa2 (pc pS (pc (xa2 (pc pS (v1 13) zso)) (v1 17) zsT) zso))))) pQ)))) pQ)
   (zpn (xba (PW.pt (xcu (pR xbf (pv 7) pI (nM _)) (xcg (pR xd0 (pv 5) pI (nM _))))) (zpn (xc8 (i:=18) ["_law_x","_law_told","_law_kinds_here"] [none,none,some 1] rfl (by kernel_rfl) nd rfl (by walk_at"o") (xbv (K:=K) rfl (pv 2)) (λ_ _ _ _=>(xbc (K:=K) (n:=2) rfl rfl (xad (pgc 0) (xad (pgc 1) xbb)))) (λ_ _ _ _=>(xdr (pR xbf (px K (pd e hr (va 2 (v1 1))) pI) pS (nM _)))) (λ_ _ _ _=>(pv 0)))
   (zpo (xba (pR xd0 (xax (xag (K:=K) rfl) rfl T.kY zE (v1 18)) pI (nM _)) (zpn (psn 13 nd (pxl K (pv 18) (pd C hr (va 0 (pc (xax (xag (K:=K) rfl) rfl T.kY zE (v1 18)) pN zsc)))))
   (zpn (psn 16 nd (px K (pd e hr (va 1 (pc (xb2 hu (xau (xco rfl) rfl T.kW zL (v1 2)) (pv 13) (λ_ _=>rfl)) pN ss))) pI))
   (zpo (xba (pR xvn (xaq xc1 (pv 4) pI) (xaq xdx (pv 8) (xax (xag (K:=K) rfl) rfl T.kY zE (v1 16))) (nM _)) (zpo (xaf (xa2 (pc pS (pc (xa2 (pc pS (v1 13) zso)) (pc (pd a6 hr (va 0 (va 1 (va 2 (va 16 (va 3 (pc (xaq xc1 (pv 4) pI) (v1 5) xa8))))))) pN zsc) zsT) zso)))) pQ)))) pQ))) pQ)
   (zpo (xaf (pd M hr (va 0 (va 1 (va 2 (va 3 (va 4 (v1 5)))))))))))))))),?_⟩
 refine xab λR1 cw=>?_;obtain⟨p0,q0,hf⟩:=ti.fd;have cl:=ti.bx;obtain⟨bl,ub,rfl,br,bg,dc⟩:=cl;have cd:=bg.length;rw[zLM]at cd;have cm:=ti.bl;refine(xbi _ rfl bl rfl ⟨_,zC br⟩ ?_);refine xd3 (xs:=ub) (λi ys I=>I=H/\∃zs:List Str,ys=zs.map V.str/\(∀z∈zs,(z,x)∈bs)/\zs.length<=i) (jAEA rfl ([]) rfl ⟨(λ_ h=>nomatch h),zZ _⟩) (xa3 (by omega)) (λi ys I _ p=>by obtain⟨rfl,_⟩:=p;exact zC br) ?_ ?_
 ·rintro i y ys I hy a5 O ⟨rfl,zs,rfl,aa,bc⟩
  obtain⟨d',U,a9⟩:=bg.get hy;rw[zGM]at U;obtain⟨pr,am,rfl⟩:=zMS U;obtain⟨b,b7,rfl,hb,_,_,rfl,rfl,_,_,rfl,rfl,rfl⟩:=a9;refine(xay b _ rfl (zB hb) rfl _ _ rfl _ (xb8 _ rfl rfl (ext2 rfl rfl) ?_));refine(xcp _ rfl _ rfl rfl _ rfl ?_);by_cases ab:pr.2=x
  ·refine iteKT (zDT (by rw[ab])) (jEA _ rfl (nxtG a5 O (jAEA rfl (zs++[pr.1]) (by rw[zAP];rfl) ⟨λz hz=>?_,by rw[zLA,List.length_singleton];omega⟩)))
   rcases zMA hz with hz |hz
   ·exact aa z hz
   ·rw[zMO hz,<- ab]
    exact zMG am
  ·exact iteKF (zDF λz=>ab (V.str.inj z)) (nxtN a5 O (jAEA rfl zs rfl ⟨aa,by omega⟩))
 rintro ys H2 O ⟨rfl,zs,rfl,aa,bc⟩ D hD;have sD:=zA hD (.lst (zs.map V.str));have t1:=ti.same sD;have F1:=(Fed.refl hf).same sD;have Df:D≠f':=Ne.symm (neN hf hD);refine cw _ _ (xab λR2 cv=>?_);refine(xaa _ rfl f' p0 q0 _ rfl (sD _ _ hf) (by decide) (by decide) (λfm H1 m0 m1 f1=>?_));have t2:=t1.fed f1;have F2:=F1.trans f1;obtain⟨p2,q2,h2⟩:=t2.fd;have bz:=f1.1 _ _ ups Df;have zl:(zs.map V.str).length=zs.length:=zLM _;refine cv _ _ (xab λR3 cu=>?_);apply xss
 ·intro ah
  refine(xb6 _ rfl D _ rfl (.inl (zC bz)) _ _ rfl rfl (jEA _ rfl (ite2 (λc1=>?_) (λc1=>?_))))
  ·refine(xbl _ rfl _ _ rfl rfl _ rfl (ite2 (λc2=>?_) (λc2=>?_)))
   ·have ca:=z0 c1
    rw[zl]at ca;exact(xan _ rfl _ rfl f' D p2 (xa9 q2 zs rfl h2 bz (List.length_pos_iff.mp (by omega)) (by omega) ⟨Df,λz t I hz fz rz=>q t (tBox z) I (F2.trans fz) rz (xoo (aa z hz))⟩))
   ·exact ah.go
  ·exact iteF ah.go
 refine cu _ _ (xab λR4 cr=>?_);refine(xbq _ rfl _ rfl kv ks x rfl t2.kd wf ⟨ax,λH3 s3=>?_⟩);have t3:=t2.same s3;have F3:=F2.same s3;obtain⟨p3,q3,h3⟩:=t3.fd;have bp:=t3.bx;obtain⟨de,b0,cy,ae,ak,d4⟩:=bp;cases cy;have be:=ak.length;rw[zLM]at be;refine cr _ _ (xab λR5 bu=>?_);by_cases e3:fm=3
 ·refine(xa5 _ rfl rfl _ rfl (iteKT (zDT (by rw[e3])) ?_))
  apply xss
  ·intro ah
   refine(xbl _ rfl _ _ rfl rfl _ rfl (ite2 (λc2=>?_) (λc2=>iteF ah.go)));refine(jEA _ rfl (xar _ rfl _ _ rfl rfl (jAEE (.inr ⟨by omega,by omega⟩) _ _ (jAA rfl rfl (xaw _ _ rfl rfl (jEA _ rfl (ite2 (λc3=>?_) (λc3=>ah.go))))))));have cz:(0:Int)<(m:Int):=z0 c2;have db:2*smK ks x+1<l:=z0 c3;obtain⟨m',rfl⟩:∃m',m=m'+1:=⟨m-1,by omega⟩;have b6:(((m'+1:Nat):Int))-1=(m':Int):=by omega
   refine(xbl _ rfl _ _ rfl rfl _ rfl (xb9 _ _ rfl rfl (.inr ⟨by omega,by omega⟩) (xaw _ _ rfl rfl (xb9 _ _ rfl rfl ⟨by decide,by decide⟩ ?_))));have d9:0<=(l-2-2*smK ks x) / 3:=Int.ediv_nonneg (by omega) (by decide);refine(jEA _ rfl (xa0 _ rfl _ rfl _ rfl _ _ rfl rfl (xar _ rfl _ _ rfl rfl ?_)));refine(xaz (7*m') (by omega) f' kv (.ref bl) ks (xaj bs (S "num") (1+(l-2-2*smK ks x) / 3) m' 0 (xog b6) rfl (by decide) (t3.down (by omega)) (by omega) (jAA (.inl rfl) (by rw[(xo2 wf).1];omega) (λu1 d1 H5 f5 c8 al=>?_))));have t5:=t3.fed f5;refine(xa1 _ rfl _ rfl _ rfl _ rfl _ rfl (xbl _ rfl _ _ rfl rfl _ rfl (xaw _ _ rfl rfl ?_)));refine(xaz (7*m'+j) (by omega) f' kv (.ref bl) ks (xaj bs x (smK ks x+(l-2-2*smK ks x) / 3) m' j (xog b6) rfl a0 (t5.down (by omega)) (by omega) (jAA Z (by omega) (λu2 d2 H6 f6 c7 a7=>?_))));have t6:=t5.fed f6;refine(xa1 _ rfl _ rfl _ rfl _ rfl _ rfl (xa0 _ rfl _ rfl _ rfl _ _ rfl rfl (xar _ rfl _ _ rfl rfl ?_)));refine(xaz (7*m'+j) (by omega) f' kv (.ref bl) ks (xaj bs x (smK ks x+(l-2-2*smK ks x) / 3) m' j (xog b6) rfl a0 (t6.down (by omega)) (by omega) (jAA Z (by omega) (λu3 d3 H7 f7 c6 cf=>⟨(by walk_at"s"),λt ht=>?_⟩))));have st:=zA ht (.tup [.str (S "if"),.ref u1,.ref u2,.ref u3])
   exact q _ (tIfD d1 d2 d3) _ ((((F3.trans f5).trans f6).trans f7).same st) (xat t _ rfl ups _ _ rfl rfl _ (xbu _ rfl (((c8.tups (xai t5.fd f6) _).tups (xai t6.fd f7) _).same st _) _ _ rfl ((c7.tups (xai t6.fd f7) _).same st _) (xaw _ _ rfl (c6.same st _) rfl))) (TmB.le (xwo wf (TmB.le al (by omega)) a7 cf) (by omega))
  refine bu _ _ (xab λR6 aq=>?_);refine(xa5 _ rfl rfl _ rfl (iteKF (zDF λz=>absurd (V.int.inj z) (by omega)) (iteF ?_)));refine aq _ _ (xab λR7 a1=>?_);refine(xa5 _ rfl rfl _ rfl (iteKF (zDF λz=>absurd (V.int.inj z) (by omega)) (iteF ?_)));refine a1 _ _ ?_;exact(xa1 _ rfl _ rfl _ rfl _ rfl _ rfl (xaz _ rfl f' kv (.ref bl) ks (xaj bs x l m j rfl ac a0 t3 m8 (jAA Z J (λa d I fd ra Y=>q a d I (F3.trans fd) ra Y)))))
 refine(xa5 _ rfl rfl _ rfl (iteKF (zDF λz=>e3 (V.int.inj z)) (iteF ?_)));refine bu _ _ (xab λR6 aq=>?_);by_cases e4:fm=4
 ·refine(xa5 _ rfl rfl _ rfl (iteKT (zDT (by rw[e4])) ?_))
  refine(xbl _ rfl _ _ rfl rfl _ rfl (ite2 (λc2=>?_) (λc2=>?_)))
  ·refine⟨(by walk_at"s"),λhd bm=>?_⟩
   have s4:=zA bm (.lst []);refine(xbi _ rfl bl rfl ⟨_,zC (s4 _ _ ae)⟩ ?_)
   refine xea (xs:=b0) (λi σ I=>∃(Y:Addr) (ws:List V) (b5 b4 b3 b1:Option V),σ=[some (.ref f'),some kv,some (.ref bl),some (.str x),some (.int l),some (.int (m:Int)),some (.ref D),some (.int fm),some (.int (smK ks x)),none,none,none,some (.ref Y),b5,b4,b3,b1,none,none]/\Same H3 I/\I Y=some (.lst ws)/\Y≠f'/\(∀w∈ws,HdAt I ks bs x w)/\ws.length<=5*i)
    (xal hd ([]) none none none (xbd none rfl s4 ups (Ne.symm (neN h3 bm)) (λ_ h=>nomatch h) (qL _))) (λi σ I _ p=>?_) ?_ ?_
   ·obtain⟨_,_,_,_,_,_,_,sm,_⟩:=p
    exact zC (sm _ _ ae)
   ·rintro i vv σ H4 bd ⟨Y,ws,b5,b4,b3,b1,rfl,sm,aj,bt,ao,cc⟩
    obtain⟨d',U,a9⟩:=ak.get bd;rw[zGM]at U;obtain⟨pr,am,rfl⟩:=zMS U;obtain⟨b,b7,rfl,hb,_,_,rfl,rfl,_,_,rfl,rfl,rfl⟩:=a9;have an:=zMG am;have ag:i<b0.length:=(zES bd).1;refine(xay b _ rfl (zB (sm _ _ hb)) rfl _ _ rfl _ (jEAA _ rfl rfl ?_));refine(xc3 _ rfl _ rfl kv ks pr.2 rfl ((wf.ksAt (t3.kd.same sm _)).seq) (λt ba H5 s5 ht rp=>?_));refine(xay t _ rfl (zB ht) rfl _ _ rfl _ (jEAA _ rfl rfl ?_));obtain⟨ps,b9,h5,ay,az⟩:=xp6 wf (t3.kn pr an) rp;obtain⟨a,us,rfl,av,au⟩:=b9;have hl:=au.length;rw[zLM]at hl;refine(jEA _ rfl (xbi _ rfl a rfl ⟨_,zB av⟩ ?_));refine xbj (xs:=us) (λi ys I=>Same H5 I/\(∀w∈ys,HdAt I ks bs x w)/\ys.length<=i) (jAA (Same.refl _) (λ_ h=>nomatch h) (zZ _)) (xa3 (by omega)) (λi ys I _ p=>zB (p.1 _ _ av)) ?_ ?_
    ·rintro i2 y ys I hy a5 O ⟨af,ai,cb⟩
     obtain⟨d',U,a9⟩:=au.get hy;rw[zGM]at U;obtain⟨pt,ch,rfl⟩:=zMS U;obtain⟨b2,d5,rfl,cp,_,_,rfl,rfl,_,_,rfl,rfl,rfl⟩:=a9;refine(xay b2 _ rfl (zB (af _ _ cp)) rfl _ _ rfl _ (xb8 _ rfl rfl (ext2 rfl rfl) ?_));refine(xa5 _ rfl rfl _ rfl ?_);by_cases hs:xgu (kAt ks pr.2)=S "rec"
     ·refine iteKT (zDT (congrArg V.str hs)) ?_
      refine(xcp _ rfl _ rfl rfl _ rfl ?_);by_cases ab:pt.2=x
      ·refine iteKT (zDT (by rw[ab])) (xbi _ rfl _ rfl (by walk_at"s") (λt2 a7=>nxtG a5 O (jAA (af.trans (zA a7 _)) (λz hz=>?_) (by rw[zLA,List.length_singleton];omega))))
       rcases zMA hz with hz |hz
       ·exact(ai z hz).tups λb us q=>zA a7 _ _ _ q
       ·obtain⟨k,hk,a8,cj⟩:=ay hs
        rw[zMO hz];exact(xaj t2 pr.1 pt.1 pr.2 k rfl ups an hk a8 (by rw[cj,<- ab];exact zMG ch))
      ·exact iteKF (zDF λz=>ab (V.str.inj z)) (nxtN a5 O (jAA af ai (by omega)))
     ·exact iteKF (zDF λz=>hs (V.str.inj z)) (iteF (nxtN a5 O (jAA af ai (by omega))))
    ·rintro ys H6 O ⟨af,ai,cb⟩ D2 bw
     have b8:=zA bw (.lst ys);have ar:=s5.trans (af.trans b8);refine(xap Y D2 _ _ rfl rfl (ar _ _ aj) ups (fits (by omega)) (λl3 bj=>?_));have sl:=zA bj (.lst (ws++ys));refine(xal l3 (ws++ys) _ _ _ (xbd _ rfl (sm.trans (ar.trans sl)) ups (Ne.symm (neN ((sm.trans ar) _ _ h3) bj)) (λz hz=>?_) (by rw[zLA];omega)));rcases zMA hz with hz |hz
     ·exact(ao z hz).tups λb us q=>(ar.trans sl) _ _ q
     ·exact(ai z hz).tups λb us q=>(b8.trans sl) _ _ q
   ·rintro σ H4 ⟨Y,ws,b5,b4,b3,b1,rfl,sm,aj,bt,ao,cc⟩
    have t4:=t3.same sm;have F4:=F3.same sm;refine(xb6 _ rfl Y _ rfl (.inl (zC aj)) _ _ rfl rfl (jEA _ rfl (ite2 (λc3=>?_) (λc3=>?_))))
    ·have d6:=z0 c3
     refine(xa0 _ rfl _ rfl _ rfl Y _ rfl (.inl (zC aj)) (xah f' p3 q3 _ rfl (sm _ _ h3) (by omega) (by omega) (λr H6 r0 r1 f6=>?_)));obtain⟨i,rfl⟩:∃i:Nat,r=(i:Int):=⟨r.toNat,by omega⟩;have ag:i<ws.length:=by omega
     obtain⟨b,z,g,y,k,eb,hb,hz,hk,a8,hg⟩:=(ao ws[i] (qM ag)).tups (xai t4.fd f6);have cq:atI ws (i:Int)=some (.ref b):=xam (by rw[zGA ag,eb]);refine(xbe Y _ _ _ rfl rfl (zC (f6.1 _ _ aj bt)) cq b (xb8 _ rfl (zB hb) rfl (jEEA _ _ rfl (xaw _ _ rfl rfl ?_))));refine(jEAA _ rfl (by walk_at"s") (λt1 al=>(jEAA _ rfl (by walk_at"s") (λt2 a7=>?_))));have y1:=zA al (.tup [.str (S "box"),.str z]);have y2:=zA a7 (.tup [.str (S "get"),.ref t1,.str g]);exact q _ (tGet (tBox z) g) _ ((F4.trans f6).same (y1.trans y2)) (xat t2 _ rfl ups _ _ rfl rfl _ (xbu _ rfl (xat t1 _ rfl (y2 _ _ ups) _ _ rfl rfl _ (jEAA _ rfl rfl rfl)) _ _ rfl rfl rfl)) (xus (p:=(g,x)) wf hk a8 hg (xoo hz))
    ·refine aq _ _ (xab λR7 a1=>?_)
     refine(xa5 _ rfl rfl _ rfl (iteKF (zDF λz=>absurd (V.int.inj z) (by omega)) (iteF ?_)));refine a1 _ _ ?_;exact(xa1 _ rfl _ rfl _ rfl _ rfl _ rfl (xaz _ rfl f' kv (.ref bl) ks (xaj bs x l m j rfl ac a0 t4 m8 (jAA Z J (λa d I fd ra Y=>q a d I (F4.trans fd) ra Y)))))
  ·refine aq _ _ (xab λR7 a1=>?_)
   refine(xa5 _ rfl rfl _ rfl (iteKF (zDF λz=>absurd (V.int.inj z) (by omega)) (iteF ?_)));refine a1 _ _ ?_;exact(xa1 _ rfl _ rfl _ rfl _ rfl _ rfl (xaz _ rfl f' kv (.ref bl) ks (xaj bs x l m j rfl ac a0 t3 m8 (jAA Z J (λa d I fd ra Y=>q a d I (F3.trans fd) ra Y)))))
 refine(xa5 _ rfl rfl _ rfl (iteKF (zDF λz=>e4 (V.int.inj z)) (iteF ?_)));refine aq _ _ (xab λR7 a1=>?_);by_cases e5:fm=5
 ·refine(xa5 _ rfl rfl _ rfl (iteKT (zDT (by rw[e5])) ?_))
  refine(xbl _ rfl _ _ rfl rfl _ rfl (ite2 (λc2=>?_) (λc2=>?_)))
  ·have cz:(0:Int)<(m:Int):=z0 c2
   refine(xbi _ rfl bl rfl ⟨_,zC ae⟩ ?_);refine xd3 (xs:=b0) (λi ys I=>Same H3 I/\∃zs:List Str,ys=zs.map V.str/\(∀z∈zs,TgOk ks bs z)/\zs.length<=i) (jAEA (Same.refl _) ([]) rfl ⟨(λ_ h=>nomatch h),zZ _⟩) (xa3 (by omega)) (λi ys I _ p=>zC (p.1 _ _ ae)) ?_ ?_
   ·rintro i y ys I hy a5 O ⟨sm,zs,rfl,aa,bc⟩
    obtain⟨d',U,a9⟩:=ak.get hy;rw[zGM]at U;obtain⟨pr,am,rfl⟩:=zMS U;obtain⟨b,b7,rfl,hb,_,_,rfl,rfl,_,_,rfl,rfl,rfl⟩:=a9;have an:=zMG am;refine(xay b _ rfl (zB (sm _ _ hb)) rfl _ _ rfl _ (xb8 _ rfl rfl (ext2 rfl rfl) ?_));refine(xc3 _ rfl _ rfl kv ks pr.2 rfl ((wf.ksAt (t3.kd.same sm _)).seq) (λt ba H5 s5 ht rp=>(xap t _ _ _ rfl rfl (zB ht) rfl rfl (jEA _ rfl ?_))));obtain⟨ps,b9,h5,ay,az⟩:=xp6 wf (t3.kn pr an) rp;by_cases hs:xgu (kAt ks pr.2)=S "alt"
    ·refine iteKT (zDT (congrArg V.str hs)) (jEA _ rfl (nxtG a5 O (jAEA (sm.trans s5) (zs++[pr.1]) (by rw[zAP];rfl) ⟨λz hz=>?_,by rw[zLA,List.length_singleton];omega⟩)))
     rcases zMA hz with hz |hz
     ·exact aa z hz
     ·obtain⟨k,hk,a8,_⟩:=az hs
      rw[zMO hz];exact(xaw pr.2 k an hk a8)
    ·exact iteKF (zDF λz=>hs (V.str.inj z)) (nxtN a5 O (jAEA (sm.trans s5) zs rfl ⟨aa,by omega⟩))
   rintro ys H4 O ⟨sm,a4,rfl,ce,d7⟩ G hG;have sG:=zA hG (.lst (a4.map V.str));have s4:=sm.trans sG;have t4:=t3.same s4;have F4:=F3.same s4;have Gf:G≠f':=Ne.symm (neN (sm _ _ h3) hG);have gl:(a4.map V.str).length=a4.length:=zLM _;refine(xb6 _ rfl G _ rfl (.inl (zC ups)) _ _ rfl rfl (jEA _ rfl (ite2 (λc3=>?_) (λc3=>?_))))
   ·have ck:=z0 c3
    rw[gl]at ck;refine(xa0 _ rfl _ rfl _ rfl G _ rfl (.inl (zC ups)) (xah f' p3 q3 _ rfl (s4 _ _ h3) (by rw[gl];omega) (by rw[gl];omega) (λr H6 r0 r1 f6=>?_)));rw[gl]at r1;obtain⟨i,rfl⟩:∃i:Nat,r=(i:Int):=⟨r.toNat,by omega⟩;have ag:i<a4.length:=by omega
    obtain⟨y,k,bb,hk,a8⟩:=ce a4[i] (qM ag);have aw:=zMF hk;have t6:=t4.fed f6;have F6:=F4.trans f6;have bo:=t6.bx;obtain⟨dd,c5,cx,bq,bf,d0⟩:=bo;cases cx;refine(xah G _ _ (.str a4[i]) rfl rfl (zC (f6.1 _ _ ups Gf)) (xam (by rw[zGM,zGA ag];rfl)) ?_);refine(xbq _ rfl _ rfl bl c5 (bKV bs) rfl bq (xm5 bf) (λp hp=>?_));have sp:=zA hp (.dK (xc2 [] (bKV bs)));have bn:=DGet.rd (H:=upd H6 p (.dK (xc2 [] (bKV bs)))) (a:=p) (kvs:=xc2 [] (bKV bs)) (k:=(Sum.inr a4[i]:Key)) (Or.inl ups);rw[xse ti.nd bb]at bn;refine(xar _ rfl p (.str y) rfl bn ?_);have t7:=t6.same sp;refine(xbn kv ks y rfl ((wf.ksAt t7.kd).seq) (λt ba H8 s8 ht rp=>(xah t _ _ _ rfl rfl (zB ht) rfl ?_)));have t8:=t7.same s8;have F8:=F6.same (sp.trans s8);rw[hk]at rp;have c9:=rp;obtain⟨a,us,rfl,av,au⟩:=rp;have hl:=au.length;rw[zLM]at hl;have h5:=wf.pts k aw;refine(xbl _ rfl _ _ rfl rfl _ rfl (xb6 _ rfl a _ rfl (.inr (zB av)) _ _ rfl rfl (jAEE (.inl ⟨by omega,by omega⟩) _ _ (jAA rfl rfl (jEA _ rfl (ite2 (λc4=>?_) (λc4=>?_)))))))
    ·have c0:smK ks x*(us.length:Int)<=l-2:=z0 c4
     rw[hl]at c0;obtain⟨m',rfl⟩:∃m',m=m'+1:=⟨m-1,by omega⟩;refine(jEAA _ rfl (by walk_at"s") (λt1 al=>?_));have y1:=zA al (.tup [.str (S "box"),.str a4[i]]);refine(xa1 _ rfl _ rfl _ rfl _ rfl _ rfl (xbl _ rfl _ _ rfl rfl _ rfl (xaz m' (by omega) f' kv (.ref bl) (.ref a) (xaj ks bs k.parts x (l-2) rfl (t8.same y1) (by omega) (c9.same y1 _) (wf.alt k aw a8) (jAAA h5 (wf.pnd k aw) (λp hp=>xg5 wf aw hp) (jAA ax c0 (λu rs H9 f9 ru bi bh ci cg=>⟨(by walk_at"s"),λt2 a7=>?_⟩)))))));have y2:=zA a7 (.tup [.str (S "case"),.ref t1,u]);have co:=xai (t8.same y1).fd f9 _ _ ups;exact q _ (xnw (tBox a4[i]) rs) _ (((F8.same y1).trans f9).same y2) (xat t2 _ rfl ups _ _ rfl rfl _ (xbu _ rfl (xat t1 _ rfl (y2 _ _ co) _ _ rfl rfl _ (jEAA _ rfl rfl rfl)) _ _ rfl (ru.same y2 _) rfl)) (TmB.le (xs8 wf hk a8 (xoo bb) (by omega) ci bi bh cg) (by omega))
    ·refine a1 _ _ ?_
     exact(xa1 _ rfl _ rfl _ rfl _ rfl _ rfl (xaz _ rfl f' kv (.ref bl) ks (xaj bs x l m j rfl ac a0 t8 m8 (jAA Z J (λa d I fd ra Y=>q a d I (F8.trans fd) ra Y)))))
   ·refine a1 _ _ ?_
    exact(xa1 _ rfl _ rfl _ rfl _ rfl _ rfl (xaz _ rfl f' kv (.ref bl) ks (xaj bs x l m j rfl ac a0 t4 m8 (jAA Z J (λa d I fd ra Y=>q a d I (F4.trans fd) ra Y)))))
  ·refine a1 _ _ ?_
   exact(xa1 _ rfl _ rfl _ rfl _ rfl _ rfl (xaz _ rfl f' kv (.ref bl) ks (xaj bs x l m j rfl ac a0 t3 m8 (jAA Z J (λa d I fd ra Y=>q a d I (F3.trans fd) ra Y)))))
 refine(xa5 _ rfl rfl _ rfl (iteKF (zDF λz=>e5 (V.int.inj z)) (iteF ?_)));refine a1 _ _ ?_;exact(xa1 _ rfl _ rfl _ rfl _ rfl _ rfl (xaz _ rfl f' kv (.ref bl) ks (xaj bs x l m j rfl ac a0 t3 m8 (jAA Z J (λa d I fd ra Y=>q a d I (F3.trans fd) ra Y)))))
theorem xs7(T:Tx K e):∀c,DefIs P w K e base (3*c+10) "_law_term" qah (spTw c):=by
 intro c
 induction c using Nat.strongRecOn with
 |_ c g=>
  have take:∀k,DefIs P w K e base (k+1) "_law_take" qae xcw:=λk=>xd6 T;have b:∀k,8<=k->DefIs P w K e base k "_law_small" qad (spSm smK 6):=λk j=>(xii T 6).mono j;have a:DefIs P w K e base (3*c+7) "_law_term" qah (xq8 c):=DefIs.anyP (Pr:=λf=>f<c) (sps:=spTw) T.j9 λf h=>(g f h).mono (by omega);exact xrh (n:=3*c+9) T (take _) (xpq (n:=3*c+8) T (take _)) (b _ (by omega)) (xcq T) (a.mono (by omega)) (DefIs.anyP (Pr:=λm=>7*m+6<c) (sps:=xlk) T.j7 λm i=>xrm (n:=3*c+8) T i (take _) (a.mono (by omega))) (xhl (n:=3*c+8) T (xcq T) (take _) (xeu T (take _)) (b _ (by omega)) (a.mono (by omega)))
def xjl:Sp:=λvs H Q _=>∃(f:Addr) (kv bv:V) (ks:List Kn) (bs:List (Str×Str)) (x:Str),vs=[.ref f,kv,bv,.str x]/\TIn H f kv bv ks bs 3/\KIn ks 6 x/\∀a d H',Fed f H H'->RelD H' (.ref a) d->TmB ks 21 bs d x->Q (.ref a) H'
def spTC:Sp:=λvs H Q E=>∃c,c<=20/\spTw c vs H Q E
theorem xj5 (T:Tx K j) (e:DefIs P w K j base n "_law_take" qae xcw) (b:DefIs P w K j base n "_law_small" qad (spSm smK 6)) (c:DefIs P w K j base n "_law_term" qah spTC) :
  DefIs P w K j base (n+1) "_law_new_term" qal xjl:=by
 refine DefIs.of T.kA xjq (by walk_at"l") (λf U A outer s H vs Q E l h=>?_);obtain⟨y,p,Y,ks,bs,x,rfl,i,g,q⟩:=h;refine(jEA _ (zpo (xaf (pd c l (va 0 (va 1 (va 2 (va 3 (pc (xaq xbk (pd b l (va 1 (v1 3))) (pd e l (va 0 (pc pI pN zso)))) (pc pI pN zso) xa8)))))))) ?_);refine(xa1 _ rfl _ rfl _ rfl _ rfl _ rfl (jEA _ rfl (xa6 p ks x rfl i.kd i.wf g (λH1 o=>?_))));have m:=i.same o;obtain⟨p0,q0,I⟩:=i.fd;obtain⟨G,C,M⟩:=m.fd;refine(xaa _ rfl y G C _ rfl M (by decide) (by decide) (λr H2 r0 r1 u=>?_));refine(xaw _ _ rfl rfl (xaz 20 (zZ _) y p Y ks (xaj bs x _ 2 6 rfl rfl (by decide) (m.fed u) (by decide) (jAA g (by omega) (λa d Z O z J=>q a d Z ((((Fed.refl I).same o).trans u).trans O) z J)))))
theorem xlx(T:Tx K a):DefIs P w K a base 80 "_law_new_term" qal xjl:=
 xj5 (n:=79) T (xd6 T) ((xii T 6).mono (by omega)) (DefIs.anyP (Pr:=λc=>c<=20) (sps:=spTw) T.j9 λc b=>(xs7 T c).mono (by omega))
def spNu(F:Nat->List Kn->Str->D)(m:Nat):Sp:=λvs H Q _=>∃v ks x,vs=[v,.str x]/\RelD H v (xef ks)/\KWf ks/\KIn ks m x/\∀u H',Same H H'->RelD H' u (F (m+1) ks x)->Q u H'
theorem xj9 (T:Tx K mg) (M:Sp) (g:DefIs P w K mg base n "parts_of" qaj xgo) (l:DefIs P w K mg base n "sort_of" qaj xmr) (c:DefIs P w K mg base n "nought" qas M) (Z:∀j,m=j+1->M=spNu nuV j) :
  DefIs P w K mg base (n+1) "nought" qas (spNu nuV m):=by
 refine DefIs.of T.jI sc_nought (by walk_at"l") (λf a7 A outer s H vs Q E hr h=>?_);obtain⟨v,ks,x,rfl,hk,J,a6,q⟩:=h;have nd:=sc_nought.nd
 refine⟨_,(zpn (xba (pR xbf (pv 1) pS (nM _)) (zpo (xaf pI)) pQ)
   (zpn (psn 2 nd (pd g hr (va 0 (v1 1))))
   (zpn (xba (pR xbf (pd l hr (va 0 (v1 1))) pS (nM _)) (zpo (xaf (xa2 (va 1 (pc (xau (xbx (K:=K) rfl) rfl T.uC zK (pc (xbh ["part","kinds"] [none,some 0] rfl (by kernel_rfl) (xas (K:=K) rfl (pv 2)) (λ_ _ _ _=>(pgc 0)) (λ_ _ _ _=>xbo) (λ_ _ _ _=>(pd c hr (va 1 (pc (px K (pv 0) pI) pN ss))))) pN xbt)) pN zsc))))) pQ)
   (zpo (xaf (xa2 (va 1 (pc (px K (px K (pv 2) pI) pI) (pc (pd c hr (va 0 (pc (px K (px K (pv 2) pI) pI) pN ss))) pN zsc) ss)))))))),?_⟩
 rcases a6.nu J with⟨rfl,_,_,e⟩ |⟨j,k,rfl,a2,hn,hm,hp,a4,I⟩
 ·refine(xa5 _ rfl rfl _ rfl (iteKT (by walk_at"k") ?_))
  rw[e]at q;exact q _ _ (Same.refl _) rfl
 ·have D':=Z j rfl
  subst D';refine(xa5 _ rfl rfl _ rfl (iteKF (zDF λz=>a4 (V.str.inj z)) ?_));refine(xc3 _ rfl _ rfl v ks x rfl (J.ksAt hk) (λu H1 Y r1=>?_));rw[a2]at r1;obtain⟨a,us,rfl,ha,C⟩:=r1;have hl:=C.length;rw[zLM]at hl;have h5:=J.pts k hm;refine(xc3 _ rfl _ rfl v ks x rfl (J.ksAt (hk.same Y _)) ?_);rw[a2];rcases I with⟨hc,_,e⟩ |⟨hc,p,r,er,_,e⟩
  ·refine(jAEA rfl _ rfl (iteKT (zDT (by show V.str k.sort=_;rw[xer hc];rfl)) ?_))
   refine(jEA _ rfl (xbi _ rfl a rfl ⟨_,zB ha⟩ ?_));refine xgj (j:=0) (xs:=us) (λi ys H'=>Same H1 H'/\RelDs H' ys ((k.parts.take i).map λp=>nuV (j+1) ks p.2)) (by rfl) ⟨Same.refl _,rfl⟩ (xa3 (by omega)) (λi ys H' _ p=>zB (p.1 _ _ ha)) ?_ ?_
   ·rintro i y ys H' hy a1 ⟨O,o⟩
    obtain⟨d,hd,rd⟩:=C.get hy;rw[zGM]at hd;obtain⟨p,a0,rfl⟩:=zMS hd;obtain⟨b,ws,rfl,hb,_,_,rfl,rfl,_,_,rfl,rfl,rfl⟩:=rd;have hi:i<us.length:=(zES hy).1;refine(xan _ rfl _ rfl b _ _ (xbm _ rfl rfl (zB (O _ _ hb)) rfl (xa6 _ ks p.2 rfl (hk.same (Y.trans O) _) J (hp p (zMG a0)) (λu H2 G r2=>nxt hi a1 ⟨O.trans G,?_⟩))));rw[zTA,a0,zAP];exact(o.same G _).append (xaw u ([]) rfl r2 rfl)
   ·rintro ys H' a1 ⟨O,o⟩ D hD
    rw[zTL (by omega)]at o;refine(jEEA D ys rfl (.inl ⟨zC ups,λl' a5=>⟨(by walk_at"s"),λt ht=>?_⟩⟩));have G:=zA hD (.lst ys);have U:=zA a5 (.tup ys);have s4:=zA ht (.tup [.str x,.ref l']);rw[e]at q;exact q _ _ (Y.trans (O.trans (G.trans (U.trans s4)))) (xat t _ rfl ups _ _ rfl rfl _ (jEAA _ rfl (xaw l' ys rfl (s4 _ _ ups) (o.same (G.trans (U.trans s4)) _)) rfl))
  ·refine(jAEA rfl _ rfl (iteKF (zDF (by show ¬V.str k.sort=_;rw[xez hc];decide +kernel)) ?_))
   rw[er]at C;obtain⟨vp,rest,rfl,rp,_⟩:=C;obtain⟨b,ws,rfl,hb,_,_,rfl,rfl,_,_,rfl,rfl,rfl⟩:=rp;have a3:SqT K H1 a (.ref b::rest):=zB ha;have at0:atI (V.ref b::rest) 0=some (.ref b):=xam (j:=0) rfl;refine(xan _ rfl _ rfl a _ _ (xbm _ rfl rfl a3 at0 (xah b _ _ _ rfl rfl (zB hb) rfl ?_)));refine(xan _ rfl _ rfl a _ _ (xbm _ rfl rfl a3 at0 (xah b _ _ _ rfl rfl (zB hb) rfl ?_)));refine(xa6 _ ks p.2 rfl (hk.same Y _) J (hp p (by rw[er];simp)) (λu H2 G r2=>⟨(by walk_at"s"),λt ht=>?_⟩));have U:=zA ht (.tup [.str x,.str p.1,u]);rw[e]at q;exact q _ _ (Y.trans (G.trans U)) (xat t _ rfl ups _ _ rfl rfl _ (xbu _ rfl rfl _ _ rfl (r2.same U _) rfl))
theorem xfl(T:Tx K a):∀m,DefIs P w K a base (m+2) "nought" qas (spNu nuV m)
 |0=>xj9 (n:=1) T (λ_ _ _ _=>False) (xfa T) (xhz T) (DefIs.none T.jI λ_ _ _ _ h=>h) (λj e=>by cases e)
 |m+1=>xj9 (n:=m+2) T (spNu nuV m) (xfa T) (xhz T) (xfl T m) (λj e=>by cases e;rfl)
def xot:Sp:=λvs H Q _=>∃(tv:V) (x:Str) (hs:List Hand) (hd:Hand),vs=[tv,.str x]/\RelD H tv (.tup (hs.map Hand.d))/\hs.find? (λh=>decide (h.name=x))=some hd/\∀u,RelD H u hd.d->Q u H
def xgb:Sp:=λvs H Q _=>∃(mv:V) (x:Str) (mk:Mak) (hd:Hand),vs=[mv,.str x]/\RelD H mv mk.d/\xed mk x=some hd/\∀u,RelD H u hd.d->Q u H
def chTo(mk:Mak)(x:Str):List Str:=(mk.chans.filter λc=>decide (c.2.2.1=x)).map (·.1)
def xd4(mk:Mak)(x:Str):List Str:=(mk.chans.filter λc=>decide (c.2.1=x)).map (·.1)
def xih(F:Mak->Str->List Str):Sp:=λvs H Q _=>∃(mv:V) (x:Str) (mk:Mak),vs=[mv,.str x]/\RelD H mv mk.d/\mk.chans.length<=6/\∀b,H b=none->Q (.ref b) (upd H b (.lst ((F mk x).map V.str)))
def begL(mk:Mak)(hd:Hand):List (Str×D):=hd.boxes.map λb=>(b.1,nuV 7 mk.kinds b.2)
def xlj:Sp:=λvs H Q _=>∃(mv:V) (x:Str) (mk:Mak) (hd:Hand),vs=[mv,.str x]/\RelD H mv mk.d/\MakOk mk/\xed mk x=some hd/\∀a p H',Same H H'->H p=none->StAt H' a p 0 (begL mk hd)->Q (.ref a) H'
def xgs:Sp:=λvs H Q _=>∃(sa p:Addr) (k:Nat) (bx:List (Str×D)),vs=[.ref sa]/\StAt H sa p k bx/\bx.length<=100/\∀a' p' H',Same H H'->H p'=none->StAt H' a' p' k bx->Q (.ref a') H'
def xif:Sp:=λvs H Q _=>∃(d:Addr) (kvs:List (Key×V)) (cs:Lts) (L:List Addr),vs=[.ref d]/\H d=some (.dK kvs)/\LsAt H kvs cs L/\(cs.map (·.1)).Nodup/\cs.length<=100/\∀d' kvs' L' H',Same H H'->H d'=none->(∀a∈L',H a=none)->(d'::L').Nodup->H' d'=some (.dK kvs')->LsAt H' kvs' cs L'->Q (.ref d') H'
def xgn:Sp:=λvs H Q _=>∃(mv:V) (x:Str) (sa p:Addr) (k:Nat) (mk:Mak) (hd:Hand) (r:Row),vs=[mv,.str x,.ref sa]/\RelD H mv mk.d/\xed mk x=some hd/\H sa=some (.tup [.int k,.ref p])/\hd.rows[k]?=some r/\∀u,RelD H u r.d->Q u H
def xli:Sp:=λvs H Q _=>∃(rv:V) (ca:Addr) (r:Row),vs=[rv,.ref ca]/\RelD H rv r.d/\(match r with
 |.take _ c _=>∃kvs la us,H ca=some (.dK kvs)/\valV kvs (Sum.inr c)=some (.ref la)/\H la=some (.lst us)/\Q (us.headD .non) H
 |_=>Q .non H)
def xsh:Sp:=λvs H Q _=>∃(mv rv:V) (sa p:Addr) (k:Nat) (bx:List (Str×D)) (mk:Mak) (bs:List (Str×Str)) (r:Row),vs=[mv,rv,.ref sa]/\RelD H mv mk.d/\KWf mk.kinds/\RelD H rv r.d/\r≠.fin/\StAt H sa p k bx/\bx.length<=6/\FitB mk.kinds bs (enOf bx)/\(∀t g,r=.cond t g->TmOk mk.kinds 21 bs t (S "num"))/\∀H',Same H H'->Q (.int (xc4 mk.kinds bx k r:Nat)) H'
def xu2:Sp:=λvs H Q _=>∃(mv rv lv:V) (p:Addr) (kvs:List (Key×V)) (bx:List (Str×D)) (l:D) (mk:Mak) (bs:List (Str×Str)) (r:Row),vs=[mv,rv,.ref p,lv]/\RelD H mv mk.d/\KWf mk.kinds/\RelD H rv r.d/\H p=some (.dK kvs)/\KvD H kvs bx/\bx.length<=6/\FitB mk.kinds bs (enOf bx)/\(∀x t,r=.set x t->∃k,TmOk mk.kinds 21 bs t k)/\(∀n c x,r=.take n c x->RelD H lv l) ∧
 ∀p' kvs' H',Same H H'->p'=p\/H p'=none->H' p'=some (.dK kvs')->KvD H' kvs' (xec mk.kinds bx l r)->Q (.ref p') H'
theorem hd_d{H:Hp}{u:V}{hd:Hand}(h:RelD H u hd.d):∃a c b,u=.ref a/\H a=some (.tup [.str hd.name,c,b])/\RelD H c (xee hd.boxes)/\RelD H b (.tup (hd.rows.map Row.d)):=by
 obtain⟨a,us,e,f,_,_,rfl,rfl,c,_,rfl,i,b,_,rfl,g,rfl⟩:=h;exact(xcm a c b e f i g)
theorem mk_d{H:Hp}{u:V}{b:Mak}(h:RelD H u b.d):∃a c g f,u=.ref a/\H a=some (.tup [c,g,f])/\RelD H c (xef b.kinds)/\RelD H g (.tup (b.chans.map dChn))/\RelD H f (.tup (b.hands.map Hand.d)):=by
 obtain⟨a,us,e,i,c,_,rfl,h0,g,_,rfl,l,f,_,rfl,j,rfl⟩:=h;exact(xah a c g f e i h0 l j)
theorem xjy{H:Hp}{u:V}{r:Row}(h:RelD H u r.d):∃a us,u=.ref a/\H a=some (.tup (.str r.hd::us))/\RelDs H us r.as:=by
 obtain⟨a,us,e,c,_,b,rfl,rfl,f⟩:=h;exact(xaw a b e c f)
theorem xro(T:Tx K G):DefIs P w K G base (n+1) "named" qbb xot:=by
 refine DefIs.of T.jC sc_named (by walk_at"l") (λf U A outer s H vs Q E hr h=>?_);obtain⟨Y,x,hs,hd,rfl,J,r,q⟩:=h;have nd:=sc_named.nd
 refine⟨_,(zpn (xb5 zF rfl (xas (K:=K) rfl (pv 0)) (pgn 2 nd)
   (zpo (xba (pR xbf (px K (pv 2) pI) (pv 1) (nM _)) (zpo (xaf (pv 2))) pQ)))
   (zpo (xaf xeh))),?_⟩
 obtain⟨a,us,rfl,u,y⟩:=J;refine(xbi _ rfl a rfl ⟨_,zB u⟩ ?_);have M:=y.length;rw[zLM]at M;refine xcz (xs:=us) (λi σ l=>∃o,σ=[some (.ref a),some (.str x),o]/\l=H/\(hs.take i).find? (λh=>decide (h.name=x))=none) (jEAA none rfl rfl rfl) (λi σ l _ p=>?_) ?_ ?_
 ·obtain⟨_,_,rfl,_⟩:=p
  exact zB u
 ·rintro i v σ l I ⟨o,rfl,rfl,hn⟩
  obtain⟨d,j,rd⟩:=y.get I;rw[zGM]at j;obtain⟨h',g,rfl⟩:=zMS j;have m:=rd;obtain⟨b,bv,Z,rfl,O,_,_⟩:=hd_d rd;refine(xaa _ rfl b _ _ _ rfl rfl (zB O) rfl (xa5 _ rfl rfl _ rfl (ite2 (λc=>?_) (λc=>?_))))
  ·have e:h'.name=x:=V.str.inj (z0 c)
   have C:=(xdj hn g).1 (zDT e);rw[r]at C;cases C;exact(jEA _ rfl (q _ m))
  ·have e:¬h'.name=x:=λz=>c (zDT (congrArg V.str z))
   exact(jEAA _ rfl rfl ((xdj hn g).2 (zDF e)))
 ·rintro σ l ⟨o,rfl,rfl,hn⟩
  rw[zTL (by omega),r]at hn;cases hn
theorem xn4(T:Tx K c)(b:DefIs P w K c base n "named" qbb xot):DefIs P w K c base (n+1) "hand_of" qac xgb:=by
 refine DefIs.of T.jB xn1 (by walk_at"l") (λf o A outer s H vs Q E g h=>?_);obtain⟨p,x,e,hd,rfl,i,j,q⟩:=h;obtain⟨a,r,y,u,rfl,l,_,_,m⟩:=mk_d i;refine(jEA _ (zpo (xaf (pd b g (pc (px K (pv 0) pI) (v1 1) ss)))) ?_);exact(xaa _ rfl a _ _ _ rfl rfl (zB l) rfl (xaz _ rfl _ x e.hands hd (jAAA rfl m j q)))
theorem xdz{H:Hp}{us:List V}{cs:List Chn}(g:RelDs H us (cs.map dChn)){i:Nat}{v:V}(a:us[i]?=some v):∃(b:Addr) (c:Chn),cs[i]?=some c/\v=.ref b/\H b=some (.tup [.str c.1,.str c.2.1,.str c.2.2.1,.str c.2.2.2]):=by
 obtain⟨d,hd,rd⟩:=g.get a;rw[zGM]at hd;obtain⟨c,e,rfl⟩:=zMS hd;obtain⟨b,ws,rfl,f,_,_,rfl,rfl,_,_,rfl,rfl,_,_,rfl,rfl,_,_,rfl,rfl,rfl⟩:=rd;exact(xaw b c e rfl f)
theorem xcc{α:Type}{p:α->Bool}{xs:List α}{i:Nat}{a:α}(h:xs[i]?=some a):(xs.take (i+1)).filter p=(xs.take i).filter p++if p a=true then [a] else []:=by
 rw[zTA,h,List.filter_append];congr 1;show List.filter p [a]=_;rw[List.filter_cons];split <;> rfl
theorem xhn(T:Tx K C):DefIs P w K C base (n+1) "channels_to" qac (xih chTo):=by
 refine DefIs.of T.jE xhh (by walk_at"l") (λf Y A outer s H vs Q E hr h=>?_);obtain⟨mv,x,u,rfl,I,h6,q⟩:=h;obtain⟨a,kv,cv,hv,rfl,M,_,U,_⟩:=mk_d I;obtain⟨Z,us,rfl,j,r⟩:=U;have J:=r.length;rw[zLM]at J;refine(jEA _ (zpo (xaf (xbh ["channel","h"] [none,some 1] rfl (by kernel_rfl) (xas (K:=K) rfl (px K (pv 0) pI)) (λ_ _ _ _=>(pgc 0)) (λ_ _ _ _=>(xdr (pR xbf (px K (pv 0) pI) (pv 1) (nM _)))) (λ_ _ _ _=>(px K (pv 0) pI))))) ?_);refine(xaa _ rfl a _ _ _ rfl rfl (zB M) rfl (jEAA Z rfl ⟨_,zB j⟩ ?_));refine xbj (xs:=us) (λi ys l=>l=H/\ys=(((u.chans.take i).filter λc=>decide (c.2.2.1=x)).map (·.1)).map V.str) ⟨rfl,rfl⟩ (xa3 (by omega)) (λi ys l _ p=>by obtain⟨rfl,_⟩:=p;exact zB j) ?_ ?_
 ·rintro i y ys l G hi g ⟨rfl,rfl⟩
  obtain⟨b,c,m,rfl,o⟩:=xdz r G;refine⟨ext1 rfl,?_⟩;refine(xaa _ rfl b _ _ _ rfl rfl (zB o) rfl (xa5 _ rfl rfl _ rfl (ite2 (λe=>?_) (λe=>?_))))
  ·refine(xaa _ rfl b _ _ _ rfl rfl (zB o) rfl (nxtG hi g ⟨rfl,?_⟩))
   rw[xcc m,if_pos (zDT (V.str.inj (z0 e))),zAP,zAP];rfl
  ·refine nxtN hi g ⟨rfl,?_⟩
   rw[xcc m,if_neg (λz=>e (zDT (congrArg V.str (z0 z)))),List.append_nil]
 ·rintro ys l g ⟨rfl,rfl⟩ D O
  rw[zTL (by omega)];exact q D O
theorem xf3(T:Tx K C):DefIs P w K C base (n+1) "channels_from" qac (xih xd4):=by
 refine DefIs.of T.jD xf1 (by walk_at"l") (λf Y A outer s H vs Q E hr h=>?_);obtain⟨mv,x,u,rfl,I,h6,q⟩:=h;obtain⟨a,kv,cv,hv,rfl,M,_,U,_⟩:=mk_d I;obtain⟨Z,us,rfl,j,r⟩:=U;have J:=r.length;rw[zLM]at J;refine(jEA _ (zpo (xaf (xbh ["channel","h"] [none,some 1] rfl (by kernel_rfl) (xas (K:=K) rfl (px K (pv 0) pI)) (λ_ _ _ _=>(pgc 0)) (λ_ _ _ _=>(xdr (pR xbf (px K (pv 0) pI) (pv 1) (nM _)))) (λ_ _ _ _=>(px K (pv 0) pI))))) ?_);refine(xaa _ rfl a _ _ _ rfl rfl (zB M) rfl (jEAA Z rfl ⟨_,zB j⟩ ?_));refine xbj (xs:=us) (λi ys l=>l=H/\ys=(((u.chans.take i).filter λc=>decide (c.2.1=x)).map (·.1)).map V.str) ⟨rfl,rfl⟩ (xa3 (by omega)) (λi ys l _ p=>by obtain⟨rfl,_⟩:=p;exact zB j) ?_ ?_
 ·rintro i y ys l G hi g ⟨rfl,rfl⟩
  obtain⟨b,c,m,rfl,o⟩:=xdz r G;refine⟨ext1 rfl,?_⟩;refine(xaa _ rfl b _ _ _ rfl rfl (zB o) rfl (xa5 _ rfl rfl _ rfl (ite2 (λe=>?_) (λe=>?_))))
  ·refine(xaa _ rfl b _ _ _ rfl rfl (zB o) rfl (nxtG hi g ⟨rfl,?_⟩))
   rw[xcc m,if_pos (zDT (V.str.inj (z0 e))),zAP,zAP];rfl
  ·refine nxtN hi g ⟨rfl,?_⟩
   rw[xcc m,if_neg (λz=>e (zDT (congrArg V.str (z0 z)))),List.append_nil]
 ·rintro ys l g ⟨rfl,rfl⟩ D O
  rw[zTL (by omega)];exact q D O
def Row.wy(k:Nat):Row->List Nat
 |.go g=>[g]
 |.cond _ g=>[g,k+1]
 |.fin=>[]
 |_=>[k+1]
def xjj:Sp:=λvs H Q _=>∃(rv:V) (k:Nat) (r:Row),vs=[rv,.int k]/\RelD H rv r.d/\∀a H',Same H H'->H' a=some (.tup ((Row.wy k r).map λi:Nat=>V.int i))->Q (.ref a) H'
theorem xlt(T:Tx K mg):DefIs P w K mg base (n+1) "row_ways" ["row","k"] xjj:=by
 refine DefIs.of T.jA xll (by walk_at"l") (λf cdv A outer s H vs Q E hr h=>?_);obtain⟨rv,k,r,rfl,hrr,q⟩:=h;obtain⟨a,us,rfl,ha,hus⟩:=xjy hrr
 refine⟨_,(zpn (xba (pR xbf (px K (pv 0) pI) pS (nM _)) (zpo (xaf (xa2 (pc (px K (pv 0) pI) pN ss)))) pQ)
   (zpn (xba (pR xbf (px K (pv 0) pI) pS (nM _)) (zpo (xaf (xa2 (pc (px K (pv 0) pI) (pc (xaq xbk (pv 1) pI) pN xa8) ss)))) pQ)
   (zpn (xba (pR xbf (px K (pv 0) pI) pS (nM _)) (zpo (xaf (xa2 pN))) pQ)
   (zpo (xaf (xa2 (pc (xaq xbk (pv 1) pI) pN xa8))))))),?_⟩
 have hh:SqT K H a (.str r.hd::us):=zB ha;have h0:atI (V.str r.hd::us) 0=some (.str r.hd):=xam (j:=0) rfl
 cases r with
 |go g=>
  obtain⟨_,_,rfl,rfl,rfl⟩:=hus;refine(xaa _ rfl a _ _ _ rfl rfl hh h0 (jAEA rfl _ rfl (iteKT (hdT rfl) ?_)));exact(xaa _ rfl a _ _ _ rfl rfl hh rfl ⟨(by walk_at"s"),λp hp=>q p _ (zA hp _) ups⟩)
 |cond t g=>
  obtain⟨_,_,rfl,_,_,_,rfl,rfl,rfl⟩:=hus;refine(xaa _ rfl a _ _ _ rfl rfl hh h0 (jAEA rfl _ rfl (iteKF (hdF (xua (by intro _ e;cases e))) ?_)));refine(xaa _ rfl a _ _ _ rfl rfl hh h0 (jAEA rfl _ rfl (iteKT (hdT rfl) ?_)));exact(xaa _ rfl a _ _ _ rfl rfl hh rfl (xar _ rfl _ _ rfl rfl ⟨(by walk_at"s"),λp hp=>q p _ (zA hp _) (by rw[ups];rfl)⟩))
 |fin=>
  refine(xaa _ rfl a _ _ _ rfl rfl hh h0 (jAEA rfl _ rfl (iteKF (hdF (xua (by intro _ e;cases e))) ?_)));refine(xaa _ rfl a _ _ _ rfl rfl hh h0 (jAEA rfl _ rfl (iteKF (hdF (xt9 (by intro _ _ e;cases e))) ?_)));refine(xaa _ rfl a _ _ _ rfl rfl hh h0 (jAEA rfl _ rfl (iteKT (hdT rfl) ?_)));exact⟨(by walk_at"s"),λp hp=>q p _ (zA hp _) ups⟩
 |_=>
  refine(xaa _ rfl a _ _ _ rfl rfl hh h0 (jAEA rfl _ rfl (iteKF (hdF (xua (by intro _ e;cases e))) ?_)));refine(xaa _ rfl a _ _ _ rfl rfl hh h0 (jAEA rfl _ rfl (iteKF (hdF (xt9 (by intro _ _ e;cases e))) ?_)));refine(xaa _ rfl a _ _ _ rfl rfl hh h0 (jAEA rfl _ rfl (iteKF (hdF (xkt (by intro e;cases e))) ?_)));exact(xar _ rfl _ _ rfl rfl ⟨(by walk_at"s"),λp hp=>q p _ (zA hp _) (by rw[ups];rfl)⟩)
theorem xps(T:Tx K mg)(D_hand_of:DefIs P w K mg base n "hand_of" qac xgb):DefIs P w K mg base (n+1) "row_at" qak xgn:=by
 refine DefIs.of T.jQ xo6 (by walk_at"l") (λf cdv A outer s H vs Q E hr h=>?_);obtain⟨mv,x,sa,p,k,mk,hd,r,rfl,hm,hf,hsa,hk,q⟩:=h;refine(jEA _ (zpo (xaf (px K (px K (pd D_hand_of hr (va 0 (v1 1))) pI) (px K (pv 2) pI)))) ?_);refine(xan _ rfl _ rfl mv x mk (xb8 hd rfl hm hf (λu hu=>?_)));obtain⟨a,bv,rv,rfl,ha,_,h2⟩:=hd_d hu;obtain⟨ra,us,rfl,hra,hR⟩:=h2;refine(xbe a _ _ _ rfl rfl (zB ha) rfl _ (jAEE rfl sa _ (xci _ _ rfl rfl (zB hsa) rfl ?_)));have hl:=hR.length;rw[zLM]at hl;have hk':=(zES hk).1;have hv:us[k]?=some (us[k]'(by omega)):=zGA _;obtain⟨d,hd',rd⟩:=hR.get hv;rw[zGM,hk]at hd';cases hd';exact(xah ra _ _ _ rfl rfl (zB hra) (xam hv) (q _ rd))
theorem xel(T:Tx K mg):DefIs P w K mg base (n+1) "first_letter" qat xli:=by
 refine DefIs.of T.jR xgv (by walk_at"l") (λf cdv A outer s H vs Q E hr h=>?_);obtain⟨rv,ca,r,rfl,hrr,q⟩:=h;have hu:=xd2 hr;obtain⟨a,us,rfl,ha,hus⟩:=xjy hrr
 refine⟨_,(zpn (xba (PW.pt (xcu (pR xbf (px K (pv 0) pI) pS (nM _)) (xcg (pR xd0 (xax (xag (K:=K) rfl) rfl T.kY zE (pc (xb2 hu (pv 1) (px K (pv 0) pI) (λ_ _=>rfl)) pN ss)) pI (nM _))))) (zpo (xaf (pxl K (xb2 hu (pv 1) (px K (pv 0) pI) (λ_ _=>rfl)) pI))) pQ)
   (zpo (xaf xeh))),?_⟩
 have hh:SqT K H a (.str r.hd::us):=zB ha;have h0:atI (V.str r.hd::us) 0=some (.str r.hd):=xam (j:=0) rfl
 cases r with
 | take l c x=>
  obtain⟨_,_,rfl,rfl,_,_,rfl,rfl,_,_,rfl,rfl,rfl⟩:=hus;obtain⟨kvs,la,zs,hca,hv,hla,q⟩:=q
  have gd:DGet H ca (.str c) (some (.ref la)):=by
   have:=DGet.rd (k:=Sum.inr c) (.inl hca);rw[hv]at this;exact this
  refine(xaa _ rfl a _ _ _ rfl rfl hh h0 (jAEA rfl _ rfl (iteKT (hdT rfl) ?_)));refine(xan _ rfl _ rfl a _ _ (xbm _ rfl rfl hh rfl (xat ca _ rfl gd la _ rfl (.inl (zC hla)) _ (xa5 _ rfl rfl _ rfl ?_))))
  cases zs with
  |nil=>exact iteKF (by decide) q
  |cons z zs=>
   refine iteKT (zDT (by show(0:Int)<((zs.length+1:Nat):Int);omega)) ?_;exact(xan _ rfl _ rfl a _ _ (xbm _ rfl rfl hh rfl (xaw ca _ rfl gd (xah la _ _ _ rfl rfl (zC hla) (xam (j:=0) rfl) q))))
 |_=>
  exact(xaa _ rfl a _ _ _ rfl rfl hh h0 (jAEA rfl _ rfl (iteKF (hdF (xfd (by intro _ _ _ e;cases e))) (iteF q))))
theorem xiv(T:Tx K mg)(D_row_ways:DefIs P w K mg base n "row_ways" ["row","k"] xjj)(D_worth:DefIs P w K mg base n "worth" qaf (xdq (λks=>Ev ks 21) 6)):DefIs P w K mg base (n+1) "row_behind" qbd xsh:=by
 refine DefIs.of T.jT sc_row_behind (by walk_at"l") (λf cdv A outer s H vs Q E hr h=>?_);obtain⟨mv,rv,sa,p,k,bx,mk,bs,r,rfl,hm,wf,hrr,hne,hst,h6,hfit,hcond,q⟩:=h;have nd:=sc_row_behind.nd;have hrr0:=hrr;obtain⟨a,us,rfl,ha,hus⟩:=xjy hrr;obtain⟨hsa,kvs,hp,hkv⟩:=hst;obtain⟨ma,kv,cv,hv,rfl,hma,hk0,_,_⟩:=mk_d hm
 refine⟨_,(zpn (psn 3 nd (pd D_row_ways hr (va 1 (pc (px K (pv 2) pI) pN ss))))
   (zpn (xba (PW.pt (xcu (pR xbf (px K (pv 1) pI) pS (nM _)) (xcg (pR xbf (pd D_worth hr (pc (px K (pv 0) pI) (pc (px K (pv 1) pI) (pc (px K (pv 2) pI) pN ss) ss) ss)) pI (nM _))))) (zpo (xaf (px K (pv 3) pI))) pQ)
   (zpo (xaf (px K (pv 3) pI))))),?_⟩
 refine(xan _ rfl _ rfl sa _ _ (xbm _ rfl rfl (zB hsa) rfl (xbn _ k r rfl hrr0 (λwa H1 s1 hwa=>?_))));have hh:SqT K H1 a (.str r.hd::us):=zB (s1 _ _ ha);have h0:atI (V.str r.hd::us) 0=some (.str r.hd):=xam (j:=0) rfl
 cases r with
 |fin=>exact absurd rfl hne
 | cond t g=>
  obtain⟨tv,_,rfl,ht,_,_,rfl,rfl,rfl⟩:=hus;obtain⟨ev,vk⟩:=xh8 (hcond t g rfl) hfit;obtain⟨i,hi,e⟩:=xhv wf rfl vk;refine(xaa _ rfl a _ _ _ rfl rfl hh h0 (jAEA rfl _ rfl (iteKT (hdT rfl) ?_)));refine(xaa _ rfl ma _ _ _ rfl rfl (zB (s1 _ _ hma)) rfl (xaa _ rfl a _ _ _ rfl rfl hh rfl (xaa _ rfl sa _ _ _ rfl rfl (zB (s1 _ _ hsa)) rfl ?_)));refine(xal _ _ p mk.kinds t (xa9 (enOf bx) _ rfl (wf.ksAt (hk0.same s1 _)) (ht.same s1 _) (KvD.en (s1 _ _ hp) (hkv.tups (Same.tups s1)) h6) ev (λu H2 s2 hu=>?_)));rw[e]at hu;obtain rfl:u=.int i:=hu;refine(jAEA rfl _ rfl ?_);have s12:=s1.trans s2;by_cases h0:i=0
  ·subst h0
   refine iteKT (by decide) ?_;refine(xaa _ rfl wa _ _ _ rfl rfl (zB (s2 _ _ hwa)) rfl ?_);have:=q H2 s12;rw[show xc4 mk.kinds bx k (.cond t g)=k+1 from if_pos e]at this;exact this
  ·refine iteKF (zDF λz=>h0 (V.int.inj z)) ?_
   refine(xaa _ rfl wa _ _ _ rfl rfl (zB (s2 _ _ hwa)) rfl ?_);have:=q H2 s12;rw[show xc4 mk.kinds bx k (.cond t g)=g from if_neg λz=>h0 (by rw[e]at z;exact D.int.inj z)]at this;exact this
 |_=>
  refine(xaa _ rfl a _ _ _ rfl rfl hh h0 (jAEA rfl _ rfl (iteKF (hdF (xt9 (by intro _ _ e;cases e))) (iteF ?_))));exact(xaa _ rfl wa _ _ _ rfl rfl (zB hwa) rfl (q H1 s1))
theorem xgz(T:Tx K mg)(D_with_box:DefIs P w K mg base n "with_box" qar xu0)(D_worth:DefIs P w K mg base n "worth" qaf (xdq (λks=>Ev ks 21) 6)):DefIs P w K mg base (n+1) "boxes_behind" qa1 xu2:=by
 refine DefIs.of T.jU xgw (by walk_at"l") (λf cdv A outer s H vs Q E hr h=>?_);obtain⟨mv,rv,lv,p,kvs,bx,l,mk,bs,r,rfl,hm,wf,hrr,hp,hkv,h6,hfit,hset,htake,q⟩:=h;obtain⟨a,us,rfl,ha,hus⟩:=xjy hrr;obtain⟨ma,kv,cv,hv,rfl,hma,hk0,_,_⟩:=mk_d hm;have hkl:=hkv.length
 refine⟨_,(zpn (xba (pR xbf (px K (pv 1) pI) pS (nM _)) (zpo (xaf (pd D_with_box hr (va 2 (pc (px K (pv 1) pI) (pc (pd D_worth hr (pc (px K (pv 0) pI) (pc (px K (pv 1) pI) (v1 2) ss) ss)) pN zsc) ss))))) pQ)
   (zpn (xba (pR xbf (px K (pv 1) pI) pS (nM _)) (zpo (xaf (pd D_with_box hr (va 2 (pc (px K (pv 1) pI) (v1 3) ss))))) pQ)
   (zpo (xaf (pv 2))))),?_⟩
 have hh:SqT K H a (.str r.hd::us):=zB ha;have h0:atI (V.str r.hd::us) 0=some (.str r.hd):=xam (j:=0) rfl
 cases r with
 |set x t=>
  obtain⟨_,_,rfl,rfl,tv,_,rfl,ht,rfl⟩:=hus;obtain⟨kk,tok⟩:=hset x t rfl;obtain⟨ev,vk⟩:=xh8 tok hfit;refine(xaa _ rfl a _ _ _ rfl rfl hh h0 (jAEA rfl _ rfl (iteKT (hdT rfl) ?_)));refine(xan _ rfl _ rfl a _ _ (xbr _ rfl rfl hh rfl _ rfl ma _ _ (xbr _ rfl rfl (zB hma) rfl _ rfl a _ _ (xbm _ rfl rfl hh rfl (jEA _ rfl ?_)))));refine(xal _ _ p mk.kinds t (xa9 (enOf bx) _ rfl (wf.ksAt hk0) ht (KvD.en hp hkv h6) ev (λu H2 s2 hu=>?_)));refine(xc6 p x u kvs rfl (jAA (s2 _ _ hp) (by omega) (λp' H3 s3 hp' h3=>?_)));refine q p' _ H3 (s2.trans s3) (.inr (xae s2 hp')) h3 ?_;exact(hkv.tups (Same.tups (s2.trans s3))).put (hu.same s3 _)
 |take nm c x=>
  obtain⟨_,_,rfl,rfl,_,_,rfl,rfl,_,_,rfl,rfl,rfl⟩:=hus;refine(xaa _ rfl a _ _ _ rfl rfl hh h0 (jAEA rfl _ rfl (iteKF (hdF (xsv (by intro _ _ e;cases e))) ?_)));refine(xaa _ rfl a _ _ _ rfl rfl hh h0 (jAEA rfl _ rfl (iteKT (hdT rfl) ?_)));refine(xan _ rfl _ rfl a _ _ (xbr _ rfl rfl hh rfl _ rfl p x lv (xb8 kvs rfl hp (by omega) (λp' H3 s3 hp' h3=>?_))));refine q p' _ H3 s3 (.inr hp') h3 ?_;exact(hkv.tups (Same.tups s3)).put ((htake nm c x rfl).same s3 _)
 |_=>
  refine(xaa _ rfl a _ _ _ rfl rfl hh h0 (jAEA rfl _ rfl (iteKF (hdF (xsv (by intro _ _ e;cases e))) ?_)));refine(xaa _ rfl a _ _ _ rfl rfl hh h0 (jAEA rfl _ rfl (iteKF (hdF (xfd (by intro _ _ _ e;cases e))) ?_)));exact(jEA _ rfl (q p kvs H (Same.refl _) (.inl rfl) hp hkv))
theorem xl7{a:Mak}{x:Str}{hd:Hand}(h:xed a x=some hd):hd∈a.hands/\hd.name=x:=⟨zMF h,by
 have:=zU h;exact z0 this⟩
theorem xq0{a:Mak}{hd:Hand}(h:(hd.boxes.map (·.1)).Nodup):((begL a hd).map (·.1)).Nodup:=by
 unfold begL;rw[List.map_map];exact h
theorem xdy(T:Tx K l):DefIs P w K l base (n+1) "own_stand" ["stand"] xgs:=by
 refine DefIs.of T.jO xjs (by walk_at"l") (λf r A outer s H vs Q E u h=>?_);obtain⟨sa,p,k,bx,rfl,⟨a,kvs,o,e⟩,j,q⟩:=h;refine(jEA _ (zpo (xaf (xa2 (pc (px K (pv 0) pI) (pc (xau xh7 rfl T.kW zL (pc (px K (pv 0) pI) pN ss)) pN zsc) ss)))) ?_);refine(xaa _ rfl sa _ _ _ rfl rfl (zB a) rfl (xaa _ rfl sa _ _ _ rfl rfl (zB a) rfl (xaw p kvs rfl o (λc i=>⟨(by walk_at"s"),λt m=>?_⟩))));have g:=zA i (.dK kvs);have b:=zA m (.tup [.int k,.ref c]);exact q t c _ (g.trans b) i (jAEA ups kvs (b _ _ ups) (e.tups (Same.tups (g.trans b))))
theorem xfb(T:Tx K mg)(g:DefIs P w K mg base n "hand_of" qac xgb)(j:DefIs P w K mg base n "nought" qas (spNu nuV 6)):DefIs P w K mg base (n+1) "begin_of" qac xlj:=by
 refine DefIs.of T.jN xln (by walk_at"l") (λf a8 A outer s H vs Q E hr h=>?_);obtain⟨mv,x,o,hd,rfl,hm,I,hf,q⟩:=h;obtain⟨a4,a6⟩:=xl7 hf;have z:=I.hok hd a4;refine(jEA _ (zpo (xaf (xa2 (pc pI (pc (xau (xco rfl) rfl T.kW zL (pc (xbh ["x","kind","make"] [none,none,some 0] rfl (by kernel_rfl) (xas (K:=K) rfl (px K (pd g hr (va 0 (v1 1))) pI)) (λ_ _ _ _=>(xbc (K:=K) (n:=2) rfl rfl (xad (pgc 0) (xad (pgc 1) xbb)))) (λ_ _ _ _=>xbo) (λ_ _ _ _=>(xa2 (va 0 (pc (pd j hr (pc (px K (pv 2) pI) (v1 1) ss)) pN zsc))))) pN xbt)) pN zsc) zso)))) ?_);obtain⟨ma,kv,cv,hv,rfl,a1,a3,_,_⟩:=mk_d hm;refine(xan _ rfl _ rfl _ x o (xb8 hd rfl hm hf (λu hu=>?_)));obtain⟨a,bv,rv,rfl,ha,hb,_⟩:=hd_d hu;obtain⟨ba,us,rfl,O,hR⟩:=hb;have hl:=hR.length;rw[zLM]at hl;have h5:=z.few;refine(xbe a _ _ _ rfl rfl (zB ha) rfl ba (jAA rfl ⟨_,zB O⟩ ?_));refine xbj (xs:=us) (λi ys G=>Same H G/\∃kvs,PairsV G ys kvs/\KvD G kvs ((begL o hd).take i)) (jAEA (Same.refl _) ([]) trivial (by rw[List.take_zero];trivial)) (xa3 (by omega)) (λi ys G _ p=>zB (p.1 _ _ O)) ?_ ?_
 ·rintro i y ys G hy hi J ⟨m,kvs,r,l⟩
  obtain⟨d,M,rd⟩:=hR.get hy;rw[zGM]at M;obtain⟨b,U,rfl⟩:=zMS M;obtain⟨pb,ws,rfl,a0,_,_,rfl,rfl,_,_,rfl,rfl,rfl⟩:=rd;have a5:=zMG U;refine(xay pb _ rfl (zB (m _ _ a0)) rfl _ _ rfl _ (xb8 _ rfl rfl (ext2 rfl rfl) (xdn ?_)));refine(xan _ rfl _ rfl ma _ _ (xbr _ rfl rfl (zB (m _ _ a1)) rfl _ rfl kv o.kinds b.2 (jAAA rfl (a3.same m _) I.wf ⟨z.kin b a5,λu H2 s2 r2=>⟨(by walk_at"s"),λt Y=>nxtG hi J ?_⟩⟩)));have C:=zA Y (.tup [.str b.1,u]);refine(jAEA (m.trans (s2.trans C)) (kvs++[(Sum.inr b.1,u)]) ?_ ?_)
  ·exact(r.same (Same.tups (s2.trans C))).append ⟨(jEA t rfl ups),trivial⟩
  ·have e:(begL o hd).take (i+1)=(begL o hd).take i++[(b.1,nuV 7 o.kinds b.2)]:=by
    rw[zTA];unfold begL;rw[zGM,U];rfl
   rw[e];exact(l.tups (Same.tups (s2.trans C))).snoc (r2.same C _)
 ·rintro ys G J ⟨m,kvs,r,l⟩ D hD
  have Z:=zA hD (.lst ys);have a7:(begL o hd).length=us.length:=by unfold begL;rw[zLM,hl]
  rw[zTL (by omega)]at l;refine(xcm D ys kvs rfl ups (r.same (Same.tups Z)) (λc hc=>⟨(by walk_at"s"),λt Y=>?_⟩))
  have a2:(kvs.map (·.1)).Nodup:=by
   rw[l.keys];exact xkq (xq0 z.nd)
  rw[xdo a2]at Y⊢;have C:=zA hc (.dK kvs);have s4:=zA Y (.tup [.int 0,.ref c]);have sA:=Z.trans (C.trans s4);exact q t c _ (m.trans sA) (xae (m.trans Z) hc) (jAEA ups kvs (s4 _ _ ups) (l.tups (Same.tups sA)))
theorem xek(T:Tx K mg):DefIs P w K mg base (n+1) "own_lists" ["lists"] xif:=by
 refine DefIs.of T.jP xjt (by walk_at"l") (λf ah A outer s H vs Q E hr h=>?_);obtain⟨d,kvs,cs,L,rfl,hd,a0,aa,ag,q⟩:=h;have a1:=a0.lens;refine(jEA _ (zpo (xaf (xau (xco rfl) rfl T.kW zL (pc (xpe (xbh ["name","each"] [none,none] rfl (by kernel_rfl) (xm3 (pv 0)) (λ_ _ _ _=>(xbc (K:=K) (n:=2) rfl rfl (xad (pgc 0) (xad (pgc 1) xbb)))) (λ_ _ _ _=>xbo) (λ_ _ _ _=>(xa2 (va 0 (pc (xau (xfr (K:=K) rfl) rfl T.kZ zM (v1 1)) pN zsc)))))) pN xbt)))) ?_);refine(xar _ rfl d kvs rfl hd (λo nz=>?_));have C:∀{g:Hp},Same (upd H d (.frz o (.dK kvs))) g->∀b u,H b=some u->b≠d->g b=some u:=λs b u e n=>s b u (by rw[xak n];exact e);have a6:∀{g:Hp},Same (upd H d (.frz o (.dK kvs))) g->∀b vs,H b=some (.tup vs)->g b=some (.tup vs):=λs b vs e=>C s b _ e λz=>by subst z;rw[hd]at e;cases e
 have a8:∀{g:Hp},Same (upd H d (.frz o (.dK kvs))) g->LsAt g kvs cs L:=λs=>a0.keep (a6 s) λa ha us e=>C s a _ e λz=>by subst z;rw[hd]at e;cases e
 have a5:∀{g:Hp},Same (upd H d (.frz o (.dK kvs))) g->∀{b:Addr},g b=none->H b=none:=λ{g} s {b} e=>by
  cases h:H b with
  |none=>rfl
  |some u=>
   by_cases Y:b=d
   ·rw[Y,s _ _ ups]at e;cases e
   ·rw[C s b u h Y]at e;cases e
 refine xh5 (λi ys g=>Same (upd H d (.frz o (.dK kvs))) g/\∃j U,PairsV g ys j/\LsAt g j (cs.take i) U/\U.Nodup/\∀a∈U,H a=none) (jAEE (Same.refl _) ([]) ([]) (jAAA trivial (by rw[List.take_zero];trivial) List.nodup_nil (λ_ h=>nomatch h))) (xa3 (by omega)) (λi ys g _ p=>p.1 _ _ ups) ?_ ?_
 ·rintro i kv p ys g ab hi Z hp ⟨r,j,U,M,m,I,O⟩
  obtain⟨c,a,us,G,rfl,ha,a9⟩:=(a8 r).idx ab;have sp:=zA hp (.tup [kV (Sum.inr c.1),.ref a]);refine(xay p _ rfl (zB ups) rfl _ _ rfl _ (xb8 _ rfl rfl (ext2 rfl rfl) (xdn ?_)));refine(jEA _ rfl (xar _ rfl a us rfl (.inl (zC (sp _ _ ha))) (λl hl=>⟨(by walk_at"s"),λt ht=>nxtG hi Z ?_⟩)));have sl:=zA hl (.lst us);have st:=zA ht (.tup [.str c.1,.ref l]);have sA:=sp.trans (sl.trans st);have a2:=xae sp hl;refine(jAEE (r.trans sA) (j++[(Sum.inr c.1,.ref l)]) (U++[l]) (jAAA ((M.same (Same.tups sA)).append ⟨(jEA t rfl ups),trivial⟩) ?_ ?_ ?_))
  ·rw[zTA,G]
   exact(m.same sA).snoc (c:=c.1) (a:=l) (us:=us) (st _ _ ups) (a9.same sA _)
  ·refine List.nodup_append.mpr (jAA I (by simp) (λx J y hy e=>?_))
   rw[zMO hy]at e;obtain⟨zs,hz⟩:=m.there x J;rw[e,a2]at hz;cases hz
  ·intro x J
   rcases zMA J with J |J
   ·exact O x J
   ·rw[zMO J]
    exact a5 r a2
 ·rintro ys g Z ⟨r,j,U,M,m,I,O⟩ D hD
  rw[a1.1,zTL (zZ _)]at m;have sD:=zA hD (.lst ys);refine(xbn d o kvs (sD _ _ (r _ _ ups)) nz ?_);have a4:D≠d:=λz=>by rw[z,r _ _ ups]at hD;cases hD
  have a7:∀b vs,g b=some (.tup vs)->upd (upd g D (.lst ys)) d (.dK kvs) b=some (.tup vs):=λb vs e=>by
   rw[xak (λz=>by rw[z,r _ _ ups]at e;cases e)];exact sD _ _ e
  refine(xcm D ys j rfl (by rw[xak a4,ups]) (M.same a7) (λc G=>?_))
  have ac:(j.map (·.1)).Nodup:=by
   rw[m.keys];exact xkq aa
  rw[xdo ac];have sc:=zA G (.dK j);have ae:c≠d:=λz=>by rw[z,ups]at G;cases G
  have af:c≠D:=λz=>by rw[z,xak a4,ups]at G;cases G
  have a3:g c=none:=by
   rw[xak ae,xak af]at G;exact G
  have all:∀b u,g b=some u->b≠d->upd (upd (upd g D (.lst ys)) d (.dK kvs)) c (.dK j) b=some u:=λb u e n=>sc _ _ (by rw[xak n];exact sD _ _ e);refine q c j U _ (λb u e=>?_) (a5 r a3) O (List.nodup_cons.mpr ⟨λh=>?_,I⟩) ups ?_
  ·by_cases Y:b=d
   ·subst Y
    rw[hd]at e;cases e;exact sc _ _ ups
   ·exact all b u (C r b u e Y) Y
  ·obtain⟨zs,hz⟩:=m.there c h
   rw[a3]at hz;cases hz
  ·refine m.keep (λb vs e=>all b _ e λz=>by rw[z,r _ _ ups]at e;cases e) λa ha us e=>all a _ e λz=>by rw[z,r _ _ ups]at e;cases e
structure Here(H:Hp)(mv:V)(x:Str)(sa p:Addr)(k:Nat)(bx:List (Str×D))(mk:Mak)(hd:Hand)(r:Row):Prop where
 md:RelD H mv mk.d
 mok:MakOk mk
 hf:xed mk x=some hd
 st:StAt H sa p k bx
 few:bx.length<=6
 fit:FitB mk.kinds hd.boxes (enOf bx)
 row:hd.rows[k]?=some r
theorem Here.ok{H:Hp}{b:V}{x:Str}{sa p:Addr}{k:Nat}{bx:List (Str×D)}{a:Mak}{hd:Hand}{r:Row}(h:Here H b x sa p k bx a hd r):xf5 a.kinds a.chans x hd.boxes hd.rows.length r:=by
 have hi:=xl7 h.hf;have:=(h.mok.hok hd hi.1).ok r (zMG h.row)
 rwa[hi.2]at this
def xf8:Sp:=λvs H Q _=>∃(mv lv:V) (x:Str) (sa p:Addr) (k:Nat) (bx:List (Str×D)) (l:D) (mk:Mak) (hd:Hand) (r:Row),vs=[mv,.str x,.ref sa,lv]/\Here H mv x sa p k bx mk hd r ∧
 ((r=.fin/\Q .non H)\/(∃n c y,r=.take n c y/\lv=.non/\Q .non H)\/(r≠.fin/\(∀n c y,r=.take n c y->lv≠.non/\RelD H lv l)/\∀a' p' H',Same H H'->p'=p\/H p'=none->StAt H' a' p' (xc4 mk.kinds bx k r) (xec mk.kinds bx l r)->Q (.ref a') H'))
def xxi(H:Hp)(Q:VK)(mk:Mak)(k:Nat)(bx:List (Str×D))(p ca ga ta:Addr):Row->Prop
 |.fin=>Q .non H
 |.take _ c x=>∃kvs la us ds,H ca=some (.dK kvs)/\valV kvs (Sum.inr c)=some (.ref la)/\H la=some (.lst us)/\RelDs H us ds/\(ds=[]->Q .non H)/\∀d ds',ds=d::ds'->∀a' p' H',Chg la us.tail H H'->p'=p\/H p'=none->StAt H' a' p' (k+1) (putA bx x d)->Q (.ref a') H'
 |.send c t=>∃kvs la us,H ga=some (.dK kvs)/\valV kvs (Sum.inr c)=some (.ref la)/\H la=some (.lst us)/\us.length<=1000/\∀a' p' u H',Chg la (us++[u]) H H'->RelD H' u (wv mk.kinds bx t)->p'=p\/H p'=none->StAt H' a' p' (k+1) bx->Q (.ref a') H'
 |.tell t=>∃us,H ta=some (.lst us)/\us.length<=1000/\∀a' p' u H',Chg ta (us++[u]) H H'->RelD H' u (wv mk.kinds bx t)->p'=p\/H p'=none->StAt H' a' p' (k+1) bx->Q (.ref a') H'
 |r=>∀a' p' H',Same H H'->p'=p\/H p'=none->StAt H' a' p' (xc4 mk.kinds bx k r) (xec mk.kinds bx (.int 0) r)->Q (.ref a') H'
def xmw:Sp:=λvs H Q _=>∃(mv:V) (x:Str) (sa ca ga ta p:Addr) (k:Nat) (bx:List (Str×D)) (mk:Mak) (hd:Hand) (r:Row),vs=[mv,.str x,.ref sa,.ref ca,.ref ga,.ref ta]/\Here H mv x sa p k bx mk hd r/\xxi H Q mk k bx p ca ga ta r
theorem xo7{H:Hp}{d:D}{v:V}(h:RelD H v d):v≠.non:=by
 intro e;subst e
 cases d with
 |int i=>exact nomatch h
 |str x=>exact nomatch h
 |tup ds=>obtain⟨_,_,e,_⟩:=h;exact nomatch e
theorem xpr(T:Tx K mg)(o:DefIs P w K mg base n "row_at" qak xgn)(i:DefIs P w K mg base n "row_behind" qbd xsh)(b:DefIs P w K mg base n "boxes_behind" qa1 xu2):DefIs P w K mg base (n+1) "stride" qau xf8:=by
 refine DefIs.of T.jS sc_stride (by walk_at"l") (λf a7 A outer s H vs Q E hr h=>?_);obtain⟨mv,lv,x,sa,p,k,bx,l,mk,hd,r,rfl,m,q⟩:=h;have nd:=sc_stride.nd
 refine⟨_,(zpn (psn 4 nd (pd o hr (va 0 (va 1 (v1 2)))))
   (zpn (xba (PW.pt (xlo (pR xbf (px K (pv 4) pI) pS (nM _)) (xhx (PW.pt (xcu (pR xbf (px K (pv 4) pI) pS (nM _)) (xcg (pR xhy (pv 3) xeh (nM _)))))))) (zpo (xaf xeh)) pQ)
   (zpo (xaf (xa2 (pc (pd i hr (va 0 (va 4 (v1 2)))) (pc (pd b hr (va 0 (va 4 (pc (px K (pv 2) pI) (v1 3) ss)))) pN zsc) zsc)))))),xab λR1 a5=>?_⟩
 refine(xb1 _ rfl _ rfl _ rfl mv x (xal sa p k mk hd (xbd r rfl m.md m.hf m.st.1 m.row (λrv U=>a5 _ _ (xab λR2 a4=>?_)))));have C:=U;obtain⟨a,us,rfl,ha,a6⟩:=xjy U;have J:SqT K H a (.str r.hd::us):=zB ha;have h0:atI (V.str r.hd::us) 0=some (.str r.hd):=xam (j:=0) rfl;have Y:=m.ok;rcases q with⟨rfl,q⟩ |⟨nn,c,y,rfl,rfl,q⟩ |⟨Z,hl,q⟩
 ·exact(xaa _ rfl a _ _ _ rfl rfl J h0 (jAEA rfl _ rfl (iteKT (hdT rfl) (iteT q))))
 ·refine(xaa _ rfl a _ _ _ rfl rfl J h0 (jAEA rfl _ rfl (iteKF (hdF (xkt (by intro e;cases e))) ?_)))
  exact(xaa _ rfl a _ _ _ rfl rfl J h0 (jAEA rfl _ rfl (iteKT (hdT rfl) (xa5 _ rfl rfl _ rfl (iteKT (zDT rfl) q)))))
 ·have O:R2 [some mv,some (.str x),some (.ref sa),some lv,some (.ref a)] H:=by
   refine a4 _ _ ?_;refine(xb1 _ rfl _ rfl _ rfl mv (.ref a) (xal sa p k bx mk (xa9 hd.boxes r rfl m.md m.mok.wf C Z (jAAA m.st m.few m.fit ⟨λt g e=>?_,λH1 z=>?_⟩))))
   ·subst e
    exact Y.1
   obtain⟨a0,kvs,hp,a2⟩:=m.st;refine(xb1 _ rfl _ rfl _ rfl sa _ (xci _ _ rfl rfl (zB (z _ _ a0)) rfl (jEA _ rfl ?_)));refine(xal mv (.ref a) lv p kvs (xaj bx l mk hd.boxes r rfl (m.md.same z _) m.mok.wf (C.same z _) (z _ _ hp) (jAAA (a2.tups (Same.tups z)) m.few m.fit (jAA (λu t e=>?_) (λG I u e=>(hl G I u e).2.same z _) (λp' M H2 s2 a1 h2 a3=>⟨(by walk_at"s"),λt ht=>?_⟩)))))
   ·subst e
    obtain⟨kk,_,h⟩:=Y;exact⟨kk,h⟩
   have s3:=zA ht (.tup [.int (xc4 mk.kinds bx k r:Nat),.ref p']);exact q t p' _ (z.trans (s2.trans s3)) (a1.imp id λh=>xae z h) (jAEA ups M (s3 _ _ h2) (a3.tups (Same.tups s3)))
  refine(xaa _ rfl a _ _ _ rfl rfl J h0 (jAEA rfl _ rfl (iteKF (hdF (xkt Z)) ?_)));by_cases ht:∃G I u,r=.take G I u
  ·obtain⟨G,I,u,rfl⟩:=ht
   exact(xaa _ rfl a _ _ _ rfl rfl J h0 (jAEA rfl _ rfl (iteKT (hdT rfl) (xa5 _ rfl rfl _ rfl (iteKF (zDF (hl G I u rfl).1) O)))))
  ·exact(xaa _ rfl a _ _ _ rfl rfl J h0 (jAEA rfl _ rfl (iteKF (hdF (xfd λG I u e=>ht (jEE G I ⟨u,e⟩))) (iteF O))))
theorem xtt(T:Tx K mg)(U:DefIs P w K mg base n "row_at" qak xgn)(O:DefIs P w K mg base n "stride" qau xf8)(g:DefIs P w K mg base n "first_letter" qat xli)(o:DefIs P w K mg base n "worth" qaf (xdq (λks=>Ev ks 21) 6)):DefIs P w K mg base (n+1) "done" qav xmw:=by
 refine DefIs.of T.jV sc_done (by walk_at"l") (λf al A outer s H vs Q E hr h=>?_);obtain⟨mv,x,sa,ca,ga,ta,p,k,bx,I,hd,r,rfl,l,q⟩:=h;have nd:=sc_done.nd;have hu:=xd2 hr
 refine⟨_,(zpn (psn 6 nd (pd U hr (va 0 (va 1 (v1 2)))))
   (zpn (psn 7 nd (pd O hr (va 0 (va 1 (va 2 (pc (pd g hr (va 6 (v1 3))) pN zsc))))))
   (zpn (xba (pR xhy (pv 7) xeh (nM _)) (zpo (xaf xeh)) pQ)
   (zpn (xba (pR xbf (px K (pv 6) pI) pS (nM _)) (zpo (xbp (xds zD PySem.F.slot_list_pop PySem.F.type_list_pop xi1 (xb2 hu (pv 3) (px K (pv 6) pI) (λ_ _=>rfl)) (pc pI pN zso)))) (zpo (xba (pR xbf (px K (pv 6) pI) pS (nM _)) (zpo (xbp (xds zD zH zG xb0 (xb2 hu (pv 4) (px K (pv 6) pI) (λ_ _=>rfl)) (pc (pd o hr (pc (px K (pv 0) pI) (pc (px K (pv 6) pI) (pc (px K (pv 2) pI) pN ss) ss) ss)) pN zsc)))) (zpo (xba (pR xbf (px K (pv 6) pI) pS (nM _)) (zpo (xbp (xds zD zH zG xb0 (pv 5) (pc (pd o hr (pc (px K (pv 0) pI) (pc (px K (pv 6) pI) (pc (px K (pv 2) pI) pN ss) ss) ss)) pN zsc)))) pQ)))))
   (zpo (xaf (pv 7))))))),xab λR1 ai=>?_⟩
 refine(xb1 _ rfl _ rfl _ rfl mv x (xal sa p k I hd (xbd r rfl l.md l.hf l.st.1 l.row (λrv J=>ai _ _ (xab λR2 a0=>?_)))));have a8:=l.ok;obtain⟨a,us,rfl,ha,a1⟩:=xjy (id J);have M:∀{H'},Same H H'->SqT K H' a (.str r.hd::us):=λs=>zB (s _ _ ha);have h0:atI (V.str r.hd::us) 0=some (.str r.hd):=xam (j:=0) rfl
 have wk:∀{H1 t kk u},Same H H1->TmOk I.kinds 21 hd.boxes t kk->RelD H u t->∃(ma:Addr) (kv cv hv:V),mv=.ref ma/\H1 ma=some (.tup [kv,cv,hv])/\KsAt H1 kv I.kinds/\RelD H1 u t/\EnAt H1 p 6 (enOf bx)/\Ev I.kinds 21 (enOf bx) t (wv I.kinds bx t):=λ{H1 t kk u} s1 tok hu=>by
  obtain⟨ma,kv,cv,hv,e,Z,ag,_,_⟩:=mk_d l.md;obtain⟨_,kvs,hp,af⟩:=l.st;exact(xap ma kv cv hv e (s1 _ _ Z) (l.mok.wf.ksAt (ag.same s1 _)) (hu.same s1 _) (KvD.en (s1 _ _ hp) (af.tups (Same.tups s1)) l.few) ((xh8 tok l.fit).1))
 have shut:Q .non H->R2 [some mv,some (.str x),some (.ref sa),some (.ref ca),some (.ref ga),some (.ref ta),some (.ref a),some .non] H:=λq=>a0 _ _ (xab λR3 m=>(xa5 _ rfl rfl _ rfl (iteKT (zDT rfl) q)))
 cases r with
 |fin=>
  exact(xa1 _ rfl _ rfl _ rfl _ rfl _ rfl (xbn (.ref a) ca (.fin) rfl J (xal mv (.non) x sa p (xal k bx (.int 0) I hd (jEAA (.fin) rfl l (.inl ⟨rfl,shut q⟩))))))
 | take nn c y=>
  obtain⟨kvs,la,ls,ds,ac,hv,b,aa,qn,qs⟩:=q;obtain⟨_,_,rfl,rfl,_,_,rfl,rfl,_,_,rfl,rfl,rfl⟩:=a1;refine(xa1 _ rfl _ rfl _ rfl _ rfl _ rfl (xbn (.ref a) ca (.take nn c y) rfl J (xcm kvs la ls ac hv b ?_)))
  cases ds with
  |nil=>
   obtain rfl:ls=[]:=aa;exact(xal mv (.non) x sa p (xal k bx (.int 0) I hd (jEAA _ rfl l (.inr (.inl (xbn nn c y rfl rfl (shut (qn rfl))))))))
  | cons d ds=>
   obtain⟨lv,a7,rfl,a9,aj⟩:=aa;refine(xal mv lv x sa p (xal k bx d I hd (jEAA _ rfl l (.inr (.inr (jAA (by intro e;cases e) (λ_ _ _ _=>⟨xo7 a9,a9⟩) (λa' p' H' s' C st'=>?_)))))));refine a0 _ _ (xab λR3 m=>(xa5 _ rfl rfl _ rfl (iteKF (zDF λz=>nomatch z) (m _ _ (xab λR4 G=>?_)))))
   have gd:DGet H' ca (.str c) (some (.ref la)):=by
    have:=DGet.rd (k:=Sum.inr c) (.inl (s' _ _ ac));rw[hv]at this;exact this
   refine(xaa _ rfl a _ _ _ rfl rfl (M s') h0 (jAEA rfl _ rfl (iteKT (hdT rfl) ?_)));refine(xan _ rfl _ rfl a _ _ (xbm _ rfl rfl (M s') rfl (xb9 ca _ rfl gd (.inl (jAE rfl _ (zC (s' _ _ b)))) (xaj la _ 0 0 lv rfl rfl (s' _ _ b) (by decide) (by decide) (jAA (by simp[seqIndex?]) rfl ?_)))));refine G _ _ (jEA _ rfl ?_);have ch:Chg la a7 H' (upd H' la (.lst a7)):=Chg.upd;exact qs d ds rfl a' p' _ (Chg.pre s' ch) C (st'.chg (s' _ _ b) ch)
 | send c t=>
  obtain⟨kvs,la,ls,ah,hv,b,ab,qs⟩:=q;obtain⟨_,_,rfl,rfl,tv,_,rfl,a3,rfl⟩:=a1;obtain⟨ak,_,_,_,tok⟩:=a8;refine(xa1 _ rfl _ rfl _ rfl _ rfl _ rfl (xbn (.ref a) ca (.send c t) rfl J ?_));refine(xal mv (.non) x sa p (xal k bx (.int 0) I hd (jEAA _ rfl l (.inr (.inr (jAA (by intro e;cases e) (λ_ _ _ e=>by cases e) (λa' p' H' s' C st'=>?_)))))));refine a0 _ _ (xab λR3 m=>(xa5 _ rfl rfl _ rfl (iteKF (zDF λz=>nomatch z) (m _ _ (xab λR4 G=>?_)))))
  have gd:DGet H' ga (.str c) (some (.ref la)):=by
   have:=DGet.rd (k:=Sum.inr c) (.inl (s' _ _ ah));rw[hv]at this;exact this
  obtain⟨ma,kv,cv,ae,rfl,Z,a4,Y,a6,a5⟩:=wk s' tok a3;refine(xaa _ rfl a _ _ _ rfl rfl (M s') h0 (jAEA rfl _ rfl (iteKF (hdF (xfd (by intro _ _ _ e;cases e))) ?_)));refine(xaa _ rfl a _ _ _ rfl rfl (M s') h0 (jAEA rfl _ rfl (iteKT (hdT rfl) ?_)));refine(xan _ rfl _ rfl a _ _ (xbm _ rfl rfl (M s') rfl (xb9 ga _ rfl gd (.inl (jAE rfl _ (zC (s' _ _ b)))) ?_)));refine(xaa _ rfl ma _ _ _ rfl rfl (zB Z) rfl (xaa _ rfl a _ _ _ rfl rfl (M s') rfl (xaa _ rfl sa _ _ _ rfl rfl (zB (s' _ _ l.st.1)) rfl ?_)));refine(xal _ _ p I.kinds t (xa9 (enOf bx) _ rfl a4 Y a6 a5 (λu H2 s2 a2=>?_)));have i:=s'.trans s2;refine(xa6 la _ u rfl rfl (i _ _ b) (xa3 (by omega)) (G _ _ (jEA _ rfl ?_)));have ch:Chg la (ls++[u]) H2 (upd H2 la (.lst (ls++[u]))):=Chg.upd;exact qs a' p' u _ (Chg.pre i ch) (a2.tups (ch.tups (i _ _ b)) _) C ((st'.same s2).chg (i _ _ b) ch)
 |tell t=>
  obtain⟨ls,b,ab,qs⟩:=q;obtain⟨tv,_,rfl,a3,rfl⟩:=a1;refine(xa1 _ rfl _ rfl _ rfl _ rfl _ rfl (xbn (.ref a) ca (.tell t) rfl J ?_));refine(xal mv (.non) x sa p (xal k bx (.int 0) I hd (jEAA _ rfl l (.inr (.inr (jAA (by intro e;cases e) (λ_ _ _ e=>by cases e) (λa' p' H' s' C st'=>?_)))))));refine a0 _ _ (xab λR3 m=>(xa5 _ rfl rfl _ rfl (iteKF (zDF λz=>nomatch z) (m _ _ (xab λR4 G=>?_)))));obtain⟨ma,kv,cv,ae,rfl,Z,a4,Y,a6,a5⟩:=wk s' a8 a3;refine(xaa _ rfl a _ _ _ rfl rfl (M s') h0 (jAEA rfl _ rfl (iteKF (hdF (xfd (by intro _ _ _ e;cases e))) ?_)));refine(xaa _ rfl a _ _ _ rfl rfl (M s') h0 (jAEA rfl _ rfl (iteKF (hdF (xqh (by intro _ _ e;cases e))) ?_)));refine(xaa _ rfl a _ _ _ rfl rfl (M s') h0 (jAEA rfl _ rfl (iteKT (hdT rfl) ?_)));refine(jEAA _ rfl (.inl (jAE rfl _ (zC (s' _ _ b)))) ?_);refine(xaa _ rfl ma _ _ _ rfl rfl (zB Z) rfl (xaa _ rfl a _ _ _ rfl rfl (M s') rfl (xaa _ rfl sa _ _ _ rfl rfl (zB (s' _ _ l.st.1)) rfl ?_)));refine(xal _ _ p I.kinds t (xa9 (enOf bx) _ rfl a4 Y a6 a5 (λu H2 s2 a2=>?_)));have i:=s'.trans s2;refine(xa6 ta _ u rfl rfl (i _ _ b) (xa3 (by omega)) (G _ _ (jEA _ rfl ?_)));have ch:Chg ta (ls++[u]) H2 (upd H2 ta (.lst (ls++[u]))):=Chg.upd;exact qs a' p' u _ (Chg.pre i ch) (a2.tups (ch.tups (i _ _ b)) _) C ((st'.same s2).chg (i _ _ b) ch)
 |_=>
  refine(xa1 _ rfl _ rfl _ rfl _ rfl _ rfl (xbn (.ref a) ca _ rfl J ?_));refine(xal mv (.non) x sa p (xal k bx (.int 0) I hd (jEAA _ rfl l (.inr (.inr (jAA (by intro e;cases e) (λ_ _ _ e=>by cases e) (λa' p' H' s' C st'=>?_)))))));refine a0 _ _ (xab λR3 m=>(xa5 _ rfl rfl _ rfl (iteKF (zDF λz=>nomatch z) (m _ _ (xab λR4 G=>?_)))));refine(xaa _ rfl a _ _ _ rfl rfl (M s') h0 (jAEA rfl _ rfl (iteKF (hdF (xfd (by intro _ _ _ e;cases e))) ?_)));refine(xaa _ rfl a _ _ _ rfl rfl (M s') h0 (jAEA rfl _ rfl (iteKF (hdF (xqh (by intro _ _ e;cases e))) ?_)));refine(xaa _ rfl a _ _ _ rfl rfl (M s') h0 (jAEA rfl _ rfl (iteKF (hdF (xt8 (by intro _ e;cases e))) ?_)));exact G _ _ (jEA _ rfl (q a' p' H' s' C st'))
structure HsHere(K:Fg)(H:Hp)(x:Addr)(mv:V)(a:HsA)(s:HSt)(mk:Mak)(N:Nat):Prop where
 at_:HsAt H (ad K "Plain") x mv mk a s
 md:RelD H mv mk.d
 mok:MakOk mk
 ok:HOk mk s N
theorem HsHere.same{K:Fg}{H e:Hp}{x:Addr}{b:V}{a:HsA}{s:HSt}{c:Mak}{N:Nat}(l:HsHere K H x b a s c N)(q:Same H e):HsHere K e x b a s c N:=⟨l.at_.same q,l.md.same q _,l.mok,l.ok⟩
structure HFr(mk:Mak)(x:Addr)(a a':HsA)(H H':Hp):Prop where
 fr:∀b o,H b=some o->¬a.F mk x b->H' b=some o
 tp:∀b vs,H b=some (.tup vs)->H' b=some (.tup vs)
 nw:∀b,a'.F mk x b->a.F mk x b\/H b=none
theorem HFr.refl{b:Mak}{x:Addr}{a:HsA}{H:Hp}:HFr b x a a H H:=⟨λ_ _ e _=>e,λ_ _ e=>e,λ_ h=>.inl h⟩
theorem HFr.trans{j:Mak}{x:Addr}{a m c:HsA}{H p i:Hp}(f:HFr j x a m H p)(g:HFr j x m c p i):HFr j x a c H i:=by
 refine⟨λb o e n=>g.fr b o (f.fr b o e n) λz=>?_,λb vs e=>g.tp b vs (f.tp b vs e),λb h=>?_⟩
 ·rcases f.nw b z with q |q
  ·exact n q
  ·rw[q]at e;cases e
 ·rcases g.nw b h with q |q
  ·exact f.nw b q
  ·by_cases l:a.F j x b
   ·exact .inl l
   ·refine .inr ?_
    cases e:H b with
    |none=>rfl
    |some o=>rw[f.fr b o e l]at q;cases q
def xf9(K:Fg):Sp:=λvs H Q _=>∃(x:Addr) (mv:V) (h:Str) (a:HsA) (s:HSt) (mk:Mak),vs=[.ref x,.str h]/\HsAt H (ad K "Plain") x mv mk a s/\h∈hn mk/\Q (.int (s.ct h:Nat)) H
def xid(K:Fg):Sp:=λvs H Q _=>∃(x:Addr) (mv:V) (h:Str) (a:HsA) (s:HSt) (mk:Mak),vs=[.ref x,.str h]/\HsAt H (ad K "Plain") x mv mk a s/\h∈hn mk/\∀l us H',Same H H'->H l=none->H' l=some (.lst us)->RelDs H' us (s.tl h)->Q (.ref l) H'
def xgq(K:Fg):Sp:=λvs H Q _=>∃(x:Addr) (mv:V) (c:Str) (a:HsA) (s:HSt) (mk:Mak),vs=[.ref x,.str c]/\HsAt H (ad K "Plain") x mv mk a s/\c∈cn mk/\∀l us H',Same H H'->H l=none->H' l=some (.lst us)->RelDs H' us (s.bt c)->Q (.ref l) H'
def xeo(K:Fg):Sp:=λvs H Q _=>∃(x:Addr) (mv:V) (h:Str) (a:HsA) (s:HSt) (mk:Mak),vs=[.ref x,.str h]/\HsAt H (ad K "Plain") x mv mk a s/\h∈hn mk/\(s.sd h).2.length<=100/\∀sa' p' H',Same H H'->H p'=none->StAt H' sa' p' (s.sd h).1 (s.sd h).2->Q (.ref sa') H'
def xms(K:Fg):Sp:=λvs H Q _=>∃(x:Addr) (mv:V) (a:HsA) (s:HSt) (mk:Mak) (N:Nat) (hd:Hand) (r:Row),vs=[.ref x,.str hd.name]/\HsHere K H x mv a s mk N/\hd∈mk.hands/\hd.rows[(s.sd hd.name).1]?=some r/\∀H',Same H H'->Q (.bl (r.shutF s.bt)) H'
def xie(K:Fg):Sp:=λvs H Q _=>∃(x:Addr) (mv:V) (a:HsA) (s:HSt) (mk:Mak) (N:Nat),vs=[.ref x]/\HsHere K H x mv a s mk N/\∀b H',Same H H'->(b=true ↔ xoh mk s)->Q (.bl b) H'
def xgp(K:Fg):Sp:=λvs H Q _=>∃(x:Addr) (mv:V) (a:HsA) (s:HSt) (mk:Mak) (N:Nat) (hd:Hand) (r:Row),vs=[.ref x,.str hd.name]/\HsHere K H x mv a s mk N/\hd∈mk.hands/\hd.rows[(s.sd hd.name).1]?=some r/\N<=900/\(r.shutF s.bt=true->Q (.bl false) H) ∧
 (r.shutF s.bt=false->∀a' H',HFr mk x a a' H H'->HsHere K H' x mv a' (s.go mk.kinds hd.name r) mk (N+1)->Q (.bl true) H')
def xic(K:Fg):Sp:=λvs H Q _=>∃(x l:Addr) (mv:V) (a:HsA) (s:HSt) (mk:Mak) (N:Nat) (ws:List Str),vs=[.ref x,.ref l]/\HsHere K H x mv a s mk N/\H l=some (.lst (ws.map V.str))/\(∀z∈ws,z∈hn mk)/\¬a.F mk x l/\N+ws.length<=900 ∧
 ∀(n:Nat) a' s' H',HFr mk x a a' H H'->HsHere K H' x mv a' s' mk (N+ws.length)->Rch mk s s'->(xoh mk s->n=0/\H'=H/\a'=a)->Q (.int n) H'
theorem gdK{H:Hp}{d:Addr}{ns:List Str}{f:Str->V}{h:Str}(e:H d=some (.dK (mapK ns f)))(a:h∈ns):DGet H d (.str h) (some (f h)):=by
 have:=DGet.rd (k:=Sum.inr h) (.inl e);rw[xcy a]at this;exact this
theorem xd1(T:Tx K b):MethIs P w K b base (n+1) (ad K "Plain") "count" qab [[]] (xf9 K):=by
 refine MethIs.of T.uN xhk (λvs H Q E h=>?_) (λf m A outer s H vs Q E i h=>?_)
 ·obtain⟨_,_,_,_,_,_,rfl,_⟩:=h
  rfl
 obtain⟨x,o,h,a,st,p,rfl,l,j,q⟩:=h;have g:=xd2 i;obtain⟨fs,e,c⟩:=l.ob;refine(jEA _ (zpo (xaf (xb2 g (xbz (pv 0) rfl) (pv 1) (λ_ _=>rfl)))) ?_);exact(xaz _ rfl x _ _ fs (xb7 _ rfl e T.uE.cl (T.uE.no _ (by simp)) c.ct _ rfl a.cd _ (jAA rfl (gdK l.inn.hcd j) q)))
theorem xd7(T:Tx K i):MethIs P w K i base (n+1) (ad K "Plain") "told" qab [[]] (xid K):=by
 refine MethIs.of T.uL xil (λvs H Q E h=>?_) (λf y A outer s H vs Q E p h=>?_)
 ·obtain⟨_,_,_,_,_,_,rfl,_⟩:=h
  rfl
 obtain⟨x,z,h,a,st,C,rfl,l,e,q⟩:=h;have o:=xd2 p;obtain⟨fs,m,j⟩:=l.ob;obtain⟨us,u,r⟩:=l.inn.tel h e;refine(jEA _ (zpo (xaf (xau xb4 rfl T.kZ zM (pc (xb2 o (xbz (pv 0) rfl) (pv 1) (λ_ _=>rfl)) pN ss)))) ?_);refine(xaz _ rfl x _ _ fs (xb7 _ rfl m T.uE.cl (T.uE.no _ (by simp)) j.tl _ rfl a.td _ (jAA rfl (gdK l.inn.htd e) (xaw (a.ta h) us rfl (.inl (zC u)) (λb g=>?_)))));have c:=zA g (.lst us);exact q b us _ c g ups (r.same c _)
theorem xcx(T:Tx K j):MethIs P w K j base (n+1) (ad K "Plain") "letters" qam [[]] (xgq K):=by
 refine MethIs.of T.uM xf2 (λvs H Q E h=>?_) (λf z A outer s H vs Q E r h=>?_)
 ·obtain⟨_,_,_,_,_,_,rfl,_⟩:=h
  rfl
 obtain⟨x,C,h,a,st,G,rfl,l,g,q⟩:=h;have p:=xd2 r;obtain⟨fs,o,m⟩:=l.ob;obtain⟨us,y,u⟩:=l.inn.let_ h g;refine(jEA _ (zpo (xaf (xau xb4 rfl T.kZ zM (pc (xb2 p (xbz (pv 0) rfl) (pv 1) (λ_ _=>rfl)) pN ss)))) ?_);refine(xaz _ rfl x _ _ fs (xb7 _ rfl o T.uE.cl (T.uE.no _ (by simp)) m.bt _ rfl a.bd _ (jAA rfl (gdK l.inn.hbd g) (xaw (a.la h) us rfl (.inl (zC y)) (λb i=>?_)))));have e:=zA i (.lst us);exact q b us _ e i ups (u.same e _)
theorem xhr(T:Tx K e)(b:DefIs P w K e base n "own_stand" ["stand"] xgs):MethIs P w K e base (n+1) (ad K "Plain") "stand" qab [[]] (xeo K):=by
 refine MethIs.of T.uK xhj (λvs H Q E h=>?_) (λf p A outer s H vs Q E g h=>?_)
 ·obtain⟨_,_,_,_,_,_,rfl,_⟩:=h
  rfl
 obtain⟨x,r,h,a,st,u,rfl,l,i,c,q⟩:=h;have o:=xd2 g;obtain⟨fs,m,j⟩:=l.ob;refine(jEA _ (zpo (xaf (pd b g (pc (xb2 o (xbz (pv 0) rfl) (pv 1) (λ_ _=>rfl)) pN ss)))) ?_);exact(xaz _ rfl x _ _ fs (xb7 _ rfl m T.uE.cl (T.uE.no _ (by simp)) j.st _ rfl a.sd _ (jAA rfl (gdK l.inn.hsd i) (xc6 (a.sa h) (a.pa h) ((st.sd h).1) ((st.sd h).2) rfl (jAA (l.inn.sta h i) c q)))))
theorem HsHere.here{H:Hp}{x:Addr}{e:V}{a:HsA}{s:HSt}{c:Mak}{N:Nat}(l:HsHere K H x e a s c N){hd:Hand}(b:hd∈c.hands){r:Row}(f:hd.rows[(s.sd hd.name).1]?=some r):Here H e hd.name (a.sa hd.name) (a.pa hd.name) (s.sd hd.name).1 (s.sd hd.name).2 c hd r:=
 ⟨l.md,l.mok,xfn l.mok b,l.at_.inn.sta _ (qD b),by have:=l.ok.bxlen l.mok b;omega,l.ok.fit hd b,f⟩
theorem xhq(T:Tx K I)(i:DefIs P w K I base n "row_at" qak xgn)(g:DefIs P w K I base n "stride" qau xf8)(b:DefIs P w K I base n "first_letter" qat xli):MethIs P w K I base (n+1) (ad K "Plain") "stays" qab [[]] (xms K):=by
 refine MethIs.of T.uS sc_Plain_stays (λvs H Q E h=>?_) (λf a3 A outer s H vs Q E O h=>?_)
 ·obtain⟨_,_,_,_,_,_,_,_,rfl,_⟩:=h
  rfl
 obtain⟨x,u,a,st,o,N,hd,r,rfl,l,C,m,q⟩:=h;have nd:=sc_Plain_stays.nd;have hu:=xd2 O;obtain⟨fs,M,J⟩:=l.at_.ob;have hh:hd.name∈hn o:=qD C;have p:=l.here C m;have Y:=T.uE.cl;have no:=T.uE.no
 refine⟨_,(zpn (psn 2 nd (xb2 hu (xbz (pv 0) rfl) (pv 1) (λ_ _=>rfl)))
   (zpo (xaf (xe9 xhy (pd g O (pc (xbz (pv 0) rfl) (va 1 (va 2 (pc (pd b O (pc (pd i O (pc (xbz (pv 0) rfl) (va 1 (v1 2)) xby)) (pc (xbz (pv 0) rfl) pN xby) zsc)) pN zsc))) xby)) xeh (nM _))))),?_⟩
 refine(xaz _ rfl x _ _ fs (xb7 _ rfl M Y (no _ (by simp)) J.st _ rfl a.sd _ (jAA rfl (gdK l.at_.inn.hsd hh) ?_)));refine(xaz _ rfl x _ _ fs (xbd _ rfl M Y (no _ (by simp)) J.mkv (jEA _ rfl (jEA _ rfl ?_))));refine(xaz _ rfl x _ _ fs (xbd _ rfl M Y (no _ (by simp)) J.mkv (xan _ rfl _ rfl u hd.name (a.sa hd.name) (xaj (a.pa hd.name) _ o hd r rfl l.md p.hf p.st.1 m (λrv a0=>?_)))));refine(xaz _ rfl x _ _ fs (xbd _ rfl M Y (no _ (by simp)) J.bt (xbn rv a.bd r rfl a0 ?_)))
 cases r with
 |fin=>exact(xal u (.non) hd.name (a.sa hd.name) (a.pa hd.name) (xal _ _ (.int 0) o hd (jEAA (.fin) rfl p (.inl (jAA rfl rfl (q H (Same.refl _)))))))
 | take Z c y=>
  obtain⟨ch,hc,rfl,_,_⟩:=p.ok;have G:ch.1∈cn o:=qD hc;obtain⟨us,a1,j⟩:=l.at_.inn.let_ _ G;refine(xcm _ (a.la ch.1) us l.at_.inn.hbd (xcy G) a1 ?_)
  cases U:st.bt ch.1 with
  |nil=>
   rw[U]at j;obtain rfl:us=[]:=j;have e:(Row.take Z ch.1 y).shutF st.bt=true:=by show(st.bt ch.1).isEmpty=true;rw[U];rfl
   rw[e]at q;exact(xal u (.non) hd.name (a.sa hd.name) (a.pa hd.name) (xal _ _ (.int 0) o hd (jEAA _ rfl p (.inr (.inl (xcm Z ch.1 y rfl rfl rfl (q H (Same.refl _))))))))
  |cons d ds=>
   rw[U]at j;obtain⟨lv,a2,rfl,z,_⟩:=j;have e:(Row.take Z ch.1 y).shutF st.bt=false:=by show(st.bt ch.1).isEmpty=false;rw[U];rfl
   rw[e]at q;exact(xal u lv hd.name (a.sa hd.name) (a.pa hd.name) (xal _ _ d o hd (jEAA _ rfl p (.inr (.inr (jAA (by intro e;cases e) (λ_ _ _ _=>⟨xo7 z,z⟩) (λa' p' H' s' _ _=>⟨rfl,q H' s'⟩)))))))
 |_=>exact(xal u (.non) hd.name (a.sa hd.name) (a.pa hd.name) (xal _ _ (.int 0) o hd (jEAA _ rfl p (.inr (.inr (jAA (by intro e;cases e) (λ_ _ _ e=>by cases e) (λa' p' H' s' _ _=>⟨rfl,q H' s'⟩)))))))
theorem xix(T:Tx K mg)(a3:DefIs P w K mg base n "done" qav xmw):MethIs P w K mg base (n+1) (ad K "Plain") "step" qab [[]] (xgp K):=by
 refine MethIs.of T.uP sc_Plain_step (λvs H Q E h=>?_) (λf au A outer s H vs Q E hr h=>?_)
 ·obtain⟨_,_,_,_,_,_,_,_,rfl,_⟩:=h
  rfl
 obtain⟨x,mv,a,st,m,N,hd,r,rfl,l,a2,a5,aq,qn,qs⟩:=h;have nd:=sc_Plain_step.nd;have hu:=xd2 hr;have i:=l.at_.inn;obtain⟨fs,hx,lf⟩:=l.at_.ob;have hh:hd.name∈hn m:=qD a2;have h4:(hn m).length<=4:=by rw[zLM];exact l.mok.hfew
 have he:=l.here a2 a5;have cl:=T.uE.cl;have no:=T.uE.no
 refine⟨_,(zpn (psn 2 nd (pd a3 hr (pc (xbz (pv 0) rfl) (va 1 (pc (xb2 hu (xbz (pv 0) rfl) (pv 1) (λ_ _=>rfl)) (pc (xbz (pv 0) rfl) (pc (xbz (pv 0) rfl) (pc (xb2 hu (xbz (pv 0) rfl) (pv 1) (λ_ _=>rfl)) pN ss) xby) xby) ss)) xby)))
   (zpn (xba (pR xhy (pv 2) xeh (nM _)) (zpo (xaf xei)) pQ)
   (zpn (xc9 hu (xbz (pv 0) rfl) (pv 1) (pv 2) rfl)
   (zpn (xc9 hu (xbz (pv 0) rfl) (pv 1) (xaq xbk (xb2 hu (xbz (pv 0) rfl) (pv 1) (λ_ _=>rfl)) pI) rfl)
   (zpo (xaf xei)))))),xab λR1 ai=>?_⟩
 refine(xaz _ rfl x _ _ fs (xbd _ rfl hx cl (no _ (by simp)) lf.mkv (xan _ rfl _ rfl x _ _ (xa9 fs _ rfl hx cl (no _ (by simp)) lf.st (xbl _ rfl a.sd _ rfl (gdK i.hsd hh) _ rfl (xaj x _ _ fs _ rfl hx cl (no _ (by simp)) lf.bt (xaz _ rfl x _ _ fs (xb7 _ rfl hx cl (no _ (by simp)) lf.bt _ rfl x _ (xch _ fs _ rfl hx cl (no _ (by simp)) lf.tl (xar _ rfl a.td _ rfl (gdK i.htd hh) ?_))))))))));refine(xal mv hd.name (a.sa hd.name) a.bd a.bd (xal (a.ta hd.name) (a.pa hd.name) _ _ m (xaw hd r rfl he ?_)));have Y:Q (.bl false) H->R1 [some (.ref x),some (.str hd.name),some .non] H:=λq=>ai _ _ (xab λR2 ah=>(xa5 _ rfl rfl _ rfl (iteKT (zDT rfl) q)))
 have C:r.shutF st.bt=false->∀{G p':Addr} {j:Hp},StAt j G p' (xc4 m.kinds (st.sd hd.name).2 (st.sd hd.name).1 r) (xec m.kinds (st.sd hd.name).2 (r.letF st.bt) r)->(∀z∈cn m,∃us,j (a.la z)=some (.lst us)/\RelDs j us (r.btF m.kinds (st.sd hd.name).2 st.bt z))->(∀z∈hn m,∃us,j (a.ta z)=some (.lst us)/\RelDs j us (upF st.tl hd.name (r.told m.kinds (st.sd hd.name).2 (st.tl hd.name)) z))->
   (∀b o,H b=some o->(∀us,o≠.lst us)->j b=some o)->(∀b o,H b=some o->¬a.F m x b->j b=some o)->p'=a.pa hd.name\/H p'=none->R1 [some (.ref x),some (.str hd.name),some (.ref G)] j:=λsh {G p' j} U O h3 Z fr hp=>by
  refine ai _ _ (xab λR2 ah=>(xa5 _ rfl rfl _ rfl (iteKF (zDF λz=>nomatch z) (ah _ _ (xab λR3 an=>?_)))));have a0:=Z _ _ hx λus e=>by cases e
  have a4:=Z _ _ i.hsd λus e=>by cases e
  have ag:=Z _ _ i.hcd λus e=>by cases e
  have af:∀f,(mapK (hn m) f).length<sizeLine:=λf=>by rw[xce];exact xa3 (by omega)
  refine(xan _ rfl _ rfl x _ _ (xa9 fs _ rfl a0 cl (no _ (by simp)) lf.st (xar _ rfl a.sd _ rfl (DPut.k (k:=Sum.inr hd.name) a4 (af _)) (an _ _ (xab λR4 am=>?_)))));have xs:x≠a.sd:=λz=>by rw[z,a4]at a0;cases a0
  have ab:upd j a.sd (.dK (putK (mapK (hn m) λz=>.ref (a.sa z)) (Sum.inr hd.name) (.ref G))) x=some (.ins (ad K "Plain") a.dx fs):=by rw[xak xs];exact a0
  have a6:upd j a.sd (.dK (putK (mapK (hn m) λz=>.ref (a.sa z)) (Sum.inr hd.name) (.ref G))) a.cd=some (.dK (mapK (hn m) λz=>.int (st.ct z:Nat))):=by rw[xak (Ne.symm i.n1.2.2.1)];exact ag
  refine(xaz _ rfl x _ _ fs (xb7 _ rfl ab cl (no _ (by simp)) lf.ct _ rfl a.cd _ (jAA rfl (gdK a6 hh) (xaw _ _ rfl rfl (xaz _ rfl x _ _ fs (xb7 _ rfl ab cl (no _ (by simp)) lf.ct _ rfl a.cd _ (jAA rfl (DPut.k (k:=Sum.inr hd.name) a6 (af _)) (am _ _ ?_))))))));obtain⟨g1,g2,g3,g4⟩:=l.at_.stepped (s':=st.go m.kinds hd.name r) hh (by show upF _ _ _=_;rw[show(st.go m.kinds hd.name r).sd hd.name=_ from xao]) rfl (by rw[show(st.go m.kinds hd.name r).sd hd.name=_ from xao];exact U) O h3 Z fr hp;exact qs sh _ _ ⟨g2,g3,g4⟩ ⟨g1,l.md.tups g3 _,l.mok,l.ok.go l.mok a2 a5 sh⟩
 have aa:∀{z},z∈cn m->a.F m x (a.la z):=λhz=>.inr (.inr (.inr (.inr (.inr (.inl (jEA _ hz rfl))))));have ak:∀{z},z∈hn m->a.F m x (a.ta z):=λhz=>.inr (.inr (.inr (.inr (.inr (.inr (jEA _ hz (.inl rfl)))))));have a7:∀{la:Addr} {us xs:List V} {j:Hp},H la=some (.lst us)->Chg la xs H j->∀b o,H b=some o->(∀us,o≠.lst us)->j b=some o:=λ{la us xs j} g c b o e n=>c.ne e λz=>by rw[z,g]at e;exact n us (z8 e).symm
 have a8:∀{la:Addr} {us xs:List V} {j:Hp},H la=some (.lst us)->Chg la xs H j->(∀z∈hn m,a.ta z≠la)->∀z∈hn m,∃us,j (a.ta z)=some (.lst us)/\RelDs j us (upF st.tl hd.name (st.tl hd.name) z):=λ{la us xs j} g c n z hz=>by
  obtain⟨ut,U,O⟩:=i.tel z hz;refine(jEA ut (c.ne U (n z hz)) ?_);have e:upF st.tl hd.name (st.tl hd.name) z=st.tl z:=by unfold upF;split <;> rename_i q <;> first |rw[q] |rfl
  rw[e];exact O.tups (c.tups g) _
 have a9:∀{c:Str} {us xs:List V} {ds:List D} {j:Hp},c∈cn m->H (a.la c)=some (.lst us)->Chg (a.la c) xs H j->RelDs j xs ds->∀z∈cn m,∃us,j (a.la z)=some (.lst us)/\RelDs j us (upF st.bt c ds z):=λ{c us xs ds j} hc g ch hx z hz=>by
  by_cases e:z=c
  ·subst e
   exact(jEA xs (ch.at g) (by rw[xao];exact hx))
  ·obtain⟨ut,U,O⟩:=i.let_ z hz
   exact(jEA ut (ch.ne U λq=>e (i.nl z hz c hc q)) (by rw[xa4 e];exact O.tups (ch.tups g) _))
 cases r with
 |fin=>exact Y (qn rfl)
 |take nn c y=>
  obtain⟨ch,hc,rfl,_,_⟩:=he.ok;have p:ch.1∈cn m:=qD hc;obtain⟨us,g,I⟩:=i.let_ _ p;refine(xap _ (a.la ch.1) us (st.bt ch.1) i.hbd (xcy p) g I (λe=>Y (qn (by show(st.bt ch.1).isEmpty=true;rw[e];rfl))) (λd ar e G p' j chg J st'=>?_));have ao:=I;rw[e]at I;obtain⟨u,aj,rfl,a1,ae⟩:=I;refine C (by show(st.bt ch.1).isEmpty=false;rw[e];rfl) (by rw[show(Row.take nn ch.1 y).letF st.bt=d by show(st.bt ch.1).headD _=d;rw[e];rfl];exact st') (a9 p g chg (by show RelDs j aj (st.bt ch.1).tail;rw[e];exact ae.tups (chg.tups g) _)) (a8 g chg λz hz q=>i.nlt _ p z hz q.symm) (a7 g chg) (λb o eb n=>chg.ne eb λz=>n (z ▸ aa p)) J
 |send c t=>
  obtain⟨ch,hc,rfl,_,_⟩:=he.ok;have p:ch.1∈cn m:=qD hc;obtain⟨us,g,I⟩:=i.let_ _ p;have hb:=(l.ok.cok ch hc).1;have al:=I.length;refine(xa6 _ (a.la ch.1) us i.hbd (xcy p) g (by omega) (λG p' u j chg a1 J st'=>?_));exact C rfl st' (a9 p g chg ((I.tups (chg.tups g) _).append (xaw u ([]) rfl a1 rfl))) (a8 g chg λz hz q=>i.nlt _ p z hz q.symm) (a7 g chg) (λb o eb n=>chg.ne eb λz=>n (z ▸ aa p)) J
 | tell t=>
  obtain⟨ut,M,ac⟩:=i.tel _ hh;have hb:=(l.ok.tok hd a2).1;have al:=ac.length;refine(jEAA ut M (by omega) (λG p' u j chg a1 J st'=>?_));refine C rfl st' (λz hz=>?_) (λz hz=>?_) (a7 M chg) (λb o eb n=>chg.ne eb λz=>n (z ▸ ak hh)) J
  ·obtain⟨us,U,O⟩:=i.let_ z hz
   exact(jEA us (chg.ne U (i.nlt z hz _ hh)) (O.tups (chg.tups M) _))
  ·by_cases e:z=hd.name
   ·subst e
    exact(jEA (ut++[u]) (chg.at M) (by rw[xao];exact(ac.tups (chg.tups M) _).append (xaw u ([]) rfl a1 rfl)))
   ·obtain⟨us,U,O⟩:=i.tel z hz
    exact(jEA us (chg.ne U λq=>e (i.nt z hz _ hh q)) (by rw[xa4 e];exact O.tups (chg.tups M) _))
 | _=>
  intro G p' j s1 J st';refine C rfl st' (λz hz=>?_) (λz hz=>?_) (λb o e _=>s1 b o e) (λb o e _=>s1 b o e) J
  ·obtain⟨us,U,O⟩:=i.let_ z hz
   exact(jEA us (s1 _ _ U) (O.same s1 _))
  ·obtain⟨us,U,O⟩:=i.tel z hz
   refine(jEA us (s1 _ _ U) ?_);have e:upF st.tl hd.name (st.tl hd.name) z=st.tl z:=by unfold upF;split <;> rename_i q <;> first |rw[q] |rfl
   show RelDs j us (upF st.tl hd.name (st.tl hd.name) z);rw[e];exact O.same s1 _
theorem HsHere.row{K:Fg}{H:Hp}{x:Addr}{e:V}{a:HsA}{s:HSt}{c:Mak}{N:Nat}(l:HsHere K H x e a s c N){hd:Hand}(b:hd∈c.hands):∃r,hd.rows[(s.sd hd.name).1]?=some r:=⟨_,zGA (l.ok.row hd b)⟩
theorem HsHere.mono{K:Fg}{H:Hp}{x:Addr}{b:V}{a:HsA}{s:HSt}{c:Mak}{N e:Nat}(l:HsHere K H x b a s c N)(h:N<=e):HsHere K H x b a s c e:=⟨l.at_,l.md,l.mok,l.ok.mono h⟩
theorem HsHere.keep{K:Fg}{H e:Hp}{x:Addr}{g:V}{a:HsA}{s:HSt}{c:Mak}{N:Nat}(l:HsHere K H x g a s c N)(f:∀b vs,H b=some (.tup vs)->e b=some (.tup vs))(k:∀b,a.F c x b->∀o,H b=some o->e b=some o):HsHere K e x g a s c N:=⟨l.at_.keep f k,l.md.tups f _,l.mok,l.ok⟩
theorem xny{c:Mak}{s:HSt}{f:Hand->Row}(i:∀h∈c.hands,h.rows[(s.sd h.name).1]?=some (f h)){bs:List Bool}(e:bs=c.hands.map λh=>(f h).shutF s.bt):bs.all id=true ↔ xoh c s:=by
 subst e;rw[List.all_eq_true];constructor
 ·intro h hd a r g
  rw[i hd a]at g;cases g;exact h _ (qD a)
 ·intro h b j
  obtain⟨hd,a,rfl⟩:=zMP j;exact h hd a _ (i hd a)
theorem xho(T:Tx K mg)(b:MethIs P w K mg base n (ad K "Plain") "step" qab [[]] (xgp K)):MethIs P w K mg base (n+1) (ad K "Plain") "weave" qba [[]] (xic K):=by
 refine MethIs.of T.uQ sc_Plain_weave (λvs H Q E h=>?_) (λf a1 A outer s H vs Q E hr h=>?_)
 ·obtain⟨_,_,_,_,_,_,_,_,rfl,_⟩:=h
  rfl
 obtain⟨x,l,mv,a,st,m,N,ws,rfl,hs,hl,M,nl,a0,q⟩:=h;have nd:=sc_Plain_weave.nd
 refine⟨_,(zpn (psn 2 nd pI)
   (zpn (xb5 zF rfl (xbv (K:=K) rfl (pv 1)) (pgn 3 nd)
   (zpo (xba (xo8 (xbs b T.uE.cl hr (pv 0) (v1 3))) (zpo (psn 2 nd (xaq xbk (pv 2) pI))) pQ)))
   (zpo (xaf (pv 2))))),?_⟩
 refine(xbi _ rfl l rfl ⟨_,zC hl⟩ ?_);have G:(ws.map V.str).length=ws.length:=zLM ..
 refine xea (xs:=ws.map V.str) (λi σ y=>∃(n:Nat) (j:HsA) (s':HSt) (o:Option V),σ=[some (.ref x),some (.ref l),some (.int n),o]/\HFr m x a j H y/\HsHere K y x mv j s' m (N+i)/\Rch m st s'/\(xoh m st->n=0/\y=H/\j=a/\s'=st))
  (xah 0 a st none rfl HFr.refl hs (.refl _) (λ_=>(jAAA rfl rfl rfl rfl))) (λi σ y _ p=>?_) ?_ ?_
 ·obtain⟨_,_,_,_,_,fr,_⟩:=p
  exact zC (fr.fr _ _ hl nl)
 ·rintro i v σ y O ⟨J,j,s',o,rfl,fr,c,I,e⟩
  have hi:=(zES O).1;rw[zGM]at O;obtain⟨z,hz,rfl⟩:=zMS O;obtain⟨hd,u,rfl⟩:=zMP (M z (zMG hz));obtain⟨r,g⟩:=c.row u;obtain⟨fs,hx,lf⟩:=c.at_.ob;refine(xa7 _ rfl x _ fs rfl hx (lf.no _ (by walk_at"k")) _ rfl (xal x mv j s' m (xcn (N+i) hd r rfl c u g (by omega) (λZ=>?_) (λZ a2 H2 Y U=>?_))))
  ·refine(jEA _ rfl (iteF ?_))
   exact(xah J j s' _ rfl fr (c.mono (by omega)) I e)
  ·refine(jEA _ rfl (iteT ?_))
   have C:Stp m s' (s'.go m.kinds hd.name r) hd:=(jAEA u r g ⟨Z,rfl⟩);refine(xar _ rfl _ _ rfl rfl ?_);refine(xah (J+1) a2 _ _ rfl (fr.trans Y) U (I.trans (.one C)) (λh=>?_));obtain⟨_,_,_,rfl⟩:=e h;exact(C.moves h).elim
 ·rintro σ y ⟨J,j,s',o,rfl,fr,c,I,e⟩
  rw[G]at c;exact(jEA _ rfl (q J j s' y fr c I λh=>(jAA ((e h).1) ((e h).2.1) ((e h).2.2.1))))
theorem xhp(T:Tx K mg)(b:MethIs P w K mg base n (ad K "Plain") "stays" qab [[]] (xms K)):MethIs P w K mg base (n+1) (ad K "Plain") "still" qaa [[]] (xie K):=by
 refine MethIs.of T.uR xhi (λvs H Q E h=>?_) (λf a0 A outer s H vs Q E M h=>?_)
 ·obtain⟨_,_,_,_,_,_,rfl,_⟩:=h
  rfl
 obtain⟨x,mv,a,st,C,N,rfl,hs,q⟩:=h;obtain⟨fs,hx,lf⟩:=hs.at_.ob;obtain⟨ma,kv,cv,hv,rfl,O,_,_,Y⟩:=mk_d hs.md;obtain⟨ha,uh,rfl,m,o⟩:=Y;have U:=o.length;rw[zLM]at U;have h4:=hs.mok.hfew;refine(jEA _ (zpo (xaf (xax (xsa rfl) rfl T.kU PyProof.Rows.boot_all (pc (xbh ["hand","self"] [none,some 0] rfl (by kernel_rfl) (xas (K:=K) rfl (px K (xbz (pv 0) rfl) pI)) (λ_ _ _ _=>(pgc 0)) (λ_ _ _ _=>xbo) (λ_ _ _ _=>(xbs b T.uE.cl M (pv 1) (pc (px K (pv 0) pI) pN ss)))) pN xbt)))) ?_);refine(xaz _ rfl x _ _ fs (xbd _ rfl hx T.uE.cl (T.uE.no _ (by simp)) lf.mkv (xbe ma _ _ _ rfl rfl (zB O) rfl ha (jAA rfl ⟨_,zB m⟩ ?_))));let G:Hand->Row:=λh=>(h.rows[(st.sd h.name).1]?).getD .fin
 have u:∀h∈C.hands,h.rows[(st.sd h.name).1]?=some (G h):=λh c=>by
  obtain⟨r,M⟩:=hs.row c;show _=some ((h.rows[(st.sd h.name).1]?).getD .fin);rw[M];rfl
 refine xbj (xs:=uh) (λi ys I=>Same H I/\ys=((C.hands.map λh=>(G h).shutF st.bt).take i).map V.bl) ⟨Same.refl _,by rw[List.take_zero];rfl⟩ (xa3 (by omega)) (λi ys I _ p=>zB (p.1 _ _ m)) ?_ ?_
 ·rintro i y ys I hy hi g ⟨e,rfl⟩
  obtain⟨d,z,rd⟩:=o.get hy;rw[zGM]at z;obtain⟨hd,l,rfl⟩:=zMS z;have c:=zMG l;obtain⟨Z,bv,rv,rfl,j,_,_⟩:=hd_d rd;have J:=hs.same e;refine⟨ext1 rfl,xdn ?_⟩;refine(xa7 _ rfl x _ fs rfl (e _ _ hx) (lf.no _ (by walk_at"k")) _ rfl (xbe Z _ _ _ rfl rfl (zB (e _ _ j)) rfl x (xal _ a st C N (xci hd (G hd) rfl J c (u hd c) (λH2 s2=>nxtG hi g ⟨e.trans s2,?_⟩)))));rw[zTA,zGM,l,zAP];rfl
 ·rintro ys I g ⟨e,rfl⟩ D hD
  rw[zTL (by rw[zLM];omega)];have sD:=zA hD (.lst ((C.hands.map λh=>(G h).shutF st.bt).map V.bl));exact(xaw D _ rfl (zC ups) (q _ _ (e.trans sD) (xny u rfl)))
def xoy(K:Fg):Sp:=λvs H Q _=>∃(x dx:Addr) (mv:V) (mk:Mak),vs=[.ref x,mv]/\H x=some (.ins (ad K "Plain") dx [])/\RelD H mv mk.d/\MakOk mk ∧
 ∀a H',SameBut x H H'->(∀b,a.F mk x b->b=x\/H b=none)->a.dx=dx->H' x=some (.ins (ad K "Plain") dx (hFs a))->HsIn H' mk a (hs0 mk)->Q .non H'
def xgr(K:Fg):Sp:=λvs H Q _=>∃(x dx:Addr) (mv:V) (mk:Mak),vs=[.ref x,mv]/\H x=some (.ins (ad K "Plain") dx [])/\RelD H mv mk.d/\MakOk mk ∧
 ∀a H',SameBut x H H'->(∀b,a.F mk x b->b=x\/H b=none)->HsHere K H' x mv a (hs0 mk) mk 0->Q .non H'
theorem xcf{x:Addr}{H a:Hp}{C dx:Addr}{fs:List (Str×V)}(s:SameBut x H a)(c:H x=some (.ins C dx fs)):∀b vs,H b=some (.tup vs)->a b=some (.tup vs):=λb vs e=>s b _ e λz=>by rw[z,c]at e;cases e
theorem xdp{x b:Addr}{H a:Hp}{o:HO}(s:SameBut x H a)(f:a x=some o)(e:a b=none):H b=none:=by
 cases h:H b with
 |none=>rfl
 |some u=>
  by_cases c:b=x
  ·rw[c,f]at e;cases e
  ·rw[s b u h c]at e;cases e
theorem xfk(T:Tx K mg)(a5:DefIs P w K mg base n "begin_of" qac xlj):MethIs P w K mg base (n+1) (ad K "House") "__init__" qai [[]] (xoy K):=by
 refine MethIs.of T.uJ xip (λvs H Q E h=>?_) (λf ck A outer s H vs Q E hr h=>?_)
 ·obtain⟨_,_,_,_,rfl,_⟩:=h
  rfl
 obtain⟨x,dx,mv,c,rfl,hx,md,a7,q⟩:=h;have cl:=T.uE.cl;have no:=T.uE.no;have h4:=a7.hfew;have h6:=a7.cfew;obtain⟨ma,kv,cv,hv,rfl,aj,cj,c5,c2⟩:=mk_d md;obtain⟨ha,uh,rfl,aa,bm⟩:=c2;obtain⟨ca,uc,rfl,bq,br⟩:=c5;have bi:=bm.length;have bj:=br.length;rw[zLM]at bi bj;have cg:(hn c).length=uh.length:=by rw[zLM,bi]
 have ci:(cn c).length=uc.length:=by rw[zLM,bj]
 have af:(hn c).Nodup:=a7.hnd;have bt:(cn c).Nodup:=a7.cnd
 have az:∀{i:Nat} {y:V},uh[i]?=some y->∃hd I bv rv,y=.ref I/\H I=some (.tup [.str hd.name,bv,rv])/\hd∈c.hands/\(hn c)[i]?=some hd.name:=λ{i y} hy=>by
  obtain⟨d,g,rd⟩:=bm.get hy;rw[zGM]at g;obtain⟨hd,bl,rfl⟩:=zMS g;obtain⟨I,bv,rv,rfl,r,_,_⟩:=hd_d rd;exact(xc6 hd I bv rv rfl (jAA r (zMG bl) (by rw[zGM,bl];rfl)))
 have bu:∀{i:Nat} {y:V},uc[i]?=some y->∃ch al ws,y=.ref al/\H al=some (.tup (.str ch::ws))/\(cn c)[i]?=some ch:=λ{i y} hy=>by
  obtain⟨d,g,rd⟩:=br.get hy;rw[zGM]at g;obtain⟨ch,c4,rfl⟩:=zMS g;obtain⟨al,_,rfl,bp,_,ws,rfl,rfl,_⟩:=rd;exact(xbn ch.1 al ws rfl bp (by rw[zGM,c4];rfl))
 refine⟨_,(zpn (xdv (pv 0) (xau (xco rfl) rfl T.kW zL (pc (xbh ["hand","make"] [none,some 1] rfl (by kernel_rfl) (xas (K:=K) rfl (px K (pv 1) pI)) (λ_ _ _ _=>(pgc 0)) (λ_ _ _ _=>xbo) (λ_ _ _ _=>(xa2 (pc (px K (pv 0) pI) (pc (pd a5 hr (va 1 (pc (px K (pv 0) pI) pN ss))) pN zsc) ss)))) pN xbt)) rfl)
   (zpn (xdv (pv 0) (xau (xco rfl) rfl T.kW zL (pc (xbh ["channel"] [none] rfl (by kernel_rfl) (xas (K:=K) rfl (px K (pv 1) pI)) (λ_ _ _ _=>(pgc 0)) (λ_ _ _ _=>xbo) (λ_ _ _ _=>(xa2 (pc (px K (pv 0) pI) (pc (xcd pN) pN xib) ss)))) pN xbt)) rfl)
   (zpn (xdv (pv 0) (xau (xco rfl) rfl T.kW zL (pc (xbh ["hand"] [none] rfl (by kernel_rfl) (xas (K:=K) rfl (px K (pv 1) pI)) (λ_ _ _ _=>(pgc 0)) (λ_ _ _ _=>xbo) (λ_ _ _ _=>(xa2 (pc (px K (pv 0) pI) (pc (xcd pN) pN xib) ss)))) pN xbt)) rfl)
   (zpo (xdv (pv 0) (xau (xco rfl) rfl T.kW zL (pc (xbh ["hand"] [none] rfl (by kernel_rfl) (xas (K:=K) rfl (px K (pv 1) pI)) (λ_ _ _ _=>(pgc 0)) (λ_ _ _ _=>xbo) (λ_ _ _ _=>(xa2 (pc (px K (pv 0) pI) (pc pI pN zso) ss)))) pN xbt)) rfl))))),xab λR1 c8=>?_⟩
 refine(xaa _ rfl ma _ _ _ rfl rfl (zB aj) rfl (jEAA ha rfl ⟨_,zB aa⟩ ?_));refine xbj (xs:=uh) (λi ys m=>Same H m/\∃sa pa,NewSt H m (hn c) i ys (hs0 c) sa pa) (jAEE (Same.refl _) (λ_=>0) (λ_=>0) ⟨by rw[List.take_zero];trivial,λz hz=>by rw[List.take_zero]at hz;cases hz⟩) (xa3 (by omega)) (λi ys m _ p=>zB (p.1 _ _ aa)) ?_ ?_
 ·rintro i y ys m hy hi O ⟨u,sa,pa,ns⟩
  obtain⟨hd,I,bv,rv,rfl,r,ak,a8⟩:=az hy;refine⟨ext1 rfl,xdn ?_⟩;refine(xaa _ rfl I _ _ _ rfl rfl (zB (u _ _ r)) rfl (xan _ rfl _ rfl I _ _ (xbm _ rfl rfl (zB (u _ _ r)) rfl (xah _ hd.name c hd rfl (md.same u _) a7 (xfn a7 ak) (λbz p' H1 s1 c1 bx=>⟨(by walk_at"s"),λt ht=>nxtG hi O ?_⟩)))));have e0:=xng a7 ak;exact(jAEE (u.trans (s1.trans (zA ht _))) (upF sa hd.name bz) (upF pa hd.name p') (ns.snoc u s1 af a8 c1 (by rw[e0];exact bx) ht))
 rintro ys m O ⟨u,sa,pa,ns⟩ D hD;have M:=zA hD (.lst ys);obtain⟨aw,ao⟩:=ns;rw[zTL (show(hn c).length<=uh.length by omega)]at aw ao;refine(xcm D ys _ rfl ups (aw.same (Same.tups M)) (λsd hc=>?_));rw[xdo (xg4 af)];have sC:=zA hc (.dK (mapK (hn c) λz=>.ref (sa z)));have J:=u.trans (M.trans sC)
 have st':∀z∈hn c,StAt (upd (upd m D (.lst ys)) sd (.dK (mapK (hn c) λz=>.ref (sa z)))) (sa z) (pa z) ((hs0 c).sd z).1 ((hs0 c).sd z).2/\pa z≠sd:=λz hz=>⟨(ao z hz).1.same (M.trans sC),λe=>by
  obtain⟨_,kvs,h2,_⟩:=((ao z hz).1.same M);rw[e,hc]at h2;cases h2⟩
 have c9:H sd=none:=xae (u.trans M) hc;have ae:upd (upd m D (.lst ys)) sd (.dK (mapK (hn c) λz=>.ref (sa z))) sd=some (.dK (mapK (hn c) λz=>.ref (sa z))):=ups;refine(xaa _ rfl x _ _ _ rfl (J _ _ hx) cl (no _ (by simp)) ⟨by decide,c8 _ _ (xab λR2 c7=>?_)⟩);generalize upd (upd m D (.lst ys)) sd (.dK (mapK (hn c) λz=>.ref (sa z)))=HA at J st' ae⊢;clear sC M hc;obtain⟨ab,b6⟩:∃f,f=putF (Str.ofString "stands") (.ref sd) []:=⟨_,rfl⟩;have cf:ab.length<=1:=by rw[b6];exact xav _ _ _
 rw[<- b6];have Y:=SameBut.upd x HA (.ins (ad K "Plain") dx ab);have Z:upd HA x (.ins (ad K "Plain") dx ab) x=some (.ins (ad K "Plain") dx ab):=ups;generalize upd HA x (.ins (ad K "Plain") dx ab)=H1 at Y Z⊢;have b1:SameBut x H H1:=J.but.trans Y;have nI:∀b o,HA b=some o->(∀C d f,o≠.ins C d f)->H1 b=some o:=λb o e n=>Y b o e λz=>by rw[z,J _ _ hx]at e;exact n _ _ _ (z8 e).symm
 have a9:H1 sd=some (.dK (mapK (hn c) λz=>.ref (sa z))):=nI _ _ ae λ_ _ _ e=>by cases e
 have ar:∀z∈hn c,StAt H1 (sa z) (pa z) ((hs0 c).sd z).1 ((hs0 c).sd z).2:=λz hz=>(st' z hz).1.keep (λb vs e=>nI _ _ e λ_ _ _ e=>by cases e) λo e=>by
  obtain⟨_,kvs,h2,_⟩:=(st' z hz).1;rw[h2]at e;cases e;exact nI _ _ h2 λ_ _ _ e=>by cases e
 have c0:∀z∈hn c,pa z≠sd:=λz hz=>(st' z hz).2;clear nI Y st' ae J u aw;have ai:=xcf b1 hx;refine(xaa _ rfl ma _ _ _ rfl rfl (zB (ai _ _ aj)) rfl (jEAA ca rfl ⟨_,zB (ai _ _ bq)⟩ ?_));refine xbj (xs:=uc) (λi ys m=>Same H1 m/\∃la,EmpAt H1 m (cn c) i ys la) (jAE (Same.refl _) (λ_=>0) ⟨by rw[List.take_zero];trivial,(λz hz=>by rw[List.take_zero]at hz;cases hz),λz hz=>by rw[List.take_zero]at hz;cases hz⟩) (xa3 (by omega)) (λi ys m _ p=>zB (p.1 _ _ (ai _ _ bq))) ?_ ?_
 ·rintro i y ys m hy hi O ⟨u,la,em⟩
  obtain⟨ch,I,ws,rfl,r,a8⟩:=bu hy;have a4:=u _ _ (ai _ _ r);refine⟨ext1 rfl,xdn ?_⟩;refine(xaa _ rfl I _ _ _ rfl rfl (zB a4) (xam (j:=0) rfl) ⟨(by walk_at"s"),λl hl=>⟨(by walk_at"s"),λt ht=>nxtG hi O ?_⟩⟩);exact(jAE (u.trans ((zA hl _).trans (zA ht _))) (upF la ch l) (em.snoc u bt a8 hl ht))
 rintro ys m O ⟨u,la,em⟩ D hD;have M:=zA hD (.lst ys);obtain⟨a6,a2,av⟩:=em;rw[zTL (show(cn c).length<=uc.length by omega)]at a6 a2 av;refine(xcm D ys _ rfl ups (a6.same (Same.tups M)) (λbd hc=>?_));rw[xdo (xg4 bt)];have sC:=zA hc (.dK (mapK (cn c) λz=>.ref (la z)));have J:=u.trans (M.trans sC);have G:∀z∈cn c,upd (upd m D (.lst ys)) bd (.dK (mapK (cn c) λz=>.ref (la z))) (la z)=some (.lst []):=λz hz=>(M.trans sC) _ _ (a2 z hz).1;have b8:H1 bd=none:=xae (u.trans M) hc;have g:upd (upd m D (.lst ys)) bd (.dK (mapK (cn c) λz=>.ref (la z))) bd=some (.dK (mapK (cn c) λz=>.ref (la z))):=ups;refine(xaa _ rfl x _ _ _ rfl (J _ _ Z) cl (no _ (by simp)) ⟨by omega,c7 _ _ (xab λR3 c6=>?_)⟩);generalize upd (upd m D (.lst ys)) bd (.dK (mapK (cn c) λz=>.ref (la z)))=HA at J G g⊢;clear sC M hc;obtain⟨fs2,b5⟩:∃f,f=putF (Str.ofString "between") (.ref bd) ab:=⟨_,rfl⟩;have ce:fs2.length<=2:=by rw[b5];exact zY (xav _ _ _) (by omega)
 rw[<- b5];have Y:=SameBut.upd x HA (.ins (ad K "Plain") dx fs2);have a3:upd HA x (.ins (ad K "Plain") dx fs2) x=some (.ins (ad K "Plain") dx fs2):=ups;generalize upd HA x (.ins (ad K "Plain") dx fs2)=H2 at Y a3⊢;have b9:SameBut x H1 H2:=J.but.trans Y;have b2:SameBut x H H2:=b1.trans b9;have bo:H2 bd=some (.dK (mapK (cn c) λz=>.ref (la z))):=Y _ _ g λz=>by rw[z,J _ _ Z]at g;cases g
 have bb:∀z∈cn c,H2 (la z)=some (.lst [])/\H1 (la z)=none:=λz hz=>⟨Y _ _ (G z hz) λe=>(by have:=G z hz;rw[e,J _ _ Z]at this;cases this),(a2 z hz).2⟩;clear Y g G a2 a6 J u;have ah:=xcf b2 hx;refine(xaa _ rfl ma _ _ _ rfl rfl (zB (ah _ _ aj)) rfl (jEAA ha rfl ⟨_,zB (ah _ _ aa)⟩ ?_));refine xbj (xs:=uh) (λi ys m=>Same H2 m/\∃la,EmpAt H2 m (hn c) i ys la) (jAE (Same.refl _) (λ_=>0) ⟨by rw[List.take_zero];trivial,(λz hz=>by rw[List.take_zero]at hz;cases hz),λz hz=>by rw[List.take_zero]at hz;cases hz⟩) (xa3 (by omega)) (λi ys m _ p=>zB (p.1 _ _ (ah _ _ aa))) ?_ ?_
 ·rintro i y ys m hy hi O ⟨u,la,em⟩
  obtain⟨hd,I,bv,rv,rfl,r,ak,a8⟩:=az hy;have a4:=u _ _ (ah _ _ r);refine⟨ext1 rfl,xdn ?_⟩;refine(xaa _ rfl I _ _ _ rfl rfl (zB a4) rfl ⟨(by walk_at"s"),λl hl=>⟨(by walk_at"s"),λt ht=>nxtG hi O ?_⟩⟩);exact(jAE (u.trans ((zA hl _).trans (zA ht _))) (upF la hd.name l) (em.snoc u af a8 hl ht))
 rintro ys m O ⟨u,ta,em⟩ D hD;have M:=zA hD (.lst ys);obtain⟨a6,a2,au⟩:=em;rw[zTL (show(hn c).length<=uh.length by omega)]at a6 a2 au;refine(xcm D ys _ rfl ups (a6.same (Same.tups M)) (λtd hc=>?_));rw[xdo (xg4 af)];have sC:=zA hc (.dK (mapK (hn c) λz=>.ref (ta z)));have J:=u.trans (M.trans sC);have G:∀z∈hn c,upd (upd m D (.lst ys)) td (.dK (mapK (hn c) λz=>.ref (ta z))) (ta z)=some (.lst []):=λz hz=>(M.trans sC) _ _ (a2 z hz).1;have b7:H2 td=none:=xae (u.trans M) hc;have g:upd (upd m D (.lst ys)) td (.dK (mapK (hn c) λz=>.ref (ta z))) td=some (.dK (mapK (hn c) λz=>.ref (ta z))):=ups;refine(xaa _ rfl x _ _ _ rfl (J _ _ a3) cl (no _ (by simp)) ⟨by omega,c6 _ _ ?_⟩);generalize upd (upd m D (.lst ys)) td (.dK (mapK (hn c) λz=>.ref (ta z)))=HA at J G g⊢;clear sC M hc;obtain⟨a0,b0⟩:∃f,f=putF (Str.ofString "tellings") (.ref td) fs2:=⟨_,rfl⟩;have cc:a0.length<=3:=by rw[b0];exact zY (xav _ _ _) (by omega)
 rw[<- b0];have Y:=SameBut.upd x HA (.ins (ad K "Plain") dx a0);have ac:upd HA x (.ins (ad K "Plain") dx a0) x=some (.ins (ad K "Plain") dx a0):=ups;generalize upd HA x (.ins (ad K "Plain") dx a0)=H3 at Y ac⊢;have an:SameBut x H2 H3:=J.but.trans Y;have b3:SameBut x H H3:=b2.trans an;have bn:H3 td=some (.dK (mapK (hn c) λz=>.ref (ta z))):=Y _ _ g λz=>by rw[z,J _ _ a3]at g;cases g
 have ba:∀z∈hn c,H3 (ta z)=some (.lst [])/\H2 (ta z)=none:=λz hz=>⟨Y _ _ (G z hz) λe=>(by have:=G z hz;rw[e,J _ _ a3]at this;cases this),(a2 z hz).2⟩;clear Y g G a2 a6 J u;have ag:=xcf b3 hx;refine(xaa _ rfl ma _ _ _ rfl rfl (zB (ag _ _ aj)) rfl (jEAA ha rfl ⟨_,zB (ag _ _ aa)⟩ ?_));refine xbj (xs:=uh) (λi ys m=>Same H3 m/\PairsV m ys (mapK ((hn c).take i) λ_=>.int 0)) ⟨Same.refl _,by rw[List.take_zero];trivial⟩ (xa3 (by omega)) (λi ys m _ p=>zB (p.1 _ _ (ag _ _ aa))) ?_ ?_
 ·rintro i y ys m hy hi O ⟨u,pr⟩
  obtain⟨hd,I,bv,rv,rfl,r,ak,a8⟩:=az hy;have a4:=u _ _ (ag _ _ r);refine⟨ext1 rfl,xdn ?_⟩;refine(xaa _ rfl I _ _ _ rfl rfl (zB a4) rfl ⟨(by walk_at"s"),λt ht=>nxtG hi O ?_⟩);have s2:=zA ht (.tup [.str hd.name,.int 0]);refine⟨u.trans s2,?_⟩;rw[xdf a8];unfold mapK;rw[zAP];exact(pr.same (Same.tups s2)).append ⟨(jEA t rfl ups),trivial⟩
 rintro ys m O ⟨u,pr⟩ D hD;have M:=zA hD (.lst ys);rw[zTL (show(hn c).length<=uh.length by omega)]at pr;refine(xcm D ys _ rfl ups (pr.same (Same.tups M)) (λcd hc=>?_));rw[xdo (xg4 af)];have sC:=zA hc (.dK (mapK (hn c) λ_=>.int 0));have J:=u.trans (M.trans sC);have a1:H3 cd=none:=xae (u.trans M) hc;have g:upd (upd m D (.lst ys)) cd (.dK (mapK (hn c) λ_=>.int 0)) cd=some (.dK (mapK (hn c) λ_=>.int 0)):=ups;refine(xaa _ rfl x _ _ _ rfl (J _ _ ac) cl (no _ (by simp)) ⟨by omega,?_⟩);generalize upd (upd m D (.lst ys)) cd (.dK (mapK (hn c) λ_=>.int 0))=HA at J g⊢;clear sC M hc;have Y:=SameBut.upd x HA (.ins (ad K "Plain") dx (putF (Str.ofString "counts") (.ref cd) a0));have bh:upd HA x (.ins (ad K "Plain") dx (putF (Str.ofString "counts") (.ref cd) a0)) x=some (.ins (ad K "Plain") dx (putF (Str.ofString "counts") (.ref cd) a0)):=ups;generalize upd HA x (.ins (ad K "Plain") dx (putF (Str.ofString "counts") (.ref cd) a0))=H4 at Y bh⊢;have am:SameBut x H3 H4:=J.but.trans Y;have b4:SameBut x H H4:=b3.trans am;have bw:SameBut x H1 H4:=b9.trans (an.trans am);have cb:SameBut x H2 H4:=an.trans am;have c3:H4 cd=some (.dK (mapK (hn c) λ_=>.int 0)):=Y _ _ g λz=>by rw[z,J _ _ ac]at g;cases g
 have bf:∀{b o},H1 b=some o->(∀C d f,o≠.ins C d f)->H4 b=some o:=λ{b o} e n=>bw b o e λz=>by rw[z,Z]at e;exact n _ _ _ (z8 e).symm
 have be:∀{b o},H2 b=some o->(∀C d f,o≠.ins C d f)->H4 b=some o:=λ{b o} e n=>cb b o e λz=>by rw[z,a3]at e;exact n _ _ _ (z8 e).symm
 have bc:∀{b o},H3 b=some o->(∀C d f,o≠.ins C d f)->H4 b=some o:=λ{b o} e n=>am b o e λz=>by rw[z,ac]at e;exact n _ _ _ (z8 e).symm
 have ay:∀{b o},H1 b=some o->(∀C d f,o≠.ins C d f)->H2 b=some o:=λ{b o} e n=>b9 b o e λz=>by rw[z,Z]at e;exact n _ _ _ (z8 e).symm
 have ax:∀{b o},H2 b=some o->(∀C d f,o≠.ins C d f)->H3 b=some o:=λ{b o} e n=>an b o e λz=>by rw[z,a3]at e;exact n _ _ _ (z8 e).symm
 have U:∀{kv:List (Key×V)},∀C d f,HO.dK kv≠.ins C d f:=λC d f e=>by cases e
 have bg:∀C d f,HO.lst []≠.ins C d f:=λC d f e=>by cases e
 have aq:∀z∈hn c,∃kvs,H1 (pa z)=some (.dK kvs):=λz hz=>by
  obtain⟨_,kvs,h2,_⟩:=ar z hz;exact⟨kvs,h2⟩
 refine q ⟨dx,sd,bd,td,cd,sa,pa,la,ta⟩ H4 b4 (λb hb=>?_) rfl (by rw[bh,b0,b5,b6];rfl) ⟨bf a9 U,be bo U,bc bn U,c3,λz hz=>?_,λz hz=>(jEA ([]) (be (bb z hz).1 bg) rfl),λz hz=>(jEA ([]) (bc (ba z hz).1 bg) rfl),av,au,λz hz y hy e=>?_,?_,λz hz=>⟨?_,?_⟩⟩
 ·rcases hb with h |h |h |h |h |⟨z,hz,h⟩ |⟨z,hz,h |h⟩
  ·exact .inl h
  ·exact .inr (by rw[h];exact c9)
  ·exact .inr (by rw[h];exact xdp b1 Z b8)
  ·exact .inr (by rw[h];exact xdp b2 a3 b7)
  ·exact .inr (by rw[h];exact xdp b3 ac a1)
  ·exact .inr (by rw[h];exact xdp b1 Z (bb z hz).2)
  ·exact .inr (by rw[h];exact xdp b2 a3 (ba z hz).2)
  ·exact .inr (by rw[h];exact(ao z hz).2)
 ·refine(ar z hz).keep (xcf bw Z) λo e=>?_
  obtain⟨kvs,h2⟩:=aq z hz;rw[h2]at e;cases e;exact bf h2 U
 ·have e':la z=ta y:=e
  have h1:=(ba y hy).2;rw[<- e',(bb z hz).1]at h1;cases h1
 ·refine(jAAA (λe=>?_) (λe=>?_) (λe=>?_) ⟨λe=>?_,λe=>?_⟩)
  ·have e':sd=bd:=e
   rw[<- e',a9]at b8;cases b8
  ·have e':sd=td:=e
   rw[<- e',ay a9 U]at b7;cases b7
  ·have e':sd=cd:=e
   rw[<- e',ax (ay a9 U) U]at a1;cases a1
  ·have e':cd=bd:=e
   rw[e',ax bo U]at a1;cases a1
  ·have e':cd=td:=e
   rw[e',bn]at a1;cases a1
 ·exact c0 z hz
 ·intro e
  have e':pa z=cd:=e;obtain⟨kvs,h2⟩:=aq z hz;rw[<- e',ax (ay h2 U) U]at a1;cases a1
theorem xfj(T:Tx K r)(c:MethIs P w K r base n (ad K "House") "__init__" qai [[]] (xoy K)):MethIs P w K r base (n+1) (ad K "Plain") "__init__" qai [[]] (xgr K):=by
 refine MethIs.of T.uO xim (λvs H Q E h=>?_) (λf U A outer s H vs Q E J h=>?_)
 ·obtain⟨_,_,_,_,rfl,_⟩:=h
  rfl
 obtain⟨x,dx,p,I,rfl,y,u,g,q⟩:=h
 refine⟨_,(zpn (xbp (xrf c T.uI J T.uH (va 0 (v1 1))))
   (zpo (xdv (pv 0) (pv 1) rfl))),?_⟩
 refine(xan _ rfl _ rfl x dx p (xbm I rfl y u g (λa Z Y fr O i j=>?_)));refine(xan _ rfl _ rfl x _ _ (xbd _ rfl i T.uE.cl (T.uE.no _ (by simp)) ?_ ?_))
 ·exact zT (show(hFs a).length<=4 from zY (xav _ _ _) (zI (zY (xav _ _ _) (zI (zY (xav _ _ _) (zI (zY (xav _ _ _) (zZ _)))))))) (by decide)
 ·have m:=SameBut.upd x Z (.ins (ad K "Plain") dx (putF (Str.ofString "make") p (hFs a)))
  have l:=xcf m i;have G:=Y.trans m;refine q a _ G fr ⟨⟨(jEA _ (by rw[O];exact ups) Hf.init),?_⟩,u.tups (xcf G y) _,g,hok0 g⟩;refine j.keep (x:=a.sd) l λb M o e=>m b o e λz=>?_;obtain⟨o',C,n⟩:=j.there b M;rw[z,i]at C;exact n _ _ _ (z8 C).symm
structure GIn(H:Hp)(f nb:Addr)(kv:V)(ks:List Kn)(nms:List Str):Prop where
 fd:∃p q:Int,H f=some (.lst [.int p,.int q])
 nl:H nb=some (.lst (nms.map V.str))
 ok:xk8 nms
 ne:nb≠f
 nby:∀z∈nms,NoBy z
 kd:RelD H kv (xef ks)
 wf:KWf ks
 pb:PNB ks
theorem GIn.same{H e:Hp}{f b:Addr}{c:V}{ks:List Kn}{a:List Str}(g:GIn H f b c ks a)(s:Same H e):GIn e f b c ks a:=by
 obtain⟨p,q,h⟩:=g.fd;exact⟨(jEE p q (s _ _ h)),s _ _ g.nl,g.ok,g.ne,g.nby,g.kd.same s _,g.wf,g.pb⟩
theorem GIn.fed{H e:Hp}{f b:Addr}{c:V}{ks:List Kn}{a:List Str}(g:GIn H f b c ks a)(s:Fed f H e):GIn e f b c ks a:=⟨s.2,s.1 _ _ g.nl g.ne,g.ok,g.ne,g.nby,g.kd.tups (xai g.fd s) _,g.wf,g.pb⟩
theorem GIn.refl{H:Hp}{f b:Addr}{c:V}{ks:List Kn}{a:List Str}(g:GIn H f b c ks a):Fed f H H:=by
 obtain⟨p,q,h⟩:=g.fd;exact Fed.refl h
theorem GIn.name{H:Hp}{f b:Addr}{c:V}{ks:List Kn}{a:List Str}(g:GIn H f b c ks a){i:Nat}(h:i<26):∃z,a[i]?=some z/\atI (a.map V.str) (i:Int)=some (.str z):=by
 have e:=g.ok.1;exact(jEA (a[i]'(by omega)) (zGA _) (xam (by rw[zGM,zGA (by omega)];rfl)))
structure ChsOk(ks:List Kn)(nms:List Str)(hn:Nat)(cs:List Chn):Prop where
 len:cs.length<=6
 nm:cs.map (·.1)=(nms.drop 12).take cs.length
 kin:∀c∈cs,KIn ks ks.length c.2.2.2
 ends:∀c∈cs,c.2.1∈nms.take hn/\c.2.2.1∈nms.take hn
def xsj:Sp:=λvs H Q _=>∃(f nb:Addr) (kv:V) (ks:List Kn) (nms:List Str) (hn:Nat),vs=[.ref f,kv,.ref nb,.int hn]/\GIn H f nb kv ks nms/\1<=hn/\hn<=4/\∀cv cs H',Fed f H H'->RelD H' cv (.tup (cs.map dChn))->ChsOk ks nms hn cs->Q cv H'
theorem xl5{a:List Str}{i hn:Nat}{z:Str}(h:a[i]?=some z)(hi:i<hn):z∈a.take hn:=zMG (i:=i) (by rw[List.getElem?_take,if_pos hi];exact h)
theorem xj7(T:Tx K mg)(a:DefIs P w K mg base n "_law_take" qae xcw)(j:DefIs P w K mg base n "_law_any_kind" qao xq9):DefIs P w K mg base (n+1) "_law_channels" qbh xsj:=by
 refine DefIs.of T.kC scl_channels (by walk_at"l") (λf bz A outer s H vs Q E hr h=>?_);obtain⟨p,nb,kv,ks,y,hn,rfl,g,h1,h4,q⟩:=h;have nd:=scl_channels.nd
 refine⟨_,(zpn (psn 4 nd (xcd pN))
   (zpn (psn 5 nd (pd a hr (va 0 (v1 3))))
   (zpn (xb5 zF rfl (xcb rfl T.uA (pc (xax (xqz rfl) rfl T.k0 PyProof.Rows.boot_max (pc (pd a hr (va 0 (pc pI pN zso))) (pc (xaq xdx (pv 3) (xau xhe rfl T.kX PyProof.Rows.boot_int (pc (xe9 xd0 (pd a hr (va 0 (pc pI pN zso))) pI (nM _)) pN xmq))) pN xa8) zsc)) pN zsc)) (pgn 6 nd)
   (zpn (psn 7 nd (xa2 (pc (pxl K (pv 2) (pd a hr (va 0 (v1 3)))) (pc (pxl K (pv 2) (pd a hr (va 0 (v1 3)))) pN ss) ss)))
   (zpn (xba (PW.pt (xcu (pR xgy (pv 6) (pv 3) (nM _)) (xcg (pR xd0 (pd a hr (va 0 (pc pI pN zso))) pI (nM _))))) (zpo (psn 7 nd (xa2 (pc (px K (pv 7) pI) (pc (pxl K (pv 2) (xaq xcv (xaq xbk (pv 5) (pv 6)) (pv 3))) pN ss) ss)))) pQ)
   (zpo (xbp (xds zD zH zG xb0 (pv 4) (pc (xa2 (pc (pxl K (pv 2) (xaq xbk pI (pv 6))) (pc (px K (pv 7) pI) (pc (px K (pv 7) pI) (pc (pd j hr (va 0 (v1 1))) pN zsc) ss) ss) ss)) pN zsT)))))))
   (zpo (xaf (xau (xbx (K:=K) rfl) rfl T.uC zK (v1 4))))))),xab λR1 bd=>?_⟩
 refine⟨(by walk_at"s"),λl hl=>bd _ _ (xab λR2 bc=>?_)⟩;have s0:=zA hl (.lst []);have g0:=g.same s0;obtain⟨p0,q0,b8⟩:=g.fd;have I:l≠p:=Ne.symm (neN b8 hl);obtain⟨p1,q1,b7⟩:=g0.fd;refine(xan _ rfl _ rfl p p1 q1 (xbm hn rfl b7 (by omega) (by omega) (λtn H1 t0 t1 f1=>bc _ _ (xab λR3 bb=>?_))));have F1:Fed p H H1:=(g.refl.same s0).trans f1;have aw:=f1.1 _ _ ups I;obtain⟨p2,q2,b6⟩:=F1.2;refine(xaa _ rfl p p2 q2 6 rfl b6 (by decide) (by decide) (λr1 H2 bu bt f2=>?_));have F2:=F1.trans f2;have av:=f2.1 _ _ aw I;obtain⟨p3,q3,b5⟩:=F2.2;refine(xan _ rfl _ rfl p p3 q3 (xbm 5 rfl b5 (by decide) (by decide) (λr2 H3 br bq f3=>?_)));have F3:=F2.trans f3;have au:=f3.1 _ _ av I;refine(xaw _ _ rfl rfl (.inr (xar _ rfl _ _ rfl rfl (jAEE (.inl ⟨by omega,by omega⟩) _ _ ⟨rfl,?_⟩))))
 obtain⟨N,hN,bx⟩:∃N:Nat,(if (hn:Int)*(if decide (r2 > 0)=true then 1 else 0) > r1 then (hn:Int)*(if decide (r2 > 0)=true then 1 else 0) else r1)=(N:Int)/\N<=5:=by
  have hb:(hn:Int)*(if decide (r2 > 0)=true then (1:Int) else 0)=0\/(hn:Int)*(if decide (r2 > 0)=true then (1:Int) else 0)=hn:=by
   by_cases m:decide (r2 > 0)=true
   ·rw[if_pos m];exact .inr (Int.mul_one _)
   ·rw[if_neg m];exact .inl (Int.mul_zero _)
  generalize (hn:Int)*(if decide (r2 > 0)=true then (1:Int) else 0)=b at hb;refine(jEA ((if b > r1 then b else r1).toNat) ?_ ?_) <;> split <;> omega
 rw[hN];refine(xb8 _ rfl (by omega) (by omega) ?_)
 refine xdi (λi σ H'=>∃us,∃cs:List Chn,∃o6 o7,σ=[some (.ref p),some kv,some (.ref nb),some (.int hn),some (.ref l),some (.int tn),o6,o7]/\Fed p H H'/\H' l=some (.lst us)/\RelDs H' us (cs.map dChn)/\cs.length=i/\ChsOk ks y hn cs)
  (xap ([]) ([]) none none rfl F3 au rfl rfl ⟨by decide,rfl,(λ_ h=>nomatch h),λ_ h=>nomatch h⟩) ?_ ?_
 ·rintro i σ H4 hi ⟨us,cs,o6,o7,rfl,F4,a4,C,a5,x⟩
  have bw:i<5:=by omega
  have e0:(0+(i:Int))=(i:Int):=by omega
  have g4:=g.fed F4;obtain⟨p4,q4,b4⟩:=F4.2;have an:=C.length;rw[zLM]at an;refine xab λS1 ba=>?_;refine(xb1 _ rfl _ rfl _ rfl p p4 (xci q4 hn rfl b4 (by omega) (by omega) (λra H5 bp bo f5=>?_)));obtain⟨ia,rfl⟩:∃i:Nat,ra=(i:Int):=⟨ra.toNat,by omega⟩;have g5:=g4.fed f5;obtain⟨za,ak,bi⟩:=g5.name (i:=ia) (by omega);refine(xah nb _ _ _ rfl rfl (zC g5.nl) bi ?_);obtain⟨p5,q5,b3⟩:=f5.2;refine(xb1 _ rfl _ rfl _ rfl p p5 (xci q5 hn rfl b3 (by omega) (by omega) (λrb H6 bn bm f6=>?_)));obtain⟨ib,rfl⟩:∃i:Nat,rb=(i:Int):=⟨rb.toNat,by omega⟩;have g6:=g5.fed f6;obtain⟨zb,aj,bh⟩:=g6.name (i:=ib) (by omega);refine(xap nb _ _ _ rfl rfl (zC g6.nl) bh (by walk_at"s") (λte ao=>ba _ _ (xab λS2 b9=>?_)));have s7:=zA ao (.tup [.str za,.str zb]);have F6:=F4.trans (f5.trans f6);have ae:=xai g4.fd (f5.trans f6)
  have a1:∀(Z:Addr) (Y U:Str) (O:Hp),Fed p H O->O l=some (.lst us)->RelDs O us (cs.map dChn)->O Z=some (.tup [.str Y,.str U])->Y∈y.take hn->U∈y.take hn->S2 [some (.ref p),some kv,some (.ref nb),some (.int hn),some (.ref l),some (.int tn),some (.int (0+(i:Int))),some (.ref Z)] O:=λZ Y U O F8 aa a8 G am al=>by
   refine b9 _ _ ?_;have g8:=g.fed F8;obtain⟨zc,ai,bg⟩:=g8.name (i:=12+i) (by omega)
   have ac:atI (y.map V.str) (12+(0+(i:Int)))=some (.str zc):=by
    rw[e0];exact bg
   refine(jEAA _ rfl (.inl (jAE rfl _ (zC aa))) ?_);refine(xbg _ rfl _ rfl _ _ rfl rfl nb (xa6 _ _ _ rfl rfl (zC g8.nl) ac ?_));refine(xaa _ rfl Z _ _ _ rfl rfl (zB G) rfl (xaa _ rfl Z _ _ _ rfl rfl (zB G) rfl ?_));obtain⟨p8,q8,b2⟩:=F8.2;obtain⟨ka,ag,be,az,ay⟩:=id g8.kd;subst be;have ab:=g.wf.few;refine(xan _ rfl _ rfl p ka p8 (xch q8 ag ks rfl b2 (.inr az) ay ab (λkx H9 ax f9=>⟨(by walk_at"s"),λt ht=>?_⟩)));have st:=zA ht (.tup [.str zc,.str Y,.str U,.str kx]);have a2:=f9.1 _ _ aa I;have af:=xai g8.fd f9;refine(xa6 l us _ rfl rfl (st _ _ a2) (xa3 (by omega)) ?_);have bv:l≠t:=neN a2 ht;have aq:H l=none:=hl;refine(xap (us++[.ref t]) (cs++[(zc,Y,U,kx)]) _ _ rfl ?_ ups ?_ (by rw[zLA,List.length_singleton,a5]) ?_)
   ·refine⟨λb o e hb=>?_,?_⟩
    ·rw[xak (neN e aq)]
     exact st _ _ ((F8.trans f9).1 b o e hb)
    ·obtain⟨p9,q9,b1⟩:=f9.2
     exact(jEE p9 q9 (by rw[xak (Ne.symm I)];exact st _ _ b1))
   ·have a6:∀b vs,upd H9 t (.tup [.str zc,.str Y,.str U,.str kx]) b=some (.tup vs)->upd (upd H9 t (.tup [.str zc,.str Y,.str U,.str kx])) l (.lst (us++[.ref t])) b=some (.tup vs):=λb vs e=>by
     rw[xak λz=>by rw[z,st _ _ a2]at e;cases e];exact e
    rw[zAP];refine(((a8.tups af _).same st _).tups a6 _).append (xaw (.ref t) ([]) rfl (xat t _ rfl (a6 _ _ ups) _ _ rfl rfl _ (xbu _ rfl rfl _ _ rfl rfl (xaw _ _ rfl rfl rfl))) rfl)
   ·refine⟨by rw[zLA,List.length_singleton];omega,?_,λc m=>?_,λc m=>?_⟩
    ·rw[zAP,zLA,List.length_singleton,x.nm,zTA,List.getElem?_drop,a5,ai]
     rfl
    ·rcases zMA m with m |m
     ·exact x.kin c m
     ·rw[zMO m];exact ax
    ·rcases zMA m with m |m
     ·exact x.ends c m
     ·rw[zMO m];exact⟨am,al⟩
  have F7:=F6.same s7;have ar:=(f5.trans f6).1 _ _ a4 I;have a3:=s7 _ _ ar;have r:=(C.tups ae _).same s7 _;have a0:=xl5 ak (by omega:ia<hn);have a7:=xl5 aj (by omega:ib<hn);refine(xbg _ rfl _ rfl _ _ rfl rfl _ ⟨rfl,ite2 (λc1=>?_) (λc1=>?_)⟩)
  ·obtain⟨p7,q7,u⟩:=F7.2
   refine(xaa _ rfl p p7 q7 6 rfl u (by decide) (by decide) (λrc O bl bj M=>(xaw _ _ rfl rfl (jEA _ rfl (ite2 (λc2=>?_) (λc2=>?_))))))
   ·have a9:=xai (jEE p7 q7 u) M _ _ ups
    have F8:=F7.trans M;have g8:=g.fed F8;have J:(0:Int)<(hn:Int):=by omega
    have m0:=zQ (tn+(0+(i:Int))) (by omega:(hn:Int)≠0);have m1:=zO (tn+(0+(i:Int))) J;obtain⟨im,b0⟩:∃im:Nat,(tn+(0+(i:Int)))%(hn:Int)=(im:Int):=⟨((tn+(0+(i:Int)))%(hn:Int)).toNat,by omega⟩;obtain⟨zm,ah,bf⟩:=g8.name (i:=im) (by omega);refine(xaa _ rfl te _ _ _ rfl rfl (zB a9) rfl (xa0 _ rfl _ rfl _ rfl _ _ rfl rfl (xar _ rfl _ _ rfl rfl (jAEE J nb _ (xa9 _ _ rfl rfl (zC g8.nl) (by rw[b0];exact bf) (by walk_at"s") (λZ G=>?_))))));have s9:=zA G (.tup [.str za,.str zm]);exact a1 Z za zm _ (F8.same s9) (s9 _ _ (M.1 _ _ a3 I)) ((r.tups (xai (jEE p7 q7 u) M) _).same s9 _) ups a0 (xl5 ah (by omega))
   ·exact a1 te za zb O (F7.trans M) (M.1 _ _ a3 I) (r.tups (xai (jEE p7 q7 u) M) _) (xai (jEE p7 q7 u) M _ _ ups) a0 a7
  ·exact iteF (a1 te za zb _ F7 a3 r ups a0 a7)
 ·rintro σ H4 ⟨us,cs,o6,o7,rfl,F4,a4,C,a5,x⟩
  refine bb _ _ ?_;refine(jEA _ rfl (jEEA l us rfl (.inl ⟨zC a4,λt ht=>?_⟩)));have st:=zA ht (.tup us);exact q _ cs _ (F4.same st) (xaw t us rfl ups (C.same st _)) x
structure BsOk(ks:List Kn)(nms:List Str)(bs:List (Str×Str)):Prop where
 len:bs.length<=5
 nd:(bs.map (·.1)).Nodup
 nm:∀b∈bs,b.1∈nms
 kin:∀b∈bs,KIn ks 6 b.2
def xu1:Sp:=λvs H Q _=>∃(f nb:Addr) (kv cv:V) (ks:List Kn) (nms:List Str) (cs:List Chn) (x:Str),vs=[.ref f,kv,cv,.str x,.ref nb]/\GIn H f nb kv ks nms/\RelD H cv (.tup (cs.map dChn))/\cs.length<=6/\(∀c∈cs,KIn ks ks.length c.2.2.2)/\∀bv bs H',Fed f H H'->RelD H' bv (xee bs)->BsOk ks nms bs->Q bv H'
def xwi(cs:List Chn)(x:Str)(bs:List (Str×Str))(c y:Str):Prop:=∃ch∈cs,ch.1=c/\ch.2.2.1=x/\(y,ch.2.2.2)∈bs
def IntoAt(H:Hp)(cs:List Chn)(x:Str)(bs:List (Str×Str))(w:V):Prop:=∃(b:Addr) (c y:Str),w=.ref b/\H b=some (.tup [.str c,.str y])/\xwi cs x bs c y
theorem IntoAt.tups{H a:Hp}{cs:List Chn}{x:Str}{bs:List (Str×Str)}{w:V}(h:IntoAt H cs x bs w)(s:∀b vs,H b=some (.tup vs)->a b=some (.tup vs)):IntoAt a cs x bs w:=by
 obtain⟨b,c,y,e,f,r⟩:=h;exact(xbn b c y e (s _ _ f) r)
def xmv:Sp:=λvs H Q _=>∃(cv bv:V) (cs:List Chn) (x:Str) (bs:List (Str×Str)),vs=[cv,.str x,bv]/\RelD H cv (.tup (cs.map dChn))/\cs.length<=6/\RelD H bv (xee bs)/\bs.length<=5/\∀l ws H',Same H H'->H l=none->H' l=some (.lst ws)->(∀w∈ws,IntoAt H' cs x bs w)->ws.length<=30->Q (.ref l) H'
theorem xha(xs:List Str):(xs.map V.str).all xhs=true:=by
 rw[List.all_map];exact List.all_eq_true.mpr λ_ _=>rfl
theorem xpg{H:Hp}{us:List V}{bs:List (Str×Str)}(g:RelDs H us (bs.map xmd)){i:Nat}{v:V}(a:us[i]?=some v):∃(b:Addr) (p:Str×Str),bs[i]?=some p/\v=.ref b/\H b=some (.tup [.str p.1,.str p.2]):=by
 obtain⟨d,hd,rd⟩:=g.get a;rw[zGM]at hd;obtain⟨c,e,rfl⟩:=zMS hd;obtain⟨b,ws,rfl,f,_,_,rfl,rfl,_,_,rfl,rfl,rfl⟩:=rd;exact(xaw b c e rfl f)
theorem xrk(T:Tx K mg):DefIs P w K mg base (n+1) "_law_into" qay xmv:=by
 refine DefIs.of T.kE scl_into (by walk_at"l") (λf aa A outer s H vs Q E hr h=>?_);obtain⟨cv,bv,cs,x,bs,rfl,a4,h6,a5,h5,q⟩:=h;have nd:=scl_into.nd
 refine⟨_,(zpn (psn 3 nd (xcd pN))
   (zpn (xb5 zF rfl (xas (K:=K) rfl (pv 0)) (xbc (K:=K) rfl rfl (xad (pgn 4 nd) (xad (pgn 5 nd) (xad (pgn 6 nd) (xad (pgn 7 nd) xbb)))))
   (zpo (psn 3 nd (xaq xfx (pv 3) (xbh ["_law_x","_law_told","_law_c","_law_to","_law_h","_law_kind"] [none,none,some 4,some 6,some 1,some 7] rfl (by kernel_rfl) (xas (K:=K) rfl (pv 2)) (λ_ _ _ _=>(xbc (K:=K) (n:=2) rfl rfl (xad (pgc 0) (xad (pgc 1) xbb)))) (λ_ _ _ _=>(xdr (PW.pt (xcu (pR xbf (pv 3) (pv 4) (nM _)) (xcg (pR xbf (pv 1) (pv 5) (nM _))))))) (λ_ _ _ _=>(xa2 (va 2 (v1 0)))))))))
   (zpo (xaf (pv 3))))),xab λR1 a9=>?_⟩
 refine⟨(by walk_at"s"),λl0 J=>a9 _ _ (xab λR2 a8=>?_)⟩;have s0:=zA J (.lst []);obtain⟨ca,us,rfl,M,hR⟩:=a4;obtain⟨ba,ub,rfl,O,hB⟩:=a5;have a2:=hR.length;have a6:=hB.length;rw[zLM]at a2 a6;refine(xbi _ rfl ca rfl ⟨_,zB (s0 _ _ M)⟩ ?_)
 refine xcz (xs:=us) (λi σ r=>∃(l:Addr) (ws:List V) (o4 Z Y U:Option V),σ=[some (.ref ca),some (.str x),some (.ref ba),some (.ref l),o4,Z,Y,U]/\Same H r/\H l=none/\r l=some (.lst ws)/\(∀w∈ws,IntoAt r cs x bs w)/\ws.length<=5*i)
  (xal l0 ([]) none none none (xbd none rfl s0 J ups (λ_ h=>nomatch h) (qL _))) (λi σ r _ p=>?_) ?_ ?_
 ·obtain⟨_,_,_,_,_,_,_,m,_⟩:=p
  exact zB (m _ _ M)
 ·rintro i v σ H1 hv ⟨l,ws,o4,Z,Y,U,rfl,m,hl,z,g,a1⟩
  obtain⟨b,c,hc,rfl,hb⟩:=xdz hR hv;have hi:i<us.length:=(zES hv).1;refine(xay b _ rfl (zB (m _ _ hb)) rfl _ _ rfl _ (jEA _ rfl (jEEA _ _ rfl (xaw _ _ rfl rfl ?_))));refine(jEA _ rfl (xbi _ rfl ba rfl ⟨_,zB (m _ _ O)⟩ ?_));refine xbj (xs:=ub) (λj ys r=>Same H1 r/\(∀w∈ys,IntoAt r cs x bs w)/\ys.length<=j) (jAA (Same.refl _) (λ_ h=>nomatch h) (zZ _)) (xa3 (by omega)) (λj ys r _ p=>zB ((m.trans p.1) _ _ O)) ?_ ?_
  ·rintro j y ys H2 hy hj o ⟨C,a,a0⟩
   obtain⟨b2,pb,a3,rfl,a7⟩:=xpg hB hy;refine(xay b2 _ rfl (zB ((m.trans C) _ _ a7)) rfl _ _ rfl _ (xb8 _ rfl rfl (ext2 rfl rfl) ?_));refine(xcp _ rfl _ rfl rfl _ rfl (ite2 (λc1=>?_) (λc1=>iteF (nxtN hj o (jAA C a (by omega))))));refine(xcp _ rfl _ rfl rfl _ rfl (ite2 (λc2=>?_) (λc2=>nxtN hj o (jAA C a (by omega)))));refine(xbi _ rfl _ rfl (by walk_at"s") (λt ht=>nxtG hj o ?_));have st:=zA ht (.tup [.str c.1,.str pb.1]);refine(jAA (C.trans st) (λw e=>?_) (by rw[zLA,List.length_singleton];omega));rcases zMA e with e |e
   ·exact(a w e).tups (Same.tups st)
   ·rw[zMO e]
    have e1:c.2.2.1=x:=V.str.inj (z0 c1);have e2:pb.2=c.2.2.2:=V.str.inj (z0 c2);exact(xbn t c.1 pb.1 rfl ups (xb8 c (zMG hc) rfl e1 (by rw[<- e2];exact zMG a3)))
  ·rintro ys H2 o ⟨C,a,a0⟩ D hD
   have sD:=zA hD (.lst ys);have u:=C.trans sD;refine(xap l D ws ys rfl rfl (u _ _ z) ups (fits (by omega)) (λl2 I=>?_));have sl:=zA I (.lst (ws++ys));have G:=u.trans sl;refine(xal l2 (ws++ys) _ _ _ (xbd _ rfl (m.trans G) (xae (m.trans u) I) ups (λw e=>?_) (by rw[zLA];omega)));rcases zMA e with e |e
   ·exact(g w e).tups (Same.tups G)
   ·exact(a w e).tups (Same.tups (sD.trans sl))
 ·rintro σ H1 ⟨l,ws,o4,Z,Y,U,rfl,m,hl,z,g,a1⟩
  exact a8 _ _ (jEA _ rfl (q l ws H1 m hl z g (by omega)))
theorem xpp(T:Tx K mg)(a:DefIs P w K mg base n "_law_take" qae xcw)(m:DefIs P w K mg base n "_law_any_kind" qao xq9):DefIs P w K mg base (n+1) "_law_boxes" qbi xu1:=by
 refine DefIs.of T.kD scl_boxes (by walk_at"l") (λf b3 A outer s H vs Q E hr h=>?_);obtain⟨U,nb,kv,cv,ks,a8,cs,x,rfl,g,aj,h6,ak,q⟩:=h;have nd:=scl_boxes.nd
 refine⟨_,(zpn (psn 5 nd (xcd pN))
   (zpn (xb5 zF rfl (xas (K:=K) rfl (pv 2)) (xbc (K:=K) rfl rfl (xad (pgn 6 nd) (xad (pgn 7 nd) (xad (pgn 8 nd) (xad (pgn 9 nd) xbb)))))
   (zpo (xba (PW.pt (xcu (pR xbf (pv 8) (pv 3) (nM _)) (xcg (pR xej (pv 9) (pv 5) (by with_unfolding_all rfl))))) (zpo (xbp (xds zD zH zG xb0 (pv 5) (v1 9)))) pQ)))
   (zpn (xb5 zF rfl (xcb rfl T.uA (pc (pd a hr (va 0 (pc pI pN zso))) pN zsc)) (pgn 10 nd)
   (zpo (xbp (xds zD zH zG xb0 (pv 5) (pc (pd m hr (va 0 (v1 1))) pN zsc)))))
   (zpn (psn 11 nd (xaq xcs (pd a hr (va 0 (pc pI pN zso))) pI))
   (zpo (xaf (xau (xbx (K:=K) rfl) rfl T.uC zK (pc (xbh ["_law_k","_law_names_here","_law_wants","_law_turn"] [none,some 4,some 5,some 11] rfl (by kernel_rfl) (xcb rfl T.uA (pc (xax (xk0 rfl) rfl T.k7 PyProof.Rows.boot_min (pc pI (pc (xax (xag (K:=K) rfl) rfl T.kY zE (v1 5)) pN zsc) zso)) pN zsc)) (λ_ _ _ _=>(pgc 0)) (λ_ _ _ _=>xbo) (λ_ _ _ _=>(xa2 (pc (pxl K (pv 1) (xaq xbk pI (xaq xcv (xaq xbk (pv 0) (pv 3)) pI))) (pc (pxl K (pv 2) (pv 0)) pN ss) ss)))) pN xbt)))))))),xab λR1 ao=>?_⟩
 refine⟨(by walk_at"s"),λl M=>ao _ _ (xab λR2 an=>?_)⟩;have s0:=zA M (.lst []);obtain⟨p0,q0,a4⟩:=g.fd;have lf:l≠U:=Ne.symm (neN a4 M);have ay:nb≠l:=neN g.nl M;obtain⟨ca,us,rfl,a5,hR⟩:=aj;have aa:=hR.length;rw[zLM]at aa;have O:=g.wf.few;refine(xbi _ rfl ca rfl ⟨_,zB (s0 _ _ a5)⟩ ?_);have ar:∀{C:Hp} {xs:List Str} (k:Str),SameBut l H C->C l=some (.lst (xs.map V.str))->SameBut l H (upd C l (.lst ((xs++[k]).map V.str))):=λk s _=>s.trans (SameBut.upd _ _ _)
 refine xcz (xs:=us) (λi σ C=>∃(xs:List Str) (o6 o7 o8 o9:Option V),σ=[some (.ref U),some kv,some (.ref ca),some (.str x),some (.ref nb),some (.ref l),o6,o7,o8,o9,none,none]/\SameBut l H C/\C l=some (.lst (xs.map V.str))/\(∀k∈xs,KIn ks ks.length k)/\xs.length<=i)
  (xal ([]) none none none none (jAAA rfl s0.but ups ⟨(λ_ h=>nomatch h),qL _⟩)) (λi σ C _ p=>?_) ?_ ?_
 ·obtain⟨_,_,_,_,_,_,I,_⟩:=p
  exact zB (I _ _ a5 (neN a5 M))
 ·rintro i v σ H1 hv ⟨xs,o6,o7,o8,o9,rfl,I,r,J,a0⟩
  obtain⟨b,c,hc,rfl,u⟩:=xdz hR hv;have hi:i<us.length:=(zES hv).1;refine(xay b _ rfl (zB (I _ _ u (neN u M))) rfl _ _ rfl _ (jEA _ rfl (jEEA _ _ rfl (xaw _ _ rfl rfl ?_))));refine(xcp _ rfl _ rfl rfl _ rfl (ite2 (λc1=>?_) (λc1=>iteF (xal xs _ _ _ _ (jAAA rfl I r ⟨J,by omega⟩)))));refine(jEA _ rfl (xar _ rfl l _ rfl (.inl (zC r)) (jAA rfl (xha xs) (jEA _ rfl (ite2 (λc2=>?_) (λc2=>(xal xs _ _ _ _ (jAAA rfl I r ⟨J,by omega⟩))))))));refine(xa5 _ rfl (.inl (jAE rfl _ (zC r))) _ rfl (xa6 l _ _ rfl rfl r (xa3 (by rw[zLM];omega)) ?_));refine(xal (xs++[c.2.2.2]) _ _ _ _ (jAAA rfl (I.trans (SameBut.upd _ _ _)) (by rw[ups,zAP];rfl) ⟨λk a2=>?_,by rw[zLA,List.length_singleton];omega⟩));rcases zMA a2 with h |h
  ·exact J k h
  ·rw[zMO h];exact ak c (zMG hc)
 rintro σ H1 ⟨xs,o6,o7,o8,o9,rfl,I,r,J,a0⟩;refine an _ _ (xab λR3 am=>?_);have F1:Fed U H H1:=(jAEE (λb o e _=>I b o e (neN e M)) p0 q0 (I _ _ a4 (neN a4 M)));have g1:=g.fed F1;obtain⟨p1,q1,ai⟩:=F1.2;refine(xaa _ rfl U p1 q1 3 rfl ai (by decide) (by decide) (λr1 H2 ax aw f2=>(xb8 _ rfl (by omega) (by omega) ?_)))
 refine xdi (λi σ C=>∃(xs:List Str) (Y:Option V),σ=[some (.ref U),some kv,some (.ref ca),some (.str x),some (.ref nb),some (.ref l),o6,o7,o8,o9,Y,none]/\Fed U H C/\C l=some (.lst (xs.map V.str))/\(∀k∈xs,KIn ks ks.length k)/\xs.length<=6+i)
  (xci xs none rfl (F1.trans f2) (f2.1 _ _ r lf) J (by omega)) ?_ ?_
 ·rintro i σ H3 hi ⟨xs,Y,rfl,F3,r,J,a0⟩
  have g3:=g.fed F3;obtain⟨p3,q3,a3⟩:=F3.2;obtain⟨ka,a9,aq,ag,af⟩:=id g3.kd;subst aq;refine(xa5 _ rfl (.inl (jAE rfl _ (zC r))) _ rfl (xaz _ rfl U ka p3 q3 (xa9 a9 ks rfl a3 (.inr ag) af O (λkx H4 ae f4=>?_))));have y:=f4.1 _ _ r lf;refine(xa6 l _ _ rfl rfl y (xa3 (by rw[zLM];omega)) ?_);have F4:=F3.trans f4;refine(xci (xs++[kx]) _ rfl ?_ (by rw[ups,zAP];rfl) (λk a2=>?_) (by rw[zLA,List.length_singleton];omega))
  ·refine⟨λb o e u=>by rw[xak (neN e M)];exact F4.1 b o e u,?_⟩
   obtain⟨p4,q4,ah⟩:=F4.2;exact(jEE p4 q4 (by rw[xak (Ne.symm lf)];exact ah))
  ·rcases zMA a2 with h |h
   ·exact J k h
   ·rw[zMO h];exact ae
 rintro σ H3 ⟨xs,Y,rfl,F3,r,J,a0⟩;refine am _ _ (xab λR4 al=>?_);obtain⟨p3,q3,a3⟩:=F3.2;refine(xaa _ rfl U p3 q3 4 rfl a3 (by decide) (by decide) (λr4 H4 av au f4=>(xb9 _ _ rfl rfl ⟨by decide,by decide⟩ (al _ _ ?_))));have F4:=F3.trans f4;have g4:=g.fed F4;have y:=f4.1 _ _ r lf;have xl:(xs.map V.str).length=xs.length:=zLM _;refine(xar _ rfl l _ rfl (.inl (zC y)) (jEEA _ _ rfl ?_))
 obtain⟨N,hN,b2,b1⟩:∃N:Nat,(if ((xs.map V.str).length:Int)<5 then ((xs.map V.str).length:Int) else 5)=(N:Int)/\N<=5/\N<=xs.length:=by
  rw[xl];refine(jEAA ((if (xs.length:Int)<5 then (xs.length:Int) else 5).toNat) ?_ ?_ ?_) <;> split <;> omega
 rw[hN];refine(xb8 _ rfl (by omega) (by omega) ?_);have tn:0<=r4 / 2/\r4 / 2<=1:=by omega
 obtain⟨tt,ab⟩:∃t:Nat,r4 / 2=(t:Int):=⟨(r4 / 2).toNat,by omega⟩;have ix:∀i:Nat,(18+((0+(i:Int))+r4 / 2)%6)=((18+(i+tt)%6:Nat):Int):=λi=>by rw[ab];omega
 refine xdb (j:=0) (λi ys C=>Same H4 C/\∃bs:List (Str×Str),RelDs C ys (bs.map xmd)/\bs.length=i/\(∀(j:Nat) b,bs[j]?=some b->a8[18+(j+tt)%6]?=some b.1)/\∀b∈bs,KIn ks 6 b.2) (by rfl) (jAEA (Same.refl _) ([]) rfl (jAA rfl (λj b h=>by simp at h) (λ_ h=>nomatch h))) (xa3 (by omega)) ?_ ?_
 ·rintro i ys H5 hi a7 ⟨s5,bs,Z,a6,G,a1⟩
  have g5:=g4.same s5;obtain⟨z,hz,az⟩:=g5.name (i:=18+(i+tt)%6) (by omega);have hx:i<xs.length:=by omega
  refine(xa0 _ rfl _ rfl _ rfl _ _ rfl rfl (xb9 _ _ rfl rfl (by show(0:Int)<6;decide) (xaw _ _ rfl rfl (xah nb _ _ _ rfl rfl (zC g5.nl) (by rw[ix];exact az) ?_))));refine(xan _ rfl _ rfl l _ _ (xbd (.str xs[i]) rfl rfl (zC (s5 _ _ y)) ?_ (by walk_at"s") (λt ht=>nxt hi a7 ?_)))
  ·rw[show(0+(i:Int))=(i:Int) by omega]
   exact xam (by rw[zGM,zGA hx];rfl)
  have st:=zA ht (.tup [.str z,.str xs[i]]);refine(jAEA (s5.trans st) (bs++[(z,xs[i])]) ?_ (jAA (by rw[zLA,List.length_singleton,a6]) (λj b u=>?_) (λb u=>?_)))
  ·rw[zAP]
   exact(Z.same st _).append (xaw (.ref t) ([]) rfl (xat t _ rfl ups _ _ rfl rfl _ (jEAA _ rfl rfl rfl)) rfl)
  ·by_cases hj:j<bs.length
   ·rw[List.getElem?_append_left hj]at u
    exact G j b u
   ·have ac:=(zES u).1
    rw[zLA,List.length_singleton]at ac;have e0:j=i:=by omega
    subst e0;rw[List.getElem?_append_right (by omega),a6,Nat.sub_self]at u;simp at u;subst u;exact hz
  ·rcases zMA u with h |h
   ·exact a1 b h
   ·rw[zMO h]
    exact(J _ (qM hx)).mono O
 ·rintro ys H5 a7 ⟨s5,bs,Z,a6,G,a1⟩ D hD
  have sD:=zA hD (.lst ys);refine(jEEA D ys rfl (.inl ⟨zC ups,λt ht=>?_⟩));have st:=zA ht (.tup ys);have sA:=sD.trans st;refine q _ bs _ (F4.same (s5.trans sA)) (xaw t ys rfl ups (Z.same sA _)) ⟨by omega,?_,λb u=>?_,a1⟩
  ·refine List.pairwise_iff_getElem.mpr λi j hi hj b0 e=>?_
   rw[zLM]at hi hj;rw[List.getElem_map,List.getElem_map]at e;have h1:=G i _ (zGA hi);have h2:=G j _ (zGA hj);rw[e]at h1;obtain⟨k1,e1⟩:=zES h1;obtain⟨k2,e2⟩:=zES h2;have:=(List.getElem_inj (h₀:=k1) (h₁:=k2) g.ok.2.1).mp (e1.trans e2.symm);omega
  ·obtain⟨j,hj,e⟩:=zMI u
   have:=G j b (by rw[<- e];exact zGA hj);exact zMG this
def Sb2(f m:Addr)(H H':Hp):Prop:=(∀b o,H b=some o->b≠f->b≠m->H' b=some o)/\∃p q:Int,H' f=some (.lst [.int p,.int q])
theorem Sb2.of{f m:Addr}{H a:Hp}(h:Fed f H a):Sb2 f m H a:=⟨λb o e n _=>h.1 b o e n,h.2⟩
theorem Sb2.same{f m:Addr}{H c a:Hp}(h:Sb2 f m H c)(s:Same c a):Sb2 f m H a:=by
 obtain⟨l,p,q,j⟩:=h;exact(jAEE (λb o e i g=>s _ _ (l b o e i g)) p q (s _ _ j))
theorem Sb2.upd{f m:Addr}{H c:Hp}(h:Sb2 f m H c)(n:m≠f)(o:HO):Sb2 f m H (L2.upd c m o):=by
 obtain⟨j,p,q,i⟩:=h;exact(jAEE (λb u e g a=>by rw[xak a];exact j b u e g a) p q (by rw[xak (Ne.symm n)];exact i))
structure DIn(H:Hp)(f:Addr)(kv cv bv:V)(ks:List Kn)(cs:List Chn)(bs:List (Str×Str)):Prop where
 fd:∃p q:Int,H f=some (.lst [.int p,.int q])
 kd:RelD H kv (xef ks)
 wf:KWf ks
 pb:PNB ks
 cd:RelD H cv (.tup (cs.map dChn))
 c6:cs.length<=6
 ck:∀c∈cs,KIn ks 6 c.2.2.2
 bd:RelD H bv (xee bs)
 b5:bs.length<=5
 bn:(bs.map (·.1)).Nodup
 bb:∀b∈bs,NoBy b.1
 bk:∀b∈bs,KIn ks 6 b.2
theorem DIn.keep{H a:Hp}{f:Addr}{c e g:V}{ks:List Kn}{cs:List Chn}{bs:List (Str×Str)}(d:DIn H f c e g ks cs bs)(s:∀b vs,H b=some (.tup vs)->a b=some (.tup vs))(h:∃p q:Int,a f=some (.lst [.int p,.int q])):DIn a f c e g ks cs bs:=
 ⟨h,d.kd.tups s _,d.wf,d.pb,d.cd.tups s _,d.c6,d.ck,d.bd.tups s _,d.b5,d.bn,d.bb,d.bk⟩
theorem DIn.same{H e:Hp}{f:Addr}{a b c:V}{ks:List Kn}{cs:List Chn}{bs:List (Str×Str)}(d:DIn H f a b c ks cs bs)(s:Same H e):DIn e f a b c ks cs bs:=d.keep (Same.tups s) (by obtain⟨p,q,h⟩:=d.fd;exact(jEE p q (s _ _ h)))
theorem DIn.fed{H e:Hp}{f:Addr}{a b c:V}{ks:List Kn}{cs:List Chn}{bs:List (Str×Str)}(d:DIn H f a b c ks cs bs)(s:Fed f H e):DIn e f a b c ks cs bs:=d.keep (xai d.fd s) s.2
theorem DIn.tin{H:Hp}{f c:Addr}{g l m:V}{ks:List Kn}{cs:List Chn}{bs:List (Str×Str)}(d:DIn H f g l m ks cs bs){us:List V}(a:H c=none)(e:RelDs H us (bs.map xmd)):TIn (upd H c (.lst us)) f g (.ref c) ks bs 3:=by
 have s:=zA a (.lst us);have d':=d.same s;obtain⟨p,q,h⟩:=d.fd;exact⟨d'.fd,d'.kd,d.wf,d.pb,(xb9 c us rfl ups (e.same s _) (Ne.symm (neN h a))),d.bn,by have:=d.b5;omega,λb i j _=>d.bb b i j,d.bk⟩
theorem xu6{k n:Nat}(h:k<n):seqIndex? (k:Int) n=some k:=by
 unfold seqIndex?;have:¬(k:Int)<0:=by omega
 simp only[if_neg this];rw[if_pos (by simp;omega),Int.toNat_natCast]
theorem xsx:∀(l:List Str) (i:Nat),(l.map V.str).eraseIdx i=(l.eraseIdx i).map V.str
 |[],i=>rfl
 |a::l,0=>rfl
 |a::l,i+1=>by
  rw[List.map_cons,List.eraseIdx_cons_succ,List.eraseIdx_cons_succ,List.map_cons,xsx l i]
def xo0:Sp:=λvs H Q _=>∃(f m:Addr) (kv cv bv:V) (ks:List Kn) (cs:List Chn) (bs:List (Str×Str)) (x:Str) (ms:List Str),vs=[.ref f,kv,cv,.str x,bv,.ref m]/\DIn H f kv cv bv ks cs bs/\H m=some (.lst (ms.map V.str))/\m≠f/\ms.length<=100 ∧
 ∀u r ms' H',Sb2 f m H H'->H' m=some (.lst (ms'.map V.str))->ms'.length<=ms.length->((∀l c y,r≠.take l c y)->ms'=ms)->RelD H' u r.d->(∀n,xf5 ks cs x bs n r)->(∀b vs,H b=some (.tup vs)->H' b=some (.tup vs))->Q u H'
theorem xrl(T:Tx K mg)(a:DefIs P w K mg base n "_law_take" qae xcw)(C:DefIs P w K mg base n "_law_into" qay xmv)(g:DefIs P w K mg base n "_law_new_term" qal xjl):DefIs P w K mg base (n+1) "_law_deal" qa4 xo0:=by
 refine DefIs.of T.kF scl_deal (by walk_at"l") (λf c4 A outer s H vs Q E hr h=>?_);obtain⟨G,ml,kv,cv,bv,ks,cs,bs,x,O,rfl,d,aq,mf,bx,q⟩:=h;have nd:=scl_deal.nd;have c6:=d.c6;have b5:=d.b5
 refine⟨_,(zpn (psn 6 nd (pd a hr (va 0 (pc pI pN zso))))
   (zpn (psn 7 nd (pd C hr (va 2 (va 3 (v1 4)))))
   (zpn (xc8 (i:=8) ["_law_c","_law_come","_law_to","_law_kind","_law_h"] [none,none,none,none,some 3] rfl (by kernel_rfl) nd rfl (by walk_at"o") (xas (K:=K) rfl (pv 2)) (λ_ _ _ _=>(xbc (K:=K) (n:=4) rfl rfl (xad (pgc 0) (xad (pgc 1) (xad (pgc 2) (xad (pgc 3) xbb)))))) (λ_ _ _ _=>(xdr (pR xbf (pv 1) (pv 4) (nM _)))) (λ_ _ _ _=>(xa2 (va 0 (v1 3)))))
   (zpn (xba (PW.pt (xcu (pR xgy (pv 6) pI (nM _)) (xcu (pR xd0 (xax (xag (K:=K) rfl) rfl T.kY zE (v1 7)) pI (nM _)) (xcg (pR xd0 (xax (xag (K:=K) rfl) rfl T.kY zE (v1 5)) pI (nM _)))))) (zpn (xdw (pxl K (pv 7) (pd a hr (va 0 (pc (xax (xag (K:=K) rfl) rfl T.kY zE (v1 7)) pN zsc)))) (xbc (K:=K) rfl rfl (xad (pgn 9 nd) (xad (pgn 10 nd) xbb))))
   (zpo (xaf (xa2 (pc pS (pc (xds zD PySem.F.slot_list_pop PySem.F.type_list_pop xi1 (pv 5) (pc (pd a hr (va 0 (pc (xax (xag (K:=K) rfl) rfl T.kY zE (v1 5)) pN zsc))) pN zsc)) (va 9 (v1 10)) zsc) zso))))) pQ)
   (zpn (xba (PW.pt (xcu (pR xgy (pv 6) pI (nM _)) (xcg (pR xd0 (xax (xag (K:=K) rfl) rfl T.kY zE (v1 8)) pI (nM _))))) (zpn (xdw (pxl K (pv 8) (pd a hr (va 0 (pc (xax (xag (K:=K) rfl) rfl T.kY zE (v1 8)) pN zsc)))) (xbc (K:=K) rfl rfl (xad (pgn 9 nd) (xad (pgn 11 nd) xbb))))
   (zpo (xaf (xa2 (pc pS (va 9 (pc (pd g hr (va 0 (va 1 (pc (xau xb4 rfl T.kZ zM (v1 4)) (v1 11) zsc)))) pN zsc)) zso))))) pQ)
   (zpn (xba (PW.pt (xcu (pR xgy (pv 6) pI (nM _)) (xcg (pR xd0 (xax (xag (K:=K) rfl) rfl T.kY zE (v1 4)) pI (nM _))))) (zpn (xdw (px K (pv 4) (pd a hr (va 0 (pc (xax (xag (K:=K) rfl) rfl T.kY zE (v1 4)) pN zsc)))) (xbc (K:=K) rfl rfl (xad (pgn 10 nd) (xad (pgn 11 nd) xbb))))
   (zpo (xaf (xa2 (pc pS (va 10 (pc (pd g hr (va 0 (va 1 (pc (xau xb4 rfl T.kZ zM (v1 4)) (v1 11) zsc)))) pN zsc)) zso))))) pQ)
   (zpo (xaf (xa2 (pc pS (pc (pd g hr (va 0 (va 1 (pc (xau xb4 rfl T.kZ zM (v1 4)) (pc pS pN zso) zsc)))) pN zsc) zso)))))))))),xab λR1 bn=>?_⟩
 obtain⟨p0,q0,b8⟩:=d.fd;refine(xaa _ rfl G p0 q0 8 rfl b8 (by decide) (by decide) (λfm H1 c0 bz f1=>bn _ _ (xab λR2 bm=>?_)));have d1:=d.fed f1;have ac:=f1.1 _ _ aq mf;refine(xb1 _ rfl _ rfl _ rfl cv bv (xch cs x bs rfl d1.cd c6 d1.bd b5 (λil ws H2 s2 ar b6 ae bu=>bm _ _ (xab λR3 bj=>?_))));have d2:=d1.same s2;have ao:=s2 _ _ ac;have F2:Fed G H H2:=f1.same s2;obtain⟨ca,uc,bo,ax,ay⟩:=id d2.cd;subst bo;have bb:=ay.length;rw[zLM]at bb;refine(xbi _ rfl ca rfl ⟨_,zB ax⟩ ?_);refine xbj (xs:=uc) (λi ys H'=>Same H2 H'/\(∀w∈ys,∃(b:Addr) (ch:Chn),w=.ref b/\H' b=some (.tup [.str ch.1,.str ch.2.2.2])/\ch∈cs/\ch.2.1=x)/\ys.length<=i) (jAA (Same.refl _) (λ_ h=>nomatch h) (zZ _)) (xa3 (by omega)) (λi ys H' _ p=>zB (p.1 _ _ ax)) ?_ ?_
 ·rintro i y ys H3 hy hi af ⟨s3,a0,b1⟩
  obtain⟨b,c,hc,rfl,hb⟩:=xdz ay hy;refine(xay b _ rfl (zB (s3 _ _ hb)) rfl _ _ rfl _ (jEA _ rfl (jEEA _ _ rfl (xb9 _ _ rfl rfl (ext4 rfl rfl rfl rfl) ?_))));refine(xcp _ rfl _ rfl rfl _ rfl (ite2 (λc1=>?_) (λc1=>nxtN hi af (jAA s3 a0 (by omega)))));refine(xbi _ rfl _ rfl (by walk_at"s") (λt ht=>nxtG hi af ?_));have st:=zA ht (.tup [.str c.1,.str c.2.2.2]);refine(jAA (s3.trans st) (λw hw=>?_) (by rw[zLA,List.length_singleton];omega));rcases zMA hw with hw |hw
  ·obtain⟨b',ch,e,bf,r⟩:=a0 w hw
   exact(xaw b' ch e (st _ _ bf) r)
  ·rw[zMO hw]
   exact(xb9 t c rfl ups (zMG hc) (V.str.inj (z0 c1)))
 rintro ys H3 af ⟨s3,a0,b1⟩ D hD;have sD:=zA hD (.lst ys);obtain⟨H4,a8⟩:∃H4,H4=upd H3 D (.lst ys):=⟨_,rfl⟩;have ai:H4 D=some (.lst ys):=by rw[a8];exact ups
 rw[<- a8]at sD;have s4:=s3.trans sD;have d4:=d2.same s4;have F4:Fed G H H4:=F2.same s4;have a2:=s4 _ _ ao;have a3:=s4 _ _ b6;obtain⟨p1,q1,av⟩:=f1.2;have b0:il≠G:=Ne.symm (neN av ar);have bt:il≠ml:=Ne.symm (neN ac ar);have Df:D≠G:=Ne.symm (neN (s3 _ _ (s2 _ _ av)) hD);obtain⟨p4,q4,M⟩:=F4.2;obtain⟨ba,ub,bp,U,a6⟩:=id d4.bd;subst bp;have bc:=a6.length;rw[zLM]at bc;have az:(O.map V.str).length=O.length:=zLM _;have ah:∀w∈ws,IntoAt H4 cs x bs w:=λw hw=>(ae w hw).tups (Same.tups s4)
 have al:∀w∈ys,∃(b:Addr) (ch:Chn),w=.ref b/\H4 b=some (.tup [.str ch.1,.str ch.2.2.2])/\ch∈cs/\ch.2.1=x:=λw hw=>by
  obtain⟨b,ch,e,hb,r⟩:=a0 w hw;exact(xaw b ch e (sD _ _ hb) r)
 rw[<- a8];clear a8 ae a0
 have a7:∀{H5 H6:Hp} {u:V} {r:Row},Fed G H4 H5->Same H5 H6->(∀l c y,r≠.take l c y)->RelD H6 u r.d->(∀n,xf5 ks cs x bs n r)->Q u H6:=λ{H5 H6 u r} o s6 bw hu b2=>by
  have F5:=(F4.trans o).same s6;exact q u r O H6 (Sb2.of F5) (s6 _ _ (o.1 _ _ a2 mf)) (zZ _) (λ_=>rfl) hu b2 (xai d.fd F5)
 refine bj _ _ (xab λR4 bi=>?_)
 have Z:R4 [some (.ref G),some kv,some (.ref ca),some (.str x),some (.ref ba),some (.ref ml),some (.int fm),some (.ref il),some (.ref D),none,none,none] H4:=by
  refine bi _ _ (xab λR5 bh=>?_)
  have aa:R5 [some (.ref G),some kv,some (.ref ca),some (.str x),some (.ref ba),some (.ref ml),some (.int fm),some (.ref il),some (.ref D),none,none,none] H4:=by
   refine bh _ _ (xab λR6 bg=>?_)
   have a9:R6 [some (.ref G),some kv,some (.ref ca),some (.str x),some (.ref ba),some (.ref ml),some (.int fm),some (.ref il),some (.ref D),none,none,none] H4:=by
    refine bg _ _ ?_;refine(xa0 _ rfl _ rfl _ rfl ba ub rfl (.inr (zB U)) (λbl j=>?_));have sb:=zA j (.lst ub);refine(xal G kv (.ref bl) ks bs (xb8 (S "num") rfl (d4.tin j a6) (.inl rfl) (λta td H5 o rd tb=>⟨(by walk_at"s"),λt ht=>?_⟩)));have st:=zA ht (.tup [.str (S "tell"),.ref ta]);exact a7 (r:=.tell td) (((Fed.refl M).same sb).trans o) st (by intro _ _ _ e;cases e) (xat t _ rfl ups _ _ rfl rfl _ (jEAA _ rfl (rd.same st _) rfl)) λ_=>tb.1
   refine(xbl _ rfl _ _ rfl rfl _ rfl (ite2 (λc1=>?_) (λc1=>iteF a9)));refine(xb6 _ rfl ba _ rfl (.inr (zB U)) _ _ rfl rfl (jEA _ rfl (ite2 (λc2=>?_) (λc2=>a9))));have ab:=z0 c2;refine xab λS1 a5=>?_;refine(xa0 _ rfl _ rfl _ rfl ba _ rfl (.inr (zB U)) (xah G p4 q4 _ rfl M (by omega) (by omega) (λr5 H5 ak aj o=>?_)));obtain⟨i5,rfl⟩:∃i:Nat,r5=(i:Int):=⟨r5.toNat,by omega⟩;have I:i5<ub.length:=by omega
   have m:=xai (jEE p4 q4 M) o;obtain⟨J,pb,b4,eb,a4⟩:=xpg a6 (zGA I);refine(xbe ba _ _ (.ref J) rfl rfl (zB (m _ _ U)) (xam (by rw[zGA I,eb])) J (xb8 _ rfl (zB (m _ _ a4)) rfl (jEEA _ _ rfl (xaw _ _ rfl rfl (a5 _ _ ?_)))));have am:=zMG b4;have d5:=d4.fed o;refine(jEA _ rfl (xa0 _ rfl _ rfl _ rfl ba ub rfl (.inr (zB (m _ _ U))) (λbl j=>?_)));have sb:=zA j (.lst ub);refine(xaz _ rfl G kv (.ref bl) ks (xb9 bs pb.2 rfl (d5.tin j (a6.tups m _)) (d.bk pb am) (λta td H6 f6 rd tb=>⟨(by walk_at"s"),λt ht=>?_⟩)));have st:=zA ht (.tup [.str (S "set"),.str pb.1,.ref ta]);exact a7 (r:=.set pb.1 td) ((o.same sb).trans f6) st (by intro _ _ _ e;cases e) (xat t _ rfl ups _ _ rfl rfl _ (xbu _ rfl rfl _ _ rfl (rd.same st _) rfl)) λ_=>(jEA pb.2 am tb.1)
  refine(xbl _ rfl _ _ rfl rfl _ rfl (ite2 (λc1=>?_) (λc1=>iteF aa)));refine(xb6 _ rfl D _ rfl (.inl (zC ai)) _ _ rfl rfl (jEA _ rfl (ite2 (λc2=>?_) (λc2=>aa))));have ab:=z0 c2;refine xab λS1 a5=>?_;refine(xa0 _ rfl _ rfl _ rfl D _ rfl (.inl (zC ai)) (xah G p4 q4 _ rfl M (by omega) (by omega) (λr5 H5 ak aj o=>?_)));obtain⟨i5,rfl⟩:∃i:Nat,r5=(i:Int):=⟨r5.toNat,by omega⟩;have I:i5<ys.length:=by omega
  have m:=xai (jEE p4 q4 M) o;obtain⟨J,ch,eb,a4,aw,b9⟩:=al _ (qM I);refine(xbe D _ _ (.ref J) rfl rfl (zC (o.1 _ _ ai Df)) (xam (by rw[zGA I,eb])) J (xb8 _ rfl (zB (m _ _ a4)) rfl (jEEA _ _ rfl (xaw _ _ rfl rfl (a5 _ _ ?_)))));have d5:=d4.fed o;refine(jEA _ rfl (xa0 _ rfl _ rfl _ rfl ba ub rfl (.inr (zB (m _ _ U))) (λbl j=>?_)));have sb:=zA j (.lst ub);refine(xaz _ rfl G kv (.ref bl) ks (xb9 bs ch.2.2.2 rfl (d5.tin j (a6.tups m _)) (d.ck ch aw) (λta td H6 f6 rd tb=>⟨(by walk_at"s"),λt ht=>?_⟩)));have st:=zA ht (.tup [.str (S "send"),.str ch.1,.ref ta]);exact a7 (r:=.send ch.1 td) ((o.same sb).trans f6) st (by intro _ _ _ e;cases e) (xat t _ rfl ups _ _ rfl rfl _ (xbu _ rfl rfl _ _ rfl (rd.same st _) rfl)) λ_=>(xb8 ch aw rfl b9 tb.1)
 refine(xbl _ rfl _ _ rfl rfl _ rfl (ite2 (λc1=>?_) (λc1=>iteF Z)));refine(xb6 _ rfl il _ rfl (.inl (zC a3)) _ _ rfl rfl (jEA _ rfl (ite2 (λc2=>?_) (λc2=>iteF Z))));refine(xb6 _ rfl ml _ rfl (.inl (zC a2)) _ _ rfl rfl (jEA _ rfl (ite2 (λc3=>?_) (λc3=>Z))));have ab:=z0 c2;have b3:=z0 c3;refine xab λS1 a5=>?_;refine(xa0 _ rfl _ rfl _ rfl il _ rfl (.inl (zC a3)) (xah G p4 q4 _ rfl M (by omega) (by omega) (λr5 H5 ak aj o=>?_)));obtain⟨i5,rfl⟩:∃i:Nat,r5=(i:Int):=⟨r5.toNat,by omega⟩;have I:i5<ws.length:=by omega
 have m:=xai (jEE p4 q4 M) o;obtain⟨J,c5,y5,eb,a4,ag⟩:=ah _ (qM I);refine(xbe il _ _ (.ref J) rfl rfl (zC (o.1 _ _ a3 b0)) (xam (by rw[zGA I,eb])) J (xb8 _ rfl (zB (m _ _ a4)) rfl (jEEA _ _ rfl (xaw _ _ rfl rfl (a5 _ _ ?_)))));have a1:=o.1 _ _ a2 mf;obtain⟨p5,q5,b7⟩:=o.2;refine(jEAA _ rfl (.inl (jAE rfl _ (zC a1))) ?_);refine(xbg _ rfl _ rfl ml _ rfl (.inl (zC a1)) G (xa6 p5 q5 _ rfl b7 (by omega) (by omega) (λr6 H6 br bq f6=>?_)));obtain⟨Y,rfl⟩:∃i:Nat,r6=(i:Int):=⟨r6.toNat,by omega⟩;have au:Y<O.length:=by omega
 have an:=f6.1 _ _ a1 mf;refine(xaj ml _ (Y:Int) Y (.str O[Y]) rfl rfl an (by omega) (by omega) (jAA (xu6 (by rw[az];exact au)) (by rw[zGM,zGA au];rfl) ?_));have er:(O.map V.str).eraseIdx Y=(O.eraseIdx Y).map V.str:=xsx O Y;rw[er];refine(xbi _ rfl _ rfl (by walk_at"s") (λt ht=>?_));have st:=zA ht (.tup [.str (S "take"),.str O[Y],.str c5,.str y5]);have F6:Fed G H H6:=F4.trans (o.trans f6);have sb:Sb2 G ml H (upd (upd H6 ml (.lst ((O.eraseIdx Y).map V.str))) t (.tup [.str (S "take"),.str O[Y],.str c5,.str y5])):=((Sb2.of F6).upd mf _).same st
 refine q _ (.take O[Y] c5 y5) (O.eraseIdx Y) _ sb (st _ _ ups) (by rw[List.length_eraseIdx];split <;> omega) (λh=>absurd rfl (h _ _ _)) (xat t _ rfl ups _ _ rfl rfl _ (xbu _ rfl rfl _ _ rfl rfl (xaw _ _ rfl rfl rfl))) (λ_=>ag) λb vs e=>st _ _ (by
  rw[xak λz=>by rw[z,aq]at e;cases e];exact xai d.fd F6 b vs e)
structure RowsOk(ks:List Kn)(cs:List Chn)(x:Str)(bs:List (Str×Str))(rs:List Row):Prop where
 len:rs.length<=30
 ok:∀r∈rs,xf5 ks cs x bs rs.length r
 last:∃r,rs.getLast?=some r/\r.ends
theorem xn2{ks:List Kn}{cs:List Chn}{x:Str}{bs:List (Str×Str)}{n a:Nat}{r:Row}(h:xf5 ks cs x bs n r)(l:n<=a):xf5 ks cs x bs a r:=by
 cases r with
 |go g=>exact qB h l
 |cond t g=>exact⟨h.1,qB h.2 l⟩
 |_=>exact h
def xtc:Sp:=λvs H Q _=>∃(f nb:Addr) (kv cv bv:V) (ks:List Kn) (cs:List Chn) (bs:List (Str×Str)) (x:Str) (nms:List Str),vs=[.ref f,kv,cv,.str x,bv,.ref nb]/\DIn H f kv cv bv ks cs bs/\H nb=some (.lst (nms.map V.str))/\nms.length=26/\nb≠f/\∀rv rs H',Fed f H H'->RelD H' rv (.tup (rs.map Row.d))->RowsOk ks cs x bs rs->Q rv H'
theorem xuf{a:List Str}(h:a.length=26):cutV (a.map V.str) (some 20) (some 26)=((a.drop 20).take 6).map V.str:=by
 unfold cutV HT.sIx;rw[zLM,h,List.map_take,List.map_drop];rfl
theorem xu7{H:Hp}{us:List V}{rs:List Row}(h:RelDs H us (rs.map Row.d)){i:Nat}{v:V}(c:us[i]?=some v):∃(b:Addr) (r:Row) (zs:List V),rs[i]?=some r/\v=.ref b/\H b=some (.tup (.str r.hd::zs)):=by
 obtain⟨d,hd,rd⟩:=h.get c;rw[zGM]at hd;obtain⟨r,f,rfl⟩:=zMS hd;obtain⟨a,zs,e,g,_⟩:=xjy rd;exact(xbn a r zs f e g)
theorem xtg{H:Hp}{us:List V}{ds:List D}{v:V}{d:D}(h:RelDs H us ds)(c:RelD H v d)(i:Nat):RelDs H (us.take i++v::us.drop i) (ds.take i++d::ds.drop i):=by
 have a:∀(i:Nat) {us:List V} {ds:List D},RelDs H us ds->RelDs H (us.take i) (ds.take i)/\RelDs H (us.drop i) (ds.drop i):=by
  intro i
  induction i with
  |zero=>intro us ds h;exact⟨rfl,h⟩
  | succ i b=>
   intro us ds h
   cases ds with
   |nil=>rw[show us=[] from h];exact⟨rfl,rfl⟩
   |cons d ds=>
    obtain⟨v,r,e,g,f⟩:=h;subst e;have:=b f;exact⟨(xaw v _ rfl g this.1),this.2⟩
 have:=a i h;exact this.1.append (xaw v _ rfl c this.2)
theorem xmb{f l:Addr}{H H1:Hp}{o:HO}(F:Fed f H H1)(hl:H l=none)(lf:l≠f):Fed f H (upd H1 l o):=by
 obtain⟨h1,p,q,h2⟩:=F;exact(jAEE (λb u e n=>by rw[xak (neN e hl)];exact h1 b u e n) p q (by rw[xak (Ne.symm lf)];exact h2))
theorem xri(T:Tx K mg)(m:DefIs P w K mg base n "_law_take" qae xcw)(ab:DefIs P w K mg base n "_law_into" qay xmv)(U:DefIs P w K mg base n "_law_new_term" qal xjl)(ac:DefIs P w K mg base n "_law_deal" qa4 xo0):DefIs P w K mg base (n+1) "_law_rows" qa5 xtc:=by
 refine DefIs.of T.kG scl_rows (by walk_at"l") (λf ej A outer s H vs Q E hr h=>?_);obtain⟨I,nb,kv,cv,bv,ks,cs,bs,x,d1,rfl,d,d8,cq,ed,q⟩:=h;have nd:=scl_rows.nd;have c6:=d.c6;have b5:=d.b5
 refine⟨_,(zpn (psn 6 nd (xau xb4 rfl T.kZ zM (pc (xes xik (pv 5) (xeg pI) (xeg pI)) pN ss)))
   (zpn (psn 7 nd (xcd pN))
   (zpn (psn 8 nd (xaq xbk pI (pd m hr (va 0 (pc pI pN zso)))))
   (zpn (xb5 zF rfl (xcb rfl T.uA (pc (xaq xc1 (pv 8) pI) pN xa8)) (pgn 9 nd)
   (zpn (psn 10 nd (pd m hr (va 0 (pc pI pN zso))))
   (zpo (xba (pR xgy (pv 10) pI (nM _)) (zpn (psn 11 nd (pd U hr (va 0 (va 1 (pc (xau xb4 rfl T.kZ zM (v1 4)) (pc pS pN zso) zsc)))))
   (zpo (xbp (xds zD zH zG xb0 (pv 7) (pc (xa2 (pc pS (va 11 (pc (pd m hr (va 0 (v1 8))) pN zsc)) zso)) pN zsT))))) (zpo (xba (pR xbf (pv 10) pI (nM _)) (zpo (xbp (xds zD zH zG xb0 (pv 7) (pc (pxl K (xcd (pc (xa2 (pc pS pN zso)) (pc (xa2 (pc pS (pc (pd m hr (va 0 (v1 8))) pN zsc) zso)) pN zsT) zsT)) (pd m hr (va 0 (pc pI pN zso)))) pN ss)))) (zpo (xbp (xds zD zH zG xb0 (pv 7) (pc (pd ac hr (va 0 (va 1 (va 2 (va 3 (va 4 (v1 6))))))) pN zsc))))))))))
   (zpn (psn 12 nd (pd ab hr (va 2 (va 3 (v1 4)))))
   (zpn (xba (PW.pt (xcu (pR xd0 (xax (xag (K:=K) rfl) rfl T.kY zE (v1 12)) pI (nM _)) (xcg (pR xej pS (xbh ["_law_row"] [none] rfl (by kernel_rfl) (xbv (K:=K) rfl (pv 7)) (λ_ _ _ _=>(pgc 0)) (λ_ _ _ _=>xbo) (λ_ _ _ _=>(px K (pv 0) pI))) (by with_unfolding_all rfl))))) (zpn (xdw (pxl K (pv 12) (pd m hr (va 0 (pc (xax (xag (K:=K) rfl) rfl T.kY zE (v1 12)) pN zsc)))) (xbc (K:=K) rfl rfl (xad (pgn 13 nd) (xad (pgn 14 nd) xbb))))
   (zpo (xbp (xds zD PySem.F.slot_list_insert PySem.F.type_list_insert xpz (pv 7) (pc (pd m hr (va 0 (pc (xaq xbk (xax (xag (K:=K) rfl) rfl T.kY zE (v1 7)) pI) pN xa8))) (pc (xa2 (pc pS (pc (xds zD PySem.F.slot_list_pop PySem.F.type_list_pop xi1 (pv 6) (pc pI pN zso)) (va 13 (v1 14)) zsc) zso)) pN zsT) zsc))))) pQ)
   (zpn (xba (pR xd0 (pd m hr (va 0 (pc pI pN zso))) pI (nM _)) (zpo (xaf (xaq (xnh (K:=K) rfl) (xau (xbx (K:=K) rfl) rfl T.uC zK (v1 7)) (xa2 (pc (xa2 (pc pS (pc (pd m hr (va 0 (v1 8))) pN zsc) zso)) pN zsT))))) pQ)
   (zpo (xaf (xaq (xnh (K:=K) rfl) (xau (xbx (K:=K) rfl) rfl T.uC zK (v1 7)) (xa2 (pc (xa2 (pc pS pN zso)) pN zsT)))))))))))),xab λR1 ds=>?_⟩
 obtain⟨p0,q0,bu⟩:=d.fd;refine(xa0 _ rfl _ rfl _ rfl nb _ rfl (zC d8) (λc0 df=>?_));rw[xuf cq];obtain⟨a9,b8⟩:∃a9,(d1.drop 20).take 6=a9:=⟨_,rfl⟩;have da:a9.length=6:=by rw[<- b8,List.length_take,List.length_drop,cq];rfl
 rw[b8];have bg:=zA df (.lst (a9.map V.str));refine(xaw c0 _ rfl (.inl (zC ups)) (λml b9=>ds _ _ (xab λR2 dr=>?_)));have c4:=zA b9 (.lst (a9.map V.str));refine⟨(by walk_at"s"),λO ah=>dr _ _ (xab λR3 dq=>?_)⟩;have c3:=zA ah (.lst []);have s0:=bg.trans (c4.trans c3);obtain⟨H0,b3⟩:∃H0,H0=upd (upd (upd H c0 (.lst (a9.map V.str))) ml (.lst (a9.map V.str))) O (.lst []):=⟨_,rfl⟩;have cg:H0 O=some (.lst []):=by rw[b3];exact ups
 have ci:H0 ml=some (.lst (a9.map V.str)):=by rw[b3];exact c3 _ _ ups
 rw[<- b3]at s0⊢;clear b3;have bm:H ml=none:=xae bg b9;have bj:H O=none:=xae (bg.trans c4) ah;have aa:ml≠I:=Ne.symm (neN bu bm);have a0:O≠I:=Ne.symm (neN bu bj);have bi:O≠ml:=λz=>by rw[z,ups]at ah;cases ah
 have F0:Fed I H H0:=(Fed.refl bu).same s0;obtain⟨pA,qA,de⟩:=F0.2;refine(xaa _ rfl I pA qA 10 rfl de (by decide) (by decide) (λrm H1 e3 e2 f1=>(xaw _ _ rfl rfl ?_)));obtain⟨many,bq,eg,e1⟩:∃many:Nat,1+rm=(many:Int)/\1<=many/\many<=10:=(jEAA ((1+rm).toNat) (by omega) (by omega) (by omega))
 suffices ca:R3 [some (.ref I),some kv,some cv,some (.str x),some bv,some (.ref nb),some (.ref ml),some (.ref O),some (.int (many:Int)),none,none,none,none,none,none] H1 by
  rw[<- bq]at ca;exact ca
 refine dq _ _ (xab λR4 dn=>?_);refine(xbl _ rfl _ _ rfl rfl _ rfl (jAA (by omega) (by omega) ?_))
 refine xdi (λi σ H'=>∃us,∃(rs:List Row) (ms:List Str) (o9 a2 a1:Option V),σ=[some (.ref I),some kv,some cv,some (.str x),some bv,some (.ref nb),some (.ref ml),some (.ref O),some (.int many),o9,a2,a1,none,none,none]/\Fed I H H'/\H' O=some (.lst us)/\RelDs H' us (rs.map Row.d)/\rs.length=i/\(∀r∈rs,xf5 ks cs x bs many r)/\H' ml=some (.lst (ms.map V.str))/\ms.length<=6/\((∀r∈rs,r.hd≠S "take")->ms.length=6))
  (xal ([]) ([]) a9 none none (xbd none rfl (F0.trans f1) (f1.1 _ _ cg a0) rfl rfl (jAAA (λ_ h=>nomatch h) (f1.1 _ _ ci aa) (by omega) (λ_=>da)))) ?_ ?_
 ·rintro i σ H2 hi ⟨us,rs,ms,o9,a2,a1,rfl,F2,av,an,b6,a7,b0,ai,aw⟩
  have d2:=d.keep (xai d.fd F2) F2.2;obtain⟨p2,q2,bt⟩:=F2.2;have bn:=an.length;rw[zLM]at bn
  have put:∀{H5:Hp} {u:V} {r:Row} {a5:List Str} (a2 a1:Option V),Fed I H H5->H5 O=some (.lst us)->RelDs H5 us (rs.map Row.d)->RelD H5 u r.d->xf5 ks cs x bs many r->H5 ml=some (.lst (a5.map V.str))->a5.length<=6->((∀l c y,r≠.take l c y)->a5=ms)->
    (λi σ H'=>∃us,∃(rs:List Row) (ms:List Str) (o9 a2 a1:Option V),σ=[some (.ref I),some kv,some cv,some (.str x),some bv,some (.ref nb),some (.ref ml),some (.ref O),some (.int many),o9,a2,a1,none,none,none]/\Fed I H H'/\H' O=some (.lst us)/\RelDs H' us (rs.map Row.d)/\rs.length=i/\(∀r∈rs,xf5 ks cs x bs many r)/\H' ml=some (.lst (ms.map V.str))/\ms.length<=6/\((∀r∈rs,r.hd≠S "take")->ms.length=6)) (i+1) [some (.ref I),some kv,some cv,some (.str x),some bv,some (.ref nb),some (.ref ml),some (.ref O),some (.int many),some (.int (0+(i:Int))),a2,a1,none,none,none] (upd H5 O (.lst (us++[u]))):=λ{H5 u r a5} a2 a1 F5 C a6 hu au ay db bp=>by
   have tp:∀b vs,H5 b=some (.tup vs)->upd H5 O (.lst (us++[u])) b=some (.tup vs):=λb vs e=>by
    rw[xak λz=>by rw[z,C]at e;cases e];exact e
   refine(xal (us++[u]) (rs++[r]) a5 _ a2 (xbd a1 rfl (xmb F5 bj a0) ups ?_ (by rw[zLA,List.length_singleton,b6]) (jAAA (λr' a4=>?_) (by rw[xak (Ne.symm bi)];exact ay) db (λhT=>?_))))
   ·rw[zAP]
    exact(a6.tups tp _).append (xaw u ([]) rfl (hu.tups tp _) rfl)
   ·rcases zMA a4 with h |h
    ·exact a7 r' h
    ·rw[zMO h];exact au
   ·rw[bp λl c y e=>hT r (by simp) (by rw[e];rfl)]
    exact aw λr' a4=>hT r' (zR _ a4)
  refine xab λS1 bw=>?_;refine(xaa _ rfl I p2 q2 16 rfl bt (by decide) (by decide) (λfm H3 ei eh f3=>bw _ _ ?_));have F3:=F2.trans f3;have d3:=d2.fed f3;have cy:=xai d2.fd f3;have G:=f3.1 _ _ av a0;have a8:=f3.1 _ _ b0 aa;have M:=an.tups cy _;obtain⟨p3,q3,b2⟩:=F3.2;obtain⟨ba,ub,dw,dg,dj⟩:=id d3.bd;refine(xbl _ rfl _ _ rfl rfl _ rfl (ite2 (λc1=>?_) (λc1=>?_)))
  ·
   refine xab λS2 di=>?_;refine(xa0 _ rfl _ rfl _ rfl ba ub (congrArg (λv=>[v]) dw) (.inr (zB dg)) (λbl bf=>?_));have sb:=zA bf (.lst ub);refine(xal I kv (.ref bl) ks bs (xb8 (S "num") rfl (d3.tin bf dj) (.inl rfl) (λta td H4 f4 rd tb=>di _ _ ?_)));have ak:Fed I H3 H4:=((Fed.refl b2).same sb).trans f4;have bz:=xai d3.fd ak;have Y:=ak.1 _ _ G a0;obtain⟨p4,q4,af⟩:=f4.2;refine(jEAA _ rfl (.inl (jAE rfl _ (zC Y))) ?_);refine(xb1 _ rfl _ rfl _ rfl I p4 (xci q4 many rfl af (by omega) (by omega) (λg H5 g0 g1 f5=>⟨(by walk_at"s"),λt ht=>?_⟩)));obtain⟨gn,rfl⟩:∃i:Nat,g=(i:Int):=⟨g.toNat,by omega⟩;have st:=zA ht (.tup [.str (S "if"),.ref ta,.int gn]);have Z:=(ak.trans f5).same st;have aj:=xai d3.fd Z;have C:=Z.1 _ _ G a0;refine(xa6 O us _ rfl rfl C (xa3 (by omega)) ?_);exact put (r:=.cond td gn) _ _ (F3.trans Z) C (M.tups aj _) (xat t _ rfl ups _ _ rfl rfl _ (xbu _ rfl ((rd.tups (xai (jEE p4 q4 af) f5) _).same st _) _ _ rfl rfl rfl)) ⟨tb.1,by omega⟩ (Z.1 _ _ a8 aa) ai λ_=>rfl
  ·refine(xa5 _ rfl rfl _ rfl (ite2 (λc2=>?_) (λc2=>?_)))
   ·
    refine(jEAA _ rfl (.inl (jAE rfl _ (zC G))) ?_);refine⟨(by walk_at"s"),λt1 ar=>?_⟩;have s1:=zA ar (.tup [.str (S "end")]);refine(xan _ rfl _ rfl I p3 q3 (xbm many rfl (s1 _ _ b2) (by omega) (by omega) (λg H4 g0 g1 f4=>⟨(by walk_at"s"),λt2 aq=>⟨(by walk_at"s"),λll cl=>?_⟩⟩)));obtain⟨gn,rfl⟩:∃i:Nat,g=(i:Int):=⟨g.toNat,by omega⟩;have s2:=zA aq (.tup [.str (S "go"),.int gn]);have s3:=zA cl (.lst [.ref t1,.ref t2]);have ak:Fed I H3 _:=(((Fed.refl b2).same s1).trans f4).same (s2.trans s3);obtain⟨p5,q5,ae⟩:=ak.2
    have d4:ll≠I:=by
     obtain⟨p6,q6,h6⟩:=f4.2;exact Ne.symm (neN (s2 _ _ h6) cl)
    refine(xaa _ rfl I p5 q5 2 rfl ae (by decide) (by decide) (λr2 H5 ec ea f5=>?_));have Z:=ak.trans f5;have C:=Z.1 _ _ G a0;have ce:H4 t1=some (.tup [.str (S "end")]):=xai (jEE p3 q3 (s1 _ _ b2)) f4 _ _ ups;have bx:=xai (jEE p5 q5 ae) f5;have du:=bx _ _ ((s2.trans s3) _ _ ce);have dt:=bx _ _ (s3 _ _ ups);have bb:=f5.1 _ _ ups d4;have cz:r2=0\/r2=1:=by omega
    rcases cz with rfl |rfl
    ·refine(xbe ll _ _ (.ref t1) rfl rfl (zC bb) rfl O (xci us _ rfl rfl C (xa3 (by omega)) ?_))
     exact put (r:=.fin) _ _ (F3.trans Z) C (M.tups (xai d3.fd Z) _) (xaw t1 _ rfl du (xaw _ _ rfl rfl rfl)) trivial (Z.1 _ _ a8 aa) ai λ_=>rfl
    ·refine(xbe ll _ _ (.ref t2) rfl rfl (zC bb) rfl O (xci us _ rfl rfl C (xa3 (by omega)) ?_))
     exact put (r:=.go gn) _ _ (F3.trans Z) C (M.tups (xai d3.fd Z) _) (xat t2 _ rfl dt _ _ rfl rfl _ (jEAA _ rfl rfl rfl)) (by show gn<many;omega) (Z.1 _ _ a8 aa) ai λ_=>rfl
   ·
    refine(jEAA _ rfl (.inl (jAE rfl _ (zC G))) ?_);refine(xa1 _ rfl _ rfl _ rfl _ rfl _ rfl (xaz _ rfl I ml kv cv (xal bv ks cs bs x (xbd ms rfl d3 a8 aa (by omega) (λu r a5 H4 bh az e0 bp hu au bz=>?_)))));have Y:=bh.1 _ _ G a0 bi;have F4:Fed I H H4:=⟨λb o e c9=>bh.1 b o (F3.1 b o e c9) c9 (neN e bm),bh.2⟩;refine(xa6 O us _ rfl rfl Y (xa3 (by omega)) ?_);exact put (r:=r) _ _ F4 Y (M.tups bz _) hu (au many) az (by omega) bp
 rintro σ H2 ⟨us,rs,ms,o9,a2,a1,rfl,F2,av,an,b6,a7,b0,ai,aw⟩;have dx:rs.length<=9:=by omega
 have d2:=d.keep (xai d.fd F2) F2.2;refine dn _ _ (xab λR5 dm=>?_);refine(xb1 _ rfl _ rfl _ rfl cv bv (xch cs x bs rfl d2.cd c6 d2.bd b5 (λil ws H3 s3 dd ck cp ee=>dm _ _ (xab λR6 dl=>?_))));have F3:Fed I H H3:=F2.same s3;have G:=s3 _ _ av;have a8:=s3 _ _ b0;have M:=an.same s3 _;obtain⟨p2,q2,bt⟩:=F2.2;have d5:il≠I:=Ne.symm (neN bt dd);have bn:=an.length;rw[zLM]at bn
 have am:∀(c8 c7:Option V) (H4:Hp) (us:List V) (rs:List Row),Fed I H H4->H4 O=some (.lst us)->RelDs H4 us (rs.map Row.d)->rs.length<=10->many<=rs.length+1->(∀r∈rs,xf5 ks cs x bs many r)->R6 [some (.ref I),some kv,some cv,some (.str x),some bv,some (.ref nb),some (.ref ml),some (.ref O),some (.int many),o9,a2,a1,some (.ref il),c8,c7] H4:=λc8 c7 H4 us rs F4 Y ag dy ef au=>by
  refine dl _ _ (xab λR7 dk=>?_);obtain⟨p4,q4,af⟩:=F4.2;have cc:=ag.length;rw[zLM]at cc;refine(xaa _ rfl I p4 q4 4 rfl af (by decide) (by decide) (λr4 H5 e9 e8 f5=>(xaw _ _ rfl rfl (jEA _ rfl ?_))));have aj:=xai (jEE p4 q4 af) f5;have F5:=F4.trans f5;have C:=f5.1 _ _ Y a0;have a6:=ag.tups aj _
  have fin:∀{H6 H7:Hp} {tr tl:Addr} {v:V} {r:Row},Fed I H H6->Same H6 H7->H6 tr=some (.tup us)->RelDs H6 us (rs.map Row.d)->RelD H6 v r.d->r.ends->xf5 ks cs x bs (rs.length+1) r->H7 tl=some (.tup (us++[v]))->Q (.ref tl) H7:=λ{H6 H7 tr tl v r} F6 s7 _ J hv he cf ao=>by
   refine q (.ref tl) (rs++[r]) H7 (F6.same s7) (xaw tl _ rfl ao ?_) ⟨by rw[zLA,List.length_singleton];omega,λr' a4=>?_,(jEA r (by simp) he)⟩
   ·rw[zAP]
    exact(J.same s7 _).append (xaw v ([]) rfl (hv.same s7 _) rfl)
   ·rw[zLA,List.length_singleton]
    rcases zMA a4 with h |h
    ·exact xn2 (au r' h) (by omega)
    ·rw[zMO h];exact cf
  refine ite2 (λc1=>?_) (λc1=>?_)
  ·refine(jEA _ rfl (jEEA O us rfl (.inl ⟨zC C,λtr bo=>?_⟩)))
   have sr:=zA bo (.tup us);obtain⟨p5,q5,ae⟩:=f5.2;refine(xan _ rfl _ rfl I p5 q5 (xbm many rfl (sr _ _ ae) (by omega) (by omega) (λg H6 g0 g1 f6=>⟨(by walk_at"s"),λt1 ar=>⟨(by walk_at"s"),λt2 aq=>?_⟩⟩)));obtain⟨gn,rfl⟩:∃i:Nat,g=(i:Int):=⟨g.toNat,by omega⟩;have s1:=zA ar (.tup [.str (S "go"),.int gn]);have s2:=zA aq (.tup [.ref t1]);have b1:=xai (jEE p5 q5 (sr _ _ ae)) f6;have F6:Fed I H _:=((F5.same sr).trans f6).same (s1.trans s2);have a3:=(s1.trans s2) _ _ (b1 _ _ ups);have J:=((a6.same sr _).tups b1 _).same (s1.trans s2) _;have hv:RelD (upd (upd H6 t1 (.tup [.str (S "go"),.int gn])) t2 (.tup [.ref t1])) (.ref t1) (Row.go gn).d:=(xat t1 _ rfl (s2 _ _ ups) _ _ rfl rfl _ (jEAA _ rfl rfl rfl));refine(xap tr t2 _ _ rfl rfl (zB a3) (zB ups) (fits (by rw[List.length_singleton];omega)) (jAA (λe=>?_) (λ_ e=>nomatch e) (λ_ _ tl ao=>?_)))
   ·exact fin F6 (Same.refl _) a3 J hv trivial (by show gn<_;omega) (by rw[ups,e];rfl)
   ·have s7:=zA ao (.tup (us++[.ref t1]))
    exact fin F6 s7 a3 J hv trivial (by show gn<_;omega) ups
  ·refine dk _ _ ?_
   refine(jEA _ rfl (jEEA O us rfl (.inl ⟨zC C,λtr bo=>?_⟩)));have sr:=zA bo (.tup us);refine⟨(by walk_at"s"),λt1 ar=>⟨(by walk_at"s"),λt2 aq=>?_⟩⟩;have s1:=zA ar (.tup [.str (S "end")]);have s2:=zA aq (.tup [.ref t1]);have sA:=sr.trans (s1.trans s2);have F6:Fed I H _:=F5.same sA;have a3:=(s1.trans s2) _ _ (show upd H5 tr (.tup us) tr=some (.tup us) from ups);have J:=a6.same sA _;have hv:RelD (upd (upd (upd H5 tr (.tup us)) t1 (.tup [.str (S "end")])) t2 (.tup [.ref t1])) (.ref t1) Row.fin.d:=(xaw t1 _ rfl (s2 _ _ ups) (xaw _ _ rfl rfl rfl));refine(xap tr t2 _ _ rfl rfl (zB a3) (zB ups) (fits (by rw[List.length_singleton];omega)) (jAA (λe=>?_) (λ_ e=>nomatch e) (λ_ _ tl ao=>?_)))
   ·exact fin F6 (Same.refl _) a3 J hv trivial trivial (by rw[ups,e];rfl)
   ·have s7:=zA ao (.tup (us++[.ref t1]))
    exact fin F6 s7 a3 J hv trivial trivial ups
 have plain:R6 [some (.ref I),some kv,some cv,some (.str x),some bv,some (.ref nb),some (.ref ml),some (.ref O),some (.int many),o9,a2,a1,some (.ref il),none,none] H3:=am none none H3 us rs F3 G M (by omega) (by omega) a7;refine(xb6 _ rfl il _ rfl (.inl (zC ck)) _ _ rfl rfl (jEA _ rfl (ite2 (λc1=>?_) (λc1=>iteF plain))));have dz:=z0 c1;refine(xbi _ rfl O rfl ⟨_,zC G⟩ ?_);refine xd3 (xs:=us) (λi ys H'=>H'=H3/\ys=((rs.take i).map Row.hd).map V.str) ⟨rfl,rfl⟩ (xa3 (by omega)) (λi ys H' _ p=>by obtain⟨rfl,_⟩:=p;exact zC G) ?_ ?_
 ·rintro i y ys H' hy hi cj ⟨rfl,rfl⟩
  obtain⟨b,r,zs,a4,rfl,hb⟩:=xu7 M hy;refine⟨ext1 rfl,xdn ?_⟩;refine(xaa _ rfl b _ _ _ rfl rfl (zB hb) (xam (j:=0) rfl) (nxtG hi cj ⟨rfl,?_⟩));rw[zTA,a4,zAP,zAP];rfl
 rintro ys H' cj ⟨rfl,rfl⟩ D hD;rw[zTL (by omega)];have sD:=zA hD (.lst ((rs.map Row.hd).map V.str));refine(xci D _ rfl (.inl (zC ups)) rfl (xha _) (jEA _ rfl (ite2 (λc2=>?_) (λc2=>?_))))
 ·have d0:∀r∈rs,r.hd≠S "take":=λr a4 e=>by
   have dc:inV (.str (Str.ofString "take")) ((rs.map Row.hd).map V.str)=true:=by
    unfold inV;refine List.any_eq_true.mpr (jEA (.str r.hd) (qD (qD a4)) ?_);rw[e];decide +kernel
   have cr:(!inV (.str (Str.ofString "take")) ((rs.map Row.hd).map V.str))=true:=c2;rw[dc]at cr;cases cr
  have d9:=aw d0;have F4:=F3.same sD;have Y:=sD _ _ G;have az:=sD _ _ a8;have be:=sD _ _ ck;have ag:=M.same sD _;obtain⟨p4,q4,af⟩:=F4.2;refine xab λS1 bw=>?_;refine(xa0 _ rfl _ rfl _ rfl il _ rfl (.inl (zC be)) (xah I p4 q4 _ rfl af (by omega) (by omega) (λr5 H5 e7 e6 f5=>?_)));obtain⟨i5,rfl⟩:∃i:Nat,r5=(i:Int):=⟨r5.toNat,by omega⟩;have co:i5<ws.length:=by omega
  have aj:=xai (jEE p4 q4 af) f5;obtain⟨cu,c5,y5,eb,dh,br⟩:=cp _ (qM co);refine(xbe il _ _ (.ref cu) rfl rfl (zC (f5.1 _ _ be d5)) (xam (by rw[zGA co,eb])) cu (xb8 _ rfl (zB (aj _ _ (sD _ _ dh))) rfl (jEEA _ _ rfl (xaw _ _ rfl rfl (bw _ _ ?_)))));have C:=f5.1 _ _ Y a0;have ay:=f5.1 _ _ az aa;have a6:=ag.tups aj _;obtain⟨p5,q5,ae⟩:=f5.2;refine(jEAA _ rfl (.inl (jAE rfl _ (zC C))) ?_);refine(xbg _ rfl _ rfl O _ rfl (.inl (zC C)) _ (jEAA _ rfl rfl (xah I p5 q5 _ rfl ae (by omega) (by omega) (λr6 H6 e5 e4 f6=>?_))));obtain⟨i6,rfl⟩:∃i:Nat,r6=(i:Int):=⟨r6.toNat,by omega⟩;have b1:=xai (jEE p5 q5 ae) f6;have ch:=f6.1 _ _ C a0;have ax:=f6.1 _ _ ay aa;have J:=a6.tups b1 _
  obtain⟨m0,a5,dv⟩:∃m0 a5,ms=m0::a5:=by
   cases ms with
   |nil=>cases d9
   |cons a l=>exact(jEE a l rfl)
  subst dv;refine(jEAA _ rfl (.inl (jAE rfl _ (zC ax))) (xaj ml _ 0 0 (.str m0) rfl rfl ax (by decide) (by decide) (jAA (xu6 (k:=0) (by simp)) rfl ?_)));refine(xbi _ rfl _ rfl (by walk_at"s") (λt ht=>?_));have F6:Fed I H H6:=F4.trans (f5.trans f6);obtain⟨H7,al⟩:∃H7,H7=upd (upd H6 ml (.lst ((m0::a5).map V.str |>.eraseIdx 0))) t (.tup [.str (Str.ofString "take"),.str m0,.str c5,.str y5]):=⟨_,rfl⟩;have F7:Fed I H H7:=by rw[al];exact(xmb F6 bm aa).same (zA ht _)
  have b7:H7 O=some (.lst us):=by
   rw[al];exact zA ht _ _ _ (by rw[xak bi];exact ch)
  have cx:∀b vs,H6 b=some (.tup vs)->H7 b=some (.tup vs):=λb vs e=>by
   rw[al];exact zA ht _ _ _ (by rw[xak λz=>by rw[z,ax]at e;cases e];exact e)
  have d6:H7 t=some (.tup [.str (Str.ofString "take"),.str m0,.str c5,.str y5]):=by rw[al];exact ups
  have b4:=J.tups cx _;have cb:=b4.length;rw[zLM]at cb;refine(xap O us i6 (.ref t) rfl rfl (by rw[<- al];exact b7) (by omega) (by omega) ?_);rw[<- al]
  have cw:∀b vs,H7 b=some (.tup vs)->upd H7 O (.lst (us.take i6++.ref t::us.drop i6)) b=some (.tup vs):=λb vs e=>by
   rw[xak λz=>by rw[z,b7]at e;cases e];exact e
  have d7:RelD H7 (.ref t) (Row.take m0 c5 y5).d:=(xat t _ rfl d6 _ _ rfl rfl _ (xbu _ rfl rfl _ _ rfl rfl (xaw _ _ rfl rfl rfl)));have bc:=(xtg b4 d7 i6).tups cw _
  have em:(rs.map Row.d).take i6++(Row.take m0 c5 y5).d::(rs.map Row.d).drop i6=(rs.take i6++Row.take m0 c5 y5::rs.drop i6).map Row.d:=by
   rw[zAP,List.map_cons,List.map_take,List.map_drop]
  rw[em]at bc
  have cm:(rs.take i6++Row.take m0 c5 y5::rs.drop i6).length=rs.length+1:=by
   rw[zLA,List.length_cons,List.length_take,List.length_drop];omega
  refine am _ _ _ _ _ (xmb F7 bj a0) ups bc (by rw[cm];omega) (by rw[cm];omega) λr a4=>?_;rcases zMA a4 with h |h
  ·exact a7 r (qK h)
  ·rcases zMC h with h |h
   ·rw[h];exact br
   ·exact a7 r (List.mem_of_mem_drop h)
 ·exact am none none _ us rs (F3.same sD) (sD _ _ G) (M.same sD _) (by omega) (by omega) a7
structure NIn(H:Hp)(nb:Addr)(nms:List Str):Prop where
 nl:H nb=some (.lst (nms.map V.str))
 ok:xk8 nms
 nby:∀z∈nms,NoBy z
theorem NIn.same{H c:Hp}{b:Addr}{a:List Str}(g:NIn H b a)(s:Same H c):NIn c b a:=⟨s _ _ g.nl,g.ok,g.nby⟩
theorem NIn.name{H:Hp}{b:Addr}{a:List Str}(g:NIn H b a){i:Nat}(h:i<26):∃z,a[i]?=some z/\atI (a.map V.str) (i:Int)=some (.str z):=by
 have c:=g.ok.1;exact(jEA (a[i]'(by omega)) (zGA _) (xam (by rw[zGM,zGA (by omega)];rfl)))
def xlh(K:Fg):Sp:=λvs H Q _=>∃(a nb:Addr) (ns:List Int) (at_ many:Nat) (kv cv:V) (ks:List Kn) (cs:List Chn) (nms:List Str),vs=[.ref a,.int at_,kv,cv,.int many,.ref nb]/\SqL K H a (ns.map V.int)/\ns.length<=63/\NIn H nb nms/\RelD H kv (xef ks)/\KWf ks/\PNB ks/\RelD H cv (.tup (cs.map dChn))/\ChsOk ks nms many cs/\1<=many/\many<=4 ∧
 ∀v mk H',Same H H'->RelD H' v mk.d->MakOk mk->mk.hands.map Hand.name=nms.take many->mk.chans=cs->Q v H'
def xou(K:Fg):Sp:=λvs H Q _=>∃(a nb:Addr) (ns:List Int) (at_:Nat) (nms:List Str),vs=[.ref a,.int at_,.ref nb]/\SqL K H a (ns.map V.int)/\ns.length<=63/\NIn H nb nms ∧
 ∀v mk H',Same H H'->RelD H' v mk.d->MakOk mk->mk.hands≠[]->Q v H'
theorem xub{ks:List Kn}{cs:List Chn}{a:List Str}{bs:List (Str×Str)}{rs:List Row}{x:Str}(b:BsOk ks a bs)(r:RowsOk ks cs x bs rs):HandOk ks cs ⟨x,bs,rs⟩:=⟨b.nd,b.len,b.kin,r.len,r.ok,r.last⟩
theorem xpo(T:Tx K mg)(p:DefIs P w K mg base n "_law_feed" qan (xjm K))(j:DefIs P w K mg base n "_law_boxes" qbi xu1)(m:DefIs P w K mg base n "_law_rows" qa5 xtc):DefIs P w K mg base (n+1) "_law_hands" qa7 (xlh K):=by
 refine DefIs.of T.kI scl_hands (by walk_at"l") (λf ar A outer s H vs Q E hr h=>?_);obtain⟨a,O,ns,ao,many,kv,cv,ks,cs,x,rfl,hS,al,g,hk,wf,pb,hc,u,h1,h4,q⟩:=h;have nd:=scl_hands.nd;have am:=g.ok.1
 refine⟨_,(zpn (psn 6 nd (xcd pN))
   (zpn (xb5 zF rfl (xcb rfl T.uA (v1 4)) (pgn 7 nd)
   (zpn (psn 8 nd (pd p hr (va 0 (pc (xaq xbk (pv 1) (pv 7)) pN xa8))))
   (zpn (psn 9 nd (pd j hr (va 8 (va 2 (va 3 (pc (pxl K (pv 5) (pv 7)) (v1 5) ss))))))
   (zpo (xbp (xds zD zH zG xb0 (pv 6) (pc (xa2 (pc (pxl K (pv 5) (pv 7)) (va 9 (pc (pd m hr (va 8 (va 2 (va 3 (pc (pxl K (pv 5) (pv 7)) (va 9 (v1 5)) ss))))) pN zsc)) ss)) pN zsT)))))))
   (zpo (xaf (xa2 (va 2 (va 3 (pc (xau (xbx (K:=K) rfl) rfl T.uC zK (v1 6)) pN zsc)))))))),xab λR1 ak=>?_⟩
 refine⟨(by walk_at"s"),λl hl=>ak _ _ (xab λR2 aj=>?_)⟩;have s0:=zA hl (.lst []);refine(xbi _ rfl _ rfl (by omega) ⟨by omega,?_⟩)
 refine xdi (λi σ H'=>∃us,∃(hs:List Hand) (o7 o8 o9:Option V),σ=[some (.ref a),some (.int ao),some kv,some cv,some (.int many),some (.ref O),some (.ref l),o7,o8,o9]/\Same H H'/\H' l=some (.lst us)/\RelDs H' us (hs.map Hand.d)/\hs.length=i/\hs.map Hand.name=x.take i/\∀h∈hs,HandOk ks cs h)
  (xaj ([]) ([]) none none none rfl s0 ups rfl rfl ⟨rfl,λ_ h=>nomatch h⟩) ?_ ?_
 ·rintro i σ H1 hi ⟨us,hs,o7,o8,o9,rfl,s1,J,I,a6,M,Y⟩
  have aq:i<4:=by omega
  have e0:(0+(i:Int))=(i:Int):=by omega
  have aa:=I.length;rw[zLM]at aa;refine xab λS1 ai=>?_;refine(xa0 _ rfl _ rfl _ rfl _ _ rfl rfl (xa6 a ns _ rfl (s1.seq hS) al (by omega) (λr p1 q1 nr=>ai _ _ (xab λS2 ah=>?_))));have sr:=zA nr (.lst [.int p1,.int q1]);obtain⟨H2,a0⟩:∃H2,H2=upd H1 r (.lst [.int p1,.int q1]):=⟨_,rfl⟩;have af:H2 r=some (.lst [.int p1,.int q1]):=by rw[a0];exact ups
  rw[<- a0]at sr⊢;clear a0;have G:=s1.trans sr;have g2:=g.same G;have a3:O≠r:=neN (g.same s1).nl nr;have lr:l≠r:=neN J nr;obtain⟨z,hz,az⟩:=g2.name (i:=i) (by omega);have a1:atI (x.map V.str) (0+(i:Int))=some (.str z):=by rw[e0];exact az
  have G2:GIn H2 r O kv ks x:=⟨(jEE p1 q1 af),g2.nl,g.ok,a3,g.nby,hk.same G _,wf,pb⟩;refine(xa1 _ rfl _ rfl _ rfl _ rfl _ rfl (xbe O _ _ _ rfl rfl (zC g2.nl) a1 _ (jAEE rfl r O (xal kv cv ks x cs (xbd z rfl G2 (hc.same G _) u.len u.kin (λbv bs H3 f3 a7 y=>ah _ _ ?_))))));have G3:=G2.fed f3;have a8:=xai G2.fd f3;have a5:=f3.1 _ _ (sr _ _ J) lr;have d3:DIn H3 r kv cv bv ks cs bs:=⟨G3.fd,G3.kd,wf,pb,(hc.same G _).tups a8 _,u.len,λc Z=>(u.kin c Z).mono wf.few,a7,y.len,y.nd,λb hb=>g.nby _ (y.nm b hb),y.kin⟩;refine(jEAA _ rfl (.inl (jAE rfl _ (zC a5))) ?_);refine(xan _ rfl _ rfl O _ _ (xbm _ rfl rfl (zC G3.nl) a1 (jEA _ rfl ?_)));refine(xa1 _ rfl _ rfl _ rfl _ rfl _ rfl (xbe O _ _ _ rfl rfl (zC G3.nl) a1 _ (jAEA rfl _ rfl (xal r O kv cv bv (xaj ks cs bs z x rfl d3 G3.nl am a3 (λrv rs H4 f4 ac ae=>⟨(by walk_at"s"),λt ht=>?_⟩))))));have st:=zA ht (.tup [.str z,bv,rv]);have an:=f3.trans f4;have a4:=f4.1 _ _ a5 lr;have a9:Same H1 H4:=Fed.back nr sr an;refine(xa6 l us _ rfl rfl (st _ _ a4) (xa3 (by omega)) ?_);have a2:=a9.trans st
  have C:∀b vs,upd H4 t (.tup [.str z,bv,rv]) b=some (.tup vs)->upd (upd H4 t (.tup [.str z,bv,rv])) l (.lst (us++[.ref t])) b=some (.tup vs):=λb vs e=>by
   rw[xak λz=>by rw[z,st _ _ a4]at e;cases e];exact e
  refine(xaj (us++[.ref t]) (hs++[⟨z,bs,rs⟩]) _ _ _ rfl (λb o e=>?_) ups ?_ (by rw[zLA,List.length_singleton,a6]) ⟨?_,λh hh=>?_⟩)
  ·rw[xak (neN e hl)]
   exact a2 _ _ (s1 _ _ e)
  ·rw[zAP]
   refine((I.same a2 _).tups C _).append (xaw (.ref t) ([]) rfl ?_ rfl);exact(xat t _ rfl (C _ _ ups) _ _ rfl rfl _ (xbu _ rfl (((a7.tups (xai G3.fd f4) _).same st _).tups C _) _ _ rfl ((ac.same st _).tups C _) rfl))
  ·rw[zAP,M,zTA,hz]
   rfl
  ·rcases zMA hh with h' | h'
   ·exact Y h h'
   ·rw[zMO h']
    exact xub y ae
 ·rintro σ H1 ⟨us,hs,o7,o8,o9,rfl,s1,J,I,a6,M,Y⟩
  refine aj _ _ ?_;refine(xb1 _ rfl _ rfl _ rfl l us ⟨rfl,.inl ⟨zC J,λt ht=>⟨(by walk_at"s"),λt2 ab=>?_⟩⟩⟩);have st:=zA ht (.tup us);have U:=zA ab (.tup [kv,cv,.ref t]);have sA:=s1.trans (st.trans U)
  have ag:(cs.map (·.1)).Nodup:=by
   rw[u.nm];exact(g.ok.2.1.sublist (List.drop_sublist _ _)).sublist (List.take_sublist _ _)
  refine q _ ⟨ks,cs,hs⟩ _ sA (xat t2 _ rfl ups _ _ rfl (hk.same sA _) _ (xbu _ rfl (hc.same sA _) _ _ rfl (xaw t us rfl (U _ _ ups) (I.same (st.trans U) _)) rfl)) ⟨wf,ag,u.len,λc Z=>(u.kin c Z).mono wf.few,?_,by show hs.length<=4;omega,Y⟩ ?_ rfl
  ·show(hs.map Hand.name).Nodup
   rw[M];exact g.ok.2.1.sublist (List.take_sublist _ _)
  ·exact M
theorem xrj(T:Tx K U)(b:DefIs P w K U base n "_law_feed" qan (xjm K))(m:DefIs P w K U base n "_law_take" qae xcw)(i:DefIs P w K U base n "_law_kinds" qbf xox)(c:DefIs P w K U base n "_law_channels" qbh xsj)(l:DefIs P w K U base n "_law_hands" qa7 (xlh K)):DefIs P w K U base (n+1) "_law_make" qa6 (xou K):=by
 refine DefIs.of T.kH scl_make (by walk_at"l") (λf ak A outer s H vs Q E Y h=>?_);obtain⟨a,y,ns,o,u,rfl,hS,M,g,q⟩:=h;have nd:=scl_make.nd
 refine⟨_,(zpn (psn 3 nd (pd i Y (pc (pd b Y (va 0 (v1 1))) (v1 2) zsc)))
   (zpn (psn 4 nd (pd b Y (va 0 (pc (xaq xbk (pv 1) pI) pN xa8))))
   (zpn (psn 5 nd (xaq xbk pI (pd m Y (va 4 (pc pI pN zso)))))
   (zpo (xaf (pd l Y (va 0 (pc (xaq xbk (pv 1) pI) (va 3 (pc (pd c Y (va 4 (va 3 (va 2 (v1 5))))) (va 5 (v1 2)) zsc)) xa8)))))))),xab λR1 af=>?_⟩
 refine(xbq _ rfl _ rfl a ns o rfl hS M ⟨by omega,λr p1 q1 nr=>?_⟩);have sr:=zA nr (.lst [.int p1,.int q1]);have g1:=g.same sr;have a7:y≠r:=neN g.nl nr;refine(xaz _ rfl r y p1 q1 (xbd u rfl ups g1.nl g.ok a7 (λkv ks H1 f1 a3 aa ag=>af _ _ (xab λR2 ae=>?_))));have O:Same H H1:=Fed.back nr sr f1;obtain⟨wf,h4,aj,a9⟩:=aa
 have pb:PNB ks:=λk hk p hp j=>by
  have hm:p.1∈u:=by
   have h9:=(a9 k hk).2;have a6:p.1∈k.parts.map (·.1):=qD hp;rw[h9]at a6;exact List.mem_of_mem_drop (qK (qK a6))
  exact g.nby _ hm j
 refine(xbg _ rfl _ rfl _ _ rfl rfl a (xci ns _ rfl (O.seq hS) M (by omega) (λr2 p2 q2 x=>ae _ _ (xab λR3 ac=>?_))));have G:=zA x (.lst [.int p2,.int q2]);have g2:=(g.same O).same G;have a0:y≠r2:=neN (g.same O).nl x;refine(xaa _ rfl r2 p2 q2 4 rfl ups (by decide) (by decide) (λhm H3 ai ah f3=>(xaw _ _ rfl rfl ?_)));obtain⟨many,J,C,z⟩:∃many:Nat,1+hm=(many:Int)/\1<=many/\many<=4:=(jEAA ((1+hm).toNat) (by omega) (by omega) (by omega))
 suffices a1:R3 [some (.ref a),some (.int o),some (.ref y),some kv,some (.ref r2),some (.int (many:Int))] H3 by
  rw[<- J]at a1;exact a1
 refine ac _ _ ?_;have I:Same H1 H3:=Fed.back x G f3;have g3:=(g.same O).same I;have s3:=O.trans I;have a8:=f3.2;have G3:GIn H3 r2 y kv ks u:=⟨a8,g3.nl,g.ok,a0,g.nby,a3.same I _,wf,pb⟩;refine(xbg _ rfl _ rfl _ _ rfl rfl _ (jAEA rfl _ rfl (xb1 _ rfl _ rfl _ rfl r2 y (xah kv ks u many rfl G3 C z (λcv cs H4 f4 ab a5=>?_)))));have Z:Same H1 H4:=Fed.back x G (f3.trans f4);have s4:=O.trans Z;refine(xan _ rfl _ rfl a y ns (xal (o+2) many kv cv ks (xa9 cs u ?_ (s4.seq hS) M (g.same s4) (a3.same Z _) (jAAA wf pb ab (jAAA a5 C z (λv mk H5 s5 hv a2 a4 _=>q v mk H5 (s4.trans s5) hv a2 λe=>?_))))))
 ·show[V.ref a,V.int ((o:Int)+2),kv,cv,V.int many,V.ref y]=_
  rw[show((o:Int)+2)=((o+2:Nat):Int) by omega]
 ·rw[e]at a4
  have:=congrArg List.length a4;rw[List.length_take,g.ok.1]at this;simp at this;omega
def xfg:Sp:=λvs H Q _=>∃(mv:V) (mk:Mak),vs=[mv]/\RelD H mv mk.d/\mk.hands.length<=4/\∀l,H l=none->Q (.ref l) (upd H l (.lst ((hn mk).map V.str)))
def xji(K:Fg):Sp:=λvs H Q _=>∃(a:Addr) (ns:List Int) (at_:Nat) (mv:V) (mk:Mak),vs=[.ref a,.int at_,mv]/\SqL K H a (ns.map V.int)/\ns.length<=63/\RelD H mv mk.d/\mk.hands.length<=4/\mk.hands≠[]/\at_<=100 ∧
 ∀l (ws:List Str) H',Same H H'->H l=none->H' l=some (.lst (ws.map V.str))->(∀z∈ws,z∈hn mk)->ws.length<=315->Q (.ref l) H'
def HSeen(H:Hp)(mk:Mak)(s:HSt)(u:V)(hd:Hand):Prop:=∃b sa p lt ut,u=.ref b/\H b=some (.tup [.str hd.name,.ref sa,.ref lt,.int (s.ct hd.name:Nat)])/\StAt H sa p (s.sd hd.name).1 (s.sd hd.name).2/\H lt=some (.lst ut)/\RelDs H ut (s.tl hd.name)
def CSeen(H:Hp)(s:HSt)(u:V)(c:Chn):Prop:=∃b lt ut,u=.ref b/\H b=some (.tup [.str c.1,.ref lt])/\H lt=some (.lst ut)/\RelDs H ut (s.bt c.1)
structure StateAt(H:Hp)(t:Addr)(mk:Mak)(s:HSt):Prop where
 ex:∃l1 l2 us1 us2,H t=some (.tup [.ref l1,.ref l2])/\H l1=some (.lst us1)/\H l2=some (.lst us2)/\us1.length=mk.hands.length/\us2.length=mk.chans.length/\(∀(i:Nat) u hd,us1[i]?=some u->mk.hands[i]?=some hd->HSeen H mk s u hd)/\∀(i:Nat) u c,us2[i]?=some u->mk.chans[i]?=some c->CSeen H s u c
theorem HSeen.same{H c:Hp}{a:Mak}{s:HSt}{u:V}{hd:Hand}(h:HSeen H a s u hd)(q:Same H c):HSeen c a s u hd:=by
 obtain⟨b,sa,p,lt,e,l,j,i,g,f⟩:=h;exact(xal b sa p lt e (jAAA l (q _ _ j) (i.same q) ⟨q _ _ g,f.same q _⟩))
theorem CSeen.same{H a:Hp}{s:HSt}{u:V}{c:Chn}(h:CSeen H s u c)(q:Same H a):CSeen a s u c:=by
 obtain⟨b,lt,e,j,i,g,f⟩:=h;exact(xcm b lt e j (q _ _ i) (q _ _ g) (f.same q _))
theorem StateAt.same{H j:Hp}{t:Addr}{g:Mak}{s:HSt}(h:StateAt H t g s)(q:Same H j):StateAt j t g s:=by
 obtain⟨m,l,f,e,y,x,w,r,p,o,n⟩:=h.ex;exact⟨m,(xcn l f e (q _ _ y) (q _ _ x) (q _ _ w) r p (λi u hd a b=>(o i u hd a b).same q) (λi u c a b=>(n i u c a b).same q))⟩
def xgm(K:Fg):Sp:=λvs H Q _=>∃(x:Addr) (mv:V) (a:HsA) (s:HSt) (mk:Mak) (N:Nat),vs=[.ref x,mv]/\HsHere K H x mv a s mk N/\∀t H',Same H H'->StateAt H' t mk s->Q (.ref t) H'
def xga(K:Fg):Sp:=λvs H Q _=>∃(x:Addr) (mv:V) (a:HsA) (s:HSt) (mk:Mak) (N:Nat),vs=[.ref x,mv]/\HsHere K H x mv a s mk N/\∀H',Same H H'->Q (.bl true) H'
def xf4(H:Hp)(l:Addr):Hp:=λb=>if b=l then none else H b
theorem xgi{H:Hp}{l b:Addr}{o:HO}(e:H b=some o)(n:b≠l):xf4 H l b=some o:=by unfold xf4;rw[if_neg n];exact e
theorem xod{H a:Hp}{l:Addr}(s:Same H a):Same (xf4 H l) (xf4 a l):=λb o e=>by
 unfold xf4 at e;by_cases h:b=l
 ·rw[if_pos h]at e;cases e
 ·rw[if_neg h]at e
  exact xgi (s b o e) h
theorem xr6{H:Hp}{l:Addr}:Same (xf4 H l) H:=λb o e=>by
 unfold xf4 at e;by_cases h:b=l
 ·rw[if_pos h]at e;cases e
 ·rw[if_neg h]at e
  exact e
theorem xqq{H:Hp}{l:Addr}{o:HO}:xf4 (upd H l o) l=xf4 H l:=by
 funext b
 unfold xf4;by_cases h:b=l
 ·rw[if_pos h,if_pos h]
 ·rw[if_neg h,if_neg h,xak h]
theorem xoc{H:Hp}{l:Addr}{us:List V}(e:H l=some (.lst us)):∀b vs,H b=some (.tup vs)->xf4 H l b=some (.tup vs):=λb vs h=>xgi h λz=>by rw[z,e]at h;cases h
theorem xj6(T:Tx K C):DefIs P w K C base (n+1) "_law_hands_of" qap xfg:=by
 refine DefIs.of T.kK xjr (by walk_at"l") (λf U A outer s H vs Q E hr h=>?_);obtain⟨Z,z,rfl,G,h4,q⟩:=h;obtain⟨I,kv,cv,hv,rfl,l,_,_,r⟩:=mk_d G;obtain⟨M,x,rfl,c,e⟩:=r;have m:=e.length;rw[zLM]at m;refine(jEA _ (zpo (xaf (xbh ["_law_hand"] [none] rfl (by kernel_rfl) (xas (K:=K) rfl (px K (pv 0) pI)) (λ_ _ _ _=>(pgc 0)) (λ_ _ _ _=>xbo) (λ_ _ _ _=>(px K (pv 0) pI))))) ?_);refine(xaa _ rfl I _ _ _ rfl rfl (zB l) rfl (jEAA M rfl ⟨_,zB c⟩ ?_));refine xbj (xs:=x) (λi ys j=>j=H/\ys=((hn z).take i).map V.str) ⟨rfl,by rw[List.take_zero];rfl⟩ (xa3 (by omega)) (λi ys j _ p=>by rw[p.1];exact zB c) ?_ ?_
 ·rintro i y ys j J hi a ⟨rfl,rfl⟩
  obtain⟨d,g,rd⟩:=e.get J;rw[zGM]at g;obtain⟨hd,o,rfl⟩:=zMS g;obtain⟨u,bv,Y,rfl,b,_,_⟩:=hd_d rd;refine⟨ext1 rfl,xdn ?_⟩;refine(xaa _ rfl u _ _ _ rfl rfl (zB b) rfl (nxtG hi a ⟨rfl,?_⟩));rw[zTA,zGM,o,zAP];rfl
 ·rintro ys j a ⟨rfl,rfl⟩ D O
  rw[zTL (by rw[zLM];omega)];exact q D O
theorem xpj(T:Tx K mg)(g:DefIs P w K mg base n "_law_hands_of" qap xfg)(m:MethIs P w K mg base n (ad K "Plain") "stand" qab [[]] (xeo K))(C:MethIs P w K mg base n (ad K "Plain") "told" qab [[]] (xid K))(l:MethIs P w K mg base n (ad K "Plain") "letters" qam [[]] (xgq K))(r:MethIs P w K mg base n (ad K "Plain") "count" qab [[]] (xf9 K)):DefIs P w K mg base (n+1) "_law_state" qag (xgm K):=by
 refine DefIs.of T.kM scl_state (by walk_at"l") (λf b3 A outer s H vs Q E hr h=>?_);obtain⟨x,mv,a,st,J,N,rfl,hs,q⟩:=h;have nd:=scl_state.nd;have h4:=hs.mok.hfew;have h6:=hs.mok.cfew;obtain⟨fs,hx,lf⟩:=hs.at_.ob
 refine⟨_,(zpn (psn 2 nd (xcd pN))
   (zpn (xb5 zF rfl (xbv (K:=K) rfl (pd g hr (v1 1))) (pgn 3 nd)
   (zpo (xbp (xds zD zH zG xb0 (pv 2) (pc (xa2 (va 3 (pc (xbs m T.uE.cl hr (pv 0) (v1 3)) (pc (xbs C T.uE.cl hr (pv 0) (v1 3)) (pc (xbs r T.uE.cl hr (pv 0) (v1 3)) pN zsc) zsc) zsc))) pN zsT)))))
   (zpo (xaf (xa2 (va 2 (pc (xbh ["_law_channel","_law_house"] [none,some 0] rfl (by kernel_rfl) (xas (K:=K) rfl (px K (pv 1) pI)) (λ_ _ _ _=>(pgc 0)) (λ_ _ _ _=>xbo) (λ_ _ _ _=>(xa2 (pc (px K (pv 0) pI) (pc (xbs l T.uE.cl hr (pv 1) (pc (px K (pv 0) pI) pN ss)) pN zsc) ss)))) pN xbt))))))),xab λR1 b1=>?_⟩
 refine⟨(by walk_at"s"),λY ak=>b1 _ _ (xab λR2 b0=>?_)⟩;have s1:=zA ak (.lst []);refine(xar _ rfl mv J rfl (hs.md.same s1 _) ⟨h4,λl2 a2=>?_⟩);have s2:=zA a2 (.lst ((hn J).map V.str));have a5:upd (upd H Y (.lst [])) l2 (.lst ((hn J).map V.str)) Y=some (.lst []):=s2 _ _ ups;have a0:upd (upd H Y (.lst [])) l2 (.lst ((hn J).map V.str)) l2=some (.lst ((hn J).map V.str)):=ups;have ah:=s1.trans s2;have aw:l2≠Y:=λz=>by rw[z,ups]at a2;cases a2
 generalize upd (upd H Y (.lst [])) l2 (.lst ((hn J).map V.str))=H2 at a5 a0 ah⊢;clear s1 s2 a2;refine(jEAA l2 rfl ⟨_,zC a0⟩ ?_)
 refine xea (xs:=(hn J).map V.str) (λi σ H'=>∃(us:List V) (o:Option V),σ=[some (.ref x),some mv,some (.ref Y),o]/\Same H H'/\H' Y=some (.lst us)/\H' l2=some (.lst ((hn J).map V.str))/\us.length=i/\∀(j:Nat) u hd,us[j]?=some u->J.hands[j]?=some hd->HSeen (xf4 H' Y) J st u hd)
  (xa9 ([]) none rfl ah a5 a0 rfl (λj u hd h=>by simp at h)) (λi σ H' _ p=>by obtain⟨_,_,_,_,_,h,_⟩:=p;exact zC h) ?_ ?_
 ·rintro i v σ H' hv ⟨us,o,rfl,sm,G,a4,M,a8⟩
  rw[zGM,zGM]at hv;obtain⟨z,hz,rfl⟩:=zMS hv;obtain⟨hd,af,rfl⟩:=zMS hz;have al:=zMG af;have ab:hd.name∈hn J:=qD al;have hi:i<J.hands.length:=(zES af).1;have l':=hs.at_.same sm;refine(jEAA _ rfl (.inl (jAE rfl _ (zC G))) ?_);refine(xbq _ rfl _ rfl x _ fs rfl (sm _ _ hx) (lf.no _ (by walk_at"k")) (xaz _ rfl x mv hd.name a (xci st J rfl l' ab (by have:=hs.ok.bxlen hs.mok al;omega) (λsa p H3 U ai av=>?_))));refine(xa7 _ rfl x _ fs rfl (U _ _ (sm _ _ hx)) (lf.no _ (by walk_at"k")) _ rfl (xal x mv hd.name a st (xb8 J rfl (l'.same U) ab (λlt ut H4 s4 ac aa a9=>?_))));refine(xa7 _ rfl x _ fs rfl (s4 _ _ (U _ _ (sm _ _ hx))) (lf.no _ (by walk_at"k")) _ rfl (xal x mv hd.name a st (xbm J rfl ((l'.same U).same s4) ab (by walk_at"s") (λt ht=>?_))));have O:=zA ht (.tup [.str hd.name,.ref sa,.ref lt,.int (st.ct hd.name:Nat)]);have I:=U.trans (s4.trans O);have ar:=I _ _ G;refine(xa6 Y us (.ref t) rfl rfl ar (xa3 (by omega)) ?_);refine(xa9 (us++[.ref t]) _ rfl (λb o e=>?_) ups (by rw[xak aw];exact I _ _ a4) (by rw[zLA,List.length_singleton,M]) (λj u a3 hj hh=>?_))
  ·rw[xak (neN e ak)]
   exact I _ _ (sm _ _ e)
  ·rw[xqq]
   by_cases ae:j<us.length
   ·rw[List.getElem?_append_left ae]at hj
    exact(a8 j u a3 hj hh).same (xod I)
   ·have Z:=(zES hj).1
    rw[zLA,List.length_singleton]at Z;have ej:j=i:=by omega
    subst ej;rw[af]at hh;cases hh;rw[List.getElem?_append_right (by omega),M,Nat.sub_self]at hj;cases hj;have a6:=xoc ar;have b2:=U _ _ G;refine(xal t sa p lt ut (jAAA rfl (a6 _ _ ups) ((av.same (s4.trans O)).keep a6 λo e=>xgi e λz=>?_) ⟨xgi (O _ _ aa) λz=>?_,(a9.same O _).tups a6 _⟩))
    ·rw[z,G]at ai;cases ai
    ·rw[z,b2]at ac;cases ac
 ·rintro σ H' ⟨us,o,rfl,sm,G,a4,M,a8⟩
  rw[zLM,zLM]at M;obtain⟨ma,kv,cv,hv,rfl,ax,_,az,_⟩:=mk_d (hs.md.same sm _);obtain⟨ca,uc,rfl,ao,aq⟩:=az;have ay:=aq.length;rw[zLM]at ay;refine b0 _ _ (xan _ rfl _ rfl ma _ _ (xbm _ rfl rfl (zB ax) rfl (jEAA ca rfl ⟨_,zB ao⟩ ?_)));refine xbj (xs:=uc) (λi ys H3=>Same H' H3/\ys.length=i/\∀(j:Nat) u c,ys[j]?=some u->J.chans[j]?=some c->CSeen H3 st u c) (jAA (Same.refl _) rfl (λj u c h=>by simp at h)) (xa3 (by omega)) (λi ys H' _ p=>zB (p.1 _ _ ao)) ?_ ?_
  ·rintro i y ys H3 hy hi aj ⟨U,a7,ag⟩
   obtain⟨d,a3,rd⟩:=aq.get hy;rw[zGM]at a3;obtain⟨ch,am,rfl⟩:=zMS a3;obtain⟨au,_,rfl,an,_,ws,rfl,rfl,_⟩:=rd;have a1:=U _ _ an;have l3:=(hs.at_.same sm).same U;refine⟨ext1 rfl,xdn ?_⟩;refine(xaa _ rfl au _ _ _ rfl rfl (zB a1) (xam (j:=0) rfl) ?_);refine(xa7 _ rfl x _ fs rfl (U _ _ (sm _ _ hx)) (lf.no _ (by walk_at"k")) _ rfl (xbe au _ _ _ rfl rfl (zB a1) (xam (j:=0) rfl) x (xal _ ch.1 a st J (jAAA rfl l3 (qD (zMG am)) (λlt ut H4 s4 ac aa a9=>⟨(by walk_at"s"),λt ht=>nxtG hi aj ?_⟩)))));have O:=zA ht (.tup [.str ch.1,.ref lt]);refine(jAA (U.trans (s4.trans O)) (by rw[zLA,List.length_singleton,a7]) (λj u c hj hh=>?_));by_cases ae:j<ys.length
   ·rw[List.getElem?_append_left ae]at hj
    exact(ag j u c hj hh).same (s4.trans O)
   ·have Z:=(zES hj).1
    rw[zLA,List.length_singleton]at Z;have ej:j=i:=by omega
    subst ej;rw[am]at hh;cases hh;rw[List.getElem?_append_right (by omega),a7,Nat.sub_self]at hj;cases hj;exact(xcm t lt ut rfl ups (O _ _ aa) (a9.same O _))
  ·rintro ys H3 aj ⟨U,a7,ag⟩ D hD
   have sD:=zA hD (.lst ys);refine⟨(by walk_at"s"),λt ht=>?_⟩;have O:=zA ht (.tup [.ref Y,.ref D]);have I:=U.trans (sD.trans O);exact q t _ (sm.trans I) ⟨Y,(xcn D us ys ups (I _ _ G) (O _ _ ups) (by omega) (by omega) (λj u hd a b=>((a8 j u hd a b).same xr6).same I) (λj u c a b=>(ag j u c a b).same (sD.trans O)))⟩
theorem xp9{H:Hp}:∀{kvs:List (Key×V)} {bx:List (Str×D)},KvD H kvs bx->∀p∈kvs,∃b∈bx,p.1=Sum.inr b.1/\RelD H p.2 b.2
 |[],[],_=>λp h=>nomatch h
 | j::kvs,b::bx,⟨i,g,f⟩=>λp h=>by
  rcases zMC h with rfl |h
  ·exact(jEAA b (by simp) i g)
  ·obtain⟨c,a,e⟩:=xp9 f p h
   exact(jEA c (qC _ a) e)
 |[],_::_,h=>h.elim
 |_::_,[],h=>h.elim
theorem xi8{H:Hp}{a b:Addr}{g f:List (Key×V)}{bx:List (Str×D)}{n:Nat}(u:H a=some (.dK g))(s:H b=some (.dK f))(j:KvD H g bx)(i:KvD H f bx)(nd:(bx.map (·.1)).Nodup)(dp:∀b∈bx,b.2.deep<=12):EqS H (n+1) (.ref a) (.ref b):=by
 refine .inr (.inr (xap a b g f rfl rfl u s (j.length.trans i.length.symm) (λp o=>?_)));obtain⟨c,h,e,r⟩:=xp9 j p o;obtain⟨v,m,l⟩:=i.val.2 _ (xi9 nd h);exact(jEA v (by rw[e];exact m) (.inl (jEAA c.2 r l (zY (dp c h) (by decide)))))
theorem xmp{H:Hp}{t t':Addr}{c:Mak}{s:HSt}{N:Nat}(h:StateAt H t c s)(h':StateAt H t' c s)(e:MakOk c)(o:HOk c s N):EqS H 12 (.ref t) (.ref t'):=by
 obtain⟨l1,l2,C,y,a1,a2,a3,a4,a5,a6,a7⟩:=h.ex;obtain⟨k1,k2,r,m,b1,b2,b3,b4,b5,b6,b7⟩:=h'.ex;have g:∀{n:Nat} (i:Int),EqS H n (.int i) (.int i):=λi=>EqS.dat (.inl (jEAA (.int i) rfl rfl (by show D.deep (.int i)<=100;unfold D.deep;decide)));have str:∀{n:Nat} (i:Str),EqS H n (.str i) (.str i):=λi=>EqS.dat (.inl (jEAA (.str i) rfl rfl (by show D.deep (.str i)<=100;unfold D.deep;decide)));refine .inr (.inl (xah t t' _ _ rfl rfl (.inl ⟨a1,b1⟩) rfl (λi u z a hz=>?_)));rcases i with _ |_ |i
 ·cases a;cases hz
  refine .inr (.inl (xah l1 k1 C r rfl rfl (.inr ⟨a2,b2⟩) (by omega) (λi u z a hz=>?_)));have hi:=(zES a).1;have f:c.hands[i]?=some (c.hands[i]'(by omega)):=zGA _;obtain⟨c1,sa,p,lt,x,rfl,Y,⟨e2,kb,U,l⟩,O,M⟩:=a6 i u _ a f;obtain⟨Z,sb,p',G,w,rfl,J,⟨g2,a0,I,j⟩,g3,g4⟩:=b6 i z _ hz f;have b:=zMG f;generalize c.hands[i]=hd at *
  refine .inr (.inl (xah c1 Z _ _ rfl rfl (.inl ⟨Y,J⟩) rfl (λi u z a hz=>?_)));rcases i with _ |_ |_ |_ |i
  ·cases a;cases hz;exact str _
  ·cases a;cases hz
   refine .inr (.inl (xah sa sb _ _ rfl rfl (.inl ⟨e2,g2⟩) rfl (λi u z a hz=>?_)));rcases i with _ |_ |i
   ·cases a;cases hz;exact g _
   ·cases a;cases hz
    exact xi8 U I l j (by rw[o.keys hd b];exact(e.hok hd b).nd) (o.bxdeep e b)
   ·cases a
  ·cases a;cases hz
   exact EqS.dat (.inr (xaj lt G x w _ rfl rfl O g3 M ⟨g4,zY (xeb (o.tok hd b).2) (by decide)⟩))
  ·cases a;cases hz;exact g _
  ·cases a
 ·cases a;cases hz
  refine .inr (.inl (xah l2 k2 y m rfl rfl (.inr ⟨a3,b3⟩) (by omega) (λi u z a hz=>?_)));have hi:=(zES a).1;have f:c.chans[i]?=some (c.chans[i]'(by omega)):=zGA _;obtain⟨c1,lt,x,rfl,Y,O,M⟩:=a7 i u _ a f;obtain⟨Z,G,w,rfl,J,g3,g4⟩:=b7 i z _ hz f;have b:=zMG f;generalize c.chans[i]=ch at *
  refine .inr (.inl (xah c1 Z _ _ rfl rfl (.inl ⟨Y,J⟩) rfl (λi u z a hz=>?_)));rcases i with _ |_ |i
  ·cases a;cases hz;exact str _
  ·cases a;cases hz
   exact EqS.dat (.inr (xaj lt G x w _ rfl rfl O g3 M ⟨g4,zY (xeb λd hd=>xd5 e.wf (e.ckin ch b) ((o.cok ch b).2 d hd)) (by decide)⟩))
  ·cases a
 ·cases a
theorem xlr(T:Tx K mg)(c:DefIs P w K mg base n "_law_feed" qan (xjm K))(b:DefIs P w K mg base n "_law_take" qae xcw):DefIs P w K mg base (n+1) "_law_weaving" qbj (xji K):=by
 refine DefIs.of T.kL scl_weaving (by walk_at"l") (λf ao A outer s H vs Q E hr h=>?_);obtain⟨a,ns,y,mv,mk,rfl,hS,a9,md,h4,af,am,q⟩:=h;have nd:=scl_weaving.nd
 refine⟨_,(zpn (psn 3 nd (xcd pN))
   (zpn (xb5 zF rfl (xpb rfl T.uA (va 1 (pc (xax (xk0 rfl) rfl T.k7 PyProof.Rows.boot_min (pc (xax (xag (K:=K) rfl) rfl T.kY zE (v1 0)) (pc pI pN zso) zsc)) pN zsc))) (pgn 4 nd)
   (zpn (psn 5 nd (pd c hr (va 0 (v1 4))))
   (zpo (psn 3 nd (xaq xfx (pv 3) (xbh ["_law_j","_law_make_here","_law_feed_here"] [none,some 2,some 5] rfl (by kernel_rfl) (xcb rfl T.uA (pc pI pN zso)) (λ_ _ _ _=>(pgc 0)) (λ_ _ _ _=>xbo) (λ_ _ _ _=>(px K (px K (px K (pv 1) pI) (pd b hr (va 2 (pc (xax (xag (K:=K) rfl) rfl T.kY zE (pc (px K (pv 1) pI) pN ss)) pN zsc)))) pI))))))))
   (zpo (xaf (pv 3))))),?_⟩
 refine⟨(by walk_at"s"),λl0 a1=>?_⟩;have s0:=zA a1 (.lst []);have al:0<mk.hands.length:=List.length_pos_iff.mpr af;have ae:(ns.map V.int).length=ns.length:=zLM ..;refine(xbg _ rfl _ rfl a _ rfl (.inl (s0.seq hS)) _ (jEA _ rfl ?_))
 obtain⟨M,hM,an⟩:∃M:Nat,(if (63:Int)<((ns.map V.int).length:Nat) then (63:Int) else ((ns.map V.int).length:Nat))=(M:Nat)/\M<=63:=by
  refine(jEA ns.length ?_ a9);rw[ae,if_neg (by omega)]
 rw[hM];refine(xaw _ _ rfl (jAAA (by omega) (by omega) (by omega) (by omega)) ?_);have a8:((M:Int)-(y:Nat)).toNat<=63:=by omega
 generalize ((M:Int)-(y:Nat)).toNat=ak at a8⊢
 refine xdi (n:=ak) (λi σ H'=>∃(x:Addr) (ws:List Str) (o4 o5:Option V),σ=[some (.ref a),some (.int y),some mv,some (.ref x),o4,o5]/\Same H H'/\H x=none/\H' x=some (.lst (ws.map V.str))/\(∀z∈ws,z∈hn mk)/\ws.length<=5*i)
  (xap l0 ([]) none none rfl s0 a1 ups (λz h=>nomatch h) (zZ _)) ?_ ?_
 ·rintro i σ H1 hi ⟨x,ws,o4,o5,rfl,C,O,u,o,ab⟩
  refine(xbq _ rfl _ rfl a ns _ rfl (C.seq hS) a9 ⟨by omega,λfd J I U=>?_⟩);have s2:=zA U (.lst [.int J,.int I]);have g:upd H1 fd (.lst [.int J,.int I]) fd=some (.lst [.int J,.int I]):=ups;generalize upd H1 fd (.lst [.int J,.int I])=H2 at s2 g⊢;have aa:=C.trans s2;obtain⟨ma,kv,cv,hv,rfl,a0,_,_,ai⟩:=mk_d (md.same aa _);obtain⟨ha,uh,rfl,a3,a4⟩:=ai;have ag:=a4.length;rw[zLM]at ag;refine(xbi _ rfl 5 rfl (by decide) ⟨by decide,?_⟩);refine xdb (j:=0) (λj ys H'=>Fed fd H2 H'/\∃vs:List Str,ys=vs.map V.str/\∀z∈vs,z∈hn mk) (by rfl) (jAEA (Fed.refl g) ([]) rfl (λ_ h=>nomatch h)) (xa3 (by decide)) ?_ ?_
  ·rintro j ys H3 hj l ⟨f3,vs,rfl,p⟩
   have e:=xai (jEE J I g) f3;obtain⟨p3,q3,a6⟩:=f3.2;refine(xaa _ rfl ma _ _ _ rfl rfl (zB (e _ _ a0)) rfl (xan _ rfl _ rfl ma _ _ (xbm _ rfl rfl (zB (e _ _ a0)) rfl (xaw ha _ rfl (.inr (zB (e _ _ a3))) (xah fd p3 q3 _ rfl a6 (by omega) (by omega) (λr H4 r0 r1 f4=>?_))))));have G:=xai (jEE p3 q3 a6) f4;obtain⟨ri,rfl⟩:∃i:Nat,r=(i:Int):=⟨r.toNat,by omega⟩;have ac:ri<uh.length:=by omega
   have Y:uh[ri]?=some uh[ri]:=zGA ac;obtain⟨d,a7,rd⟩:=a4.get Y;rw[zGM]at a7;obtain⟨hd,ah,rfl⟩:=zMS a7;obtain⟨aj,bv,rv,eh,a2,_,_⟩:=hd_d rd;refine(xah ha _ _ _ rfl rfl (zB (G _ _ (e _ _ a3))) (xam Y) ?_);rw[eh];refine(xah aj _ _ _ rfl rfl (zB (G _ _ (e _ _ a2))) rfl (nxt hj l (jAEA (f3.trans f4) (vs++[hd.name]) (by rw[zAP];rfl) (λz hz=>?_))));rcases zMA hz with hz |hz
   ·exact p z hz
   ·rw[zMO hz];exact qD (zMG ah)
  ·rintro ys H3 l ⟨f3,vs,rfl,p⟩ D hD
   have m:Same H1 H3:=Fed.back U s2 f3;have sD:=zA hD (.lst (vs.map V.str));have a5:=sD _ _ (m _ _ u);have e5:vs.length=5:=by rw[zLM]at l;exact l
   refine(xap x D _ _ rfl rfl a5 ups (fits (by rw[zLM,zLM];omega)) (λnp Z=>?_));have sN:=zA Z (.lst (ws.map V.str++vs.map V.str));have sA:=m.trans (sD.trans sN);refine(xap np (ws++vs) _ _ rfl (C.trans sA) (xae C (xae (m.trans sD) Z)) (by rw[zAP];exact ups) (λz hz=>?_) (by rw[zLA];omega));rcases zMA hz with hz |hz
   ·exact o z hz
   ·exact p z hz
 ·rintro σ H1 ⟨x,ws,o4,o5,rfl,C,O,u,o,ab⟩
  exact(jEA _ rfl (q x ws H1 C O u o (by omega)))
structure LnHere(K:Fg)(H:Hp)(x:Addr)(mv:V)(h:Str)(a:LnA)(st:LSt)(mk:Mak)(hd:Hand):Prop where
 at_:LnAt H (ad K "Lone") x mv h a st
 md:RelD H mv mk.d
 mok:MakOk mk
 hf:xed mk h=some hd
 ok:LOk mk hd st
theorem LnHere.same{K:Fg}{H H':Hp}{x:Addr}{mv:V}{h:Str}{a:LnA}{st:LSt}{mk:Mak}{hd:Hand}(l:LnHere K H x mv h a st mk hd)(s:Same H H'):LnHere K H' x mv h a st mk hd:=⟨l.at_.same s,l.md.same s _,l.mok,l.hf,l.ok⟩
def xlf(K:Fg):Sp:=λvs H Q _=>∃(x:Addr) (mv:V) (h:Str) (a:LnA) (st:LSt) (mk:Mak) (hd:Hand) (r:Row),vs=[.ref x]/\LnHere K H x mv h a st mk hd/\hd.rows[st.row]?=some r/\st.many<=900/\(r.shut st.com=true->Q (.bl false) H) ∧
 (r.shut st.com=false->∀a' H',(∀b o,H b=some o->b ∉a.F x->H' b=some o)->(∀b vs,H b=some (.tup vs)->H' b=some (.tup vs))->(∀b∈a'.F x,b∈a.F x\/H b=none)->LnHere K H' x mv h a' (st.next mk.kinds r) mk hd->Q (.bl true) H')
def xig(K:Fg):Sp:=λvs H Q _=>∃(x:Addr) (mv:V) (h:Str) (a:LnA) (st:LSt),vs=[.ref x]/\LnAt H (ad K "Lone") x mv h a st/\st.bx.length<=100/\∀sa' p' H',Same H H'->H p'=none->StAt H' sa' p' st.row st.bx->Q (.ref sa') H'
def xov(K:Fg):Sp:=λvs H Q _=>∃(x:Addr) (mv:V) (h:Str) (a:LnA) (st:LSt),vs=[.ref x]/\LnAt H (ad K "Lone") x mv h a st/\∀l us H',Same H H'->H l=none->H' l=some (.lst us)->RelDs H' us st.told->Q (.ref l) H'
def xep(K:Fg)(F:LSt->Lts):Sp:=λvs H Q _=>∃(x:Addr) (mv:V) (h:Str) (a:LnA) (st:LSt),vs=[.ref x]/\LnAt H (ad K "Lone") x mv h a st/\((F st).map (·.1)).Nodup/\(F st).length<=100/\∀d' kvs' L' H',Same H H'->H d'=none->(∀a∈L',H a=none)->(d'::L').Nodup->H' d'=some (.dK kvs')->LsAt H' kvs' (F st) L'->Q (.ref d') H'
def xmu(K:Fg):Sp:=λvs H Q _=>∃(x:Addr) (mv:V) (h:Str) (a:LnA) (st:LSt),vs=[.ref x]/\LnAt H (ad K "Lone") x mv h a st/\Q (.int st.many) H
theorem xiz(T:Tx K mg):MethIs P w K mg base (n+1) (ad K "Lone") "count" qaa [[]] (xmu K):=by
 refine MethIs.of T.uZ xio (λvs H Q E h=>?_) (λf cdv A outer s H vs Q E hr h=>?_)
 ·obtain⟨_,_,_,_,_,rfl,_⟩:=h
  rfl
 obtain⟨x,mv,h,a,st,rfl,l,q⟩:=h;obtain⟨fs,hx,lf⟩:=l.ob;refine(jEA _ (zpo (xaf (xbz (pv 0) rfl))) ?_);exact(xaz _ rfl x _ _ fs (xbd _ rfl hx T.uG.cl (T.uG.no _ (by simp)) lf.mn q))
theorem xka(T:Tx K mg):MethIs P w K mg base (n+1) (ad K "Lone") "told" qaa [[]] (xov K):=by
 refine MethIs.of T.uW xju (λvs H Q E h=>?_) (λf cdv A outer s H vs Q E hr h=>?_)
 ·obtain⟨_,_,_,_,_,rfl,_⟩:=h
  rfl
 obtain⟨x,mv,h,a,st,rfl,l,q⟩:=h;obtain⟨fs,hx,lf⟩:=l.ob;obtain⟨ut,hta,hut⟩:=l.tel;refine(jEA _ (zpo (xaf (xau xb4 rfl T.kZ zM (pc (xbz (pv 0) rfl) pN xby)))) ?_);refine(xaz _ rfl x _ _ fs (xbd _ rfl hx T.uG.cl (T.uG.no _ (by simp)) lf.tl (xaw a.ta ut rfl (.inl (zC hta)) (λb hb=>?_))));have sb:=zA hb (.lst ut);exact q b ut _ sb hb ups (hut.same sb _)
theorem xiy(T:Tx K mg)(D_own_stand:DefIs P w K mg base n "own_stand" ["stand"] xgs):MethIs P w K mg base (n+1) (ad K "Lone") "stand" qaa [[]] (xig K):=by
 refine MethIs.of T.uV xin (λvs H Q E h=>?_) (λf cdv A outer s H vs Q E hr h=>?_)
 ·obtain⟨_,_,_,_,_,rfl,_⟩:=h
  rfl
 obtain⟨x,mv,h,a,st,rfl,l,h100,q⟩:=h;obtain⟨fs,hx,lf⟩:=l.ob;refine(jEA _ (zpo (xaf (pd D_own_stand hr (pc (xbz (pv 0) rfl) pN xby)))) ?_);exact(xaz _ rfl x _ _ fs (xbd _ rfl hx T.uG.cl (T.uG.no _ (by simp)) lf.nw (xc6 a.sa a.p st.row st.bx rfl (jAA l.sta h100 q))))
theorem xkc(T:Tx K mg)(D_own_lists:DefIs P w K mg base n "own_lists" ["lists"] xif):MethIs P w K mg base (n+1) (ad K "Lone") "sent" qaa [[]] (xep K LSt.goi):=by
 refine MethIs.of T.uX xjv (λvs H Q E h=>?_) (λf cdv A outer s H vs Q E hr h=>?_)
 ·obtain⟨_,_,_,_,_,rfl,_⟩:=h
  rfl
 obtain⟨x,mv,h,a,st,rfl,l,hnd,h100,q⟩:=h;obtain⟨fs,hx,lf⟩:=l.ob;obtain⟨kg,hga,hls⟩:=l.goi;refine(jEA _ (zpo (xaf (pd D_own_lists hr (pc (xbz (pv 0) rfl) pN xby)))) ?_);exact(xaz _ rfl x _ _ fs (xbd _ rfl hx T.uG.cl (T.uG.no _ (by simp)) lf.gn (xap a.ga kg st.goi a.Lg rfl hga hls hnd h100 q)))
theorem xkd(T:Tx K mg)(D_own_lists:DefIs P w K mg base n "own_lists" ["lists"] xif):MethIs P w K mg base (n+1) (ad K "Lone") "left" qaa [[]] (xep K LSt.com):=by
 refine MethIs.of T.uY xjw (λvs H Q E h=>?_) (λf cdv A outer s H vs Q E hr h=>?_)
 ·obtain⟨_,_,_,_,_,rfl,_⟩:=h
  rfl
 obtain⟨x,mv,h,a,st,rfl,l,hnd,h100,q⟩:=h;obtain⟨fs,hx,lf⟩:=l.ob;obtain⟨kg,hga,hls⟩:=l.com;refine(jEA _ (zpo (xaf (pd D_own_lists hr (pc (xbz (pv 0) rfl) pN xby)))) ?_);exact(xaz _ rfl x _ _ fs (xbd _ rfl hx T.uG.cl (T.uG.no _ (by simp)) lf.cm (xap a.ca kg st.com a.Lc rfl hga hls hnd h100 q)))
theorem xkb(T:Tx K mg)(D_done:DefIs P w K mg base n "done" qav xmw):MethIs P w K mg base (n+1) (ad K "Lone") "step" qaa [[]] (xlf K):=by
 refine MethIs.of T.uU sc_Lone_step (λvs H Q E h=>?_) (λf cdv A outer s H vs Q E hr h=>?_)
 ·obtain⟨_,_,_,_,_,_,_,_,rfl,_⟩:=h
  rfl
 obtain⟨x,mv,h,a,st,mk,hd,r,rfl,l,hrow,h900,qn,qs⟩:=h;have nd:=sc_Lone_step.nd;have l0:=l.at_;obtain⟨fs,hx,lf⟩:=l0.ob;obtain⟨hin,hnm⟩:=xl7 l.hf;have hok:=l.mok.hok hd hin;have cl:=T.uG.cl;have no:=T.uG.no
 refine⟨_,(zpn (psn 1 nd (pd D_done hr (pc (xbz (pv 0) rfl) (pc (xbz (pv 0) rfl) (pc (xbz (pv 0) rfl) (pc (xbz (pv 0) rfl) (pc (xbz (pv 0) rfl) (pc (xbz (pv 0) rfl) pN xby) xby) xby) xby) xby) xby)))
   (zpn (xba (pR xhy (pv 1) xeh (nM _)) (zpo (xaf xei)) pQ)
   (zpn (xdv (pv 0) (pv 1) rfl)
   (zpn (xdv (pv 0) (xaq xbk (xbz (pv 0) rfl) pI) rfl)
   (zpo (xaf xei)))))),xab λR1 hR1=>?_⟩
 refine(xaz _ rfl x _ _ fs (xb7 _ rfl hx cl (no _ (by simp)) lf.mkv _ rfl x _ (xch _ fs _ rfl hx cl (no _ (by simp)) lf.nm (xaz _ rfl x _ _ fs (xb7 _ rfl hx cl (no _ (by simp)) lf.nw _ rfl x _ (xch _ fs _ rfl hx cl (no _ (by simp)) lf.cm (xaz _ rfl x _ _ fs (xb7 _ rfl hx cl (no _ (by simp)) lf.gn _ rfl x _ (xch _ fs _ rfl hx cl (no _ (by simp)) lf.tl ?_)))))))));refine(xal mv h a.sa a.ca a.ga (xal a.ta a.p st.row st.bx mk (xaw hd r rfl ⟨l.md,l.mok,l.hf,l0.sta,by have:=l.ok.bxlen hok;omega,l.ok.fit,hrow⟩ ?_)));have none_:Q (.bl false) H->R1 [some (.ref x),some .non] H:=λq=>hR1 _ _ (xab λR2 hR2=>(xa5 _ rfl rfl _ rfl (iteKT (zDT rfl) q)))
 have some_:r.shut st.com=false->∀{sa' p':Addr} {H1:Hp},H1 x=some (.ins (ad K "Lone") a.dx fs)->StAt H1 sa' p' (xc4 mk.kinds st.bx st.row r) (xec mk.kinds st.bx (r.letter st.com) r)->(∃kc,H1 a.ca=some (.dK kc)/\LsAt H1 kc (r.com st.com) a.Lc)->(∃kg,H1 a.ga=some (.dK kg)/\LsAt H1 kg (r.goi mk.kinds st.bx st.goi) a.Lg)->(∃ut,H1 a.ta=some (.lst ut)/\RelDs H1 ut (r.told mk.kinds st.bx st.told))->
   (∀b o,H b=some o->b ∉a.F x->H1 b=some o)->(∀b vs,H b=some (.tup vs)->H1 b=some (.tup vs))->p'=a.p\/H p'=none->R1 [some (.ref x),some (.ref sa')] H1:=λsh {sa' p' H1} hx1 h1 h2 h3 h4 fr tp hp=>by
  refine hR1 _ _ (xab λR2 hR2=>(xa5 _ rfl rfl _ rfl (iteKF (zDF λz=>nomatch z) (hR2 _ _ (xab λR3 hR3=>?_)))));refine(xan _ rfl _ rfl x _ _ (xbd fs rfl hx1 cl (no _ (by simp)) (by have:=lf.len;omega) (hR3 _ _ (xab λR4 hR4=>?_))));have lf1:=lf.now sa';refine(xaz _ rfl x _ _ _ (xbd _ rfl ups cl (no _ (by simp)) lf1.mn (xaw _ _ rfl rfl (xaa _ rfl x _ _ _ rfl ups cl (no _ (by simp)) ⟨by have:=lf1.len;omega,hR4 _ _ ?_⟩))));rw[xia]
  obtain⟨g1,g2,g3,g4⟩:=l0.stepped (st':=st.next mk.kinds r) (fs2:=putF (Str.ofString "many") (.int ((st.many:Int)+1)) (putF (Str.ofString "now") (.ref sa') fs)) hx1 (by
   have:=lf1.many ((st.many:Int)+1);rw[show((st.next mk.kinds r).many:Int)=(st.many:Int)+1 from by show((st.many+1:Nat):Int)=_;omega];exact this) h1 h2 h3 h4 fr tp hp
  exact qs sh _ _ g2 g3 g4 ⟨g1,l.md.tups g3 _,l.mok,l.hf,l.ok.next l.mok hin hrow sh⟩
 obtain⟨kc,hca,hlc⟩:=l0.com;obtain⟨kg,hga,hlg⟩:=l0.goi;obtain⟨ut,hta,hut⟩:=l0.tel;have ndl:=l0.nd;rw[List.nodup_cons,List.nodup_append]at ndl;obtain⟨nta,ndc,ndg,ncg⟩:=ndl;have hro:=hok.ok r (zMG hrow)
 have rest:∀{la:Addr} {us xs:List V} {H1:Hp},H la=some (.lst us)->la∈a.F x->Chg la xs H H1->H1 x=some (.ins (ad K "Lone") a.dx fs)/\H1 a.ca=some (.dK kc)/\H1 a.ga=some (.dK kg)/\(la ∉a.Lc->LsAt H1 kc st.com a.Lc)/\(la ∉a.Lg->LsAt H1 kg st.goi a.Lg)/\(a.ta≠la->H1 a.ta=some (.lst ut))/\RelDs H1 ut st.told/\(∀b o,H b=some o->b ∉a.F x->H1 b=some o)/\∀b vs,H b=some (.tup vs)->H1 b=some (.tup vs):=λ{la us xs H1} hla hF c=>by
  have tp:=c.tups hla;refine(jAAA (c.ne hx λz=>?_) (c.ne hca λz=>?_) (c.ne hga λz=>?_) (jAAA (λn=>hlc.keep tp λb hb zs e=>c.ne e λz=>n (z ▸ hb)) (λn=>hlg.keep tp λb hb zs e=>c.ne e λz=>n (z ▸ hb)) (λn=>c.ne hta n) (jAA (hut.tups tp _) (λb o e n=>c.ne e λz=>n (z ▸ hF)) tp)))
  ·rw[z,hla]at hx;cases hx
  ·rw[z,hla]at hca;cases hca
  ·rw[z,hla]at hga;cases hga
 have inF:∀la,la=a.ta\/la∈a.Lc\/la∈a.Lg->la∈a.F x:=λla h=>by
  simp only[LnA.F,List.mem_cons,List.mem_append];rcases h with h |h |h
  ·exact .inr (.inr (.inr (.inr (.inl h))))
  ·exact .inr (.inr (.inr (.inr (.inr (.inl h)))))
  ·exact .inr (.inr (.inr (.inr (.inr (.inr h)))))
 cases r with
 |fin=>exact none_ (qn rfl)
 | take nn c y=>
  obtain⟨ch,hc,rfl,hto,_⟩:=hro
  have hcm:ch.1∈st.com.map (·.1):=by
   rw[l.ok.com];exact qD (List.mem_filter.mpr ⟨hc,zDT hto⟩)
  obtain⟨ds,hg,_⟩:=xfw hcm;obtain⟨la,us,hv,hmem,hla,hus,mod⟩:=hlc.get ndc hg;have shE:(Row.take nn ch.1 y).shut st.com=ds.isEmpty:=by show((getL st.com ch.1).getD []).isEmpty=_;rw[hg];rfl
  refine(xap kc la us ds hca hv hla hus (λe=>none_ (qn (by rw[shE,e];rfl))) (λd ds' e sa' p' H1 chg hp' st'=>?_));subst e;obtain⟨u,us',rfl,hu,hus'⟩:=hus;obtain⟨r1,r2,r3,r4,r5,r6,r7,r8,r9⟩:=rest hla (inF la (.inr (.inl hmem))) chg;have nlg:la ∉a.Lg:=λz=>ncg la hmem la z rfl;have nlt:a.ta≠la:=λz=>nta (by rw[z];exact zR _ hmem);have eL:(Row.take nn ch.1 y).letter st.com=d:=by show((getL st.com ch.1).getD []).headD _=d;rw[hg];rfl
  refine some_ (by rw[shE];rfl) r1 (by rw[eL];exact st') (jEA kc r2 (mod H1 us' List.tail chg (hus'.tups (chg.tups hla) _))) (jEA kg r3 (r5 nlg)) (jEA ut (r6 nlt) r7) r8 r9 hp'
 | send c t=>
  obtain⟨ch,hc,rfl,hfrom,_⟩:=hro
  have hcm:ch.1∈st.goi.map (·.1):=by
   rw[l.ok.goi];exact qD (List.mem_filter.mpr ⟨hc,zDT hfrom⟩)
  obtain⟨ds,hg,hgm⟩:=xfw hcm;obtain⟨la,us,hv,hmem,hla,hus,mod⟩:=hlg.get ndg hg;have hb:=(l.ok.gok _ hgm).1;have hul:=hus.length;refine(xa6 kg la us hga hv hla (by show us.length<=1000;rw[hul];exact zY hb (by omega)) (λsa' p' u H1 chg hu hp' st'=>?_));obtain⟨r1,r2,r3,r4,r5,r6,r7,r8,r9⟩:=rest hla (inF la (.inr (.inr hmem))) chg;have nlc:la ∉a.Lc:=λz=>ncg la z la hmem rfl;have nlt:a.ta≠la:=λz=>nta (by rw[z];exact zJ _ hmem);exact some_ rfl r1 st' (jEA kc r2 (r4 nlc)) (jEA kg r3 (mod H1 (us++[u]) (λl=>l++[wv mk.kinds st.bx t]) chg ((hus.tups (chg.tups hla) _).append (xaw u ([]) rfl hu rfl)))) (jEA ut (r6 nlt) r7) r8 r9 hp'
 |tell t=>
  have hb:=l.ok.tok.1;have hul:=hut.length;refine(jEAA ut hta (by omega) (λsa' p' u H1 chg hu hp' st'=>?_));obtain⟨r1,r2,r3,r4,r5,r6,r7,r8,r9⟩:=rest hta (inF a.ta (.inl rfl)) chg;exact some_ rfl r1 st' (jEA kc r2 (r4 λz=>nta (zR _ z))) (jEA kg r3 (r5 λz=>nta (zJ _ z))) (jEA (ut++[u]) (chg.at hta) (r7.append (xaw u ([]) rfl hu rfl))) r8 r9 hp'
 |_=>
  intro sa' p' H1 s1 hp' st';exact some_ rfl (s1 _ _ hx) st' (jEA kc (s1 _ _ hca) (hlc.same s1)) (jEA kg (s1 _ _ hga) (hlg.same s1)) (jEA ut (s1 _ _ hta) (hut.same s1 _)) (λb o e _=>s1 b o e) (Same.tups s1) hp'
def comL(mk:Mak)(h:Str)(cs:Lts):Lts:=(chTo mk h).map λc=>(c,(getL cs c).getD [])
def goiL(mk:Mak)(h:Str):Lts:=(xd4 mk h).map λc=>(c,[])
def xwg(H:Hp)(sv:V)(mk:Mak)(hd:Hand)(row:Nat)(bx:List (Str×D)):Prop:=(sv=.non/\row=0/\bx=begL mk hd)\/∃sa p,sv=.ref sa/\StAt H sa p row bx/\bx.length<=100
theorem xvu(b:Addr->Hp->Prop){R:Addr->Hp->Prop}{A:Prop}(h:(∀a H,b a H->R a H)->A)(r:∀a H,b a H->R a H):A:=h r
def xlg(K:Fg):Sp:=λvs H Q _=>∃(x dx:Addr) (mv:V) (h:Str) (d:Addr) (kvs:List (Key×V)) (cs:Lts) (L:List Addr) (mk:Mak) (hd:Hand) (sv:V) (row:Nat) (bx:List (Str×D)),vs=[.ref x,mv,.str h,.ref d,sv]/\xwg H sv mk hd row bx/\H x=some (.ins (ad K "Lone") dx [])/\RelD H mv mk.d/\MakOk mk/\xed mk h=some hd/\H d=some (.dK kvs)/\LsAt H kvs cs L ∧
 ∀a H',SameBut x H H'->(∀b∈a.F x,b=x\/H b=none)->LnAt H' (ad K "Lone") x mv h a ⟨row,bx,comL mk h cs,goiL mk h,[],0⟩->Q .non H'
theorem xfp(a:Mak)(h:Str)(cs:Lts):(comL a h cs).map (·.1)=chTo a h:=by
 unfold comL;rw[List.map_map];exact(zP (g:=id) λ_ _=>rfl).trans (List.map_id _)
theorem xg8(a:Mak)(h:Str):(goiL a h).map (·.1)=xd4 a h:=by
 unfold goiL;rw[List.map_map];exact(zP (g:=id) λ_ _=>rfl).trans (List.map_id _)
theorem xqx{a:Mak}(h:(a.chans.map (·.1)).Nodup)(x:Str):(chTo a x).Nodup:=zW (List.Sublist.map _ List.filter_sublist) h
theorem xky{a:Mak}(h:(a.chans.map (·.1)).Nodup)(x:Str):(xd4 a x).Nodup:=zW (List.Sublist.map _ List.filter_sublist) h
theorem xs2{a:Mak}(h:a.chans.length<=6){p:Chn->Bool}:((a.chans.filter p).map (·.1)).length<=6:=by
 rw[zLM];exact zY (zV _ _) h
theorem xnn {H:Hp} {D c:Addr} {ys:List V} {kvs:List (Key×V)} {cs:Lts} {L:List Addr} (hD:H D=none) (hls:LsAt H kvs cs L) (hc:upd H D (.lst ys) c=none) :
  ∃H',H'=upd (upd H D (.lst ys)) c (.dK kvs)/\H c=none/\Same H H'/\H' c=some (.dK kvs)/\LsAt H' kvs cs L:=by
 have sD:=zA hD (.lst ys);have sc:=zA hc (.dK kvs);exact(xbm _ rfl (xae sD hc) (sD.trans sc) ups (hls.same (sD.trans sc)))
theorem xke (T:Tx K mg) (J:DefIs P w K mg base n "begin_of" qac xlj) (I:DefIs P w K mg base n "own_stand" ["stand"] xgs) (u:DefIs P w K mg base n "channels_to" qac (xih chTo)) (m:DefIs P w K mg base n "channels_from" qac (xih xd4)) :
  MethIs P w K mg base (n+1) (ad K "Lone") "__init__" qaq [[.none],[]] (xlg K):=by
 refine MethIs.of T.uT xjx (λvs H Q E h=>?_) (λf df A outer s H vs Q E hr h=>?_)
 ·obtain⟨_,_,_,_,_,_,_,_,_,_,_,_,_,rfl,_⟩:=h
  rfl
 obtain⟨x,dx,mv,h,d,kvs,cs,L,g,hd,sv,row,bx,rfl,bu,hx,md,ac,hf,az,cw,q⟩:=h;have hu:=xd2 hr;have cl:=T.uG.cl;have no:=T.uG.no;have h6:=ac.cfew
 refine⟨_,(zpn (xdv (pv 0) (pv 1) rfl)
   (zpn (xdv (pv 0) (pv 2) rfl)
   (zpn (xdv (pv 0) (xfi (pR xhy (pv 4) xeh (nM _)) (pd J hr (va 1 (v1 2))) (pd I hr (v1 4))) rfl)
   (zpn (xdv (pv 0) (xau (xco rfl) rfl T.kW zL (pc (xbh ["c","letters"] [none,some 3] rfl (by kernel_rfl) (xbv (K:=K) rfl (pd u hr (va 1 (v1 2)))) (λ_ _ _ _=>(pgc 0)) (λ_ _ _ _=>xbo) (λ_ _ _ _=>(xa2 (va 0 (pc (xau (xfr (K:=K) rfl) rfl T.kZ zM (pc (xre hu (pv 1) (pv 0) (xcd pN) ⟨rfl,rfl,rfl,rfl⟩) pN zsc)) pN zsc))))) pN xbt)) rfl)
   (zpn (xdv (pv 0) (xau (xco rfl) rfl T.kW zL (pc (xbh ["c"] [none] rfl (by kernel_rfl) (xbv (K:=K) rfl (pd m hr (va 1 (v1 2)))) (λ_ _ _ _=>(pgc 0)) (λ_ _ _ _=>xbo) (λ_ _ _ _=>(xa2 (va 0 (pc (xcd pN) pN xib))))) pN xbt)) rfl)
   (zpn (xdv (pv 0) (xcd pN) rfl)
   (zpo (xdv (pv 0) pI rfl)))))))),xab λR1 d7=>?_⟩
 refine(xan _ rfl _ rfl x _ _ (xbd _ rfl hx cl (no _ (by simp)) (by decide) (d7 _ _ (xab λR2 d6=>?_))));refine(xan _ rfl _ rfl x _ _ (xbd _ rfl ups cl (no _ (by simp)) (zT (xav _ _ _) (by decide)) (d6 _ _ (xab λR3 d5=>?_))));rw[xia];obtain⟨f2,b9⟩:∃f2,f2=putF (Str.ofString "name") (.str h) (putF (Str.ofString "make") mv []):=⟨_,rfl⟩;have l2:f2.length<=2:=by rw[b9];exact zY (xav _ _ _) (zI (xav _ _ _))
 rw[<- b9];obtain⟨H2,ai⟩:∃H2,H2=upd H x (.ins (ad K "Lone") dx f2):=⟨_,rfl⟩;rw[<- ai];have b2:SameBut x H H2:=by rw[ai];exact SameBut.upd _ _ _
 have a4:H2 x=some (.ins (ad K "Lone") dx f2):=by rw[ai];exact ups
 clear ai;have cp:=md.tups (xcf b2 hx) _
 have hA:sv=.non->row=0/\bx=begL g hd:=λz=>by
  rcases bu with⟨_,e2,e3⟩ |⟨M,p0,e1,_⟩
  ·exact⟨e2,e3⟩
  ·rw[e1]at z;cases z
 have hB:sv≠.non->∃M p0,sv=.ref M/\StAt H2 M p0 row bx/\bx.length<=100:=λz=>by
  rcases bu with⟨e1,_⟩ |⟨M,p0,e1,bl,b1⟩
  ·exact absurd e1 z
  ·refine(xaw M p0 e1 (bl.keep (xcf b2 hx) (λo e=>b2 p0 o e λz=>?_)) b1)
   obtain⟨_,kv',h',_⟩:=bl;rw[z,hx]at h';cases h'
 apply xvu (λsa H3=>∃p,Same H2 H3/\H2 p=none/\StAt H3 sa p row bx)
 ·intro bq
  refine(xa5 _ rfl rfl _ rfl (ite2 (λc1=>?_) (λc1=>?_)))
  ·exact(xan _ rfl _ rfl mv h g (xbm hd rfl cp ac hf (λsa p H3 s3 O a0=>bq sa H3 (jEAA p s3 O (by rw[(hA (z0 c1)).1,(hA (z0 c1)).2];exact a0)))))
  ·obtain⟨M,p0,e1,cg,b1⟩:=hB λz=>c1 (zDT z)
   exact(xaz _ rfl M p0 row bx (jAAA (congrArg (λv=>[v]) e1) cg b1 (λsa p H3 s3 O a0=>bq sa H3 (jEAA p s3 O a0))))
 rintro sa H3 ⟨p,s3,O,a0⟩;refine(xaa _ rfl x _ _ _ rfl (s3 _ _ a4) cl (no _ (by simp)) ⟨by omega,d5 _ _ (xab λR4 d4=>?_)⟩);obtain⟨f3,b7⟩:∃f3,f3=putF (Str.ofString "now") (.ref sa) f2:=⟨_,rfl⟩;have l3:f3.length<=3:=by rw[b7];exact zY (xav _ _ _) (zI l2)
 rw[<- b7];obtain⟨H4,ah⟩:∃H4,H4=upd H3 x (.ins (ad K "Lone") dx f3):=⟨_,rfl⟩;rw[<- ah];have bg:SameBut x H3 H4:=by rw[ah];exact SameBut.upd _ _ _
 have a3:H4 x=some (.ins (ad K "Lone") dx f3):=by rw[ah];exact ups
 clear ah;have b4:SameBut x H H4:=(b2.trans s3.but).trans bg
 have cf:StAt H4 sa p row bx:=a0.keep (xcf bg (s3 _ _ a4)) λo e=>bg p o e λz=>by
  obtain⟨_,kv',h',_⟩:=a0;rw[z,s3 _ _ a4]at h';cases h'
 have bv:p≠x:=λz=>by rw[z,a4]at O;cases O
 have cv:H p=none:=xdp b2 a4 O;have co:=md.tups (xcf b4 hx) _;have d0:d≠x:=λz=>by rw[z,hx]at az;cases az
 have bz:LsAt H4 kvs cs L:=cw.keep (xcf b4 hx) λa _ us e=>b4 a _ e λz=>by rw[z,hx]at e;cases e
 refine(xbq _ rfl _ rfl mv h g rfl co h6 (λbd c6=>?_));have a1:=zA c6 (.lst ((chTo g h).map V.str));obtain⟨H5,bb⟩:∃H5,H5=upd H4 bd (.lst ((chTo g h).map V.str)):=⟨_,rfl⟩;have am:H5 bd=some (.lst ((chTo g h).map V.str)):=by rw[bb];exact ups
 rw[<- bb]at a1⊢;clear bb;have dc:(chTo g h).length<=6:=xs2 h6;have ml:((chTo g h).map V.str).length=(chTo g h).length:=zLM _;refine(jEAA bd rfl ⟨_,zC am⟩ ?_);refine xd3 (xs:=(chTo g h).map V.str) (λi ys U=>Same H5 U/\∃G L2,PairsV U ys G/\LsAt U G ((comL g h cs).take i) L2/\L2.Nodup/\∀a∈L2,H5 a=none) (jAEE (Same.refl _) ([]) ([]) (jAAA trivial (by rw[List.take_zero];trivial) List.nodup_nil (λ_ h=>nomatch h))) (xa3 (by omega)) (λi ys U _ p=>zC (p.1 _ _ am)) ?_ ?_
 ·rintro i y ys U hy hi af ⟨sm,G,L2,a6,a8,ar,b3⟩
  rw[zGM]at hy;obtain⟨c,hc,rfl⟩:=zMS hy;have bn:=a1.trans sm;have bp:=LsAt.val (c:=c) (bz.same bn);have c4:U d=some (.dK kvs):=bn _ _ (b4 d _ az d0);refine⟨ext1 rfl,xdn ?_⟩;refine(jEA _ rfl (xcp _ rfl d rfl (.inl ⟨kvs,.inl c4⟩) _ rfl ⟨(by walk_at"s"),λe0 cz=>?_⟩));have se:=zA cz (.lst []);have gd:=DGet.rd (H:=upd U e0 (.lst [])) (k:=Sum.inr c) (.inl (se _ _ c4))
  obtain⟨la,us,gv,cx,cr⟩:∃la us,(valV kvs (Sum.inr c)).getD (.ref e0)=.ref la/\upd U e0 (.lst []) la=some (.lst us)/\RelDs (upd U e0 (.lst [])) us ((getL cs c).getD []):=by
   cases hg:getL cs c with
   |none=>
    rw[bp.1 hg];exact(xaw e0 ([]) rfl ups rfl)
   |some ds=>
    obtain⟨la,us,h1,h2,h3⟩:=bp.2 ds hg;rw[h1];exact(xaw la us rfl (se _ _ h2) (h3.same se _))
  refine(jEA _ gd ?_);rw[gv];refine(xaw la us rfl (.inl (zC cx)) (λl hl=>⟨(by walk_at"s"),λt ht=>nxtG hi af ?_⟩));have sl:=zA hl (.lst us);have st:=zA ht (.tup [.str c,.ref l]);have sA:=se.trans (sl.trans st);have c2:=xae se hl;refine(jAEE (sm.trans sA) (G++[(Sum.inr c,.ref l)]) (L2++[l]) (jAAA ((a6.same (Same.tups sA)).append ⟨(jEA t rfl ups),trivial⟩) ?_ ?_ ?_))
  ·have e:(comL g h cs)[i]?=some (c,(getL cs c).getD []):=by unfold comL;rw[zGM,hc];rfl
   rw[zTA,e];exact(a8.same sA).snoc (c:=c) (a:=l) (us:=us) (st _ _ ups) (cr.same (sl.trans st) _)
  ·refine List.nodup_append.mpr (jAA ar (by simp) (λz hz y hy e=>?_))
   rw[zMO hy]at e;obtain⟨zs,a2⟩:=a8.there z hz;rw[e,c2]at a2;cases a2
  ·intro z hz
   rcases zMA hz with hz |hz
   ·exact b3 z hz
   ·rw[zMO hz]
    exact xae sm c2
 rintro ys H6 af ⟨sm,kc,Lc,a6,aw,cj,d9⟩ D hD;have de:(comL g h cs).length=(chTo g h).length:=by unfold comL;rw[zLM]
 rw[ml,zTL (by omega)]at aw;refine(xcm D ys kc rfl ups (a6.same (Same.tups (zA hD _))) (λca c9=>?_));obtain⟨H7,cd,d1,s7,c8,c0⟩:=xnn hD aw c9;rw[xdo (by rw[aw.keys];exact xkq (by rw[xfp];exact xqx ac.cnd h)),<- cd];clear cd;have aq:=a1.trans (sm.trans s7);have cc:∀a∈Lc,H4 a=none:=λa ha=>xae a1 (d9 a ha);have b0:H4 ca=none:=xae (a1.trans sm) d1;refine(xaa _ rfl x _ _ _ rfl (aq _ _ a3) cl (no _ (by simp)) ⟨by omega,d4 _ _ (xab λR5 d3=>?_)⟩);obtain⟨f4,b6⟩:∃f4,f4=putF (Str.ofString "coming") (.ref ca) f3:=⟨_,rfl⟩;have l4:f4.length<=4:=by rw[b6];exact zY (xav _ _ _) (zI l3)
 rw[<- b6];obtain⟨H8,ag⟩:∃H8,H8=upd H7 x (.ins (ad K "Lone") dx f4):=⟨_,rfl⟩;rw[<- ag];have be:SameBut x H7 H8:=by rw[ag];exact SameBut.upd _ _ _
 have ae:H8 x=some (.ins (ad K "Lone") dx f4):=by rw[ag];exact ups
 clear ag;have br:=aq _ _ a3;have bf:SameBut x H4 H8:=aq.but.trans be;have b8:SameBut x H H8:=b4.trans bf;have bj:=xcf be br
 have bo:∀b o,H7 b=some o->(∀C dx fs,o≠.ins C dx fs)->H8 b=some o:=λb o e n'=>be b o e λz=>by
  rw[z,br]at e;exact n' _ _ _ (z8 e).symm
 have ak:LsAt H8 kc (comL g h cs) Lc:=c0.keep bj λa _ us e=>bo a _ e λ_ _ _ z=>by cases z
 have c7:=bo _ _ c8 λ_ _ _ z=>by cases z
 have cm:=md.tups (xcf b8 hx) _;refine(xbq _ rfl _ rfl mv h g rfl cm h6 (λbc c5=>?_));have ab:=zA c5 (.lst ((xd4 g h).map V.str));obtain⟨H9,ba⟩:∃H9,H9=upd H8 bc (.lst ((xd4 g h).map V.str)):=⟨_,rfl⟩;have al:H9 bc=some (.lst ((xd4 g h).map V.str)):=by rw[ba];exact ups
 rw[<- ba]at ab⊢;clear ba;have db:(xd4 g h).length<=6:=xs2 h6;have ck:((xd4 g h).map V.str).length=(xd4 g h).length:=zLM _;refine(jEAA bc rfl ⟨_,zC al⟩ ?_);refine xd3 (xs:=(xd4 g h).map V.str) (λi ys U=>Same H9 U/\∃G L2,PairsV U ys G/\LsAt U G ((goiL g h).take i) L2/\L2.Nodup/\∀a∈L2,H9 a=none) (jAEE (Same.refl _) ([]) ([]) (jAAA trivial (by rw[List.take_zero];trivial) List.nodup_nil (λ_ h=>nomatch h))) (xa3 (by omega)) (λi ys U _ p=>zC (p.1 _ _ al)) ?_ ?_
 ·rintro i y ys U hy hi af ⟨sm,G,L2,a6,a8,ar,b3⟩
  rw[zGM]at hy;obtain⟨c,hc,rfl⟩:=zMS hy;refine⟨ext1 rfl,xdn ?_⟩;refine(jEAA _ rfl (by walk_at"s") (λl hl=>⟨(by walk_at"s"),λt ht=>nxtG hi af ?_⟩));have sl:=zA hl (.lst []);have st:=zA ht (.tup [.str c,.ref l]);have sA:=sl.trans st;refine(jAEE (sm.trans sA) (G++[(Sum.inr c,.ref l)]) (L2++[l]) (jAAA ((a6.same (Same.tups sA)).append ⟨(jEA t rfl ups),trivial⟩) ?_ ?_ ?_))
  ·have e:(goiL g h)[i]?=some (c,[]):=by unfold goiL;rw[zGM,hc];rfl
   rw[zTA,e];exact(a8.same sA).snoc (c:=c) (a:=l) (us:=[]) (ds:=[]) (st _ _ ups) rfl
  ·refine List.nodup_append.mpr (jAA ar (by simp) (λz hz y hy e=>?_))
   rw[zMO hy]at e;obtain⟨zs,a2⟩:=a8.there z hz;rw[e,hl]at a2;cases a2
  ·intro z hz
   rcases zMA hz with hz |hz
   ·exact b3 z hz
   ·rw[zMO hz]
    exact xae sm hl
 rintro ys dg da ⟨bm,kg,Lg,bw,av,ci,d8⟩ D2 cb;have dd:(goiL g h).length=(xd4 g h).length:=by unfold goiL;rw[zLM]
 rw[ck,zTL (by omega)]at av;refine(xcm D2 ys kg rfl ups (bw.same (Same.tups (zA cb _))) (λga c3=>?_));obtain⟨aa,ao,cy,ch,ay,a7⟩:=xnn cb av c3;rw[xdo (by rw[av.keys];exact xkq (by rw[xg8];exact xky ac.cnd h)),<- ao];clear ao;have r:=ab.trans (bm.trans ch);have an:∀a∈Lg,H8 a=none:=λa ha=>xae ab (d8 a ha);have ax:H8 ga=none:=xae (ab.trans bm) cy;refine(xaa _ rfl x _ _ _ rfl (r _ _ ae) cl (no _ (by simp)) ⟨by omega,d3 _ _ (xab λR6 d2=>?_)⟩);obtain⟨f5,b5⟩:∃f5,f5=putF (Str.ofString "going") (.ref ga) f4:=⟨_,rfl⟩;have l5:f5.length<=5:=by rw[b5];exact zY (xav _ _ _) (zI l4)
 rw[<- b5];refine⟨(by walk_at"s"),λta a5=>(xaa _ rfl x _ _ _ rfl (zA a5 _ _ _ ups) cl (no _ (by simp)) ⟨by omega,d2 _ _ ?_⟩)⟩;refine(xaa _ rfl x _ _ _ rfl ups cl (no _ (by simp)) ⟨zT (xav _ _ _) (by omega),?_⟩);rw[xia];have bt:ta≠x:=λz=>by rw[z,ups]at a5;cases a5
 have j:aa ta=none:=by rw[xak bt]at a5;exact a5
 have aj:=r _ _ ae;obtain⟨HZ,a9⟩:∃HZ,HZ=upd (upd (upd aa x (.ins (ad K "Lone") dx f5)) ta (.lst [])) x (.ins (ad K "Lone") dx (putF (Str.ofString "many") (.int 0) (putF (Str.ofString "tellings") (.ref ta) f5))):=⟨_,rfl⟩;rw[<- a9];have cq:HZ x=some (.ins (ad K "Lone") dx (putF (Str.ofString "many") (.int 0) (putF (Str.ofString "tellings") (.ref ta) f5))):=by rw[a9];exact ups
 have cu:HZ ta=some (.lst []):=by rw[a9,xak bt,ups]
 have bh:∀b o,aa b=some o->b≠x->HZ b=some o:=λb o e n'=>by
  rw[a9,xak n',xak (neN e j),xak n'];exact e
 clear a9;have bZ:SameBut x H8 HZ:=λb o e n'=>bh b o (r b o e) n';have bi:=xcf (show SameBut x aa HZ from bh) aj
 have Z:∀b o,aa b=some o->(∀C dx fs,o≠.ins C dx fs)->HZ b=some o:=λb o e n'=>bh b o e λz=>by
  rw[z,aj]at e;exact n' _ _ _ (z8 e).symm
 have ce:=cf.keep (xcf bf a3) λo e=>bf p o e bv;have HH:SameBut x H HZ:=b8.trans bZ;have au:∀{b},H8 b=none->H b=none:=λe=>xdp b8 ae e;have Y:∀a∈Lc,∃us,H8 a=some (.lst us):=ak.there;refine q ⟨dx,sa,p,ca,ga,ta,Lc,Lg⟩ HZ HH (λb hb=>?_) ⟨(jEA _ cq ?_),?_,(jEA kc ?_ ?_),(jEA kg ?_ ?_),(jEA ([]) cu rfl),?_⟩
 ·simp only[LnA.F,List.mem_cons,List.mem_append]at hb
  rcases hb with h |h |h |h |h |h |h
  ·exact .inl h
  ·exact .inr (by rw[h];exact cv)
  ·exact .inr (by rw[h];exact xdp b4 a3 b0)
  ·exact .inr (by rw[h];exact au ax)
  ·exact .inr (by rw[h];exact au (xae r j))
  ·exact .inr (xdp b4 a3 (cc b h))
  ·exact .inr (au (an b h))
 ·rw[b5,b6,b7,b9]
  exact Lf.init
 ·exact ce.keep (xcf bZ ae) λo e=>bZ p o e bv
 ·exact Z _ _ (r _ _ c7) λ_ _ _ z=>by cases z
 ·exact(ak.same r).keep bi λa _ us e=>Z a _ e λ_ _ _ z=>by cases z
 ·exact Z _ _ ay λ_ _ _ z=>by cases z
 ·exact a7.keep bi λa _ us e=>Z a _ e λ_ _ _ z=>by cases z
 ·refine List.nodup_cons.mpr ⟨λhm=>?_,List.nodup_append.mpr (jAA cj ci (λy hy z hz e=>?_))⟩
  ·rcases zMA hm with hm |hm
   ·obtain⟨us,e⟩:=Y ta hm
    rw[r _ _ e]at j;cases j
   ·obtain⟨us,e⟩:=a7.there ta hm
    rw[e]at j;cases j
  ·obtain⟨us,e1⟩:=Y y hy
   rw[e,an z hz]at e1;cases e1
theorem xlw{a h:Hp}{C x dx:Addr}(f:a x=none)(c:a dx=none)(s:SameBut x (upd (upd a dx (.own x)) x (.ins C dx [])) h):Same a h/\∀b,(b=x\/upd (upd a dx (.own x)) x (.ins C dx []) b=none)->a b=none:=by
 refine⟨λb o e=>s b o ?_ (neN e f),λb g=>?_⟩
 ·rw[xak (neN e f),xak (neN e c)]
  exact e
 ·rcases g with rfl |g
  ·exact f
  ·cases e:a b with
   |none=>rfl
   |some o=>
    rw[xak (neN e f),xak (neN e c),e]at g;cases g
def xfe(K:Fg):Sp:=λvs H Q _=>∃(mv:V) (a:HsA) (s:HSt) (mk:Mak) (N:Nat),vs=[mv,.ref a.sd,.ref a.bd,.ref a.td,.ref a.cd]/\HsIn H mk a s/\RelD H mv mk.d/\MakOk mk/\mk.hands≠[]/\HOk mk s N/\∀x a' H',Same H H'->(∀b,a'.F mk x b->H b=none)->HsHere K H' x mv a' s mk N->Q (.ref x) H'
theorem xlu(T:Tx K mg)(I:MethIs P w K mg base n (ad K "Plain") "__init__" qai [[]] (xgr K))(J:DefIs P w K mg base (n+1) "own_stand" ["stand"] xgs)(m:DefIs P w K mg base (n+1) "own_lists" ["lists"] xif):DefIs P w K mg base (n+2) "plain_at" qaw (xfe K):=by
 refine DefIs.of T.jW sc_plain_at (by walk_at"l") (λf cc A outer s H vs Q E hr h=>?_);obtain⟨mv,a,st,l,N,rfl,i,md,M,bi,ok,q⟩:=h;have nd:=sc_plain_at.nd;have hu:=xd2 hr;have cl:=T.uE.cl;have no:=T.uE.no;have h4:=M.hfew;have h6:=M.cfew;have a7:(hn l).Nodup:=M.hnd;have b2:(cn l).Nodup:=M.cnd;have c9:(hn l).length<=4:=by rw[zLM];exact h4
 have cb:(cn l).length<=6:=by rw[zLM];exact h6
 refine⟨_,(zpn (psn 5 nd (xgx (ds:=[]) (dvs:=[]) I T.uE hr T.uD (by simp) .nil (v1 0)))
   (zpn (xbp (xit (xbz (pv 5) rfl) (xau (xco rfl) rfl T.kW zL (pc (xpe (xbh ["h","each"] [none,none] rfl (by kernel_rfl) (xm3 (pv 1)) (λ_ _ _ _=>(xbc (K:=K) (n:=2) rfl rfl (xad (pgc 0) (xad (pgc 1) xbb)))) (λ_ _ _ _=>xbo) (λ_ _ _ _=>(xa2 (va 0 (pc (pd J hr (v1 1)) pN zsc)))))) pN xbt)) ⟨rfl,rfl,rfl,rfl⟩))
   (zpn (xbp (xit (xbz (pv 5) rfl) (pd m hr (v1 2)) ⟨rfl,rfl,rfl,rfl⟩))
   (zpn (xbp (xit (xbz (pv 5) rfl) (pd m hr (v1 3)) ⟨rfl,rfl,rfl,rfl⟩))
   (zpn (xbp (xit (xbz (pv 5) rfl) (pv 4) ⟨rfl,rfl,rfl,rfl⟩))
   (zpo (xaf (pv 5)))))))),xab λR1 bq=>?_⟩
 refine(jEA _ rfl (λx dx hx ai ne=>?_));refine(xah x dx mv l rfl ups (md.same (show Same H _ from(zA ai _).trans (zA (by rw[xak (Ne.symm ne)];exact hx) _)) _) M (λC Y am az aq=>⟨rfl,bq _ _ (xab λR2 bp=>?_)⟩));obtain⟨s1,an⟩:=xlw hx ai am;have fF:∀b,C.F l x b->H b=none:=λb hb=>an b (az b hb);clear am az an hx ai ne;have l1:=aq.at_;have c8:=aq.ok;obtain⟨fs,bg,lf⟩:=l1.ob;have i1:=l1.inn;have b1:=i1.bt_ne bi;have bv:H C.sd=none:=fF _ (.inr (.inl rfl));have c4:H C.bd=none:=fF _ (.inr (.inr (.inl rfl)));have br:H C.td=none:=fF _ (.inr (.inr (.inr (.inl rfl))));have b0:H C.cd=none:=fF _ (.inr (.inr (.inr (.inr (.inl rfl)))));obtain⟨d,ed⟩:∃d,d=a.sd:=⟨_,rfl⟩;have ab:Y d=some (.dK (mapK (hn l) λz=>.ref (a.sa z))):=by rw[ed];exact s1 _ _ i.hsd
 refine(xaz _ rfl x _ _ fs (xbd _ rfl bg cl (no _ (by simp)) lf.st (jEAA C.sd rfl (.inl ⟨_,.inl i1.hsd⟩) ?_)));refine(xar _ rfl d _ (by rw[ed]) ab (λo nz=>?_));obtain⟨O,ak⟩:∃O,O=mapK (hn l) λz=>.ref (a.sa z):=⟨_,rfl⟩;rw[<- ak]at ab⊢;have aa:∀{G:Hp},Same (upd Y d (.frz o (.dK O))) G->∀b u,Y b=some u->b≠d->G b=some u:=λs b u e n=>s b u (by rw[xak n];exact e);have b3:∀{G:Hp},Same (upd Y d (.frz o (.dK O))) G->∀b vs,Y b=some (.tup vs)->G b=some (.tup vs):=λs b vs e=>aa s b _ e λz=>by subst z;rw[ab]at e;cases e
 have c0:∀{G:Hp},Same (upd Y d (.frz o (.dK O))) G->∀{b:Addr},G b=none->Y b=none:=λ{G} s {b} e=>by
  cases h:Y b with
  |none=>rfl
  |some u=>
   by_cases hb:b=d
   ·rw[hb,s _ _ ups]at e;cases e
   ·rw[aa s b u h hb]at e;cases e
 have bb:O.length=(hn l).length:=by rw[ak,xce]
 refine xh5 (λi ys G=>Same (upd Y d (.frz o (.dK O))) G/\∃sa pa,NewSt (upd Y d (.frz o (.dK O))) G (hn l) i ys st sa pa) (jAEE (Same.refl _) (λ_=>0) (λ_=>0) ⟨by rw[List.take_zero];trivial,λz hz=>by rw[List.take_zero]at hz;cases hz⟩) (xa3 (by omega)) (λi ys G _ p=>p.1 _ _ ups) ?_ ?_
 ·rintro j kv p ys G a9 hi au hp ⟨sm,sa,pa,ns⟩
  rw[ak]at a9;unfold mapK at a9;rw[zGM]at a9;obtain⟨z,hz,rfl⟩:=zMS a9;have ah:=zMG hz;have sp:=zA hp (.tup [kV (Sum.inr z),.ref (a.sa z)]);obtain⟨ca,av,ez⟩:=zMP ah;refine(xay p _ rfl (zB ups) rfl _ _ rfl _ (xb8 _ rfl rfl (ext2 rfl rfl) (xdn ?_)));have b5:StAt (upd G p (.tup [kV (Sum.inr z),.ref (a.sa z)])) (a.sa z) (a.pa z) (st.sd z).1 (st.sd z).2:=(((i.sta z ah).same s1).keep (b3 sm) λo e=>aa sm _ _ e (by rw[ed];exact(i.np z ah).1)).same sp;refine(xan _ rfl _ rfl (a.sa z) (a.pa z) _ (xb8 _ rfl b5 (by rw[<- ez];have:=ok.bxlen M av;omega) (λb7 p' H2 s2 bh b6=>⟨(by walk_at"s"),λt ht=>nxtG hi au ?_⟩)));exact(jAEE (sm.trans (sp.trans (s2.trans (zA ht _)))) (upF sa z b7) (upF pa z p') (ns.snoc sm (sp.trans s2) a7 hz (xae sp bh) b6 ht))
 rintro ys G au ⟨sm,sa,pa,ns⟩ D hD;obtain⟨ae,al⟩:=ns;rw[bb,zTL (zZ _)]at ae al;have sD:=zA hD (.lst ys);refine(xbn d o O (sD _ _ (sm _ _ ups)) nz ?_);have ay:D≠d:=λz=>by rw[z,sm _ _ ups]at hD;cases hD
 have ac:∀b vs,G b=some (.tup vs)->upd (upd G D (.lst ys)) d (.dK O) b=some (.tup vs):=λb vs e=>by
  rw[xak (λz=>by rw[z,sm _ _ ups]at e;cases e)];exact sD _ _ e
 refine(xcm D ys _ rfl (by rw[xak ay,ups]) (ae.same ac) (λc hc=>?_));rw[xdo (xg4 a7)];have sc:=zA hc (.dK (mapK (hn l) λz=>.ref (sa z)));have bj:c≠d:=λz=>by rw[z,ups]at hc;cases hc
 have bl:c≠D:=λz=>by rw[z,xak ay,ups]at hc;cases hc
 have all:∀b u,G b=some u->b≠d->upd (upd (upd G D (.lst ys)) d (.dK O)) c (.dK (mapK (hn l) λz=>.ref (sa z))) b=some u:=λb u e n=>sc _ _ (by rw[xak n];exact sD _ _ e)
 have a4:Same Y (upd (upd (upd G D (.lst ys)) d (.dK O)) c (.dK (mapK (hn l) λz=>.ref (sa z)))):=λb u e=>by
  by_cases hb:b=d
  ·subst hb
   rw[ab]at e;cases e;exact sc _ _ ups
  ·exact all b u (aa sm b u e hb) hb
 have c1:Y c=none:=c0 sm (by rw[xak bj,xak bl]at hc;exact hc)
 have Z:∀z∈hn l,StAt (upd (upd (upd G D (.lst ys)) d (.dK O)) c (.dK (mapK (hn l) λz=>.ref (sa z)))) (sa z) (pa z) (st.sd z).1 (st.sd z).2/\Y (pa z)=none:=λz hz=>by
  obtain⟨g1,g2⟩:=al z hz;have ar:pa z≠d:=λe=>by rw[e,ups]at g2;cases g2
  exact⟨g1.keep (λb vs e=>sc _ _ (ac b vs e)) λo e=>all _ _ e ar,by rw[xak ar]at g2;exact g2⟩
 have aj:upd (upd (upd G D (.lst ys)) d (.dK O)) c (.dK (mapK (hn l) λz=>.ref (sa z))) c=some (.dK (mapK (hn l) λz=>.ref (sa z))):=ups;generalize upd (upd (upd G D (.lst ys)) d (.dK O)) c (.dK (mapK (hn l) λz=>.ref (sa z)))=H2 at a4 Z aj⊢;clear all ac sD sm al ae hD hc sc;have la:=l1.same a4;refine(xch c _ _ rfl la.inn.hsd aj (λe=>(by rw[<- e,i1.hsd]at c1;cases c1)) (fits (by rw[xce,xce];omega)) (bp _ _ (xab λR3 bo=>?_)));rw[xev]
 have a5:∀z∈hn l,pa z≠C.sd/\pa z≠C.bd/\pa z≠C.td/\pa z≠C.cd:=λz hz=>by
  have g:=(Z z hz).2;exact(jAAA (λe=>(by rw[e,i1.hsd]at g;cases g)) (λe=>(by rw[e,i1.hbd]at g;cases g)) (λe=>(by rw[e,i1.htd]at g;cases g)) (λe=>(by rw[e,i1.hcd]at g;cases g)))
 have lb:=la.setS (λz hz=>(Z z hz).1) λz hz=>⟨(a5 z hz).1,(a5 z hz).2.2.2⟩;have s2:Same H (upd H2 C.sd (.dK (mapK (hn l) λz=>.ref (sa z)))):=Same.wr (s1.trans a4) bv;have c2:∀z∈hn l,H (pa z)=none:=λz hz=>xae s1 (Z z hz).2;generalize upd H2 C.sd (.dK (mapK (hn l) λz=>.ref (sa z)))=H3 at lb s2⊢;clear la Z aj a4 c1;obtain⟨bz,bf,ba⟩:=lb.ob;refine(xaz _ rfl x _ _ bz (xbd _ rfl bf cl (no _ (by simp)) ba.bt (jEAA C.bd rfl (.inl ⟨_,.inl lb.inn.hbd⟩) ?_)));have c5:((cn l).map λz=>(z,st.bt z)).map (·.1)=cn l:=by rw[List.map_map];exact(zP (g:=id) λ_ _=>rfl).trans (List.map_id _)
 have b4:((hn l).map λz=>(z,st.tl z)).map (·.1)=hn l:=by rw[List.map_map];exact(zP (g:=id) λ_ _=>rfl).trans (List.map_id _)
 refine(xaa _ rfl a.bd _ _ _ rfl (s2 _ _ i.hbd) (lsK λz hz=>(by obtain⟨us,e,r⟩:=i.let_ z hz;exact(jEA us (s2 _ _ e) (r.same s2 _)))) (by rw[c5];exact b2) ⟨by rw[zLM];omega,λd' c7 L' H4 s4 ax U a0 a3 a2=>?_⟩);obtain⟨la,rfl,a8,inj⟩:=xl2 b2 (List.nodup_cons.mp a0).2 a2;have ag:=lb.same s4;refine(xch d' _ _ rfl ag.inn.hbd a3 (λe=>(by have:=lb.inn.hbd;rw[show({C with sa:=sa,pa:=pa}:HsA).bd=d' from e,ax]at this;cases this)) (fits (by rw[xce,xce];omega)) (bo _ _ (xab λR4 bn=>?_)));rw[xev]
 have lc:=ag.setB (λz hz=>(a5 z hz).2.1) (λz hz=>(a8 z hz).2) inj (λz hz y hy e=>by
  obtain⟨us,e2,_⟩:=lb.inn.tel y hy;rw[<- e,U _ (a8 z hz).1]at e2;cases e2) b1
 have s3:Same H (upd H4 C.bd (.dK (mapK (cn l) λz=>.ref (la z)))):=Same.wr (s2.trans s4) c4;have c3:∀z∈cn l,H (la z)=none:=λz hz=>xae s2 (U _ (a8 z hz).1);change HsAt (upd H4 C.bd _) _ _ _ _ _ _ at lc;generalize upd H4 C.bd (.dK (mapK (cn l) λz=>.ref (la z)))=H5 at lc s3⊢;clear ag a2 a3 U a0 a8 s4 ax;obtain⟨bx,be,b9⟩:=lc.ob;refine(xaz _ rfl x _ _ bx (xbd _ rfl be cl (no _ (by simp)) b9.tl (jEAA C.td rfl (.inl ⟨_,.inl lc.inn.htd⟩) ?_)));refine(xaa _ rfl a.td _ _ _ rfl (s3 _ _ i.htd) (lsK λz hz=>(by obtain⟨us,e,r⟩:=i.tel z hz;exact(jEA us (s3 _ _ e) (r.same s3 _)))) (by rw[b4];exact a7) ⟨by rw[zLM];omega,λd6 c6 L6 H6 s6 aw U a0 a3 a2=>?_⟩);obtain⟨ta,rfl,a6,ao⟩:=xl2 a7 (List.nodup_cons.mp a0).2 a2;have af:=lc.same s6;refine(xch d6 _ _ rfl af.inn.htd a3 (λe=>(by have:=lc.inn.htd;rw[show({C with sa:=sa,pa:=pa,la:=la}:HsA).td=d6 from e,aw]at this;cases this)) (fits (by rw[xce,xce];omega)) (bn _ _ (xab λR5 bm=>?_)));rw[xev]
 have le:=af.setT (λz hz=>(a5 z hz).2.2.1) (λz hz=>(a6 z hz).2) ao (λz hz y hy e=>by
  obtain⟨us,e2,_⟩:=lc.inn.let_ z hz;rw[e,U _ (a6 y hy).1]at e2;cases e2) b1
 have s5:Same H (upd H6 C.td (.dK (mapK (hn l) λz=>.ref (ta z)))):=Same.wr (s3.trans s6) br;have bu:∀z∈hn l,H (ta z)=none:=λz hz=>xae s3 (U _ (a6 z hz).1);change HsAt (upd H6 C.td _) _ _ _ _ _ _ at le;generalize upd H6 C.td (.dK (mapK (hn l) λz=>.ref (ta z)))=H7 at le s5⊢;clear af a2 a3 U a0 a6 s6 aw;obtain⟨bw,bc,b8⟩:=le.ob;refine(xaz _ rfl x _ _ bw (xbd _ rfl bc cl (no _ (by simp)) b8.ct (jEAA C.cd rfl (.inl ⟨_,.inl le.inn.hcd⟩) ?_)));refine(jEA _ rfl (xch a.cd _ _ rfl le.inn.hcd (s5 _ _ i.hcd) (λe=>(by have:=i.hcd;rw[<- show C.cd=a.cd from e,b0]at this;cases this)) (fits (by rw[xce,xce];omega)) (bm _ _ ?_)));rw[xev];have lz:=le.setC st.ct;have s7:Same H (upd H7 C.cd (.dK (mapK (hn l) λz=>.int (st.ct z:Nat)))):=Same.wr s5 b0;change HsAt (upd H7 C.cd _) _ _ _ _ _ _ at lz;generalize upd H7 C.cd (.dK (mapK (hn l) λz=>.int (st.ct z:Nat)))=H8 at lz s7⊢;refine(jEA _ rfl (q x {C with sa:=sa,pa:=pa,la:=la,ta:=ta} H8 s7 (λb hb=>?_) ⟨lz,md.same s7 _,M,ok⟩));rcases hb with h |h |h |h |h |⟨z,hz,h⟩ |⟨z,hz,h |h⟩
 ·exact fF b (.inl h)
 ·exact fF b (.inr (.inl h))
 ·exact fF b (.inr (.inr (.inl h)))
 ·exact fF b (.inr (.inr (.inr (.inl h))))
 ·exact fF b (.inr (.inr (.inr (.inr (.inl h)))))
 ·rw[h];exact c3 z hz
 ·rw[h];exact bu z hz
 ·rw[h];exact c2 z hz
def xsi(K:Fg):Sp:=λvs H Q _=>∃(x:Addr) (mv:V) (a:HsA) (s:HSt) (mk:Mak) (N:Nat),vs=[.ref x,mv]/\HsHere K H x mv a s mk N/\∀p a' H',Same H H'->Pts H H' p (hn mk) (hn mk) (hn mk) (cn mk) a' s->Q (.ref p) H'
theorem xj4(T:Tx K mg)(r:DefIs P w K mg base n "_law_hands_of" qap xfg)(G:MethIs P w K mg base n (ad K "Plain") "stand" qab [[]] (xeo K))(M:MethIs P w K mg base n (ad K "Plain") "told" qab [[]] (xid K))(I:MethIs P w K mg base n (ad K "Plain") "count" qab [[]] (xf9 K))(u:MethIs P w K mg base n (ad K "Plain") "letters" qam [[]] (xgq K)):DefIs P w K mg base (n+1) "_law_parts_of" qag (xsi K):=by
 refine DefIs.of T.kN scl_parts_of (by walk_at"l") (λf b9 A outer s H vs Q E hr h=>?_);obtain⟨x,mv,a,st,J,N,rfl,hs,q⟩:=h;have nd:=scl_parts_of.nd;have hu:=xd2 hr;have h4:=hs.mok.hfew;have h6:=hs.mok.cfew;have ag:(hn J).Nodup:=hs.mok.hnd;have b3:(cn J).Nodup:=hs.mok.cnd;obtain⟨fs,hx,lf⟩:=hs.at_.ob
 refine⟨_,(zpn (psn 2 nd (xcd (pc xde (pc xde (pc xde (pc xde pN xdg) xdg) xdg) xdg)))
   (zpn (xb5 zF rfl (xbv (K:=K) rfl (pd r hr (v1 1))) (pgn 3 nd)
   (zpn (xc9 hu (pxl K (pv 2) pI) (pv 3) (xbs G T.uE.cl hr (pv 0) (v1 3)) rfl)
   (zpn (xc9 hu (pxl K (pv 2) pI) (pv 3) (xbs M T.uE.cl hr (pv 0) (v1 3)) rfl)
   (zpo (xc9 hu (pxl K (pv 2) pI) (pv 3) (xbs I T.uE.cl hr (pv 0) (v1 3)) rfl)))))
   (zpn (xb5 zF rfl (xas (K:=K) rfl (px K (pv 1) pI)) (pgn 4 nd)
   (zpo (xc9 hu (pxl K (pv 2) pI) (px K (pv 4) pI) (xbs u T.uE.cl hr (pv 0) (pc (px K (pv 4) pI) pN ss)) rfl)))
   (zpo (xaf (pv 2)))))),xab λR1 b2=>?_⟩
 intro d0 n0 d1 n1 d2 n2 d3 n3;refine⟨(by walk_at"s"),λp np=>b2 _ _ (xab λR2 b1=>?_)⟩;obtain⟨HF,ao,sF,pF⟩:=Pts.init n0 n1 n2 n3 np st;rw[<- ao];clear ao n0 n1 n2 n3 np;generalize ({dx:=0,sd:=d0,bd:=d1,td:=d2,cd:=d3,sa:=λ_=>0,pa:=λ_=>0,la:=λ_=>0,ta:=λ_=>0}:HsA)=a0 at pF;refine(xar _ rfl mv J rfl (hs.md.same sF _) ⟨h4,λl hl=>?_⟩);have sl:=zA hl (.lst ((hn J).map V.str));have b7:H l=none:=xae sF hl;refine(jEAA l rfl ⟨_,zC ups⟩ ?_);have au:((hn J).map V.str).length=(hn J).length:=zLM ..;have b6:(hn J).length<=4:=by rw[zLM];exact h4
 have b4:(cn J).length<=6:=by rw[zLM];exact h6
 have few:∀(ns:List Str) (i:Nat) (g:Str->V),ns.length<=6->(mapK (ns.take i) g).length<sizeLine:=λns i g h=>by
  rw[xce,List.length_take];exact xa3 (by omega)
 refine xea (xs:=(hn J).map V.str) (λi σ Z=>∃(a':HsA) (o3:Option V),σ=[some (.ref x),some mv,some (.ref p),o3,none]/\Same H Z/\Z l=some (.lst ((hn J).map V.str))/\Pts H Z p ((hn J).take i) ((hn J).take i) ((hn J).take i) [] a' st)
  (xb9 a0 none rfl (sF.trans sl) ups (by rw[List.take_zero];exact pF.same sl)) (λi σ Z _ p=>by obtain⟨_,_,_,_,e,_⟩:=p;exact zC e) ?_ ?_
 ·rintro i v σ Z hv ⟨a',o3,rfl,sm,a3,pt⟩
  rw[zGM]at hv;obtain⟨z,hz,rfl⟩:=zMS hv;have aa:=zMG hz;obtain⟨b8,aj,ez⟩:=zMP aa;refine xab λS1 az=>?_;refine(xa7 _ rfl x _ fs rfl (sm _ _ hx) (lf.no _ (by walk_at"k")) _ rfl (xal x mv z a st (xbm J rfl (hs.at_.same sm) aa (by rw[<- ez];have:=hs.ok.bxlen hs.mok aj;omega) (λb5 p' H1 s1 a1 ah=>?_))));have a9:=pt.same s1;have ne:∀{Z:Hp} {b c:Addr} {o:HO},Z b=some o->Z c=none->c≠b:=λe n z=>by rw[z,e]at n;cases n
  refine(xaa _ rfl p _ _ _ rfl rfl (zC a9.hp) (xam (j:=0) rfl) (xar _ rfl a'.sd _ rfl (DPut.k (k:=Sum.inr z) a9.hsd (few _ _ _ (by omega))) (az _ _ (a9.putS ag hz ah (xae sm a1) (jAAA (ne pt.hsd a1) (ne pt.hbd a1) (ne pt.htd a1) (ne pt.hcd a1)) λH2 a2 m k2=>xab λS2 ay=>?_))));rw[show((st.sd z).1,(st.sd z).2)=st.sd z from rfl,xf7]at m;have C:=xiq (sm.trans s1) pt.fr.2.1 k2;have ae:=k2 _ _ (s1 _ _ a3) λe=>by rw[e,pt.hsd]at a3;cases a3
  clear a9 pt ah s1 a1 sm a3 k2;refine(xa7 _ rfl x _ fs rfl (C _ _ hx) (lf.no _ (by walk_at"k")) _ rfl (xal x mv z a st (xb8 J rfl (hs.at_.same C) aa (λlt ut H3 s3 Y ac ab=>?_))));have U:=m.same s3;refine(xaa _ rfl p _ _ _ rfl rfl (zC U.hp) (xam (j:=2) rfl) (xar _ rfl a2.td _ rfl (DPut.k (k:=Sum.inr z) U.htd (few _ _ _ (by omega))) (ay _ _ (U.putT ag hz ac ab (xae C Y) (jAA (ne m.hp Y) (λy hy e=>(by obtain⟨us,e2,_⟩:=m.tel y hy;rw[e,Y]at e2;cases e2)) (λy hy=>nomatch hy)) λH4 a4 O k4=>?_))));rw[xf7]at O;have af:=xiq (C.trans s3) m.fr.2.2.2.1 k4;have a6:=k4 _ _ (s3 _ _ ae) λe=>by rw[e,m.htd]at ae;cases ae
  clear U m ac ab s3 Y C ae k4;refine(xa7 _ rfl x _ fs rfl (af _ _ hx) (lf.no _ (by walk_at"k")) _ rfl (xal x mv z a st (xb8 J rfl (hs.at_.same af) aa ?_)));refine(xaa _ rfl p _ _ _ rfl rfl (zC O.hp) (xam (j:=3) rfl) (xar _ rfl a4.cd _ rfl (DPut.k (k:=Sum.inr z) O.hcd (few _ _ _ (by omega))) (O.putC ag hz (st.ct z) λH5 a5 ai k5=>?_)));rw[xf7]at ai;exact(xb9 a5 _ rfl (xiq af O.fr.2.2.2.2 k5) (k5 _ _ a6 (λe=>by rw[e,O.hcd]at a6;cases a6)) ai)
 rintro σ Z ⟨a',o3,rfl,sm,a3,pt⟩;refine b1 _ _ (xab λR3 b0=>?_);rw[au,zTL (zZ _)]at pt;obtain⟨ma,kv,cv,hv,rfl,ar,_,ax,_⟩:=mk_d (hs.md.same sm _);obtain⟨ca,uc,rfl,am,an⟩:=ax;have av:=an.length;rw[zLM]at av;refine(xaa _ rfl ma _ _ _ rfl rfl (zB ar) rfl (jEAA ca rfl ⟨_,zB am⟩ ?_))
 refine xcz (xs:=uc) (λi σ H2=>∃(a2:HsA) (o4:Option V),σ=[some (.ref x),some (.ref ma),some (.ref p),o3,o4]/\Same H H2/\(∀b vs,Z b=some (.tup vs)->H2 b=some (.tup vs))/\Pts H H2 p (hn J) (hn J) (hn J) ((cn J).take i) a2 st)
  (xb9 a' none rfl sm (λ_ _ e=>e) (by rw[List.take_zero];exact pt)) (λi σ Z _ p=>by obtain⟨_,_,_,_,e,_⟩:=p;exact zB (e _ _ am)) ?_ ?_
 ·rintro i y σ H2 hy ⟨a2,o4,rfl,C,a8,m⟩
  obtain⟨d,ak,rd⟩:=an.get hy;rw[zGM]at ak;obtain⟨ch,aw,rfl⟩:=zMS ak;obtain⟨aq,_,rfl,al,_,ws,rfl,rfl,_⟩:=rd;have hz:(cn J)[i]?=some ch.1:=by rw[zGM,aw];rfl
  have a7:=a8 _ _ al;refine(xa7 _ rfl x _ fs rfl (C _ _ hx) (lf.no _ (by walk_at"k")) _ rfl (xbe aq _ _ _ rfl rfl (zB a7) (xam (j:=0) rfl) x (xal _ ch.1 a st J (jAAA rfl (hs.at_.same C) (zMG hz) (λlt ut H3 s3 Y ac ab=>?_)))));have U:=m.same s3;have ne:∀{Z:Hp} {b c:Addr} {o:HO},Z b=some o->Z c=none->c≠b:=λe n z=>by rw[z,e]at n;cases n
  refine(xaa _ rfl p _ _ _ rfl rfl (zC U.hp) (xam (j:=1) rfl) (xaa _ rfl aq _ _ _ rfl rfl (zB (s3 _ _ a7)) (xam (j:=0) rfl) (xaw a2.bd _ rfl (DPut.k (k:=Sum.inr ch.1) U.hbd (few _ _ _ b4)) (U.putL b3 hz ac ab (xae C Y) (jAA (ne m.hp Y) (λy hy e=>(by obtain⟨us,e2,_⟩:=m.let_ y hy;rw[e,Y]at e2;cases e2)) (λy hy e=>(by obtain⟨us,e2,_⟩:=m.tel y hy;rw[e,Y]at e2;cases e2))) λH4 a4 O k4=>?_))));rw[xf7]at O;exact(xb9 _ _ rfl (xiq (C.trans s3) m.fr.2.2.1 k4) (λb vs e=>k4 _ _ (s3 _ _ (a8 _ _ e)) (λz=>by have:=s3 _ _ (a8 _ _ e);rw[z,U.hbd]at this;cases this)) O)
 ·rintro σ H2 ⟨a2,o4,rfl,C,a8,m⟩
  rw[zTL (by rw[zLM];omega)]at m;exact b0 _ _ (jEA _ rfl (q p a2 H2 C m))
theorem EqX.of{H:Hp}{x y:V}(h:EqS H 12 x y):∀n,EqX H n x y
 |0=>h
 |n+1=>.inl (EqX.of h n)
theorem xvb{H0 H1 H:Hp}{p G:Addr}{a x:HsA}{e:Mak}{s:HSt}{N:Nat}(h:Pts H0 H p (hn e) (hn e) (hn e) (cn e) a s)(h':Pts H1 H G (hn e) (hn e) (hn e) (cn e) x s)(j:MakOk e)(o:HOk e s N):EqX H 6 (.ref p) (.ref G):=by
 have m:∀{n:Nat} (i:Int),EqS H n (.int i) (.int i):=λi=>EqS.dat (.inl (jEAA (.int i) rfl rfl (by show D.deep (.int i)<=100;unfold D.deep;decide)));have len:∀(ns:List Str) (f g:Str->V),(mapK ns f).length=(mapK ns g).length:=λns f g=>by rw[xce,xce]
 refine .inr (.inl (xah p G _ _ rfl rfl (.inr ⟨h.hp,h'.hp⟩) rfl (λi u z l hz=>?_)));rcases i with _ |_ |_ |_ |i
 ·cases l;cases hz
  refine .inr (.inr (xap a.sd x.sd _ _ rfl rfl h.hsd h'.hsd (len _ _ _) (λI c=>?_)));obtain⟨z,hz,rfl⟩:=zMP c;refine(jEA _ (xcy hz) (EqX.of ?_ _));obtain⟨hd,b,rfl⟩:=zMP hz;obtain⟨e2,kb,U,w⟩:=h.sta _ hz;obtain⟨Z,Y,J,r⟩:=h'.sta _ hz;refine .inr (.inl (xah _ _ _ _ rfl rfl (.inl ⟨e2,Z⟩) rfl (λi u z l hz=>?_)));rcases i with _ |_ |i
  ·cases l;cases hz;exact m _
  ·cases l;cases hz
   exact xi8 U J w r (by rw[o.keys hd b];exact(j.hok hd b).nd) (o.bxdeep j b)
  ·cases l
 ·cases l;cases hz
  refine .inr (.inr (xap a.bd x.bd _ _ rfl rfl h.hbd h'.hbd (len _ _ _) (λI c=>?_)));obtain⟨z,hz,rfl⟩:=zMP c;refine(jEA _ (xcy hz) (EqX.of ?_ _));obtain⟨ch,b,rfl⟩:=zMP hz;obtain⟨C,O,M⟩:=h.let_ _ hz;obtain⟨y,g3,g4⟩:=h'.let_ _ hz;exact EqS.dat (.inr (xaj _ _ C y _ rfl rfl O g3 M ⟨g4,zY (xeb λd hd=>xd5 j.wf (j.ckin ch b) ((o.cok ch b).2 d hd)) (by decide)⟩))
 ·cases l;cases hz
  refine .inr (.inr (xap a.td x.td _ _ rfl rfl h.htd h'.htd (len _ _ _) (λI c=>?_)));obtain⟨z,hz,rfl⟩:=zMP c;refine(jEA _ (xcy hz) (EqX.of ?_ _));obtain⟨hd,b,rfl⟩:=zMP hz;obtain⟨C,O,M⟩:=h.tel _ hz;obtain⟨y,g3,g4⟩:=h'.tel _ hz;exact EqS.dat (.inr (xaj _ _ C y _ rfl rfl O g3 M ⟨g4,zY (xeb (o.tok hd b).2) (by decide)⟩))
 ·cases l;cases hz
  refine .inr (.inr (xap a.cd x.cd _ _ rfl rfl h.hcd h'.hcd (len _ _ _) (λI c=>?_)));obtain⟨z,hz,rfl⟩:=zMP c;exact(jEA _ (xcy hz) (EqX.of (m _) _))
 ·cases l
structure Spl(H H':Hp)(p:Addr)(mk:Mak)(a:HsA)(bo:HO)(B:Nat):Prop where
 hp:H' p=some (.lst [.ref a.sd,.ref a.bd,.ref a.td,.ref a.cd])
 hbd:H' a.bd=some bo
 hbn:∀vs,bo≠.lst vs
 htd:H' a.td=some (.dK (mapK (hn mk) λz=>.ref (a.ta z)))
 hcd:∃kv:List (Key×V),H' a.cd=some (.dK kv)
 sa:∀z∈hn mk,∃r:Int,H' (a.sa z)=some (.tup [.int r,.ref (a.pa z)])
 pa:∀z∈hn mk,∃kv:List (Key×V),H' (a.pa z)=some (.dK kv)
 la:∀z∈cn mk,∃us,H' (a.la z)=some (.lst us)/\us.length<=B
 ta:∀z∈hn mk,∃us,H' (a.ta z)=some (.lst us)/\us.length<=B
 fr:∀b o,H b=some o->¬a.F mk p b->H' b=some o
theorem Spl.wr{H f:Hp}{p:Addr}{j:Mak}{a:HsA}{Y g o:HO}{B s:Nat}{d:Addr}(sp:Spl H f p j a Y B)(U:a.F j p d)(I:p≠d)(G:a.td≠d)(J:a.cd≠d)(O:upd f d o a.bd=some g)(x:∀vs,g≠.lst vs)(sa:∀z∈hn j,a.sa z≠d)(pa:∀z∈hn j,a.pa z=d->∃m,o=.dK m)(ls:∀us,f d=some (.lst us)->∃us,o=.lst us/\us.length<=s)(h:B<=s):Spl H (upd f d o) p j a g s:=by
 have ne:∀{b:Addr} {C:HO},f b=some C->b≠d->upd f d o b=some C:=λe n=>by rw[xak n];exact e
 have l:∀{b:Addr},(∃us,f b=some (.lst us)/\us.length<=B)->∃us,upd f d o b=some (.lst us)/\us.length<=s:=λ{b} ⟨zs,c,hz⟩=>by
  by_cases i:b=d
  ·subst i
   obtain⟨us,e,M⟩:=ls zs c;exact(jEA us (by rw[ups,e]) M)
  ·exact(jEA zs (ne c i) (zY hz h))
 refine⟨ne sp.hp I,O,x,ne sp.htd G,?_,λz hz=>?_,λz hz=>?_,λy w=>l (sp.la y w),λy w=>l (sp.ta y w),λb u c n=>ne (sp.fr b u c n) λz=>n (by rw[z];exact U)⟩
 ·obtain⟨m,c⟩:=sp.hcd
  exact⟨m,ne c J⟩
 ·obtain⟨r,c⟩:=sp.sa z hz
  exact⟨r,ne c (sa z hz)⟩
 ·obtain⟨r,c⟩:=sp.pa z hz
  by_cases i:a.pa z=d
  ·obtain⟨m,e⟩:=pa z hz i
   exact⟨m,by rw[i,ups,e]⟩
  ·exact⟨r,ne c i⟩
def xor:Sp:=λvs H Q _=>∃(p:Addr) (a:HsA) (s:HSt) (mk:Mak) (N:Nat) (H0:Hp),vs=[.ref p]/\Pts H0 H p (hn mk) (hn mk) (hn mk) (cn mk) a s/\MakOk mk/\HOk mk s N/\N<=900/\∀H',(∀b o,H b=some o->¬a.F mk p b->H' b=some o)->Q .non H'
theorem xpk(T:Tx K mg):DefIs P w K mg base (n+1) "_law_spoil" qbk xor:=by
 refine DefIs.of T.kP scl_spoil (by walk_at"l") (λf b3 A outer s H vs Q E hr h=>?_);obtain⟨p,a,st,x,N,H0,rfl,pt,ae,ok,a6,q⟩:=h;have nd:=scl_spoil.nd;have hu:=xd2 hr;have h4:=ae.hfew;have h6:=ae.cfew;have b1:(hn x).length<=4:=by rw[zLM];exact h4
 have b2:(cn x).length<=6:=by rw[zLM];exact h6
 obtain⟨d1,d2,d3,d4,d5,d6⟩:=pt.dd;obtain⟨I,a2⟩:∃I,I=mapK (cn x) λz=>.ref (a.la z):=⟨_,rfl⟩;have b0:I.length=(cn x).length:=by rw[a2,xce]
 have ak:Spl H H p x a (.dK I) 900:=by
  refine⟨pt.hp,by rw[a2];exact pt.hbd,(λvs e=>by cases e),pt.htd,⟨_,pt.hcd⟩,λz hz=>⟨_,(pt.sta z hz).1⟩,λz hz=>?_,λz hz=>?_,λz hz=>?_,λb o e _=>e⟩
  ·obtain⟨_,kv,e,_⟩:=pt.sta z hz
   exact⟨kv,e⟩
  ·obtain⟨ch,ab,rfl⟩:=zMP hz
   obtain⟨us,e,r⟩:=pt.let_ _ hz;exact(jEA us e (by rw[r.length];exact zY (ok.cok ch ab).1 a6))
  ·obtain⟨hd,ab,rfl⟩:=zMP hz
   obtain⟨us,e,r⟩:=pt.tel _ hz;exact(jEA us e (by rw[r.length];exact zY (ok.tok hd ab).1 a6))
 have a9:=pt.hsd;obtain⟨C,a1⟩:∃C,C=mapK (hn x) λz=>.ref (a.sa z):=⟨_,rfl⟩;rw[<- a1]at a9;have al:C.length=(hn x).length:=by rw[a1,xce]
 have ty:∀{g:Hp} {b d:Addr} {u v:HO},g b=some u->g d=some v->u≠v->b≠d:=λe f n z=>n (by rw[z,f]at e;exact(z8 e).symm);have a7:∀{g:Hp} {y a3 o u:HO} {B:Nat} {d:Addr},Spl H g p x a y B->g d=some u->(∀us,u≠.lst us)->(∀us,u≠.tup us)->a.F x p d->a.td≠d->a.cd≠d->upd g d o a.bd=some a3->(∀vs,a3≠.lst vs)->(∀z∈hn x,a.pa z=d->∃kv,o=.dK kv)->Spl H (upd g d o) p x a a3 B:=λ{g y a3 o u B d} sp e nl nt dF n1 n2 hb au aa=>sp.wr dF (ty sp.hp e λz=>nl _ z.symm) n1 n2 hb au (λz hz=>by obtain⟨r,e'⟩:=sp.sa z hz;exact ty e' e λz=>nt _ z.symm) aa (λus e'=>absurd (z8 (e.symm.trans e')) (nl us)) (zZ _);have ai:∀{g:Hp} {y:HO} {B:Nat} {u o:HO},Spl H g p x a y B->g a.sd=some u->(u=.dK C\/∃ob,u=.frz ob (.dK C))->Spl H (upd g a.sd o) p x a y B:=λ{g y B u o} sp e a0=>a7 sp e (by rcases a0 with rfl |⟨ob,rfl⟩ <;> exact λus z=>by cases z) (by rcases a0 with rfl |⟨ob,rfl⟩ <;> exact λus z=>by cases z) (.inr (.inl rfl)) (Ne.symm d2) (Ne.symm d3) (by rw[xak (Ne.symm d1)];exact sp.hbd) sp.hbn λz hz e=>absurd e (pt.np z hz).1
 refine⟨_,(zpn (xo9 (xb5 zF rfl (xpc (pxl K (pv 0) pI)) (pgn 1 nd)
   (zpn (xbp (xj0 (px K (xb2 hu (pxl K (pv 0) pI) (pv 1) (λ_ _=>rfl)) pI)))
   (zpo (xbp (xds zD zH zG xb0 (xb2 hu (pxl K (pv 0) pI) (pv 1) (λ_ _=>rfl)) (pc pI pN zso)))))))
   (zpn (xo9 (xb5 zF rfl (xpc (pxl K (pv 0) pI)) (pgn 2 nd)
   (zpo (xbp (xds zD zH zG xb0 (xb2 hu (pxl K (pv 0) pI) (pv 2) (λ_ _=>rfl)) (pc pI pN zso))))))
   (zpo (xb5 zF rfl (xbv (K:=K) rfl (pv 0)) (pgn 3 nd)
   (zpo (xbp (xj0 (pv 3)))))))),xab λR1 ax=>?_⟩
 refine(xaa _ rfl p _ _ _ rfl rfl (zC pt.hp) (xam (j:=0) rfl) (xaw a.sd C rfl a9 (λo nz=>?_)))
 have ay:∀{g:Hp} {y:HO} {B:Nat} {z:Str},Spl H g p x a y B->z∈hn x->Spl H (upd g (a.pa z) (.dK [])) p x a y B:=λ{g y B z} sp hz=>by
  obtain⟨az,e⟩:=sp.pa z hz;obtain⟨n1,n2,n3,n4⟩:=pt.np z hz;exact a7 sp e (λus z=>by cases z) (λus z=>by cases z) (.inr (.inr (.inr (.inr (.inr (.inr (jEA z hz (.inr rfl)))))))) (Ne.symm n3) (Ne.symm n4) (by rw[xak (Ne.symm n2)];exact sp.hbd) sp.hbn λ_ _ _=>⟨[],rfl⟩
 have app:∀{g:Hp} {y:HO} {B:Nat} {l:Addr} {us Z:List V},Spl H g p x a y B->g l=some (.lst us)->l≠p->a.F x p l->Z.length<=B+1->Spl H (upd g l (.lst Z)) p x a y (B+1):=λ{g y B l us Z} sp e np lF hl=>by
  obtain⟨kc,hc⟩:=sp.hcd;exact sp.wr lF (Ne.symm np) (ty sp.htd e λz=>by cases z) (ty hc e λz=>by cases z) (by rw[xak (ty sp.hbd e (sp.hbn us))];exact sp.hbd) sp.hbn (λz hz=>by obtain⟨r,e'⟩:=sp.sa z hz;exact ty e' e λz=>by cases z) (λz hz q=>by obtain⟨r,e'⟩:=sp.pa z hz;exact absurd q (ty e' e λz=>by cases z)) (λ_ _=>(jEA Z rfl hl)) (qG _)
 have val:∀{kvs:List (Key×V)} {d:Addr} {g:Hp} {z:Str} {v:V},Rd g d (.dK kvs)->valV kvs (Sum.inr z)=some v->DGet g d (.str z) (some v):=λ{kvs d g z v} e ev=>by
  have:=DGet.rd (k:=Sum.inr z) e;rw[ev]at this;exact this
 refine xnj (λi σ g=>∃o1,σ=[some (.ref p),o1,none,none]/\g a.sd=some (.frz o (.dK C))/\Spl H g p x a (.dK I) (900+i)) (jEAA none rfl ups (ai ak a9 (.inl rfl))) (λi σ g _ p=>by obtain⟨_,_,e,_⟩:=p;exact e) ?_ ?_
 ·rintro i kv σ g hi ⟨o1,rfl,J,sp⟩
  have ar:=(zES hi).1;rw[a1]at hi;unfold mapK at hi;rw[zGM]at hi;obtain⟨z,a8,rfl⟩:=zMS hi;have hz:=zMG a8;obtain⟨r,am⟩:=sp.sa z hz;obtain⟨kv,aa⟩:=sp.pa z hz;refine xab λS1 av=>?_;refine(xaa _ rfl p _ _ _ rfl rfl (zC sp.hp) (xam (j:=0) rfl) (xar _ rfl a.sd _ rfl (val (.inr ⟨o,J⟩) (by rw[a1];exact xcy hz)) (xbe (a.sa z) _ _ _ rfl rfl (zB am) (xam (j:=1) rfl) (a.pa z) (jEAA kv rfl aa (av _ _ ?_)))));have m:=ay sp hz;have Y:upd g (a.pa z) (.dK []) a.sd=some (.frz o (.dK C)):=by rw[xak (Ne.symm (pt.np z hz).1)];exact J
  generalize upd g (a.pa z) (.dK [])=H2 at m Y⊢;obtain⟨us,O,aq⟩:=m.ta z hz;refine(xaa _ rfl p _ _ _ rfl rfl (zC m.hp) (xam (j:=2) rfl) (xar _ rfl a.td _ rfl (val (.inl m.htd) (xcy hz)) ?_));have tF:a.F x p (a.ta z):=.inr (.inr (.inr (.inr (.inr (.inr (jEA z hz (.inl rfl)))))));refine(jAEE (.inl (jAE rfl _ (zC O))) (a.ta z) us (xbm _ rfl rfl O (xa3 (by omega)) (jEAA _ rfl ?_ (app (B:=900+i) m O (pt.nlp.2 z hz) tF (by rw[zLA,List.length_singleton];omega)))));rw[xak λe=>by rw[<- e,Y]at O;cases O];exact Y
 rintro σ H1 ⟨o1,rfl,J,sp⟩;refine(xbn a.sd o C J nz (ax _ _ (xab λR2 aw=>?_)));have M:=ai (o:=.dK C) sp J (.inr ⟨o,rfl⟩);have a5:upd H1 a.sd (.dK C) a.sd=some (.dK C):=ups;rw[al]at M;generalize upd H1 a.sd (.dK C)=H2 at M a5⊢;clear sp J;refine(xaa _ rfl p _ _ _ rfl rfl (zC M.hp) (xam (j:=1) rfl) (xaw a.bd I rfl M.hbd (λo nz=>?_)));have aj:∀{g:Hp} {y o:HO} {B:Nat},Spl H g p x a y B->(y=.dK I\/∃ob,y=.frz ob (.dK I))->(∀vs,o≠.lst vs)->g a.sd=some (.dK C)->Spl H (upd g a.bd o) p x a o B/\upd g a.bd o a.sd=some (.dK C):=λ{g y o B} sp a0 ho hs=>⟨a7 sp sp.hbd sp.hbn (by rcases a0 with rfl |⟨ob,rfl⟩ <;> exact λus z=>by cases z) (.inr (.inr (.inl rfl))) (Ne.symm d4) (Ne.symm d5) ups ho λz hz e=>absurd e (pt.np z hz).2.1,by rw[xak d1];exact hs⟩;obtain⟨m,af⟩:=aj (o:=.frz o (.dK I)) M (.inl rfl) (λvs z=>by cases z) a5;refine xnj (λi σ g=>∃o2,σ=[some (.ref p),o1,o2,none]/\g a.sd=some (.dK C)/\Spl H g p x a (.frz o (.dK I)) (910+i)) (jEAA none rfl af ⟨m.hp,m.hbd,m.hbn,m.htd,m.hcd,m.sa,m.pa,(λz hz=>by obtain⟨us,e,h⟩:=m.la z hz;exact(jEA us e (by omega))),(λz hz=>by obtain⟨us,e,h⟩:=m.ta z hz;exact(jEA us e (by omega))),m.fr⟩) (λi σ g _ p=>by obtain⟨_,_,_,e⟩:=p;exact e.hbd) ?_ ?_
 ·rintro i kv σ g hi ⟨o2,rfl,ag,sp⟩
  have ar:=(zES hi).1;rw[a2]at hi;unfold mapK at hi;rw[zGM]at hi;obtain⟨z,a8,rfl⟩:=zMS hi;have hz:=zMG a8;obtain⟨us,U,aq⟩:=sp.la z hz;have tF:a.F x p (a.la z):=.inr (.inr (.inr (.inr (.inr (.inl (jEA z hz rfl))))));refine(xaa _ rfl p _ _ _ rfl rfl (zC sp.hp) (xam (j:=1) rfl) (xar _ rfl a.bd _ rfl (val (.inr ⟨o,sp.hbd⟩) (by rw[a2];exact xcy hz)) ?_));refine(jAEE (.inl (jAE rfl _ (zC U))) (a.la z) us (xbm _ rfl rfl U (xa3 (by omega)) (jEAA _ rfl ?_ (app (B:=910+i) sp U (pt.nlp.1 z hz) tF (by rw[zLA,List.length_singleton];omega)))));rw[xak λe=>by rw[<- e,ag]at U;cases U];exact ag
 rintro σ H3 ⟨o2,rfl,an,ac⟩;obtain⟨G,a4⟩:=aj (o:=.dK I) ac (.inr ⟨o,rfl⟩) (λvs z=>by cases z) an;refine(xbn a.bd o I ac.hbd nz (aw _ _ ?_));generalize upd H3 a.bd (.dK I)=H4 at G a4⊢;obtain⟨kc,ah⟩:=G.hcd;refine(xbi _ rfl p rfl ⟨_,zC G.hp⟩ ?_);refine xea (xs:=[.ref a.sd,.ref a.bd,.ref a.td,.ref a.cd]) (λi σ g=>∃o3,σ=[some (.ref p),o1,o2,o3]/\g p=some (.lst [.ref a.sd,.ref a.bd,.ref a.td,.ref a.cd])/\(∃k,g a.sd=some (.dK k))/\(∃k,g a.bd=some (.dK k))/\(∃k,g a.td=some (.dK k))/\(∃k,g a.cd=some (.dK k))/\∀b o,H b=some o->¬a.F x p b->g b=some o) (xbd none rfl G.hp ⟨_,a4⟩ ⟨_,G.hbd⟩ ⟨_,G.htd⟩ ⟨⟨_,ah⟩,G.fr⟩) (λi σ g _ p=>by obtain⟨_,_,e,_⟩:=p;exact zC e) ?_ ?_
 ·rintro i v σ g hv ⟨o3,rfl,ao,g1,g2,g3,g4,fr⟩
  have one:∀{d:Addr} (k:List (Key×V)),v=.ref d->g d=some (.dK k)->a.F x p d->∃o3,[some (V.ref p),o1,o2,some v]=[some (V.ref p),o1,o2,o3]/\upd g d (.dK []) p=some (.lst [.ref a.sd,.ref a.bd,.ref a.td,.ref a.cd])/\(∃k,upd g d (.dK []) a.sd=some (.dK k))/\(∃k,upd g d (.dK []) a.bd=some (.dK k))/\(∃k,upd g d (.dK []) a.td=some (.dK k))/\(∃k,upd g d (.dK []) a.cd=some (.dK k))/\∀b o,H b=some o->¬a.F x p b->upd g d (.dK []) b=some o:=λ{d} k ev e dF=>by
   have stay:∀{c:Addr},(∃k,g c=some (.dK k))->∃k,upd g d (.dK []) c=some (.dK k):=λ{c} ⟨k,e⟩=>by
    by_cases ec:c=d
    ·exact⟨[],by rw[ec];exact ups⟩
    ·exact⟨k,by rw[xak ec];exact e⟩
   exact(xbd _ rfl ((xe5 e).2.1 _ _ ao) (stay g1) (stay g2) (stay g3) ⟨stay g4,λb o e' n=>by rw[xak λz=>n (by rw[z];exact dF)];exact fr b o e' n⟩)
  rcases i with _ |_ |_ |_ |i
  ·cases hv
   obtain⟨k,e⟩:=g1;exact(xar _ rfl a.sd k rfl e (one k rfl e (.inr (.inl rfl))))
  ·cases hv
   obtain⟨k,e⟩:=g2;exact(xar _ rfl a.bd k rfl e (one k rfl e (.inr (.inr (.inl rfl)))))
  ·cases hv
   obtain⟨k,e⟩:=g3;exact(xar _ rfl a.td k rfl e (one k rfl e (.inr (.inr (.inr (.inl rfl))))))
  ·cases hv
   obtain⟨k,e⟩:=g4;exact(xar _ rfl a.cd k rfl e (one k rfl e (.inr (.inr (.inr (.inr (.inl rfl)))))))
  ·cases hv
 ·rintro σ g ⟨o3,rfl,_,_,_,_,_,fr⟩
  exact q g fr
def xff(m:Nat):Sp:=λvs H Q _=>∃(f:Addr) (kv:V) (p q:Int) (ks:List Kn) (x:Str),vs=[.ref f,kv,.str x]/\H f=some (.lst [.int p,.int q])/\RelD H kv (xef ks)/\KWf ks/\KIn ks m x/\∀u d H',Fed f H H'->RelD H' u d->Vk ks x d->Q u H'
theorem xj2 (T:Tx K mg) (a7:Sp) (g:DefIs P w K mg base n "_law_sort_of" qad xft) (o:DefIs P w K mg base n "_law_take" qae xcw) (l:DefIs P w K mg base n "_law_number" qax xmt) (c:DefIs P w K mg base n "_law_value" qaz a7) (a9:∀j,m=j+1->a7=xff j) :
  DefIs P w K mg base (n+1) "_law_value" qaz (xff m):=by
 refine DefIs.of T.kJ scl_value (by walk_at"l") (λf ao A outer s H vs Q E hr h=>?_);obtain⟨f',kv,p,q0,ks,x,rfl,hf,hk,wf,aj,q⟩:=h;have nd:=scl_value.nd
 refine⟨_,(zpn (xdw (pd g hr (va 1 (v1 2))) (xbc (K:=K) rfl rfl (xad (pgn 3 nd) (xad (pgn 4 nd) xbb))))
   (zpn (xba (pR xbf (pv 3) pS (nM _)) (zpo (xaf (pd l hr (v1 0)))) pQ)
   (zpn (xba (pR xbf (pv 3) pS (nM _)) (zpn (xdw (px K (pv 4) (pd o hr (va 0 (pc (xax (xag (K:=K) rfl) rfl T.kY zE (v1 4)) pN zsc)))) (xbc (K:=K) rfl rfl (xad (pgn 5 nd) (xad (pgn 6 nd) xbb))))
   (zpo (xaf (xa2 (va 2 (va 5 (pc (pd c hr (va 0 (va 1 (v1 6)))) pN zsc))))))) pQ)
   (zpo (xaf (xa2 (va 2 (pc (xau (xbx (K:=K) rfl) rfl T.uC zK (pc (xbh ["_law_name","_law_part","_law_feed_here","_law_kinds_here"] [none,none,some 0,some 1] rfl (by kernel_rfl) (xas (K:=K) rfl (pv 4)) (λ_ _ _ _=>(xbc (K:=K) (n:=2) rfl rfl (xad (pgc 0) (xad (pgc 1) xbb)))) (λ_ _ _ _=>xbo) (λ_ _ _ _=>(pd c hr (va 2 (va 3 (v1 1)))))) pN xbt)) pN zsc)))))))),?_⟩
 refine(xc3 _ rfl _ rfl kv ks x rfl ((wf.ksAt hk).seq) (λt am H1 s1 ht rp=>?_));refine(xay t _ rfl (zB ht) rfl _ _ rfl _ (jEAA _ rfl rfl ?_));have C:=s1 _ _ hf;have F1:Fed f' H H1:=(Fed.refl hf).same s1;rcases aj.look wf with⟨rfl,z⟩ |⟨j,k,rfl,z,hn,hm,hp⟩
 ·refine(xa5 _ rfl rfl _ rfl (iteKT (zDT (by rw[z];rfl)) ?_))
  refine(jEA _ rfl (xbn f' p q0 rfl C (λr H2 af f2=>?_)));exact q _ (.int r) _ (F1.trans f2) rfl (.num r af)
 ·have D':=a9 j rfl
  subst D';rw[z]at rp;obtain⟨a,us,rfl,ha,a1⟩:=rp;have hl:=a1.length;rw[zLM]at hl;have h5:=wf.pts k hm;have G:xgu (kAt ks x)=k.sort:=by rw[z];rfl
  cases hc:k.rc with
  |false=>
   have ab:k.sort=S "alt":=xez hc;refine(xa5 _ rfl rfl _ rfl (iteKF (zDF (by rw[G,ab];decide +kernel)) ?_));refine(xa5 _ rfl rfl _ rfl (iteKT (zDT (by rw[G,ab];rfl)) ?_));have an:k.parts.length≠0:=λe=>wf.alt k hm hc (List.length_eq_zero_iff.mp e);refine(xa0 _ rfl _ rfl _ rfl a _ rfl (.inr (zB ha)) (xah f' p q0 _ rfl C (by omega) (by omega) (λr H2 r0 r1 f2=>?_)));have O:=xai (jEE p q0 C) f2;obtain⟨i,rfl⟩:∃i:Nat,r=(i:Int):=⟨r.toNat,by omega⟩;have hi:i<us.length:=by omega
   have g1:atI us (i:Int)=some us[i]:=xam (zGA hi);obtain⟨d,hd,rd⟩:=a1.get (zGA hi);rw[zGM]at hd;obtain⟨U,I,rfl⟩:=zMS hd;obtain⟨b,ws,eu,hb,_,_,rfl,rfl,_,_,rfl,rfl,rfl⟩:=rd;rw[eu]at g1;have M:=zMG I;obtain⟨p2,q2,J⟩:=f2.2;have ai:=(hk.same s1 _).tups O _;refine(xbe a _ _ _ rfl rfl (zB (O _ _ ha)) g1 b (xb8 _ rfl (zB (O _ _ hb)) rfl (jEEA _ _ rfl (xaw _ _ rfl rfl ?_))));refine(xa1 _ rfl _ rfl _ rfl _ rfl _ rfl (xal f' kv p2 q2 ks (xbd U.2 rfl J ai wf (hp U M) (λu e H3 f3 ru a5=>⟨(by walk_at"s"),λt3 a2=>?_⟩))));have s4:=zA a2 (.tup [.str x,.str U.1,u]);exact q _ (.tup [.str x,.str U.1,e]) _ ((F1.trans (f2.trans f3)).same s4) (xat t3 _ rfl ups _ _ rfl rfl _ (xbu _ rfl rfl _ _ rfl (ru.same s4 _) rfl)) (.al z hc M a5)
  | true=>
   have aa:k.sort=S "rec":=xer hc;refine(xa5 _ rfl rfl _ rfl (iteKF (zDF (by rw[G,aa];decide +kernel)) ?_));refine(xa5 _ rfl rfl _ rfl (iteKF (zDF (by rw[G,aa];decide +kernel)) ?_));refine(jEA _ rfl (xbi _ rfl a rfl ⟨_,zB ha⟩ ?_));refine xbj (xs:=us) (λi ys H'=>Fed f' H1 H'/\ys.length=i/\∃ds:List D,RelDs H' ys ds/\ds.length=i/\∀(Z:Nat) w' Y,ds[Z]?=some w'->k.parts[Z]?=some Y->Vk ks Y.2 w') (jAA (Fed.refl C) rfl (jEAA ([]) rfl rfl (λZ w' Y h=>by simp at h))) (xa3 (by omega)) (λi ys H' _ Y=>zB (xai (jEE p q0 C) Y.1 _ _ ha)) ?_ ?_
   ·rintro i y ys H' hy hi ac ⟨fm,ae,ds,a0,a6,a4⟩
    have tp:=xai (jEE p q0 C) fm;obtain⟨d,hd,rd⟩:=a1.get hy;rw[zGM]at hd;obtain⟨U,I,rfl⟩:=zMS hd;obtain⟨b,ws,rfl,hb,_,_,rfl,rfl,_,_,rfl,rfl,rfl⟩:=rd;obtain⟨p2,q2,J⟩:=fm.2;refine(xay b _ rfl (zB (tp _ _ hb)) rfl _ _ rfl _ (xb8 _ rfl rfl (ext2 rfl rfl) (xdn ?_)));refine(xb1 _ rfl _ rfl _ rfl f' kv (xap p2 q2 ks U.2 rfl J ((hk.same s1 _).tups tp _) wf (hp U (zMG I)) (λu e H3 f3 ru a5=>nxtG hi ac (jAA (fm.trans f3) (by rw[zLA,List.length_singleton,ae]) (jEAA (ds++[e]) ?_ (by rw[zLA,List.length_singleton,a6]) (λZ w' Y hw a3=>?_))))))
    ·exact(a0.tups (xai (jEE p2 q2 J) f3) _).append (xaw u ([]) rfl ru rfl)
    ·by_cases ak:Z<ds.length
     ·rw[List.getElem?_append_left ak]at hw
      exact a4 Z w' Y hw a3
     ·have ag:=(zES hw).1
      rw[zLA,List.length_singleton]at ag;have e0:Z=i:=by omega
      subst e0;rw[List.getElem?_append_right (by omega),a6,Nat.sub_self]at hw;simp at hw;subst hw;rw[I]at a3;cases a3;exact a5
   ·rintro ys H' ac ⟨fm,_,ds,a0,a6,a4⟩ D hD
    refine(jEEA D ys rfl (.inl ⟨zC ups,λl' ah=>⟨(by walk_at"s"),λt3 a2=>?_⟩⟩));have s2:=zA hD (.lst ys);have s3:=zA ah (.tup ys);have s4:=zA a2 (.tup [.str x,.ref l']);have a8:=s2.trans (s3.trans s4);exact q _ (.tup [.str x,.tup ds]) _ ((F1.trans fm).same a8) (xat t3 _ rfl ups _ _ rfl rfl _ (jEAA _ rfl (xaw l' ys rfl (s4 _ _ ups) (a0.same a8 _)) rfl)) (.rc z hc (by omega) a4)
theorem xmk(T:Tx K a):∀m,DefIs P w K a base (m+3) "_law_value" qaz (xff m)
 |0=>xj2 (n:=2) T (λ_ _ _ _=>False) (xcq T) (xd6 T) (xeu T (xd6 T)) (DefIs.none T.kJ λ_ _ _ _ h=>h) (λj e=>by cases e)
 |m+1=>xj2 (n:=m+3) T (xff m) (xcq T) (xd6 T) (xeu T (xd6 T)) (xmk T m) (λj e=>by cases e;rfl)
def xow(K:Fg):Sp:=λvs H Q _=>∃(f:Addr) (mv:V) (x y:Int) (mk:Mak),vs=[.ref f,mv]/\H f=some (.lst [.int x,.int y])/\RelD H mv mk.d/\MakOk mk/\∀p a s H',Fed f H H'->Pts H H' p (hn mk) (hn mk) (hn mk) (cn mk) a s->HOk mk s 4->Q (.ref p) H'
theorem xne{H:Hp}:∀is:List Int,RelDs H (is.map V.int) (is.map D.int)
 |[]=>rfl
 |i::is=>(xaw (.int i) _ rfl rfl (xne is))
def HsSo(mk:Mak)(s:HSt)(i:Nat):Prop:=∀hd∈mk.hands.take i,Beg mk hd (s.sd hd.name).1 (s.sd hd.name).2/\(s.tl hd.name).length<=4/\∀d∈s.tl hd.name,d.deep<=12
theorem xts(T:Tx K mg)(l:DefIs P w K mg base n "_law_take" qae xcw)(O:DefIs P w K mg base n "_law_number" qax xmt)(x:DefIs P w K mg base n "_law_value" qaz (xff 6)):DefIs P w K mg base (n+1) "_law_own" qa8 (xow K):=by
 refine DefIs.of T.kO scl_own (by walk_at"l") (λf dk A outer s H vs Q E hr h=>?_);obtain⟨Y,mv,x0,y0,C,rfl,hf,md,a6,q⟩:=h;have nd:=scl_own.nd;have hu:=xd2 hr;have h4:=a6.hfew;have h6:=a6.cfew;have ak:(hn C).Nodup:=a6.hnd;have c3:(cn C).Nodup:=a6.cnd;have dg:(hn C).length<=4:=by rw[zLM];exact h4
 have dd:(cn C).length<=6:=by rw[zLM];exact h6
 have J:∃o,H Y=some o:=⟨_,hf⟩
 have few:∀(ns:List Str) (i:Nat) (g:Str->V),ns.length<=6->(mapK (ns.take i) g).length<sizeLine:=λns i g h=>by
  rw[xce,List.length_take];exact xa3 (by omega)
 have ne:∀{H':Hp} {b c:Addr} {o:HO},H' b=some o->H' c=none->c≠b:=λe n z=>by rw[z,e]at n;cases n
 obtain⟨ma,kv,cv,hv,rfl,aq,ar,cx,cq⟩:=mk_d md;obtain⟨ha,uh,rfl,be,bf⟩:=cq;obtain⟨ca,uc,rfl,bl,bm⟩:=cx;have cj:=bf.length;have cl:=bm.length;rw[zLM]at cj cl
 refine⟨_,(zpn (psn 2 nd (xcd (pc xde (pc xde (pc xde (pc xde pN xdg) xdg) xdg) xdg)))
   (zpn (xb5 zF rfl (xas (K:=K) rfl (px K (pv 1) pI)) (xbc (K:=K) rfl rfl (xad (pgn 3 nd) (xad (pgn 4 nd) (xad (pgn 5 nd) xbb))))
   (zpn (psn 6 nd xde)
   (zpn (xb5 zF rfl (xas (K:=K) rfl (pv 4)) (xbc (K:=K) rfl rfl (xad (pgn 7 nd) (xad (pgn 8 nd) xbb)))
   (zpo (xc9 hu (pv 6) (pv 7) (pd x hr (va 0 (pc (px K (pv 1) pI) (v1 8) ss))) rfl)))
   (zpn (xc9 hu (pxl K (pv 2) pI) (pv 3) (xa2 (pc (pd l hr (va 0 (pc (xax (xag (K:=K) rfl) rfl T.kY zE (v1 5)) pN zsc))) (v1 6) zsc)) rfl)
   (zpn (xc9 hu (pxl K (pv 2) pI) (pv 3) (xbh ["_law_k","_law_feed_here"] [none,some 0] rfl (by kernel_rfl) (xcb rfl T.uA (pc (pd l hr (va 0 (pc pI pN zso))) pN zsc)) (λ_ _ _ _=>(pgc 0)) (λ_ _ _ _=>xbo) (λ_ _ _ _=>(pd O hr (v1 1)))) rfl)
   (zpo (xc9 hu (pxl K (pv 2) pI) (pv 3) (pd l hr (va 0 (pc pI pN zso))) rfl)))))))
   (zpn (xb5 zF rfl (xas (K:=K) rfl (px K (pv 1) pI)) (xbc (K:=K) rfl rfl (xad (pgn 9 nd) (xad (pgn 10 nd) (xad (pgn 11 nd) (xad (pgn 8 nd) xbb)))))
   (zpo (xc9 hu (pxl K (pv 2) pI) (pv 9) (xbh ["_law_k","_law_feed_here","_law_kind","_law_make_here"] [none,some 0,some 8,some 1] rfl (by kernel_rfl) (xcb rfl T.uA (pc (pd l hr (va 0 (pc pI pN zso))) pN zsc)) (λ_ _ _ _=>(pgc 0)) (λ_ _ _ _=>xbo) (λ_ _ _ _=>(pd x hr (va 1 (pc (px K (pv 3) pI) (v1 2) ss))))) rfl)))
   (zpo (xaf (pv 2)))))),xab λR1 dc=>?_⟩
 intro d0 n0 d1 n1 d2 n2 d3 n3;refine⟨(by walk_at"s"),λp np=>dc _ _ (xab λR2 db=>?_)⟩;obtain⟨HF,c1,sF,pF⟩:=Pts.init n0 n1 n2 n3 np (hs0 C);rw[<- c1];clear c1 n0 n1 n2 n3 np;generalize ({dx:=0,sd:=d0,bd:=d1,td:=d2,cd:=d3,sa:=λ_=>0,pa:=λ_=>0,la:=λ_=>0,ta:=λ_=>0}:HsA)=a0 at pF;have fF:Fed Y H HF:=(Fed.refl hf).same sF;have G:∀{H':Hp},Fed Y H H'->∀b vs,H b=some (.tup vs)->H' b=some (.tup vs):=λg=>xai (jEE _ _ hf) g;refine(xaa _ rfl ma _ _ _ rfl rfl (zB (sF _ _ aq)) rfl (jEAA ha rfl ⟨_,zB (sF _ _ be)⟩ ?_))
 refine xcz (xs:=uh) (λi σ H'=>∃(a:HsA) (st:HSt) (o3 o4 o5 o6 o7 o8:Option V),σ=[some (.ref Y),some (.ref ma),some (.ref p),o3,o4,o5,o6,o7,o8,none,none,none]/\Fed Y H H'/\Pts H H' p ((hn C).take i) ((hn C).take i) ((hn C).take i) [] a st/\HsSo C st i)
  (xal a0 (hs0 C) none none none (xcm none none none rfl fF (by rw[List.take_zero];exact pF) (λhd h=>by rw[List.take_zero]at h;cases h))) (λi σ H' _ p=>by obtain⟨_,_,_,_,_,_,_,_,_,g,_⟩:=p;exact zB (G g _ _ be)) ?_ ?_
 ·rintro i y σ H1 hy ⟨a,st,o3,o4,o5,o6,o7,o8,rfl,f1,pt,so⟩
  obtain⟨d,a8,rd⟩:=bf.get hy;rw[zGM]at a8;obtain⟨hd,b0,rfl⟩:=zMS a8;have I:=zMG b0;have hz:(hn C)[i]?=some hd.name:=by rw[zGM,b0];rfl
  obtain⟨cu,bv,rv,rfl,bc,h1,h2⟩:=hd_d rd;obtain⟨ra,ur,rfl,ce,d8⟩:=h2;obtain⟨ba,ub,rfl,bq,br⟩:=h1;have ck:=d8.length;have cm:=br.length;rw[zLM]at ck cm;have af:=a6.hok hd I;have h5:=af.few;have dj:=af.len;have df:=af.pos;have bb:=af.kin;obtain⟨p1,q1,b4⟩:=f1.2;refine(xay cu _ rfl (zB (G f1 _ _ bc)) rfl _ _ rfl _ (xar _ rfl _ _ rfl rfl (xab λS1 d7=>?_)));intro c nc;refine d7 _ _ (xab λS2 d6=>?_);have bu:Fed Y H1 (upd H1 c (.dK [])):=(Fed.refl b4).same (zA nc _);have cw:H c=none:=xi7 f1 nc;refine(xbi _ rfl ba rfl ⟨_,zB (G (f1.trans bu) _ _ bq)⟩ ?_);have cf:c≠Y:=ne b4 nc
  refine xcz (xs:=ub) (λj σ H2=>∃(kvs:List (Key×V)) (bx:List (Str×D)) (o7 o8:Option V),σ=[some (.ref Y),some (.ref ma),some (.ref p),some (.str hd.name),some (.ref ba),some (.ref ra),some (.ref c),o7,o8,none,none,none]/\Fed Y H1 H2/\H2 c=some (.dK kvs)/\KvD H2 kvs bx/\bx.map (·.1)=(hd.boxes.take j).map (·.1)/\∀(j:Nat) b d,hd.boxes[j]?=some b->bx[j]?=some d->Vk C.kinds b.2 d.2)
   (xap ([]) ([]) o7 o8 rfl bu ups trivial (by rw[List.take_zero];rfl) (λj b d _ h=>by simp at h)) (λj σ H' _ p=>by obtain⟨_,_,_,_,_,g,_⟩:=p;exact zB (G (f1.trans g) _ _ bq)) ?_ ?_
  ·rintro j y σ H2 hy ⟨kvs,bx,o7,o8,rfl,f2,aw,ah,ab,a7⟩
   obtain⟨d,a8,rd⟩:=br.get hy;rw[zGM]at a8;obtain⟨b,ai,rfl⟩:=zMS a8;obtain⟨pb,ws,rfl,cg,_,_,rfl,rfl,_,_,rfl,rfl,rfl⟩:=rd;have cy:=zMG ai;have ac:=f1.trans f2;obtain⟨p2,q2,U⟩:=f2.2;refine(xay pb _ rfl (zB (G ac _ _ cg)) rfl _ _ rfl _ (jEAA _ rfl rfl ?_));refine(xan _ rfl _ rfl ma _ _ (xbr _ rfl rfl (zB (G ac _ _ aq)) rfl _ rfl Y kv p2 (xch q2 C.kinds b.2 rfl U (ar.tups (G ac) _) a6.wf (bb b cy) (λu e H3 f3 cc c9=>?_))));have al:=xai (jEE p2 q2 U) f3;have bn:=f3.1 _ _ aw cf
   have bo:bx.length=j:=by
    have:=congrArg List.length ab;have co:=(zES ai).1;rw[zLM,zLM,List.length_take]at this;omega
   have co:=(zES ai).1;have dh:kvs.length=j:=ah.length.trans bo;refine(jEA _ rfl (xar _ rfl c _ rfl (DPut.k (k:=Sum.inr b.1) bn (xa3 (by omega))) ?_))
   have b8:∀p∈kvs,p.1≠(Sum.inr b.1:Key):=λp hp e=>by
    have hm:p.1∈kvs.map (·.1):=qD hp;rw[ah.keys,e]at hm;obtain⟨b2,cz,e2⟩:=zMP hm;have e3:b2.1=b.1:=Sum.inr.inj e2;have m:b2.1∈(hd.boxes.take j).map (·.1):=by rw[<- ab];exact qD cz
    rw[e3,List.map_take]at m;exact xdl af.nd (by rw[zGM,ai];rfl) _ m rfl
   rw[xm2 b8];have w1:=(xe5 (kv':=kvs++[(Sum.inr b.1,u)]) bn).1;refine(xap (kvs++[(Sum.inr b.1,u)]) (bx++[(b.1,e)]) _ _ rfl (M.Fed.put (f2.trans f3) nc cf _) ups ?_ ?_ ?_)
   ·exact(ah.tups λb vs e=>w1 _ _ (al _ _ e)).snoc (cc.tups w1 _)
   ·rw[zAP,ab,zTA,ai,zAP]
    rfl
   ·intro k b9 d9 g1 g2
    rcases Nat.lt_or_ge k bx.length with hk |hk
    ·rw[List.getElem?_append_left hk]at g2
     exact a7 k b9 d9 g1 g2
    ·rw[List.getElem?_append_right hk]at g2
     have ar:k-bx.length=0:=by
      rcases Nat.eq_zero_or_pos (k-bx.length) with z |z
      ·exact z
      ·rw[List.getElem?_eq_none (by rw[List.length_singleton];exact z)]at g2;cases g2
     rw[ar]at g2;cases g2;have:k=j:=by omega
     subst this;rw[ai]at g1;cases g1;exact c9
  rintro σ H2 ⟨kvs,bx,o7,o8,rfl,f2,aw,ah,ab,a7⟩;refine d6 _ _ (xab λS3 d5=>?_);rw[zTL (by omega)]at ab;have aa:=pt.fed J (jEE _ _ b4) f2;obtain⟨p2,q2,U⟩:=f2.2;have ac:=f1.trans f2;have c6:c≠a.sd/\c≠a.bd/\c≠a.td/\c≠a.cd:=(jAAA (ne pt.hsd nc) (ne pt.hbd nc) (ne pt.htd nc) (ne pt.hcd nc));clear pt f2 nc;refine(xbg _ rfl _ rfl ra _ rfl (.inr (zB (G ac _ _ ce))) Y (xa6 p2 q2 _ rfl U (by omega) (by omega) (λr H3 r0 r1 f3=>(jEAA _ rfl (by walk_at"s") (λt ht=>?_)))));have al:=xai (jEE p2 q2 U) f3;have sT:=zA ht (.tup [.int r,.ref c]);have aj:=(ac.trans f3).same sT;have ae:=(aa.fed J (jEE _ _ U) f3).same sT;obtain⟨rj,rfl⟩:∃k:Nat,r=(k:Int):=⟨r.toNat,by omega⟩;have ax:StAt (upd H3 t (.tup [.int (rj:Int),.ref c])) t c rj bx:=(jAEA ups kvs (sT _ _ (f3.1 _ _ aw cf)) ((ah.tups al).tups (Same.tups sT)));generalize upd H3 t (.tup [.int (rj:Int),.ref c])=H4 at ax aj ae⊢;refine(xaa _ rfl p _ _ _ rfl rfl (zC ae.hp) (xam (j:=0) rfl) (xar _ rfl a.sd _ rfl (DPut.k (k:=Sum.inr hd.name) ae.hsd (few _ _ _ (by omega))) (d5 _ _ (ae.putS ak hz ax cw c6 λH5 a2 Z k5=>xab λS4 d4=>?_))));have a1:=xnk aj ae.fr.2.1 J k5;have bp:Beg C hd rj bx:=Beg.of (by omega) ab af.nd a7
  have b7:HsSo C {st with sd:=upF st.sd hd.name (rj,bx)} i:=λh2 m=>by
   have ci:h2.name≠hd.name:=xdl ak hz _ (by rw[<- List.map_take];exact qD m);have:=so h2 m;show Beg C h2 (upF st.sd hd.name (rj,bx) h2.name).1 (upF st.sd hd.name (rj,bx) h2.name).2/\_;rw[xa4 ci];exact this
  have c0:({st with sd:=upF st.sd hd.name (rj,bx)}:HSt).sd hd.name=(rj,bx):=xao;generalize ({st with sd:=upF st.sd hd.name (rj,bx)}:HSt)=am at Z b7 c0;clear ae aa ax aj ah aw f3 U sT ht al ac so a7 ab k5;obtain⟨p5,q5,b3⟩:=a1.2;refine(xaa _ rfl Y p5 q5 3 rfl b3 (by decide) (by decide) (λr H6 r0 r1 f6=>?_));obtain⟨k6,rfl⟩:∃k:Nat,r=(k:Int):=⟨r.toNat,by omega⟩;refine(xb8 k6 rfl (by omega) (by omega) ?_);have bz:=a1.trans f6;obtain⟨p6,q6,b1⟩:=f6.2;refine xdb (n:=k6) (j:=0) (λj ys H'=>Fed Y H6 H'/\∃is:List Int,ys=is.map V.int) (by rfl) (jAE (Fed.refl b1) ([]) rfl) (xa3 (by omega)) ?_ ?_
  ·rintro j ys H7 hj ag ⟨f7,is,rfl⟩
   obtain⟨p7,q7,cr⟩:=f7.2;exact(jEA _ rfl (xbn Y p7 q7 rfl cr (λi H8 di f8=>nxt hj ag (jAE (f7.trans f8) (is++[i]) (by rw[zAP];rfl)))))
  rintro ys H7 ag ⟨f7,is,rfl⟩ D hD;have sD:=zA hD (.lst (is.map V.int));have b6:=bz.trans f7;have a5:=(Z.fed J (jEE _ _ b3) f6).fed J (jEE _ _ b1) f7;have a9:=a5.same sD;refine(xaa _ rfl p _ _ _ rfl rfl (zC a9.hp) (xam (j:=2) rfl) (xar _ rfl a2.td _ rfl (DPut.k (k:=Sum.inr hd.name) a9.htd (few _ _ _ (by omega))) (d4 _ _ (a9.putT ak hz ups (xne is) (xi7 b6 hD) (jAA (ne a5.hp hD) (λy hy e=>(by obtain⟨us,e2,_⟩:=a5.tel y hy;rw[e,hD]at e2;cases e2)) (λy hy=>nomatch hy)) λH8 a3 c5 k8=>?_))));have bw:=xnk (b6.same sD) a9.fr.2.2.2.1 J k8;have cp:is.length<=4:=by rw[zLM]at ag;omega
  clear a9 a5 Z b6 bz f6 f7 sD hD a1 b1 b3 k8;obtain⟨p8,q8,bg⟩:=bw.2;refine(xaa _ rfl Y p8 q8 1000 rfl bg (by decide) (by decide) (λr H9 r0 r1 f9=>?_));obtain⟨k9,rfl⟩:∃k:Nat,r=(k:Int):=⟨r.toNat,by omega⟩;have ao:=c5.fed J (jEE _ _ bg) f9;refine(xaa _ rfl p _ _ _ rfl rfl (zC ao.hp) (xam (j:=3) rfl) (xar _ rfl a3.cd _ rfl (DPut.k (k:=Sum.inr hd.name) ao.hcd (few _ _ _ (by omega))) (ao.putC ak hz k9 λdl a4 c4 c7=>(xal a4 _ _ _ _ (xcm _ _ _ rfl (xnk (bw.trans f9) ao.fr.2.2.2.2 J c7) c4 (λh2 m=>?_))))));rw[zTA,b0]at m;show Beg C h2 (am.sd h2.name).1 (am.sd h2.name).2/\(upF am.tl hd.name (is.map M.D.int) h2.name).length<=4/\∀d∈upF am.tl hd.name (is.map M.D.int) h2.name,d.deep<=12;rcases zMA m with m |m
  ·rw[xa4 (xdl ak hz _ (by rw[<- List.map_take];exact qD m))]
   exact b7 h2 m
  ·rw[Option.toList_some,List.mem_singleton]at m
   subst m;rw[xao,c0];refine(jAA bp (by rw[zLM];exact cp) (λd hd=>?_));obtain⟨i,_,rfl⟩:=zMP hd;show M.D.deep (.int i)<=12;unfold M.D.deep;decide
 rintro σ H1 ⟨a,st,o3,o4,o5,o6,o7,o8,rfl,f1,pt,so⟩;rw[zTL (show(hn C).length<=uh.length by rw[zLM];omega)]at pt;have an:∀hd∈C.hands,Beg C hd (st.sd hd.name).1 (st.sd hd.name).2/\(st.tl hd.name).length<=4/\∀d∈st.tl hd.name,d.deep<=12:=λhd I=>so hd (by rw[zTL (by omega)];exact I);refine db _ _ (xab λR3 da=>?_);refine(xaa _ rfl ma _ _ _ rfl rfl (zB (G f1 _ _ aq)) rfl (jEAA ca rfl ⟨_,zB (G f1 _ _ bl)⟩ ?_))
 refine xcz (xs:=uc) (λi σ H'=>∃(a:HsA) (s2:HSt) (o8 o9 az ay:Option V),σ=[some (.ref Y),some (.ref ma),some (.ref p),o3,o4,o5,o6,o7,o8,o9,az,ay]/\Fed Y H H'/\Pts H H' p (hn C) (hn C) (hn C) ((cn C).take i) a s2/\s2.sd=st.sd/\s2.tl=st.tl/\∀c∈C.chans.take i,(s2.bt c.1).length<=4/\∀d∈s2.bt c.1,Vk C.kinds c.2.2.2 d)
  (xal a st o8 none none (xbd none rfl f1 (by rw[List.take_zero];exact pt) rfl rfl (λc h=>by rw[List.take_zero]at h;cases h))) (λi σ H' _ p=>by obtain⟨_,_,_,_,_,_,_,g,_⟩:=p;exact zB (G g _ _ bl)) ?_ ?_
 ·rintro i y σ H2 hy ⟨a2,s2,o8,o9,az,ay,rfl,f2,aa,e1,e2,av⟩
  obtain⟨d,a8,rd⟩:=bm.get hy;rw[zGM]at a8;obtain⟨ch,b5,rfl⟩:=zMS a8;have I:=zMG b5;have hz:(cn C)[i]?=some ch.1:=by rw[zGM,b5];rfl
  obtain⟨de,_,rfl,bj,_,_,rfl,rfl,_,_,rfl,rfl,_,_,rfl,rfl,_,_,rfl,rfl,rfl⟩:=rd;obtain⟨p2,q2,U⟩:=f2.2;refine(xay de _ rfl (zB (G f2 _ _ bj)) rfl _ _ rfl _ (jEA _ rfl (jEEA _ _ rfl (xaw _ _ rfl rfl ?_))));refine(xaa _ rfl Y p2 q2 4 rfl U (by decide) (by decide) (λr H3 r0 r1 f3=>?_));obtain⟨k3,rfl⟩:∃k:Nat,r=(k:Int):=⟨r.toNat,by omega⟩;refine(xb8 k3 rfl (by omega) (by omega) ?_);have aj:=f2.trans f3;obtain⟨p3,q3,bi⟩:=f3.2;refine xdb (n:=k3) (j:=0) (λj ys H'=>Fed Y H3 H'/\∃ds:List M.D,RelDs H' ys ds/\∀d∈ds,Vk C.kinds ch.2.2.2 d) (by rfl) (jAEA (Fed.refl bi) ([]) rfl (λd h=>nomatch h)) (xa3 (by omega)) ?_ ?_
  ·rintro j ys H4 hj ag ⟨f4,ds,au,a7⟩
   obtain⟨p4,q4,bh⟩:=f4.2;have a1:=aj.trans f4;refine(xan _ rfl _ rfl ma _ _ (xbr _ rfl rfl (zB (G a1 _ _ aq)) rfl _ rfl Y kv p4 (xch q4 C.kinds ch.2.2.2 rfl bh (ar.tups (G a1) _) a6.wf (a6.ckin ch I) (λu e H5 f5 cb c8=>nxt hj ag (jAEA (f4.trans f5) (ds++[e]) ?_ (λd hd=>?_))))))
   ·exact(au.tups (xai (jEE p4 q4 bh) f5) _).append (xaw u ([]) rfl cb rfl)
   ·rcases zMA hd with hd |hd
    ·exact a7 d hd
    ·rw[zMO hd];exact c8
  rintro ys H4 ag ⟨f4,ds,au,a7⟩ D hD;have sD:=zA hD (.lst ys);have a1:=aj.trans f4;have Z:=(aa.fed J (jEE _ _ U) f3).fed J (jEE _ _ bi) f4;have a5:=Z.same sD;refine(xaa _ rfl p _ _ _ rfl rfl (zC a5.hp) (xam (j:=1) rfl) (xar _ rfl a2.bd _ rfl (DPut.k (k:=Sum.inr ch.1) a5.hbd (few _ _ _ dd)) (a5.putL c3 hz ups (au.same sD _) (xi7 a1 hD) (jAA (ne Z.hp hD) (λy hy e=>(by obtain⟨us,e2,_⟩:=Z.let_ y hy;rw[e,hD]at e2;cases e2)) (λy hy e=>(by obtain⟨us,e2,_⟩:=Z.tel y hy;rw[e,hD]at e2;cases e2))) λH6 a3 a9 k6=>(xal a3 _ _ _ _ (xbd _ rfl (xnk (a1.same sD) Z.fr.2.2.1 J k6) a9 e1 e2 (λc2 m=>?_))))));rw[zTA,b5]at m;show(upF s2.bt ch.1 ds c2.1).length<=4/\∀d∈upF s2.bt ch.1 ds c2.1,_;rcases zMA m with m |m
  ·rw[xa4 (xdl c3 hz _ (by rw[<- List.map_take];exact qD m))]
   exact av c2 m
  ·rw[Option.toList_some,List.mem_singleton]at m
   subst m;rw[xao];exact⟨by rw[<- au.length];omega,a7⟩
 ·rintro σ H2 ⟨a2,s2,o8,o9,az,ay,rfl,f2,aa,e1,e2,av⟩
  rw[zTL (show(cn C).length<=uc.length by rw[zLM];omega)]at aa;rw[zTL (by omega)]at av;refine da _ _ (jEA _ rfl (q p a2 s2 H2 f2 aa ⟨λhd I=>?_,λhd I=>?_,λhd I=>?_,av,λhd I=>?_⟩))
  ·rw[e1];exact(an hd I).1.row
  ·rw[e1];exact(an hd I).1.keys
  ·rw[e1];exact(an hd I).1.fit
  ·rw[e2];exact(an hd I).2
theorem xt7{c A B:Prop}[Decidable c](h:¬c)(a:A):if (!decide c)=true then A else B:=by rw[zDF h];exact a
theorem xl6{c A B:Prop}[Decidable c](h:c)(b:B):if (!decide c)=true then A else B:=by rw[zDT h];exact b
theorem xpi(T:Tx K mg)(m:MethIs P w K mg base n (ad K "Plain") "stand" qab [[]] (xeo K))(l:MethIs P w K mg base n (ad K "Plain") "letters" qam [[]] (xgq K))(g:MethIs P w K mg base n (ad K "Plain") "still" qaa [[]] (xie K)):DefIs P w K mg base (n+1) "_law_still" qag (xga K):=by
 refine DefIs.of T.kQ scl_still (by walk_at"l") (λf au A outer s H vs Q E hr h=>?_);obtain⟨x,mv,a,st,O,N,rfl,hs,q⟩:=h;have nd:=scl_still.nd;have hu:=xd2 hr;obtain⟨fs,hx,lf⟩:=hs.at_.ob;obtain⟨ma,kv,cv,hv,rfl,ae,_,_,ah⟩:=mk_d hs.md;obtain⟨ha,uh,rfl,a6,a7⟩:=ah;have af:=a7.length;rw[zLM]at af;have h4:=hs.mok.hfew
 refine⟨_,(zpn (xb5 zF rfl (xas (K:=K) rfl (px K (pv 1) pI)) (xbc (K:=K) rfl rfl (xad (pgn 2 nd) (xad (pgn 3 nd) (xad (pgn 4 nd) xbb))))
   (zpn (psn 5 nd (px K (pv 4) (px K (xbs m T.uE.cl hr (pv 0) (v1 2)) pI)))
   (zpo (xba (PW.pt (xcu (pR xph (px K (pv 5) pI) pS (nM _)) (xcg (PW.pt (xlo (pR xph (px K (pv 5) pI) pS (nM _)) (xhx (pR (xvk (Nat.lt_of_succ_lt hu)) (xbs l T.uE.cl hr (pv 0) (pc (px K (pv 5) pI) pN ss)) (xcd pN) (nM _)))))))) (zpo (xaf (xe9 xvm (xdh g T.uE.cl hr (pv 0)) xei (nM _)))) pQ))))
   (zpo (xaf (xe9 xvl (xdh g T.uE.cl hr (pv 0)) xei (nM _))))),xab λR1 al=>?_⟩
 refine(xaa _ rfl ma _ _ _ rfl rfl (zB ae) rfl (jEAA ha rfl ⟨_,zB a6⟩ ?_));refine xcz (xs:=uh) (λi σ H'=>∃o2 o3 o4 o5,σ=[some (.ref x),some (.ref ma),o2,o3,o4,o5]/\Same H H'/\∀hd∈O.hands.take i,∀r,hd.rows[(st.sd hd.name).1]?=some r->r.shutF st.bt=true) (xc6 none none none none rfl ⟨Same.refl _,λhd h=>by rw[List.take_zero]at h;cases h⟩) (λi σ H' _ p=>by obtain⟨_,_,_,_,_,M,_⟩:=p;exact zB (M _ _ a6)) ?_ ?_
 ·rintro i y σ H' hy ⟨o2,o3,o4,o5,rfl,M,U⟩
  obtain⟨d,J,rd⟩:=a7.get hy;rw[zGM]at J;obtain⟨hd,a5,rfl⟩:=zMS J;have I:=zMG a5;obtain⟨ai,bv,rv,rfl,a4,_,h2⟩:=hd_d rd;obtain⟨ra,us,rfl,ab,hR⟩:=h2;have ac:hd.name∈hn O:=qD I;obtain⟨r,C⟩:=hs.row I;have hl:=hR.length;rw[zLM]at hl;have ao:=(zES C).1;have hv:us[(st.sd hd.name).1]?=some (us[(st.sd hd.name).1]'(by omega)):=zGA _;obtain⟨d,J,a9⟩:=hR.get hv;rw[zGM,C]at J;cases J;refine(xay ai _ rfl (zB (M _ _ a4)) rfl _ _ rfl _ (xar _ rfl _ _ rfl rfl (xab λS1 ak=>?_)));refine(xbq _ rfl _ rfl x _ fs rfl (M _ _ hx) (lf.no _ (by walk_at"k")) (xaz _ rfl x _ hd.name a (xci st O rfl (hs.at_.same M) ac (by have:=hs.ok.bxlen hs.mok I;omega) (λsa p H1 s1 an a8=>?_))));have o:=M.trans s1;refine(xbe sa _ _ _ rfl rfl (zB a8.1) rfl ra (xa6 _ _ _ rfl rfl (zB (o _ _ ab)) (xam hv) (ak _ _ ?_)));obtain⟨u,a1,am,a3,a2⟩:=xjy (a9.same o _);rw[am];have hh:SqT K H1 u (.str r.hd::a1):=zB a3;have h0:atI (V.str r.hd::a1) 0=some (.str r.hd):=xam (j:=0) rfl
  have Z:∀{H2:Hp},Same H H2->r.shutF st.bt=true->∃o2 o3 o4 o5,[some (V.ref x),some (.ref ma),some (.str hd.name),some bv,some (.ref ra),some (.ref u)]=[some (V.ref x),some (.ref ma),o2,o3,o4,o5]/\Same H H2/\∀hd∈O.hands.take (i+1),∀r,hd.rows[(st.sd hd.name).1]?=some r->r.shutF st.bt=true:=λ{H2} s2 sh=>by
   refine(xc6 _ _ _ _ rfl ⟨s2,λh2 hm r2 a0=>?_⟩);rw[zTA,a5]at hm;rcases zMA hm with hm |hm
   ·exact U h2 hm r2 a0
   ·rw[Option.toList_some,List.mem_singleton]at hm
    subst hm;rw[C]at a0;cases a0;exact sh
  have moves:∀{H2:Hp},Same H H2->r.shutF st.bt=false->∀b:Bool,(b=true ↔ xoh O st)->b=false:=λ{H2} _ sh b Y=>by
   cases b with
   |false=>rfl
   |true=>
    have:=Y.mp rfl hd I r C;rw[sh]at this;cases this
  have G:∀{z y:Str},z≠y->¬(V.str z=V.str y):=λh e=>h (V.str.inj e);rcases row3 r with rfl |⟨lm,c,y,rfl⟩ |⟨x1,x2,x3⟩
  ·exact(xaa _ rfl u _ _ _ rfl rfl hh h0 (jAEA rfl _ rfl (xl6 rfl (Z o rfl))))
  ·obtain⟨_,_,rfl,rfl,_,_,rfl,rfl,_,_,rfl,rfl,rfl⟩:=a2
   obtain⟨ch,aj,rfl,ar,_⟩:=(hs.mok.hok hd I).ok _ (zMG C);refine(xaa _ rfl u _ _ _ rfl rfl hh h0 (jAEA rfl _ rfl (xt7 (G (xkt (by intro e;cases e))) ?_)));refine(xaa _ rfl u _ _ _ rfl rfl hh h0 (jAEA rfl _ rfl (xl6 rfl ?_)));refine(xa7 _ rfl x _ fs rfl (o _ _ hx) (lf.no _ (by walk_at"k")) _ rfl (xbe u _ _ _ rfl rfl hh rfl x (xal _ ch.1 a st O (jAAA rfl (hs.at_.same o) (qD aj) (λla zs H2 s2 aq ag aa=>?_)))));refine⟨(by walk_at"s"),λe he=>(xa6 la e zs rfl rfl (zC (zA he _ _ _ ag)) (zC ups) (jEA _ rfl ?_))⟩;have sA:=o.trans (s2.trans (zA he (.lst [])))
   have e1:Row.shutF st.bt (.take lm ch.1 y)=zs.isEmpty:=by
    show(st.bt ch.1).isEmpty=zs.isEmpty;have:=aa.length;cases Y:st.bt ch.1 <;> cases zs <;> rw[Y]at this <;> first |rfl |cases this
   cases hz:zs.isEmpty with
   |true=>exact Z sA (e1.trans hz)
   |false=>
    refine(xct _ rfl x _ fs rfl (sA _ _ hx) (lf.no _ (by walk_at"k")) x (xal _ a st O N (jAA rfl (hs.same sA) (λb H3 s3 Y=>(jAEA rfl b rfl ?_)))));rw[moves sA (e1.trans hz) b Y];exact q _ (sA.trans s3)
  ·refine(xaa _ rfl u _ _ _ rfl rfl hh h0 (jAEA rfl _ rfl (xt7 (G (xkt x1)) ?_)))
   refine(xaa _ rfl u _ _ _ rfl rfl hh h0 (jAEA rfl _ rfl (xt7 (G (xfd x2)) ?_)));refine(xct _ rfl x _ fs rfl (o _ _ hx) (lf.no _ (by walk_at"k")) x (xal _ a st O N (jAA rfl (hs.same o) (λb H3 s3 Y=>(jAEA rfl b rfl ?_)))));rw[moves o (x3 _) b Y];exact q _ (o.trans s3)
 ·rintro σ H' ⟨o2,o3,o4,o5,rfl,M,U⟩
  rw[zTL (by omega)]at U;refine al _ _ (xct _ rfl x _ fs rfl (M _ _ hx) (lf.no _ (by walk_at"k")) x (xal _ a st O N (jAA rfl (hs.same M) (λb H3 s3 Y=>(jAEA rfl b rfl ?_)))));rw[Y.mpr U];exact q _ (M.trans s3)
theorem xi5{cs:Lts}(nd:(cs.map (·.1)).Nodup){b:Str×List D}(h:b∈cs):getL cs b.1=some b.2:=by
 unfold getL
 cases e:cs.find? λc=>decide (c.1=b.1) with
 |none=>exact absurd (zDT rfl) (List.find?_eq_none.mp e b h)
 |some c=>
  have a:=z0 (zU (p:=λc:Str×List D=>decide (c.1=b.1)) e);rw[xcr nd (zMF e) h a];rfl
theorem xnf(x:Str):∀ys:List Str,inV (.str x) (ys.map V.str)=decide (x∈ys)
 |[]=>rfl
 | y::ys=>by
  show((y == x) || inV (.str x) (ys.map V.str))=_;rw[xnf x ys];by_cases h:y=x
  ·subst h;simp
  ·have h':¬x=y:=λe=>h e.symm
   simp[h,h']
theorem xiu{X:Cx}{K:Fg}(a:X.K=K):OpR X (compareOp .NotIn) (rIn K true):=by subst a;exact xej
def lts(cs:List Chn)(s:HSt)(h:Str):Lts:=(cs.filter λc=>decide (c.2.2.1=h)).map λc=>(c.1,s.bt c.1)
theorem xp3{cs:List Chn}{s:HSt}{h:Str}:(lts cs s h).map (·.1)=(cs.filter λc=>decide (c.2.2.1=h)).map (·.1):=by
 unfold lts;rw[List.map_map];rfl
theorem xp4{e:Mak}(a:MakOk e){s:HSt}{h:Str}{c:Chn}(g:c∈e.chans)(f:c.2.2.1=h):getL (lts e.chans s h) c.1=some (s.bt c.1):=
 xi5 (b:=(c.1,s.bt c.1)) (by rw[xp3];exact zW (List.Sublist.map _ List.filter_sublist) a.cnd) (List.mem_map.mpr (jEA c (List.mem_filter.mpr ⟨g,zDT f⟩) rfl))
theorem xqw{e:Mak}(a:MakOk e){cs:Lts}{h:Str}{c:Chn}(g:c∈e.chans)(f:c.2.2.1=h):getL (comL e h cs) c.1=some ((getL cs c.1).getD []):=
 xi5 (b:=(c.1,(getL cs c.1).getD [])) (by rw[xfp];exact xqx a.cnd h) (List.mem_map.mpr (jEA c.1 (List.mem_map.mpr (jEA c (List.mem_filter.mpr ⟨g,zDT f⟩) rfl)) rfl))
theorem xuc{e:Mak}(a:MakOk e){h:Str}{c:Chn}(g:c∈e.chans)(f:c.2.1=h):getL (goiL e h) c.1=some []:=
 xi5 (b:=(c.1,[])) (by rw[xg8];exact xky a.cnd h) (List.mem_map.mpr (jEA c.1 (List.mem_map.mpr (jEA c (List.mem_filter.mpr ⟨g,zDT f⟩) rfl)) rfl))
def xrw(mk:Mak)(s:HSt)(h:Str):LSt:=⟨(s.sd h).1,(s.sd h).2,comL mk h (lts mk.chans s h),goiL mk h,[],0⟩
theorem xrv{a:Mak}{s:HSt}{N:Nat}{hd:Hand}(f:MakOk a)(g:hd∈a.hands)(o:HOk a s N):LOk a hd (xrw a s hd.name):=by
 refine⟨o.row hd g,o.keys hd g,o.fit hd g,?_,?_,λc i ds m d n=>?_,λp x=>?_,qL _,λ_ h=>nomatch h⟩
 ·show(comL a hd.name _).map (·.1)=_
  rw[xfp];rfl
 ·show(goiL a hd.name).map (·.1)=_
  rw[xg8];rfl
 ·have b:getL (comL a hd.name (lts a.chans s hd.name)) c.1=some ds:=m
  by_cases j:c.2.2.1=hd.name
  ·rw[xqw f i j,xp4 f i j]at b
   have e:s.bt c.1=ds:=z8 b;exact(o.cok c i).2 d (by rw[e];exact n)
  ·exfalso
   obtain⟨q,u,_⟩:=zMS b;have l:=z0 (zU (p:=λq:Str×List D=>decide (q.1=c.1)) u);have w:q.1∈(comL a hd.name (lts a.chans s hd.name)).map (·.1):=qD (zMF u);rw[xfp,l]at w;obtain⟨C,r,e⟩:=zMP w;obtain⟨z,y⟩:=List.mem_filter.mp r;have:C=c:=xcr f.cnd z i e;subst this;exact j (z0 y)
 ·obtain⟨c,_,rfl⟩:=zMP (show p∈goiL a hd.name from x)
  exact⟨qL _,λ_ h=>nomatch h⟩
theorem sim0{b:Mak}{s:HSt}{h:Str}(a:MakOk b):Sim b h s s (xrw b s h):=by
 refine⟨rfl,(List.append_nil _).symm,rfl,λc e g=>?_,λc e f=>?_⟩
 ·show _=_++(getL (goiL b h) c.1).getD []
  rw[xuc a e g];exact(List.append_nil _).symm
 ·show _=(getL (comL b h (lts b.chans s h)) c.1).getD []
  rw[xqw a e f,xp4 a e f];rfl
theorem lsC{H:Hp}{la:Str->Addr}{s:HSt}:∀{cs:List Chn},(∀c∈cs,∃us,H (la c.1)=some (.lst us)/\RelDs H us (s.bt c.1))->LsAt H (cs.map λc=>(Sum.inr c.1,.ref (la c.1))) (cs.map λc=>(c.1,s.bt c.1)) (cs.map λc=>la c.1)
 |[],_=>trivial
 |c::cs,h=>(jAA rfl (h c (by simp)) (lsC λy a=>h y (qC _ a)))
theorem xq7{H:Hp}{sa pa j pb:Addr}{r:Nat}{bx:List (Str×D)}(h:StAt H sa pa r bx)(h':StAt H j pb r bx)(nd:(bx.map (·.1)).Nodup)(dp:∀b∈bx,b.2.deep<=12):EqS H 12 (.ref sa) (.ref j):=by
 obtain⟨n,o,g,c⟩:=h;obtain⟨m,l,f,a⟩:=h';refine .inr (.inl (xah _ _ _ _ rfl rfl (.inl ⟨n,m⟩) rfl (λi u z e hz=>?_)));rcases i with _ |_ |i
 ·cases e;cases hz
  exact EqS.dat (.inl (jEAA (.int r) rfl rfl (by show D.deep (.int r)<=100;unfold D.deep;decide)))
 ·cases e;cases hz
  exact xi8 g f c a nd dp
 ·cases e
theorem xl3{H:Hp}{l b:Addr}{us a:List V}{ds:List D}(h:H l=some (.lst us))(h':H b=some (.lst a))(r:RelDs H us ds)(c:RelDs H a ds)(dp:∀d∈ds,d.deep<=12):EqS H 12 (.ref l) (.ref b):=
 EqS.dat (.inr (xaj l b us a ds rfl rfl h h' r ⟨c,zY (xeb dp) (by decide)⟩))
structure Two(K:Fg)(HB H:Hp)(x y lt:Addr)(mv:V)(a:HsA)(al:LnA)(s0 s:HSt)(st:LSt)(mk:Mak)(hd:Hand)(N:Nat):Prop where
 sm:Same HB H
 hs:HsHere K H x mv a s mk N
 ln:LnHere K H y mv hd.name al st mk hd
 sim:Sim mk hd.name s0 s st
 fh:∀b,a.F mk x b->HB b=none
 fl:∀b∈al.F y,HB b=none
 dj:∀b,a.F mk x b->b ∉al.F y
 hlt:∃ut,H lt=some (.lst ut)/\RelDs H ut (s0.tl hd.name)
 nh:¬a.F mk x lt
 nl:lt ∉al.F y
 many:st.many<=N
theorem Two.same{K:Fg}{h H i:Hp}{x y lt:Addr}{c:V}{a:HsA}{g:LnA}{b s:HSt}{st:LSt}{f:Mak}{hd:Hand}{N:Nat}(t:Two K h H x y lt c a g b s st f hd N)(q:Same H i):Two K h i x y lt c a g b s st f hd N:=
 ⟨t.sm.trans q,t.hs.same q,t.ln.same q,t.sim,t.fh,t.fl,t.dj,(let ⟨j,e,r⟩:=t.hlt;(jEA j (q _ _ e) (r.same q _))),t.nh,t.nl,t.many⟩
theorem Two.mono{K:Fg}{g H:Hp}{x y lt:Addr}{c:V}{a:HsA}{f:LnA}{b s:HSt}{st:LSt}{e:Mak}{hd:Hand}{N:Nat}(t:Two K g H x y lt c a f b s st e hd N):Two K g H x y lt c a f b s st e hd (N+1):=
 ⟨t.sm,⟨t.hs.at_,t.hs.md,t.hs.mok,t.hs.ok.mono (qG _)⟩,t.ln,t.sim,t.fh,t.fl,t.dj,t.hlt,t.nh,t.nl,Nat.le_succ_of_le t.many⟩
theorem LnHere.keep{K:Fg}{H c:Hp}{y:Addr}{e:V}{a:LnA}{st:LSt}{f:Mak}{hd:Hand}(l:LnHere K H y e hd.name a st f hd)(s:∀b vs,H b=some (.tup vs)->c b=some (.tup vs))(k:∀b∈a.F y,∀o,H b=some o->c b=some o):LnHere K c y e hd.name a st f hd:=⟨l.at_.keep s k,l.md.tups s _,l.mok,l.hf,l.ok⟩
theorem Two.step {K:Fg} {HB H:Hp} {x y lt:Addr} {mv:V} {a a':HsA} {al al':LnA} {s0 s s':HSt} {st st':LSt} {mk:Mak} {hd:Hand} {N:Nat} {H1 H2:Hp} (t:Two K HB H x y lt mv a al s0 s st mk hd N) (f:HFr mk x a a' H H1) (h:HsHere K H1 x mv a' s' mk (N+1))
  (fr:∀b o,H1 b=some o->b ∉al.F y->H2 b=some o) (tp:∀b vs,H1 b=some (.tup vs)->H2 b=some (.tup vs)) (nw:∀b∈al'.F y,b∈al.F y\/H1 b=none) (l:LnHere K H2 y mv hd.name al' st' mk hd) (sim:Sim mk hd.name s0 s' st') (hm:st'.many<=N+1):Two K HB H2 x y lt mv a' al' s0 s' st' mk hd (N+1):=by
 have lthere:=t.ln.at_.there;have hth:=h.at_.there
 have d1:∀b,a'.F mk x b->b ∉al.F y:=λb hb hl=>by
  rcases f.nw b hb with z |z
  ·exact t.dj b z hl
  ·obtain⟨o,e,_⟩:=lthere b hl
   rw[z]at e;cases e
 have s1:Same HB H1:=λb o e=>f.fr b o (t.sm b o e) λz=>by rw[t.fh b z]at e;cases e
 have hs2:HsHere K H2 x mv a' s' mk (N+1):=h.keep tp λb hb o e=>fr b o e (d1 b hb);obtain⟨ut,hlt,rut⟩:=t.hlt;have hlt1:=f.fr _ _ hlt t.nh;refine⟨λb o e=>fr b o (s1 b o e) λz=>?_,hs2,l,sim,λb hb=>?_,λb hb=>?_,λb hb hl=>?_,(jEA ut (fr _ _ hlt1 t.nl) ((rut.tups f.tp _).tups tp _)),λz=>?_,λz=>?_,hm⟩
 ·rw[t.fl b z]at e;cases e
 ·rcases f.nw b hb with z |z
  ·exact t.fh b z
  ·exact xae t.sm z
 ·rcases nw b hb with z |z
  ·exact t.fl b z
  ·exact xae s1 z
 ·rcases nw b hl with z |z
  ·exact d1 b hb z
  ·obtain⟨o,e,_⟩:=hth b hb
   rw[z]at e;cases e
 ·rcases f.nw lt z with z |z
  ·exact t.nh z
  ·rw[z]at hlt;cases hlt
 ·rcases nw lt z with z |z
  ·exact t.nl z
  ·rw[z]at hlt1;cases hlt1
abbrev laS(ma f p l3 l4 c7 x y lt:Addr)(hd:Hand)(o8 o9 o10 o11 o14:Option V):St:=[some (.ref ma),some (.ref f),some (.ref p),some (.ref l3),some (.ref l4),some (.str hd.name),some (.ref x),some (.ref c7),o8,o9,o10,o11,some (.ref y),some (.ref lt),o14]
abbrev LaI(K:Fg)(HB:Hp)(ma f p l3 l4 c7 x y lt:Addr)(s0:HSt)(mk:Mak)(hd:Hand)(i:Nat)(σ:St)(H:Hp):Prop:=∃(a':HsA) (al':LnA) (s':HSt) (st:LSt) (o8 o9 o10 o11 o14:Option V),σ=laS ma f p l3 l4 c7 x y lt hd o8 o9 o10 o11 o14/\Two K HB H x y lt (.ref ma) a' al' s0 s' st mk hd (4+i)
abbrev LaJ(G:Hp)(ma f p l3 l4 c7 x y lt:Addr)(hd:Hand)(i:Nat)(j:Nat)(σ:St)(H:Hp):Prop:=∃(o8 o9 o10 o11:Option V),σ=laS ma f p l3 l4 c7 x y lt hd o8 o9 o10 o11 (some (.int (0+(i:Int))))/\Same G H
def xle(K:Fg):Sp:=λvs H Q _=>∃(f:Addr) (mv:V) (x y:Int) (mk:Mak),vs=[mv,.ref f]/\H f=some (.lst [.int x,.int y])/\RelD H mv mk.d/\MakOk mk/\mk.hands≠[]/\∀H',Q (.bl true) H'
theorem xhm (T:Tx K mg) (ao:DefIs P w K mg base (n+1) "_law_own" qa8 (xow K)) (af:DefIs P w K mg base (n+1) "_law_take" qae xcw) (an:DefIs P w K mg base (n+1) "plain_at" qaw (xfe K)) (a5:DefIs P w K mg base (n+1) "_law_still" qag (xga K))
  (M:MethIs P w K mg base (n+1) (ad K "Plain") "stand" qab [[]] (xeo K)) (a6:MethIs P w K mg base (n+1) (ad K "Plain") "told" qab [[]] (xid K)) (O:MethIs P w K mg base (n+1) (ad K "Plain") "count" qab [[]] (xf9 K)) (u:MethIs P w K mg base (n+1) (ad K "Plain") "letters" qam [[]] (xgq K)) (a7:MethIs P w K mg base (n+1) (ad K "Plain") "step" qab [[]] (xgp K))
  (ak:MethIs P w K mg base n (ad K "Lone") "__init__" qaq [[.none],[]] (xlg K)) (ah:MethIs P w K mg base (n+1) (ad K "Lone") "step" qaa [[]] (xlf K)) (a8:MethIs P w K mg base (n+1) (ad K "Lone") "stand" qaa [[]] (xig K)) (ag:MethIs P w K mg base (n+1) (ad K "Lone") "told" qaa [[]] (xov K)) (ai:MethIs P w K mg base (n+1) (ad K "Lone") "sent" qaa [[]] (xep K LSt.goi)) (aj:MethIs P w K mg base (n+1) (ad K "Lone") "left" qaa [[]] (xep K LSt.com)) (a9:MethIs P w K mg base (n+1) (ad K "Lone") "count" qaa [[]] (xmu K)) :
  DefIs P w K mg base (n+2) "_law_lone_alike" qa9 (xle K):=by
 refine DefIs.of T.kR scl_lone_alike (by walk_at"l") (λf fi A outer s H vs Q E hr h=>?_);obtain⟨f',mv,x0,y0,l,rfl,hf,md,m,e4,k⟩:=h;have nd:=scl_lone_alike.nd;have hu:=xd2 hr;have bf:=xsu hr;have h4:=m.hfew;have h6:=m.cfew;have fa:(hn l).Nodup:=m.hnd;have ew:(cn l).Nodup:=m.cnd
 refine⟨_,(zpn (psn 2 nd (pd ao hr (va 1 (v1 0))))
   (zpn (psn 3 nd (xbh ["_law_channel"] [none] rfl (by kernel_rfl) (xas (K:=K) rfl (px K (pv 0) pI)) (λ_ _ _ _=>(pgc 0)) (λ_ _ _ _=>(xdr (pR xbf (px K (pv 0) pI) (px K (pv 0) pI) (nM _)))) (λ_ _ _ _=>(px K (pv 0) pI))))
   (zpn (xc8 (i:=4) ["_law_hand","_law_alone"] [none,some 3] rfl (by kernel_rfl) nd rfl (by walk_at"o") (xas (K:=K) rfl (px K (pv 0) pI)) (λ_ _ _ _=>(pgc 0)) (λ_ _ _ _=>(xdr (pR (xiu (K:=K) rfl) (px K (pv 0) pI) (pv 1) (by with_unfolding_all rfl)))) (λ_ _ _ _=>(px K (pv 0) pI)))
   (zpn (xba (pR (xvq (Nat.lt_of_succ_lt hu)) (pv 4) (xcd pN) (nM _)) (zpo (xaf xei)) pQ)
   (zpn (psn 5 nd (pxl K (pv 4) (pd af hr (va 1 (pc (xax (xag (K:=K) rfl) rfl T.kY zE (v1 4)) pN zsc)))))
   (zpn (psn 6 nd (pd an hr (va 0 (pc (pxl K (pv 2) pI) (pc (pxl K (pv 2) pI) (pc (pxl K (pv 2) pI) (pc (pxl K (pv 2) pI) pN ss) ss) ss) ss))))
   (zpn (psn 7 nd xde)
   (zpn (xb5 zF rfl (xas (K:=K) rfl (px K (pv 0) pI)) (xbc (K:=K) rfl rfl (xad (pgn 8 nd) (xad (pgn 9 nd) (xad (pgn 10 nd) (xad (pgn 11 nd) xbb)))))
   (zpo (xba (pR xbf (pv 10) (pv 5) (nM _)) (zpo (xc9 hu (pv 7) (pv 8) (xb2 hu (pxl K (pv 2) pI) (pv 8) (λ_ _=>rfl)) rfl)) pQ)))
   (zpn (psn 12 nd (xgx (ds:=[]) (dvs:=[]) ak T.uG hr T.uF (by simp) .nil (va 0 (va 5 (va 7 (pc (xb2 hu (pxl K (pv 2) pI) (pv 5) (λ_ _=>rfl)) pN ss))))))
   (zpn (psn 13 nd (xau xb4 rfl T.kZ zM (pc (xb2 hu (pxl K (pv 2) pI) (pv 5) (λ_ _=>rfl)) pN ss)))
   (zpn (xb5 zF rfl (xcb rfl T.uA (pc pI pN zso)) (pgn 14 nd)
   (zpn (xba (xsm (xo8 (pd a5 hr (va 6 (v1 0))))) (zpo (xaf xei)) pQ)
   (zpn (xba (PW.pt (xlo (pR (xfu bf) (xbs M T.uE.cl hr (pv 6) (v1 5)) (xdh a8 T.uG.cl hr (pv 12)) (nM _)) (xhx (pR (xfu bf) (xbs a6 T.uE.cl hr (pv 6) (v1 5)) (xaq xfx (pv 13) (xdh ag T.uG.cl hr (pv 12))) (nM _))))) (zpo (xaf xei)) pQ)
   (zpn (xba (pR xph (xbs O T.uE.cl hr (pv 6) (v1 5)) (xaq xbk (xb2 hu (pxl K (pv 2) pI) (pv 5) (λ_ _=>rfl)) (xdh a9 T.uG.cl hr (pv 12))) (nM _)) (zpo (xaf xei)) pQ)
   (zpn (xb5 zF rfl (xas (K:=K) rfl (px K (pv 0) pI)) (xbc (K:=K) rfl rfl (xad (pgn 8 nd) (xad (pgn 9 nd) (xad (pgn 10 nd) (xad (pgn 11 nd) xbb)))))
   (zpn (xba (PW.pt (xcu (pR xbf (pv 9) (pv 5) (nM _)) (xcg (pR (xfu bf) (xbs u T.uE.cl hr (pv 6) (v1 8)) (xaq xfx (xb2 hu (pxl K (pv 2) pI) (pv 8) (λ_ _=>rfl)) (xb2 hu (xdh ai T.uG.cl hr (pv 12)) (pv 8) (λ_ _=>rfl))) (nM _))))) (zpo (xaf xei)) pQ)
   (zpo (xba (PW.pt (xcu (pR xbf (pv 10) (pv 5) (nM _)) (xcg (pR (xfu bf) (xbs u T.uE.cl hr (pv 6) (v1 8)) (xb2 hu (xdh aj T.uG.cl hr (pv 12)) (pv 8) (λ_ _=>rfl)) (nM _))))) (zpo (xaf xei)) pQ))))
   (zpo (xba (pR xph (xbs a7 T.uE.cl hr (pv 6) (v1 5)) (xdh ah T.uG.cl hr (pv 12)) (nM _)) (zpo (xaf xei)) pQ)))))))
   (zpo (xaf xei))))))))))))),xab λR1 eu=>?_⟩
 refine(xan _ rfl _ rfl f' mv x0 (xci y0 l rfl hf md m (λp a s0 H1 f1 pt ok=>eu _ _ (xab λR2 et=>?_))));have d0:=md.tups (xai (jEE _ _ hf) f1) _;obtain⟨p1,q1,b3⟩:=f1.2;have f5:∀b,a.F l p b->b≠f':=λb hb e=>by have:=pt.free b hb;rw[e,hf]at this;cases this
 obtain⟨ma,kv,cv,hv,rfl,bj,fc,ef,ea⟩:=mk_d d0;obtain⟨ha,uh,rfl,da,db⟩:=ea;obtain⟨ca,uc,rfl,az,bp⟩:=ef;have e6:=db.length;have e8:=bp.length;rw[zLM]at e6 e8;refine(xaa _ rfl ma _ _ _ rfl rfl (zB bj) rfl (jEAA ca rfl ⟨_,zB az⟩ ?_));refine xbj (xs:=uc) (λi ys H'=>H'=H1/\ys=(((l.chans.take i).filter λc=>decide (c.2.1=c.2.2.1)).map (·.2.1)).map V.str) ⟨rfl,rfl⟩ (xa3 (by omega)) (λi ys H' _ p=>by obtain⟨rfl,_⟩:=p;exact zB az) ?_ ?_
 ·rintro i y ys H' hy hi av ⟨rfl,rfl⟩
  obtain⟨b,c,hc,rfl,hb⟩:=xdz bp hy;refine⟨ext1 rfl,?_⟩;refine(xaa _ rfl b _ _ _ rfl rfl (zB hb) rfl (xaa _ rfl b _ _ _ rfl rfl (zB hb) rfl (jAEA rfl _ rfl (ite2 (λe=>?_) (λe=>?_)))))
  ·refine(xaa _ rfl b _ _ _ rfl rfl (zB hb) rfl (nxtG hi av ⟨rfl,?_⟩))
   rw[xcc hc,if_pos (zDT (V.str.inj (z0 e))),zAP,zAP];rfl
  ·refine nxtN hi av ⟨rfl,?_⟩
   rw[xcc hc,if_neg (λz=>e (zDT (congrArg V.str (z0 z)))),List.append_nil]
 rintro ys HA av ⟨rfl,rfl⟩ l3 cx;rw[zTL (by omega)];obtain⟨al,dk⟩:∃al,al=(l.chans.filter λc=>decide (c.2.1=c.2.2.1)).map (·.2.1):=⟨_,rfl⟩;rw[<- dk];refine et _ _ (xab λR3 es=>?_);have s3:=zA cx (.lst (al.map V.str));have cc:upd HA l3 (.lst (al.map V.str)) l3=some (.lst (al.map V.str)):=ups;generalize upd HA l3 (.lst (al.map V.str))=H3 at s3 cc⊢;refine(xaa _ rfl ma _ _ _ rfl rfl (zB (s3 _ _ bj)) rfl (jEAA ha rfl ⟨_,zB (s3 _ _ da)⟩ ?_));refine xbj (xs:=uh) (λi ys H'=>H'=H3/\ys=(((l.hands.take i).filter λh=>decide (h.name ∉al)).map Hand.name).map V.str) ⟨rfl,rfl⟩ (xa3 (by omega)) (λi ys H' _ p=>by obtain⟨rfl,_⟩:=p;exact zB (s3 _ _ da)) ?_ ?_
 ·rintro i y ys H' hy hi av ⟨rfl,rfl⟩
  obtain⟨d,ax,rd⟩:=db.get hy;rw[zGM]at ax;obtain⟨hd,aw,rfl⟩:=zMS ax;obtain⟨de,bv,rv,rfl,d9,_,_⟩:=hd_d rd;have b2:=s3 _ _ d9;refine⟨ext1 rfl,?_⟩;refine(xaa _ rfl de _ _ _ rfl rfl (zB b2) rfl (xar _ rfl l3 _ rfl (.inl (zC cc)) (jAA rfl (xha _) (jEA _ rfl ?_))));have ev:inV (V.str hd.name) (al.map V.str)=decide (hd.name∈al):=xnf _ _;show if (!inV (V.str hd.name) (al.map V.str))=true then _ else _;rw[ev];refine ite2 (λe=>?_) (λe=>?_)
  ·have e':hd.name ∉al:=by simpa using e
   refine(xaa _ rfl de _ _ _ rfl rfl (zB b2) rfl (nxtG hi av ⟨rfl,?_⟩));rw[xcc aw,if_pos (zDT e'),zAP,zAP];rfl
  ·have e':¬(hd.name ∉al):=λz=>e (by rw[zDF z];rfl)
   refine nxtN hi av ⟨rfl,?_⟩;rw[xcc aw,if_neg (λz=>e' (z0 z)),List.append_nil]
 rintro ys HB f2 ⟨rfl,rfl⟩ l4 cw;rw[zTL (by omega)];obtain⟨fr,ch⟩:∃fr,fr=l.hands.filter λh=>decide (h.name ∉al):=⟨_,rfl⟩;rw[<- ch];refine es _ _ (xab λR4 er=>?_);have s4:=s3.trans (zA cw (.lst ((fr.map Hand.name).map V.str)));have bm:upd HB l4 (.lst ((fr.map Hand.name).map V.str)) l4=some (.lst ((fr.map Hand.name).map V.str)):=ups;generalize upd HB l4 (.lst ((fr.map Hand.name).map V.str))=H4 at s4 bm⊢;refine(jEAA _ rfl (by walk_at"s") (λe0 bo=>(xa6 l4 e0 _ rfl rfl (zC (zA bo _ _ _ bm)) (zC ups) (jEA _ rfl ?_))));refine ite2 (λe=>k _) (λe=>er _ _ (xab λR5 eq=>?_));have s5:=s4.trans (zA bo (.lst []));have ae:upd H4 e0 (.lst []) l4=some (.lst ((fr.map Hand.name).map V.str)):=zA bo _ _ _ bm
 have bw:0<fr.length:=by
  cases bn:fr with
  |nil=>rw[bn]at e;exact absurd rfl e
  |cons _ _=>simp
 generalize upd H4 e0 (.lst [])=H5 at s5 ae⊢;clear bo bm s4 cw cc s3 cx e;have fe:fr.length<=4:=by rw[ch];exact zY (zV _ _) h4
 have d8:((fr.map Hand.name).map V.str).length=fr.length:=by rw[zLM,zLM]
 refine(xa0 _ rfl _ rfl _ rfl l4 _ rfl (.inl (zC ae)) (xah f' p1 q1 _ rfl (s5 _ _ b3) (by omega) (by omega) (λr H6 r0 r1 f6=>?_)));obtain⟨ri,rfl⟩:∃i:Nat,r=(i:Int):=⟨r.toNat,by omega⟩;have d7:ri<fr.length:=by omega
 have d3:l4≠f':=λz=>by rw[z,s5 _ _ b3]at ae;injection ae with z1;injection z1 with z2;cases bn:fr with
  |nil=>rw[bn]at bw;exact absurd bw (by decide)
  |cons b bs=>rw[bn]at z2;cases z2
 obtain⟨hd,aw⟩:∃hd,fr[ri]?=some hd:=⟨_,zGA d7⟩;have bz:=zMG aw;rw[ch]at bz;obtain⟨J,cb⟩:=List.mem_filter.mp bz;have cb:=z0 cb;have free:∀c∈l.chans,c.2.1=hd.name->c.2.2.1≠hd.name:=λc hc e1 e2=>cb (by rw[dk];exact List.mem_map.mpr (jEA c (List.mem_filter.mpr ⟨hc,zDT (e1.trans e2.symm)⟩) e1));refine(xah l4 _ _ _ rfl rfl (zC (f6.1 _ _ ae d3)) (xam (show((fr.map Hand.name).map V.str)[ri]?=some (.str hd.name) by rw[zGM,zGM,aw];rfl)) (eq _ _ (xab λR6 ep=>?_)));have ed:∃o,H f'=some o:=⟨_,hf⟩;have bb:=(pt.same s5).fed ed (jEE _ _ (s5 _ _ b3)) f6;have cz:=(d0.same s5 _).tups (xai (jEE _ _ (s5 _ _ b3)) f6) _;have cj:∀b vs,HA b=some (.tup vs)->H6 b=some (.tup vs):=λb vs e=>xai (jEE _ _ (s5 _ _ b3)) f6 b vs (s5 _ _ e);clear ae d3 aw d7;have bh:SqL K H6 p _:=zC bb.hp;refine(xan _ rfl _ rfl p _ _ (xbr _ rfl rfl bh (xam (j:=0) rfl) _ rfl p _ _ (xbr _ rfl rfl bh (xam (j:=1) rfl) _ rfl p _ _ (xbr _ rfl rfl bh (xam (j:=2) rfl) _ rfl p _ _ (xbm _ rfl rfl bh (xam (j:=3) rfl) ?_)))));refine(xaj (.ref ma) a s0 l 4 rfl bb.hsIn cz m e4 ⟨ok,λx a1 H7 s7 fF d6=>ep _ _ (xab λR7 eo=>?_)⟩);intro c7 n7;refine eo _ _ (xab λR8 em=>?_);have dq:=s7.trans (zA n7 (.dK []));have f7:H6 c7=none:=xae s7 n7;let a0:List Chn->List (Key×V):=λcs=>(cs.filter λc=>decide (c.2.2.1=hd.name)).map λc=>(Sum.inr c.1,.ref (a.la c.1));have c4:=bb.same s7;have stay:∀{kvs:List (Key×V)},Same H7 (upd H7 c7 (.dK kvs)):=λ{kvs}=>zA n7 _
 have b4:∀b vs,HA b=some (.tup vs)->H7 b=some (.tup vs):=λb vs e=>s7 _ _ (cj b vs e);refine(xaa _ rfl ma _ _ _ rfl rfl (zB (stay _ _ (b4 _ _ bj))) rfl (jEAA ca rfl ⟨_,zB (stay _ _ (b4 _ _ az))⟩ ?_));refine xcz (xs:=uc) (λi σ H'=>∃(o8 o9 ab aa:Option V),σ=[some (.ref ma),some (.ref f'),some (.ref p),some (.ref l3),some (.ref l4),some (.str hd.name),some (.ref x),some (.ref c7),o8,o9,ab,aa,none,none,none]/\H'=upd H7 c7 (.dK (a0 (l.chans.take i)))) (xc6 none none none none rfl rfl) (λi σ H' _ p=>by obtain⟨_,_,_,_,_,rfl⟩:=p;exact zB (stay _ _ (b4 _ _ az))) ?_ ?_
 ·rintro i y σ H' hy ⟨o8,o9,ab,aa,rfl,rfl⟩
  obtain⟨b,c,hc,rfl,hb⟩:=xdz bp hy;have G:=zMG hc;have ay:c.1∈cn l:=qD G;have fd:=(zES hc).1;refine(xay b _ rfl (zB (stay _ _ (b4 _ _ hb))) rfl _ _ rfl _ (jEA _ rfl (jEEA _ _ rfl (xaw _ _ rfl rfl ?_))));refine(xcp _ rfl _ rfl rfl _ rfl (ite2 (λe=>?_) (λe=>?_)))
  ·have e':c.2.2.1=hd.name:=V.str.inj (z0 e)
   have cu:=c4.same (stay (kvs:=a0 (l.chans.take i)));refine(xaa _ rfl p _ _ _ rfl rfl (zC cu.hp) (xam (j:=1) rfl) (xar _ rfl a.bd _ rfl (gdK cu.hbd ay) ?_))
   have fb:(a0 (l.chans.take i)).length<=6:=by
    show(List.map _ _).length<=6;rw[zLM];exact zY (zV _ _) (by rw[List.length_take];omega)
   refine(xbg _ rfl _ rfl c7 _ rfl (DPut.k (k:=Sum.inr c.1) ups (xa3 (by omega))) _ (jEE _ _ (jEA _ rfl ?_)));rw[xm2,xia]
   ·show upd H7 c7 (.dK (a0 (l.chans.take i)++[(Sum.inr c.1,.ref (a.la c.1))]))=upd H7 c7 (.dK (List.map _ (List.filter _ (l.chans.take (i+1)))))
    rw[xcc hc,if_pos (zDT e'),zAP];rfl
   ·intro q hq e2
    obtain⟨c2,ee,rfl⟩:=zMP hq;have e3:c2.1=c.1:=Sum.inr.inj e2;exact xdl ew (show(cn l)[i]?=some c.1 by rw[zGM,hc];rfl) c2.1 (by rw[<- List.map_take];exact qD (List.mem_filter.mp ee).1) e3
  ·refine(xc6 _ _ _ _ rfl ?_)
   show upd H7 c7 (.dK (a0 (l.chans.take i)))=upd H7 c7 (.dK (List.map _ (List.filter _ (l.chans.take (i+1)))));rw[xcc hc,if_neg (λz=>e (zDT (congrArg V.str (z0 z)))),List.append_nil]
 rintro σ H' ⟨o8,o9,ab,aa,rfl,rfl⟩;refine em _ _ (xab λR9 el=>?_);rw[zTL (by omega)];have s8:Same H7 (upd H7 c7 (.dK (a0 l.chans))):=stay;have cg:upd H7 c7 (.dK (a0 l.chans)) c7=some (.dK (a0 l.chans)):=ups;generalize upd H7 c7 (.dK (a0 l.chans))=H8 at s8 cg⊢;have Z:=c4.same s8;have bg:=d6.same s8;have am:hd.name∈hn l:=qD J;have dd:xed l hd.name=some hd:=xfn m J;have d1:LsAt H8 (a0 l.chans) (lts l.chans s0 hd.name) ((l.chans.filter λc=>decide (c.2.2.1=hd.name)).map λc=>a.la c.1):=lsC λc hc=>Z.let_ c.1 (qD (List.mem_filter.mp hc).1);have c5:=(cz.same s7 _).same s8 _;have ff:=ok.bxlen m J;refine(jEA _ rfl (xb1 _ rfl _ rfl _ rfl p _ (xci _ _ rfl rfl (zC Z.hp) (xam (j:=0) rfl) (xar _ rfl a.sd _ rfl (gdK Z.hsd am) (λy dy hy ce cy=>?_)))));have sN:Same H8 (upd (upd H8 dy (.own y)) y (.ins (ad K "Lone") dy [])):=(zA ce _).trans (zA (by rw[xak (Ne.symm cy)];exact hy) _);refine(xal y dy (.ref ma) hd.name c7 (xal _ _ _ l hd (xcn (.ref (a.sa hd.name)) _ _ rfl (.inr (xaw _ (a.pa hd.name) rfl ((Z.sta _ am).same sN) (by omega))) ups (c5.same sN _) m dd (jAA (sN _ _ cg) (d1.same sN) (λal H9 b9 bq ci=>⟨rfl,el _ _ (xab λfk dg=>?_)⟩)))));obtain⟨s9,fN⟩:=xlw hy ce b9;have fL:∀b∈al.F y,H8 b=none:=λb hb=>fN b (bq b hb);clear b9 bq fN sN hy ce cy d1 cg;have ba:=Z.same s9;obtain⟨ut,b1,au⟩:=ba.tel _ am
 refine(xaa _ rfl p _ _ _ rfl rfl (zC ba.hp) (xam (j:=2) rfl) (xb6 _ rfl a.td _ rfl (gdK ba.htd am) (a.ta hd.name) ut rfl (.inl (zC b1)) (λlt bl=>dg _ _ (xab λfj df=>?_))));have sT:=zA bl (.lst ut);have br:Same H6 (upd H9 lt (.lst ut)):=s7.trans (s8.trans (s9.trans sT))
 have two:Two K H6 (upd H9 lt (.lst ut)) x y lt (.ref ma) a1 al s0 s0 (xrw l s0 hd.name) l hd 4:=by
  refine⟨br,(bg.same s9).same sT,(⟨ci,c5.same s9 _,m,dd,xrv m J ok⟩:LnHere K H9 y (.ref ma) hd.name al (xrw l s0 hd.name) l hd).same sT,sim0 m,fF,λb hb=>xae (s7.trans s8) (fL b hb),λb hb hl=>?_,(jEA ut ups (au.same sT _)),λz=>?_,λz=>?_,qL _⟩
  ·obtain⟨o,e,_⟩:=bg.at_.there b hb
   rw[fL b hl]at e;cases e
  ·obtain⟨o,e,_⟩:=(bg.same s9).at_.there lt z
   rw[bl]at e;cases e
  ·obtain⟨o,e,_⟩:=ci.there lt z
   rw[bl]at e;cases e
 generalize upd H9 lt (.lst ut)=fm at br two⊢;clear sT bl b1 au ba ci fL s9 c5 bg Z s8 d6 c4 fF stay dq n7 s7;refine(xb8 12 rfl (by decide) (by decide) ?_)
 refine xdi (n:=12) (LaI K H6 ma f' p l3 l4 c7 x y lt s0 l hd)
  (xal a1 al s0 _ o8 (xc6 o9 ab aa none rfl two)) ?_ ?_
 ·clear two
  rintro i σ G0 hi ⟨a',a4,s',st,o8,o9,ab,aa,dr,rfl,C⟩;have I:=C.sim;obtain⟨fs,hx,lf⟩:=C.hs.at_.ob;obtain⟨fl,hy,a3⟩:=C.ln.at_.ob;obtain⟨r,bu⟩:=C.hs.row J;have f3:=C.hs.ok.bxlen m J;have ex:((s'.sd hd.name).2.map (·.1)).Nodup:=by rw[C.hs.ok.keys hd J];exact(m.hok hd J).nd
  have ey:=C.hs.ok.bxdeep m J;refine xab λS1 ek=>?_;refine(xan _ rfl _ rfl x (.ref ma) a' (xbn s' l _ rfl C.hs (λG1 t1=>(jEA _ rfl (iteF (ek _ _ (xab λS2 ej=>?_)))))));refine(xa7 _ rfl x _ fs rfl (t1 _ _ hx) (lf.no _ (by walk_at"k")) _ rfl (xal x _ hd.name a' s' (xbm l rfl (C.hs.at_.same t1) am (by omega) (λsa pa G2 t2 dz cp=>?_))));have b8:=t1.trans t2;refine(xct _ rfl y _ fl rfl (b8 _ _ hy) (a3.no _ (by walk_at"k")) y (xc6 _ hd.name a4 st rfl (jAA (C.ln.at_.same b8) (by rw[show st.bx=(s'.sd hd.name).2 by rw[I.sd]];omega) (λsb pb G3 t3 dx cm=>(jAA (xq7 (cp.same t3) (by rw[I.sd];exact cm) ex ey) (jEEA _ _ rfl rfl) (jEA _ rfl (iteF ?_)))))));have b7:=b8.trans t3;clear dz dx cp cm;refine(xa7 _ rfl x _ fs rfl (b7 _ _ hx) (lf.no _ (by walk_at"k")) _ rfl (xal x _ hd.name a' s' (xb8 l rfl (C.hs.at_.same b7) am (λlh f4 G4 t4 e7 dc cq=>?_))));have b6:=b7.trans t4;refine(xbq _ rfl _ rfl y _ fl rfl (b6 _ _ hy) (a3.no _ (by walk_at"k")) (xal y _ hd.name a4 st (jAA rfl (C.ln.at_.same b6) (λll ul G5 t5 d8 ae c3=>?_))));have c1:=b6.trans t5;obtain⟨ut,b1,au⟩:=(C.same c1).hlt;have dv:ut.length<=4:=by rw[au.length];exact(ok.tok hd J).1
  have d5:ul.length<=40:=by rw[c3.length];have:=C.ln.ok.tok.1;have:=C.many;omega
  refine(xap lt ll _ _ rfl rfl b1 ae (fits (by omega)) (λnp bi=>?_));have sP:=zA bi (.lst (ut++ul));refine(jAA (xl3 (sP _ _ (t5 _ _ dc)) ups ((cq.same t5 _).same sP _) (by rw[I.tl];exact(au.append c3).same sP _) (C.hs.ok.tok hd J).2) (jEEA _ _ rfl rfl) (jEA _ rfl (iteF (ej _ _ (xab λS3 ei=>?_)))));have Y:=c1.trans sP;generalize upd G5 np (.lst (ut++ul))=G6 at Y⊢;clear sP bi b1 au dv d5 ae c3 d8 t5 c1 dc cq e7 b6 t4 b7 t3 b8 t2;have bc:=bb.same (C.sm.trans Y);refine(xa7 _ rfl x _ fs rfl (Y _ _ hx) (lf.no _ (by walk_at"k")) _ rfl (xal x _ hd.name a' s' (xb8 l rfl (C.hs.at_.same Y) am ?_)));refine(xaa _ rfl p _ _ _ rfl rfl (zC bc.hp) (xam (j:=3) rfl) (xar _ rfl a.cd _ rfl (gdK bc.hcd am) ?_));refine(xct _ rfl y _ fl rfl (Y _ _ hy) (a3.no _ (by walk_at"k")) y (xc6 _ hd.name a4 st rfl (jAEE (C.ln.at_.same Y) _ _ (jAAA rfl rfl rfl (jEA _ rfl (xl6 (by rw[I.ct];rfl) (ei _ _ (xab λS4 eh=>?_))))))));have b0:∀b vs,HA b=some (.tup vs)->G6 b=some (.tup vs):=λb vs e=>Y _ _ (C.sm _ _ (cj b vs e));refine(xaa _ rfl ma _ _ _ rfl rfl (zB (b0 _ _ bj)) rfl (jEAA ca rfl ⟨_,zB (b0 _ _ az)⟩ ?_));refine xcz (xs:=uc) (LaJ G6 ma f' p l3 l4 c7 x y lt hd i) (xc6 o8 o9 ab aa rfl (Same.refl _)) (λj σ H' _ p=>by obtain⟨_,_,_,_,_,g⟩:=p;exact zB (g _ _ (b0 _ _ az))) ?_ ?_
  ·rintro j v σ G7 hv ⟨o8,o9,ab,aa,rfl,t7⟩
   obtain⟨b,c,hc,rfl,hb⟩:=xdz bp hv;have G:=zMG hc;have ay:c.1∈cn l:=qD G;have b5:=Y.trans t7;have dm:∀d∈s'.bt c.1,d.deep<=12:=λd hd=>xd5 m.wf (m.ckin c G) ((C.hs.ok.cok c G).2 d hd);refine(xay b _ rfl (zB (t7 _ _ (b0 _ _ hb))) rfl _ _ rfl _ (jEA _ rfl (jEEA _ _ rfl (xaw _ _ rfl rfl (xab λV1 eg=>?_)))))
   have K2:∀G8,Same G7 G8->V1 (laS ma f' p l3 l4 c7 x y lt hd (some (.str c.1)) (some (.str c.2.1)) (some (.str c.2.2.1)) (some (.str c.2.2.2)) (some (.int (0+(i:Int))))) G8:=by
    intro G8 t8;refine eg _ _ ?_;have ar:=b5.trans t8;refine(xcp _ rfl _ rfl rfl _ rfl (ite2 (λe=>?_) (λe=>iteF (xc6 _ _ _ _ rfl (t7.trans t8)))));have e':c.2.2.1=hd.name:=V.str.inj (z0 e);refine(xa7 _ rfl x _ fs rfl (ar _ _ hx) (lf.no _ (by walk_at"k")) _ rfl (xal x _ c.1 a' s' (xb8 l rfl (C.hs.at_.same ar) ay (λl1 u1 G9 t9 e9 h1 r1=>?_))));have ck:=ar.trans t9;have dl:(st.com.map (·.1)).Nodup:=by rw[C.ln.ok.com];exact zW (List.Sublist.map _ List.filter_sublist) m.cnd
    have fh:st.com.length<=6:=by
     have:=congrArg List.length C.ln.ok.com;rw[zLM,zLM]at this;rw[this];exact zY (zV _ _) h6
    refine(xct _ rfl y _ fl rfl (ck _ _ hy) (a3.no _ (by walk_at"k")) y (xah _ hd.name a4 st rfl (C.ln.at_.same ck) dl (by omega) (λd' d4 L' f0 c0 _ _ _ ax c6=>?_)));have cf:c.1∈st.com.map (·.1):=by rw[C.ln.ok.com];exact qD (List.mem_filter.mpr ⟨G,zDT e'⟩)
    obtain⟨ds,hg,_⟩:=xfw cf;obtain⟨la,us,c9,c8,be⟩:=c6.val.2 ds hg
    have gd:DGet f0 d' (.str c.1) (some (.ref la)):=by
     have:=DGet.rd (k:=Sum.inr c.1) (.inl ax);rw[c9]at this;exact this
    have eb:s'.bt c.1=ds:=by rw[I.co c G e',hg];rfl
    exact(xar _ rfl d' _ rfl gd (jAA (xl3 (c0 _ _ h1) c8 (r1.same c0 _) (by rw[eb];exact be) dm) (jEEA _ _ rfl rfl) (jEA _ rfl (iteF (xc6 _ _ _ _ rfl (t7.trans (t8.trans (t9.trans c0))))))))
   refine(xcp _ rfl _ rfl rfl _ rfl (ite2 (λe=>?_) (λe=>iteF (K2 _ (Same.refl _)))));have e':c.2.1=hd.name:=V.str.inj (z0 e);refine(xa7 _ rfl x _ fs rfl (b5 _ _ hx) (lf.no _ (by walk_at"k")) _ rfl (xal x _ c.1 a' s' (xb8 l rfl (C.hs.at_.same b5) ay (λl1 u1 G8 t8 e9 h1 r1=>?_))));have ar:=b5.trans t8;have Z:=bc.same (t7.trans t8);refine(xaa _ rfl p _ _ _ rfl rfl (zC Z.hp) (xam (j:=1) rfl) (xar _ rfl a.bd _ rfl (gdK Z.hbd ay) ?_));have dh:(st.goi.map (·.1)).Nodup:=by rw[C.ln.ok.goi];exact zW (List.Sublist.map _ List.filter_sublist) m.cnd
   have fg:st.goi.length<=6:=by
    have:=congrArg List.length C.ln.ok.goi;rw[zLM,zLM]at this;rw[this];exact zY (zV _ _) h6
   refine(xct _ rfl y _ fl rfl (ar _ _ hy) (a3.no _ (by walk_at"k")) y (xah _ hd.name a4 st rfl (C.ln.at_.same ar) dh (by omega) (λd' d4 L' G9 t9 _ _ _ ax c6=>?_)));have cf:c.1∈st.goi.map (·.1):=by rw[C.ln.ok.goi];exact qD (List.mem_filter.mpr ⟨G,zDT e'⟩)
   obtain⟨ds,hg,ec⟩:=xfw cf;obtain⟨la,us,c9,c8,be⟩:=c6.val.2 ds hg
   have gd:DGet G9 d' (.str c.1) (some (.ref la)):=by
    have:=DGet.rd (k:=Sum.inr c.1) (.inl ax);rw[c9]at this;exact this
   obtain⟨u0,dw,cr⟩:=(Z.same t9).let_ _ ay;have l0:u0.length<=4:=by rw[cr.length];exact(ok.cok c G).1
   have f9:us.length<=40:=by rw[be.length];have g1:ds.length<=st.many:=(C.ln.ok.gok _ ec).1;have:=C.many;omega
   have eb:s'.bt c.1=s0.bt c.1++ds:=by rw[I.go c G e',hg];rfl
   refine(xar _ rfl d' _ rfl gd (xap (a.la c.1) la _ _ rfl rfl dw c8 (fits (by omega)) (λnp bi=>?_)));have sP:=zA bi (.lst (u0++us));exact(jAA (xl3 (sP _ _ (t9 _ _ h1)) ups ((r1.same t9 _).same sP _) (by rw[eb];exact(cr.append be).same sP _) dm) (jEEA _ _ rfl rfl) (jEA _ rfl (iteF (K2 _ (t8.trans (t9.trans sP))))))
  rintro σ G7 ⟨o8,o9,ab,aa,rfl,t7⟩;refine eh _ _ ?_;have U:=C.same (Y.trans t7);clear t7 Y t1 bc b0 hx hy lf a3;obtain⟨fs,hx,lf⟩:=U.hs.at_.ob;have ac:hd.rows[st.row]?=some r:=by rw[show st.row=(s'.sd hd.name).1 by rw[I.sd]];exact bu
  obtain⟨di,_⟩:=I.shut m J ac;have e5:=U.many;refine(xa7 _ rfl x _ fs rfl hx (lf.no _ (by walk_at"k")) _ rfl (xal x _ a' s' l (xcn _ hd r rfl U.hs J bu (by omega) (λsh=>?_) (λsh a2 G8 f8 h8=>?_))))
  ·obtain⟨fl,hy,a3⟩:=U.ln.at_.ob
   refine(xct _ rfl y _ fl rfl hy (a3.no _ (by walk_at"k")) y (xal _ hd.name a4 st l (xa9 hd r rfl U.ln ac (by omega) (λaq=>?_) (λaq=>by rw[<- di,sh]at aq;cases aq))));exact(jAEA rfl _ rfl (xl6 rfl (xal a' a4 s' st _ (xc6 _ _ _ _ rfl U.mono))))
  ·have d2:LnHere K G8 y (.ref ma) hd.name a4 st l hd:=U.ln.keep f8.tp λb hb o e=>f8.fr b o e λz=>U.dj b z hb
   obtain⟨fl,hy,a3⟩:=d2.at_.ob;refine(xct _ rfl y _ fl rfl hy (a3.no _ (by walk_at"k")) y (xal _ hd.name a4 st l (xa9 hd r rfl d2 ac (by omega) (λaq=>(by rw[<- di,sh]at aq;cases aq)) (λaq ez G9 bq dn dt du=>?_))));exact(jAEA rfl _ rfl (xl6 rfl (xal a2 ez _ _ _ (xc6 _ _ _ _ rfl (U.step f8 h8 bq dn dt du (I.next m J U.ln.ok free ac) (zI e5))))))
 ·rintro σ H' ⟨a',a4,s',st,o8,o9,ab,aa,dr,rfl,C⟩
  exact df _ _ (k _)
def spLaw(K:Fg):Sp:=λvs H Q _=>∃(a:Addr) (ns:List Int),vs=[.ref a]/\SqL K H a (ns.map V.int)/\ns.length<=63/\∀H',Q (.bl true) H'
theorem xwd(us:List V)(k:Nat):cutV us none (some (k:Int))=us.take k:=by
 unfold cutV;rw[HT.sIx_none,HT.sIx_nat,List.drop_zero,Nat.sub_zero];rcases Nat.le_total k us.length with h |h
 ·rw[Nat.min_eq_left h]
 ·rw[Nat.min_eq_right h,zTL (zZ _),zTL h]
theorem Pts.there{i H:Hp}{p:Addr}{a:HsA}{c:Mak}{s:HSt}(h:Pts i H p (hn c) (hn c) (hn c) (cn c) a s):∀b,a.F c p b->∃o,H b=some o/\∀vs,o≠.tup vs:=by
 intro b g;rcases g with rfl |rfl |rfl |rfl |rfl |⟨z,hz,rfl⟩ |⟨z,hz,rfl |rfl⟩
 ·exact(jEA _ h.hp (λvs e=>by cases e))
 ·exact(jEA _ h.hsd (λvs e=>by cases e))
 ·exact(jEA _ h.hbd (λvs e=>by cases e))
 ·exact(jEA _ h.htd (λvs e=>by cases e))
 ·exact(jEA _ h.hcd (λvs e=>by cases e))
 ·obtain⟨us,f,_⟩:=h.let_ z hz
  exact(jEA _ f (λvs e=>by cases e))
 ·obtain⟨us,f,_⟩:=h.tel z hz
  exact(jEA _ f (λvs e=>by cases e))
 ·obtain⟨_,kvs,f,_⟩:=h.sta z hz
  exact(jEA _ f (λvs e=>by cases e))
structure Twin(K:Fg)(HB H:Hp)(x y lr:Addr)(vs:List V)(mv:V)(a b:HsA)(s:HSt)(mk:Mak)(N:Nat):Prop where
 sm:Same HB H
 h1:HsHere K H x mv a s mk N
 h2:HsHere K H y mv b s mk N
 f1:∀c,a.F mk x c->HB c=none
 f2:∀c,b.F mk y c->HB c=none
 dj:∀c,a.F mk x c->¬b.F mk y c
 hlr:H lr=some (.lst vs)
 n1:¬a.F mk x lr
 n2:¬b.F mk y lr
theorem Twin.same{K:Fg}{g H h:Hp}{x y f:Addr}{vs:List V}{c:V}{a b:HsA}{s:HSt}{e:Mak}{N:Nat}(t:Twin K g H x y f vs c a b s e N)(q:Same H h):Twin K g h x y f vs c a b s e N:=
 ⟨t.sm.trans q,t.h1.same q,t.h2.same q,t.f1,t.f2,t.dj,q _ _ t.hlr,t.n1,t.n2⟩
theorem Twin.mono{K:Fg}{g H:Hp}{x y f:Addr}{vs:List V}{c:V}{a b:HsA}{s:HSt}{e:Mak}{N:Nat}(t:Twin K g H x y f vs c a b s e N):Twin K g H x y f vs c a b s e (N+1):=
 ⟨t.sm,⟨t.h1.at_,t.h1.md,t.h1.mok,t.h1.ok.mono (qG _)⟩,⟨t.h2.at_,t.h2.md,t.h2.mok,t.h2.ok.mono (qG _)⟩,t.f1,t.f2,t.dj,t.hlr,t.n1,t.n2⟩
theorem Twin.half{K:Fg}{n H i:Hp}{x y j:Addr}{vs:List V}{h:V}{a m b:HsA}{s:HSt}{g:Mak}{N:Nat}(t:Twin K n H x y j vs h a b s g N)(f:HFr g x a m H i):HsHere K i y h b s g N:=t.h2.keep f.tp λc l o e=>f.fr c o e λz=>t.dj c z l
theorem Twin.step{K:Fg}{w H r C:Hp}{x y I:Addr}{vs:List V}{m:V}{a p b u:HsA}{s s':HSt}{j:Mak}{N:Nat}(t:Twin K w H x y I vs m a b s j N)(f:HFr j x a p H r)(h:HsHere K r x m p s' j (N+1))(g:HFr j y b u r C)(k:HsHere K C y m u s' j (N+1)):Twin K w C x y I vs m p u s' j (N+1):=by
 have J:∀c,p.F j x c->¬b.F j y c:=λc i n=>by
  rcases f.nw c i with z |z
  ·exact t.dj c z n
  ·obtain⟨o,e,_⟩:=t.h2.at_.there c n
   rw[z]at e;cases e
 have G:Same w r:=λc o e=>f.fr c o (t.sm c o e) λz=>by rw[t.f1 c z]at e;cases e
 have l:=f.fr _ _ t.hlr t.n1;refine⟨λc o e=>g.fr c o (G c o e) λz=>?_,h.keep g.tp λc i o e=>g.fr c o e (J c i),k,λc i=>?_,λc i=>?_,λc i n=>?_,g.fr _ _ l t.n2,λz=>?_,λz=>?_⟩
 ·rw[t.f2 c z]at e;cases e
 ·rcases f.nw c i with z |z
  ·exact t.f1 c z
  ·exact xae t.sm z
 ·rcases g.nw c i with z |z
  ·exact t.f2 c z
  ·exact xae G z
 ·rcases g.nw c n with z |z
  ·exact J c i z
  ·obtain⟨o,e,_⟩:=h.at_.there c i
   rw[z]at e;cases e
 ·rcases f.nw _ z with z |z
  ·exact t.n1 z
  ·have:=t.hlr;rw[z]at this;cases this
 ·rcases g.nw _ z with z |z
  ·exact t.n2 z
  ·rw[z]at l;cases l
abbrev twS(a b lw t p1 p2 x y:Addr)(mv:V)(o9:Option V):St:=[some (.ref a),some (.ref b),some mv,some (.ref x),some (.ref lw),some (.ref t),some (.ref p1),some (.ref p2),some (.ref y),o9]
abbrev TwI(K:Fg)(HB:Hp)(a b lw t p1 p2 x y lr:Addr)(rs:List Str)(mv:V)(mk:Mak)(i:Nat)(σ:St)(H:Hp):Prop:=∃(c2 c3:HsA) (s':HSt) (o9:Option V),σ=twS a b lw t p1 p2 x y mv o9/\Twin K HB H x y lr (rs.map V.str) mv c2 c3 s' mk (100+i)
theorem xvs (T:Tx K mg) (a0:DefIs P w K mg base (n+1) "_law_names" qbe xos) (a8:DefIs P w K mg base (n+1) "_law_make" qa6 (xou K)) (Y:DefIs P w K mg base (n+1) "_law_still" qag (xga K)) (J:DefIs P w K mg base (n+1) "_law_weaving" qbj (xji K)) (l:DefIs P w K mg base (n+1) "_law_state" qag (xgm K)) (m:DefIs P w K mg base (n+1) "_law_parts_of" qag (xsi K)) (ac:DefIs P w K mg base (n+1) "plain_at" qaw (xfe K)) (Z:DefIs P w K mg base (n+1) "_law_spoil" qbk xor) (I:DefIs P w K mg base (n+1) "_law_lone_alike" qa9 (xle K)) (a9:DefIs P w K mg base (n+1) "_law_feed" qan (xjm K))
  (a4:MethIs P w K mg base n (ad K "Plain") "__init__" qai [[]] (xgr K)) (U:MethIs P w K mg base (n+1) (ad K "Plain") "weave" qba [[]] (xic K)) (G:MethIs P w K mg base (n+1) (ad K "Plain") "step" qab [[]] (xgp K)) :
  DefIs P w K mg base (n+2) "law" ["_law_script"] (spLaw K):=by
 refine DefIs.of T.kS sc_law (by walk_at"l") (λf cz A outer s H vs Q E hr h=>?_);obtain⟨a,ns,rfl,hS,bn,k⟩:=h;have nd:=sc_law.nd;have hu:=xd2 hr;have bg:=xsu hr
 refine⟨_,(zpn (psn 1 nd (pd a0 hr (pc (xfi (pR xd0 (xax (xag (K:=K) rfl) rfl T.kY zE (v1 0)) pI (nM _)) (xaq xcs (pxl K (pv 0) pI) pI) pI) (pc pI pN zso) xq6)))
   (zpn (psn 2 nd (pd a8 hr (va 0 (pc pI (v1 1) zso))))
   (zpn (psn 3 nd (xgx (ds:=[]) (dvs:=[]) a4 T.uE hr T.uD (by simp) .nil (v1 2)))
   (zpn (psn 4 nd (xes xik (pd J hr (va 0 (pc pI (v1 2) zso))) xis (xeg pI)))
   (zpn (xbp (xbs U T.uE.cl hr (pv 3) (v1 4)))
   (zpn (psn 5 nd (pd l hr (va 3 (v1 2))))
   (zpn (psn 6 nd (pd m hr (va 3 (v1 2))))
   (zpn (psn 7 nd (pd m hr (va 3 (v1 2))))
   (zpn (psn 8 nd (pd ac hr (va 2 (pc (pxl K (pv 7) pI) (pc (pxl K (pv 7) pI) (pc (pxl K (pv 7) pI) (pc (pxl K (pv 7) pI) pN ss) ss) ss) ss))))
   (zpn (xba (pR (xtp bg) (pv 7) (pv 6) (nM _)) (zpo (xaf xei)) pQ)
   (zpn (xbp (pd Z hr (v1 7)))
   (zpn (xba (PW.pt (xlo (pR (xfu bg) (pd l hr (va 8 (v1 2))) (pv 5) (nM _)) (xhx (xsm (xo8 (pd Y hr (va 8 (v1 2)))))))) (zpo (xaf xei)) pQ)
   (zpn (xb5 zF rfl (xbv (K:=K) rfl (xtk (pv 4) (xw4 xuj pI) (λ_ _=>rfl))) (pgn 9 nd)
   (zpo (xba (PW.pt (xlo (pR xph (xbs G T.uE.cl hr (pv 3) (v1 9)) (xbs G T.uE.cl hr (pv 8) (v1 9)) (nM _)) (xhx (pR (xfu bg) (pd l hr (va 3 (v1 2))) (pd l hr (va 8 (v1 2))) (nM _))))) (zpo (xaf xei)) pQ)))
   (zpo (xaf (pd I hr (va 2 (pc (pd a9 hr (va 0 (pc pI pN zso))) pN zsc)))))))))))))))))),xab λR1 cv=>?_⟩
 have K1:∀b H1 a7,Same H H1->H1 b=some (.lst (a7.map V.str))->xk8 a7->(∀z∈a7,NoBy z/\NoMo z)->R1 [some (.ref a),some (.ref b),none,none,none,none,none,none,none,none] H1:=by
  intro b H1 a7 s1 hb an ai;refine cv _ _ (xab λR2 cu=>?_);refine(xan _ rfl _ rfl a b ns (xci 1 a7 rfl (s1.seq hS) bn ⟨hb,an,λz hz=>(ai z hz).1⟩ (λO u H2 s2 md ab bi=>cu _ _ (xab λR3 cr=>?_))));have bt:=s1.trans s2;have h4:=ab.hfew;clear hb ai;refine(jEA _ rfl (λx dx hx bm ne=>?_));refine(xah x dx O u rfl ups (md.same (show Same H2 _ from(zA bm _).trans (zA (by rw[xak (Ne.symm ne)];exact hx) _)) _) ab (λa1 H3 bp c8 b3=>⟨rfl,cr _ _ (xab λR4 cq=>?_)⟩));obtain⟨be,bv⟩:=xlw hx bm bp;have aq:∀b,a1.F u x b->H2 b=none:=λb hb=>bv b (c8 b hb);clear bp c8 bv hx bm ne;refine(xan _ rfl _ rfl a ns 7 (xa9 O u rfl ((bt.trans be).seq hS) bn b3.md h4 (jAA bi (by decide) (λl0 ws H5 s5 ch bd bx cg=>?_))));refine(xar _ rfl l0 _ rfl (zC bd) (λlw bj=>?_));rw[show cutV (ws.map V.str) none (some (100:Int))=(ws.take 100).map V.str from(xwd _ 100).trans (List.map_take ..).symm]at *
  have sW:=zA bj (.lst ((ws.take 100).map V.str));have bz:∀z∈ws.take 100,z∈hn u:=λz hz=>bx z (qK hz);have bl:(ws.take 100).length<=100:=List.length_take_le ..;generalize ws.take 100=vs at *
  have b0:=(b3.same s5).same sW
  have ay:¬a1.F u x lw:=λz=>by
   obtain⟨o,e,_⟩:=(b3.same s5).at_.there lw z;rw[bj]at e;cases e
  have a6:upd H5 lw (.lst (vs.map V.str)) lw=some (.lst (vs.map V.str)):=ups;have av:Same H2 (upd H5 lw (.lst (vs.map V.str))):=be.trans (s5.trans sW);generalize upd H5 lw (.lst (vs.map V.str))=H6 at b0 a6 av⊢;clear bx cg bd ch s5 sW bj be b3;refine cq _ _ (xab λR5 cp=>?_);obtain⟨fs,bw,lf⟩:=b0.at_.ob;refine(xa7 _ rfl x _ fs rfl bw (lf.no _ (by walk_at"k")) _ rfl (xal x lw O a1 (hs0 u) (xcn u 0 vs rfl b0 a6 bz ay (by omega) (λnn a2 st H7 ao ae rc _=>cp _ _ (xab λR6 co=>?_)))));have c0:=ao.fr _ _ a6 ay;have bq:Same H2 H7:=λb o e=>ao.fr b o (av b o e) λz=>by rw[aq b z]at e;cases e
  have fF:∀b,a2.F u x b->H2 b=none:=λb hb=>by
   rcases ao.nw b hb with z |z
   ·exact aq b z
   ·exact xae av z
  have ae:HsHere K H7 x O a2 st u 100:=⟨ae.at_,ae.md,ae.mok,ae.ok.mono (by omega)⟩
  have cy:¬a2.F u x lw:=λz=>by
   rcases ao.nw lw z with z |z
   ·exact ay z
   ·rw[z]at a6;cases a6
  clear b0 a6 av ay ao aq bw lf;refine(xan _ rfl _ rfl x O a2 (xbn st u _ rfl ae (λt H8 s8 bo=>co _ _ (xab λR7 cm=>?_))));have bh:=ae.same s8;refine(xan _ rfl _ rfl x O a2 (xbn st u _ rfl bh (λp1 b1 H9 s9 bu=>cm _ _ (xab λR8 ck=>?_))));have az:=bh.same s9;refine(xan _ rfl _ rfl x O a2 (xbn st u _ rfl az (λp2 b2 cx ak ah=>ck _ _ (xab λR9 cj=>?_))));have a5:=az.same ak;have am:SqL K cx p2 _:=zC ah.hp;refine(xan _ rfl _ rfl p2 _ _ (xbr _ rfl rfl am (xam (j:=0) rfl) _ rfl p2 _ _ (xbr _ rfl rfl am (xam (j:=1) rfl) _ rfl p2 _ _ (xbr _ rfl rfl am (xam (j:=2) rfl) _ rfl p2 _ _ (xbm _ rfl rfl am (xam (j:=3) rfl) ?_)))));refine(xaj O b2 st u 100 rfl ah.hsIn a5.md ab bi ⟨a5.ok,λy a3 cw ax b6 bc=>cj _ _ (xab λd5 c7=>?_)⟩);have af:=ah.same ax;refine(xbi _ rfl _ rfl (xvb af (bu.same (ak.trans ax)) ab a5.ok) (jAEA (jEEA _ _ rfl rfl) _ rfl (iteF (c7 _ _ (xab λd4 c6=>?_)))));refine(xaz _ rfl p2 b2 st u (xa9 100 H9 rfl af ab a5.ok (by decide) (λar ag=>c6 _ _ (xab λd1 c5=>?_))));have aa:Same H9 ar:=λb o e=>ag b o (ax _ _ (ak _ _ e)) λz=>by rw[ah.free b z]at e;cases e
  have b7:∀b vs,cw b=some (.tup vs)->ar b=some (.tup vs):=λb vs e=>ag b _ e λz=>by
   obtain⟨o,e2,n⟩:=Pts.there af b z;rw[e]at e2;cases e2;exact n _ rfl
  have h1:=az.same aa
  have h2:HsHere K ar y O a3 st u 100:=bc.keep b7 λb hb o e=>ag b o e λz=>by
   obtain⟨o,e2,_⟩:=Pts.there ah b z;rw[b6 b hb]at e2;cases e2
  have b9:=(bo.same s9).same aa;have ba:Same H2 ar:=bq.trans (s8.trans (s9.trans aa));have bb:ar lw=some (.lst (vs.map V.str)):=aa _ _ (s9 _ _ (s8 _ _ c0));have f2:∀c,a3.F u y c->H2 c=none:=λc hc=>xae (bq.trans (s8.trans (s9.trans ak))) (b6 c hc)
  have dj:∀c,a2.F u x c->¬a3.F u y c:=λc hc hl=>by
   obtain⟨o,e,_⟩:=a5.at_.there c hc;rw[b6 c hl]at e;cases e
  clear bu ah af am ag b7 bc a5 az bh aa ax ak s9 s8 bo b6;refine(xan _ rfl _ rfl y O a3 (xbn st u _ rfl h2 (λt2 d7 aw b8=>(xb8 _ rfl (xmp b8 (b9.same aw) ab h1.ok) (jEEA _ _ rfl rfl) (jEA _ rfl (iteF ?_))))));refine(xan _ rfl _ rfl y O a3 (xbn st u _ rfl (h2.same aw) (λc9 br=>(jEA _ rfl (iteF (c5 _ _ (xab λd0 c4=>?_)))))));have M:=aw.trans br;clear b9 b8 aw br;refine(xbi _ rfl 1 rfl rfl (xaw lw _ rfl (zC (M _ _ bb)) (λlr b4=>?_)));rw[<- List.map_reverse]at *
  have cf:∀z∈vs.reverse,z∈hn u:=λz hz=>bz z (List.mem_reverse.mp hz);have ca:(vs.reverse.map V.str).length<=100:=by rw[zLM,List.length_reverse];exact bl
  generalize vs.reverse=rs at *
  have sR:=zA b4 (.lst (rs.map V.str))
  have tw:Twin K H2 (upd c9 lr (.lst (rs.map V.str))) x y lr (rs.map V.str) O a2 a3 st u 100:=by
   refine⟨(ba.trans M).trans sR,(h1.same M).same sR,(h2.same M).same sR,fF,f2,dj,ups,λz=>?_,λz=>?_⟩
   ·obtain⟨o,e,_⟩:=(h1.same M).at_.there lr z
    rw[b4]at e;cases e
   ·obtain⟨o,e,_⟩:=(h2.same M).at_.there lr z
    rw[b4]at e;cases e
  generalize upd c9 lr (.lst (rs.map V.str))=d6 at tw⊢;clear sR b4 h1 h2 M ba bb dj f2 fF;refine(jEAA lr rfl ⟨_,zC tw.hlr⟩ ?_);refine xea (xs:=rs.map V.str) (TwI K H2 a b lw t p1 p2 x y lr rs O u) (xc6 a2 a3 st none rfl tw) (λi σ H' _ p=>by obtain⟨_,_,_,_,_,g⟩:=p;exact zC g.hlr) ?_ ?_
  ·clear tw
   rintro i v σ G0 hv ⟨c2,c3,s',o9,rfl,tw⟩;have hi:=(zES hv).1;rw[zGM]at hv;obtain⟨z,hz,rfl⟩:=zMS hv;obtain⟨hd,b5,rfl⟩:=zMP (cf z (zMG hz));obtain⟨r,al⟩:=tw.h1.row b5;obtain⟨f1,ce,l1⟩:=tw.h1.at_.ob
   have K2:∀(d2 d3:HsA) (s2:HSt) (G1:Hp),Twin K H2 G1 x y lr (rs.map V.str) O d2 d3 s2 u (100+i+1)->∀C:Bool->Hp->Prop,(∀G2,TwI K H2 a b lw t p1 p2 x y lr rs O u (i+1) (twS a b lw t p1 p2 x y O (some (.str hd.name))) G2->C false G2)->xut (tOp (rEqZ false) (xop (xgm K) [] E0 (xlb (tVar 3) (xlb (tVar 2) tNil))) (xop (xgm K) [] E0 (xlb (tVar 8) (xlb (tVar 2) tNil)))) (twS a b lw t p1 p2 x y O (some (.str hd.name))) G1 C:=by
    intro d2 d3 s2 G1 au C hC;refine(xan _ rfl _ rfl x O d2 (xbn s2 u _ rfl au.h1 (λt1 G2 g2 cc=>?_)));refine(xan _ rfl _ rfl y O d3 (xbn s2 u _ rfl ((au.same g2).h2) (λt2 G3 g3 cb=>?_)));exact(jAA (xmp (cc.same g3) cb ab au.h1.ok) (jEEA _ _ rfl rfl) (jEA _ rfl (hC _ (xc6 d2 d3 s2 _ rfl (au.same (g2.trans g3))))))
   refine(xa7 _ rfl x _ f1 rfl ce (l1.no _ (by walk_at"k")) _ rfl (xal x O c2 s' u (xcn _ hd r rfl tw.h1 b5 al (by omega) (λsh=>?_) (λsh d2 G1 g1 k1=>?_))))
   ·obtain⟨f2,bf,l2⟩:=tw.h2.at_.ob
    refine(xa7 _ rfl y _ f2 rfl bf (l2.no _ (by walk_at"k")) _ rfl (xal y O c3 s' u (xcn _ hd r rfl tw.h2 b5 al (by omega) (λ_=>?_) (λaj=>by rw[sh]at aj;cases aj))));exact(jAEA rfl _ rfl (xl6 rfl (K2 _ _ _ _ tw.mono _ λG2 h=>iteF h)))
   ·have hh:=tw.half g1
    obtain⟨f2,bf,l2⟩:=hh.at_.ob;refine(xa7 _ rfl y _ f2 rfl bf (l2.no _ (by walk_at"k")) _ rfl (xal y O c3 s' u (xcn _ hd r rfl hh b5 al (by omega) (λaj=>(by rw[sh]at aj;cases aj)) (λ_ d3 G2 g2 k2=>?_))));exact(jAEA rfl _ rfl (xl6 rfl (K2 _ _ _ _ (tw.step g1 k1 g2 k2) _ λG3 h=>iteF h)))
  ·rintro σ G0 ⟨c2,c3,s',o9,rfl,tw⟩
   refine c4 _ _ ?_;refine(xbq _ rfl _ rfl a ns 7 rfl ((bt.trans tw.sm).seq hS) bn ⟨by decide,λfd p q cd=>?_⟩);have sF:=zA cd (.lst [.int p,.int q]);exact(xaj fd O p q u rfl ups (tw.h1.md.same sF _) ab bi k)
 refine(xb6 _ rfl a _ rfl (.inl hS) _ _ rfl rfl (jEA _ rfl (ite2 (λc1=>?_) (λc1=>?_))))
 ·cases ns with
  |nil=>exact absurd (z0 c1) (by decide)
  |cons n0 ns=>
   refine(xaa _ rfl a _ _ _ rfl rfl hS (xam (j:=0) rfl) (xb9 _ _ rfl rfl ⟨by decide,by decide⟩ (jEA _ rfl (λb H1 a7 s1 ci hb an ai=>K1 b H1 a7 s1 hb an ai))))
 ·exact(jEA _ rfl (λb H1 a7 s1 ci hb an ai=>K1 b H1 a7 s1 hb an ai))
theorem law_is(T:Tx K a):DefIs P w K a base 100 "law" ["_law_script"] (spLaw K):=by
 have take:∀k,DefIs P w K a base (k+1) "_law_take" qae xcw:=λk=>xd6 T;have size:DefIs P w K a base 28 "_law_size" qad (xhw 6):=(xo3 T 6 (by omega)).mono (by omega);have x:DefIs P w K a base 30 "_law_parts" qa2 xld:=xpl T (take 28) (size.mono (by omega));have p:∀k,DefIs P w K a base (k+2) "_law_any_kind" qao xq9:=λk=>xj8 T (take k);have e:DefIs P w K a base 45 "worth" qaf (xdq (λks=>Ev ks 21) 6):=xmj T 21 6 (by omega);have b:∀k,DefIs P w K a base (k+2) "hand_of" qac xgb:=λk=>xn4 (n:=k+1) T (xro T);have f:∀k,DefIs P w K a base (k+3) "row_at" qak xgn:=λk=>xps (n:=k+2) T (b k);have g:DefIs P w K a base 50 "stride" qau xf8:=xpr (n:=49) T (f 46) (xiv (n:=48) T (xlt T) (e.mono (by omega))) (xgz (n:=48) T (xsp T) (e.mono (by omega)));have o:DefIs P w K a base 51 "done" qav xmw:=xtt (n:=50) T (f 47) g (xel T) (e.mono (by omega));have step:∀k,52<=k->MethIs P w K a base k (ad K "Plain") "step" qab [[]] (xgp K):=λk i=>(xix (n:=51) T o).mono i;have c:∀k,MethIs P w K a base (k+2) (ad K "Plain") "stand" qab [[]] (xeo K):=λk=>xhr (n:=k+1) T (xdy T);have r:∀k,53<=k->MethIs P w K a base k (ad K "Plain") "weave" qba [[]] (xic K):=λk i=>(xho (n:=52) T (step 52 (by omega))).mono i;have s:∀k,52<=k->MethIs P w K a base k (ad K "Plain") "still" qaa [[]] (xie K):=λk i=>(xhp (n:=51) T (xhq (n:=50) T (f 47) g (xel T))).mono i
 have init:MethIs P w K a base 98 (ad K "Plain") "__init__" qai [[]] (xgr K):=xfj (n:=97) T (xfk (n:=96) T (xfb (n:=95) T (b 93) ((xfl T 6).mono (by omega))));have Z:∀k,DefIs P w K a base (k+1) "_law_hands_of" qap xfg:=λk=>xj6 T;have u:∀k,DefIs P w K a base (k+3) "_law_state" qag (xgm K):=λk=>xpj (n:=k+2) T (Z (k+1)) (c k) (xd7 T) (xcx T) (xd1 T);have l:DefIs P w K a base 80 "_law_new_term" qal xjl:=xlx T;have m:∀k,DefIs P w K a base (k+1) "_law_into" qay xmv:=λk=>xrk T;have a0:DefIs P w K a base 81 "_law_deal" qa4 xo0:=xrl (n:=80) T (take 79) (m 79) l;have M:DefIs P w K a base 82 "_law_rows" qa5 xtc:=xri (n:=81) T (take 80) (m 80) (l.mono (by omega)) a0;have I:DefIs P w K a base 83 "_law_hands" qa7 (xlh K):=xpo (n:=82) T (xgd T) (xpp (n:=81) T (take 80) (p 79)) M;have make:DefIs P w K a base 84 "_law_make" qa6 (xou K):=xrj (n:=83) T (xgd T) (take 82) ((xpn T (take 29) x).mono (by omega)) (xj7 (n:=82) T (take 81) (p 80)) I;have y:∀k,52<=k->MethIs P w K a base k (ad K "Lone") "step" qaa [[]] (xlf K):=λk i=>(xkb (n:=51) T o).mono i;have j:∀k,MethIs P w K a base (k+2) (ad K "Lone") "stand" qaa [[]] (xig K):=λk=>xiy (n:=k+1) T (xdy T);have z:∀k,MethIs P w K a base (k+2) (ad K "Lone") "sent" qaa [[]] (xep K LSt.goi):=λk=>xkc (n:=k+1) T (xek T);have C:∀k,MethIs P w K a base (k+2) (ad K "Lone") "left" qaa [[]] (xep K LSt.com):=λk=>xkd (n:=k+1) T (xek T)
 have G:MethIs P w K a base 97 (ad K "Lone") "__init__" qaq [[.none],[]] (xlg K):=xke (n:=96) T (xfb (n:=95) T (b 93) ((xfl T 6).mono (by omega))) (xdy T) (xhn T) (xf3 T);have O:∀k,94<=k->MethIs P w K a base k (ad K "Plain") "__init__" qai [[]] (xgr K):=λk i=>(xfj (n:=93) T (xfk (n:=92) T (xfb (n:=91) T (b 89) ((xfl T 6).mono (by omega))))).mono i;have U:∀k,96<=k->DefIs P w K a base k "plain_at" qaw (xfe K):=λk i=>(xlu (n:=94) T (O 94 (by omega)) (xdy T) (xek T)).mono i;have J:∀k,53<=k->DefIs P w K a base k "_law_still" qag (xga K):=λk i=>(xpi (n:=52) T (c 50) (xcx T) (s 52 (by omega))).mono i;have a1:DefIs P w K a base 98 "_law_own" qa8 (xow K):=xts (n:=97) T (take 96) (xeu T (take 95)) ((xmk T 6).mono (by omega));have Y:DefIs P w K a base 99 "_law_lone_alike" qa9 (xle K):=xhm (n:=97) T a1 (take 97) (U 98 (by omega)) (J 98 (by omega)) (c 96) (xd7 T) (xd1 T) (xcx T) (step 98 (by omega)) G (y 98 (by omega)) (j 96) (xka T) (z 96) (C 96) (xiz T);exact xvs (n:=98) T (xpm T) (make.mono (by omega)) (J 99 (by omega)) (xlr (n:=98) T (xgd T) (take 97)) (u 96) (xj4 (n:=98) T (Z 97) (c 96) (xd7 T) (xd1 T) (xcx T)) (U 99 (by omega)) (xpk T) Y (xgd T) init (r 99 (by omega)) (step 99 (by omega))
end
end K39
end
end
namespace PySem.W.Fast
theorem tw8143101198376014041:0=0:=rfl
theorem tw15698709417672642890:0=0:=rfl
theorem tw10908194948734026383:0=0:=rfl
theorem tw6726955392119758637:0=0:=rfl
theorem tw10564769504398894017:0=0:=rfl
theorem tw1904235475557646359:0=0:=rfl
theorem tw17940323009584063836:0=0:=rfl
theorem tw8948950702351660908:0=0:=rfl
theorem tw717385406565331448:0=0:=rfl
theorem tw11150474251161499728:0=0:=rfl
theorem tw17494919043919227715:0=0:=rfl
theorem tw6099801128460538978:0=0:=rfl
theorem tw12288727125573508339:0=0:=rfl
theorem tw11555930833089242915:0=0:=rfl
theorem tw10375033940757921430:0=0:=rfl
theorem tw13206637497751925258:0=0:=rfl
theorem tw12434130079006773299:0=0:=rfl
theorem tw16633595263356324337:0=0:=rfl
theorem tw6947759519813720159:0=0:=rfl
theorem tw6727411288017398403:0=0:=rfl
theorem tw18261329152137064827:0=0:=rfl
theorem tw13305482538473897603:0=0:=rfl
theorem tw9519159296825836283:0=0:=rfl
theorem tw9057449842129779120:0=0:=rfl
theorem tw1666195364889209703:0=0:=rfl
theorem tw14341777465545161224:0=0:=rfl
theorem tw15103510052171795944:0=0:=rfl
theorem tw14376064931525384417:0=0:=rfl
theorem tw2462188449551987884:0=0:=rfl
theorem tw13483144872972379126:0=0:=rfl
theorem tw6745996675669584098:0=0:=rfl
theorem tw15336322010539276375:0=0:=rfl
theorem tw13483297143881462090:0=0:=rfl
theorem tw14373877510062040978:0=0:=rfl
theorem tw6916289176637800497:0=0:=rfl
theorem tw14252863247236820860:0=0:=rfl
theorem tw9942764528205765692:0=0:=rfl
theorem tw9175553682303950512:0=0:=rfl
theorem tw6444887285436685865:0=0:=rfl
theorem tw271939252608528437:0=0:=rfl
theorem tw646052608260805983:0=0:=rfl
theorem tw2507167371874531706:0=0:=rfl
theorem tw12139242788277216376:0=0:=rfl
theorem tw7038261179627868742:0=0:=rfl
theorem tw3740190387649320983:0=0:=rfl
theorem tw4042680505008102127:0=0:=rfl
theorem tw4250658769391128531:0=0:=rfl
theorem tw3810752054466316468:0=0:=rfl
theorem tw12289941439535004573:0=0:=rfl
theorem tw8052542633897125938:0=0:=rfl
theorem tw9809102307470113759:0=0:=rfl
theorem tw6903539436789393686:0=0:=rfl
theorem tw11359986910559740091:0=0:=rfl
theorem tw15862049508622807670:0=0:=rfl
theorem tw17673462447117337050:0=0:=rfl
theorem tw2609221281884410015:0=0:=rfl
theorem tw14333178809845967053:0=0:=rfl
theorem tw14041775200326054383:0=0:=rfl
theorem tw18324560214571028405:0=0:=rfl
theorem tw10059386932675416454:0=0:=rfl
theorem tw3618074609418045210:0=0:=rfl
theorem tw4737983425306075046:0=0:=rfl
theorem tw17355571937200306561:0=0:=rfl
theorem tw6377638039997489422:0=0:=rfl
theorem tw5097301602853271972:0=0:=rfl
theorem tw4713726763083038654:0=0:=rfl
theorem tw11340797013665900119:0=0:=rfl
theorem tw13513191612150357085:0=0:=rfl
theorem tw2257680108255393946:0=0:=rfl
theorem tw5895132894283467198:0=0:=rfl
theorem tw4487182133481041747:0=0:=rfl
theorem tw10166263830154210011:0=0:=rfl
theorem tw596097678348207265:0=0:=rfl
theorem tw11604545383305034358:0=0:=rfl
theorem tw9821384017211526510:0=0:=rfl
theorem tw17770162598652384373:0=0:=rfl
theorem tw7591886655087157419:0=0:=rfl
theorem tw7550014695089029380:0=0:=rfl
theorem tw13485900041461591821:0=0:=rfl
theorem tw12560713866921993365:0=0:=rfl
theorem tw11668897304552293009:0=0:=rfl
theorem tw6793887694406690265:0=0:=rfl
theorem tw3032048311231865704:0=0:=rfl
theorem tw10470647185500290872:0=0:=rfl
theorem tw17597141548856101336:0=0:=rfl
theorem tw12251718176277373949:0=0:=rfl
theorem tw17207984813213330751:0=0:=rfl
theorem tw4053361451374721325:0=0:=rfl
theorem tw1807206561067687208:0=0:=rfl
theorem tw2741911262988601583:0=0:=rfl
theorem tw8265098090353901572:0=0:=rfl
theorem tw4083465103040530228:0=0:=rfl
theorem tw15336516214422766592:0=0:=rfl
theorem tw16349005464944727281:0=0:=rfl
theorem tw4988723654970624639:0=0:=rfl
theorem tw4455845729046041843:0=0:=rfl
theorem tw10325949190459080857:0=0:=rfl
theorem tw14747829577078691299:0=0:=rfl
theorem tw16821591341577083985:0=0:=rfl
theorem tw11971413121989014412:0=0:=rfl
theorem tw14481783549885019583:0=0:=rfl
theorem tw16452291176182765575:0=0:=rfl
theorem tw136704971359398359:0=0:=rfl
theorem tw9764601271907943025:0=0:=rfl
theorem tw3013418955178346844:0=0:=rfl
theorem tw13323305758453988038:0=0:=rfl
theorem tw15736415875672551295:0=0:=rfl
theorem tw3399941615366974659:0=0:=rfl
theorem tw4223404884144126056:0=0:=rfl
theorem tw12276211502639008848:0=0:=rfl
theorem tw3142582645650516254:0=0:=rfl
theorem tw16218435007637024435:0=0:=rfl
theorem tw8277421124160394198:0=0:=rfl
theorem tw10935171047894443926:0=0:=rfl
theorem tw14112049159899663045:0=0:=rfl
theorem tw13837160891731603816:0=0:=rfl
theorem tw11811443636110148366:0=0:=rfl
theorem tw14029535243453906470:0=0:=rfl
theorem tw1482554946612037520:0=0:=rfl
theorem tw9762597562831893799:0=0:=rfl
theorem tw3546928783682878437:0=0:=rfl
theorem tw18241540415659544402:0=0:=rfl
theorem tw5303770534841297270:0=0:=rfl
theorem tw11443724866660385687:0=0:=rfl
theorem tw4805596460810256035:0=0:=rfl
theorem tw5013733100933712998:0=0:=rfl
theorem tw7559947338782678478:0=0:=rfl
theorem tw3281280671642197118:0=0:=rfl
theorem tw8267222044173638946:0=0:=rfl
theorem tw260651652833608407:0=0:=rfl
theorem tw13307511124867003497:0=0:=rfl
theorem tw3794526942375314620:0=0:=rfl
theorem tw12797478346341813123:0=0:=rfl
theorem tw7150834934570991979:0=0:=rfl
theorem tw3504935353135654450:0=0:=rfl
theorem tw2821670079232792409:0=0:=rfl
theorem tw282993090206197023:0=0:=rfl
theorem tw7684740971157636902:0=0:=rfl
theorem tw18440607941511843557:0=0:=rfl
theorem tw14778103401913923312:0=0:=rfl
theorem tw475418117206335446:0=0:=rfl
theorem tw6107925512864355832:0=0:=rfl
theorem tw11206027307060082295:0=0:=rfl
theorem tw5331367432113458841:0=0:=rfl
theorem tw6148577591350455540:0=0:=rfl
theorem tw4517322544266919394:0=0:=rfl
theorem tw16083339367508785572:0=0:=rfl
theorem tw11236596397393520338:0=0:=rfl
theorem tw4464558527113106734:0=0:=rfl
theorem tw12794586615826760960:0=0:=rfl
theorem tw2687789557847685802:0=0:=rfl
theorem tw13390914125542554447:0=0:=rfl
theorem tw7901712522336354994:0=0:=rfl
theorem tw13529250847344033145:0=0:=rfl
theorem tw15162550547474202718:0=0:=rfl
theorem tw4861522063327079486:0=0:=rfl
theorem tw17245994773646785107:0=0:=rfl
theorem tw13545496260158659812:0=0:=rfl
theorem tw5799751309342392797:0=0:=rfl
theorem tw8561154921656144351:0=0:=rfl
theorem tw15259702869810408263:0=0:=rfl
theorem tw243421909734118886:0=0:=rfl
theorem tw1597122766279037806:0=0:=rfl
theorem tw16661778654402669145:0=0:=rfl
theorem tw472001029133841689:0=0:=rfl
theorem tw5735773652982234480:0=0:=rfl
theorem tw12304112533459918958:0=0:=rfl
end PySem.W.Fast
open PySem PySem.W PyProof.Rows
set_option maxRecDepth 100000 in
set_option maxHeartbeats 0 in
theorem PySem.Challenge.cw_swapstride_k39_houses_begun_amid_holds : PySem.Challenge.rw_swapstride_k39_houses_begun_amid.Holds := by
 w_on;o_law;k_head;(case hw=>w_witness2)
 k_fill
 refine L2.walk_of (l:=PySem.Challenge.rw_swapstride_k39_houses_begun_amid) (n:=63) (k:=100) (x:="_law_script") (CX:=λ_=>L2.CX0) (sp:=λ_=>K39.spLaw _) rfl (by decide) rfl ⟨rfl,by decide,by decide⟩ (λw h Y=>PySem.W.kIn_of Y) ?F (λ_ _ a ns hl _ hS=>⟨a,ns,rfl,hS,hl,λ_=>rfl⟩) λ_ _ _ _ _ z=>z
 case F=>
  intro w mg fa h KX G hmg
  have jA:L2.DefTx (L2.KOf KX) mg "row_ways" K39.s_row_ways ["row","k"]:=by
   walk_at"d"
  have jB:L2.DefTx (L2.KOf KX) mg "hand_of" K39.s_hand_of L2.qac:=by
   walk_at"d"
  have jC:L2.DefTx (L2.KOf KX) mg "named" K39.s_named L2.qbb:=by
   walk_at"d"
  have jD:L2.DefTx (L2.KOf KX) mg "channels_from" K39.s_channels_from L2.qac:=by
   walk_at"d"
  have jE:L2.DefTx (L2.KOf KX) mg "channels_to" K39.s_channels_to L2.qac:=by
   walk_at"d"
  have jF:L2.DefTx (L2.KOf KX) mg "sort_of" K39.s_sort_of L2.qaj:=by
   walk_at"d"
  have jG:L2.DefTx (L2.KOf KX) mg "parts_of" K39.s_parts_of L2.qaj:=by
   walk_at"d"
  have jH:L2.DefTx (L2.KOf KX) mg "with_box" K39.s_with_box L2.qar:=by
   walk_at"d"
  have jI:L2.DefTx (L2.KOf KX) mg "nought" K39.s_nought L2.qas:=by
   walk_at"d"
  have jJ:L2.DefTx (L2.KOf KX) mg "field" K39.s_field L2.qbc:=by
   walk_at"d"
  have jK:L2.DefTx (L2.KOf KX) mg "worth" K39.s_worth L2.qaf:=by
   walk_at"d"
  have jL:L2.DefTx (L2.KOf KX) mg "op_worth" K39.s_op_worth L2.qa0:=by
   walk_at"d"
  have jM:L2.DefTx (L2.KOf KX) mg "case_worth" K39.s_case_worth L2.qaf:=by
   walk_at"d"
  have jN:L2.DefTx (L2.KOf KX) mg "begin_of" K39.s_begin_of L2.qac:=by
   walk_at"d"
  have jO:L2.DefTx (L2.KOf KX) mg "own_stand" K39.s_own_stand ["stand"]:=by
   walk_at"d"
  have jP:L2.DefTx (L2.KOf KX) mg "own_lists" K39.s_own_lists ["lists"]:=by
   walk_at"d"
  have jQ:L2.DefTx (L2.KOf KX) mg "row_at" K39.s_row_at L2.qak:=by
   walk_at"d"
  have jR:L2.DefTx (L2.KOf KX) mg "first_letter" K39.s_first_letter L2.qat:=by
   walk_at"d"
  have jS:L2.DefTx (L2.KOf KX) mg "stride" K39.s_stride L2.qau:=by
   walk_at"d"
  have jT:L2.DefTx (L2.KOf KX) mg "row_behind" K39.s_row_behind L2.qbd:=by
   walk_at"d"
  have jU:L2.DefTx (L2.KOf KX) mg "boxes_behind" K39.s_boxes_behind L2.qa1:=by
   walk_at"d"
  have jV:L2.DefTx (L2.KOf KX) mg "done" K39.s_done L2.qav:=by
   walk_at"d"
  have jW:L2.DefTx (L2.KOf KX) mg "plain_at" K39.s_plain_at L2.qaw:=by
   walk_at"d"
  have jX:L2.DefTx (L2.KOf KX) mg "_law_feed" K39.sl_feed L2.qan:=by
   walk_at"d"
  have jY:L2.DefTx (L2.KOf KX) mg "_law_take" K39.sl_take L2.qae:=by
   walk_at"d"
  have jZ:L2.DefTx (L2.KOf KX) mg "_law_names" K39.sl_names L2.qbe:=by
   walk_at"d"
  have j0:L2.DefTx (L2.KOf KX) mg "_law_number" K39.sl_number L2.qax:=by
   walk_at"d"
  have j1:L2.DefTx (L2.KOf KX) mg "_law_sort_of" K39.sl_sort_of L2.qad:=by
   walk_at"d"
  have j2:L2.DefTx (L2.KOf KX) mg "_law_size" K39.sl_size L2.qad:=by
   walk_at"d"
  have j3:L2.DefTx (L2.KOf KX) mg "_law_small" K39.sl_small L2.qad:=by
   walk_at"d"
  have j4:L2.DefTx (L2.KOf KX) mg "_law_parts" K39.sl_parts L2.qa2:=by
   walk_at"d"
  have j5:L2.DefTx (L2.KOf KX) mg "_law_kinds" K39.sl_kinds L2.qbf:=by
   walk_at"d"
  have j6:L2.DefTx (L2.KOf KX) mg "_law_boxed" K39.sl_boxed L2.qa3:=by
   walk_at"d"
  have j7:L2.DefTx (L2.KOf KX) mg "_law_arms" K39.sl_arms L2.qbg:=by
   walk_at"d"
  have j8:L2.DefTx (L2.KOf KX) mg "_law_whole_term" K39.sl_whole_term L2.qah:=by
   walk_at"d"
  have j9:L2.DefTx (L2.KOf KX) mg "_law_term" K39.sl_term L2.qah:=by
   walk_at"d"
  have kA:L2.DefTx (L2.KOf KX) mg "_law_new_term" K39.sl_new_term L2.qal:=by
   walk_at"d"
  have kB:L2.DefTx (L2.KOf KX) mg "_law_any_kind" K39.sl_any_kind L2.qao:=by
   walk_at"d"
  have kC:L2.DefTx (L2.KOf KX) mg "_law_channels" K39.sl_channels L2.qbh:=by
   walk_at"d"
  have kD:L2.DefTx (L2.KOf KX) mg "_law_boxes" K39.sl_boxes L2.qbi:=by
   walk_at"d"
  have kE:L2.DefTx (L2.KOf KX) mg "_law_into" K39.sl_into L2.qay:=by
   walk_at"d"
  have kF:L2.DefTx (L2.KOf KX) mg "_law_deal" K39.sl_deal L2.qa4:=by
   walk_at"d"
  have kG:L2.DefTx (L2.KOf KX) mg "_law_rows" K39.sl_rows L2.qa5:=by
   walk_at"d"
  have kH:L2.DefTx (L2.KOf KX) mg "_law_make" K39.sl_make L2.qa6:=by
   walk_at"d"
  have kI:L2.DefTx (L2.KOf KX) mg "_law_hands" K39.sl_hands L2.qa7:=by
   walk_at"d"
  have kJ:L2.DefTx (L2.KOf KX) mg "_law_value" K39.sl_value L2.qaz:=by
   walk_at"d"
  have kK:L2.DefTx (L2.KOf KX) mg "_law_hands_of" K39.sl_hands_of L2.qap:=by
   walk_at"d"
  have kL:L2.DefTx (L2.KOf KX) mg "_law_weaving" K39.sl_weaving L2.qbj:=by
   walk_at"d"
  have kM:L2.DefTx (L2.KOf KX) mg "_law_state" K39.sl_state L2.qag:=by
   walk_at"d"
  have kN:L2.DefTx (L2.KOf KX) mg "_law_parts_of" K39.sl_parts_of L2.qag:=by
   walk_at"d"
  have kO:L2.DefTx (L2.KOf KX) mg "_law_own" K39.sl_own L2.qa8:=by
   walk_at"d"
  have kP:L2.DefTx (L2.KOf KX) mg "_law_spoil" K39.sl_spoil L2.qbk:=by
   walk_at"d"
  have kQ:L2.DefTx (L2.KOf KX) mg "_law_still" K39.sl_still L2.qag:=by
   walk_at"d"
  have kR:L2.DefTx (L2.KOf KX) mg "_law_lone_alike" K39.sl_lone_alike L2.qa9:=by
   walk_at"d"
  have kS:L2.DefTx (L2.KOf KX) mg "law" K39.s_law ["_law_script"]:=by
   walk_at"d"
  have kT:∃t,mg "WIDE"=some (.int 4294967296 t):=by
   refine' L2.gint_mk KX G ?a
   (case a=>k_is)
  have kU:mg "all"=none:=by
   refine' PySem.W.mg_none_of KX G ?a
   (case a=>k_is)
  have kW:mg "dict"=none:=by
   refine' PySem.W.mg_none_of KX G ?a
   (case a=>k_is)
  have kX:mg "int"=none:=by
   refine' PySem.W.mg_none_of KX G ?a
   (case a=>k_is)
  have kY:mg "len"=none:=by
   refine' PySem.W.mg_none_of KX G ?a
   (case a=>k_is)
  have kZ:mg "list"=none:=by
   refine' PySem.W.mg_none_of KX G ?a
   (case a=>k_is)
  have k0:mg "max"=none:=by
   refine' PySem.W.mg_none_of KX G ?a
   (case a=>k_is)
  have k7:mg "min"=none:=by
   refine' PySem.W.mg_none_of KX G ?a
   (case a=>k_is)
  have uA:mg "range"=none:=by
   refine' PySem.W.mg_none_of KX G ?a
   (case a=>k_is)
  have uB:mg "sum"=none:=by
   refine' PySem.W.mg_none_of KX G ?a
   (case a=>k_is)
  have uC:mg "tuple"=none:=by
   refine' PySem.W.mg_none_of KX G ?a
   (case a=>k_is)
  have uD:mg "Plain"=some (.ref (L2.ad (L2.KOf KX) "Plain")):=by
   refine' PySem.W.mg_of KX G ?a
   (case a=>kernel_rfl)
  have uE:L2.DTab (L2.KOf KX) "Plain" ["make","stands","between","tellings","counts"]:=by
   refine' L2.dtab_of ?a
   (case a=>kernel_rfl)
  have uF:mg "Lone"=some (.ref (L2.ad (L2.KOf KX) "Lone")):=by
   refine' PySem.W.mg_of KX G ?a
   (case a=>kernel_rfl)
  have uG:L2.DTab (L2.KOf KX) "Lone" L2.qbl:=by
   refine' L2.dtab_of ?a
   (case a=>kernel_rfl)
  have uH:mg "House"=some (.ref (L2.ad (L2.KOf KX) "House")):=by
   refine' PySem.W.mg_of KX G ?a
   (case a=>kernel_rfl)
  have uI:L2.CTab (L2.KOf KX) "House" "__init__":=by
   refine' L2.ctab_of ?a
   (case a=>kernel_rfl)
  have uJ:L2.MethTx (L2.KOf KX) "House.__init__" (L2.ad (L2.KOf KX) "House") "__init__" K39.s_House_init L2.qai [[]]:=by
   dsimp only[L2.KOf];refine' L2.meth_mk ?a ?i ?n ?l ?c ?k ?b
   (case a=>k_is);(case i=>k_is);(case n=>k_is);(case l=>k_is);(case c=>k_is);(case k=>k_is)
   (case b=>exact λ_ _ _ _ _ _ us hl=>match us,hl with |[_,_],_=>rfl)
  have uK:L2.MethTx (L2.KOf KX) "House.stand" (L2.ad (L2.KOf KX) "Plain") "stand" K39.s_Plain_stand L2.qab [[]]:=by
   dsimp only[L2.KOf];refine' L2.meth_mk ?a ?i ?n ?l ?c ?k ?b
   (case a=>k_is);(case i=>k_is);(case n=>k_is);(case l=>k_is);(case c=>k_is);(case k=>k_is)
   (case b=>exact λ_ _ _ _ _ _ us hl=>match us,hl with |[_,_],_=>rfl)
  have uL:L2.MethTx (L2.KOf KX) "House.told" (L2.ad (L2.KOf KX) "Plain") "told" K39.s_Plain_told L2.qab [[]]:=by
   dsimp only[L2.KOf];refine' L2.meth_mk ?a ?i ?n ?l ?c ?k ?b
   (case a=>k_is);(case i=>k_is);(case n=>k_is);(case l=>k_is);(case c=>k_is);(case k=>k_is)
   (case b=>exact λ_ _ _ _ _ _ us hl=>match us,hl with |[_,_],_=>rfl)
  have uM:L2.MethTx (L2.KOf KX) "House.letters" (L2.ad (L2.KOf KX) "Plain") "letters" K39.s_Plain_letters L2.qam [[]]:=by
   dsimp only[L2.KOf];refine' L2.meth_mk ?a ?i ?n ?l ?c ?k ?b
   (case a=>k_is);(case i=>k_is);(case n=>k_is);(case l=>k_is);(case c=>k_is);(case k=>k_is)
   (case b=>exact λ_ _ _ _ _ _ us hl=>match us,hl with |[_,_],_=>rfl)
  have uN:L2.MethTx (L2.KOf KX) "House.count" (L2.ad (L2.KOf KX) "Plain") "count" K39.s_Plain_count L2.qab [[]]:=by
   dsimp only[L2.KOf];refine' L2.meth_mk ?a ?i ?n ?l ?c ?k ?b
   (case a=>k_is);(case i=>k_is);(case n=>k_is);(case l=>k_is);(case c=>k_is);(case k=>k_is)
   (case b=>exact λ_ _ _ _ _ _ us hl=>match us,hl with |[_,_],_=>rfl)
  have uO:L2.MethTx (L2.KOf KX) "Plain.__init__" (L2.ad (L2.KOf KX) "Plain") "__init__" K39.s_Plain_init L2.qai [[]]:=by
   dsimp only[L2.KOf];refine' L2.meth_mk ?a ?i ?n ?l ?c ?k ?b
   (case a=>k_is);(case i=>k_is);(case n=>k_is);(case l=>k_is);(case c=>k_is);(case k=>k_is)
   (case b=>exact λ_ _ _ _ _ _ us hl=>match us,hl with |[_,_],_=>rfl)
  have uP:L2.MethTx (L2.KOf KX) "Plain.step" (L2.ad (L2.KOf KX) "Plain") "step" K39.s_Plain_step L2.qab [[]]:=by
   dsimp only[L2.KOf];refine' L2.meth_mk ?a ?i ?n ?l ?c ?k ?b
   (case a=>k_is);(case i=>k_is);(case n=>k_is);(case l=>k_is);(case c=>k_is);(case k=>k_is)
   (case b=>exact λ_ _ _ _ _ _ us hl=>match us,hl with |[_,_],_=>rfl)
  have uQ:L2.MethTx (L2.KOf KX) "Plain.weave" (L2.ad (L2.KOf KX) "Plain") "weave" K39.s_Plain_weave L2.qba [[]]:=by
   dsimp only[L2.KOf];refine' L2.meth_mk ?a ?i ?n ?l ?c ?k ?b
   (case a=>k_is);(case i=>k_is);(case n=>k_is);(case l=>k_is);(case c=>k_is);(case k=>k_is)
   (case b=>exact λ_ _ _ _ _ _ us hl=>match us,hl with |[_,_],_=>rfl)
  have uR:L2.MethTx (L2.KOf KX) "Plain.still" (L2.ad (L2.KOf KX) "Plain") "still" K39.s_Plain_still L2.qaa [[]]:=by
   dsimp only[L2.KOf];refine' L2.meth_mk ?a ?i ?n ?l ?c ?k ?b
   (case a=>k_is);(case i=>k_is);(case n=>k_is);(case l=>k_is);(case c=>k_is);(case k=>k_is)
   (case b=>exact λ_ _ _ _ _ _ us hl=>match us,hl with |[_],_=>rfl)
  have uS:L2.MethTx (L2.KOf KX) "Plain.stays" (L2.ad (L2.KOf KX) "Plain") "stays" K39.s_Plain_stays L2.qab [[]]:=by
   dsimp only[L2.KOf];refine' L2.meth_mk ?a ?i ?n ?l ?c ?k ?b
   (case a=>k_is);(case i=>k_is);(case n=>k_is);(case l=>k_is);(case c=>k_is);(case k=>k_is)
   (case b=>exact λ_ _ _ _ _ _ us hl=>match us,hl with |[_,_],_=>rfl)
  have uT:L2.MethTx (L2.KOf KX) "Lone.__init__" (L2.ad (L2.KOf KX) "Lone") "__init__" K39.s_Lone_init L2.qaq [[.none],[]]:=by
   dsimp only[L2.KOf];refine' L2.meth_mkD ?a ?i ?n ?l ?c ?k ?d ?e ?b
   (case a=>k_is);(case i=>k_is);(case n=>k_is);(case l=>k_is);(case c=>k_is);(case k=>k_is);(case d=>k_is);(case e=>rfl)
   (case b=>exact K39.bind_Lone_init)
  have uU:L2.MethTx (L2.KOf KX) "Lone.step" (L2.ad (L2.KOf KX) "Lone") "step" K39.s_Lone_step L2.qaa [[]]:=by
   dsimp only[L2.KOf];refine' L2.meth_mk ?a ?i ?n ?l ?c ?k ?b
   (case a=>k_is);(case i=>k_is);(case n=>k_is);(case l=>k_is);(case c=>k_is);(case k=>k_is)
   (case b=>exact λ_ _ _ _ _ _ us hl=>match us,hl with |[_],_=>rfl)
  have uV:L2.MethTx (L2.KOf KX) "Lone.stand" (L2.ad (L2.KOf KX) "Lone") "stand" K39.s_Lone_stand L2.qaa [[]]:=by
   dsimp only[L2.KOf];refine' L2.meth_mk ?a ?i ?n ?l ?c ?k ?b
   (case a=>k_is);(case i=>k_is);(case n=>k_is);(case l=>k_is);(case c=>k_is);(case k=>k_is)
   (case b=>exact λ_ _ _ _ _ _ us hl=>match us,hl with |[_],_=>rfl)
  have uW:L2.MethTx (L2.KOf KX) "Lone.told" (L2.ad (L2.KOf KX) "Lone") "told" K39.s_Lone_told L2.qaa [[]]:=by
   dsimp only[L2.KOf];refine' L2.meth_mk ?a ?i ?n ?l ?c ?k ?b
   (case a=>k_is);(case i=>k_is);(case n=>k_is);(case l=>k_is);(case c=>k_is);(case k=>k_is)
   (case b=>exact λ_ _ _ _ _ _ us hl=>match us,hl with |[_],_=>rfl)
  have uX:L2.MethTx (L2.KOf KX) "Lone.sent" (L2.ad (L2.KOf KX) "Lone") "sent" K39.s_Lone_sent L2.qaa [[]]:=by
   dsimp only[L2.KOf];refine' L2.meth_mk ?a ?i ?n ?l ?c ?k ?b
   (case a=>k_is);(case i=>k_is);(case n=>k_is);(case l=>k_is);(case c=>k_is);(case k=>k_is)
   (case b=>exact λ_ _ _ _ _ _ us hl=>match us,hl with |[_],_=>rfl)
  have uY:L2.MethTx (L2.KOf KX) "Lone.left" (L2.ad (L2.KOf KX) "Lone") "left" K39.s_Lone_left L2.qaa [[]]:=by
   dsimp only[L2.KOf];refine' L2.meth_mk ?a ?i ?n ?l ?c ?k ?b
   (case a=>k_is);(case i=>k_is);(case n=>k_is);(case l=>k_is);(case c=>k_is);(case k=>k_is)
   (case b=>exact λ_ _ _ _ _ _ us hl=>match us,hl with |[_],_=>rfl)
  have uZ:L2.MethTx (L2.KOf KX) "Lone.count" (L2.ad (L2.KOf KX) "Lone") "count" K39.s_Lone_count L2.qaa [[]]:=by
   dsimp only[L2.KOf];refine' L2.meth_mk ?a ?i ?n ?l ?c ?k ?b
   (case a=>k_is);(case i=>k_is);(case n=>k_is);(case l=>k_is);(case c=>k_is);(case k=>k_is)
   (case b=>exact λ_ _ _ _ _ _ us hl=>match us,hl with |[_],_=>rfl)
  have T:K39.Tx (L2.KOf KX) mg:=⟨jA,jB,jC,jD,jE,jF,jG,jH,jI,jJ,jK,jL,jM,jN,jO,jP,jQ,jR,jS,jT,jU,jV,jW,jX,jY,jZ,j0,j1,j2,j3,j4,j5,j6,j7,j8,j9,kA,kB,kC,kD,kE,kF,kG,kH,kI,kJ,kK,kL,kM,kN,kO,kP,kQ,kR,kS,kT,kU,kW,kX,kY,kZ,k0,k7,uA,uB,uC,uD,uE,uF,uG,uH,uI,uJ,uK,uL,uM,uN,uO,uP,uQ,uR,uS,uT,uU,uV,uW,uX,uY,uZ⟩;exact L2.law_top kS hmg λbase=>K39.law_is T
