import PyProof.Rows.All
import Wide.All
import OpenK.AllK
import Wide.FinOn
import Lean
import PyProof.EqAt
import PyProof.EqKinds
import PyProof.TupleCall
import PyProof.ZipIter
import PyProof.ListNew
import PyProof.TupleIter
import PyProof.WalksMore
import KE.KIntText
import PyProof.Rows.EqBoolInt
import PyProof.Rows.ZipGen
import PySem.Str
import PyProof.StrLawsTight
import PyProof.StrLawsIdx
import PyProof.StrLawsIn
import PyProof.Rows.SetFrom
import KE.KDictSum
import PyProof.Rows.SortWalk
import PyProof.NeKinds
import KE.KDictList
import KE.KRevIter
import PyProof.EnumMake
import PyProof.Rows.EnumRows
import PyProof.ExcInit
import PyProof.InstStoreFacts
import PyProof.ExcArgsOwn
import PyProof.ExcAttrAll.ValueError
import PyProof.ExcBaseAll.ValueError
import PyProof.ConsumeWalk
import PyProof.AttrMissHeap
import KE.KItemsList
import KE.KEqDict
import PyProof.StationsW
import PyProof.RulesAs
import PyProof.NsDelKeeps
import PyProof.ListMulRoad
import PyProof.FactsAll.tuple
import PyProof.DictWalks
import KE.KPairComp
import PyProof.AutoListH
import PyProof.ReprRoads
import PyProof.StrLawsRepr
import PyProof.Rows.SortStr
import PySem.Challenge.RW_swapstride_k28_whole_one_fault_each
set_option Elab.async false
set_option linter.all false
set_option maxRecDepth 100000
set_option maxHeartbeats 4000000
noncomputable section
open PySem
def zG:=@PySem.F.plainAttrs_list
def zH:=@PySem.boot_len
def zI:=@PassesOwn.never
def zJ:=@PySem.F.type_list_append
def zK:=@PySem.F.slot_list_append
def zM:=@List.mem_append_right
def zN:=@PyProof.Rows.boot_tuple
def zP:=@PyProof.Rows.boot_list
def zQ:=@PySem.mem_of_lookup
def zR:=@Int.emod_lt_of_pos
def zS:=@List.map_congr_left
def zT:=@Int.emod_nonneg
def zU:=@List.mem_append_left
def zW:=@Nat.lt_of_le_of_lt
def zX:=@List.find?_some
def qB:=@wpAny_bind
def qC:=@Nat.le_trans
def qD:=@Nat.le_refl
def qE:=@of_decide_eq_true
def qG:=@wpAny_pure
def qH:=@Heap.lt_size
def qI:=@Heap.get?_push_size
def qJ:=@Bool.false_ne_true
def qK:=@Option.some.inj
def qL:=@Nat.ne_of_lt
def qM:=@Nat.lt_of_lt_of_le
def qO:=@List.mem_cons_of_mem
def qP:=@List.mem_map_of_mem
def qQ:=@Nat.lt_irrefl
def qS:=@Nat.le_succ
def qT:=@wpAny_field
def qU:=@wpAny_holding
def qW:=@List.mem_of_mem_take
def qX:=@Nat.zero_le
def qY:=@List.getElem_mem
def YC:=@wpAny_typeOf
def YE:=@wpAny_setField
end
abbrev Fg:=PySem.W.Frag
local macro_rules|`(tactic|omega)=>`(tactic|lia)
local macro_rules | `(tactic| walk_at"o")=>`(tactic| first |exact Or.inl rfl |exact Or.inr rfl)
local macro_rules | `(tactic| walk_at"q")=>`(tactic| exact⟨rfl,rfl,rfl,by decide +kernel,rfl,by decide +kernel,by decide +kernel⟩)
local macro_rules | `(tactic| walk_at"k")=>`(tactic| decide +kernel)
local macro_rules | `(tactic| walk_at"c")=>`(tactic| ((case a=>k_is);(case l=>k_is);(case c=>k_is);(case k=>k_is)))
set_option hygiene false in
local macro_rules | `(tactic| walk_at"d")=>`(tactic| (dsimp only[L2.KOf];refine' L2.deftx_mk KX G ?a ?l ?c ?k ?b;(case a=>k_is);(case l=>k_is);(case c=>k_is);(case k=>k_is);(case b=>(intro _ _ _ _ _ _ us hl;first |(obtain⟨_,rfl⟩:=L2.ln1 hl;rfl) |(obtain⟨_,_,rfl⟩:=L2.ln2 hl;rfl) |(obtain⟨_,_,_,rfl⟩:=L2.ln3 hl;rfl) |(obtain⟨_,_,_,_,rfl⟩:=L2.ln4 hl;rfl) |(obtain⟨_,_,_,_,_,rfl⟩:=L2.ln5 hl;rfl) |(obtain⟨_,_,_,_,_,_,rfl⟩:=L2.ln6 hl;rfl) |(obtain⟨_,_,_,_,_,_,_,rfl⟩:=L2.ln7 hl;rfl)))))
set_option hygiene false in
local macro_rules | `(tactic| walk_at"i")=>`(tactic| first |intro f cdv A outer s H vs Q E hr h |intro vs H Q E h)
local macro_rules | `(tactic| walk_at"s")=>`(tactic| first |(show 2 ≤ PySem.sizeLine;decide) |(show 3 ≤ PySem.sizeLine;decide) |(show 1 ≤ PySem.sizeLine;decide) |(show 0 ≤ PySem.sizeLine;decide) |(show 4 ≤ PySem.sizeLine;decide) |(show 5 ≤ PySem.sizeLine;decide) |(show 6 ≤ PySem.sizeLine;decide) |(show 8 ≤ PySem.sizeLine;decide))
theorem cF{α:Type _}{l:List α}{i:Nat}(h:i<l.length):l[i]?=some l[i]:=List.getElem?_eq_getElem h
def dH{α β:Type _}{f:α→β}{x:Option α}{b:β}(h:x.map f=some b):∃a,x=some a∧f a=b:=Option.map_eq_some_iff.mp h
theorem aM{α β:Type _}{as:List α}(f:α→β):(as.map f).length=as.length:=List.length_map f
theorem dA{α β:Type _}{f:α→β}{l:List α}{i:Nat}:(l.map f)[i]?=l[i]?.map f:=List.getElem?_map
theorem cV{α:Type _}{l:List α}{i:Nat}{a:α}(h:l[i]?=some a):∃h:i<l.length,l[i]=a:=List.getElem?_eq_some_iff.mp h
theorem cJ{α:Type _}{l:List α}{i:Nat}{a:α}(e:l[i]?=some a):a∈l:=List.mem_of_getElem? e
theorem fH{α:Type _}{i:Nat}{l:List α}(h:l.length ≤ i):l.take i=l:=List.take_of_length_le h
def dD{α:Type _}{a:α}{s t:List α}(h:a∈s++t):a∈s∨a∈t:=List.mem_append.mp h
theorem cD{α:Type _}{a b:α}(h:a∈[b]):a=b:=List.mem_singleton.mp h
theorem cS{p:Prop}[Decidable p](h:p):decide p=true:=decide_eq_true h
theorem cW{p:Prop}[Decidable p](h:¬p):decide p=false:=decide_eq_false h
local macro_rules | `(tactic| walk_at"l")=>`(tactic| (intro vs H Q E h;(repeat (rcases h with⟨_,h⟩)) <;> (subst_vars;rfl)))
local macro_rules | `(tactic| walk_at"rd1")=>`(tactic| first
 |refine⟨_,rfl,?_⟩
 |refine⟨_,_,rfl,rfl,?_⟩
 |refine⟨_,_,_,_,rfl,rfl,(by assumption),(by first |rfl |assumption),?_⟩
 |refine⟨_,_,rfl,.inl (by assumption),?_⟩
 |refine⟨(by first |exact .inr ⟨by decide,by decide⟩ |exact .inl ⟨by decide,by decide⟩ |exact⟨by decide,by decide,by decide⟩ |exact⟨by decide,by decide⟩ |exact⟨by assumption,by assumption⟩ |(show(0:Int)<_;first |decide |assumption)),?_⟩
 |refine⟨rfl,?_⟩)
local macro_rules | `(tactic| walk_at"rd")=>`(tactic| repeat walk_at"rd1")
local macro_rules | `(tactic| walk_at"rd1")=>`(tactic| first
 |refine⟨_,rfl,?_⟩
 |refine⟨_,_,rfl,rfl,?_⟩
 |refine⟨_,_,_,_,rfl,rfl,(by assumption),(by first |rfl |assumption),?_⟩
 |refine⟨rfl,?_⟩
 |refine M.iteKF (by walk_at"k") ?_
 |refine M.iteKT (by walk_at"k") ?_)
section
open PySem
def bX{h:Heap}{a:Addr}{u:Obj}(o:Obj)(e:h.get? a=some u):(h.push o).get? a=some u:=Heap.get?_push_of_some o e
theorem bS{α:Type _}{as bs:List α}:(as++bs).length=as.length+bs.length:=List.length_append
def mL{α:Type _}{p:α→Bool}{a:α}{l:List α}(h:l.find? p=some a):a∈l:=List.mem_of_find?_eq_some h
theorem gA{α:Type _}{l:List α}{i:Nat}:l.take (i+1)=l.take i++l[i]?.toList:=List.take_add_one
def oJ{α:Type _}{a:α}{l:List α}(h:a∈l):∃(i:Nat) (h:i<l.length),l[i]=a:=List.mem_iff_getElem.mp h
def gD{α:Type _}{a b:α}{l:List α}(h:a∈b::l):a=b∨a∈l:=List.mem_cons.mp h
def fV{α β:Type _}{b:β}{f:α→β}{l:List α}(h:b∈l.map f):∃a,a∈l∧f a=b:=List.mem_map.mp h
theorem bZ{α β:Type _}{f:α→β}{as bs:List α}:(as++bs).map f=as.map f++bs.map f:=List.map_append
end
namespace L2
def ln1{α:Type}{l:List α}(h:l.length=1):∃a,l=[a]:=match l,h with |[a],_=>⟨a,rfl⟩
def ln2{α:Type}{l:List α}(h:l.length=2):∃a b,l=[a,b]:=match l,h with |[a,b],_=>⟨a,b,rfl⟩
def ln3{α:Type}{l:List α}(h:l.length=3):∃a b c,l=[a,b,c]:=match l,h with |[a,b,c],_=>⟨a,b,c,rfl⟩
def ln4{α:Type}{l:List α}(h:l.length=4):∃a b c d,l=[a,b,c,d]:=match l,h with |[a,b,c,d],_=>⟨a,b,c,d,rfl⟩
def ln5{α:Type}{l:List α}(h:l.length=5):∃a b c d e,l=[a,b,c,d,e]:=match l,h with |[a,b,c,d,e],_=>⟨a,b,c,d,e,rfl⟩
def ln6{α:Type}{l:List α}(h:l.length=6):∃a b c d e f,l=[a,b,c,d,e,f]:=match l,h with |[a,b,c,d,e,f],_=>⟨a,b,c,d,e,f,rfl⟩
def ln7{α:Type}{l:List α}(h:l.length=7):∃a b c d e f g,l=[a,b,c,d,e,f,g]:=match l,h with |[a,b,c,d,e,f,g],_=>⟨a,b,c,d,e,f,g,rfl⟩
end L2
section
theorem Z{α:Sort _}{a:α}:a=a:=rfl
theorem aE{n:Nat}(h:Nat.ble n 8=true):n<=PySem.sizeLine:=qC (Nat.le_of_ble_eq_true h) (by decide)
theorem aA{p:Prop}[Decidable p](h:decide p=true):p:=qE h
end
section
theorem Fd{A:Prop}(h:∀G:Prop,(A->G)->G):A:=h A id
section
universe y1 y2 y3 y4 y5 y6
variable {a:Type y1}{b:Type y2}{c:Type y3}{d:Type y4}{e:Type y5}{f:Type y6}{u:a}{v:b}{w:c}{x:d}{y:e}{z:f}
variable {z0 z1 z2 z3:Type _}{Z0:z0}{Z1:z1}{Z2:z2}{Z3:z3}
variable {p0 q0 r0 s0 t0 P0 Q0 R0 S0 T0 i0 j0 I0 J0 F0:Prop}
variable {p1 q1 r1 s1 t1 P1 Q1 R1 S1 T1 i1 j1 I1 J1 F1:a->Prop}
variable {p2 q2 r2 s2 t2 P2 Q2 R2 S2 T2 i2 j2 I2 J2 F2:a->b->Prop}
variable {p3 q3 r3 s3 t3 P3 Q3 R3 S3 T3 i3 j3 I3 J3 F3:a->b->c->Prop}
variable {p4 q4 r4 s4 t4 P4 Q4 R4 S4 T4 i4 j4 I4 J4 F4:a->b->c->d->Prop}
variable {p5 q5 r5 s5 t5 P5 Q5 R5 S5 T5 i5 j5 I5 J5 F5:a->b->c->d->e->Prop}
variable {p6 q6 r6 s6 t6 P6 Q6 R6 S6 T6 i6 j6 I6 J6 F6:a->b->c->d->e->f->Prop}
theorem jAA(H0:p0)(H1:q0)(h:F0):p0/\q0/\F0:=⟨H0,H1,h⟩
theorem jAAA(H0:p0)(H1:q0)(H2:r0)(h:F0):p0/\q0/\r0/\F0:=⟨H0,H1,H2,h⟩
def dY(H0:p0)(h:F2 u v):p0/\∃m,(some (some u)=some (some m))/\∃n,F2 m n:=⟨H0,u,rfl,v,h⟩
def bP{D0:a->z0}(H0:p0)(h:F1 u):p0/\∃m,(D0 u=D0 m)/\F1 m:=⟨H0,u,rfl,h⟩
def cZ(u:a)(H0:p1 u)(h:F1 u):∃m,p1 m/\F1 m:=⟨u,H0,h⟩
def dG(u:a)(H0:p1 u)(H1:q1 u)(h:F1 u):∃m,p1 m/\q1 m/\F1 m:=⟨u,H0,H1,h⟩
def aI(u:a)(v:b)(h:F2 u v):∃m,∃n,F2 m n:=⟨u,v,h⟩
def eO(u:a)(v:b)(H0:p2 u v)(H1:q2 u v)(h:F2 u v):∃m,∃n,p2 m n/\q2 m n/\F2 m n:=⟨u,v,H0,H1,h⟩
def aP(u:a)(v:b)(w:c)(h:F3 u v w):∃m,∃n,∃o,F3 m n o:=⟨u,v,w,h⟩
def fD(u:a)(v:b)(w:c)(x:d)(y:e)(z:f)(h:F6 u v w x y z):∃m,∃n,∃o,∃k,∃l,∃g,F6 m n o k l g:=⟨u,v,w,x,y,z,h⟩
def aV(u:a)(h:F2 u v):∃m,∃n,F2 m n:=⟨u,v,h⟩
def eN(u:a)(h:F3 u v w):∃m,∃n,∃o,F3 m n o:=⟨u,v,w,h⟩
def eV(H0:p0)(h:F0):(Z0=Z0)/\p0/\F0:=⟨rfl,H0,h⟩
def aZ(H0:p0)(H1:q0)(h:F0):(Z0=Z0)/\p0/\q0/\F0:=⟨rfl,H0,H1,h⟩
def aY(H0:p0)(H1:q0)(H2:r0)(h:F0):(Z0=Z0)/\p0/\q0/\r0/\F0:=⟨rfl,H0,H1,H2,h⟩
def dS(H0:p0)(H1:q0)(H2:r0)(H3:s0)(h:F0):(Z0=Z0)/\p0/\q0/\r0/\s0/\F0:=⟨rfl,H0,H1,H2,H3,h⟩
def eX(H0:p0)(H1:q0)(H2:r0)(H3:s0)(H4:t0)(h:F0):(Z0=Z0)/\p0/\q0/\r0/\s0/\t0/\F0:=⟨rfl,H0,H1,H2,H3,H4,h⟩
def eM{D0:a->b->z0}(H0:p0)(H1:p2 u v)(H2:p4 u v w x)(H3:q4 u v w x)(h:F4 u v w x):(Z0=Z0)/\p0/\∃m,∃n,(D0 u v=D0 m n)/\p2 m n/\∃o,∃k,p4 m n o k/\q4 m n o k/\F4 m n o k:=⟨rfl,H0,u,v,rfl,H1,w,x,H2,H3,h⟩
def cP(h:F0):(Z0=Z0)/\(Z1=Z1)/\F0:=⟨rfl,rfl,h⟩
def gR(h:F1 u):(Z0=Z0)/\∃m,F1 m:=⟨rfl,u,h⟩
def lF{D0:a->z0}(h:F1 u):(Z0=Z0)/\∃m,(D0 u=D0 m)/\F1 m:=⟨rfl,u,rfl,h⟩
def gH(H0:p1 u)(h:F1 u):∃m,p1 m/\F1 m:=⟨u,H0,h⟩
def hZ{D0:a->z0}(v:b)(w:c)(H0:p3 u v w)(H1:q3 u v w)(h:F3 u v w):∃m,∃n,∃o,(D0 u=D0 m)/\p3 m n o/\q3 m n o/\F3 m n o:=⟨u,v,w,rfl,H0,H1,h⟩
def iP{D0:a->z0}(v:b)(H0:p2 u v)(h:F2 u v):∃m,∃n,(D0 u=D0 m)/\p2 m n/\F2 m n:=⟨u,v,rfl,H0,h⟩
def iA{D0:a->z0}(v:b)(H0:p3 u v w)(H1:q3 u v w)(H2:r3 u v w)(h:F3 u v w):∃m,∃n,∃o,(D0 u=D0 m)/\p3 m n o/\q3 m n o/\r3 m n o/\F3 m n o:=⟨u,v,w,rfl,H0,H1,H2,h⟩
def aC(h:F1 u):∃m,(some (some u)=some (some m))/\F1 m:=⟨u,rfl,h⟩
def bQ(H0:p1 u)(h:F1 u):∃m,(some (some u)=some (some m))/\p1 m/\F1 m:=⟨u,rfl,H0,h⟩
def dE(H0:p1 u)(H1:p2 u v)(h:F2 u v):∃m,(some (some u)=some (some m))/\p1 m/\∃n,p2 m n/\F2 m n:=⟨u,rfl,H0,v,H1,h⟩
def eP(v:b)(w:c)(h:F3 u v w):∃m,(some (some u)=some (some m))/\∃n,∃o,F3 m n o:=⟨u,rfl,v,w,h⟩
def gW(v:b)(w:c)(x:d)(y:e)(H0:p5 u v w x y)(H1:q5 u v w x y)(H2:r5 u v w x y)(H3:s5 u v w x y)(h:F5 u v w x y):∃m,(some (some u)=some (some m))/\∃n,∃o,∃k,∃l,p5 m n o k l/\q5 m n o k l/\r5 m n o k l/\s5 m n o k l/\F5 m n o k l:=⟨u,rfl,v,w,x,y,H0,H1,H2,H3,h⟩
def gV(v:b)(H0:p3 u v w)(H1:q3 u v w)(h:F3 u v w):∃m,(some (some u)=some (some m))/\∃n,∃o,p3 m n o/\q3 m n o/\F3 m n o:=⟨u,rfl,v,w,H0,H1,h⟩
def eF(h:F2 u v):∃m,(some (some u)=some (some m))/\∃n,F2 m n:=⟨u,rfl,v,h⟩
def bJ(h:F2 u v):∃m,(some (some u)=some (some m))/\∃n,(some (some v)=some (some n))/\F2 m n:=⟨u,rfl,v,rfl,h⟩
def gC(h:F3 u v w):∃m,(some (some u)=some (some m))/\∃n,(some (some v)=some (some n))/\∃o,(some (some w)=some (some o))/\F3 m n o:=⟨u,rfl,v,rfl,w,rfl,h⟩
def dI{C0:c->b}{D0:e->z0}(H0:p6 u (C0 w) w x y z)(H1:q6 u (C0 w) w x y z)(h:F6 u (C0 w) w x y z):∃m,(some (some u)=some (some m))/\∃n,(some (some (C0 w))=some (some n))/\∃o,∃k,∃l,∃g,(n=C0 o)/\(D0 y=D0 l)/\p6 m n o k l g/\q6 m n o k l g/\F6 m n o k l g:=⟨u,rfl,(C0 w),rfl,w,x,y,z,rfl,rfl,H0,H1,h⟩
def aQ{C0:b->a}{D0:d->z0}(H0:p5 (C0 v) v w x y)(H1:q5 (C0 v) v w x y)(h:F5 (C0 v) v w x y):∃m,(some (some (C0 v))=some (some m))/\∃n,∃o,∃k,∃l,(m=C0 n)/\(D0 x=D0 k)/\p5 m n o k l/\q5 m n o k l/\F5 m n o k l:=⟨(C0 v),rfl,v,w,x,y,rfl,rfl,H0,H1,h⟩
def fN{C0:b->a}(H0:p2 (C0 v) v)(h:F2 (C0 v) v):∃m,(some (some (C0 v))=some (some m))/\∃n,(m=C0 n)/\p2 m n/\F2 m n:=⟨(C0 v),rfl,v,rfl,H0,h⟩
def bU{D0:a->z0}(H0:p1 u)(h:F1 u):∃m,(D0 u=D0 m)/\p1 m/\F1 m:=⟨u,rfl,H0,h⟩
theorem aK(h:F2 u v):∃m,∃n,F2 m n:=⟨u,v,h⟩
def eU(H0:p2 u v)(h:F2 u v):∃m,∃n,p2 m n/\F2 m n:=⟨u,v,H0,h⟩
def gK{D0:a->z0}(h:F2 u v):∃m,∃n,(D0 u=D0 m)/\F2 m n:=⟨u,v,rfl,h⟩
def aW{D0:a->b->z0}(H0:p2 u v)(h:F2 u v):∃m,∃n,(D0 u v=D0 m n)/\p2 m n/\F2 m n:=⟨u,v,rfl,H0,h⟩
def gB{D0:a->z0}(H0:p2 u v)(h:F2 u v):∃m,∃n,(D0 u=D0 m)/\p2 m n/\F2 m n:=⟨u,v,rfl,H0,h⟩
theorem iX{D0:a->z0}(H0:p2 u v)(H1:q2 u v)(H2:p4 u v w x)(H3:p6 u v w x y z)(H4:q6 u v w x y z)(h:F6 u v w x y z):∃m,∃n,(D0 u=D0 m)/\p2 m n/\q2 m n/\∃o,∃k,p4 m n o k/\∃l,∃g,p6 m n o k l g/\q6 m n o k l g/\F6 m n o k l g:=⟨u,v,rfl,H0,H1,w,x,H2,y,z,H3,H4,h⟩
def fA{D0:a->z0}(H0:p2 u v)(h:F4 u v w x):∃m,∃n,(D0 u=D0 m)/\p2 m n/\∃o,∃k,F4 m n o k:=⟨u,v,rfl,H0,w,x,h⟩
def cY{D0:a->z0}(H0:p2 u v)(H1:p4 u v w x)(H2:q4 u v w x)(H3:p6 u v w x y z)(H4:q6 u v w x y z)(h:F6 u v w x y z):∃m,∃n,(D0 u=D0 m)/\p2 m n/\∃o,∃k,p4 m n o k/\q4 m n o k/\∃l,∃g,p6 m n o k l g/\q6 m n o k l g/\F6 m n o k l g:=⟨u,v,rfl,H0,w,x,H1,H2,y,z,H3,H4,h⟩
def fO{D0:a->z0}{D1:b->z1}(h:F2 u v):∃m,∃n,(D0 u=D0 m)/\(D1 v=D1 n)/\F2 m n:=⟨u,v,rfl,rfl,h⟩
def fJ{D0:a->z0}{D1:b->z1}(H0:p2 u v)(h:F2 u v):∃m,∃n,(D0 u=D0 m)/\(D1 v=D1 n)/\p2 m n/\F2 m n:=⟨u,v,rfl,rfl,H0,h⟩
def fQ{D0:a->z0}{D1:b->z1}(H0:p3 u v w)(h:F3 u v w):∃m,∃n,(D0 u=D0 m)/\(D1 v=D1 n)/\∃o,p3 m n o/\F3 m n o:=⟨u,v,rfl,rfl,w,H0,h⟩
theorem eZ{D0:a->z0}{D1:c->z1}(H0:p4 u v w x)(H1:q4 u v w x)(h:F4 u v w x):∃m,∃n,∃o,∃k,(D0 u=D0 m)/\(D1 w=D1 o)/\p4 m n o k/\q4 m n o k/\F4 m n o k:=⟨u,v,w,x,rfl,rfl,H0,H1,h⟩
end
end
section
namespace L2
open PySem PySem.Spec PyProof.Rows
abbrev cQ:=Sum Int Str
def tE:cQ->Value->Bool
 |.inl k,v=>Value.isInt k v
 |.inr x,v=>Value.isStrOf x v
def Ex(w:World):cQ->Int
 |.inl k=>hashInt k
 |.inr x=>hashStr w x
theorem pC:∀{k:cQ} {v:Value},tE k v=true->(∃i t,k=Sum.inl i/\v=Value.int i t)\/(∃x t,k=Sum.inr x/\v=Value.str x t)
 |.inl i,v,h=>by
  obtain⟨t,e⟩:=Value.isInt_shape (k:=i) (v:=v) h;exact .inl ⟨i,t,Z,e⟩
 |.inr x,v,h=>by
  obtain⟨t,e⟩:=Value.isStrOf_shape (x:=x) (v:=v) h;exact .inr ⟨x,t,Z,e⟩
def Xv(i:Int)(t:Tok):tE (.inl i) (.int i t)=true:=by simp[tE,Value.isInt]
def Xw(x:Str)(t:Tok):tE (.inr x) (.str x t)=true:=by simp[tE,Value.isStrOf]
theorem Qw(a b:Int):decide ((Sum.inl a:cQ)=Sum.inl b)=(a == b):=by
 by_cases e:a=b
 ·subst e;simp
 ·have h:¬(Sum.inl a:cQ)=Sum.inl b:=λq=>e (Sum.inl.inj q)
  rw[cW h];exact(beq_eq_false_iff_ne.mpr e).symm
theorem Qz(a b:Str):decide ((Sum.inr a:cQ)=Sum.inr b)=decide (a=b):=by
 by_cases e:a=b
 ·subst e;simp
 ·have h:¬(Sum.inr a:cQ)=Sum.inr b:=λq=>e (Sum.inr.inj q)
  rw[cW h,cW e]
theorem Qx(a:Int)(b:Str):decide ((Sum.inl a:cQ)=Sum.inr b)=false:=cW (λq=>nomatch q)
theorem Qy(a:Str)(b:Int):decide ((Sum.inr a:cQ)=Sum.inl b)=false:=cW (λq=>nomatch q)
def lN(prog:Program)(w:World):PySem.KeyKind prog w cQ where
 is:=tE
 hash:=Ex w
 inj:=λv a b ha hb=>by
  rcases pC ha with⟨i,t,rfl,rfl⟩ |⟨x,t,rfl,rfl⟩
  ·rcases pC hb with⟨j,u,rfl,e⟩ |⟨y,u,rfl,e⟩
   ·injection e with e1 _;rw[e1]
   ·exact nomatch e
  ·rcases pC hb with⟨j,u,rfl,e⟩ |⟨y,u,rfl,e⟩
   ·exact nomatch e
   ·injection e with e1 _;rw[e1]
 byValue:=λk v h=>by
  rcases pC h with⟨i,t,rfl,rfl⟩ |⟨x,t,rfl,rfl⟩ <;> rfl
 pyHash:=λhv h=>by
  rcases pC hv with⟨i,t,rfl,rfl⟩ |⟨x,t,rfl,rfl⟩
  ·exact wpAny_pyHash_int h
  ·exact wpAny_pyHash_str h
 eqBool:=λhu hv h=>by
  rcases pC hu with⟨i,t,rfl,rfl⟩ |⟨x,t,rfl,rfl⟩
  ·rcases pC hv with⟨j,u,rfl,rfl⟩ |⟨y,u,rfl,rfl⟩
   ·rw[Qw]at h;exact wpAny_eqBool_int h
   ·rw[Qx]at h;exact SeqAt.EqAt.int_str i t y u _ _ _ _ h
  ·rcases pC hv with⟨j,u,rfl,rfl⟩ |⟨y,u,rfl,rfl⟩
   ·rw[Qy]at h;exact SeqAt.EqAt.str_int x t j u _ _ _ _ h
   ·rw[Qz]at h;exact wpAny_eqBool_str h
 «strs»:=λk x t v h=>by
  rcases pC h with⟨i,u,rfl,e⟩ |⟨y,u,rfl,e⟩
  ·exact nomatch e
  ·injection e with e1 _
   subst e1;cases v <;> rfl
def xld(prog:Program)(w:World)(i:Int)(t:Tok):(lN prog w).is (.inl i) (.int i t)=true:=Xv i t
def xlc(prog:Program)(w:World)(x:Str)(t:Tok):(lN prog w).is (.inr x) (.str x t)=true:=Xw x t
inductive V where
 |non |bl (b:Bool) |int (i:Int) |str (x:Str) |byt (b:Array UInt8) |flt (b:UInt64) |ref (a:Addr) |ty (n:String)
 deriving DecidableEq
def RelV:V->Value->Prop
 |.non,u=>u=Value.none
 |.bl b,u=>u=Value.bool b
 |.int i,u=>∃t,u=Value.int i t
 |.str x,u=>∃t,u=Value.str x t
 |.byt b,u=>∃t,u=Value.bytes b t
 |.flt b,u=>∃t,u=Value.float b t
 |.ref a,u=>u=Value.ref a
 |.ty n,u=>u=Value.type n
abbrev Vals:List V->List Value->Prop:=Paired RelV
theorem Vals.length{xs:List V}(r:Vals xs us):xs.length=us.length:=Paired.length r
theorem Vals.get:∀{xs:List V} {us:List Value} {i:Nat} {x:V},Vals xs us->xs[i]?=some x->∃u,us[i]?=some u/\RelV x u
 |_,_,_,_,.nil,e=>by simp at e
 |_,_,0,_,.cons r _,e=>by simp at e;subst e;exact⟨_,Z,r⟩
 |_,_,i+1,x,.cons _ t,e=>by
  obtain⟨u,h1,h2⟩:=Vals.get (i:=i) (x:=x) t (by simpa using e);exact⟨u,by simpa using h1,h2⟩
theorem Vals.set(r:RelV x u):∀{xs:List V} {us:List Value} (i:Nat),Vals xs us->Vals (xs.set i x) (us.set i u)
 |_,_,_,.nil=>.nil
 |_,_,0,.cons _ t=>.cons r t
 |_,_,i+1,.cons q t=>.cons q (Vals.set r i t)
theorem Vals.append:∀{xs ys:List V} {us ws:List Value},Vals xs us->Vals ys ws->Vals (xs++ys) (us++ws)
 |_,_,_,_,.nil,s=>s
 |_,_,_,_,.cons r t,s=>.cons r (Vals.append t s)
theorem Vals.take:∀{xs:List V} {us:List Value} (n:Nat),Vals xs us->Vals (xs.take n) (us.take n)
 |_,_,0,_=>.nil
 |_,_,_+1,.nil=>.nil
 |_,_,n+1,.cons r t=>.cons r (Vals.take n t)
theorem Vals.drop:∀{xs:List V} {us:List Value} (n:Nat),Vals xs us->Vals (xs.drop n) (us.drop n)
 |_,_,0,r=>r
 |_,_,_+1,.nil=>.nil
 |_,_,n+1,.cons _ t=>Vals.drop n t
def RelO:Option V->Option Value->Prop
 |some v,some u=>RelV v u
 |none,none=>True
 |_,_=>False
def KV{κ:Type}:List (κ×V)->List (κ×Value)->Prop:=Paired λ(p:κ×V) (q:κ×Value)=>p.1=q.1/\RelV p.2 q.2
def kV:cQ->V
 |.inl i=>.int i
 |.inr x=>.str x
inductive HO where
 |lst (xs:List V)
 |tup (xs:List V)
 |dK (kvs:List (cQ×V)) |dT (kvs:List (List cQ×V))
 |set (S:Int->Bool) (n:Nat)
 |ins (C dx:Addr) (fs:List (Str×V))
 |own (x:Addr)
 |xd (fs:List (Str×V))
 |met (f x:Addr)
 |rng (lo hi:Int)
 |frz (o:Obj) (u:HO)
 |tbl (ps:Array Value)
 |ext (φ:Heap->Prop)
abbrev Hp:=Addr->Option HO
def upd(H:Hp)(a:Addr)(o:HO):Hp:=λb=>if b=a then some o else H b
theorem aD:upd H a o a=some o:=by unfold upd;rw[if_pos Z]
theorem cO(h:b≠a):upd H a o b=H b:=by unfold upd;rw[if_neg h]
theorem Pi{H:Hp}{a b:Addr}{o u:HO}(h:H a=some o)(h':H b=some u)(d:o≠u):a≠b:=by
 intro e;subst e;rw[h]at h';exact d (qK h')
theorem dJ{H:Hp}{a b:Addr}{o:HO}(h:H a=some o)(h':H b=none):a≠b:=by
 intro e;subst e;rw[h]at h';cases h'
section
variable (P:Program)(w:World)
def ObjOk(H:Hp)(h:Heap)(a:Addr):HO->Prop
 |.lst xs=>xs.length<=sizeLine/\∃(its:List Value) (n:Nat),Vals xs its/\h.get? a=some {cls:=.type "list",data:=.seq its.toArray n}
 |.tup xs=>xs.length<=sizeLine/\∃its:List Value,Vals xs its/\∃o,h.get? a=some o/\o.cls=.type "tuple"/\∃n,o.data=.seq its.toArray n/\o.dict=none
 |.dK kvs=>kvs.length<=sizeLine/\(a == sysModules)=false/\∃vs,KV kvs vs/\h.DictOf (lN P w) a vs
 | .dT kvs=>kvs.length<=sizeLine/\(a == sysModules)=false/\∃xs:List (List cQ×Addr×Value),
   Paired (λ(p:List cQ×V) (q:List cQ×Addr×Value)=>p.1=q.1/\H q.2.1=some (.tup (p.1.map kV))/\RelV p.2 q.2.2) kvs xs ∧
   ∃o es ep,h.get? a=some o/\o.ExactDict/\o.data=.dict es ep/\es.toList=xs.map (entryOfKey (tupleKind (lN P w)))/\(xs.map (·.1)).Nodup
 |.set S n=>h.SetOf (intKind P w) a S n
 | .ins C dx fs=>H dx=some (.own a)/\fs.length<=1000/\dx≠a/\h.get? a=some (PySem.W.instObj C dx) ∧
   ∃mA,h.Ns1 dx mA/\(∀f,RelO (fs.lookup f) (mA f))/\PySem.Within mA (fs.map (·.1))
 |.own _=>∃o,h.get? a=some o
 |.xd fs=>∃mA,h.Ns1 a mA/\∀f,RelO (fs.lookup f) (mA f)
 |.rng lo hi=>∃t u v,h.get? a=some {cls:=.type "range",data:=.fields #[.int lo t,.int hi u,.int 1 v]}
 |.frz o u=>h.get? a=some o/\ObjOk H h a u
 |.tbl ps=>h.get? a=some {cls:=.none,data:=.fields ps}
 |.met f x=>h.get? a=some (PySem.W.methodObj (.ref f) (.ref x))
 |.ext φ=>φ h/\(∃o,h.get? a=some o)/\∀h1 h2:Heap,φ h1->(∀o,h1.get? a=some o->h2.get? a=some o)->φ h2
def HOk(H:Hp)(h:Heap):Prop:=∀a o,H a=some o->ObjOk P w H h a o
end
section
variable {P:Program}{w:World}{H H':Hp}{h h':Heap}{a:Addr}{o:HO}
theorem ObjOk.lt(x:ObjOk P w H h a o):a<h.objs.size:=by
 cases o with
 |lst xs=>obtain⟨_,_,_,_,e⟩:=x;exact qH e
 |tup xs=>obtain⟨_,_,_,_,e,_⟩:=x;exact qH e
 |dK kvs=>obtain⟨_,_,_,_,o,_,_,e,_⟩:=x;exact qH e
 |dT kvs=>obtain⟨_,_,_,_,o,_,_,e,_⟩:=x;exact qH e
 |set S n=>obtain⟨o,_,_,_,e,_⟩:=x;exact qH e
 |ins C dx fs=>obtain⟨_,_,_,e,_⟩:=x;exact qH e
 |own y=>obtain⟨_,e⟩:=x;exact qH e
 |xd fs=>obtain⟨_,⟨_,_,_,e,_⟩,_⟩:=x;exact qH e
 |rng lo hi=>obtain⟨_,_,_,e⟩:=x;exact qH e
 |frz i u=>obtain⟨e,_⟩:=x;exact qH e
 |tbl ps=>exact qH (show h.get? a=some _ from x)
 |met f y=>exact qH (show h.get? a=some _ from x)
 |ext φ=>obtain⟨_,⟨_,e⟩,_⟩:=x;exact qH e
theorem Paired.mapP{α β:Type}{F G:α->β->Prop}:∀{j:List α} {i:List β},Paired F j i->(∀a b,F a b->G a b)->Paired G j i
 |_,_,.nil,_=>.nil
 |_,_,.cons r t,f=>.cons (f _ _ r) (Paired.mapP t f)
def ObjOk.stay (x:ObjOk P w H h a o) (k:∀b u,(b=a\/H b=some (.own a))->h.get? b=some u->h'.get? b=some u)
  (ho:∀b,H b=some (.own a)->H' b=some (.own a)) (ht:∀b xs,H b=some (.tup xs)->H' b=some (.tup xs)):ObjOk P w H' h' a o:=by
 induction o with
 |lst xs=>obtain⟨z,its,n,r,e⟩:=x;exact⟨z,its,n,r,k _ _ (.inl rfl) e⟩
 |tup xs=>obtain⟨z,its,r,ob,e,c⟩:=x;exact⟨z,its,r,ob,k _ _ (.inl rfl) e,c⟩
 |dK kvs=>obtain⟨z,y,vs,r,ob,es,ep,e,c⟩:=x;exact⟨z,y,vs,r,ob,es,ep,k _ _ (.inl rfl) e,c⟩
 |dT kvs=>
  obtain⟨z,y,xs,r,ob,es,ep,e,c⟩:=x;exact⟨z,y,xs,Paired.mapP r λp q z=>⟨z.1,ht _ _ z.2.1,z.2.2⟩,ob,es,ep,k _ _ (.inl rfl) e,c⟩
 |set S n=>obtain⟨ob,es,ep,t,e,c⟩:=x;exact⟨ob,es,ep,t,k _ _ (.inl rfl) e,c⟩
 |ins C dx fs=>
  obtain⟨d,z,ne,e,mA,⟨od,es,ep,e2,c⟩,r⟩:=x;exact⟨ho _ d,z,ne,k _ _ (.inl rfl) e,mA,⟨od,es,ep,k _ _ (.inr d) e2,c⟩,r⟩
 |own y=>obtain⟨ob,e⟩:=x;exact⟨ob,k _ _ (.inl rfl) e⟩
 |xd fs=>obtain⟨mA,⟨od,es,ep,e,c⟩,r⟩:=x;exact⟨mA,⟨od,es,ep,k _ _ (.inl rfl) e,c⟩,r⟩
 |rng lo hi=>obtain⟨t,u,v,e⟩:=x;exact⟨t,u,v,k _ _ (.inl rfl) e⟩
 |frz ob u ih=>obtain⟨e,q⟩:=x;exact⟨k _ _ (.inl rfl) e,ih q⟩
 |tbl ps=>
  have e:h.get? a=some {cls:=.none,data:=.fields ps}:=x;show h'.get? a=some {cls:=.none,data:=.fields ps};exact k a _ (.inl rfl) e
 |met f y=>
  have e:h.get? a=some (PySem.W.methodObj (.ref f) (.ref y)):=x;show h'.get? a=some (PySem.W.methodObj (.ref f) (.ref y));exact k a _ (.inl rfl) e
 |ext φ=>obtain⟨p,⟨o,e⟩,st⟩:=x;exact⟨st _ _ p λo q=>k _ _ (.inl rfl) q,⟨o,k _ _ (.inl rfl) e⟩,st⟩
theorem HOk.lt(x:HOk P w H h)(e:H a=some o):a<h.objs.size:=(x a o e).lt
def HOk.fresh(x:HOk P w H h)(e:h.objs.size<=a):H a=none:=by
 cases q:H a with
 |none=>rfl
 |some u=>exact absurd (qM (x.lt q) e) (qQ _)
theorem HOk.kept(x:HOk P w H h)(k:∀b u,h.get? b=some u->h'.get? b=some u):HOk P w H h':=λa o e=>
 (x a o e).stay (λb u _ q=>k b u q) (λ_ q=>q) λ_ _ q=>q
def HOk.laid(x:HOk P w H h)(k:∀b u,h.get? b=some u->h'.get? b=some u)(hp:h.objs.size<=a)(new:ObjOk P w (upd H a o) h' a o):HOk P w (upd H a o) h':=λb u e=>by
 have hn:=x.fresh hp;by_cases hb:b=a
 ·subst hb;rw[aD]at e;cases e;exact new
 ·rw[cO hb]at e
  exact(x b u e).stay (λc v _ q=>k c v q) (λc q=>by rw[cO (dJ q hn)];exact q) λc xs q=>by rw[cO (dJ q hn)];exact q
end
def Rd(H:Hp)(a:Addr)(u:HO):Prop:=H a=some u\/∃o,H a=some (.frz o u)
theorem Rd.ok(r:Rd H a u)(x:HOk P w H h):ObjOk P w H h a u:=by
 rcases r with r |⟨o,r⟩
 ·exact x a u r
 ·obtain⟨_,q⟩:=x a _ r
  exact q
def vQ:Option HO->Prop
 |some (.lst _)=>True
 |some (.dK _)=>True
 |some (.dT _)=>True
 |some (.set _ _)=>True
 |some (.ins _ _ _)=>True
 |some (.ext _)=>True
 |_=>False
section
variable {P:Program}{w:World}{H:Hp}{h h':Heap}{x e:Addr}{o':HO}
def HOk.write (ok:HOk P w H h) (mu:vQ (H x)) (he:e=x\/H e=some (.own x)) (k:∀b u,b≠e->h.get? b=some u->h'.get? b=some u) (heo:∃u,h'.get? e=some u)
  (new:ObjOk P w (upd H x o') h' x o'):HOk P w (upd H x o') h':=λb u q=>by
 have nown:∀c y,H c=some (.own y)->c≠x:=λc y r z=>by subst z;rw[r]at mu;exact mu
 have ntup:∀c xs,H c=some (.tup xs)->c≠x:=λc xs r z=>by subst z;rw[r]at mu;exact mu
 by_cases hb:b=x
 ·subst hb;rw[aD]at q;cases q;exact new
 ·rw[cO hb]at q
  by_cases hbe:b=e
  ·have q':H b=some (.own x):=by
    rcases he with z |z
    ·exact absurd (hbe.trans z) hb
    ·rw[hbe];exact z
   rw[q]at q';cases q';obtain⟨v,hv⟩:=heo;exact⟨v,by rw[hbe];exact hv⟩
  ·refine(ok b u q).stay (λc v hc r=>k c v ?_ r) (λc r=>by rw[cO (nown c b r)];exact r) λc xs r=>by rw[cO (ntup c xs r)];exact r
   rcases hc with rfl |hc
   ·exact hbe
   ·rintro rfl
    rcases he with z |z
    ·exact nown c b hc z
    ·rw[hc]at z;cases z;exact hb rfl
end
structure Un(fs ex:List Addr)(H H':Hp)(h h':Heap):Prop where
 keep:∀b o,h.get? b=some o->H b=none->b ∉fs->b ∉ex->h'.get? b=some o
 slot:∀b o,h.get? b=some o->H b=none->b∈fs->b ∉ex->∃sl,h'.get? b=some {o with slots:=sl}
 free:∀b o,h.get? b=some o->H b=none->b ∉ex->H' b=none
 there:∀b o,h.get? b=some o->b ∉ex->∃o',h'.get? b=some o'
 tups:∀b xs,H b=some (.tup xs)->H' b=some (.tup xs)
 frzs:∀b o u,H b=some (.frz o u)->H' b=some (.frz o u)
 tbls:∀b ps,H b=some (.tbl ps)->∃more,H' b=some (.tbl (ps++more))
section
variable {fs fs' ex ex':List Addr}{H H1 H2:Hp}{h h1 h2 h':Heap}{a x e:Addr}{o:HO}
theorem Un.any(u:Un fs ex H H1 h h1)(q:h.get? b=some i)(n:H b=none)(j:b ∉ex):∃sl,h1.get? b=some {i with slots:=sl}:=by
 by_cases y:b∈fs
 ·exact u.slot b i q n y j
 ·exact⟨i.slots,u.keep b i q n y j⟩
theorem Un.kept(k:∀b u,h.get? b=some u->h'.get? b=some u):Un fs ex H H h h':=
 ⟨λb i q _ _ _=>k b i q,λb i q _ _ _=>⟨i.slots,k b i q⟩,λ_ _ _ n _=>n,λb i q _=>⟨i,k b i q⟩,λ_ _ q=>q,λ_ _ _ q=>q,λ_ ps q=>⟨#[],by rw[q];simp⟩⟩
def Un.refl:Un fs ex H H h h:=Un.kept λ_ _ q=>q
def Un.laid(k:∀b u,h.get? b=some u->h'.get? b=some u)(i:h.objs.size<=a)(hn:H a=none):Un fs ex H (upd H a o) h h' where
 keep:=λb u q _ _ _=>k b u q
 slot:=λb u q _ _ _=>⟨u.slots,k b u q⟩
 free:=λb u q n _=>by rw[cO (qL (qM (qH q) i))];exact n
 there:=λb u q _=>⟨u,k b u q⟩
 tups:=λb xs q=>by rw[cO (dJ q hn)];exact q
 frzs:=λb u xs q=>by rw[cO (dJ q hn)];exact q
 tbls:=λb ps q=>⟨#[],by rw[cO (dJ q hn),q];simp⟩
def Un.write(j:vQ (H x))(M:e=x\/H e=some (.own x))(k:∀b u,b≠e->h.get? b=some u->h'.get? b=some u)(G:∃u,h'.get? e=some u):Un fs ex H (upd H x o) h h':=by
 have I:∀b,H b=none->b≠x:=λb n z=>by subst z;rw[n]at j;exact j
 have J:∀b,H b=none->b≠e:=λb n z=>by
  subst z;rcases M with r |r
  ·exact I b n r
  ·rw[n]at r;cases r
 have y:∀b u,H b=some u->¬vQ (some u)->b≠x:=λb u q nm z=>by subst z;rw[q]at j;exact nm j
 refine⟨λb u q n _ _=>k b u (J b n) q,λb u q n _ _=>⟨u.slots,k b u (J b n) q⟩,λb u q n _=>by rw[cO (I b n)];exact n,λb u q _=>?_,
  λb xs q=>by rw[cO (y b _ q λz=>z)];exact q,λb u xs q=>by rw[cO (y b _ q λz=>z)];exact q,λb ps q=>⟨#[],by rw[cO (y b _ q λz=>z),q];simp⟩⟩
 by_cases i:b=e
 ·subst i;exact G
 ·exact⟨u,k b u i q⟩
end
def Av(h:Heap)(H:Hp):List Addr:=(List.range h.objs.size).filter λa=>(H a).isSome
def lB(h:Heap)(H:Hp):Heap:=PySem.W.hideAll h (Av h H)
def Xd(h:Heap)(H:Hp):(lB h H).objs.size=h.objs.size:=PySem.W.hideAll_size _ _
def W1(e:h.get? b=some o)(n:H b=none):(lB h H).get? b=some o:=
 PySem.W.hideAll_get _ e λi=>by
  have q:(H b).isSome=true:=(List.mem_filter.mp i).2;rw[n]at q;simp at q
def Ue(e:(lB h H).get? b=some o):h.get? b=some o/\H b=none:=by
 have i:h.get? b=some o:=PySem.W.of_hideAll (Av h H) e;refine⟨i,?_⟩
 cases q:H b with
 |none=>rfl
 |some x=>
  have j:b∈Av h H:=List.mem_filter.mpr ⟨List.mem_range.mpr (qH i),by simp[q]⟩;have z:(lB h H).get? b=none:=PySem.W.hideAll_none (Av h H) j;rw[z]at e;cases e
structure Mod(K:Fg)(mg:Str->Option Value)(base:Heap):Prop where
 kin:K.In base
 glob:base.Ns mainGlobals mg
 blt:∃mb,base.Ns builtinsNs mb/\∀x:Str,x≠"__name__"->mb x=bootBuiltins x
 nolimit:base.NoLimit
structure Cx where
 prog:Program
 w:World
 K:Fg
 mg:Str->Option Value
 base:Heap
 A:Around
 N:List Str
 s₀:Shared
 H₀:Hp
 env:Env
 outer:List Env
 stack:List Env
 ex:List Addr
 fn:Str->Bool
 calm:Bool
 pn:List (Addr×Obj)
 xe:Value->Shared->Prop
def gL(l:List Env):List Addr:=l.filterMap (·.frame)
abbrev Cx.fs(X:Cx):List Addr:=gL X.outer
def xX(sc:Scope)(x:Str):Prop:=sc.names.lookup x=some .local\/sc.names.lookup x=some .cell\/sc.names.lookup x=some .free
def qV(sc:Scope)(x:Str):Prop:=sc.names.lookup x=some .local\/sc.names.lookup x=some .cell
def Fq(env:Env)(h:Heap)(m:Str->Option Value)(x:Str)(u:Value):Prop:=
 (env.kindOf x=some .local/\m x=some u)\/((env.kindOf x=some .cell\/env.kindOf x=some .free)/\∃c,env.cells.lookup x=some c/\h.IsCell c (some u))
structure Cx.Ok(X:Cx):Prop where
 mod:Mod X.K X.mg X.base
 kind:X.env.scope.kind=.function
 glob:X.env.globals=mainGlobals
 blt:X.env.builtins=builtinsNs
 above:X.s₀.heap.objs.size<=X.env.locals
 inj:∀x y c,X.env.cells.lookup x=some c->X.env.cells.lookup y=some c->x=y
 has:∀x,(X.env.kindOf x=some .cell\/X.env.kindOf x=some .free)->∃c,X.env.cells.lookup x=some c
 cab:∀x c,X.fn x=true->X.env.cells.lookup x=some c->X.s₀.heap.objs.size<=c
 hd:X.calm=true->X.A.handled=none
 frames:X.A.frames=some X.stack
 stk:X.stack=X.outer\/(X.stack=X.env::X.outer/\X.env.frame=some X.env.locals)
 exf:∀b∈X.ex,b≠X.env.locals/\∀x c,X.env.cells.lookup x=some c->c≠b
 bs:∀b o,X.base.get? b=some o->X.s₀.heap.get? b=some o/\X.H₀ b=none
 bsz:X.base.objs.size<=X.s₀.heap.objs.size
 noex:∀b o,X.base.get? b=some o->b ∉X.ex
 exfs:∀b∈X.ex,b ∉X.fs
 funs:X.s₀.heap.FunFrames X.base X.outer
 frf:∀b∈X.fs,X.H₀ b=none
structure Inv(X:Cx)(pins:List (Addr×Obj))(σ:List (Option V))(H:Hp)(s:Shared):Prop where
 ok:X.Ok
 os:s.os=X.s₀.os
 bare:AllBare s.gens
 base:Un X.fs X.ex X.H₀ H X.s₀.heap s.heap
 loc:∃m,s.heap.Ns X.env.locals m/\∀(i:Nat) (x:Str) (v:V),X.N[i]?=some x->σ[i]?=some (some v)->xX X.env.scope x->∃u,RelV v u/\Fq X.env s.heap m x u
 cell:∀x c,X.env.cells.lookup x=some c->∃v,s.heap.IsCell c v
 free:H X.env.locals=none
 freeC:∀x c,X.env.cells.lookup x=some c->H c=none
 pin:∀p∈X.pn++pins,s.heap.get? p.1=some p.2/\H p.1=none/\p.1≠X.env.locals/\p.1 ∉X.fs/\∀v,p.2.data≠.cell v
 hok:HOk X.prog X.w H s.heap
 len:σ.length=X.N.length
section
variable {X:Cx}{pins:List (Addr×Obj)}{σ:List (Option V)}{H H':Hp}{s:Shared}{h':Heap}
def Cx.Ok.nofr(ok:X.Ok)(e:X.base.get? b=some o):b ∉X.fs:=λi=>by
 have:=(ok.funs.mem i).1;rw[e]at this;cases this
theorem Inv.bs(I:Inv X pins σ H s):∀b o,X.base.get? b=some o->s.heap.get? b=some o/\H b=none:=λb o e=>
 ⟨I.base.keep b o (I.ok.bs b o e).1 (I.ok.bs b o e).2 (I.ok.nofr e) (I.ok.noex b o e),I.base.free b o (I.ok.bs b o e).1 (I.ok.bs b o e).2 (I.ok.noex b o e)⟩
def Inv.bk(I:Inv X pins σ H s):∀b o,X.base.get? b=some o->s.heap.get? b=some o:=λb o e=>(I.bs b o e).1
theorem Inv.mod(I:Inv X pins σ H s):Mod X.K X.mg X.base:=I.ok.mod
def Inv.kIn(I:Inv X pins σ H s):X.K.In s.heap:=I.ok.mod.kin.keeps I.bk
theorem Inv.lt(I:Inv X pins σ H s):X.env.locals<s.heap.objs.size:=let ⟨_,hn,_⟩:=I.loc;hn.lt
theorem Inv.sz(I:Inv X pins σ H s):X.s₀.heap.objs.size<=s.heap.objs.size:=qC I.ok.above (Nat.le_of_lt I.lt)
def Inv.nofs(I:Inv X pins σ H s){a:Addr}(h:s.heap.objs.size<=a):a ∉X.fs:=λj=>by
 obtain⟨_,o,i,_⟩:=I.ok.funs.mem j;exact absurd (qM (qH i) (qC I.sz h)) (qQ _)
theorem Inv.cne(I:Inv X pins σ H s):∀x c,X.env.cells.lookup x=some c->c≠X.env.locals:=λx c e z=>by
 obtain⟨v,o,n,hd⟩:=I.cell x c e;obtain⟨m,⟨o',es,ep,i,j,_⟩,_⟩:=I.loc;rw[z,i]at n;cases n;rw[j]at hd;cases hd
theorem Inv.funs(I:Inv X pins σ H s):s.heap.FunFrames X.base X.outer:=by
 have all:∀(l:List Env),(∀b∈gL l,b∈X.fs)->X.s₀.heap.FunFrames X.base l->s.heap.FunFrames X.base l:=by
  intro l
  induction l with
  |nil=>intro _ _;trivial
  |cons env r y=>
   intro hs M;obtain⟨O,⟨L,o,i,hn,J,hd⟩,G⟩:=M;have n:L∈X.fs:=hs L (by unfold gL;rw[List.filterMap_cons,i];exact List.mem_cons_self);obtain⟨sl,e⟩:=I.base.slot L o J (I.ok.frf L n) n λz=>I.ok.exfs L z n;exact⟨O,⟨L,_,i,hn,e,hd⟩,y (λb j=>hs b (by unfold gL;rw[List.filterMap_cons,i];exact qO _ j)) G⟩
 exact all X.outer (λ_ j=>j) I.ok.funs
theorem Inv.stack(I:Inv X pins σ H s):s.heap.FunFrames X.base X.stack:=by
 rcases I.ok.stk with e |⟨e,hf⟩
 ·rw[e];exact I.funs
 ·rw[e]
  obtain⟨m,hn,_⟩:=I.loc;refine .cons (by rw[I.ok.kind];decide) hf hn ?_ I.funs;exact Heap.get?_none_of_le (qC I.ok.bsz I.ok.above)
def Inv.stkSub(I:Inv X pins σ H s):∀b∈gL X.stack,b∈X.env.locals::X.fs:=λb i=>by
 rcases I.ok.stk with e |⟨e,j⟩
 ·rw[e]at i;exact qO _ i
 ·rw[e]at i
  unfold gL at i;rw[List.filterMap_cons,j]at i;exact i
theorem Inv.stkFree(I:Inv X pins σ H s):∀b∈gL X.stack,H b=none:=λb i=>by
 rcases gD (I.stkSub b i) with e |i
 ·rw[e];exact I.free
 ·obtain⟨_,o,j,_⟩:=I.ok.funs.mem i
  exact I.base.free b o j (I.ok.frf b i) λz=>I.ok.exfs b z i
def Inv.step {ch:List Addr} (I:Inv X pins σ H s)
  (hch:∀b∈ch,(b∈X.ex\/X.s₀.heap.objs.size<=b)/\b≠X.env.locals/\(∀x c,X.env.cells.lookup x=some c->c≠b)/\∀p∈X.pn++pins,p.1≠b)
  (keep:∀b o,b≠X.env.locals->b ∉X.fs->b ∉ch->s.heap.get? b=some o->H b=none->h'.get? b=some o)
  (slot:∀b o,b≠X.env.locals->b∈X.fs->b ∉ch->s.heap.get? b=some o->H b=none->∃sl,h'.get? b=some {o with slots:=sl}) (free:∀b o,b ∉ch->s.heap.get? b=some o->H b=none->H' b=none)
  (there:∀b o,b ∉ch->s.heap.get? b=some o->∃o',h'.get? b=some o')
  (tups:∀b xs,H b=some (.tup xs)->H' b=some (.tup xs)) (frzs:∀b o u,H b=some (.frz o u)->H' b=some (.frz o u)) (tbls:∀b ps,H b=some (.tbl ps)->∃more,H' b=some (.tbl (ps++more)))
  (ns:∀m,s.heap.Ns X.env.locals m->h'.Ns X.env.locals m) (hok:HOk X.prog X.w H' h') (hg:AllBare g') :
  Inv X pins σ H' {s with heap:=h',gens:=g',drawn:=d',toks:=t'}:=by
 have neL:∀b o,X.s₀.heap.get? b=some o->b≠X.env.locals:=λb o e=>qL (qM (qH e) I.ok.above)
 have neC:∀b o,X.s₀.heap.get? b=some o->b ∉X.ex->b ∉ch:=λb o e hx hb=>by
  rcases(hch b hb).1 with z |z
  ·exact hx z
  ·exact absurd (qM (qH e) z) (qQ _)
 have cellK:∀x c,X.env.cells.lookup x=some c->∀v,s.heap.IsCell c v->h'.IsCell c v:=λx c e v ⟨o,ho,hd⟩=>by
  have nch:c ∉ch:=λz=>(hch c z).2.2.1 x c e rfl;by_cases hc:c∈X.fs
  ·obtain⟨sl,q⟩:=slot c o (I.cne x c e) hc nch ho (I.freeC x c e)
   exact⟨_,q,hd⟩
  ·exact⟨o,keep c o (I.cne x c e) hc nch ho (I.freeC x c e),hd⟩
 refine⟨I.ok,I.os,hg,⟨λb o e n hb hx=>?_,λb o e n hb hx=>?_,λb o e n hx=>?_,λb o e hx=>?_,λb xs e=>tups b xs (I.base.tups b xs e),λb o xs e=>frzs b o xs (I.base.frzs b o xs e),λb ps e=>?_⟩,?_,λx c e=>?_,?_,λx c e=>?_,λp hp=>?_,hok,I.len⟩
 ·exact keep b o (neL b o e) hb (neC b o e hx) (I.base.keep b o e n hb hx) (I.base.free b o e n hx)
 ·obtain⟨sl,e1⟩:=I.base.slot b o e n hb hx
  obtain⟨sl',e2⟩:=slot b _ (neL b o e) hb (neC b o e hx) e1 (I.base.free b o e n hx);exact⟨sl',e2⟩
 ·obtain⟨o',e1⟩:=I.base.there b o e hx
  exact free b o' (neC b o e hx) e1 (I.base.free b o e n hx)
 ·obtain⟨o',e1⟩:=I.base.there b o e hx
  exact there b o' (neC b o e hx) e1
 ·obtain⟨m1,e1⟩:=I.base.tbls b ps e
  obtain⟨m2,e2⟩:=tbls b _ e1;exact⟨m1++m2,by rw[e2,Array.append_assoc]⟩
 ·obtain⟨m,hn,hl⟩:=I.loc
  refine⟨m,ns m hn,λi x v e1 e2 e3=>?_⟩;obtain⟨u,r,l⟩:=hl i x v e1 e2 e3;refine⟨u,r,?_⟩;rcases l with l |⟨k,c,e,z⟩
  ·exact .inl l
  ·exact .inr ⟨k,c,e,cellK x c e _ z⟩
 ·obtain⟨v,z⟩:=I.cell x c e
  exact⟨v,cellK x c e v z⟩
 ·obtain⟨m,⟨o,_,_,ho,_⟩,_⟩:=I.loc
  exact free _ o (λz=>(hch _ z).2.1 rfl) ho I.free
 ·obtain⟨v,o,ho,hd⟩:=I.cell x c e
  exact free c o (λz=>(hch c z).2.2.1 x c e rfl) ho (I.freeC x c e)
 ·obtain⟨e,n,ne,nf,d⟩:=I.pin p hp
  have nch:p.1 ∉ch:=λz=>(hch p.1 z).2.2.2 p hp rfl;exact⟨keep p.1 p.2 ne nf nch e n,free p.1 p.2 nch e n,ne,nf,d⟩
def Inv.un(I:Inv X pins σ H s)(u:Un X.fs [] H H' s.heap h')(hok:HOk X.prog X.w H' h'):Inv X pins σ H' {s with heap:=h',toks:=t'}:=by
 obtain⟨m,⟨o,es,ep,ho,r⟩,_⟩:=id I.loc;obtain⟨sl,hL⟩:=u.any ho I.free (by simp)
 exact I.step (g':=s.gens) (d':=s.drawn) (ch:=[]) (λ_ z=>nomatch z) (λb o _ hb _ e n=>u.keep b o e n hb (by simp)) (λb o _ hb _ e n=>u.slot b o e n hb (by simp)) (λb o _ e n=>u.free b o e n (by simp)) (λb o _ e=>u.there b o e (by simp)) u.tups u.frzs u.tbls (λm' hm=>by
  obtain⟨o',es',ep',ho',r'⟩:=hm;rw[ho]at ho';cases ho';exact⟨_,es',ep',hL,r'⟩) hok I.bare
def Inv.call {ch:List Addr} (I:Inv X pins σ H s) (u:Un (gL X.stack) ch H H' s.heap h') (hok:HOk X.prog X.w H' h') (hg:AllBare g')
  (hch:∀b∈ch,(b∈X.ex\/X.s₀.heap.objs.size<=b)/\b≠X.env.locals/\(∀x c,X.env.cells.lookup x=some c->c≠b)/\∀p∈X.pn++pins,p.1≠b) :
  Inv X pins σ H' {s with heap:=h',gens:=g',drawn:=d',toks:=t'}:=by
 obtain⟨m,⟨o,es,ep,ho,r⟩,_⟩:=id I.loc;obtain⟨sl,hL⟩:=u.any ho I.free λz=>(hch _ z).2.1 rfl
 exact I.step (ch:=ch) hch (λb o hL hb hc e n=>u.keep b o e n (λz=>(gD (I.stkSub b z)).elim hL hb) hc) (λb o _ _ hc e n=>u.any e n hc) (λb o hc e n=>u.free b o e n hc) (λb o hc e=>u.there b o e hc) u.tups u.frzs u.tbls (λm' hm=>by
  obtain⟨o',es',ep',ho',r'⟩:=hm;rw[ho]at ho';cases ho';exact⟨_,es',ep',hL,r'⟩) hok hg
def Inv.turned (I:Inv X pins σ H s) (k:∀b o,b≠it->s.heap.get? b=some o->h'.get? b=some o) (hn:H it=none) (hL:it≠X.env.locals)
  (h1:it∈X.ex\/X.s₀.heap.objs.size<=it) (h2:∀x c,X.env.cells.lookup x=some c->c≠it) (h3:∀p∈X.pn++pins,p.1≠it):Inv X pins σ H {s with heap:=h',toks:=t'}:=by
 have nit:∀b u,H b=some u->b≠it:=λb u e z=>by rw[z,hn]at e;cases e
 refine I.step (g':=s.gens) (d':=s.drawn) (ch:=[it]) (λb hb=>?_) (λb o _ _ hc e _=>k b o (λz=>hc (by simp[z])) e) (λb o _ _ hc e _=>⟨o.slots,k b o (λz=>hc (by simp[z])) e⟩) (λ_ _ _ _ n=>n)
  (λb o hc e=>⟨o,k b o (λz=>hc (by simp[z])) e⟩) (λ_ _ e=>e) (λ_ _ _ e=>e) (λb ps e=>⟨#[],by rw[e];simp⟩) (λm hm=>?_) (λb u e=>?_) I.bare
 ·have e:b=it:=by simpa using hb
  subst e;exact⟨h1,hL,h2,h3⟩
 ·obtain⟨o,es,ep,ho,r⟩:=hm
  exact⟨o,es,ep,k _ o (Ne.symm hL) ho,r⟩
 ·refine(I.hok b u e).stay (λc v hc q=>k c v ?_ q) (λ_ q=>q) λ_ _ q=>q
  rcases hc with z |z
  ·rw[z];exact nit b u e
  ·exact nit c _ z
theorem Inv.tok(I:Inv X pins σ H s)(t:Nat):Inv X pins σ H {s with toks:=t}:=I.un (h':=s.heap) (t':=t) Un.refl I.hok
theorem Inv.kept(I:Inv X pins σ H s)(k:∀b u,s.heap.get? b=some u->h'.get? b=some u):Inv X pins σ H {s with heap:=h',toks:=t'}:=I.un (Un.kept k) (I.hok.kept k)
theorem Inv.laid {a:Addr} {o:HO} {t':Nat} (I:Inv X pins σ H s) (k:∀b u,s.heap.get? b=some u->h'.get? b=some u) (hp:s.heap.objs.size<=a) (new:ObjOk X.prog X.w (upd H a o) h' a o) :
  Inv X pins σ (upd H a o) {s with heap:=h',toks:=t'}:=I.un (Un.laid k hp (I.hok.fresh hp)) (I.hok.laid k hp new)
theorem Inv.write (I:Inv X pins σ H s) (mu:vQ (H x)) (he:e=x\/H e=some (.own x)) (k:∀b u,b≠e->s.heap.get? b=some u->h'.get? b=some u) (heo:∃u,h'.get? e=some u)
  (new:ObjOk X.prog X.w (upd H x o) h' x o):Inv X pins σ (upd H x o) {s with heap:=h',toks:=t'}:=I.un (Un.write mu he k heo) (I.hok.write mu he k heo new)
def Inv.weak(I:Inv X pins σ H s)(hl:σ'.length=σ.length)(w:∀(i:Nat) v,σ'[i]?=some (some v)->σ[i]?=some (some v)):Inv X pins σ' H s:=
 ⟨I.ok,I.os,I.bare,I.base,let ⟨m,hn,hl'⟩:=I.loc;⟨m,hn,λi x v e1 e2 e3=>hl' i x v e1 (w i v e2) e3⟩,I.cell,I.free,I.freeC,I.pin,I.hok,hl.trans I.len⟩
def Inv.pins_of(I:Inv X pins σ H s)(h:∀p∈i,s.heap.get? p.1=some p.2/\H p.1=none/\p.1≠X.env.locals/\p.1 ∉X.fs/\∀v,p.2.data≠.cell v):Inv X i σ H s:=
 ⟨I.ok,I.os,I.bare,I.base,I.loc,I.cell,I.free,I.freeC,λp j=>(dD j).elim (λz=>I.pin p (zU _ z)) (h p),I.hok,I.len⟩
def Dn{N:List Str}(n:N.Nodup){i j:Nat}(a:N[i]?=some x)(b:N[j]?=some x):i=j:=by
 obtain⟨h1,z⟩:=cV a;obtain⟨h2,y⟩:=cV b;exact(List.getElem_inj n).mp (z.trans y.symm)
def Nn (I:Inv X pins σ H s) (hN:X.N.Nodup) (hi:X.N[i]?=some x) (hx:qV X.env.scope x) (r:RelV v u)
  (h:∀s',Inv X pins (σ.set i (some v)) H s'->(∃a,Heap.SameBut a s.heap s'.heap/\(a=X.env.locals\/X.env.cells.lookup x=some a))->Q () s') (hf:X.fn x=true\/X.env.scope.names.lookup x=some .local:=by first |exact .inl rfl |exact .inr rfl |assumption):wpAny M A (storeName X.env x u) Q E s:=by
 obtain⟨m,hn,hl⟩:=id I.loc;have hcls:(X.env.scope.kind == .class || (X.env.scope.kind == .module && X.env.locals != X.env.globals))=false:=by rw[I.ok.kind];rfl
 have hiσ:i<σ.length:=by rw[I.len];exact(cV hi).1
 have cne:=I.cne
 have tracked:∀{a:Addr} {h':Heap},(∃o,s.heap.get? a=some o/\H a=none)->Heap.SameBut a s.heap h'->HOk X.prog X.w H h':=λ{a h'} ha hs b ob e=>by
  obtain⟨_,_,hfree⟩:=ha;refine(I.hok b ob e).stay (λc w' hc q=>(hs.2 c ?_).trans q) (λ_ q=>q) λ_ _ q=>q;rintro rfl;rcases hc with rfl |hc
  ·rw[hfree]at e;cases e
  ·rw[hfree]at hc;cases hc
 rcases hx with hk |hk
 ·refine wpAny_storeName_local hk hn (λh' hn' hs=>?_) hcls
  obtain⟨oL,_,_,hoL,_⟩:=id hn;refine h _ ⟨I.ok,I.os,I.bare,⟨λb o e n hb hx=>?_,λb o e n hb hx=>?_,I.base.free,λb o e hx=>?_,I.base.tups,I.base.frzs,I.base.tbls⟩,⟨_,hn',λj y v' e1 e2 e3=>?_⟩,λy c e=>?_,I.free,I.freeC,λp hp=>?_,tracked ⟨oL,hoL,I.free⟩ hs,by simpa using I.len⟩ ⟨_,hs,.inl rfl⟩
  ·exact(hs.2 b (qL (qM (qH e) I.ok.above))).trans (I.base.keep b o e n hb hx)
  ·obtain⟨sl,e1⟩:=I.base.slot b o e n hb hx
   exact⟨sl,(hs.2 b (qL (qM (qH e) I.ok.above))).trans e1⟩
  ·obtain⟨o',e1⟩:=I.base.there b o e hx
   exact⟨o',(hs.2 b (qL (qM (qH e) I.ok.above))).trans e1⟩
  ·by_cases hj:j=i
   ·subst hj
    rw[hi]at e1;cases e1;rw[List.getElem?_set_self hiσ]at e2;cases e2;exact⟨u,r,.inl ⟨hk,by simp⟩⟩
   ·rw[List.getElem?_set_ne (Ne.symm hj)]at e2
    obtain⟨u',r',q⟩:=hl j y v' e1 e2 e3;refine⟨u',r',?_⟩;rcases q with⟨k,e⟩ |⟨k,c,e,z⟩
    ·refine .inl ⟨k,?_⟩
     have:y≠x:=λe=>hj (Dn hN e1 (e ▸ hi));simp[this,e]
    ·exact .inr ⟨k,c,e,z.sameBut hs (cne y c e)⟩
  ·obtain⟨w',z⟩:=I.cell y c e
   exact⟨w',z.sameBut hs (cne y c e)⟩
  ·obtain⟨e,n,ne,nf,d⟩:=I.pin p hp
   exact⟨(hs.2 p.1 ne).trans e,n,ne,nf,d⟩
 ·have hfn:X.fn x=true:=by
   rcases hf with z |z
   ·exact z
   ·rw[z]at hk;cases hk
  obtain⟨c,hc⟩:=I.ok.has x (.inl hk);obtain⟨w',z⟩:=I.cell x c hc;refine wpAny_storeName_cell I.ok.kind hk hc z (λh' hc' hs=>?_);obtain⟨oc,hoc,hocd⟩:=id z;refine h {s with heap:=h'} ⟨I.ok,I.os,I.bare,⟨λb o e n hb hx=>?_,λb o e n hb hx=>?_,I.base.free,λb o e hx=>?_,I.base.tups,I.base.frzs,I.base.tbls⟩,⟨m,hn.sameBut hs (Ne.symm (cne x c hc)),λj y v' e1 e2 e3=>?_⟩,λy c' e=>?_,I.free,I.freeC,λp hp=>?_,tracked ⟨oc,hoc,I.freeC x c hc⟩ hs,by simpa using I.len⟩ ⟨c,hs,.inr hc⟩
  ·exact(hs.2 b (qL (qM (qH e) (I.ok.cab x c hfn hc)))).trans (I.base.keep b o e n hb hx)
  ·obtain⟨sl,e1⟩:=I.base.slot b o e n hb hx
   exact⟨sl,(hs.2 b (qL (qM (qH e) (I.ok.cab x c hfn hc)))).trans e1⟩
  ·obtain⟨o',e1⟩:=I.base.there b o e hx
   exact⟨o',(hs.2 b (qL (qM (qH e) (I.ok.cab x c hfn hc)))).trans e1⟩
  ·by_cases hj:j=i
   ·subst hj
    rw[hi]at e1;cases e1;rw[List.getElem?_set_self hiσ]at e2;cases e2;exact⟨u,r,.inr ⟨.inl hk,c,hc,hc'⟩⟩
   ·rw[List.getElem?_set_ne (Ne.symm hj)]at e2
    obtain⟨u',r',q⟩:=hl j y v' e1 e2 e3;refine⟨u',r',?_⟩;rcases q with q |⟨k,c',e,z'⟩
    ·exact .inl q
    ·refine .inr ⟨k,c',e,z'.sameBut hs ?_⟩
     rintro rfl;exact hj (Dn hN e1 (I.ok.inj _ _ _ e hc ▸ hi))
  ·by_cases hcc:c'=c
   ·subst hcc;exact⟨_,hc'⟩
   ·obtain⟨w2,z2⟩:=I.cell y c' e
    exact⟨w2,z2.sameBut hs hcc⟩
  ·obtain⟨e,n,ne,nf,d⟩:=I.pin p hp
   refine⟨(hs.2 p.1 ?_).trans e,n,ne,nf,d⟩;intro q;rw[q,hoc]at e;have q':oc=p.2:=qK e;exact d w' (by rw[<- q'];exact hocd)
def Ds (I:Inv X pins σ H s) (y:X.N.Nodup) (hi:X.N[i]?=some x) (j:qV X.env.scope x) (r:RelV v u)
  (h:∀s',Inv X pins (σ.set i (some v)) H s'->Q () s') (n:X.fn x=true\/X.env.scope.names.lookup x=some .local:=by first |exact .inl rfl |exact .inr rfl |assumption):wpAny M A (storeName X.env x u) Q E s:=
 Nn I y hi j r (λs' z _=>h s' z) n
def Inv.call' (I:Inv X pins σ H s) (ho:s'.os=s.os) (u:Un (gL X.stack) ch H H' s.heap s'.heap) (hok:HOk X.prog X.w H' s'.heap) (hg:AllBare s'.gens)
  (hch:∀b∈ch,(b∈X.ex\/X.s₀.heap.objs.size<=b)/\b≠X.env.locals/\(∀x c,X.env.cells.lookup x=some c->c≠b)/\∀p∈X.pn++pins,p.1≠b):Inv X pins σ H' s':=by
 obtain⟨h',g',d',t',o'⟩:=s';have e:o'=s.os:=ho;subst e;exact I.call (g':=g') (t':=t') (d':=d') u hok hg hch
end
abbrev XK:=Value->Option Addr->Hp->Prop
abbrev St:=List (Option V)
abbrev VK:=V->Hp->Prop
abbrev TE:=St->Hp->VK->Prop
abbrev TT:=St->Hp->(Bool->Hp->Prop)->Prop
abbrev TA:=St->Hp->(List V->Hp->Prop)->Prop
structure Ends where
 nx:St->Hp->Prop
 rt:VK
 bk:St->Hp->Prop:=λ_ _=>False
 ct:St->Hp->Prop:=λ_ _=>False
abbrev TS:=Ends->St->Hp->Prop
def EP(X:Cx)(pins:List (Addr×Obj))(σ:St)(Q:VK)(u:Value)(s':Shared):Prop:=∃v H',Inv X pins σ H' s'/\RelV v u/\Q v H'
def TP(X:Cx)(pins:List (Addr×Obj))(σ:St)(Q:Bool->Hp->Prop)(b:Bool)(s':Shared):Prop:=∃H',Inv X pins σ H' s'/\Q b H'
def AP(X:Cx)(pins:List (Addr×Obj))(σ:St)(Q:List V->Hp->Prop)(us:List Value)(s':Shared):Prop:=∃vs H',Inv X pins σ H' s'/\Vals vs us/\Q vs H'
def SP(X:Cx)(pins:List (Addr×Obj))(D:Ends)(f:Flow)(s':Shared):Prop:=
 match f with
 |.next=>∃σ' H',Inv X pins σ' H' s'/\D.nx σ' H'
 |.brk=>∃σ' H',Inv X pins σ' H' s'/\D.bk σ' H'
 |.cont=>∃σ' H',Inv X pins σ' H' s'/\D.ct σ' H'
 |.ret u=>∃v σ' H',Inv X pins σ' H' s'/\RelV v u/\D.rt v H'
def PE(X:Cx)(e:Expr)(t:TE):Prop:=
 ∀(pins:List (Addr×Obj)) (s:Shared) (σ:St) (H:Hp) (Q:VK),Inv X pins σ H s->t σ H Q->wpAny (model X.prog X.w) X.A (eval e X.env) (EP X pins σ Q) X.xe s
def PT(X:Cx)(e:Expr)(t:TT):Prop:=
 ∀(pins:List (Addr×Obj)) (s:Shared) (σ:St) (H:Hp) (Q:Bool->Hp->Prop),Inv X pins σ H s->t σ H Q->wpAny (model X.prog X.w) X.A (isTrue e X.env (eval e X.env)) (TP X pins σ Q) X.xe s
def PW(X:Cx)(e:Expr)(t:TT):Prop:=
 ∀(whole:Sem Value) (pins:List (Addr×Obj)) (s:Shared) (σ:St) (H:Hp) (Q:Bool->Hp->Prop),Inv X pins σ H s->t σ H Q->wpAny (model X.prog X.w) X.A (isTrue e X.env whole) (TP X pins σ Q) X.xe s
def PW.pt{t:TT}(h:PW X e t):PT X e t:=h _
def PA(X:Cx)(es:List Expr)(t:TA):Prop:=
 ∀(pos:Pos) (pins:List (Addr×Obj)) (s:Shared) (σ:St) (H:Hp) (Q:List V->Hp->Prop),Inv X pins σ H s->t σ H Q->wpAny (model X.prog X.w) X.A (spliced (backTo pos (starEach es X.env))) (AP X pins σ Q) X.xe s
def PS(X:Cx)(st:Stmt)(t:TS):Prop:=
 ∀(pins:List (Addr×Obj)) (s:Shared) (σ:St) (H:Hp) (D:Ends),Inv X pins σ H s->t D σ H->wpAny (model X.prog X.w) X.A (exec st X.env) (SP X pins D) X.xe s
def PSs(X:Cx)(st:List Stmt)(t:TS):Prop:=
 ∀(pins:List (Addr×Obj)) (s:Shared) (σ:St) (H:Hp) (D:Ends),Inv X pins σ H s->t D σ H->wpAny (model X.prog X.w) X.A (execs st X.env) (SP X pins D) X.xe s
def aU{α:Type}{t:Sem α}{Q Q':α->Shared->Prop}{M:Model}{A:Around}{E:Value->Shared->Prop}{s:Shared}(h:wpAny M A t Q E s)(hQ:∀a s,Q a s->Q' a s):wpAny M A t Q' E s:=wpAny_mono h hQ λ_ _ x=>x
section
variable {X:Cx}
def pE(i:Nat):TE:=λσ H Q=>∃v,σ[i]?=some (some v)/\Q v H
def tC(v:V):TE:=λ_ H Q=>Q v H
def Rt{i:Nat}{x:Str}{pos:Pos}(O:X.N[i]?=some x)(G:xX X.env.scope x)(hd:(x == ("__debug__":Str))=false:=by decide)(y:(x == ("__classdict__":Str))=false:=by decide):PE X (.Name x pos) (pE i):=by
 intro pins s σ H Q I h;obtain⟨v,e,h⟩:=h;obtain⟨m,hn,M⟩:=I.loc;obtain⟨u,r,l⟩:=M i x v O e G;have fin:EP X pins σ Q u s:=⟨v,H,I,r,h⟩;rcases l with⟨n,J⟩ |⟨n,c,z,j⟩
 ·exact wpAny_Name (wpAny_loadName_local I.ok.kind n hn J fin) hd
 ·rcases n with n |n
  ·exact wpAny_Name (wpAny_loadName_cell I.ok.kind n z j fin) hd
  ·exact wpAny_Name (wpAny_loadName_free I.ok.kind n z j fin y) hd
def pI{i j pos}:PE X (.Constant (.int i) j pos) (tC (.int i)):=λ_ _ _ H _ I h=>wpAny_Constant_int ⟨.int i,H,I.tok _,⟨_,Z⟩,h⟩
def rF{b j pos}:PE X (.Constant (.bool b) j pos) (tC (.bl b)):=λ_ _ _ H _ I h=>Constant_bool ⟨.bl b,H,I,Z,h⟩
def nX{j pos}:PE X (.Constant .none j pos) (tC .non):=λ_ _ _ H _ I h=>Constant_none ⟨.non,H,I,Z,h⟩
def pS{x j pos}:PE X (.Constant (.str x) j pos) (tC (.str x)):=λ_ _ _ H _ I h=>Calls.Constant_str ⟨.str x,H,I.tok _,⟨_,Z⟩,h⟩
def Gl(X:Cx)(x:Str):Prop:=X.env.kindOf x=some .globalImplicit
def tR {E:Value->Shared->Prop} {pins:List (Addr×Obj)} {s:Shared} {σ:St} {H:Hp} {x:Str} {u:Value} {pos:Pos} {Q:Value->Shared->Prop} (I:Inv X pins σ H s) (j:Gl X x) (i:X.mg x=some u) (h:Q u s)
  (hd:(x == ("__debug__":Str))=false:=by decide):wpAny (model X.prog X.w) X.A (eval (.Name x pos) X.env) Q E s:=
 Calls.Name_function_global I.ok.kind j (Calls.loadGlobal_global (by rw[I.ok.glob];exact I.mod.glob.keeps I.bk) i h) hd
def oY {E:Value->Shared->Prop} {pins:List (Addr×Obj)} {s:Shared} {σ:St} {H:Hp} {x:Str} {u:Value} {pos:Pos} {Q:Value->Shared->Prop} (I:Inv X pins σ H s) (n:Gl X x) (j:X.mg x=none) (i:bootBuiltins x=some u) (h:Q u s)
  (hn:x≠"__name__":=by decide) (hd:(x == ("__debug__":Str))=false:=by decide):wpAny (model X.prog X.w) X.A (eval (.Name x pos) X.env) Q E s:=by
 obtain⟨mb,h1,h2⟩:=I.mod.blt;exact Calls.Name_function_global I.ok.kind n (Calls.loadGlobal_builtin (by rw[I.ok.glob];exact I.mod.glob.keeps I.bk) j (by rw[I.ok.blt];exact h1.keeps I.bk) ((h2 x hn).trans i) h) hd
def Ln{pos:Pos}(hg:Gl X x)(hm:X.mg x=some u)(r:RelV v u)(hd:(x == ("__debug__":Str))=false:=by decide):PE X (.Name x pos) (tC v):=
 λ_ _ _ H _ I h=>tR I hg hm ⟨v,H,I,r,h⟩ hd
def Vh{x:Str}{v:V}{u:Value}{pos:Pos}(n:Gl X x)(j:X.mg x=none)(i:bootBuiltins x=some u)(r:RelV v u)(hn:x≠"__name__":=by decide)(hd:(x == ("__debug__":Str))=false:=by decide):PE X (.Name x pos) (tC v):=
 λ_ _ _ H _ I h=>oY I n j i ⟨v,H,I,r,h⟩ hn hd
variable {a b:Expr}{ta tb:TE}{pos:Pos}
def PC(X:Cx)(op:CmpOp)(a b:Expr)(t:TE):Prop:=
 ∀(pins:List (Addr×Obj)) (s:Shared) (σ:St) (H:Hp) (Q:VK),Inv X pins σ H s->t σ H Q->
  wpAny (model X.prog X.w) X.A (eval a X.env) (λv s₁=>wpAny (model X.prog X.w) X.A (eval b X.env) (λu s₂=>wpAny (model X.prog X.w) X.A (compareOp op v u) (EP X pins σ Q) X.xe s₂) X.xe s₁) X.xe s
def tB(t:TE):TT:=λσ H Q=>t σ H λx H1=>∃c,x=.bl c/\Q c H1
def yZ{op:CmpOp}{t:TE}(h:PC X op a b t)(h1:behindInMarks op b=false:=by first |exact nobehind _ (aA Z) (aA Z) |rfl):PT X (.Compare a [op] [b] pos) (tB t):=by
 intro pins s σ H Q I n;refine wpAny_isTrue_Compare1 (aU (h pins s σ H _ I n) λv J h1=>aU h1 λu G h2=>aU h2 λc z ⟨x,H1,y,i,j⟩=>?_) h1;obtain⟨d,rfl,q⟩:=j;cases i;exact wpAny_truthy_bool ⟨H1,y,q⟩
def S8{e:Expr}{t:TE}(h:PE X e t)(he:∀whole,isTrue e X.env whole=(do let v <- whole;standAt e.pos;holding [v] (truthy v)):=by intro _;rfl):PT X e (tB t):=by
 intro pins s σ H Q I hw;refine isTrue_plain (aU (h pins s σ H _ I hw) λv s1 ⟨x,H1,I1,r1,q1⟩=>?_) (he _);obtain⟨d,rfl,q⟩:=q1;cases r1;exact wpAny_truthy_bool ⟨H1,I1,q⟩
variable {tA tB':TT}{rest:List Expr}
def Ei(t u:TT):TT:=λσ H Q=>t σ H λc H1=>if c=true then u σ H1 Q else Q false H1
def tOr(t u:TT):TT:=λσ H Q=>t σ H λc H1=>if c=true then Q true H1 else u σ H1 Q
def Ec(t:TT):TT:=λσ H Q=>t σ H λc H1=>Q (!c) H1
def iQ(i:PT X a tA):PW X (.BoolOp .And [a] pos) tA:=by
 intro j pins s σ H Q I h;refine isTrue_and (aU (i pins s σ H Q I h) λc n e=>?_)
 cases c with
 |true=>exact isTrue_and_nil e
 |false=>exact e
def S9(i:PT X a tA):PW X (.BoolOp .Or [a] pos) tA:=by
 intro j pins s σ H Q I h;refine isTrue_or (aU (i pins s σ H Q I h) λc n e=>?_)
 cases c with
 |false=>exact isTrue_or_nil e
 |true=>exact e
def iF(G:PT X a tA)(z:PW X (.BoolOp .And (b::rest) pos) tB'):PW X (.BoolOp .And (a::b::rest) pos) (Ei tA tB'):=by
 intro n pins s σ H Q I h;refine isTrue_and (aU (G pins s σ H _ I h) λc y ⟨H1,j,i⟩=>?_)
 cases c with
 |true=>exact z n pins y σ H1 Q j i
 |false=>exact⟨H1,j,i⟩
def Pm(G:PT X a tA)(z:PW X (.BoolOp .Or (b::rest) pos) tB'):PW X (.BoolOp .Or (a::b::rest) pos) (tOr tA tB'):=by
 intro n pins s σ H Q I h;refine isTrue_or (aU (G pins s σ H _ I h) λc y ⟨H1,j,i⟩=>?_)
 cases c with
 |true=>exact⟨H1,j,i⟩
 |false=>exact z n pins y σ H1 Q j i
def Ry(i:PT X a tA):PT X (.UnaryOp .Not a pos) (Ec tA):=by
 intro pins s σ H Q I h;exact isTrue_not (i pins s σ H (λc H1=>Q (!c) H1) I h)
def Qk(ta tb:TE):TE:=λσ H Q=>ta σ H λx H1=>∃c,x=.bl c/\if c=true then tb σ H1 Q else Q (.bl false) H1
def Ia{op}{t:TE}(h:PE X a t):PE X (.BoolOp op [a] pos) t:=λpins s σ H Q I i=>BoolOp_one (h pins s σ H Q I i)
def C6(G:PE X a ta)(z:PE X (.BoolOp .And (b::rest) pos) tb):PE X (.BoolOp .And (a::b::rest) pos) (Qk ta tb):=by
 intro pins s σ H Q I h;refine BoolOp_and (aU (G pins s σ H _ I h) λv n ⟨x,H1,j,y,i⟩=>?_);obtain⟨c,rfl,i⟩:=i;cases y;refine wpAny_truthy_bool ?_
 cases c with
 |true=>exact z pins n σ H1 Q j i
 |false=>exact⟨.bl false,H1,j,Z,i⟩
end
def SqL(K:Fg)(H:Hp)(a:Addr)(xs:List V):Prop:=
 Rd H a (.lst xs) ∨
  ∃(o:Obj) (its:Array Value) (n:Nat),K.lookup a=some o/\o.cls=.type "list"/\o.dict=none/\o.data=.seq its n/\its.size<=sizeLine/\Vals xs its.toList
def SqT(K:Fg)(H:Hp)(a:Addr)(xs:List V):Prop:=
 Rd H a (.tup xs) ∨
  ∃(o:Obj) (its:Array Value) (n:Nat),K.lookup a=some o/\o.cls=.type "tuple"/\o.data=.seq its n/\its.size<=sizeLine/\Vals xs its.toList
def Fm:Value->Option V
 |.none=>some .non
 |.bool b=>some (.bl b)
 |.int i _=>some (.int i)
 |.str x _=>some (.str x)
 |.bytes b _=>some (.byt b)
 |.float b _=>some (.flt b)
 |.ref a=>some (.ref a)
 |.type n=>some (.ty n)
 |_=>none
def RelV.abs(r:RelV x u):Fm u=some x:=by
 cases x with
 |non=>cases r;rfl
 |bl _=>cases r;rfl
 |int _=>obtain⟨t,rfl⟩:=r;rfl
 |str _=>obtain⟨t,rfl⟩:=r;rfl
 |byt _=>obtain⟨t,rfl⟩:=r;rfl
 |flt _=>obtain⟨t,rfl⟩:=r;rfl
 |ref _=>cases r;rfl
 |ty _=>cases r;rfl
theorem RelV.inj(r:RelV x u)(q:RelV y u):x=y:=qK (r.abs.symm.trans q.abs)
theorem Vals.inj:∀{xs ys:List V} {us:List Value},Vals xs us->Vals ys us->xs=ys
 |_,_,_,.nil,.nil=>Z
 |_,_,_,.cons r t,.cons i t'=>by rw[r.inj i,Vals.inj t t']
section
variable {X:Cx}{pins:List (Addr×Obj)}{σ:St}{H:Hp}{s:Shared}{a:Addr}{xs ys:List V}
theorem SqL.of{K:Fg}(h:H a=some (.lst xs)):SqL K H a xs:=.inl (.inl h)
noncomputable def zF:=@SqL.of
theorem SqT.of{K:Fg}(h:H a=some (.tup xs)):SqT K H a xs:=.inl (.inl h)
noncomputable def zD:=@SqT.of
def Inv.list(I:Inv X pins σ H s)(h:SqL X.K H a xs):∃its:List Value,Vals xs its/\PlainL s.heap a its.toArray/\xs.length<=sizeLine:=by
 rcases h with h |⟨o,its,n,i,j,hd,hs,hz,r⟩
 ·obtain⟨z,its,n,r,e⟩:=h.ok I.hok
  exact⟨its,r,⟨_,n,e,Z,Z,Z⟩,z⟩
 ·refine⟨its.toList,r,⟨o,n,I.kIn a o i,j,hd,by simpa using hs⟩,?_⟩
  have e:=r.length;simp only[Array.length_toList]at e;omega
def Inv.tuple(I:Inv X pins σ H s)(h:SqT X.K H a xs):∃its:List Value,Vals xs its/\IsTup s.heap a its.toArray/\xs.length<=sizeLine:=by
 rcases h with h |⟨o,its,n,i,j,hs,hz,r⟩
 ·obtain⟨z,its,r,o,e,c,n,d,_⟩:=h.ok I.hok
  exact⟨its,r,⟨o,e,c,n,d⟩,z⟩
 ·refine⟨its.toList,r,⟨o,I.kIn a o i,j,n,by simpa using hs⟩,?_⟩
  have e:=r.length;simp only[Array.length_toList]at e;omega
theorem Inv.list_inj(I:Inv X pins σ H s)(h:SqL X.K H a xs)(h':SqL X.K H a ys):xs=ys:=by
 obtain⟨its,r,⟨o,n,e,_,_,d⟩,_⟩:=I.list h;obtain⟨its',j,⟨o',z,i,_,_,d'⟩,_⟩:=I.list h';rw[e]at i;cases i;rw[d]at d';injection d' with y _;have:its=its':=by simpa using congrArg Array.toList y
 subst this;exact r.inj j
theorem Inv.tuple_inj(I:Inv X pins σ H s)(h:SqT X.K H a xs)(h':SqT X.K H a ys):xs=ys:=by
 obtain⟨its,r,⟨o,e,_,n,d⟩,_⟩:=I.tuple h;obtain⟨its',j,⟨o',i,_,z,d'⟩,_⟩:=I.tuple h';rw[e]at i;cases i;rw[d]at d';injection d' with y _;have:its=its':=by simpa using congrArg Array.toList y
 subst this;exact r.inj j
end
abbrev Cx.wish(X:Cx)(E:Value->Shared->Prop):Cx:={X with xe:=E}
abbrev Cx.nox(X:Cx):Cx:=X.wish λ_ _=>False
theorem Cx.Ok.wish{X:Cx}(ok:X.Ok)(E:Value->Shared->Prop):(X.wish E).Ok:=
 ⟨ok.mod,ok.kind,ok.glob,ok.blt,ok.above,ok.inj,ok.has,ok.cab,ok.hd,ok.frames,ok.stk,ok.exf,ok.bs,ok.bsz,ok.noex,ok.exfs,ok.funs,ok.frf⟩
def Cx.Ok.unwish{X:Cx}{E:Value->Shared->Prop}(ok:(X.wish E).Ok):X.Ok:=
 ⟨ok.mod,ok.kind,ok.glob,ok.blt,ok.above,ok.inj,ok.has,ok.cab,ok.hd,ok.frames,ok.stk,ok.exf,ok.bs,ok.bsz,ok.noex,ok.exfs,ok.funs,ok.frf⟩
section
variable {X:Cx}{pins:List (Addr×Obj)}{σ:St}{H:Hp}{s:Shared}{E:Value->Shared->Prop}
theorem Inv.wish(I:Inv X pins σ H s)(E:Value->Shared->Prop):Inv (X.wish E) pins σ H s:=⟨I.ok.wish E,I.os,I.bare,I.base,I.loc,I.cell,I.free,I.freeC,I.pin,I.hok,I.len⟩
theorem Inv.unwish(I:Inv (X.wish E) pins σ H s):Inv X pins σ H s:=⟨I.ok.unwish,I.os,I.bare,I.base,I.loc,I.cell,I.free,I.freeC,I.pin,I.hok,I.len⟩
theorem SP.unwish{D:Ends}(h:SP (X.wish E) pins D f s'):SP X pins D f s':=by
 cases f with
 |next=>obtain⟨i,H',I,q⟩:=h;exact⟨i,H',I.unwish,q⟩
 |brk=>obtain⟨i,H',I,q⟩:=h;exact⟨i,H',I.unwish,q⟩
 |cont=>obtain⟨i,H',I,q⟩:=h;exact⟨i,H',I.unwish,q⟩
 |ret u=>obtain⟨v,i,H',I,r,q⟩:=h;exact⟨v,i,H',I.unwish,r,q⟩
theorem PSs.nox{st:List Stmt}{t:TS}(h:PSs X.nox st t):PSs X st t:=λpins s σ H D I i=>
 wpAny_mono (h pins s σ H D (I.wish _) i) (λ_ _ q=>q.unwish) λ_ _ z=>False.elim z
end
section
variable {X:Cx}{st:Stmt}{rest:List Stmt}{t u:TS}{e:Expr}{te:TE}{pos:Pos}
def Qo:TS:=λD σ H=>D.nx σ H
def xO(t u:TS):TS:=λD σ H=>t {D with nx:=u D} σ H
def pQ:PSs X [] Qo:=λ_ _ σ H _ I h=>wpAny_execs_nil ⟨σ,H,I,h⟩
def aF(h1:PS X st t)(h2:PSs X rest u):PSs X (st::rest) (xO t u):=by
 intro pins s σ H D I h;refine wpAny_execs_cons (aU (h1 pins s σ H {D with nx:=u D} I h) λf j q=>?_)
 cases f with
 |next=>
  obtain⟨i,H',n,q⟩:=q;exact h2 pins j i H' D n q
 |ret v=>exact q
 |brk=>exact q
 |cont=>exact q
def po(h1:PS X st t):PSs X [st] t:=by
 intro pins s σ H D I h;refine wpAny_execs_cons (aU (h1 pins s σ H D I h) λf i q=>?_)
 cases f with
 |next=>exact wpAny_execs_nil q
 |ret v=>exact q
 |brk=>exact q
 |cont=>exact q
def Inv.quiet{pins:List (Addr×Obj)}{σ:St}{H:Hp}{s:Shared}(I:Inv X pins σ H s):interactive X.env=false:=by simp[interactive,I.ok.kind]
def Qn(te:TE):TS:=λD σ H=>te σ H λ_ H1=>D.nx σ H1
def cT(j:PE X e te)(hs:swapsWith e none pos.line X.env=pure false:=by rfl):PS X (.Expr e pos) (Qn te):=by
 intro pins s σ H D I h;exact wpAny_Expr_any (aU (j pins s σ H _ I h) λv y ⟨x,H1,n,z,i⟩=>⟨σ,H1,n,i⟩) I.quiet hs
def Eb(te:TE):TS:=λD σ H=>te σ H D.rt
def aS(n:PE X e te):PS X (.Return (some e) pos) (Eb te):=by
 intro pins s σ H D I h;exact wpAny_Return_some (aU (n pins s σ H _ I h) λv z ⟨x,H1,y,i,j⟩=>⟨x,σ,H1,y,i,j⟩)
def Ee(c:TT)(t u:TS):TS:=λD σ H=>c σ H λb H1=>if b=true then t D σ H1 else u D σ H1
def aT{c:Expr}{a b:List Stmt}{tc:TT}(y:PT X c tc)(G:PSs X a t)(z:PSs X b u):PS X (.If c a b pos) (Ee tc t u):=by
 intro pins s σ H D I h;refine wpAny_If (aU (y pins s σ H _ I h) λd i ⟨H1,n,j⟩=>?_)
 cases d with
 |true=>exact G pins i σ H1 D n j
 |false=>exact z pins i σ H1 D n j
end
abbrev TG:=V->St->Hp->(St->Hp->Prop)->Prop
abbrev oS:=List V->St->Hp->(St->Hp->Prop)->Prop
def PG(X:Cx)(target:Expr)(t:TG):Prop:=
 ∀(pins:List (Addr×Obj)) (s:Shared) (σ:St) (H:Hp) (v:V) (u:Value) (Q:St->Hp->Prop),Inv X pins σ H s->RelV v u->t v σ H Q->
  wpAny (model X.prog X.w) X.A (assign target X.env u) (λ_ s'=>∃σ' H',Inv X pins σ' H' s'/\Q σ' H') X.xe s
def vP(X:Cx)(ts:List Expr)(t:oS):Prop:=
 ∀(pins:List (Addr×Obj)) (s:Shared) (σ:St) (H:Hp) (vs:List V) (us:List Value) (Q:St->Hp->Prop),Inv X pins σ H s->Vals vs us->t vs σ H Q->
  wpAny (model X.prog X.w) X.A (assignInOrder ((assignEach ts X.env).map (·.2)) us) (λ_ s'=>∃σ' H',Inv X pins σ' H' s'/\Q σ' H') X.xe s
abbrev sL:=V->V->V->Hp->(Hp->Prop)->Prop
def xY(X:Cx)(t:sL):Prop:=
 ∀(pins:List (Addr×Obj)) (s:Shared) (σ:St) (H:Hp) (o i v:V) (ov iv u:Value) (Q:Hp->Prop),Inv X pins σ H s->RelV o ov->RelV i iv->RelV v u->t o i v H Q->
  wpAny (model X.prog X.w) X.A (setItem ov iv u) (λ_ s'=>∃H',Inv X pins σ H' s'/\Q H') X.xe s
section
variable {X:Cx}{pos:Pos}
def nV(i:Nat):TG:=λv σ H Q=>Q (σ.set i (some v)) H
theorem Lo(y:X.N.Nodup)(hi:X.N[i]?=some x)(j:qV X.env.scope x)(n:X.fn x=true\/X.env.scope.names.lookup x=some .local:=by first |exact .inl rfl |exact .inr rfl |assumption):PG X (.Name x pos) (nV i):=by
 intro pins s σ H v u Q I r h;exact wpAny_assign_Name (Ds I y hi j r (λs' z=>⟨_,H,z,h⟩) n)
def Ff:oS:=λvs σ H Q=>vs=[]/\Q σ H
def Pa(t:TG)(u:oS):oS:=λvs σ H Q=>∃v r,vs=v::r/\t v σ H λσ' H'=>u r σ' H' Q
def fE:vP X [] Ff:=by
 intro pins s σ H vs us Q I r h;obtain⟨e,h⟩:=h;subst e;cases r;exact assignInOrder_nil ⟨σ,H,I,h⟩
def aX {e:Expr} {es:List Expr} {t:TG} {u:oS} (h1:PG X e t) (h2:vP X es u)
  (hs:(assignEach (e::es) X.env).map (·.2)=assign e X.env::(assignEach es X.env).map (·.2):=by rfl):vP X (e::es) (Pa t u):=by
 intro pins s σ H vs us Q I r h;obtain⟨v,J,z,h⟩:=h;subst z
 cases r with
 |cons r n=>
  rw[hs];refine assignInOrder_cons (aU (h1 pins s σ H _ _ _ I r h) λ_ j ⟨i,H1,G,y⟩=>?_);exact h2 pins j i H1 _ _ Q G n y
def xV(K:Fg)(n:Nat)(t:oS):TG:=λv σ H Q=>∃a xs,v=.ref a/\SqT K H a xs/\xs.length=n/\t xs σ H Q
def Ru {es:List Expr} {k:Nat} {t:oS} {n:Nat} (O:X.calm=true) (h:vP X es t)
  (hn:(assignEach es X.env).length=n:=by rfl) (j:(assignEach es X.env).findIdx? (·.1)=none:=by rfl):PG X (.Tuple es k pos) (xV X.K n t):=by
 intro pins s σ H v u Q I r i;obtain⟨a,xs,U,J,M,i⟩:=i;subst U;cases r;obtain⟨its,y,G,hz⟩:=I.tuple J;refine assign_Tuple_tuple (I.ok.hd O) G (by simp[hn,<- M,y.length]) j λh' z=>?_;have Y:Inv X pins σ H {s with heap:=h'}:=I.kept (t':=s.toks) λb o e=>z b o (qL (qH e)) e;exact h pins _ σ H xs _ Q Y (by simpa using y) i
def Fe(to ti:TE)(t:sL):TG:=λv σ H Q=>to σ H λo H1=>ti σ H1 λi H2=>t o i v H2 λH3=>Q σ H3
def Ib {o i:Expr} {to z:TE} {t:sL} (ho:PE X o to) (hi:PE X i z) (hs:xY X t)
  (ha:∀v,assign (.Subscript o i pos) X.env v=(do
   let j <- holding [v] (eval o X.env)
   let n <- holding [v,j] (eval i X.env)
   standAt pos
   holding [v,j,n] (setItem j n v)
   release [v,j,n] []):=by intro _;rfl):PG X (.Subscript o i pos) (Fe to z t):=by
 intro pins s σ H v u Q I r h;rw[ha];refine qB (qU (aU (ho pins s σ H _ I h) λj J ⟨x,H1,I1,O,q1⟩=>?_));refine qB (qU (aU (hi pins J σ H1 _ I1 q1) λn G ⟨y,H2,I2,M,Y⟩=>?_));refine qB (wpAny_standAt (qB (qU (aU (hs pins G σ H2 x y v j n u _ I2 O M r Y) λ_ s3 ⟨H3,I3,U⟩=>?_))));exact wpAny_release ⟨σ,H3,I3,U⟩
def oF(te:TE)(g:TG):TS:=λD σ H=>te σ H λx H1=>g x σ H1 D.nx
def mT {tg e:Expr} {te:TE} {g:TG} (G:PE X e te) (z:PG X tg g) (hs:swapsWithSole [tg] e pos.line X.env=pure false:=by rfl) (y:swappedStores [tg] e X.env=pure none:=by rfl)
  (h1:(assignEach [tg] X.env).map (·.2)=[assign tg X.env]:=by rfl):PS X (.Assign [tg] e pos) (oF te g):=by
 intro pins s σ H D I h;refine wpAny_Assign_stores (aU (G pins s σ H _ I h) λv i ⟨x,H1,J,j,n⟩=>?_) hs y;rw[h1];exact aU (z pins i σ H1 x v _ J j n) λ_ M q=>q
theorem Rx {i:Nat} {x:Str} {e:Expr} {te:TE} {pos':Pos} (hN:X.N.Nodup) (hi:X.N[i]?=some x) (hx:qV X.env.scope x) (he:PE X e te) (hs:swapsWith e (some (.Name x pos')) pos.line X.env=pure false:=by rfl) (hf:X.fn x=true\/X.env.scope.names.lookup x=some .local:=by first |exact .inl rfl |exact .inr rfl |assumption) :
  PS X (.Assign [.Name x pos'] e pos) (oF te (nV i)):=by
 intro pins s σ H D I h;refine wpAny_Assign_Name (aU (he pins s σ H _ I h) λv s1 ⟨y,H1,I1,r1,q1⟩=>?_) hs;exact Ds I1 hN hi hx r1 (λs2 I2=>⟨_,H1,I2,q1⟩) hf
end
structure It where
 go:Nat->Hp->Prop
 yld:Nat->Hp->V->Hp->Prop
 stop:Nat->Hp->Prop
def FpOk(X:Cx)(pins:List (Addr×Obj))(H:Hp)(b:Addr):Prop:=
 H b=none/\b≠X.env.locals/\b ∉X.fs/\(b∈X.ex\/X.s₀.heap.objs.size<=b)/\(∀x c,X.env.cells.lookup x=some c->c≠b)/\∀p∈X.pn++pins,p.1≠b
def Inv.fpOk{X:Cx}{pins:List (Addr×Obj)}{σ:St}{H H':Hp}{s:Shared}{b:Addr}(I:Inv X pins σ H s)(i:s.heap.objs.size<=b)(hn:H' b=none):FpOk X pins H' b:=by
 refine⟨hn,Nat.ne_of_gt (qM I.lt i),I.nofs i,.inr (qC I.sz i),λx c e z=>?_,λp j z=>?_⟩
 ·obtain⟨v,q⟩:=I.cell x c e
  exact absurd (qM q.lt (by rw[z];exact i)) (qQ _)
 ·exact absurd (qM (qH (I.pin p j).1) (by rw[z];exact i)) (qQ _)
structure Turn(P:Program)(w:World)(K:Fg)(tg:Expr)(J:It)(fp:List Addr)(it:Addr)(tn:Nat->Heap->Prop)(Cp:Cx->Prop:=λX=>X.calm=true):Prop where
 mem:it∈fp
 obj:∀i h,tn i h->∀b∈fp,∃o,h.get? b=some o/\∀v,o.data≠.cell v
 keep:∀i h h',tn i h->(∀b∈fp,∀o,h.get? b=some o->h'.get? b=some o)->tn i h'
 item:∀(X:Cx),X.prog=P->X.w=w->X.K=K->Cp X->∀(i:Nat) (pins:List (Addr×Obj)) (s:Shared) (σ:St) (H:Hp) (E:Value->Shared->Prop),Inv X pins σ H s->(∀b∈fp,FpOk X pins H b)->tn i s.heap->J.go i H->
  wpAny (model P w) X.A (pyNext (.ref it)) (λr s1=>∃u,r=some u ∧
   wpAny (model P w) X.A (letOwnedTupleGo tg (.ref it) u) (λ_ s2=>∃x H',Inv X pins σ H' s2/\RelV x u/\J.yld i H x H'/\tn (i+1) s2.heap/\∀b∈fp,H' b=none) E s1) E s
 done:∀(X:Cx),X.prog=P->X.w=w->X.K=K->Cp X->∀(i:Nat) (pins:List (Addr×Obj)) (s:Shared) (σ:St) (H:Hp) (E:Value->Shared->Prop),Inv X pins σ H s->(∀b∈fp,FpOk X pins H b)->tn i s.heap->J.stop i H->
  wpAny (model P w) X.A (pyNext (.ref it)) (λr s1=>r=none/\Inv X pins σ H s1) E s
 self:∀(A:Around) (i:Nat) (s:Shared) (Q:Value->Shared->Prop) (E:Value->Shared->Prop),tn i s.heap->Q (.ref it) s->wpAny (model P w) A (pyIter (.ref it)) Q E s
abbrev TI:=St->Hp->(It->Hp->Prop)->Prop
def xZ(Cp:Cx->Prop)(X:Cx)(pins:List (Addr×Obj))(σ:St)(tg:Expr)(R:It->Hp->Prop)(itv:Value)(s2:Shared):Prop:=
 ∃(it:Addr) (fp:List Addr) (tn:Nat->Heap->Prop) (J:It) (H':Hp),itv=.ref it/\Inv X pins σ H' s2/\Turn X.prog X.w X.K tg J fp it tn Cp/\tn 0 s2.heap/\(∀b∈fp,FpOk X pins H' b)/\R J H'
def Os(X:Cx)(pins:List (Addr×Obj))(σ:St)(tg:Expr)(R:It->Hp->Prop)(itv:Value)(s2:Shared):Prop:=
 ∃(it:Addr) (fp:List Addr) (tn:Nat->Heap->Prop) (J:It) (H':Hp),itv=.ref it/\Inv X pins σ H' s2/\Turn X.prog X.w X.K tg J fp it tn/\tn 0 s2.heap/\(∀b∈fp,FpOk X pins H' b)/\R J H'
def PI(X:Cx)(tg iter:Expr)(wi:TI):Prop:=
 ∀(pins:List (Addr×Obj)) (s:Shared) (σ:St) (H:Hp) (R:It->Hp->Prop),Inv X pins σ H s->wi σ H R->
  wpAny (model X.prog X.w) X.A (eval iter X.env) (λv s1=>wpAny (model X.prog X.w) X.A (pyIter v) (Os X pins σ tg R) X.xe s1) X.xe s
def Bb  {n:String} (ho:s.heap.get? it=some o) (hc:o.cls=.type n) (hd:o.data=.fields vs)
    (hn:["enumerate","zip","dict_itemiterator","dict_reverseitemiterator","odict_iterator","itertools.zip_longest","itertools.pairwise"].contains n=false) (hQ:Q () s):wpAny M A (letOwnedTupleGo tg (.ref it) u) Q E s:=by
  unfold letOwnedTupleGo
  cases tg <;> first
    |exact qG hQ
    |(cases u <;> first
        |exact qG hQ
        | (refine qB (wpAny_load ho ?_)
           rw[hc,hd];show wpAny M A (if (["enumerate","zip","dict_itemiterator","dict_reverseitemiterator","odict_iterator","itertools.zip_longest","itertools.pairwise"].contains n && vs[0]? == some (rawInt _))=true then _ else _) Q E s;rw[if_neg (by intro h;rw[hn,Bool.false_and]at h;cases h)];exact qG hQ))
def sU(K:Fg)(a:Addr):It:=
 ⟨λi H=>∃xs x,SqL K H a xs/\xs[i]?=some x,λi H x H'=>H'=H/\∀xs,SqL K H a xs->xs[i]?=some x,λi H=>∃xs,SqL K H a xs/\xs.length<=i⟩
def sR(K:Fg)(a:Addr):It:=
 ⟨λi H=>∃xs x,SqT K H a xs/\xs[i]?=some x,λi H x H'=>H'=H/\∀xs,SqT K H a xs->xs[i]?=some x,λi H=>∃xs,SqT K H a xs/\xs.length<=i⟩
def sS(lo:Int)(n:Nat):It:=⟨λi _=>i<n,λi H x H'=>H'=H/\x=.int (lo+i),λi _=>n<=i⟩
def Yo{P:Program}{w:World}{K:Fg}{tg:Expr}(a it:Addr):Turn P w K tg (sU K a) [it] it (λi h=>h.IsListIter it a i) where
 mem:=by simp
 obj:=λi h st b j=>by
  have e:b=it:=by simpa using j
  subst e;obtain⟨o,e,c,d⟩:=st;exact⟨o,e,λv z=>by rw[d]at z;cases z⟩
 keep:=λi h h' st k=>st.at λo e=>k it (by simp) o e
 item:=by
  intro X Y O hK hc i pins s σ H E I G st U;subst Y O hK;obtain⟨xs,x,y,M⟩:=U;obtain⟨its,J,p,hz⟩:=I.list y;obtain⟨u,hu,ru⟩:=J.get M;obtain⟨f0,f1,f2,f3,f4,f5⟩:=G it (by simp);refine wpAny_pyNext_list_item st p.isList (x:=u) (by simpa using hu) λh' n sb=>?_;have I1:Inv X pins σ H {s with heap:=h'}:=I.turned (t':=s.toks) (λb o j e=>(sb.2 b j).trans e) f0 f1 f3 f4 f5;obtain⟨o,e,c,d⟩:=id n;exact⟨u,Z,Bb (s:={s with heap:=h'}) e c d (aA Z) ⟨x,H,I1,ru,⟨Z,λys hy=>by rw[I.list_inj hy y];exact M⟩,n,λb j=>(G b j).1⟩⟩
 done:=by
  intro X Y O hK hc i pins s σ H E I G st U;subst Y O hK;obtain⟨xs,y,M⟩:=U;obtain⟨its,J,p,hz⟩:=I.list y;obtain⟨f0,f1,f2,f3,f4,f5⟩:=G it (by simp);have hl:=J.length;exact wpAny_pyNext_list_end (I.ok.hd hc) st p.isList (by simp;omega) λh' eb=>⟨Z,I.turned (t':=s.toks) (λb o j e=>eb b o j e) f0 f1 f3 f4 f5⟩
 self:=λ_ _ _ _ _ st h=>wpAny_pyIter_listiter st h
def Yx{P:Program}{w:World}{K:Fg}{tg:Expr}(a it:Addr):Turn P w K tg (sR K a) [it] it (λi h=>h.IsTupleIter it a i) where
 mem:=by simp
 obj:=λi h st b j=>by
  have e:b=it:=by simpa using j
  subst e;obtain⟨o,e,c,d⟩:=st;exact⟨o,e,λv z=>by rw[d]at z;cases z⟩
 keep:=λi h h' st k=>st.at λo e=>k it (by simp) o e
 item:=by
  intro X Y O hK hc i pins s σ H E I G st U;subst Y O hK;obtain⟨xs,x,y,M⟩:=U;obtain⟨its,J,p,hz⟩:=I.tuple y;obtain⟨u,hu,ru⟩:=J.get M;obtain⟨f0,f1,f2,f3,f4,f5⟩:=G it (by simp);refine wpAny_pyNext_tuple_item st (show s.heap.IsTuple a its.toArray from p) (x:=u) (by simpa using hu) λh' n sb=>?_;have I1:Inv X pins σ H {s with heap:=h'}:=I.turned (t':=s.toks) (λb o j e=>(sb.2 b j).trans e) f0 f1 f3 f4 f5;obtain⟨o,e,c,d⟩:=id n;exact⟨u,Z,Bb (s:={s with heap:=h'}) e c d (aA Z) ⟨x,H,I1,ru,⟨Z,λys hy=>by rw[I.tuple_inj hy y];exact M⟩,n,λb j=>(G b j).1⟩⟩
 done:=by
  intro X Y O hK hc i pins s σ H E I G st U;subst Y O hK;obtain⟨xs,y,M⟩:=U;obtain⟨its,J,p,hz⟩:=I.tuple y;obtain⟨f0,f1,f2,f3,f4,f5⟩:=G it (by simp);have hl:=J.length;exact wpAny_pyNext_tuple_end (I.ok.hd hc) st (show s.heap.IsTuple a its.toArray from p) (by simp;omega) λh' eb=>⟨Z,I.turned (t':=s.toks) (λb o j e=>eb b o j e) f0 f1 f3 f4 f5⟩
 self:=λ_ _ _ _ _ st h=>wpAny_pyIter_tupleiter st h
def Yw{P:Program}{w:World}{K:Fg}{tg:Expr}(it:Addr)(lo:Int)(n:Nat):Turn P w K tg (sS lo n) [it] it (λi h=>IsRangeIter h it (lo+(i:Nat)*1) ((n:Int)-(i:Nat)) 1) where
 mem:=by simp
 obj:=λi h st b j=>by
  have e:b=it:=by simpa using j
  subst e
  exact⟨_,st,λv z=>by
   have z':Data.fields _=Data.cell v:=z;cases z'⟩
 keep:=λi h h' st k=>k it (by simp) _ st
 item:=by
  intro X U J Y O i pins s σ H E I G st M;subst U J Y;obtain⟨f0,f1,f2,f3,f4,f5⟩:=G it (by simp);have W:=Walks.range (prog:=X.prog) (w:=X.w) (I.ok.hd O) it lo 1 n;refine W.item i s _ _ M st λv h' tk hv y kk=>?_;obtain⟨t,rfl⟩:=hv;have I1:Inv X pins σ H {s with heap:=h',toks:=tk}:=I.turned (λb o j e=>kk b o (by simpa using j) e) f0 f1 f3 f4 f5;refine⟨_,Z,Bb (s:={s with heap:=h',toks:=tk}) (n:="range_iterator") y Z Z (aA Z) ⟨.int (lo+i),H,I1,⟨t,?_⟩,⟨Z,Z⟩,y,λb j=>(G b j).1⟩⟩;rw[Int.mul_one]
 done:=by
  intro X U J Y O i pins s σ H E I G st M;subst U J Y;obtain⟨f0,f1,f2,f3,f4,f5⟩:=G it (by simp);exact wpAny_pyNext_range_end (I.ok.hd O) st (by have:n<=i:=M;omega) λh' eb=>⟨Z,I.turned (t':=s.toks) (λb o j e=>eb b o j e) f0 f1 f3 f4 f5⟩
 self:=λ_ _ _ _ _ st h=>wpAny_pyIter_rangeiter st h
section
variable {X:Cx}{tg:Expr}
def G5(K:Fg)(tl:TE):TI:=λσ H R=>tl σ H λx H1=>∃a,x=.ref a/\(∃xs,SqL K H1 a xs)/\R (sU K a) H1
def xU(K:Fg)(tl:TE):TI:=λσ H R=>tl σ H λx H1=>∃a,x=.ref a/\(∃xs,SqT K H1 a xs)/\R (sR K a) H1
def Vm{l:Expr}{tl:TE}(G:PE X l tl):PI X tg l (G5 X.K tl):=by
 intro pins s σ H R I h;refine aU (G pins s σ H _ I h) λv i ⟨x,H1,j,n,y⟩=>?_;obtain⟨a,e,⟨xs,z⟩,q⟩:=y;subst e;cases n;obtain⟨its,M,p,hz⟩:=j.list z;refine wpAny_pyIter_list p.isList ?_;refine⟨i.heap.objs.size,[i.heap.objs.size],_,_,H1,Z,j.kept (t':=i.toks) λb o e=>bX _ e,Yo a _,⟨_,qI _ Z,Z,Z⟩,λb J=>?_,q⟩;have e:b=i.heap.objs.size:=by simpa using J
 subst e;exact j.fpOk (qD _) (j.hok.fresh (qD _))
def Rv{l:Expr}{tl:TE}(G:PE X l tl):PI X tg l (xU X.K tl):=by
 intro pins s σ H R I h;refine aU (G pins s σ H _ I h) λv i ⟨x,H1,j,n,y⟩=>?_;obtain⟨a,e,⟨xs,z⟩,q⟩:=y;subst e;cases n;obtain⟨its,M,p,hz⟩:=j.tuple z;refine wpAny_pyIter_tuple (show i.heap.IsTuple a its.toArray from p) ?_;refine⟨i.heap.objs.size,[i.heap.objs.size],_,_,H1,Z,j.kept (t':=i.toks) λb o e=>bX _ e,Yx a _,⟨_,qI _ Z,Z,Z⟩,λb J=>?_,q⟩;have e:b=i.heap.objs.size:=by simpa using J
 subst e;exact j.fpOk (qD _) (j.hok.fresh (qD _))
def Wg {pins:List (Addr×Obj)} {σ:St} {H:Hp} {s:Shared} {R:It->Hp->Prop} {E:Value->Shared->Prop} {lo hi:Int} {t u v:Tok} {tk:Nat} (I:Inv X pins σ H s) (h1:-(2 ^ 62)<=lo) (h2:lo<2 ^ 62) (h3:-(2 ^ 62)<=hi) (h4:hi<2 ^ 62)
  (q:R (sS lo (hi-lo).toNat) H):wpAny (model X.prog X.w) X.A (pyIter (.ref s.heap.objs.size)) (Os X pins σ tg R) E {s with heap:=s.heap.push {cls:=.type "range",data:=.fields #[.int lo t,.int hi u,.int 1 v]},toks:=tk}:=by
 refine wpAny_pyIter_range (IsRange.new ..) (small_one h1 h2 h3 h4) ?_;have I1:Inv X pins σ H {s with heap:=s.heap.push {cls:=.type "range",data:=.fields #[.int lo t,.int hi u,.int 1 v]},toks:=tk}:=I.kept λb o e=>bX _ e
 refine⟨(s.heap.push {cls:=.type "range",data:=.fields #[.int lo t,.int hi u,.int 1 v]}).objs.size,[(s.heap.push {cls:=.type "range",data:=.fields #[.int lo t,.int hi u,.int 1 v]}).objs.size],_,_,H,rfl,
  I1.kept (t':=tk) λb o e=>bX _ e,Yw _ lo (hi-lo).toNat,?_,λb hb=>?_,q⟩
 ·have e1:lo+((0:Nat):Int)*1=lo:=by simp
  have e2:(((hi-lo).toNat:Nat):Int)-((0:Nat):Int)=Builtin.Range.rangeSize lo hi 1:=by rw[rangeSize_one];split <;> omega
  show IsRangeIter _ _ (lo+((0:Nat):Int)*1) ((((hi-lo).toNat:Nat):Int)-((0:Nat):Int)) 1;rw[e1,e2];exact qI _ rfl
 ·have e:b=(s.heap.push {cls:=.type "range",data:=.fields #[.int lo t,.int hi u,.int 1 v]}).objs.size:=by simpa using hb
  subst e;exact I1.fpOk (qD _) (I1.hok.fresh (qD _))
def Pe(ta:TA):TI:=λσ H R=>ta σ H λvs H1=>∃j:Int,vs=[.int j]/\-(2 ^ 62)<=j/\j<2 ^ 62/\R (sS 0 j.toNat) H1
def oO{a:Expr}{ta:TA}{p pos:Pos}(J:Gl X "range")(G:X.mg "range"=none)(M:PA X [a] ta)(hs:starEach [a] X.env=[(false,eval a X.env)]:=by rfl):PI X tg (.Call (.Name "range" p) [a] [] pos) (Pe ta):=by
 intro pins s σ H R I h;refine Call_ (oY I J G boot_range (PyProof.Rows.callWith_type1 (aU (M pos pins s σ H _ I h) λus U ⟨vs,H1,O,y,i⟩=>?_) hs Z));obtain⟨j,e,i,z,q⟩:=i;subst e
 cases y with
 |cons r n=>
  cases n;obtain⟨t,rfl⟩:=r;exact call_range_1 (Wg O (by omega) (by omega) i z (by simpa using q))
def Ef(wi:TI)(g:TG)(tb:TS):TS:=λD σ H=>wi σ H λJ H1=>∃W:Nat->Nat->St->Hp->Prop,(∃m,W 0 m σ H1)/\∀i m σ H,W i m σ H->
 (J.stop i H/\D.nx σ H)\/(J.go i H/\∃N:St->Hp->Prop,(∀σ' H',N σ' H'->∃m',m'<m/\W (i+1) m' σ' H')/\∀x H',J.yld i H x H'->g x σ H' λσ2 H2=>tb {D with nx:=N,ct:=N,bk:=D.nx} σ2 H2)
def wD(fp:List Addr)(h:Heap):List (Addr×Obj):=fp.filterMap λb=>(h.get? b).map λo=>(b,o)
def An(j:b∈i)(e:h.get? b=some o):(b,o)∈wD i h:=List.mem_filterMap.mpr ⟨b,j,by rw[e];rfl⟩
def Xn(j:p∈wD i h):p.1∈i/\h.get? p.1=some p.2:=by
 obtain⟨b,n,e⟩:=List.mem_filterMap.mp j
 cases q:h.get? b with
 |none=>rw[q]at e;cases e
 |some o=>
  rw[q]at e;have y:(b,o)=p:=qK e;subst y;exact⟨n,q⟩
def Inv.pinned{pins:List (Addr×Obj)}{σ:St}{H:Hp}{s:Shared}{i:List Addr}(I:Inv X pins σ H s)(J:∀b∈i,FpOk X pins H b)(G:∀b∈i,∃o,s.heap.get? b=some o/\∀v,o.data≠.cell v):Inv X (pins++wD i s.heap) σ H s:=
 I.pins_of λp y=>(dD y).elim (λz=>I.pin p (zM _ z)) λz=>by
  obtain⟨j,e⟩:=Xn z;obtain⟨U,O,M,_⟩:=J p.1 j;obtain⟨o,n,d⟩:=G p.1 j;rw[e]at n;cases n;exact⟨e,U,O,M,d⟩
def Inv.unpinned{pins pl:List (Addr×Obj)}{σ:St}{H:Hp}{s:Shared}(I:Inv X (pins++pl) σ H s):Inv X pins σ H s:=I.pins_of λp i=>I.pin p (zM _ (zU _ i))
def fM {a0:List Stmt} {pos:Pos} (hp:PassesOwn (model X.prog X.w) X.A X.env X.xe) (hc:X.calm=true) (hi:PI X tg z wi) (hg:PG X tg g) (G:PSs X a0 tb)
  (hs:∀x,foldedSetIterable z X.env x=pure x:=by intro _;rfl):PS X (.For tg z a0 [] pos) (Ef wi g tb):=by
 intro pins s σ H D I h;refine wpAny_For (aU (hi pins s σ H _ I h) λv s1 h1=>aU h1 λa9 s2 h2=>?_) hs;obtain⟨it,fp,tn,J,H2,e,I2,T,a6,f2,W,⟨m0,w0⟩,a2⟩:=h2;subst e;have y:∀{H':Hp},(∀b∈fp,H' b=none)->∀b∈fp,FpOk X pins H' b:=λhn b G=>⟨hn b G,(f2 b G).2⟩;refine codeAny_forLoop_any (λn s'=>∃i σ' H',Inv X pins σ' H' s'/\tn i s'.heap/\(∀b∈fp,H' b=none)/\W i n σ' H') ?_ m0 ⟨0,σ,H2,I2,a6,λb G=>(f2 b G).1,w0⟩;rintro n s3 ⟨i,σ3,H3,I3,a4,a5,w3⟩;rcases a2 i n σ3 H3 w3 with⟨a3,qn⟩ |⟨go,N,hN,step⟩
 ·refine wpAny_passesOwn hp (aU (T.done X Z Z Z hc i pins s3 σ3 H3 X.xe I3 (y a5) a4 a3) λr s4 ⟨hr,I4⟩=>?_)
  subst hr;exact wpAny_execs_nil ⟨σ3,H3,I4,qn⟩
 ·refine wpAny_passesOwn hp (aU (T.item X Z Z Z hc i pins s3 σ3 H3 X.xe I3 (y a5) a4 go) λr s4 ⟨u,hr,h4⟩=>?_)
  subst hr;refine wpAny_passesOwn hp (aU h4 λ_ s5 ⟨x,H5,I5,r5,y5,a1,a7⟩=>?_);have a8:=I5.pinned (y a7) (T.obj _ _ a1);refine wpAny_passesOwn hp (aU (hg _ s5 σ3 H5 x u _ a8 r5 (step x H5 y5)) λ_ s6 ⟨σ6,H6,I6,q6⟩=>?_);refine wpAny_passesOwn hp (aU (G _ s6 σ6 H6 _ I6 q6) λf s7 Y=>?_)
  have M:∀{j:St} {U:Hp},Inv X (pins++wD fp s5.heap) j U s7->N j U->∃m,m<n/\∃i σ' H',Inv X pins σ' H' s7/\tn i s7.heap/\(∀b∈fp,H' b=none)/\W i m σ' H':=λ{j U} O n7=>by
   obtain⟨m',hm,w7⟩:=hN j U n7;refine⟨m',hm,i+1,j,U,O.unpinned,T.keep _ _ _ a1 λb G o e=>(O.pin (b,o) (zM _ (zM _ (An G e)))).1,λb G=>?_,w7⟩;obtain⟨o,e,d⟩:=T.obj _ _ a1 b G;exact(O.pin (b,o) (zM _ (zM _ (An G e)))).2.1
  cases f with
  |next=>obtain⟨j,U,O,n7⟩:=Y;exact M O n7
  |cont=>obtain⟨j,U,O,n7⟩:=Y;exact M O n7
  |brk=>obtain⟨j,U,O,Y⟩:=Y;exact⟨j,U,O.unpinned,Y⟩
  |ret v=>obtain⟨x7,j,U,O,r7,Y⟩:=Y;exact⟨x7,j,U,O.unpinned,r7,Y⟩
end
def Dg {K:Fg} {a:Addr} {xs:List V} {g:TG} {tb:TS} {D:Ends} {σ:St} {H:Hp} (Pv:Nat->St->Hp->Prop) (h0:Pv 0 σ H) (hl:∀i σ H,i<=xs.length->Pv i σ H->SqL K H a xs)
  (hs:∀i x σ H,xs[i]?=some x->Pv i σ H->g x σ H λσ2 H2=>tb {D with nx:=Pv (i+1),ct:=Pv (i+1),bk:=D.nx} σ2 H2) (hd:∀σ H,Pv xs.length σ H->D.nx σ H) :
  ∃W:Nat->Nat->St->Hp->Prop,(∃m,W 0 m σ H)/\∀i m σ H,W i m σ H->
   ((sU K a).stop i H/\D.nx σ H)\/((sU K a).go i H/\∃N:St->Hp->Prop,(∀σ' H',N σ' H'->∃m',m'<m/\W (i+1) m' σ' H')/\∀x H',(sU K a).yld i H x H'->g x σ H' λσ2 H2=>tb {D with nx:=N,ct:=N,bk:=D.nx} σ2 H2):=by
 refine⟨λi m σ H=>m=xs.length-i/\i<=xs.length/\Pv i σ H,⟨xs.length,by simp,qX _,h0⟩,?_⟩;rintro i m σ H ⟨rfl,hi,p⟩;have q:=hl i σ H hi p;by_cases hlt:i<xs.length
 ·refine .inr ⟨⟨xs,xs[i],q,by simp[hlt]⟩,Pv (i+1),λσ' H' p'=>⟨xs.length-(i+1),by omega,rfl,hlt,p'⟩,λx H' y=>?_⟩
  obtain⟨e,y⟩:=y;subst e;exact hs i x σ _ (y xs q) p
 ·have e:i=xs.length:=by omega
  subst e;exact .inl ⟨⟨xs,q,qD _⟩,hd σ H p⟩
def hJ {K:Fg} {a:Addr} {xs:List V} {g:TG} {tb:TS} {D:Ends} {σ:St} {H:Hp} (j:Nat->St->Hp->Prop) (h0:j 0 σ H) (M:∀i σ H,i<=xs.length->j i σ H->SqT K H a xs)
  (hs:∀i x σ H,xs[i]?=some x->j i σ H->g x σ H λz H2=>tb {D with nx:=j (i+1),ct:=j (i+1),bk:=D.nx} z H2) (hd:∀σ H,j xs.length σ H->D.nx σ H) :
  ∃W:Nat->Nat->St->Hp->Prop,(∃m,W 0 m σ H)/\∀i m σ H,W i m σ H->
   ((sR K a).stop i H/\D.nx σ H)\/((sR K a).go i H/\∃N:St->Hp->Prop,(∀G H',N G H'->∃I,I<m/\W (i+1) I G H')/\∀x H',(sR K a).yld i H x H'->g x σ H' λz H2=>tb {D with nx:=N,ct:=N,bk:=D.nx} z H2):=by
 refine⟨λi m σ H=>m=xs.length-i/\i<=xs.length/\j i σ H,⟨xs.length,by simp,qX _,h0⟩,?_⟩;rintro i m σ H ⟨rfl,hi,p⟩;have q:=M i σ H hi p;by_cases n:i<xs.length
 ·refine .inr ⟨⟨xs,xs[i],q,by simp[n]⟩,j (i+1),λG H' J=>⟨xs.length-(i+1),by omega,Z,n,J⟩,λx H' y=>?_⟩
  obtain⟨e,y⟩:=y;subst e;exact hs i x σ _ (y xs q) p
 ·have e:i=xs.length:=by omega
  subst e;exact .inl ⟨⟨xs,q,qD _⟩,hd σ H p⟩
def vM {lo:Int} {n:Nat} {g:TG} {tb:TS} {D:Ends} {σ:St} {H:Hp} (z:Nat->St->Hp->Prop) (h0:z 0 σ H)
  (hs:∀i σ H,i<n->z i σ H->g (.int (lo+i)) σ H λG H2=>tb {D with nx:=z (i+1),ct:=z (i+1),bk:=D.nx} G H2) (hd:∀σ H,z n σ H->D.nx σ H) :
  ∃W:Nat->Nat->St->Hp->Prop,(∃m,W 0 m σ H)/\∀i m σ H,W i m σ H->
   ((sS lo n).stop i H/\D.nx σ H)\/((sS lo n).go i H/\∃N:St->Hp->Prop,(∀I H',N I H'->∃J,J<m/\W (i+1) J I H')/\∀x H',(sS lo n).yld i H x H'->g x σ H' λG H2=>tb {D with nx:=N,ct:=N,bk:=D.nx} G H2):=by
 refine⟨λi m σ H=>m=n-i/\i<=n/\z i σ H,⟨n,by simp,qX _,h0⟩,?_⟩;rintro i m σ H ⟨rfl,hi,p⟩;by_cases j:i<n
 ·refine .inr ⟨j,z (i+1),λI H' M=>⟨n-(i+1),by omega,Z,j,M⟩,λx H' y=>?_⟩
  obtain⟨e,y⟩:=y;subst e y;exact hs i σ _ j p
 ·have e:i=n:=by omega
  subst e;exact .inl ⟨qD _,hd σ H p⟩
abbrev R2:=V->V->Hp->VK->Prop
def fC(X:Cx)(f:Value->Value->Sem Value)(r:R2):Prop:=
 ∀(pins:List (Addr×Obj)) (s:Shared) (σ:St) (H:Hp) (x y:V) (v u:Value) (Q:VK),Inv X pins σ H s->RelV x v->RelV y u->r x y H Q->
  wpAny (model X.prog X.w) X.A (f v u) (EP X pins σ Q) X.xe s
def Fn(X:Cx)(f:Value->Sem Value)(r:V->Hp->VK->Prop):Prop:=
 ∀(pins:List (Addr×Obj)) (s:Shared) (σ:St) (H:Hp) (x:V) (v:Value) (Q:VK),Inv X pins σ H s->RelV x v->r x H Q->
  wpAny (model X.prog X.w) X.A (f v) (EP X pins σ Q) X.xe s
def lJ(X:Cx)(f:Value)(r:List V->Hp->VK->Prop):Prop:=
 ∀(pins:List (Addr×Obj)) (s:Shared) (σ:St) (H:Hp) (xs:List V) (us:List Value) (Q:VK),Inv X pins σ H s->Vals xs us->r xs H Q->
  wpAny (model X.prog X.w) X.A (call f us) (EP X pins σ Q) X.xe s
def vO(r:R2)(ta tb:TE):TE:=λσ H Q=>ta σ H λx H1=>tb σ H1 λy H2=>r x y H2 Q
def tUn(r:V->Hp->VK->Prop)(ta:TE):TE:=λσ H Q=>ta σ H λx H1=>r x H1 Q
def rI(C:Int->Int->Prop)(g:Int->Int->V):R2:=λx y H Q=>∃i j,x=.int i/\y=.int j/\C i j/\Q (g i j) H
def qR(g:Int->Int->V):R2:=λx y H Q=>∃i j,x=.int i/\y=.int j/\Q (g i j) H
def rU(g:Int->V):V->Hp->VK->Prop:=λx H Q=>∃i,x=.int i/\Q (g i) H
section
variable {X:Cx}{a b c:Expr}{ta tb tc:TE}{pos:Pos}
def sJ (ha:PE X a ta) (Y:PE X b tb) {pins:List (Addr×Obj)} {s:Shared} {σ:St} {H:Hp} {R:V->V->Hp->Prop} (I:Inv X pins σ H s)
  (h:ta σ H λx H1=>tb σ H1 λy H2=>R x y H2) {Q:Value->Shared->Prop} {f:Value->Value->Sem Value}
  (U:∀v u i x y H2,Inv X pins σ H2 i->RelV x v->RelV y u->R x y H2->wpAny (model X.prog X.w) X.A (f v u) Q X.xe i) :
  wpAny (model X.prog X.w) X.A (eval a X.env) (λv n=>wpAny (model X.prog X.w) X.A (eval b X.env) (λu j=>wpAny (model X.prog X.w) X.A (f v u) Q X.xe j) X.xe n) X.xe s:=by
 refine aU (ha pins s σ H _ I h) λv z ⟨x,H1,I1,J,O⟩=>?_;refine aU (Y pins z σ H1 _ I1 O) λu i ⟨y,H2,I2,G,M⟩=>?_;exact U v u i x y H2 I2 J G M
def aN(z:fC X (binaryOp op) r)(J:PE X a ta)(G:PE X b tb):PE X (.BinOp a op b pos) (vO r ta tb):=by
 intro pins s σ H Q I h;exact wpAny_BinOp (sJ J G I h λv u i x y H2 M n j q=>z pins i σ H2 x y v u Q M n j q)
def yP(y:Fn X (unaryOp op) r)(z:PE X a ta):PE X (.UnaryOp op a pos) (tUn r ta):=by
 intro pins s σ H Q I h;exact UnaryOp_ (aU (z pins s σ H _ I h) λv i ⟨x,H1,G,j,n⟩=>y pins i σ H1 x v Q G j n)
def Ay {f:Value->Value->Sem Value} {C:Int->Int->Prop} {g:Int->Int->Int}
  (n:∀(i j:Int) (t u:Tok) (s:Shared) (Q:Value->Shared->Prop) (E:Value->Shared->Prop),C i j->Q (.int (g i j) s.toks) {s with toks:=s.toks+1}->wpAny (model X.prog X.w) X.A (f (.int i t) (.int j u)) Q E s) :
  fC X f (rI C λi j=>.int (g i j)):=by
 intro pins s σ H x y v u Q I G z h;obtain⟨i,j,rfl,rfl,J,q⟩:=h;obtain⟨t,rfl⟩:=G;obtain⟨t',rfl⟩:=z;exact n i j t t' s _ _ J ⟨.int (g i j),H,I.tok _,⟨_,Z⟩,q⟩
def xT {f:Value->Value->Sem Value} {g:Int->Int->Int}
  (n:∀(i j:Int) (t u:Tok) (s:Shared) (Q:Value->Shared->Prop) (E:Value->Shared->Prop),Q (.int (g i j) s.toks) {s with toks:=s.toks+1}->wpAny (model X.prog X.w) X.A (f (.int i t) (.int j u)) Q E s) :
  fC X f (qR λi j=>.int (g i j)):=by
 intro pins s σ H x y v u Q I G z h;obtain⟨i,j,rfl,rfl,q⟩:=h;obtain⟨t,rfl⟩:=G;obtain⟨t',rfl⟩:=z;exact n i j t t' s _ _ ⟨.int (g i j),H,I.tok _,⟨_,Z⟩,q⟩
def pJ {f:Value->Value->Sem Value} {g:Int->Int->Bool}
  (n:∀(i j:Int) (t u:Tok) (s:Shared) (Q:Value->Shared->Prop) (E:Value->Shared->Prop),Q (.bool (g i j)) s->wpAny (model X.prog X.w) X.A (f (.int i t) (.int j u)) Q E s) :
  fC X f (qR λi j=>.bl (g i j)):=by
 intro pins s σ H x y v u Q I G z h;obtain⟨i,j,rfl,rfl,q⟩:=h;obtain⟨t,rfl⟩:=G;obtain⟨t',rfl⟩:=z;exact n i j t t' s _ _ ⟨.bl (g i j),H,I,Z,q⟩
def Fu(i j:Int):Prop:=0<=j/\j<=1000000/\i.natAbs<2 ^ 64
def CMul(i j:Int):Prop:=(-(2 ^ 64)<i/\i<2 ^ 64)\/(-(2 ^ 64)<j/\j<2 ^ 64)
theorem CMul.ok(h:CMul i j):IntMulOk i j:=by
 rcases h with⟨h1,h2⟩ |⟨h1,h2⟩
 ·exact .of_left (intBits_le_64 h1 h2)
 ·exact .of_right (intBits_le_64 h1 h2)
def eY:fC X (binaryOp .Add) (qR λi j=>.int (i+j)):=xT λ_ _ _ _ _ _ _ q=>add_int q
def pU:fC X (binaryOp .Sub) (qR λi j=>.int (i-j)):=xT λ_ _ _ _ _ _ _ q=>sub_int q
def nW:fC X (binaryOp .Mult) (rI CMul λi j=>.int (i*j)):=Ay λ_ _ _ _ _ _ _ n q=>mul_int q n.ok
def iV:fC X (binaryOp .Mod) (rI (λ_ j=>0<j) λi j=>.int (i%j)):=Ay λi j _ _ _ _ _ hc q=>by
 have h1:(0:Int)<j:=hc;exact mod_int' (by omega) (by rw[Int.fmod_eq_emod_of_nonneg i (by omega)];exact q)
def rJ:fC X (binaryOp .Pow) (rI Fu λi j=>.int (i ^ j.toNat)):=Ay λ_ _ _ _ _ _ _ n q=>pow_int_small n.1 n.2.1 n.2.2 q
def unI {f:Value->Sem Value} {g:Int->Int}
  (j:∀(i:Int) (t:Tok) (s:Shared) (Q:Value->Shared->Prop) (E:Value->Shared->Prop),Q (.int (g i) s.toks) {s with toks:=s.toks+1}->wpAny (model X.prog X.w) X.A (f (.int i t)) Q E s) :
  Fn X f (rU λi=>.int (g i)):=by
 intro pins s σ H x v Q I n h;obtain⟨i,rfl,q⟩:=h;obtain⟨t,rfl⟩:=n;exact j i t s _ _ ⟨.int (g i),H,I.tok _,⟨_,Z⟩,q⟩
def zY:Fn X (unaryOp .USub) (rU λi=>.int (-i)):=unI λ_ _ _ _ _ q=>neg_int q
end
def xR:V->V->Bool
 |.non,.non=>true |.non,.int _=>true |.int _,.non=>true |.non,.bl _=>true |.bl _,.non=>true |.non,.str _=>true |.str _,.non=>true
 |.int _,.int _=>true |.bl _,.bl _=>true |.str _,.str _=>true |.byt _,.byt _=>true
 |.int _,.str _=>true |.str _,.int _=>true |.bl _,.str _=>true |.str _,.bl _=>true
 |_,_=>false
def rEq:R2:=λx y H Q=>xR x y=true/\Q (.bl (decide (x=y))) H
def rNe:R2:=λx y H Q=>xR x y=true/\Q (.bl (!decide (x=y))) H
def Jf:decide (V.int i=V.int j)=(i == j):=by
 rw[Bool.eq_iff_iff];simp
def Hj:decide (V.bl i=V.bl j)=(i == j):=by
 rw[Bool.eq_iff_iff];simp
def Jg:decide (V.str i=V.str j)=(i == j):=by
 rw[Bool.eq_iff_iff];simp
def Je:decide (V.byt i=V.byt j)=(i.toList == j.toList):=by
 rw[Bool.eq_iff_iff];cases i;cases j;simp
section
variable {X:Cx}{a b c:Expr}{ta tb tc:TE}{pos:Pos}
def fF{pins:List (Addr×Obj)}{σ:St}{H:Hp}{s:Shared}{Q:VK}{k k':Bool}(I:Inv X pins σ H s)(q:Q (.bl k) H)(e:k=k'):EP X pins σ Q (.bool k') s:=by
 subst e;exact⟨.bl k,H,I,Z,q⟩
def bY:fC X (compareOp .Eq) rEq:=by
 intro pins s σ H x y v u Q I z n h;obtain⟨hs,q⟩:=h
 cases x with
 |non=>
  cases z
  cases y with
  |non=>cases n;exact PySem.EqNone.eq_none_none (fF I q (by simp))
  |bl j=>cases n;exact PySem.EqNone.eq_none_bool (fF I q (by simp))
  |int j=>obtain⟨t',rfl⟩:=n;exact PySem.EqNone.eq_none_int (fF I q (by simp))
  |str j=>obtain⟨t',rfl⟩:=n;exact PySem.EqNone.eq_none_str (fF I q (by simp))
  |_=>exact absurd (show false=true from hs) qJ
 |bl i=>
  cases z
  cases y with
  |non=>cases n;exact PySem.EqNone.eq_bool_none (fF I q (by simp))
  |bl j=>cases n;exact eq_bool (fF I q Hj)
  |str j=>obtain⟨t',rfl⟩:=n;exact PySem.EqMixed.eq_bool_str (fF I q (by simp))
  |_=>exact absurd (show false=true from hs) qJ
 |int i=>
  obtain⟨t,rfl⟩:=z
  cases y with
  |non=>cases n;exact PySem.EqNone.eq_int_none (fF I q (by simp))
  |int j=>obtain⟨t',rfl⟩:=n;exact eq_int (fF I q Jf)
  |str j=>obtain⟨t',rfl⟩:=n;exact PySem.EqMixed.eq_int_str (fF I q (by simp))
  |_=>exact absurd (show false=true from hs) qJ
 |str i=>
  obtain⟨t,rfl⟩:=z
  cases y with
  |non=>cases n;exact PySem.EqNone.eq_str_none (fF I q (by simp))
  |bl j=>cases n;exact PySem.EqMixed.eq_str_bool (fF I q (by simp))
  |int j=>obtain⟨t',rfl⟩:=n;exact PySem.EqMixed.eq_str_int (fF I q (by simp))
  |str j=>obtain⟨t',rfl⟩:=n;exact eq_str (fF I q Jg)
  |_=>exact absurd (show false=true from hs) qJ
 |byt i=>
  obtain⟨t,rfl⟩:=z
  cases y with
  |byt j=>obtain⟨t',rfl⟩:=n;exact PySem.W.eq_bytes (fF I q Je)
  |_=>exact absurd (show false=true from hs) qJ
 |_=>cases y <;> exact absurd (show false=true from hs) qJ
def mM:fC X (compareOp .NotEq) rNe:=by
 intro pins s σ H x y v u Q I z n h;obtain⟨hs,q⟩:=h
 cases x with
 |non=>
  cases z
  cases y with
  |non=>cases n;exact PySem.EqNone.ne_none_none (fF I q (by simp))
  |bl j=>cases n;exact PySem.EqNone.ne_none_bool (fF I q (by simp))
  |int j=>obtain⟨t',rfl⟩:=n;exact PySem.EqNone.ne_none_int (fF I q (by simp))
  |str j=>obtain⟨t',rfl⟩:=n;exact PySem.EqNone.ne_none_str (fF I q (by simp))
  |_=>exact absurd (show false=true from hs) qJ
 |bl i=>
  cases z
  cases y with
  |non=>cases n;exact PySem.EqNone.ne_bool_none (fF I q (by simp))
  |bl j=>cases n;exact ne_bool (fF I q (congrArg not Hj))
  |str j=>obtain⟨t',rfl⟩:=n;exact PySem.EqMixed.ne_bool_str (fF I q (by simp))
  |_=>exact absurd (show false=true from hs) qJ
 |int i=>
  obtain⟨t,rfl⟩:=z
  cases y with
  |non=>cases n;exact PySem.EqNone.ne_int_none (fF I q (by simp))
  |int j=>obtain⟨t',rfl⟩:=n;exact ne_int (fF I q (congrArg not Jf))
  |str j=>obtain⟨t',rfl⟩:=n;exact PySem.EqMixed.ne_int_str (fF I q (by simp))
  |_=>exact absurd (show false=true from hs) qJ
 |str i=>
  obtain⟨t,rfl⟩:=z
  cases y with
  |non=>cases n;exact PySem.EqNone.ne_str_none (fF I q (by simp))
  |bl j=>cases n;exact PySem.EqMixed.ne_str_bool (fF I q (by simp))
  |int j=>obtain⟨t',rfl⟩:=n;exact PySem.EqMixed.ne_str_int (fF I q (by simp))
  |str j=>obtain⟨t',rfl⟩:=n;exact ne_str (fF I q (congrArg not Jg))
  |_=>exact absurd (show false=true from hs) qJ
 |byt i=>
  obtain⟨t,rfl⟩:=z
  cases y with
  |byt j=>obtain⟨t',rfl⟩:=n;exact PySem.W.ne_bytes (fF I q (congrArg not Je))
  |_=>exact absurd (show false=true from hs) qJ
 |_=>cases y <;> exact absurd (show false=true from hs) qJ
def mR:fC X (compareOp .Lt) (qR λi j=>.bl (decide (i<j))):=pJ λ_ _ _ _ _ _ _ q=>lt_int q
def Pj:fC X (compareOp .LtE) (qR λi j=>.bl (decide (i<=j))):=pJ λ_ _ _ _ _ _ _ q=>le_int q
def lK:fC X (compareOp .Gt) (qR λi j=>.bl (decide (j<i))):=pJ λ_ _ _ _ _ _ _ q=>gt_int q
def Gx:fC X (compareOp .GtE) (qR λi j=>.bl (decide (j<=i))):=pJ λ_ _ _ _ _ _ _ q=>ge_int q
def wC:fC X (compareOp .Is) (λx y H Q=>y=.non/\Q (.bl (decide (x=.non))) H):=by
 intro pins s σ H x y v u Q I rx ry h;obtain⟨rfl,q⟩:=h;cases ry;refine is_none_gen (fF I q ?_)
 cases x <;> first
  |(cases rx;rfl)
  |(obtain⟨t,rfl⟩:=rx;rfl)
def Uk:fC X (compareOp .IsNot) (λx y H Q=>y=.non/\Q (.bl (!decide (x=.non))) H):=by
 intro pins s σ H x y v u Q I i j h;obtain⟨rfl,q⟩:=h;cases j;refine isnot_none_gen (fF I q ?_)
 cases x <;> first
  |(cases i;rfl)
  |(obtain⟨t,rfl⟩:=i;rfl)
def nM(b:Expr)(h:op≠.In:=by decide)(h2:op≠.NotIn:=by decide):behindInMarks op b=false:=by
 have j:(op == CmpOp.In)=false:=by cases op <;> first |rfl |exact absurd Z h
 have i:(op == CmpOp.NotIn)=false:=by cases op <;> first |rfl |exact absurd Z h2
 cases b <;> simp[behindInMarks,j,i]
def rO(ho:fC X (compareOp op) r)(ha:PE X a ta)(hb:PE X b tb)(hm:behindInMarks op b=false):PE X (.Compare a [op] [b] pos) (vO r ta tb):=by
 intro pins s σ H Q I h;exact wpAny_Compare1 (sJ ha hb I h λv u s2 x y H2 I2 rx ry q=>ho pins s2 σ H2 x y v u Q I2 rx ry q) hm
def Hb(t:TE):TT:=λσ H Q=>t σ H λx H'=>∃k,x=.bl k/\Q k H'
def pR(Y:fC X (compareOp op) r)(ha:PE X a ta)(hb:PE X b tb)(hm:behindInMarks op b=false):PT X (.Compare a [op] [b] pos) (Hb (vO r ta tb)):=by
 intro pins s σ H Q I h
 refine wpAny_isTrue_Compare1 (aU (ha pins s σ H _ I h) λv j ⟨x,H1,I1,J,U⟩=>aU (hb pins j σ H1 _ I1 U) λu i ⟨y,H2,I2,G,O⟩=>
  aU (Y pins i σ H2 x y v u _ I2 J G O) λc s3 ⟨z,H3,I3,n,k,e,M⟩=>?_) hm
 subst e;cases n;exact wpAny_truthy_bool ⟨H3,I3,M⟩
def To(r r':R2)(ta tb tc:TE):TE:=λσ H Q=>ta σ H λx H1=>tb σ H1 λy H2=>r x y H2 λz H3=>∃k,z=.bl k ∧
 (if k=true then tc σ H3 λw' H4=>r' y w' H4 Q else Q (.bl false) H3)
def We {op i:CmpOp} {r G:R2} (ho:fC X (compareOp op) r) (j:fC X (compareOp i) G) (ha:PE X a ta) (hb:PE X b tb) (hc:PE X c tc)
  (hm:lastMarks [op,i] [b,c]=false:=by with_unfolding_all rfl):PT X (.Compare a [op,i] [b,c] pos) (Hb (To r G ta tb tc)):=by
 intro pins s σ H Q I h
 refine isTrue_chain (aU (ha pins s σ H _ I h) λv s1 ⟨x,H1,I1,r1,q1⟩=>test_link (aU (hb pins s1 σ H1 _ I1 q1) λu s2 ⟨y,H2,I2,n,q2⟩=>
  aU (ho pins s2 σ H2 x y v u _ I2 r1 n q2) λd s3 ⟨z,O,M,r3,k,e,J⟩=>?_)) hm
 subst e;cases r3;refine wpAny_truthy_bool ?_
 cases k with
 |false=>
  obtain⟨k',e',q'⟩:=J;cases e';exact ite_ff ⟨O,M,q'⟩
 |true=>
  refine ite_tt (test_last (aU (hc pins s3 σ O _ M J) λY s4 ⟨U,H4,I4,r4,q4⟩=>aU (j pins s4 σ H4 y U u Y _ I4 n r4 q4) λd' s5 ⟨z2,H5,I5,r5,k2,e2,q5⟩=>?_));subst e2;cases r5;exact wpAny_truthy_bool ⟨H5,I5,q5⟩
def wB:(sizeLine:Nat)<2 ^ 63:=by rw[sizeLine_eq];decide
def E1:fC X (binaryOp .Add) (λx y H Q=>∃i j,x=.str i/\y=.str j/\i.length+j.length<=sizeLine/\Q (.str (i++j)) H):=by
 intro pins s σ H x y v u Q I z n h;obtain⟨i,j,rfl,rfl,hz,q⟩:=h;obtain⟨t,rfl⟩:=z;obtain⟨t',rfl⟩:=n;exact add_str (λt' tk=>⟨.str (i++j),H,I.tok _,⟨_,Z⟩,q⟩) hz
def nU(r:Vals [x] us):∃u,us=[u]/\RelV x u:=by
 cases r with
 |cons j i=>cases i;exact⟨_,Z,j⟩
def Gz(r:Vals [x,y] us):∃u i,us=[u,i]/\RelV x u/\RelV y i:=by
 cases r with
 |cons G z=>
  cases z with
  |cons n j=>cases j;exact⟨_,_,Z,G,n⟩
def X2(y:X.calm=true):lJ X (.builtin "max") (λxs H Q=>∃i j,xs=[.int i,.int j]/\Q (.int (if j > i then j else i)) H):=by
 intro pins s σ H xs us Q I r h;obtain⟨i,j,rfl,q⟩:=h;obtain⟨u,z,rfl,⟨t,rfl⟩,⟨t',rfl⟩⟩:=Gz r;refine max_two_ints (I.ok.hd y) λh' tk k=>⟨_,H,I.kept k,?_,q⟩;by_cases n:j > i
 ·rw[if_pos n,if_pos n];exact⟨_,Z⟩
 ·rw[if_neg n,if_neg n];exact⟨_,Z⟩
def X3(y:X.calm=true):lJ X (.builtin "min") (λxs H Q=>∃i j,xs=[.int i,.int j]/\Q (.int (if j<i then j else i)) H):=by
 intro pins s σ H xs us Q I r h;obtain⟨i,j,rfl,q⟩:=h;obtain⟨u,z,rfl,⟨t,rfl⟩,⟨t',rfl⟩⟩:=Gz r;refine min_two_ints (I.ok.hd y) λh' tk k=>⟨_,H,I.kept k,?_,q⟩;by_cases n:j<i
 ·rw[if_pos n,if_pos n];exact⟨_,Z⟩
 ·rw[if_neg n,if_neg n];exact⟨_,Z⟩
def Dp:lJ X (.type "int") (λxs H Q=>(∃i,xs=[.int i]/\Q (.int i) H)\/∃k,xs=[.bl k]/\Q (.int (if k then 1 else 0)) H):=by
 intro pins s σ H xs us Q I r h;rcases h with⟨i,rfl,q⟩ |⟨k,rfl,q⟩
 ·obtain⟨u,rfl,t,rfl⟩:=nU r
  exact call_int_int ⟨.int i,H,I,⟨_,Z⟩,q⟩
 ·obtain⟨u,rfl,j⟩:=nU r
  cases j;exact call_int_bool ⟨.int (if k then 1 else 0),H,I.tok _,⟨_,Z⟩,q⟩
end
def Xg{h:Heap}{dx:Addr}{mA:Str->Option Value}(n:h.Ns1 dx mA):∃od,h.get? dx=some od/\∀name,PySem.W.lookIn name od=some (mA name):=by
 obtain⟨o,es,ep,G,hd,J,_,I⟩:=n;refine⟨o,G,λname=>?_⟩;have e:=I name;unfold nsFind findBy at e;rw[<- Array.find?_toList]at e;unfold PySem.W.lookIn;rw[hd];dsimp only;split
 ·rename_i y q
  rw[q]at e;exact congrArg some e
 ·rename_i q
  rw[q]at e
  have a:es.toList.any (·.refKey)=false:=by
   rw[List.any_eq_false];intro y j;obtain⟨z,t,i⟩:=J y (Array.mem_toList_iff.mp j);simp[DictEntry.refKey,i]
  have M:¬es.toList.any (·.refKey)=true:=by rw[a];exact qJ
  rw[if_neg M];exact congrArg some e
theorem RelO.some_of(r:RelO (some v) o):∃u,o=some u/\RelV v u:=by
 cases o with
 |none=>exact(show False from r).elim
 |some u=>exact⟨u,Z,r⟩
structure Room(k:Nat)(A:Around):Prop where
 hd:(A.handled,A.guards)=(none,some [])
 dp:A.depth+3*k+5<recursionLimit
 un:A.units+16*k+200<cLine
theorem Room.mono{j k:Nat}(r:Room k A)(h:j<=k):Room j A:=⟨r.hd,by have:=r.dp;omega,by have:=r.un;omega⟩
theorem Room.deeper{k:Nat}(r:Room (k+1) A)(env:Env):Room k (A.deeper env):=
 ⟨r.hd,by have:=r.dp;show A.depth+1+3*k+5<_;omega,by have:=r.un;show A.units+3+16*k+200<_;omega⟩
theorem Room.depth{k:Nat}(r:Room k A):A.depth<recursionLimit:=by have:=r.dp;omega
theorem Room.units{k:Nat}(r:Room k A):A.units+64<cLine:=by have:=r.un;omega
def xP:TA:=λ_ H Q=>Q [] H
def Bj(ta:TE)(tr:TA):TA:=λσ H Q=>ta σ H λx H1=>tr σ H1 λxs H2=>Q (x::xs) H2
section
variable {X:Cx}{e:Expr}{es:List Expr}{te:TE}{t:TA}{pos:Pos}
def pN:PA X [] xP:=λ_ _ _ _ H Q I h=>Calls.spliced_nil ⟨[],H,I,.nil,h⟩
def pc(J:PE X e te)(G:PA X es t)(hs:starEach (e::es) X.env=(false,eval e X.env)::starEach es X.env:=by rfl):PA X (e::es) (Bj te t):=by
 intro pos pins s σ H Q I h;rw[hs];show wpAny _ _ (spliced ((false,eval e X.env)::backTo pos (starEach es X.env))) _ _ s;refine Calls.spliced_cons (aU (J pins s σ H _ I h) λu i ⟨x,H1,O,n,z⟩=>?_);exact aU (G pos pins i σ H1 _ O z) λus U ⟨xs,H2,M,j,y⟩=>⟨x::xs,H2,M,.cons n j,y⟩
def Ea(t:TA):TE:=λσ H Q=>t σ H λxs H1=>xs.length<=sizeLine/\∀p,H1 p=none->Q (.ref p) (upd H1 p (.tup xs))
def Ed(t:TA):TE:=λσ H Q=>t σ H λxs H1=>xs.length<=sizeLine/\∀p,H1 p=none->Q (.ref p) (upd H1 p (.lst xs))
def aH{x1}(h:PA X es t):PE X (.Tuple es x1 pos) (Ea t):=by
 intro pins s σ H Q I n;refine wpAny_Tuple_spliced (aU (h pos pins s σ H _ I n) λus i ⟨xs,H1,j,r,z,q⟩=>⟨by rw[<- r.length];exact z,?_⟩);have y:H1 i.heap.objs.size=none:=j.hok.fresh (qD _);refine⟨.ref i.heap.objs.size,upd H1 i.heap.objs.size (.tup xs),j.laid (t':=i.toks) (λb u e=>bX _ e) (qD _) ?_,Z,q _ y⟩;exact⟨z,us,r,⟨_,qI _ Z,Z,_,Z,Z⟩⟩
def fU(h:PA X es t):PE X (.List es pos) (Ed t):=by
 intro pins s σ H Q I n;refine wpAny_List_spliced (aU (h pos pins s σ H _ I n) λus i ⟨xs,H1,j,r,z,q⟩=>⟨by rw[<- r.length];exact z,?_⟩);have y:H1 i.heap.objs.size=none:=j.hok.fresh (qD _);refine⟨.ref i.heap.objs.size,upd H1 i.heap.objs.size (.lst xs),j.laid (t':=i.toks) (λb u e=>bX _ e) (qD _) ?_,Z,q _ y⟩;exact⟨z,us,0,r,qI _ Z⟩
end
abbrev Sp:=List V->Hp->VK->XK->Prop
abbrev lZ:=List Env->Hp->Shared->XK->Value->Shared->Prop
structure Env0(P:Program)(w:World)(K:Fg)(mg:Str->Option Value)(base:Heap)(A:Around)(outer:List Env)(s:Shared)(H:Hp):Prop where
 frames:A.frames=some outer
 mod:Mod K mg base
 bs:∀b o,base.get? b=some o->s.heap.get? b=some o/\H b=none
 bsz:base.objs.size<=s.heap.objs.size
 funs:s.heap.FunFrames base outer
 frf:∀b∈gL outer,H b=none
 hok:HOk P w H s.heap
 bare:AllBare s.gens
def CE(outer:List Env)(P:Program)(w:World)(H:Hp)(s:Shared)(Q:VK)(u:Value)(s':Shared):Prop:=
 ∃v H',s'.os=s.os/\AllBare s'.gens/\Un (gL outer) [] H H' s.heap s'.heap/\HOk P w H' s'.heap/\RelV v u/\Q v H'
def CR(CX:lZ)(outer:List Env)(P:Program)(w:World)(H:Hp)(s:Shared)(Q:VK)(E:XK)(r:Result)(s':Shared):Prop:=
 match r with
 |.ok (.ret u)=>CE outer P w H s Q u s'
 |.ok _=>False
 |.error e=>CX outer H s E e s'
structure FnOk(P:Program)(w:World)(K:Fg)(mg:Str->Option Value)(base:Heap)(CX:lZ)(k:Nat)(f:Addr)(fd:FuncData)(ps:List Str)(sp:Sp):Prop where
 len:∀vs H Q E,sp vs H Q E->vs.length=ps.length
 run:∀(A:Around) (outer:List Env) (s:Shared) (H:Hp) (args:Args) (us:List Value) (vs:List V) (Q:VK) (E:XK),Room k A->Env0 P w K mg base A outer s H->BindsTo s fd args (ps.zip us)->Vals vs us->sp vs H Q E->
  codeAny (model P w) A (.call (.ref f) args) (CR CX outer P w H s Q E) s
theorem FnOk.mono {P:Program} {w:World} {K:Fg} {mg:Str->Option Value} {base:Heap} {CX:lZ} {j k:Nat} {f:Addr} {fd:FuncData} {ps:List Str} {sp:Sp} (F:FnOk P w K mg base CX j f fd ps sp) (h:j<=k) :
  FnOk P w K mg base CX k f fd ps sp:=⟨F.len,λA outer s H args us vs Q E i=>F.run A outer s H args us vs Q E (i.mono h)⟩
def FnOk.imp {P:Program} {w:World} {K:Fg} {mg:Str->Option Value} {base:Heap} {CX:lZ} {k:Nat} {f:Addr} {fd:FuncData} {ps:List Str} {sp sp':Sp} (F:FnOk P w K mg base CX k f fd ps sp)
  (h:∀vs H Q E,sp' vs H Q E->sp vs H Q E):FnOk P w K mg base CX k f fd ps sp':=
 ⟨λvs H Q E q=>F.len vs H Q E (h _ _ _ _ q),λA outer s H args us vs Q E hr he hb hv hs=>F.run A outer s H args us vs Q E hr he hb hv (h _ _ _ _ hs)⟩
section
variable {X:Cx}{pins:List (Addr×Obj)}{σ:St}{H:Hp}{s s':Shared}
def Inv.env0(I:Inv X pins σ H s):Env0 X.prog X.w X.K X.mg X.base X.A X.stack s H:=
 ⟨I.ok.frames,I.ok.mod,I.bs,qC I.ok.bsz I.sz,I.stack,I.stkFree,I.hok,I.bare⟩
def Inv.after(I:Inv X pins σ H s)(h:CE X.stack X.prog X.w H s Q u s'):EP X pins σ Q u s':=by
 obtain⟨v,H',os,bare,un,hok,r,q⟩:=h;obtain⟨hh,g,d,t,os'⟩:=s';obtain rfl:os'=s.os:=os;exact⟨v,H',I.call (h':=hh) (g':=g) (d':=d) (t':=t) (ch:=[]) un hok bare (λb z=>absurd z (by simp)),r,q⟩
end
def Gv(sp:Sp)(dvs:List V)(E:XK)(t:TA):TE:=λσ H Q=>t σ H λvs H1=>sp (vs++dvs) H1 Q E
def Binds(K:Fg)(fd:FuncData)(ps:List Str)(ds:List Value):Prop:=
 ∀(s:Shared) (us:List Value),K.In s.heap->(us++ds).length=ps.length->BindsTo s fd ⟨us,[]⟩ (ps.zip (us++ds))
def Binds.all{K:Fg}{fd:FuncData}{ps:List Str}(h:∀us:List Value,us.length=ps.length->bindArgs fd ⟨us,[]⟩=pure (ps.zip us)):Binds K fd ps []:=λs us _ hl=>by
 rw[List.append_nil]at hl⊢;exact .of_eq (h us hl)
def Bu(CX:lZ)(X:Cx)(E:XK):Prop:=∀(pins:List (Addr×Obj)) (σ:St) (H:Hp) (s:Shared) (e:Value) (s':Shared),Inv X pins σ H s->CX X.stack H s E e s'->X.xe e s'
section
variable {X:Cx}{CX:lZ}{k:Nat}{f C:Addr}{fd:FuncData}{ps:List Str}{sp:Sp}{dvs:List V}{ds:List Value}{E:XK}{x m:Str}{p pos apos:Pos}{e o:Expr}{es:List Expr}{ta:TE}{t:TA}
def Sb {pins:List (Addr×Obj)} {σ:St} {H:Hp} {s:Shared} {Q:VK} {us:List Value} {vs:List V} (F:FnOk X.prog X.w X.K X.mg X.base CX k f fd ps sp) (hr:Room k X.A) (hb:Binds X.K fd ps ds) (hd:Vals dvs ds) (hx:Bu CX X E)
  (I:Inv X pins σ H s) (r:Vals vs us) (h:sp (vs++dvs) H Q E):wpAny (model X.prog X.w) X.A (call (.ref f) us) (EP X pins σ Q) X.xe s:=by
 have r2:Vals (vs++dvs) (us++ds):=r.append hd;have hl:(us++ds).length=ps.length:=by rw[<- r2.length];exact F.len _ _ _ _ h
 refine wpAny_call (codeAny_mono (F.run X.A X.stack s H ⟨us,[]⟩ (us++ds) (vs++dvs) Q E hr I.env0 (hb s us I.kIn hl) r2 h) λr s' hq=>?_)
 cases r with
 |error e=>exact hx pins σ H s e s' I hq
 |ok fl=>
  cases fl with
  |ret u=>exact I.after hq
  |next=>exact False.elim hq
  |brk=>exact False.elim hq
  |cont=>exact False.elim hq
def Vi (F:FnOk X.prog X.w X.K X.mg X.base CX k f fd ps sp) (z:Room k X.A) (M:Gl X x) (G:X.mg x=some (.ref f)) (J:PySem.W.keepIn X.K (.ref f)=true) (U:Binds X.K fd ps ds) (hd:Vals dvs ds) (y:Bu CX X E)
  (Y:PA X (e::es) t) (j:(x == ("__debug__":Str))=false:=by decide) (O:starEach (e::es) X.env=(false,eval e X.env)::starEach es X.env:=by rfl) (i:(backTo pos (starEach es X.env)).any (·.1)=false:=by rfl) :
  PE X (.Call (.Name x p) (e::es) [] pos) (Gv sp dvs E t):=by
 intro pins s σ H Q I h;refine wpAny_Call_Name_kw (tR I M G ?_ j);refine PySem.W.callWith_K (h₀:=X.base) I.ok.mod.kin J (aU (Y pos pins s σ H _ I h) λus s1 ⟨vs,H1,n,r,q⟩=>⟨n.kIn,?_⟩) O i;exact Sb F z U hd y n r q
end
structure FnScope(N P:List Str)(sc:Scope):Prop where
 kind:sc.kind=.function
 co:sc.isCoroutine=false
 gen:sc.isGenerator=false
 nd:N.Nodup
 pre:N.take P.length=P
 par:∀x∈P,sc.names.lookup x=some .local\/sc.names.lookup x=some .cell
 nofree:∀y∈sc.names,y.2≠.free
theorem Mw:∀{binds:List (Str×Value)} {m:Str->Option Value},(∀v,(x,v) ∉binds)->bindL i binds m x=m x
 |[],_,_=>Z
 | (n,v)::r,m,h=>by
  unfold bindL;rw[Mw λw j=>h w (qO _ j)];split
  ·have:x≠n:=by rintro rfl;exact h v List.mem_cons_self
   simp[this]
  ·rfl
theorem Mu:∀{binds:List (Str×Value)} {m:Str->Option Value},(∀v,(x,v) ∉binds)->bindC i binds m x=m x
 |[],_,_=>Z
 | (n,v)::r,m,h=>by
  unfold bindC;rw[Mu λw j=>h w (qO _ j)];split
  ·rfl
  ·have:x≠n:=by rintro rfl;exact h v List.mem_cons_self
   simp[this]
theorem Mv:∀{P:List Str} {vs:List Value} {i:Nat} {m:Str->Option Value},P.Nodup->P[i]?=some x->vs[i]?=some v->j x=some .local->
  bindL j (P.zip vs) m x=some v
 |[],_,_,_,_,h,_,_=>by simp at h
 |_::_,[],_,_,_,_,h,_=>by simp at h
 |p::P,w::vs,0,m,nd,h1,h2,n=>by
  simp at h1 h2;subst h1;subst h2;show bindL j ((p,w)::P.zip vs) m p=_;unfold bindL;rw[Mw λv y=>(List.nodup_cons.mp nd).1 (List.of_mem_zip y).1,if_pos n];simp
 |p::P,w::vs,i+1,m,nd,h1,h2,n=>by
  show bindL j ((p,w)::P.zip vs) m x=_;unfold bindL;exact Mv (i:=i) (List.nodup_cons.mp nd).2 (by simpa using h1) (by simpa using h2) n
theorem Mt:∀{P:List Str} {vs:List Value} {i:Nat} {m:Str->Option Value},P.Nodup->P[i]?=some x->vs[i]?=some v->j x≠some .local->
  bindC j (P.zip vs) m x=some v
 |[],_,_,_,_,h,_,_=>by simp at h
 |_::_,[],_,_,_,_,h,_=>by simp at h
 |p::P,w::vs,0,m,nd,h1,h2,n=>by
  simp at h1 h2;subst h1;subst h2;show bindC j ((p,w)::P.zip vs) m p=_;unfold bindC;rw[Mu λv y=>(List.nodup_cons.mp nd).1 (List.of_mem_zip y).1,if_neg n];simp
 |p::P,w::vs,i+1,m,nd,h1,h2,n=>by
  show bindC j ((p,w)::P.zip vs) m x=_;unfold bindC;exact Mt (i:=i) (List.nodup_cons.mp nd).2 (by simpa using h1) (by simpa using h2) n
def lL(N:List Str)(vs:List V):St:=vs.map some++List.replicate (N.length-vs.length) none
def fS(CX:lZ)(P:Program)(w:World)(K:Fg)(mg:Str->Option Value)(base:Heap)(N:List Str)(qual:Str)(scope:Scope)(f:Addr)(cd:Value)(A:Around)(outer:List Env)(s:Shared)(H:Hp)(E:XK):Cx where
 prog:=P
 w:=w
 K:=K
 mg:=mg
 base:=base
 A:=A.deeper (envOfC qual scope s.heap.objs.size f cd)
 N:=N
 s₀:=s
 H₀:=H
 env:=envOfC qual scope s.heap.objs.size f cd
 outer:=outer
 stack:=envOfC qual scope s.heap.objs.size f cd::outer
 ex:=[]
 calm:=true
 fn:=λ_=>true
 pn:=[]
 xe:=λe s'=>wpAny (model P w) (A.deeper (envOfC qual scope s.heap.objs.size f cd)) (leaving (envOfC qual scope s.heap.objs.size f cd) e) (λ_ s''=>CX outer H s E e s'') (λe' s''=>CX outer H s E e' s'') s'
def Mh{i:Scope}{n:Nat}{x:Str}(h:i.names.lookup x=some .cell):∃c,(cellsFrom n i.names []).lookup x=some c:=by
 have q:=PySem.W.cellsFrom_some i.names n [] (.inl h);exact Option.isSome_iff_exists.mp q
def Nd {CX:lZ} {P:Program} {w:World} {K:Fg} {mg:Str->Option Value} {base:Heap} {N ps:List Str} {G:Str} {j:Scope} {f:Addr} {Y:Value} {A:Around} {outer:List Env} {s s1:Shared} {H:Hp} {E:XK} {us:List Value} {vs:List V}
  (S:FnScope N ps j) (hd:A.handled=none) (I:Env0 P w K mg base A outer s H) (hl:vs.length=ps.length) (r:Vals vs us)
  (x:InCallC s s.heap.objs.size (bindL (envOfC G j s.heap.objs.size f Y).kindOf (ps.zip us) λ_=>none) (cellsFrom (s.heap.objs.size+1) j.names []) (bindC (envOfC G j s.heap.objs.size f Y).kindOf (ps.zip us) λ_=>none) s1) :
  Inv (fS CX P w K mg base N G j f Y A outer s H E) [] (lL N vs) H s1:=by
 have a0:ps.length<=N.length:=by have:=congrArg List.length S.pre;rw[List.length_take]at this;omega
 obtain⟨h1,tk,rfl,hk⟩:=x.done;have J:∀b:Addr,b ∉(fS CX P w K mg base N G j f Y A outer s H E).ex:=λb z=>absurd (show b∈([]:List Addr) from z) (by simp)
 refine⟨⟨I.mod,S.kind,Z,Z,qD _,λy z c h1 h2=>?_,λy M=>?_,λy c _ h=>?_,λ_=>hd,Around.frames_deeper I.frames,.inr ⟨Z,Z⟩,λb z=>absurd z (J b),I.bs,I.bsz,λb _ _=>J b,λb z=>absurd z (J b),I.funs,I.frf⟩,
  Z,I.bare,Un.kept hk,⟨_,x.toInCall.ns,λi y v h1 h2 h3=>?_⟩,λy c h=>⟨_,x.cell y c h⟩,I.hok.fresh (qD _),λy c h=>?_,λp U=>absurd (show p∈([]:List (Addr×Obj)) from U) (by simp),I.hok.kept hk,?_⟩
 ·exact name_of_addr x.apart (zQ h1) (zQ h2)
 ·have M:j.names.lookup y=some .cell\/j.names.lookup y=some .free:=M
  rcases M with M |M
  ·exact Mh M
  ·exact absurd Z (S.nofree _ (zQ M))
 ·exact Nat.le_of_lt (x.above y c (zQ h))
 ·have hi:i<vs.length:=by
   unfold lL at h2;by_cases hi:i<vs.length
   ·exact hi
   ·rw[List.getElem?_append_right (by simpa using hi)]at h2
    rw[List.getElem?_replicate]at h2;split at h2 <;> cases h2
  have ha:vs[i]?=some v:=by
   unfold lL at h2;rw[List.getElem?_append_left (by simpa using hi),dA]at h2
   cases e:vs[i]? with
   |none=>rw[e]at h2;cases h2
   |some a=>rw[e]at h2;cases h2;rfl
  obtain⟨u,hu,rv⟩:=r.get ha
  have U:ps[i]?=some y:=by
   rw[<- S.pre,List.getElem?_take_of_lt (by omega)];exact h1
  have O:ps.Nodup:=by rw[<- S.pre];exact S.nd.sublist (List.take_sublist _ _)
  refine⟨u,rv,?_⟩;rcases S.par y (cJ U) with k |k
  ·exact .inl ⟨k,Mv O U hu k⟩
  ·obtain⟨c,e⟩:=Mh (n:=s.heap.objs.size+1) k
   refine .inr ⟨.inl k,c,e,?_⟩;have q:=x.cell y c e;rw[Mt O U hu (by show j.names.lookup y≠_;rw[k];decide)]at q;exact q
 ·exact I.hok.fresh (Nat.le_of_lt (x.above y c (zQ h)))
 ·unfold lL
  show _=N.length;rw[bS,aM,List.length_replicate];omega
def Gg {CX:lZ} {P:Program} {w:World} {K:Fg} {mg:Str->Option Value} {base:Heap} {k:Nat} {f:Addr} {name qual:Str} {params:Arguments} {body:List Stmt} {scope:Scope} {dV kV doc pm cdv ct oc:Value} {an od:Option Addr}
  {osl:Array (Option Value)} {N ps:List Str} {sp:Sp} (lk:K.lookup f=some ⟨oc,od,.func (PySem.W.fnOf name qual params body scope dV kV doc pm an cdv ct),osl⟩) (hcd:PySem.W.codeIn K cdv qual=true) (S:FnScope N ps scope)
  (len:∀vs H Q E,sp vs H Q E->vs.length=ps.length)
  (hbody:∀(A:Around) (outer:List Env) (s:Shared) (H:Hp) (vs:List V) (Q:VK) (E:XK),Room k (A.deeper (envOfC qual scope s.heap.objs.size f cdv))->sp vs H Q E->
   ∃t,PSs (fS CX P w K mg base N qual scope f cdv A outer s H E) body t/\t {nx:=λ_ H'=>Q .non H',rt:=Q} (lL N vs) H) :
  FnOk P w K mg base CX (k+1) f (PySem.W.fnOf name qual params body scope dV kV doc pm an cdv ct) ps sp:=by
 refine⟨len,λA outer s H args us vs Q E hr e0 hb r hsp=>?_⟩;have hl:=len _ _ _ _ hsp;have KX:K.In s.heap:=e0.mod.kin.keeps λb o e=>(e0.bs b o e).1;have lim:s.heap.NoLimit:=e0.mod.nolimit.keeps λb o e=>(e0.bs b o e).1
 have hkind:∀y∈ps.zip us,scope.names.lookup y.1=some .local\/(scope.names.lookup y.1=some .cell/\((cellsFrom (s.heap.objs.size+1) scope.names []).lookup y.1).isSome=true):=λ⟨n,v⟩ hy=>by
  rcases S.par n (List.of_mem_zip hy).1 with q |q
  ·exact .inl q
  ·exact .inr ⟨q,PySem.W.cellsFrom_some _ _ _ (.inl q)⟩
 refine codeAny_call_function hr.depth (KX _ _ lk) rfl S.co S.gen rfl (PySem.W.codeRec_of KX hcd) (hb _ _ _ _ ?_);refine wpAny_newFunctionEnv_cells S.kind hkind λenv he s1 x=>?_;subst he;refine⟨lim.keeps x.toInCall.keep,codeAny_func ?_⟩;obtain⟨t,ht,hq⟩:=hbody A outer s H vs Q E (hr.deeper _) hsp;have I:Inv (fS CX P w K mg base N qual scope f cdv A outer s H E) [] (lL N vs) H s1:=Nd S (Prod.mk.inj hr.hd).1 e0 hl r x;refine wpAny_mono (ht [] s1 (lL N vs) H _ I hq) (λfl s' hs=>?_) λe s' hs=>hs
 have fin:∀{σ':St} {H':Hp} {v:V} {u:Value},Inv (fS CX P w K mg base N qual scope f cdv A outer s H E) [] σ' H' s'->RelV v u->Q v H'->CE outer P w H s Q u s':=
  λ{σ' H' v u} J rv q=>⟨v,H',J.os,J.bare,J.base,J.hok,rv,q⟩
 cases fl with
 |ret u=>
  obtain⟨v,σ',H',J,rv,q⟩:=hs;exact fin J rv q
 |next=>
  obtain⟨σ',H',J,q⟩:=hs;exact fin (v:=V.non) (u:=Value.none) J rfl q
 |brk=>
  obtain⟨_,_,_,q⟩:=hs;exact False.elim q
 |cont=>
  obtain⟨_,_,_,q⟩:=hs;exact False.elim q
section
variable {X:Cx}{x:Str}{p pos:Pos}{e:Expr}{es:List Expr}{t:TA}{id T:String}{r:List V->Hp->VK->Prop}
def Oj(r:List V->Hp->VK->Prop)(t:TA):TE:=λσ H Q=>t σ H λvs H1=>r vs H1 Q
def bV (hc:lJ X (.builtin id) r) (hg:Gl X x) (hm:X.mg x=none) (hv:bootBuiltins x=some (.builtin id)) (ha:PA X (e::es) t) (hn:x≠"__name__":=by decide) (hdb:(x == ("__debug__":Str))=false:=by decide)
  (he:starEach (e::es) X.env=(false,eval e X.env)::starEach es X.env:=by rfl) (hpl:(backTo pos (starEach es X.env)).any (·.1)=false:=by rfl):PE X (.Call (.Name x p) (e::es) [] pos) (Oj r t):=by
 intro pins s σ H Q I h;refine wpAny_Call_Name_kw (oY I hg hm hv ?_ hn hdb);exact PyProof.Rows.callWith_builtin1 (aU (ha pos pins s σ H _ I h) λus s1 ⟨vs,H1,I1,r1,q1⟩=>hc pins s1 σ H1 vs us Q I1 r1 q1) he hpl
def hH (hc:lJ X (.type T) r) (hg:Gl X x) (hm:X.mg x=none) (hv:bootBuiltins x=some (.type T)) (ha:PA X (e::es) t) (hn:x≠"__name__":=by decide) (hdb:(x == ("__debug__":Str))=false:=by decide)
  (he:starEach (e::es) X.env=(false,eval e X.env)::starEach es X.env:=by rfl) (hpl:(backTo pos (starEach es X.env)).any (·.1)=false:=by rfl):PE X (.Call (.Name x p) (e::es) [] pos) (Oj r t):=by
 intro pins s σ H Q I h;refine wpAny_Call_Name_kw (oY I hg hm hv ?_ hn hdb);exact PyProof.Rows.callWith_type1 (aU (ha pos pins s σ H _ I h) λus s1 ⟨vs,H1,I1,r1,q1⟩=>hc pins s1 σ H1 vs us Q I1 r1 q1) he hpl
end
end L2
namespace HT
open PySem PyProof.Rows
section
variable {prog:Program}{w:World}{A:Around}{E:Value->Shared->Prop}{s:Shared}
def cat_tup {t b:Addr} (ht:IsTup s.heap t vs.toArray) (hb:IsTup s.heap b ws.toArray) (hv:vs≠[])
  (h1:ws=[]->Q (.ref t) s) (h2:ws≠[]->Q (.ref s.heap.objs.size) {s with heap:=s.heap.push {cls:=.type "tuple",data:=.seq (vs++ws).toArray}})
  (hsz:vs.length+ws.length<=sizeLine):wpAny (model prog w) A (binaryOp .Add (.ref t) (.ref b)) Q E s:=by
 obtain⟨⟨cls,dd,data,sl⟩,ho,hc,n,hd⟩:=id ht;obtain⟨⟨cls2,dd2,data2,sl2⟩,ho2,hc2,n2,hd2⟩:=id hb;simp only at hc hd hc2 hd2;subst hc hd hc2 hd2;have e:vs.toArray++ws.toArray=(vs++ws).toArray:=by simp
 by_cases hw:ws=[]
 ·exact concat_meets ⟨_,ho,rfl⟩ ⟨_,ho2,rfl⟩ noFill_tuple_add seq_tuple_add PySem.F.slot_tuple_add PySem.F.entry_tuple_add (PySem.F.args_tuple_add_2 _ _)
   (tuple_addW1 t b vs.toArray ws.toArray n n2 dd dd2 sl sl2 (by simpa using hv) (by simp[hw])) ⟨ho,ho2,h1 hw⟩
 ·refine concat_meets ⟨_,ho,rfl⟩ ⟨_,ho2,rfl⟩ noFill_tuple_add seq_tuple_add PySem.F.slot_tuple_add PySem.F.entry_tuple_add (PySem.F.args_tuple_add_2 _ _)
   (tuple_addW2 t b vs.toArray ws.toArray n n2 dd dd2 sl sl2 (by simpa using hv) (by simpa using hw) (by rw[List.size_toArray,List.size_toArray];exact hsz)) ⟨ho,ho2,?_⟩
  rw[e];exact h2 hw
def sIx(n d:Nat):Option Int->Nat
 |none=>d
 |some v=>if v<0 then (v+(n:Int)).toNat else min v.toNat n
theorem sIx_none(n d:Nat):sIx n d none=d:=Z
theorem sIx_nat(n d k:Nat):sIx n d (some (k:Int))=min k n:=by
 show(if (k:Int)<0 then ((k:Int)+(n:Int)).toNat else min (k:Int).toNat n)=min k n;rw[if_neg (by omega),Int.toNat_natCast]
def Sd(n d:Nat)(hd:d<=n)(o:Option Int):sIx n d o<=n:=by
 cases o with
 |none=>exact hd
 |some v=>
  show(if v<0 then (v+(n:Int)).toNat else min v.toNat n)<=n;by_cases i:v<0
  ·rw[if_pos i];omega
  ·rw[if_neg i];exact Nat.min_le_right _ _
def Jd(v:Int)(n d:Nat):(if v<0 then max (v+(n:Int)) 0 else min v (n:Int))=((sIx n d (some v):Nat):Int):=by
 show(if v<0 then max (v+(n:Int)) 0 else min v (n:Int))=(((if v<0 then (v+(n:Int)).toNat else min v.toNat n):Nat):Int);by_cases i:v<0
 ·simp only[if_pos i];omega
 ·simp only[if_neg i];omega
theorem Yr(lo hi:Option Int)(n:Nat):Builtin.Slice.sliceAdjust lo hi 1 (n:Int)=(((sIx n 0 lo:Nat):Int),((sIx n n hi:Nat):Int)):=by
 have h1:¬((1:Int)<0):=by omega
 unfold Builtin.Slice.sliceAdjust;simp only[h1,if_false];refine Prod.ext ?_ ?_
 ·cases lo with
  |none=>rfl
  |some v=>exact Jd v n 0
 ·cases hi with
  |none=>rfl
  |some v=>exact Jd v n n
theorem Yj(i j:Nat):Builtin.Slice.slicePlaces (i:Int) (j:Int) 1=j-i:=by
 unfold Builtin.Slice.slicePlaces;have h1:(1:Int) > 0:=by omega
 simp only[h1,if_true,Int.ediv_one];split <;> omega
def Nz(p:IsPart v o)(h:Q o s):wpAny (model prog w) A (Builtin.Slice.slicePartIndex v) Q E s:=by
 cases p with
 |none=>exact slicePart_none h
 |int i t=>exact slicePart_int h
def Of {z y:Value} {lo hi:Option Int} {Q:Int×Int×Nat->Shared->Prop} (hs:s.heap.IsSliceOf sl z y .none) (pl:IsPart z lo) (G:IsPart y hi)
  (h:Q (((sIx n 0 lo:Nat):Int),1,sIx n n hi-sIx n 0 lo) s):wpAny (model prog w) A (Builtin.Slice.sliceApplied (.ref sl) (pure (n:Int))) Q E s:=by
 obtain⟨J,i,I,j⟩:=id hs;unfold Builtin.Slice.sliceApplied Builtin.Slice.sliceFields;refine qB (qB (qT i j (x:=z) Z (qB (qT i j (x:=y) Z (qB (qT i j (x:=.none) Z (qG ?_)))))));refine qB (slicePart_none ?_);show wpAny _ _ (if ((1:Int) == 0)=true then _ else _) _ _ s;rw[if_neg (aA Z)];refine qB (Nz pl (qB (Nz G (qB (qG ?_)))));show wpAny _ _ (match Builtin.Slice.sliceAdjust lo hi 1 (n:Int) with |(lo,hi)=>pure (lo,(1:Int),Builtin.Slice.slicePlaces lo hi 1)) _ _ s;rw[Yr lo hi n];show wpAny _ _ (pure (((sIx n 0 lo:Nat):Int),(1:Int),Builtin.Slice.slicePlaces ((sIx n 0 lo:Nat):Int) ((sIx n n hi:Nat):Int) 1)) _ _ s;rw[Yj];exact qG h
theorem Wc(xs:Array Value)(i k:Nat):((List.range k).filterMap λ(m:Nat)=>xs[((i:Int)+(m:Int)*1).toNat]?).toArray=((xs.toList.drop i).take k).toArray:=by
 have e:(λ(m:Nat)=>xs[((i:Int)+(m:Int)*1).toNat]?)=λm=>xs[i+m]?:=by
  funext m
  have:((i:Int)+(m:Int)*1).toNat=i+m:=by omega
  rw[this]
 rw[e];have:=pick_run xs i k;rw[List.filterMap_map]at this;have j:((λx=>xs[x]?) ∘ λx=>i+x)=λm=>xs[i+m]?:=Z;rw[j]at this;rw[this]
def getItem_tuple_cut {t sl:Addr} {J I:Value} {lo hi:Option Int} {Q:Value->Shared->Prop} (j:IsTup s.heap t items) (hs:s.heap.IsSliceOf sl J I .none) (pl:IsPart J lo) (M:IsPart I hi)
  (U:¬(sIx items.size 0 lo=0/\sIx items.size items.size hi=items.size))
  (h:Q (.ref s.heap.objs.size) {s with heap:=s.heap.push {cls:=.type "tuple",data:=.seq ((items.toList.drop (sIx items.size 0 lo)).take (sIx items.size items.size hi-sIx items.size 0 lo)).toArray}})
  (hsz:items.size<=sizeLine):wpAny (model prog w) A (getItem (.ref t) (.ref sl)) Q E s:=by
 have i:sizeOk (.seq ((items.toList.drop (sIx items.size 0 lo)).take (sIx items.size items.size hi-sIx items.size 0 lo)).toArray):=by
  show((items.toList.drop (sIx items.size 0 lo)).take (sIx items.size items.size hi-sIx items.size 0 lo)).toArray.size<=sizeLine;rw[List.size_toArray,List.length_take,List.length_drop,Array.length_toList];omega
 have hj:sIx items.size items.size hi<=items.size:=Sd _ _ (qD _) hi;obtain⟨O,n,z,Y⟩:=id hs;have G:s.TypeIs (.ref sl) "slice":=⟨O,n,z⟩;unfold getItem
 try with_reducible refine qU ?_
 first |refine qB (qG ?_) |skip
 refine qB (wpAny_sequenceKey j.typeIs (aA Z) ?_)
 refine qB (wpAny_callSpecial?_slot (name:=Str.ofString "__getitem__") j.typeIs PyProof.Rows.slot_tuple_getitem
  (wpAny_call_entry PyProof.Rows.slot_tuple_getitem j.typeIs entry_tuple_getitem ?_ (args_tuple_getitem _ _)))
 show wpAny _ _ (Builtin.Tuple.tupleItemsOf (.ref t) >>= _) _ _ s;refine qB (tupleItemsOf_ j ?_);refine qB (YC G ?_);rw[if_pos (aA Z)];refine qB (Of hs pl M ?_)
 have y:¬((((sIx items.size 0 lo:Nat):Int) == 0 && (1:Int) == 1 && (sIx items.size items.size hi-sIx items.size 0 lo) == items.size)=true):=by
  intro q;rw[Bool.and_eq_true,Bool.and_eq_true]at q;have q1:((sIx items.size 0 lo:Nat):Int)=0:=eq_of_beq q.1.1;have q2:sIx items.size items.size hi-sIx items.size 0 lo=items.size:=eq_of_beq q.2;exact U ⟨by omega,by omega⟩
 show wpAny _ _ (if (((sIx items.size 0 lo:Nat):Int) == 0 && (1:Int) == 1 && (sIx items.size items.size hi-sIx items.size 0 lo) == items.size)=true then _ else _) _ _ s;rw[if_neg y,Wc]
 first
  |exact qB (m:=Builtin.Tuple.tupleExact _) (wpAny_newObj_type (qG ⟨_,Z,qG h⟩) i)
  |exact qB (m:=Builtin.Tuple.tupleExact _) (wpAny_newObj_type (qB (qG (qG ⟨_,rfl,qG h⟩))) i)
  |exact qB (qB (m:=Builtin.Tuple.tupleExact _) (wpAny_newObj_type (qG (qG ⟨_,rfl,qG h⟩)) i))
  |exact qB (qB (m:=Builtin.Tuple.tupleExact _) (wpAny_newObj_type (qG ⟨_,rfl,qG h⟩) i))
end
end HT
namespace L2
open PySem PySem.Spec PyProof.Rows
abbrev TO:=St->Hp->(Option Int->Hp->Prop)->Prop
def PO(X:Cx)(e:Option Expr)(t:TO):Prop:=
 ∀(pins:List (Addr×Obj)) (s:Shared) (σ:St) (H:Hp) (Q:Option Int->Hp->Prop),Inv X pins σ H s->t σ H Q->
  wpAny (model X.prog X.w) X.A (evalPart e X.env) (λu s'=>∃o H',Inv X pins σ H' s'/\IsPart u o/\Q o H') X.xe s
def wW:TO:=λ_ H Q=>Q none H
def Qp(t:TE):TO:=λσ H Q=>t σ H λx H1=>∃i,x=.int i/\Q (some i) H1
def Nw:∀{us:List Value},Vals (ns.map V.int) us->IntsAre us ns:=by
 induction ns with
 |nil=>intro us r;rw[List.map_nil]at r;cases r;exact .nil
 | cons n ns y=>
  intro us r;rw[List.map_cons]at r
  cases r with
  |cons j i=>
   obtain⟨t,e⟩:=j;subst e;exact .cons n t (y i)
section
variable {X:Cx}{e:Expr}{te:TE}{lo hi:Option Expr}{tl th:TO}{pos p2:Pos}
def iU:PO X none wW:=by
 intro pins s σ H Q I h;rw[evalPart_none];exact qG ⟨none,H,I,.none,h⟩
def gE(h:PE X e te):PO X (some e) (Qp te):=by
 intro pins s σ H Q I y;rw[evalPart_some];refine aU (h pins s σ H _ I y) λu G ⟨x,H1,z,j,n⟩=>?_;obtain⟨i,rfl,q⟩:=n;obtain⟨t,rfl⟩:=j;exact⟨some i,H1,z,.int i t,q⟩
def sM(X:Cx)(r:V->Option Int->Option Int->Hp->VK->Prop):Prop:=
 ∀(pins:List (Addr×Obj)) (s:Shared) (σ:St) (H:Hp) (x:V) (v vl vu:Value) (lo hi:Option Int) (sl:Addr) (Q:VK),Inv X pins σ H s->RelV x v->s.heap.IsSliceOf sl vl vu .none->IsPart vl lo->IsPart vu hi->r x lo hi H Q->
  ∃T id,typeLookup (.type T) "__getitem__"=pure (some (.builtin id))/\s.TypeIs v T/\wpAny (model X.prog X.w) X.A (getItem v (.ref sl)) (EP X pins σ Q) X.xe s
def tSl(r:V->Option Int->Option Int->Hp->VK->Prop)(te:TE)(tl th:TO):TE:=λσ H Q=>te σ H λx H1=>tl σ H1 λl H2=>th σ H2 λu H3=>r x l u H3 Q
def gY(hr:sM X r)(he:PE X e te)(hl:PO X lo tl)(hu:PO X hi th):PE X (.Subscript e (.Slice lo hi none p2) pos) (tSl r te tl th):=by
 intro pins s σ H Q I h;refine Subscript_ (aU (he pins s σ H _ I h) λv s1 ⟨x,H1,I1,r1,q1⟩=>?_);refine wpAny_Slice (aU (hl pins s1 σ H1 _ I1 q1) λvl s2 ⟨l,H2,I2,pl,q2⟩=>aU (hu pins s2 σ H2 _ I2 q2) λvu s3 ⟨u,H3,I3,pu,q3⟩=>?_);rw[evalPart_none];refine qG ?_;have I4:Inv X pins σ H3 {s3 with heap:=s3.heap.push {cls:=.type "slice",data:=.fields #[vl,vu,.none]}}:=I3.kept (t':=s3.toks) λb ob q=>bX _ q;obtain⟨T,id,hT,ht,hg⟩:=hr pins {s3 with heap:=s3.heap.push {cls:=.type "slice",data:=.fields #[vl,vu,.none]}} σ H3 x v vl vu l u s3.heap.objs.size Q I4 r1 (Heap.IsSliceOf.new ..) pl pu q3;show wpAny (model X.prog X.w) X.A (subscriptTail e (.Slice lo hi none p2) v (.ref s3.heap.objs.size)) (EP X pins σ Q) X.xe {s3 with heap:=s3.heap.push {cls:=.type "slice",data:=.fields #[vl,vu,.none]}};exact tail_any (ops:=[.ref s3.heap.objs.size,v]) ht hT hg (by with_unfolding_all rfl)
def bI(xs:List V)(lo hi:Option Int):List V:=(xs.drop (HT.sIx xs.length 0 lo)).take (HT.sIx xs.length xs.length hi-HT.sIx xs.length 0 lo)
def O1(xs:List V)(lo hi:Option Int):(bI xs lo hi).length<=xs.length:=by
 unfold bI;rw[List.length_take,List.length_drop];omega
def xS(K:Fg):V->Option Int->Option Int->Hp->VK->Prop:=λx lo hi H Q=>∃a xs,x=.ref a/\SqT K H a xs ∧
 ¬(HT.sIx xs.length 0 lo=0/\HT.sIx xs.length xs.length hi=xs.length)/\∀p,H p=none->Q (.ref p) (upd H p (.tup (bI xs lo hi)))
def Iw:sM X (xS X.K):=by
 intro pins s σ H x v M J lo hi sl Q I n hs pl y h;obtain⟨a,xs,rfl,z,G,q⟩:=h;cases n;obtain⟨its,r,j,hz⟩:=I.tuple z;have i:its.toArray.size=xs.length:=by rw[List.size_toArray];exact r.length.symm
 refine⟨"tuple",_,PyProof.Rows.slot_tuple_getitem.lookup,j.typeIs,?_⟩;refine HT.getItem_tuple_cut j hs pl y (by rw[i];exact G) ?_ (by rw[i];exact hz);rw[i];refine⟨.ref s.heap.objs.size,_,I.laid (t':=s.toks) (o:=.tup (bI xs lo hi)) (λb O q=>bX _ q) (qD _) ?_,Z,q _ (I.hok.fresh (qD _))⟩;exact⟨qC (O1 xs lo hi) hz,_,(r.drop (HT.sIx xs.length 0 lo)).take (HT.sIx xs.length xs.length hi-HT.sIx xs.length 0 lo),_,qI _ Z,Z,_,Z,Z⟩
def Pn(K:Fg):R2:=λx y H Q=>∃a b xs ys,x=.ref a/\y=.ref b/\SqT K H a xs/\SqT K H b ys/\xs≠[]/\xs.length+ys.length<=sizeLine ∧
 (ys=[]->Q (.ref a) H)/\(ys≠[]->∀p,H p=none->Q (.ref p) (upd H p (.tup (xs++ys))))
def Vals.nil_iff{xs:List V}(r:Vals xs us):us=[] ↔ xs=[]:=by
 cases r with
 |nil=>simp
 |cons _ _=>simp
def Ui:fC X (binaryOp .Add) (Pn X.K):=by
 intro pins s σ H x y v u Q I J G h;obtain⟨a,b,xs,ys,rfl,rfl,ha,hb,Y,hz,O,M⟩:=h;cases J;cases G;obtain⟨its,j,U,_⟩:=I.tuple ha;obtain⟨n,i,p2,_⟩:=I.tuple hb;refine HT.cat_tup U p2 (λz=>Y (j.nil_iff.mp z)) (λz=>⟨.ref a,H,I,Z,O (i.nil_iff.mp z)⟩) (λz=>?_) (by rw[<- j.length,<- i.length];exact hz);refine⟨.ref s.heap.objs.size,_,I.laid (t':=s.toks) (o:=.tup (xs++ys)) (λb ob q=>bX _ q) (qD _) ?_,Z,M (λw=>z (i.nil_iff.mpr w)) _ (I.hok.fresh (qD _))⟩;exact⟨by rw[bS];exact hz,_,j.append i,_,qI _ Z,Z,_,Z,Z⟩
end
def pL(n:Nat)(i:Int):Option Nat:=if 0<=i then (if i<n then some i.toNat else none) else if -(n:Int)<=i then some (i+n).toNat else none
def fG{α:Type}(xs:List α)(i:Int):Option α:=(pL xs.length i).bind λj=>xs[j]?
def Jz(h:pL n i=some j):seqIndex? i n=some j/\j<n/\-(n:Int)<=i/\i<n:=by
 unfold pL at h;by_cases h0:0<=i
 ·rw[if_pos h0]at h
  by_cases h1:i<n
  ·rw[if_pos h1]at h
   have e:i.toNat=j:=qK h;exact⟨by rw[seqIndex_of h0 h1,e],by omega,by omega,h1⟩
  ·rw[if_neg h1]at h;cases h
 ·rw[if_neg h0]at h
  by_cases h1:-(n:Int)<=i
  ·rw[if_pos h1]at h
   have e:(i+n).toNat=j:=qK h;exact⟨by rw[seqIndex_neg (by omega) h1,e],by omega,h1,by omega⟩
  ·rw[if_neg h1]at h;cases h
def Cc{α:Type}{xs:List α}{i:Int}{v:α}(h:fG xs i=some v):∃j,seqIndex? i xs.length=some j/\xs[j]?=some v/\j<xs.length/\-(xs.length:Int)<=i/\i<xs.length:=by
 unfold fG at h
 cases e:pL xs.length i with
 |none=>rw[e]at h;cases h
 |some j=>
  rw[e]at h;obtain⟨h1,h2,y,n⟩:=Jz e;exact⟨j,h1,h,h2,y,n⟩
def cM{α:Type}{xs:List α}{j:Nat}{v:α}(h:xs[j]?=some v):fG xs (j:Int)=some v:=by
 have i:j<xs.length:=(cV h).1
 have e:pL xs.length (j:Int)=some j:=by
  unfold pL;rw[if_pos (by omega),if_pos (by omega)];simp
 unfold fG;rw[e];exact h
def Vv{α:Type}(xs:List α)(v:α):fG (xs++[v]) (-1)=some v:=by
 have i:(xs++[v]).length=xs.length+1:=by simp
 have e:pL (xs++[v]).length (-1)=some xs.length:=by
  unfold pL;rw[i,if_neg (aA Z),if_pos (by omega)];congr 1;omega
 unfold fG;rw[e];show(xs++[v])[xs.length]?=some v;simp
def Cb(b:Expr):Prop:=∀o i,subscripted b false o i=operate [o,i] (getItem o i)
def vR(X:Cx)(r:R2):Prop:=
 ∀(value slice:Expr) (pins:List (Addr×Obj)) (s:Shared) (σ:St) (H:Hp) (x y:V) (v u:Value) (Q:VK),Inv X pins σ H s->RelV x v->RelV y u->r x y H Q->
  subscripted slice false v u=operate [v,u] (getItem v u)->wpAny (model X.prog X.w) X.A (subscriptTail value slice v u) (EP X pins σ Q) X.xe s
def Ot(X:Cx)(id:String)(r:V->List V->Hp->VK->Prop):Prop:=
 ∀(pins:List (Addr×Obj)) (s:Shared) (σ:St) (H:Hp) (x:V) (xs:List V) (v:Value) (us:List Value) (Q:VK),Inv X pins σ H s->RelV x v->Vals xs us->r x xs H Q->
  wpAny (model X.prog X.w) X.A (call (.builtin id) (v::us)) (EP X pins σ Q) X.xe s
section
variable {X:Cx}{a b:Expr}{ta tb:TE}{pos:Pos}
def yO(hr:vR X r)(ha:PE X a ta)(hb:PE X b tb)(hs:Cb b):PE X (.Subscript a b pos) (vO r ta tb):=by
 intro pins s σ H Q I h;exact Subscript_ (sJ ha hb I h λv u s2 x y H2 I2 rx ry q=>hr a b pins s2 σ H2 x y v u Q I2 rx ry q (hs _ _))
def sF(K:Fg):R2:=λx y H Q=>∃p xs i v,x=.ref p/\y=.int i/\SqL K H p xs/\fG xs i=some v/\Q v H
def rZ(K:Fg):R2:=λx y H Q=>∃p xs i v,x=.ref p/\y=.int i/\SqT K H p xs/\fG xs i=some v/\Q v H
def Eo:R2:=λx y H Q=>∃z i c,x=.str z/\y=.int i/\z.length<=sizeLine/\fG z.cps.toList i=some c/\Q (.str ⟨#[c]⟩) H
def iL:vR X (sF X.K):=by
 intro value n pins s σ H x y v u Q I U O h hs;obtain⟨p,xs,i,z,rfl,rfl,Y,he,q⟩:=h;cases U;obtain⟨t,rfl⟩:=O;obtain⟨its,r,pl,hz⟩:=I.list Y;obtain⟨j,h1,h2,h3,h4,h5⟩:=Cc he;obtain⟨w,M,G⟩:=r.get h2;have hl:=r.length;have hn:=wB;have fin:EP X pins σ Q w s:=⟨z,H,I,G,q⟩;by_cases h0:0<=i
 ·have J:i.toNat=j:=by
   rw[seqIndex_of h0 h5]at h1;exact qK h1
  exact item_listR pl.isList h0 (by omega) (by rw[J];simpa using M) fin hs
 ·have J:(i+(its.toArray.size:Int)).toNat=j:=by
   rw[seqIndex_neg (by omega) h4]at h1;rw[List.size_toArray,<- hl];exact qK h1
  exact subscriptTail_builtinR (x:=w) pl.isList.typeIs slot_list_getitem.lookup
   (wpAny_getItem_list_neg (Q:=λr s'=>r=w/\EP X pins σ Q r s') pl.isList (by omega) (by rw[List.size_toArray] <;> omega) (by omega) (by rw[J];simpa using M) ⟨Z,fin⟩) hs
def Qt:vR X (rZ X.K):=by
 intro value n pins s σ H x y v u Q I M J h hs;obtain⟨p,xs,i,z,rfl,rfl,O,Y,q⟩:=h;cases M;obtain⟨t,rfl⟩:=J;obtain⟨its,r,pl,hz⟩:=I.tuple O;obtain⟨j,h1,h2,h3,h4,h5⟩:=Cc Y;obtain⟨w,ew,G⟩:=r.get h2;have U:=r.length;have hn:=wB;have fin:EP X pins σ Q w s:=⟨z,H,I,G,q⟩
 exact subscriptTail_builtinR (x:=w) pl.typeIs slot_tuple_getitem.lookup
  (getItem_tuple (j:=j) (Q:=λr s'=>r=w/\EP X pins σ Q r s') pl (by omega) (by omega) (by rw[List.size_toArray,<- U];exact h1) (by simpa using ew) ⟨Z,fin⟩) hs
def Hr:vR X Eo:=by
 intro value n pins s σ H x y v u Q I J G h hs;obtain⟨z,i,c,rfl,rfl,hz,O,q⟩:=h;obtain⟨t,rfl⟩:=J;obtain⟨t',rfl⟩:=G;obtain⟨j,h1,h2,h3,Y,U⟩:=Cc O;have M:z.cps.toList.length=z.length:=by simp[Str.length]
 rw[M]at h1 Y U;have hn:=wB
 exact tail_any (typeIs_str s z t) slot_str_getitem.lookup (getItem_str (c:=c) (by
  have e1:decide (i < -(2 ^ 63:Int))=false:=cW (by omega);have e2:decide (i ≥ 2 ^ 63)=false:=cW (by omega);rw[e1,e2,Bool.or_false]) (by rw[h1];simpa using h2) ⟨.str ⟨#[c]⟩,H,I.tok _,⟨_,Z⟩,q⟩) hs
def Y9(its:List Value)(n j:Nat)(u:Value):Obj.mapSeq (·.setIfInBounds j u) {cls:=.type "list",data:=.seq its.toArray n}={cls:=.type "list",data:=.seq (its.set j u).toArray n}:=by
 simp[Obj.mapSeq]
theorem Inv.lst {pins:List (Addr×Obj)} {σ:St} {H:Hp} {s:Shared} {p:Addr} {xs:List V} (I:Inv X pins σ H s) (h:H p=some (.lst xs)) :
  ∃(its:List Value) (n:Nat),Vals xs its/\s.heap.get? p=some {cls:=.type "list",data:=.seq its.toArray n}/\xs.length<=sizeLine:=by
 obtain⟨z,its,n,r,e⟩:=I.hok p _ h;exact⟨its,n,r,e,z⟩
def Inv.lstUpd {pins:List (Addr×Obj)} {σ:St} {H:Hp} {s:Shared} {p:Addr} {xs ys:List V} {its its':List Value} {n n':Nat} {f:Obj->Obj} (I:Inv X pins σ H s) (h:H p=some (.lst xs))
  (ho:s.heap.get? p=some {cls:=.type "list",data:=.seq its.toArray n}) (hf:f {cls:=.type "list",data:=.seq its.toArray n}={cls:=.type "list",data:=.seq its'.toArray n'}) (r:Vals ys its') (hz:ys.length<=sizeLine) (t:Nat) :
  Inv X pins σ (upd H p (.lst ys)) {s with heap:=s.heap.update p f,toks:=t}:=by
 have e:(s.heap.update p f).get? p=some {cls:=.type "list",data:=.seq its'.toArray n'}:=by
  rw[Heap.get?_update_self f ho (by rw[hf] <;> rfl),hf]
 refine I.write (x:=p) (e:=p) (by rw[h];trivial) (.inl rfl) (λb u hb q=>(Heap.get?_update_other _ _ (Ne.symm hb)).trans q) ⟨_,e⟩ ?_;exact⟨hz,its',n',r,e⟩
def Qh:V->V->V->Hp->(Hp->Prop)->Prop:=λo i v H Q=>∃p xs k j,o=.ref p/\i=.int k/\H p=some (.lst xs)/\pL xs.length k=some j/\Q (upd H p (.lst (xs.set j v)))
def Mc:xY X Qh:=by
 intro pins s σ H o i v ov iv u Q I ro ri Y h;obtain⟨p,xs,k,j,rfl,rfl,J,hj,q⟩:=h;cases ro;obtain⟨t,rfl⟩:=ri;obtain⟨its,n,r,y,hz⟩:=I.lst J;obtain⟨h1,h2,O,M⟩:=Jz hj;have z:=r.length;have hn:=wB
 have U:Inv X pins σ (upd H p (.lst (xs.set j v))) {s with heap:=s.heap.update p (Obj.mapSeq (·.setIfInBounds j u))}:=
  I.lstUpd J y (Y9 its n j u) (r.set Y j) (by rw[List.length_set];exact hz) s.toks
 by_cases h0:0<=k
 ·have G:k.toNat=j:=by
   rw[seqIndex_of h0 M]at h1;exact qK h1
  exact PySem.W.ki_setAt y h0 (by omega) (by rw[List.size_toArray,<- z];exact M) (by rw[G];exact⟨_,U,q⟩)
 ·have G:(k+(its.toArray.size:Int)).toNat=j:=by
   rw[seqIndex_neg (by omega) O]at h1;rw[List.size_toArray,<- z];exact qK h1
  exact PySem.W.ki_setBack y (by omega) (by rw[List.size_toArray,<- z];exact O) (by omega) (by rw[G];exact⟨_,U,q⟩)
def xi8(lo hi:Option Int)(n:Nat):(sliceBounds lo hi none n).1=((HT.sIx n 0 lo:Nat):Int)/\(sliceBounds lo hi none n).2.1=((HT.sIx n n hi:Nat):Int)/\(sliceBounds lo hi none n).2.2=1:=by
 refine⟨?_,?_,Z⟩
 ·cases lo with
  |none=>simp[sliceBounds,HT.sIx]
  |some i=>
   simp only[sliceBounds,HT.sIx,Option.getD_none,show(1:Int) > 0 by decide,if_true];by_cases h:i<0
   ·simp only[h,if_true] <;> omega
   ·simp only[h,if_false] <;> omega
 ·cases hi with
  |none=>simp[sliceBounds,HT.sIx]
  |some i=>
   simp only[sliceBounds,HT.sIx,Option.getD_none,show(1:Int) > 0 by decide,if_true];by_cases h:i<0
   ·simp only[h,if_true] <;> omega
   ·simp only[h,if_false] <;> omega
theorem xh1(its:List Value)(lo hi:Option Int):slicePick its.toArray lo hi none=((its.drop (HT.sIx its.length 0 lo)).take (HT.sIx its.length its.length hi-HT.sIx its.length 0 lo)).toArray:=by
 obtain⟨h1,h2,i⟩:=xi8 lo hi its.toArray.size;unfold slicePick;rw[h1,h2,i];simp only[sliceRange_one,pick_run,List.size_toArray] <;> rfl
def El(K:Fg):V->Option Int->Option Int->Hp->VK->Prop:=λx lo hi H Q=>∃a xs,x=.ref a/\SqL K H a xs/\∀p,H p=none->Q (.ref p) (upd H p (.lst (bI xs lo hi)))
def rK:sM X (El X.K):=by
 intro pins s σ H x v J G lo hi sl Q I n hs pl y h;obtain⟨a,xs,rfl,z,q⟩:=h;cases n;obtain⟨its,r,j,hz⟩:=I.list z;have i:=r.length;refine⟨"list",_,slot_list_getitem.lookup,j.isList.typeIs,?_⟩;refine wpAny_getItem_list_slice j.isList hs pl y .none (by simp) ?_ (by rw[List.size_toArray] <;> omega);rw[xh1,<- i];refine⟨.ref s.heap.objs.size,_,I.laid (t':=s.toks) (o:=.lst (bI xs lo hi)) (λb M q=>bX _ q) (qD _) ?_,Z,q _ (I.hok.fresh (qD _))⟩;exact⟨qC (O1 xs lo hi) hz,_,0,(r.drop (HT.sIx xs.length 0 lo)).take (HT.sIx xs.length xs.length hi-HT.sIx xs.length 0 lo),qI _ Z⟩
def mB:V->Bool
 |.non=>true
 |.bl _=>true
 |.int _=>true
 |.str _=>true
 |_=>false
def lC:V->V->Bool
 |.non,.non=>true
 |.bl a,.bl b=>a == b
 |.bl a,.int b=>(if a then 1 else 0) == b
 |.int a,.bl b=>a == (if b then 1 else 0)
 |.int a,.int b=>a == b
 |.str a,.str b=>a == b
 |_,_=>false
def Bp(j:RelV y u)(i:RelV x v)(z:mB y=true)(n:mB x=true):SeqAt.EqAt A s u v (lC y x):=by
 cases y with
 |non=>
  cases j
  cases x with
  |non=>cases i;exact SeqAt.EqAt.same _
  |bl b=>cases i;exact SeqAt.EqAt.none_bool b
  |int b=>obtain⟨t,rfl⟩:=i;exact SeqAt.EqAt.none_int b t
  |str b=>obtain⟨t,rfl⟩:=i;exact SeqAt.EqAt.none_str b t
  |_=>exact absurd (show false=true from n) qJ
 |bl a=>
  cases j
  cases x with
  |non=>cases i;exact SeqAt.EqAt.bool_none a
  |bl b=>cases i;exact SeqAt.EqAt.bool_bool a b
  |int b=>obtain⟨t,rfl⟩:=i;exact SeqAt.EqAt.bool_int a b t
  |str b=>obtain⟨t,rfl⟩:=i;exact SeqAt.EqAt.bool_str a b t
  |_=>exact absurd (show false=true from n) qJ
 |int a=>
  obtain⟨t',rfl⟩:=j
  cases x with
  |non=>cases i;exact SeqAt.EqAt.int_none a t'
  |bl b=>cases i;exact SeqAt.EqAt.int_bool a t' b
  |int b=>obtain⟨t,rfl⟩:=i;exact SeqAt.EqAt.int_int a t' b t
  |str b=>obtain⟨t,rfl⟩:=i;exact SeqAt.EqAt.int_str a t' b t
  |_=>exact absurd (show false=true from n) qJ
 |str a=>
  obtain⟨t',rfl⟩:=j
  cases x with
  |non=>cases i;exact SeqAt.EqAt.str_none a t'
  |bl b=>cases i;exact SeqAt.EqAt.str_bool a t' b
  |int b=>obtain⟨t,rfl⟩:=i;exact SeqAt.EqAt.str_int a t' b t
  |str b=>obtain⟨t,rfl⟩:=i;exact SeqAt.EqAt.str_str a t' b t
  |_=>exact absurd (show false=true from n) qJ
 |_=>exact absurd (show false=true from z) qJ
def mH(x:V)(u:Value):Bool:=match u with
 |.none=>lC .non x
 |.bool b=>lC (.bl b) x
 |.int i _=>lC (.int i) x
 |.str z _=>lC (.str z) x
 |_=>false
theorem Hl(r:RelV y u)(f:mB y=true):mH x u=lC y x:=by
 cases y with
 |non=>cases r;rfl
 |bl b=>cases r;rfl
 |int i=>obtain⟨t,rfl⟩:=r;rfl
 |str z=>obtain⟨t,rfl⟩:=r;rfl
 |_=>exact absurd (show false=true from f) qJ
theorem wK:∀{xs:List V} {us:List Value},Vals xs us->xs.all mB=true->us.any (mH x)=xs.any λy=>lC y x
 |_,_,.nil,_=>Z
 |y::xs,u::us,.cons r t,f=>by
  rw[List.all_cons,Bool.and_eq_true]at f;rw[List.any_cons,List.any_cons,Hl r f.1,wK t f.2]
theorem xE(j:RelV x v)(n:mB x=true):∀{xs:List V} {us:List Value},Vals xs us->xs.all mB=true->∀u∈us,SeqAt.EqAt A s u v (mH x u)
 |_,_,.nil,_=>λu i=>by cases i
 |y::xs,u::us,.cons r t,f=>λz i=>by
  rw[List.all_cons,Bool.and_eq_true]at f;rcases gD i with rfl |i
  ·rw[Hl r f.1];exact Bp r j f.1 n
  ·exact xE j n t f.2 z i
def nO(x:V)(xs:List V):Bool:=xs.any λy=>lC y x
def Ep(K:Fg)(neg:Bool):R2:=λx y H Q=>∃p xs,y=.ref p/\(SqL K H p xs\/SqT K H p xs)/\mB x=true/\xs.all mB=true/\Q (.bl (if neg then !nO x xs else nO x xs)) H
def Xu:fC X (compareOp .In) (Ep X.K false):=by
 intro pins s σ H x y v u Q I n G h;obtain⟨p,xs,rfl,i,z,fs,q⟩:=h;cases G;rcases i with i |i
 ·obtain⟨its,r,pl,hz⟩:=I.list i
  refine SeqAt.in_listAt (mH x) pl.isList (λw j=>xE n z r fs w (by simpa using j)) ⟨.bl _,H,I,Z,?_⟩;rw[show its.toArray.any (mH x)=its.any (mH x) by simp,wK r fs];exact q
 ·obtain⟨its,r,pl,hz⟩:=I.tuple i
  refine SeqAt.in_tupleAt (mH x) pl (λw j=>xE n z r fs w (by simpa using j)) ⟨.bl _,H,I,Z,?_⟩;rw[show its.toArray.any (mH x)=its.any (mH x) by simp,wK r fs];exact q
def O9:fC X (compareOp .NotIn) (Ep X.K true):=by
 intro pins s σ H x y v u Q I n G h;obtain⟨p,xs,rfl,i,z,fs,q⟩:=h;cases G;rcases i with i |i
 ·obtain⟨its,r,pl,hz⟩:=I.list i
  refine SeqAt.notIn_listAt (mH x) pl.isList (λw j=>xE n z r fs w (by simpa using j)) ⟨.bl _,H,I,Z,?_⟩;rw[show its.toArray.any (mH x)=its.any (mH x) by simp,wK r fs];exact q
 ·obtain⟨its,r,pl,hz⟩:=I.tuple i
  refine SeqAt.notIn_tupleAt (mH x) pl (λw j=>xE n z r fs w (by simpa using j)) ⟨.bl _,H,I,Z,?_⟩;rw[show its.toArray.any (mH x)=its.any (mH x) by simp,wK r fs];exact q
def xkd:lJ X (.builtin "len") (λxs H Q=>∃p ys,xs=[.ref p]/\(SqL X.K H p ys\/SqT X.K H p ys)/\Q (.int ys.length) H):=by
 intro pins s σ H xs us Q I r h;obtain⟨p,ys,rfl,j,q⟩:=h;obtain⟨u,rfl,y⟩:=nU r;cases y;have hn:=wB;rcases j with j |j
 ·obtain⟨its,n,pl,hz⟩:=I.list j
  have i:=n.length;exact Calls.call_len_list pl.isList (by simp only[List.size_toArray] <;> omega) ⟨.int ys.length,H,I.tok _,⟨s.toks+1,by rw[List.size_toArray,i]⟩,q⟩
 ·obtain⟨its,n,pl,hz⟩:=I.tuple j
  have i:=n.length;exact len_tuple pl (by simp only[List.size_toArray] <;> omega) ⟨.int ys.length,H,I.tok _,⟨s.toks+1,by rw[List.size_toArray,i]⟩,q⟩
def xK:lJ X (.type "list") (λxs H Q=>∃p ys,xs=[.ref p]/\(SqL X.K H p ys\/SqT X.K H p ys)/\∀l,H l=none->Q (.ref l) (upd H l (.lst ys))):=by
 intro pins s σ H xs us Q I r h;obtain⟨p,ys,rfl,z,q⟩:=h;obtain⟨u,rfl,O⟩:=nU r;cases O
 have fin:∀(its:List Value),Vals ys its->ys.length<=sizeLine->∀(h':Heap) (j:Nat),(∀b o',s.heap.get? b=some o'->h'.get? b=some o')->
   h'.get? s.heap.objs.size=some {cls:=.type "list",dict:=none,data:=.seq its.toArray j,slots:=#[]}->EP X pins σ Q (.ref s.heap.objs.size) {s with heap:=h'}:=λits i hz h' j y e=>
  ⟨.ref s.heap.objs.size,_,I.laid (t':=s.toks) y (qD _) (show ObjOk X.prog X.w _ h' _ (.lst ys) from⟨hz,its,j,i,e⟩),Z,q _ (I.hok.fresh (qD _))⟩
 rcases z with z |z
 ·obtain⟨its,i,pl,hz⟩:=I.list z
  have G:=i.length;obtain⟨o,J,M,n,hd⟩:=pl.isList;exact call_list_seq p (.inl Z) J M hd (λh' j y e=>fin its i hz h' j y e) (by simp only[List.size_toArray] <;> omega)
 ·obtain⟨its,i,pl,hz⟩:=I.tuple z
  have G:=i.length;obtain⟨o,J,M,n,hd⟩:=pl;exact call_list_seq p (.inr Z) J M hd (λh' j y e=>fin its i hz h' j y e) (by simp only[List.size_toArray] <;> omega)
def xis:lJ X (.type "tuple") (λxs H Q=>∃p ys,xs=[.ref p]/\((SqL X.K H p ys/\∀l,H l=none->Q (.ref l) (upd H l (.tup ys)))\/(SqT X.K H p ys/\Q (.ref p) H))):=by
 intro pins s σ H xs us Q I r h;obtain⟨p,ys,rfl,h⟩:=h;obtain⟨u,rfl,z⟩:=nU r;cases z;rcases h with⟨j,q⟩ |⟨j,q⟩
 ·obtain⟨its,i,pl,hz⟩:=I.list j
  have n:=i.length;refine call_tuple_list pl.isList (λh' G=>?_) (by simp only[List.size_toArray] <;> omega);have y:Inv X pins σ H {s with heap:=h'}:=I.kept (t':=s.toks) G
  have J:Inv X pins σ (upd H h'.objs.size (.tup ys)) {s with heap:=h'.push {cls:=.type "tuple",data:=.seq its.toArray}}:=
   y.laid (t':=s.toks) (λb o e=>bX _ e) (qD _) (show ObjOk X.prog X.w _ _ _ (.tup ys) from⟨hz,its,i,_,qI _ Z,Z,_,Z,Z⟩)
  exact⟨.ref h'.objs.size,_,J,Z,q _ (y.hok.fresh (qD _))⟩
 ·obtain⟨its,i,pl,hz⟩:=I.tuple j
  exact call_tuple_same pl ⟨.ref p,H,I,Z,q⟩
def Oi(K:Fg)(T:String)(x:V)(H:Hp):Prop:=match x with
 |.str _=>T="str"
 |.int _=>T="int"
 | .ref p=>(T="list"/\∃xs,SqL K H p xs)\/(T="tuple"/\∃o,K.lookup p=some o/\o.cls=.type "tuple"/\o.dict=none) ∨
   (T="dict"/\((∃kvs,H p=some (.dK kvs))\/∃kvs,H p=some (.dT kvs)))\/(T="set"/\∃S n,H p=some (.set S n))
 |_=>False
def Su {pins:List (Addr×Obj)} {σ:St} {H:Hp} {s:Shared} {T:String} {x:V} {v:Value} (I:Inv X pins σ H s) (r:RelV x v) (y:Oi X.K T x H) :
  s.TypeIs v T/\∀a,v=.ref a->∃J,s.heap.get? a=some J/\J.dict=none:=by
 cases x with
 |str z=>
  obtain⟨t,rfl⟩:=r;cases (show T="str" from y);exact⟨typeIs_str s z t,λ_ e=>nomatch e⟩
 |int i=>
  obtain⟨t,rfl⟩:=r;cases (show T="int" from y);exact⟨typeIs_int s i t,λ_ e=>nomatch e⟩
 | ref p=>
  cases r;rcases y with⟨rfl,xs,M⟩ |⟨rfl,o,j,O,hd⟩ |⟨rfl,j⟩ |⟨rfl,S,n,j⟩
  ·obtain⟨its,_,pl,_⟩:=I.list M
   refine⟨pl.isList.typeIs,λa e=>?_⟩;cases e;obtain⟨o,n,e,c,hd,_⟩:=pl;exact⟨o,e,hd⟩
  ·refine⟨⟨o,I.kIn p o j,O⟩,λa e=>?_⟩
   cases e;exact⟨o,I.kIn _ o j,hd⟩
  ·have z:∃o,s.heap.get? p=some o/\o.ExactDict:=by
    rcases j with⟨kvs,j⟩ |⟨kvs,j⟩
    ·obtain⟨_,_,_,_,o,_,_,e,ex,_⟩:=I.hok p _ j
     exact⟨o,e,ex⟩
    ·obtain⟨_,_,_,_,o,_,_,e,ex,_⟩:=I.hok p _ j
     exact⟨o,e,ex⟩
   obtain⟨o,e,ex⟩:=z;refine⟨⟨o,e,ex.1⟩,λa G=>?_⟩;cases G;exact⟨o,e,ex.2.1⟩
  ·obtain⟨o,_,_,_,e,ex,_⟩:=I.hok p _ j
   refine⟨⟨o,e,ex.1⟩,λa G=>?_⟩;cases G;exact⟨o,e,ex.2.1⟩
 |_=>exact False.elim y
def tBM(K:Fg)(T:String)(r:V->List V->Hp->VK->Prop)(to:TE)(t:TA):TE:=λσ H Q=>to σ H λx H1=>Oi K T x H1/\t σ H1 λxs H2=>r x xs H2 Q
variable {o e:Expr}{es:List Expr}{to:TE}{t:TA}{name:Str}{apos cpos:Pos}{T id:String}{r:V->List V->Hp->VK->Prop}
def gM (pa:PlainAttrs T) (y:Slot T name id) (G:typeOf (.builtin id)=pure (.type "method_descriptor")) (hm:Ot X id r) (ho:PE X o to) (ha:PA X (e::es) t)
  (n:attributeBase o name X.env (eval o X.env)=eval o X.env:=by rfl)
  (z:((backTo cpos (starEach (e::es) X.env)).all (λx=>!x.1) && (backToKw cpos (keywordEach [] X.env)).all (λx=>x.1.isSome)
   && decide ((e::es).length+([]:List Keyword).length+(if ([]:List Keyword).isEmpty then 0 else 1)<30))=true:=by rfl)
  (j:(apos.endLine == cpos.line)=true:=by rfl) (hs:starEach (e::es) X.env=(false,eval e X.env)::starEach es X.env:=by rfl) (i:(backTo cpos (starEach es X.env)).any (·.1)=false:=by rfl) :
  PE X (.Call (.Attribute o name apos) (e::es) [] cpos) (tBM X.K T r to t):=by
 intro pins s σ H Q I h;refine wpAny_Call_method_late n z j Z (aU (ho pins s σ H _ I h) λv s1 ⟨x,H1,O,J,U,q1⟩=>?_);obtain⟨h1,h2⟩:=Su O J U;refine⟨T,id,pa,y,G,h1,h2,?_⟩;have M:=ha cpos pins s1 σ H1 _ O q1;rw[hs]at M⊢;refine Calls.callWith_builtin (by show(false || (backTo cpos (starEach es X.env)).any (·.1))=false;rw[i] <;> rfl) (Calls.evalArgs_plain ?_);exact aU M λus Y ⟨vs,H2,I2,r2,q2⟩=>hm pins Y σ H2 x vs v us Q I2 J r2 q2
end
def Ou(X:Cx)(id:String)(r:V->List V->Hp->VK->Prop):Prop:=
 ∀(pins:List (Addr×Obj)) (s:Shared) (σ:St) (H:Hp) (x:V) (xs:List V) (v:Value) (us:List Value) (Q:VK),Inv X pins σ H s->RelV x v->Vals xs us->r x xs H Q->
  wpAny (model X.prog X.w) X.A (call (.builtin id) (v::us)) (EP X pins σ Q) X.xe s
theorem Vals.one:∀{x:V} {us:List Value},Vals [x] us->∃u,us=[u]/\RelV x u
 |_,_,.cons r .nil=>⟨_,Z,r⟩
theorem Vals.two:∀{x y:V} {us:List Value},Vals [x,y] us->∃u v,us=[u,v]/\RelV x u/\RelV y v
 |_,_,_,.cons r (.cons q .nil)=>⟨_,_,Z,r,q⟩
theorem Vals.eraseIdx:∀{xs:List V} {us:List Value} (i:Nat),Vals xs us->Vals (xs.eraseIdx i) (us.eraseIdx i)
 |_,_,_,.nil=>.nil
 |_,_,0,.cons _ t=>t
 |_,_,i+1,.cons r t=>.cons r (Vals.eraseIdx i t)
theorem N2{α:Type}:∀(l:List α) (i:Nat),(l.eraseIdx i).length<=l.length
 |[],_=>qD _
 |_::_,0=>qS _
 |_::r,i+1=>Nat.succ_le_succ (N2 r i)
section
variable {X:Cx}{pins:List (Addr×Obj)}{σ:St}{H:Hp}{s:Shared}{l b:Addr}{xs ys zs:List V}
def Inv.lset {its its':List Value} {f:Array Value->Array Value} (I:Inv X pins σ H s) (G:H l=some (.lst xs))
  (e:s.heap.get? l=some {cls:=.type "list",data:=.seq its.toArray n}) (y:f its.toArray=its'.toArray) (i:Vals ys its') (hz:ys.length<=sizeLine) :
  Inv X pins σ (upd H l (.lst ys)) {s with heap:=s.heap.update l (Obj.mapSeq f),toks:=t'}:=by
 have q:=PySem.IsL.update e f;rw[y]at q;refine I.write (x:=l) (e:=l) (by rw[G];exact trivial) (.inl Z) (λJ u z j=>(Heap.get?_update_other s.heap (Obj.mapSeq f) (Ne.symm z)).trans j) ⟨_,q⟩ ?_;exact⟨hz,its',_,i,q⟩
def Inv.lnew (I:Inv X pins σ H s) (i:Vals ys its) (hz:ys.length<=sizeLine) :
  Inv X pins σ (upd H s.heap.objs.size (.lst ys)) {s with heap:=s.heap.push {cls:=.type "list",data:=.seq its.toArray},toks:=t'}:=
 I.laid (λ_ _ q=>bX _ q) (qD _) ⟨hz,its,0,i,qI _ Z⟩
theorem Inv.fresh(I:Inv X pins σ H s):H s.heap.objs.size=none:=I.hok.fresh (qD _)
def Inv.lstM(I:Inv X pins σ H s)(i:H l=some (.lst xs)):xs.length<=sizeLine/\∃(its:List Value) (n:Nat),Vals xs its/\xs.length=its.length/\s.heap.get? l=some {cls:=.type "list",data:=.seq its.toArray n}:=by
 obtain⟨z,its,n,r,e⟩:=I.hok l _ i;exact⟨z,its,n,r,r.length,e⟩
end
section
variable {X:Cx}
def Uw:V->List V->Hp->VK->Prop:=λx vs H Q=>∃l xs y,x=.ref l/\vs=[y]/\H l=some (.lst xs)/\xs.length<sizeLine/\Q .non (upd H l (.lst (xs++[y])))
def gZ:Ou X "list.append" Uw:=by
 intro pins s σ H x vs v us Q I j G h;obtain⟨l,xs,y,rfl,rfl,i,hz,q⟩:=h;cases j;obtain⟨u,rfl,J⟩:=G.one;obtain⟨z,its,n,r,M,e⟩:=I.lstM i;refine call_meets F.slot_list_append ⟨_,e,Z⟩ F.entry_list_append (F.args_list_append_2 _ _) (PySem.list_append l its.toArray n u (by rw[List.size_toArray];omega)) ⟨e,?_⟩;refine⟨.non,_,I.lset (its':=its++[u]) i e (by simp) (r.append (.cons J .nil)) ?_,Z,q⟩;rw[bS,List.length_singleton];omega
def Sa:V->List V->Hp->VK->Prop:=λx vs H Q=>∃l xs i k y,x=.ref l/\vs=[.int i]/\H l=some (.lst xs)/\-(2 ^ 63)<=i/\i<2 ^ 63/\seqIndex? i xs.length=some k/\xs[k]?=some y/\Q y (upd H l (.lst (xs.eraseIdx k)))
def Wt:Ou X "list.pop" Sa:=by
 intro pins s σ H x vs v us Q I J M h;obtain⟨l,xs,i,k,y,rfl,rfl,G,h1,h2,hk,U,q⟩:=h;cases J;obtain⟨u,rfl,O⟩:=M.one;obtain⟨t,rfl⟩:=O;obtain⟨z,its,n,r,hl,e⟩:=I.lstM G;obtain⟨w,Y,j⟩:=r.get U
 refine call_meets F.slot_list_pop ⟨_,e,Z⟩ F.entry_list_pop (F.args_list_pop_2 _ _)
  (MeetsSeq.list_pop_at l its.toArray n i t k w (fitsIndex_both h1 h2) (by rw[List.size_toArray,<- hl];exact hk) (by rw[<- Array.getElem?_toList];exact Y) (by rw[List.size_toArray];omega)) ⟨e,?_⟩
 refine⟨y,_,I.lset (its':=its.eraseIdx k) G e ?_ (r.eraseIdx k) ?_,j,q⟩
 ·show its.toArray.eraseIdxIfInBounds k=(its.eraseIdx k).toArray
  rw[List.eraseIdxIfInBounds_toArray]
 ·have:=N2 xs k
  omega
def Et:R2:=λx y H Q=>∃l b xs zs,x=.ref l/\y=.ref b/\H l=some (.lst xs)/\H b=some (.lst zs)/\xs.length+zs.length<=sizeLine/\∀p,H p=none->Q (.ref p) (upd H p (.lst (xs++zs)))
def mO:fC X (binaryOp .Add) Et:=by
 intro pins s σ H x y v u Q I G j h;obtain⟨l,b,xs,zs,rfl,rfl,O,U,hz,q⟩:=h;cases G;cases j;obtain⟨z,its,n,r,hl,e⟩:=I.lstM O;obtain⟨z2,i,n2,J,M,e2⟩:=I.lstM U;refine PySem.P.add_list e e2 ?_ (by rw[List.size_toArray,List.size_toArray];omega);have Y:its.toArray++i.toArray=(its++i).toArray:=by simp
 rw[Y];exact⟨.ref _,_,I.lnew (t':=s.toks) (r.append J) (by rw[bS];omega),Z,q _ I.fresh⟩
end
end L2
namespace Att
open PySem PySem.W PySem.Calls PyProof.Rows
def xg5{P:Params}:∀(ns:List Int) (vs:List Value),WellAll P h vs (ns.map WData.int)->IntsAre vs ns:=by
 intro ns
 induction ns with
 |nil=>
  intro vs w;rw[List.map_nil]at w;cases w;exact .nil
 | cons n ns i=>
  intro vs w;rw[List.map_cons]at w
  cases w with
  |cons a b=>
   cases a;exact .cons _ _ (i _ b)
def Y0 {l:OpenLaw} {n:Nat} (hn:l.most=some n) {P:Params} {h:Heap} {args:List WData} {i:List Value}
  (j:l.row.toRowW.claim.pre args=true) (J:WellAll P h i args) :
  ∃a vs ns,i=[Value.ref a]/\args=[WData.list (ns.map WData.int)]/\h.get? a=some {cls:=.type "list",data:=.seq vs.toArray}/\IntsAre vs ns/\ns.length<=n:=by
 have M:WShape.hasAll [] args [.list .int]=true:=(pre_splitW j).1;have O:l.pre.holds [] {args:=args}=true:=(pre_splitW j).2;obtain⟨d,r,rfl,h1,h2⟩:=hasAllW_cons M;obtain rfl:=hasAllW_nil h2;obtain⟨xs,rfl,h3⟩:=hasW_list h1;obtain⟨ns,rfl⟩:=items_int h3
 have y:ns.length<=n:=by
  unfold OpenLaw.pre at O
  have I:(WTm.not (.lt (.lit (.int (n:Int))) (.len (.arg 0)))).holds [] {args:=[.list (ns.map .int)]}=true:=by
   have I:=(holds_andW O).1;rw[hn]at I;exact I
  have G:=condW_of I (w_not (w_lt w_lit (w_len_list (w_arg Z))));rw[aM]at G;refine Nat.le_of_not_lt λq=>?_;have q':(n:Int)<((ns.length:Nat):Int):=by omega
  first
   |(rw[cS q']at G;exact absurd G (aA Z))
   |(simp at G;omega)
 cases J with
 |cons Y U=>
  cases U
  cases Y with
  |list ho z=>exact⟨_,_,ns,Z,Z,ho,xg5 ns _ z,y⟩
def Y3(l:OpenLaw)(args:List WData):l.row.toRowW.claim.post args (.bool true) args=true:=
 postW_of (r:=l.row.toRowW) (X:=(true == true))
  (show WShape.has [] (.bool true) .bool=true by first |rfl |decide |simp[WShape.has,WShape.arms,WShape.armsAll])
  (show(WTm.eq .res (.lit (.bool true))).value [] {args:=args,res:=some (.bool true),after:=args}=some (.bool (true == true)) from w_eq_bool (w_res Z) w_lit) Z
def attach_call {l:OpenLaw} {n:Nat} {q:Program} {loose:List Str} {XP:(Str->Option Value)->Heap->Prop} {YP:World->Heap->Prop} {d:DefRec}
  (hn:l.most=some n) (hdf:d.params.defaults=[])
  (call:∀(w:World) (s₀ s₁:Shared) (mg mb:Str->Option Value) (fa:Addr) (o:Obj) (pm cd doc:Value) (a:Addr) (vs:List Value) (ns:List Int),
   Ground q loose [] XP w s₀ mg mb s₁.heap->YP w s₁.heap->
   s₁.heap.get? fa=some o->o.data=.func (docDef d.name d.params d.body d.scope pm cd doc)->s₁.heap.CodeRec cd d.name->mg d.name=some (.ref fa)->
   s₁.heap.get? a=some {cls:=.type "list",data:=.seq vs.toArray}->IntsAre vs ns->ns.length<=n->s₁.gens=#[]->
   codeAny (model l.prog w) callerA (.call (.ref fa) ⟨[.ref a],[]⟩) (λr s'=>r=.ok (.ret (.bool true))/\OldK s₁.heap s'.heap/\s'.os=s₁.os/\AllBare s'.gens) s₁) :
  WalkO q loose XP YP l.row.toRowW d [] (λf vs=>PySem.call f vs):=by
 intro w s₀ s₁ mg mb G Y fa o pm cd doc dV kV ho hd hcd hD hmg hg args vals as hpre hlay hrd hwl hlo;obtain rfl:dV=.none:=Dflts.none hD hdf;obtain rfl:kV=.none:=Dflts.noKw hD;obtain⟨a,vs,ns,rfl,rfl,hobj,hints,hlen⟩:=Y0 hn hpre hwl;refine enter_call (codeAny_mono (call w s₀ s₁ mg mb fa o pm cd doc a vs ns G Y ho (fd_plain hd) hcd hmg hobj hints hlen hg) λr s' hq=>?_);obtain⟨rfl,h2,h3,h4⟩:=hq;exact⟨.inl ⟨.bool true,.bool true,[],rfl,λ_=>rfl,.bool true,Y3 l _,λ_=>⟨List.Pairwise.nil,λ_ hm=>(nomatch hm)⟩⟩,h2,h3,h4⟩
end Att
namespace L2
open PySem PySem.Spec PyProof.Rows
theorem Ni:∀{vs:List Value} {ns:List Int},IntsAre vs ns->Vals (ns.map V.int) vs
 |_,_,.nil=>.nil
 |_,_,.cons n t h=>.cons ⟨t,Z⟩ (Ni h)
def sP(H:Hp):Prop:=∀b,H b=none\/∃o xs,H b=some (.frz o (.lst xs))
def W7 {P:Program} {w:World} {K:Fg} {mg mb:Str->Option Value} {CX:lZ} {k:Nat} {fa a:Addr} {fd:FuncData} {x:Str} {sp:Sp} {s₁:Shared} {vs:List Value} {ns:List Int}
  (KX:K.In s₁.heap) (hns:s₁.heap.Ns mainGlobals mg) (hb:s₁.heap.Ns builtinsNs mb) (hbb:∀x:Str,x≠"__name__"->mb x=bootBuiltins x) (hlim:s₁.heap.NoLimit) (hg:s₁.gens=#[])
  (ha:s₁.heap.get? a=some {cls:=.type "list",data:=.seq vs.toArray}) (hi:IntsAre vs ns) (hl:ns.length<=sizeLine) (hr:Room k callerA)
  (F:∀base:Heap,K.In base->base.Ns mainGlobals mg->FnOk P w K mg base CX k fa fd [x] sp) (hbind:∀(s:Shared) (u:Value),BindsTo s fd ⟨[u],[]⟩ [(x,u)])
  (hsp:∀H:Hp,sP H->SqL K H a (ns.map V.int)->sp [.ref a] H (λv _=>v=.bl true) λ_ _ _=>False)
  (hCX:∀H e s',CX [] H s₁ (λ_ _ _=>False) e s'->False) :
  codeAny (model P w) callerA (.call (.ref fa) ⟨[.ref a],[]⟩) (λr s'=>r=.ok (.ret (.bool true))/\OldK s₁.heap s'.heap/\s'.os=s₁.os/\AllBare s'.gens) s₁:=by
 have rv:=Ni hi;have lenV:=hi.length
 have core:∀H:Hp,sP H->SqL K H a (ns.map V.int)->HOk P w H s₁.heap->(∀b,H b≠none->b=a)->(H a≠none->K.lookup a=none)->
   codeAny (model P w) callerA (.call (.ref fa) ⟨[.ref a],[]⟩) (λr s'=>r=.ok (.ret (.bool true))/\OldK s₁.heap s'.heap/\s'.os=s₁.os/\AllBare s'.gens) s₁:=by
  intro H hO hS hok hA hK;have base_of:∀{b:Addr} {o:Obj},s₁.heap.get? b=some o->H b=none->(lB s₁.heap H).get? b=some o:=λe n=>W1 e n
  have noA:∀{b:Addr} {o:Obj} {es:Array DictEntry} {ep:Nat},s₁.heap.get? b=some o->o.data=.dict es ep->H b=none:=λ{b o es ep} e d=>by
   cases q:H b with
   |none=>rfl
   |some u=>
    have e':b=a:=hA b (by rw[q];simp);subst e';rw[ha]at e;cases e;have d':Data.seq vs.toArray _=Data.dict es ep:=d;cases d'
  have nsK:∀{b:Addr} {m:Str->Option Value},s₁.heap.Ns b m->(lB s₁.heap H).Ns b m:=λ{b m} ⟨o,es,ep,e,d,r⟩=>⟨o,es,ep,base_of e (noA e d),d,r⟩
  have hKb:K.In (lB s₁.heap H):=λb o e=>base_of (KX b o e) (by
   cases q:H b with
   |none=>rfl
   |some u=>
    have e':b=a:=hA b (by rw[q];simp);subst e';rw[hK (by rw[q];simp)]at e;cases e)
  have hM:Mod K mg (lB s₁.heap H):=⟨hKb,nsK hns,⟨mb,nsK hb,hbb⟩,let ⟨mc,h1,h2⟩:=hlim;⟨mc,nsK h1,h2⟩⟩;have e0:Env0 P w K mg (lB s₁.heap H) callerA [] s₁ H:=⟨rfl,hM,λb o e=>Ue e,Nat.le_of_eq (Xd _ _),trivial,λb hb=>absurd (show b∈([]:List Addr) from hb) (by simp),hok,.of_eq hg⟩;refine codeAny_mono ((F _ hKb (nsK hns)).run callerA [] s₁ H ⟨[.ref a],[]⟩ [.ref a] [.ref a] _ _ hr e0 (hbind s₁ (.ref a)) (.cons rfl .nil) (hsp H hO hS)) λr s' h=>?_
  cases r with
  |error e=>exact(hCX H e s' h).elim
  | ok fl=>
   cases fl with
   |next=>exact False.elim h
   |brk=>exact False.elim h
   |cont=>exact False.elim h
   | ret u=>
    obtain⟨v,H',os,bare,un,hok',r',q⟩:=h;have q':v=.bl true:=q;subst q';obtain rfl:u=Value.bool true:=r';refine⟨rfl,OldK.of_keep λb o e=>?_,os,bare⟩
    cases q:H b with
    |none=>exact un.keep b o e q (by intro z;exact absurd (show b∈([]:List Addr) from z) (by simp)) (by simp)
    | some u=>
     rcases hO b with z |⟨ob,xs,z⟩
     ·rw[q]at z;cases z
     ·have z2:=un.frzs b ob _ z
      obtain⟨e1,_⟩:=hok b _ z;obtain⟨e2,_⟩:=hok' b _ z2;rw[e]at e1;cases e1;exact e2
 cases hk:K.lookup a with
 |some o=>
  have e:=KX a o hk;rw[ha]at e;cases e;refine core (λ_=>none) (λ_=>.inl rfl) (.inr ⟨_,vs.toArray,_,hk,rfl,rfl,rfl,by rw[List.size_toArray,lenV];exact hl,by simpa using rv⟩) (λb u z=>by have z':(none:Option HO)=some u:=z;cases z') (λb z=>absurd rfl z) λz=>absurd rfl z
 | none=>
  refine core (λb=>if b=a then some (.frz {cls:=.type "list",data:=.seq vs.toArray} (.lst (ns.map V.int))) else none) (λb=>?_) (.inl (.inr ⟨{cls:=.type "list",data:=.seq vs.toArray},if_pos rfl⟩)) (λb u z=>?_) (λb z=>?_) λ_=>hk
  ·by_cases hb:b=a
   ·exact .inr ⟨_,_,if_pos hb⟩
   ·exact .inl (if_neg hb)
  ·by_cases hb:b=a
   ·have z':=(if_pos hb).symm.trans z
    cases z';subst hb;exact⟨ha,by rw[aM];exact hl,vs,_,rv,ha⟩
   ·have z':=(if_neg hb).symm.trans z
    cases z'
  ·by_cases hb:b=a
   ·exact hb
   ·exact absurd (if_neg hb) z
abbrev KOf{K:Fg}{h:Heap}(_:K.In h):Fg:=K
def walk_of {l:PySem.W.OpenLaw} {n k:Nat} {q:Program} {loose:List Str} {XP:(Str->Option Value)->Heap->Prop} {YP:World->Heap->Prop} {d:DefRec} {K:Params->Fg} {CX:World->lZ} {sp:World->Sp} {x:Str}
  (hn:l.most=some n) (hn2:n<=sizeLine) (hdf:d.params.defaults=[]) (hr:Room k callerA)
  (hY:∀(w:World) (h:Heap),YP w h->(K w.params).In h)
  (F:∀(w:World) (mg:Str->Option Value) (fa:Addr) (h:Heap),(K w.params).In h->h.Ns mainGlobals mg->mg d.name=some (.ref fa)->
   ∃fd:FuncData,(∀(s:Shared) (u:Value),BindsTo s fd ⟨[u],[]⟩ [(x,u)]) ∧
    ∀base:Heap,(K w.params).In base->base.Ns mainGlobals mg->FnOk l.prog w (K w.params) mg base (CX w) k fa fd [x] (sp w))
  (hsp:∀(w:World) (H:Hp) (a:Addr) (ns:List Int),ns.length<=n->sP H->SqL (K w.params) H a (ns.map V.int)->sp w [.ref a] H (λv _=>v=.bl true) λ_ _ _=>False)
  (hCX:∀(w:World) (H:Hp) (s:Shared) (e:Value) (s':Shared),CX w [] H s (λ_ _ _=>False) e s'->False) :
  PySem.W.WalkO q loose XP YP l.row.toRowW d [] (λf vs=>PySem.call f vs):=by
 refine Att.attach_call hn hdf λw s₀ s₁ mg mb fa o pm cd doc a vs ns G Y ho hd hcd hmg hobj hints hlen hg=>?_;have KX:=hY w _ Y;obtain⟨fd,hb,hF⟩:=F w mg fa _ KX G.T.g hmg;exact W7 KX G.T.g G.T.b G.T.builtins G.T.nolimit hg hobj hints (qC hlen hn2) hr hF hb (λH hO hS=>hsp w H a ns hlen hO hS) λH e s'=>hCX w H s₁ e s'
def rM(s:Stmt):Arguments:=match s with
 |.FunctionDef _ a _ _ _ _ _ _ _ _=>a
 |_=>{posonlyargs:=[],args:=[],vararg:=none,kwonlyargs:=[],kw_defaults:=[],kwarg:=none,defaults:=[]}
def nY(s:Stmt):List Stmt:=match s with
 |.FunctionDef _ _ b _ _ _ _ _ _ _=>b
 |_=>[]
def bH(s:Stmt):Scope:=match s with
 |.FunctionDef _ _ _ _ _ _ sc _ _ _=>sc
 |_=>{kind:=.function,names:=[],isGenerator:=false,isCoroutine:=false}
abbrev CX0:lZ:=λ_ _ _ _ _ _=>False
abbrev E0:XK:=λ_ _ _=>False
def Pk:Bu CX0 X E0:=λ_ _ _ _ _ _ _ h=>h.elim
structure Fun(K:Fg)(x qual:Str)(st:Stmt)(f:Addr)(fd:FuncData):Prop where
 ex:∃(oc:Value) (od:Option Addr) (kV doc pm:Value) (an:Option Addr) (cdv ct:Value) (osl:Array (Option Value)),
  fd=PySem.W.fnOf x qual (rM st) (nY st) (bH st) .none kV doc pm an cdv ct/\K.lookup f=some ⟨oc,od,.func fd,osl⟩/\PySem.W.codeIn K cdv qual=true
 kp:PySem.W.keepIn K (.ref f)=true
section
variable {P:Program}{w:World}{K:Fg}{mg:Str->Option Value}{base:Heap}
theorem Fun.ok {x qual:Str} {st:Stmt} {f:Addr} {fd:FuncData} {N ps:List Str} {k:Nat} {sp:Sp} (F:Fun K x qual st f fd) (S:FnScope N ps (bH st)) (len:∀vs H Q E,sp vs H Q E->vs.length=ps.length)
  (hbody:∀(cdv:Value) (A:Around) (outer:List Env) (s:Shared) (H:Hp) (vs:List V) (Q:VK) (E:XK),Room k (A.deeper (envOfC qual (bH st) s.heap.objs.size f cdv))->sp vs H Q E->
   ∃t,PSs (fS CX0 P w K mg base N qual (bH st) f cdv A outer s H E).nox (nY st) t/\t {nx:=λ_ H'=>Q .non H',rt:=Q} (lL N vs) H):FnOk P w K mg base CX0 (k+1) f fd ps sp:=by
 obtain⟨oc,od,kV,doc,pm,an,cdv,ct,osl,rfl,lk,hcd⟩:=F.ex;refine Gg lk hcd S len λA outer s H vs Q E hr hsp=>?_;obtain⟨t,h,q⟩:=hbody cdv A outer s H vs Q E hr hsp;exact⟨t,h.nox,q⟩
def Hn {x i:Str} {st:Stmt} {f:Addr} {I:Value} {od G:Option Addr} {y:Array (Option Value)} {kV n z j ct:Value} (l:K.lookup f=some ⟨I,od,.func (PySem.W.fnOf x i (rM st) (nY st) (bH st) .none kV n z G j ct),y⟩)
  (c:PySem.W.codeIn K j i=true) (k:PySem.W.keepIn K (.ref f)=true):Fun K x i st f (PySem.W.fnOf x i (rM st) (nY st) (bH st) .none kV n z G j ct):=⟨⟨I,od,kV,n,z,G,j,ct,y,Z,l,c⟩,k⟩
end
def hW{k:Nat}(i:Room k A):A.units+1<cLine:=zW (Nat.add_le_add_left (by decide:1<=64) _) i.units
section
variable {X:Cx}
def pv (i:Nat) {x:Str} {pos:Pos} (y:X.N[i]?=some x:=by rfl) (n:xX X.env.scope x:=by first |exact Or.inl rfl |exact Or.inr (Or.inl rfl) |exact Or.inr (Or.inr rfl)) (hd:(x == ("__debug__":Str))=false:=by decide)
  (j:(x == ("__classdict__":Str))=false:=by decide):PE X (.Name x pos) (pE i):=Rt y n hd j
end
def cG{A B:Prop}(h:B):if false=true then A else B:=by
 rw[if_neg qJ];exact h
def nB{A B:Prop}(h:A):if true=true then A else B:=by
 rw[if_pos Z];exact h
def aJ{c A B:Prop}[Decidable c](h1:c->A)(h2:¬c->B):if c then A else B:=by
 by_cases h:c
 ·rw[if_pos h]
  exact h1 h
 ·rw[if_neg h]
  exact h2 h
def Pg{c A B:Prop}[Decidable c](i:c)(h:B):if (!decide c)=true then A else B:=by
 rw[cS i];exact cG h
def Same(H H':Hp):Prop:=∀b o,H b=some o->H' b=some o
def Same.refl(H:Hp):Same H H:=λ_ _ h=>h
theorem Same.trans(a:Same H H1)(b:Same H1 H2):Same H H2:=λc o h=>b c o (a c o h)
def Same.seq{K:Fg}{H H':Hp}{a:Addr}{xs:List V}(e:Same H H')(h:SqL K H a xs):SqL K H' a xs:=by
 rcases h with(h |⟨o,h⟩) |h
 ·exact .inl (.inl (e _ _ h))
 ·exact .inl (.inr ⟨o,e _ _ h⟩)
 ·exact .inr h
def fT(env:Env):List (Str×NameKind)->List (Str×Addr)->List (Str×Addr)
 |[],cs=>cs
 |(n,k)::r,cs=>fT env r (if k == .free then match env.cells.lookup n with |some a=>(n,a)::cs |none=>cs else cs)
theorem Na:∀{ns:List (Str×NameKind)} {cs:List (Str×Addr)},(∀p∈cs,env.cells.lookup p.1=some p.2)->(fT env ns cs).lookup x=some c->env.cells.lookup x=some c
 |[],cs,h,e=>by
  unfold fT at e;exact h (x,c) (zQ e)
 | (n,k)::r,cs,h,e=>by
  unfold fT at e;refine Na (ns:=r) ?_ e;intro p b;split at b
  ·split at b
   ·rename_i a f
    rcases gD b with rfl |b
    ·exact f
    ·exact h p b
   ·exact h p b
  ·exact h p b
theorem Od:∀{cs:List (Str×Addr)},(∃c,(x,c)∈cs)->∃c,cs.lookup x=some c
 |[],⟨_,h⟩=>nomatch h
 | (n,a)::r,⟨c,h⟩=>by
  rw[List.lookup_cons]
  cases e:x == n with
  |true=>exact⟨a,Z⟩
  | false=>
   rcases gD h with h |h
   ·cases h
    rw[beq_self_eq_true]at e;cases e
   ·exact Od ⟨c,h⟩
theorem Lr:∀{ns:List (Str×NameKind)} {cs:List (Str×Addr)},((∃c,(x,c)∈cs)\/((x,NameKind.free)∈ns/\∃c,env.cells.lookup x=some c))->∃c,(x,c)∈fT env ns cs
 |[],cs,h=>by
  unfold fT;rcases h with h |⟨h,_⟩
  ·exact h
  ·cases h
 | (n,k)::r,cs,h=>by
  unfold fT;refine Lr (ns:=r) ?_;rcases h with⟨c,h⟩ |⟨h,c,a⟩
  ·refine .inl ⟨c,?_⟩
   split
   ·split
    ·exact qO _ h
    ·exact h
   ·exact h
  ·rcases gD h with h |h
   ·cases h
    refine .inl ⟨c,?_⟩;rw[if_pos (aA Z),a];exact List.mem_cons_self
   ·exact .inr ⟨h,c,a⟩
def E9(h:∀p∈a.names,p.2=NameKind.free->∃c,env.cells.lookup p.1=some c):closureFor a env=pure (fT env a.names []):=by
 have go:∀(ns:List (Str×NameKind)) (cs:List (Str×Addr)),(∀p∈ns,p.2=NameKind.free->∃c,env.cells.lookup p.1=some c)->
   (forIn ns cs λ(x:Str×NameKind) (r:List (Str×Addr))=>(if (x.2 == NameKind.free)=true then do
     let y <- cellOf env x.1
     pure (ForInStep.yield ((x.1,y)::r)) else pure (ForInStep.yield r):Sem (ForInStep (List (Str×Addr)))))=(pure (fT env ns cs):Sem (List (Str×Addr))):=by
  intro ns
  induction ns with
  |nil=>intro cs _;rfl
  | cons p r f=>
   intro cs e;obtain⟨n,k⟩:=p;rw[List.forIn_cons];unfold fT;by_cases g:k=NameKind.free
   ·subst g
    obtain⟨c,i⟩:=e (n,.free) List.mem_cons_self Z;have l:cellOf env n=pure c:=by unfold cellOf;rw[i]
    simp only[beq_self_eq_true,if_true,l,i,pure_bind];exact f _ λq b=>e q (qO _ b)
   ·have j:(k == NameKind.free)=false:=by simpa using g
    simp only[j,Bool.false_eq_true,if_false,pure_bind];exact f _ λq b=>e q (qO _ b)
 unfold closureFor;have:=go a.names [] h;simp only[bind_pure_comp,id_map']at this⊢;rw[this];rfl
theorem As {env:Env} {x:Str} {k':NameKind}:∀{ns:List (Str×NameKind)},
  (ns.map λ(n,k)=>if (k == NameKind.free && env.scope.kind == .function && env.kindOf n == some .cell) then (n,NameKind.cell) else (n,k)).lookup x=some k'->
  ∃k,ns.lookup x=some k/\(k'=k\/(k=.free/\k'=.cell))
 |[],h=>by simp at h
 | (n,k)::r,h=>by
  have h':List.lookup x ((if (k == NameKind.free && env.scope.kind == .function && env.kindOf n == some .cell)=true then (n,NameKind.cell) else (n,k))::(r.map λ(n,k)=>if (k == NameKind.free && env.scope.kind == .function && env.kindOf n == some .cell) then (n,NameKind.cell) else (n,k)))=some k':=h;rw[List.lookup_cons];by_cases a:(k == NameKind.free && env.scope.kind == .function && env.kindOf n == some .cell)=true
  ·rw[if_pos a,List.lookup_cons]at h'
   cases e:x == n with
   |true=>
    rw[e]at h';cases h';refine⟨k,Z,.inr ⟨?_,Z⟩⟩;rw[Bool.and_eq_true,Bool.and_eq_true]at a;exact eq_of_beq a.1.1
   |false=>
    rw[e]at h';exact As h'
  ·rw[if_neg a,List.lookup_cons]at h'
   cases e:x == n with
   |true=>
    rw[e]at h';cases h';exact⟨_,Z,.inl Z⟩
   |false=>
    rw[e]at h';exact As h'
theorem E8 {env:Env} {x:Str} {k:NameKind}:∀{ns:List (Str×NameKind)},ns.lookup x=some k->
  ∃k',(ns.map λ(n,k)=>if (k == NameKind.free && env.scope.kind == .function && env.kindOf n == some .cell) then (n,NameKind.cell) else (n,k)).lookup x=some k'/\(k'=k\/(k=.free/\k'=.cell))
 |[],h=>by simp at h
 | (n,b)::r,h=>by
  show ∃k',List.lookup x ((if (b == NameKind.free && env.scope.kind == .function && env.kindOf n == some .cell)=true then (n,NameKind.cell) else (n,b))::(r.map λ(n,k)=>if (k == NameKind.free && env.scope.kind == .function && env.kindOf n == some .cell) then (n,NameKind.cell) else (n,k)))=some k'/\_;rw[List.lookup_cons]at h;by_cases a:(b == NameKind.free && env.scope.kind == .function && env.kindOf n == some .cell)=true
  ·rw[if_pos a,List.lookup_cons]
   cases e:x == n with
   |true=>
    rw[e]at h;cases h;refine⟨_,Z,.inr ⟨?_,Z⟩⟩;rw[Bool.and_eq_true,Bool.and_eq_true]at a;exact eq_of_beq a.1.1
   |false=>
    rw[e]at h;exact E8 h
  ·rw[if_neg a,List.lookup_cons]
   cases e:x == n with
   |true=>
    rw[e]at h;cases h;exact⟨_,Z,.inl Z⟩
   |false=>
    rw[e]at h;exact E8 h
abbrev nH:=List (Option Nat)
def dX(ix:nH)(σ:St):St:=ix.map λo=>(o.bind λj=>σ[j]?).join
def vS(N N':List Str)(sc sc':Scope)(ix:nH):Bool:=
 (ix.length == N'.length) && (sc'.kind == .function) &&
 (sc'.names.all λp=>p.2 != .cell && (p.2 != .local || sc'.names.lookup p.1 == some .local) && (p.2 != .free || (sc.names.lookup p.1 == some .cell || sc.names.lookup p.1 == some .free))) &&
 (List.range ix.length).all λk=>match ix[k]? with
  |some (some j)=>match N'[k]? with
   |some x=>N[j]? == some x && sc'.names.lookup x == some .free
   |none=>false
  |_=>true
structure CapOk(N N':List Str)(sc sc':Scope)(ix:nH):Prop where
 len:ix.length=N'.length
 kind:sc'.kind=.function
 nocell:∀p∈sc'.names,p.2≠.cell
 loc:∀p∈sc'.names,p.2=.local->sc'.names.lookup p.1=some .local
 fre:∀p∈sc'.names,p.2=.free->sc.names.lookup p.1=some .cell\/sc.names.lookup p.1=some .free
 cap:∀(k j:Nat),ix[k]?=some (some j)->∃x,N'[k]?=some x/\N[j]?=some x/\sc'.names.lookup x=some .free
def Da(h:vS N i l a ix=true):CapOk N i l a ix:=by
 unfold vS at h;simp only[Bool.and_eq_true,List.all_eq_true,beq_iff_eq]at h;obtain⟨⟨⟨u,s⟩,f⟩,r⟩:=h;refine⟨u,s,λp b=>?_,λp b n=>?_,λp b o=>?_,λk j m=>?_⟩
 ·have:=(f p b).1.1
  simpa using this
 ·have:=(f p b).1.2
  rw[n]at this;simpa using this
 ·have:=(f p b).2
  rw[o]at this;simpa using this
 ·have c:k<ix.length:=(cV m).1
  have:=r k (List.mem_range.mpr c);rw[m]at this;simp only at this
  cases e:i[k]? with
  |none=>rw[e]at this;simp at this
  |some x=>
   rw[e]at this;simp only[Bool.and_eq_true,beq_iff_eq]at this;exact⟨x,Z,this.1,this.2⟩
abbrev Cx.comp(X:Cx)(sc:Scope)(N':List Str)(C:Addr)(s₀:Shared)(H₀:Hp)(ex:List Addr):Cx:=
 {X with N:=N',s₀:=s₀,H₀:=H₀,env:=compEnvC sc (fT X.env sc.names []) C X.env,outer:=X.stack,stack:=X.stack,ex:=ex,fn:=λ_=>false,pn:=[],xe:=λ_ _=>False}
def oU(σ σ':St):Prop:=σ.length=σ'.length/\∀(i:Nat) v,σ[i]?=some (some v)->σ'[i]?=some (some v)
def Ck(h:σ[i]?=some none):oU σ (σ.set i v):=by
 refine⟨by simp,λj w e=>?_⟩;by_cases a:i=j
 ·subst a;rw[h]at e;cases e
 ·rw[List.getElem?_set_ne a];exact e
def PTs(X:Cx)(ifs:List Expr)(t:TT):Prop:=
 ∀(pins:List (Addr×Obj)) (s:Shared) (σ:St) (H:Hp) (Q:Bool->Hp->Prop),Inv X pins σ H s->t σ H Q->
  wpAny (model X.prog X.w) X.A (forIn ifs true λc r=>if r=true then do let ok <- isTrue c X.env (eval c X.env);pure (ForInStep.yield ok) else pure (ForInStep.yield r)) (TP X pins σ Q) X.xe s
def iY:TT:=λ_ H Q=>Q true H
def iH:PTs X [] iY:=λ_ _ _ H _ I h=>wpAny_tests_nil ⟨H,I,h⟩
def pW{t:TT}(h:PT X c t):PTs X [c] t:=λa s σ H Q I b=>wpAny_tests_one (h a s σ H Q I b)
def oW(J:It)(ix:nH)(g:TG)(tt:TT)(te:TE)(σ:St)(H1:Hp)(Q:VK):Prop:=∃W:Nat->Nat->List V->Hp->Prop,(∃m,W 0 m [] H1)/\∀i m ys H,W i m ys H->
 (J.stop i H/\∀D,H D=none->Q (.ref D) (upd H D (.lst ys))) ∨
 (J.go i H/\ys.length<sizeLine/\∀x H',J.yld i H x H'->g x (dX ix σ) H' λσ2 H2=>oU (dX ix σ) σ2/\tt σ2 H2 λb H3=>
  if b=true then te σ2 H3 λy H4=>∃m',m'<m/\W (i+1) m' (ys++[y]) H4 else ∃m',m'<m/\W (i+1) m' ys H3)
def Bi(ix:nH)(wi:TI)(g:TG)(tt:TT)(te:TE):TE:=λσ H Q=>wi σ H λJ H1=>oW J ix g tt te σ H1 Q
def HOk.track(x:HOk P w H h)(hn:H a=none)(new:ObjOk P w (upd H a o) h a o):HOk P w (upd H a o) h:=λb u e=>by
 by_cases f:b=a
 ·subst f;rw[aD]at e;cases e;exact new
 ·rw[cO f]at e
  exact(x b u e).stay (λc v _ q=>q) (λc q=>by rw[cO (dJ q hn)];exact q) λc xs q=>by rw[cO (dJ q hn)];exact q
theorem xer {pos:Pos} (I:Nat->Shared->Prop)
  (o:∀ n s,I n s->wpAny (model prog w) A (pyNext it) (λr y=>match r with
   |none=>R (.ok .next) y
   | some v=>wpAny (model prog w) A (letOwnedTupleGo a it v) (λ_ p=>wpAny (model prog w) A (assign a env v) (λ_ J=>
     wpAny (model prog w) A (forIn j true λc r=>if r=true then do let ok <- isTrue c env (eval c env);pure (ForInStep.yield ok) else pure (ForInStep.yield r)) (λok u=>
      if ok=true then wpAny (model prog w) A (eval l env) (λx G=>
       wpAny (model prog w) A (call (.builtin "list.append") [acc,x]) (λ_ C=>∃m,m<n/\I m C) (notedBy (model prog w) A env λe f=>R (.error e) f) G) (notedBy (model prog w) A env λe f=>R (.error e) f) u
      else ∃m,m<n/\I m u) (notedBy (model prog w) A env λe f=>R (.error e) f) J) (notedBy (model prog w) A env λe f=>R (.error e) f) p) (notedBy (model prog w) A env λe f=>R (.error e) f) y) (notedBy (model prog w) A env λe f=>R (.error e) f) s)
  (n:Nat) (h:I n s) :
  codeAny (model prog w) A (.compLoop (.ListComp l [⟨a,i,j,0⟩] b pos) 0 it acc env) R s:=by
 refine codeAny_loop Z I (λn s hI=>?_) n h;show wpAny _ A ((compTurn (.ListComp l [⟨a,i,j,0⟩] b pos) 0 it acc env).onRaise (λx=>do noteFrame x env;theTreesLotGoes x)) _ _ s;refine wpAny_noted ?_;rw[compTurn_list];refine qB (wpAny_standAt (qB (wpAny_mono (o n s hI) (λr y h₁=>?_) λ_ _ h'=>h')))
 cases r with
 |none=>exact qG h₁
 | some v=>
  refine qB (wpAny_mono h₁ (λ_ p z=>?_) λ_ _ h'=>h');refine qB (wpAny_mono z (λ_ J Y=>qB (wpAny_mono Y (λok u M=>?_) λ_ _ h'=>h')) λ_ _ h'=>h')
  cases ok with
  |false=>exact qG ⟨Z,M⟩
  |true=>
   exact qB (qB (wpAny_mono M (λx G U=>qB (wpAny_mono U (λ_ C O=>qG (qG ⟨Z,O⟩)) λ_ _ h'=>h')) λ_ _ h'=>h'))
section
variable {X:Cx}
def tO{α:Type}{t:Sem α}{Q:α->Shared->Prop}{E:Value->Shared->Prop}(h:wpAny M A t Q (λ_ _=>False) s):wpAny M A t Q E s:=wpAny_mono h (λ_ _ q=>q) λ_ _ z=>z.elim
def E6 {Cp:Cx->Prop} {elt tg iter:Expr} {ifs:List Expr} {sc:Scope} {pos:Pos} {N':List Str} {ix:nH} {g:TG} {tt:TT} {te:TE} {pins:List (Addr×Obj)} {σ:St} {s:Shared} {Q:VK} {RR:Value->Addr->Result->Shared->Prop} {E:Value->Shared->Prop}
  {itv:Value} (hc:∀C s₀ H₀ ex,Cp (X.comp sc N' C s₀ H₀ ex)) (ok:CapOk X.N N' X.env.scope sc ix)
  (hg:∀C s₀ H₀ ex,PG (X.comp sc N' C s₀ H₀ ex) tg g) (ht:∀C s₀ H₀ ex,PTs (X.comp sc N' C s₀ H₀ ex) ifs tt) (he:∀C s₀ H₀ ex,PE (X.comp sc N' C s₀ H₀ ex) elt te)
  (hi:xZ Cp X pins σ tg (λJ H1=>oW J ix g tt te σ H1 Q) itv s)
  (fin:∀(D C:Addr) (s':Shared) (H':Hp) (m:Str->Option Value),Inv X pins σ H' s'->Q (.ref D) H'->s'.heap.Ns C m->H' C=none->C≠X.env.locals->X.s₀.heap.objs.size<=C->(∀x c,X.env.cells.lookup x=some c->c≠C)->(∀p∈X.pn++pins,p.1≠C)->
   RR (.ref D) C (.ok .next) s') :
  wpAny (model X.prog X.w) X.A (newList []) (λacc s₃=>wpAny (model X.prog X.w) X.A (newFunctionEnv sc X.env.globals (fT X.env sc.names []) [] X.env.qual none .none (some X.env)) (λcenv s₄=>
   codeAny (model X.prog X.w) X.A (.compStart (.ListComp elt [⟨tg,iter,ifs,0⟩] sc pos) 0 itv acc {cenv with scope:=relabel sc X.env}) (RR acc cenv.locals) s₄) E s₃) E s:=by
 obtain⟨it,fp,tn,J,H2,rfl,I2,T,st2,f2,W,⟨m0,w0⟩,turn⟩:=hi;refine wpAny_newObj_type (wpAny_newFunctionEnv ok.nocell (by intro y hy;simp at hy) (λh₁ hns₁ hsb₁=>?_) ok.kind);dsimp only at hns₁ hsb₁⊢;generalize hHD:s.heap.push {cls:=.type "list",dict:=none,data:=.seq ([]:List Value).toArray}=hD at hns₁ hsb₁⊢;have hCs:hD.objs.size=s.heap.objs.size+1:=by rw[<- hHD,Heap.size_push]
 have upC:s.heap.objs.size<hD.objs.size:=by rw[hCs];exact Nat.lt_succ_self _
 have hDC:s.heap.objs.size≠hD.objs.size:=by rw[hCs];exact qL (Nat.lt_succ_self _)
 have below:∀b o,s.heap.get? b=some o->b≠hD.objs.size/\b≠s.heap.objs.size:=λb o e=>by
  have:=qH e;exact⟨qL (by rw[hCs];exact Nat.lt_succ_of_lt this),qL this⟩
 have old:∀b o,s.heap.get? b=some o->h₁.get? b=some o:=λb o e=>hsb₁.extBut b o (below b o e).1 (bX _ (hHD ▸ bX _ e));have hacc:h₁.get? s.heap.objs.size=some {cls:=.type "list",data:=.seq ([]:List Value).toArray 0}:=hsb₁.extBut _ _ hDC (bX _ (hHD ▸ qI _ rfl));have fpo:∀b∈fp,b<s.heap.objs.size:=λb hb=>let ⟨o,e,_⟩:=T.obj _ _ st2 b hb;qH e;have cellX:∀x c,(fT X.env sc.names []).lookup x=some c->X.env.cells.lookup x=some c:=λx c e=>Na (λp hp=>absurd hp (by simp)) e;have cellLt:∀x c,X.env.cells.lookup x=some c->c<s.heap.objs.size:=λx c e=>let ⟨v,z⟩:=I2.cell x c e;z.lt
 have hasC:∀x,(x,NameKind.free)∈sc.names->∃c,(fT X.env sc.names []).lookup x=some c:=λx hx=>by
  have h1:=I2.ok.has x (ok.fre (x,.free) hx rfl);exact Od (Lr (.inr ⟨hx,h1⟩))
 have okX:(X.comp sc N' hD.objs.size s H2 fp).Ok:=by
  refine⟨I2.ok.mod,ok.kind,I2.ok.glob,I2.ok.blt,?_,?_,?_,?_,I2.ok.hd,I2.ok.frames,.inl rfl,?_,I2.bs,qC I2.ok.bsz I2.sz,?_,?_,I2.stack,I2.stkFree⟩
  ·exact Nat.le_of_lt upC
  ·intro x y c h1 h2
   exact I2.ok.inj x y c (cellX x c h1) (cellX y c h2)
  ·intro x hx
   have hx':(relabel sc X.env).names.lookup x=some .cell\/(relabel sc X.env).names.lookup x=some .free:=hx
   have:∃k,sc.names.lookup x=some k/\(k=.free\/k=.cell):=by
    rcases hx' with h |h
    ·obtain⟨k,e,z⟩:=As h
     rcases z with z |⟨z,_⟩
     ·exact⟨k,e,.inr z.symm⟩
     ·exact⟨k,e,.inl z⟩
    ·obtain⟨k,e,z⟩:=As h
     rcases z with z |⟨_,z⟩
     ·exact⟨k,e,.inl z.symm⟩
     ·cases z
   obtain⟨k,e,z⟩:=this;rcases z with rfl |rfl
   ·exact hasC x (zQ e)
   ·exact absurd rfl (ok.nocell _ (zQ e))
  ·intro x c h _
   cases h
  ·intro b hb
   refine⟨?_,λx c e=>(f2 b hb).2.2.2.2.1 x c (cellX x c e)⟩;exact qL (by rw[hCs];exact Nat.lt_succ_of_lt (fpo b hb))
  ·intro b o e hb
   rcases(f2 b hb).2.2.2.1 with z |z
   ·exact I2.ok.noex b o e z
   ·exact absurd (qM (qH (I2.ok.bs b o e).1) z) (qQ _)
  ·intro b hb z
   rcases gD (I2.stkSub b z) with z |z
   ·exact(f2 b hb).2.1 z
   ·exact(f2 b hb).2.2.1 z
 have hnD:H2 s.heap.objs.size=none:=I2.hok.fresh (qD _);have hnC:H2 hD.objs.size=none:=I2.hok.fresh (Nat.le_of_lt upC)
 have nofsD:∀a,s.heap.objs.size<=a->a ∉gL X.stack:=λa ha z=>by
  rcases gD (I2.stkSub a z) with z |z
  ·exact absurd (qM I2.lt ha) (by rw[z];exact qQ _)
  ·exact I2.nofs ha z
 have lL:Inv (X.comp sc N' hD.objs.size s H2 fp) [(s.heap.objs.size,{cls:=.type "list",data:=.seq ([]:List Value).toArray 0})] (dX ix σ) H2 {s with heap:=h₁,toks:=s.toks+([]:List (Str×Value)).length}:=by
  refine⟨okX,rfl,I2.bare,Un.kept old,⟨_,hns₁,?_⟩,λx c e=>?_,hnC,λx c e=>I2.freeC x c (cellX x c e),λp hp=>?_,I2.hok.kept old,?_⟩
  ·intro i x v hN hv hvis
   have hl:i<ix.length:=by rw[ok.len];exact(cV hN).1
   have hv':(ix.map λo=>(o.bind λj=>σ[j]?).join)[i]?=some (some v):=hv;rw[dA,cF hl]at hv';have hv'':((ix[i].bind λj=>σ[j]?).join)=some v:=qK hv'
   cases ej:ix[i] with
   |none=>rw[ej]at hv'';cases hv''
   | some j=>
    rw[ej]at hv''
    have hσ:σ[j]?=some (some v):=by
     have z:(σ[j]?).join=some v:=hv''
     cases q:σ[j]? with
     |none=>rw[q]at z;cases z
     |some o=>rw[q]at z;exact congrArg some z
    obtain⟨x',e1,e2,e3⟩:=ok.cap i j (by rw[cF hl,ej]);rw[show N'[i]?=some x from hN]at e1;cases e1;have hk:=ok.fre (x,.free) (zQ e3) rfl;obtain⟨m,hm,hl'⟩:=I2.loc;obtain⟨u,ru,lk⟩:=hl' j x v e2 hσ (hk.elim (λz=>.inr (.inl z)) λz=>.inr (.inr z));refine⟨u,ru,.inr ⟨?_,?_⟩⟩
    ·show(relabel sc X.env).names.lookup x=some .cell\/(relabel sc X.env).names.lookup x=some .free
     obtain⟨k',q1,q2⟩:=E8 (env:=X.env) e3;rcases q2 with q2 |⟨_,q2⟩
     ·exact .inr (q1.trans (congrArg some q2))
     ·exact .inl (q1.trans (congrArg some q2))
    ·obtain⟨c,hc'⟩:=hasC x (zQ e3)
     refine⟨c,hc',?_⟩;rcases lk with⟨z,_⟩ |⟨_,c',ec,⟨o,ho,hd⟩⟩
     ·have z':X.env.scope.names.lookup x=some .local:=z
      rcases hk with hk |hk
      ·rw[z']at hk;cases hk
      ·rw[z']at hk;cases hk
     ·rw[cellX x c hc']at ec
      cases ec;exact⟨o,old _ _ ho,hd⟩
  ·obtain⟨v,o,ho,hd⟩:=I2.cell x c (cellX x c e)
   exact⟨v,o,old _ _ ho,hd⟩
  ·have e:p=(s.heap.objs.size,{cls:=.type "list",data:=.seq ([]:List Value).toArray 0}):=by simpa using hp
   subst e;exact⟨hacc,hnD,hDC,nofsD _ (qD _),λv z=>by cases z⟩
  ·show(ix.map _).length=N'.length
   rw[aM];exact ok.len
 have st1:tn 0 h₁:=T.keep _ _ _ st2 λb hb o e=>old b o e
 have loop:∀s₃:Shared,s₃={s with heap:=h₁,toks:=s.toks+([]:List (Str×Value)).length}->
   codeAny (model X.prog X.w) X.A (.compLoop (.ListComp elt [⟨tg,iter,ifs,0⟩] sc pos) 0 (.ref it) (.ref s.heap.objs.size) (compEnvC sc (fT X.env sc.names []) hD.objs.size X.env))
    (RR (.ref s.heap.objs.size) hD.objs.size) s₃:=by
  rintro s₃ rfl
  have fpI:∀{H':Hp} {o:Obj},(∀b∈fp,H' b=none)->∀b∈fp,FpOk (X.comp sc N' hD.objs.size s H2 fp) [(s.heap.objs.size,o)] H' b:=λ{H' o} hn b hb=>by
   have hlt:=fpo b hb;refine⟨hn b hb,(okX.exf b hb).1,okX.exfs b hb,.inl hb,(okX.exf b hb).2,λp hp=>?_⟩;have e:p=(s.heap.objs.size,o):=by simpa using hp
   subst e;exact Nat.ne_of_gt hlt
  refine xer (λn s'=>∃i ys its k H',Inv (X.comp sc N' hD.objs.size s H2 fp) [(s.heap.objs.size,{cls:=.type "list",data:=.seq its.toArray k})] (dX ix σ) H' s'/\Vals ys its/\ys.length<=sizeLine/\tn i s'.heap/\(∀b∈fp,H' b=none)/\W i n ys H')
   ?_ m0 ⟨0,[],[],0,H2,lL,.nil,qX _,st1,λb hb=>(f2 b hb).1,w0⟩
  rintro n s4 ⟨i,ys,its,k,H4,I4,r4,z4,st4,fr4,w4⟩;rcases turn i n ys H4 w4 with⟨stop,q⟩ |⟨go,hz,step⟩
  ·refine tO (aU (T.done (X.comp sc N' hD.objs.size s H2 fp) rfl rfl rfl (hc _ _ _ _) i _ s4 _ H4 (λ_ _=>False) I4 (fpI fr4) st4 stop) λr s5 ⟨hr,I5⟩=>?_)
   subst hr;show RR (.ref s.heap.objs.size) hD.objs.size (.ok .next) s5;obtain⟨pD,nD,_,_,_⟩:=I5.pin (s.heap.objs.size,{cls:=.type "list",data:=.seq its.toArray k}) (by simp);obtain⟨m5,hm5,_⟩:=I5.loc;have okD:HOk X.prog X.w (upd H4 s.heap.objs.size (.lst ys)) s5.heap:=I5.hok.track nD ⟨z4,its,k,r4,pD⟩
   have un:Un (gL X.stack) fp H2 (upd H4 s.heap.objs.size (.lst ys)) s.heap s5.heap:=by
    have B:Un (gL X.stack) fp H2 H4 s.heap s5.heap:=I5.base;have ne:∀b u,H2 b=some u->b≠s.heap.objs.size:=λb u e=>dJ e hnD;refine⟨B.keep,B.slot,λb o e n hb=>?_,B.there,λb xs e=>?_,λb o u e=>?_,λb ps e=>?_⟩
    ·rw[cO (below b o e).2];exact B.free b o e n hb
    ·rw[cO (ne b _ e)];exact B.tups b xs e
    ·rw[cO (ne b _ e)];exact B.frzs b o u e
    ·rw[cO (ne b _ e)];exact B.tbls b ps e
   have IX:Inv X pins σ (upd H4 s.heap.objs.size (.lst ys)) s5:=I2.call' (ch:=fp) I5.os un okD I5.bare λb hb=>⟨(f2 b hb).2.2.2.1,(f2 b hb).2.1,(f2 b hb).2.2.2.2.1,(f2 b hb).2.2.2.2.2⟩;refine fin _ _ s5 _ m5 IX (q _ nD) hm5 ?_ (Nat.ne_of_gt (Nat.lt_trans I2.lt upC)) (Nat.le_of_lt (zW I2.sz upC)) (λx c e=>qL (Nat.lt_trans (cellLt x c e) upC)) (λp hp=>qL (Nat.lt_trans (qH (I2.pin p hp).1) upC));rw[cO (Ne.symm hDC)];exact I5.free
  ·refine tO (aU (T.item (X.comp sc N' hD.objs.size s H2 fp) rfl rfl rfl (hc _ _ _ _) i _ s4 _ H4 (λ_ _=>False) I4 (fpI fr4) st4 go) λr s5 ⟨u,hr,h5⟩=>?_)
   subst hr;refine tO (aU h5 λ_ s6 ⟨x,H6,I6,r6,y6,st6,fr6⟩=>?_);have I6':=I6.pinned (fpI fr6) (T.obj _ _ st6);refine tO (aU (hg _ _ _ _ _ s6 _ H6 x u _ I6' r6 (step x H6 y6)) λ_ s7 ⟨σ7,H7,I7,x7,q7⟩=>?_);refine tO (aU (ht _ _ _ _ _ s7 σ7 H7 _ I7 q7) λb s8 ⟨H8,I8,q8⟩=>?_)
   have back:∀{s9:Shared} {H9:Hp},Inv (X.comp sc N' hD.objs.size s H2 fp) ([(s.heap.objs.size,{cls:=.type "list",data:=.seq its.toArray k})]++wD fp s6.heap) σ7 H9 s9->
     Inv (X.comp sc N' hD.objs.size s H2 fp) [(s.heap.objs.size,{cls:=.type "list",data:=.seq its.toArray k})] (dX ix σ) H9 s9/\tn (i+1) s9.heap/\(∀b∈fp,H9 b=none):=λ{s9 H9} J9=>by
    refine⟨(J9.unpinned).weak x7.1 x7.2,T.keep _ _ _ st6 λb hb o e=>(J9.pin (b,o) (zM _ (zM _ (An hb e)))).1,λb hb=>?_⟩;obtain⟨o,e,d⟩:=T.obj _ _ st6 b hb;exact(J9.pin (b,o) (zM _ (zM _ (An hb e)))).2.1
   cases b with
   |false=>
    rw[if_neg qJ]at q8⊢;obtain⟨m',hm,w8⟩:=q8;obtain⟨J8,st8,fr8⟩:=back I8;exact⟨m',hm,i+1,ys,its,k,H8,J8,r4,z4,st8,fr8,w8⟩
   | true=>
    rw[if_pos rfl]at q8⊢;refine tO (aU (he _ _ _ _ _ s8 σ7 H8 _ I8 q8) λy s9 ⟨v9,H9,I9,r9,q9⟩=>?_);obtain⟨m',hm,w9⟩:=q9;obtain⟨J9,st9,fr9⟩:=back I9;obtain⟨pD,nD,neC,nf,_⟩:=J9.pin (s.heap.objs.size,{cls:=.type "list",data:=.seq its.toArray k}) (by simp);have hlen:=r4.length;refine call_meets F.slot_list_append ⟨_,pD,rfl⟩ F.entry_list_append (F.args_list_append_2 _ _) (PySem.list_append s.heap.objs.size its.toArray k y (by rw[List.size_toArray];omega)) ⟨pD,?_⟩;have q:=PySem.IsL.update pD (·.push y);have ep:its.toArray.push y=(its++[y]).toArray:=by simp
    dsimp only at q;rw[ep]at q;obtain⟨k',q⟩:∃k',(s9.heap.update s.heap.objs.size (Obj.mapSeq (·.push y))).get? s.heap.objs.size=some {cls:=.type "list",data:=.seq (its++[y]).toArray k'}:=⟨_,q⟩;have J0:Inv (X.comp sc N' hD.objs.size s H2 fp) [] (dX ix σ) H9 s9:=J9.pins_of λp hp=>absurd hp (by simp)
    have J1:Inv (X.comp sc N' hD.objs.size s H2 fp) [] (dX ix σ) H9 {s9 with heap:=s9.heap.update s.heap.objs.size (Obj.mapSeq (·.push y))}:=
     J0.turned (it:=s.heap.objs.size) (t':=s9.toks) (λb o hb e=>(Heap.get?_update_other _ _ (Ne.symm hb)).trans e) nD neC (.inr (qD _)) (λx c e=>qL (cellLt x c (cellX x c e))) λp hp=>absurd hp (by simp)
    refine⟨m',hm,i+1,ys++[v9],its++[y],k',H9,J1.pins_of λp hp=>?_,r4.append (.cons r9 .nil),?_,T.keep _ _ _ st9 λb hb o e=>(Heap.get?_update_other _ _ ?_).trans e,fr9,w9⟩
    ·have e:p=_:=cD hp
     subst e;exact⟨q,nD,neC,nf,λv z=>by cases z⟩
    ·rw[bS,List.length_singleton];omega
    ·exact Nat.ne_of_gt (fpo b hb)
 exact codeAny_compStart_list (loop _ rfl) (T.self _ 0 _ _ _ st1 (loop _ rfl))
def Inv.letGo {pins:List (Addr×Obj)} {σ:St} {H:Hp} {s:Shared} {C:Addr} {h':Heap} (I:Inv X pins σ H s) (hs:Heap.SameBut C s.heap h') (h0:H C=none) (h1:C≠X.env.locals) (h2:X.s₀.heap.objs.size<=C) (h3:∀x c,X.env.cells.lookup x=some c->c≠C)
  (h4:∀p∈X.pn++pins,p.1≠C):Inv X pins σ H {s with heap:=h'}:=I.turned (t':=s.toks) (λb o hb e=>(hs.2 b hb).trans e) h0 h1 (.inr h2) h3 h4
def iT {pos:Pos} (N':List Str) (ix:nH) (hc:X.calm=true) (hok:vS X.N N' X.env.scope sc ix=true)
  (hi:PI X tg iter wi) (hg:∀C s₀ H₀ ex,PG (X.comp sc N' C s₀ H₀ ex) tg g) (ht:∀C s₀ H₀ ex,PTs (X.comp sc N' C s₀ H₀ ex) ifs tt) (he:∀C s₀ H₀ ex,PE (X.comp sc N' C s₀ H₀ ex) elt te)
  (hs:∀x,foldedSetIterable iter X.env x=pure x:=by intro _;rfl):PE X (.ListComp elt [⟨tg,iter,ifs,0⟩] sc pos) (Bi ix wi g tt te):=by
 intro pins s σ H Q I h;have ok:=Da hok;rw[eval_ListComp];refine wpAny_comprehension_free (use:=none) rfl hs (E9 λp hp hk=>I.ok.has p.1 (ok.fre p hp hk)) ok.kind ok.loc (aU (hi pins s σ H _ I h) λv s1 h1=>aU h1 λitv s2 h2=>?_);refine E6 (Cp:=λX=>X.calm=true) (RR:=λacc C=>compPost (model X.prog X.w) X.A X.xe none (EP X pins σ Q) acc C) (λ_ _ _ _=>hc) ok hg ht he h2 ?_;intro D C s' H' m I' q hm h0 h1 h2 h3 h4;exact⟨m,hm,λh' hsb=>⟨.ref D,H',I'.letGo hsb h0 h1 h2 h3 h4,rfl,q⟩⟩
def pB {pos spos py:Pos} (N':List Str) (ix:nH) (hc:X.calm=true) (hok:vS X.N N' X.env.scope sc ix=true)
  (hN:X.N.Nodup) (hy:X.N[i]?=some y) (hx:qV X.env.scope y)
  (hi:PI X tg iter wi) (hg:∀C s₀ H₀ ex,PG (X.comp sc N' C s₀ H₀ ex) tg g) (ht:∀C s₀ H₀ ex,PTs (X.comp sc N' C s₀ H₀ ex) ifs tt) (he:∀C s₀ H₀ ex,PE (X.comp sc N' C s₀ H₀ ex) elt te)
  (hs:∀x,foldedSetIterable iter X.env x=pure x:=by intro _;rfl) (hsw:swapsWith (.ListComp elt [⟨tg,iter,ifs,0⟩] sc pos) (some (.Name y py)) spos.line X.env=pure true:=by rfl)
  (hf:X.fn y=true\/X.env.scope.names.lookup y=some .local:=by first |exact .inl rfl |exact .inr rfl |assumption) :
  PS X (.Assign [.Name y py] (.ListComp elt [⟨tg,iter,ifs,0⟩] sc pos) spos) (oF (Bi ix wi g tt te) (nV i)):=by
 intro pins s σ H D I h;have ok:=Da hok;rw[exec_Assign_Name_used _ _ _ _ hsw];refine qB (wpAny_standAt (qB ?_));show wpAny _ X.A (do let _ <- comprehension (.ListComp elt [⟨tg,iter,ifs,0⟩] sc pos) sc X.env _ (newList []) false (eval iter X.env) (some (assign (.Name y py) X.env))) _ _ s
 refine qB (wpAny_mono (wpAny_comprehension_free (use:=some (assign (.Name y py) X.env)) (Q:=λ_ s'=>SP X pins D .next s') rfl hs (E9 λp hp hk=>I.ok.has p.1 (ok.fre p hp hk)) ok.kind ok.loc
  (aU (hi pins s σ H _ I h) λv s1 h1=>aU h1 λitv s2 h2=>?_)) (λ_ s' hq=>qG (qG hq)) λ_ _ e=>e)
 refine E6 (Cp:=λX=>X.calm=true) (Q:=λx H1=>nV i x σ H1 D.nx) (RR:=λacc C=>compPost (model X.prog X.w) X.A X.xe (some (assign (.Name y py) X.env)) (λ_ s'=>SP X pins D .next s') acc C) (λ_ _ _ _=>hc) ok hg ht he h2 ?_;intro Dl C s' H' m I' q hm h0 h1 h2 h3 h4;refine wpAny_assign_Name (Nn I' hN hy hx (v:=.ref Dl) rfl (λs3 I3 sb=>?_) hf);obtain⟨a,hsb,ha⟩:=sb
 have hne:C≠a:=by
  rcases ha with e |e
  ·rw[e];exact h1
  ·exact Ne.symm (h3 y a e)
 exact⟨m,hm.sameBut hsb hne,λh' hs'=>⟨_,H',I3.letGo hs' h0 h1 h2 h3 h4,q⟩⟩
end
section
variable {ix:nH}{tt:TT}{te:TE}{g:TG}{σ:St}{H:Hp}{Q:VK}
def B1(Pv:Nat->List V->Hp->Prop)(n i:Nat)(ys:List V):VK:=λy H2=>∃m',m'<n-i/\m'=n-(i+1)/\i+1<=n/\(ys++[y]).length=i+1/\Pv (i+1) (ys++[y]) H2
def nL(hi:i<n)(c:ys.length=i)(h:a (i+1) (ys++[y]) b):B1 a n i ys y b:=
 ⟨n-(i+1),by omega,Z,hi,by rw[bS,List.length_singleton,c],h⟩
def Al {lo:Int} {n j:Nat} (Pv:Nat->List V->Hp->Prop) (hj:(dX ix σ)[j]?=some none) (h0:Pv 0 [] H) (hn:n<sizeLine)
  (hs:∀i ys H,i<n->ys.length=i->Pv i ys H->te ((dX ix σ).set j (some (.int (lo+i)))) H (B1 Pv n i ys))
  (hd:∀ys H,ys.length=n->Pv n ys H->∀D,H D=none->Q (.ref D) (upd H D (.lst ys))):oW (sS lo n) ix (nV j) iY te σ H Q:=by
 refine⟨λi m ys H=>m=n-i/\i<=n/\ys.length=i/\Pv i ys H,⟨n,by simp,qX _,rfl,h0⟩,?_⟩;rintro i m ys H ⟨rfl,hi,hl,p⟩;by_cases hlt:i<n
 ·refine .inr ⟨hlt,by omega,λx H' y=>?_⟩
  obtain⟨e,y⟩:=y;subst e y;refine⟨Ck hj,?_⟩;unfold iY;dsimp only;rw[if_pos rfl];exact hs i ys _ hlt hl p
 ·have e:i=n:=by omega
  subst e;exact .inl ⟨qD _,hd ys H hl p⟩
def Nb {K:Fg} {a:Addr} {xs:List V} {j:Nat} (Pv:Nat->List V->Hp->Prop) (hj:(dX ix σ)[j]?=some none) (h0:Pv 0 [] H) (hn:xs.length<sizeLine) (hl':∀i ys H,i<=xs.length->Pv i ys H->SqL K H a xs)
  (hs:∀i x ys H,xs[i]?=some x->ys.length=i->Pv i ys H->te ((dX ix σ).set j (some x)) H (B1 Pv xs.length i ys))
  (hd:∀ys H,ys.length=xs.length->Pv xs.length ys H->∀D,H D=none->Q (.ref D) (upd H D (.lst ys))):oW (sU K a) ix (nV j) iY te σ H Q:=by
 refine⟨λi m ys H=>m=xs.length-i/\i<=xs.length/\ys.length=i/\Pv i ys H,⟨xs.length,by simp,qX _,rfl,h0⟩,?_⟩;rintro i m ys H ⟨rfl,hi,hl,p⟩;have q:=hl' i ys H hi p;by_cases hlt:i<xs.length
 ·refine .inr ⟨⟨xs,xs[i],q,by simp[hlt]⟩,by omega,λv H' y=>?_⟩
  obtain⟨e,y⟩:=y;subst e;refine⟨Ck hj,?_⟩;unfold iY;dsimp only;rw[if_pos rfl];exact hs i v ys _ (y xs q) hl p
 ·have e:i=xs.length:=by omega
  subst e;exact .inl ⟨⟨xs,q,qD _⟩,hd ys H hl p⟩
def tT {K:Fg} {a:Addr} {xs:List V} {j:Nat} (b:Nat->List V->Hp->Prop) (l:(dX ix σ)[j]?=some none) (h0:b 0 [] H) (hn:xs.length<sizeLine) (f:∀i ys H,i<=xs.length->b i ys H->SqT K H a xs)
  (hs:∀i x ys H,xs[i]?=some x->ys.length=i->b i ys H->te ((dX ix σ).set j (some x)) H (B1 b xs.length i ys))
  (hd:∀ys H,ys.length=xs.length->b xs.length ys H->∀D,H D=none->Q (.ref D) (upd H D (.lst ys))):oW (sR K a) ix (nV j) iY te σ H Q:=by
 refine⟨λi m ys H=>m=xs.length-i/\i<=xs.length/\ys.length=i/\b i ys H,⟨xs.length,by simp,qX _,Z,h0⟩,?_⟩;rintro i m ys H ⟨rfl,hi,h,p⟩;have q:=f i ys H hi p;by_cases c:i<xs.length
 ·refine .inr ⟨⟨xs,xs[i],q,by simp[c]⟩,by omega,λv n y=>?_⟩
  obtain⟨e,y⟩:=y;subst e;refine⟨Ck l,?_⟩;unfold iY;dsimp only;rw[if_pos Z];exact hs i v ys _ (y xs q) h p
 ·have e:i=xs.length:=by omega
  subst e;exact .inl ⟨⟨xs,q,qD _⟩,hd ys H h p⟩
end
section
variable {X:Cx}
def Ov(i j:Int):Prop:=0<j/\j<2 ^ 64
def pX:fC X (binaryOp .FloorDiv) (rI Ov λi j=>.int (i / j)):=Ay λi j _ _ _ _ _ a q=>by
 have f:(0:Int)<j:=a.1;have e:j<2 ^ 64:=a.2;refine floordiv_int (by omega) (by rw[Int.fdiv_eq_ediv_of_nonneg i (by omega)];exact q) (.inl (PyProof.noPylong_of_log2 ?_));have b:j.natAbs<2 ^ 64:=by omega
 have h0:j.natAbs≠0:=by omega
 have c:j.natAbs.log2<64:=(Nat.log2_lt h0).mpr b;omega
theorem Yn:∀{us:List Value},Vals (ys.map V.str) us->StrsAre us ys:=by
 induction ys with
 |nil=>intro us r;rw[List.map_nil]at r;cases r;exact .nil
 | cons n ns c=>
  intro us r;rw[List.map_cons]at r
  cases r with
  |cons b a=>
   obtain⟨t,e⟩:=b;subst e;exact .cons n t (c a)
def Po(K:Fg):V->List V->Hp->VK->Prop:=λx vs H Q=>∃(sep:Str) (p:Addr) (ys:List Str),x=.str sep/\vs=[.ref p]/\SqL K H p (ys.map V.str)/\(ys.map (·.length)).sum+ys.length*sep.length<=16777216/\Q (.str (Txt.join sep ys)) H
def U8:Ot X "str.join" (Po X.K):=by
 intro a s σ H x vs v us Q I c e h;obtain⟨b,p,ys,rfl,rfl,g,hz,q⟩:=h;obtain⟨t,rfl⟩:=c;obtain⟨u,rfl,f⟩:=e.one;cases f;obtain⟨its,r,pl,_⟩:=I.list g;exact join_list pl.isList (by simpa using Yn r) hz λt' k=>⟨.str _,H,I.tok k,⟨t',Z⟩,q⟩
def Ek:V->Option Int->Option Int->Hp->VK->Prop:=λx lo hi H Q=>∃z:Str,x=.str z/\z.length<=sizeLine/\Q (.str (Txt.slice z lo hi)) H
def Iv:sM X Ek:=by
 intro f s σ H x v G C y hi sl Q I w hs pl r h;obtain⟨z,rfl,hz,q⟩:=h;obtain⟨t,rfl⟩:=w;refine⟨"str",_,F.slot_str_getitem.lookup,typeIs_str _ _ _,?_⟩
 have m:∀(o:Str),o=Txt.slice z y hi->o.length<=sizeLine/\∀t' k,EP X f σ Q (.str o t') {s with toks:=k}:=λo e=>by
  subst e;exact⟨qC (Txt.slice_le z _ _) hz,λt' k=>⟨.str _,H,I.tok k,⟨t',Z⟩,q⟩⟩
 obtain⟨g,a,c,b⟩:=hs
 cases pl with
 |none=>
  cases r with
  |none=>exact wpAny_getItem_str_slice (l:=none) (u:=none) (st:=none) ⟨g,a,c,b⟩ Z (post_val_or_str (m _ Z))
  |int j n=>exact wpAny_getItem_str_slice (l:=none) (u:=some (j,n)) (st:=none) ⟨g,a,c,b⟩ Z (post_val_or_str (m _ Z))
 |int i p=>
  cases r with
  |none=>exact wpAny_getItem_str_slice (l:=some (i,p)) (u:=none) (st:=none) ⟨g,a,c,b⟩ Z (post_val_or_str (m _ Z))
  |int j n=>exact wpAny_getItem_str_slice (l:=some (i,p)) (u:=some (j,n)) (st:=none) ⟨g,a,c,b⟩ Z (post_val_or_str (m _ Z))
def lS:List V->List V->Bool
 |[],[]=>true
 |x::xs,y::ys=>lC x y && lS xs ys
 |_,_=>false
theorem Dd:∀{xs ys:List V},xs.length≠ys.length->lS xs ys=false
 |[],[],h=>absurd Z h
 |[],_::_,_=>Z
 |_::_,[],_=>Z
 |x::xs,y::ys,h=>by
  show(lC x y && lS xs ys)=false;rw[Dd (xs:=xs) (ys:=ys) (by simpa using h),Bool.and_false]
theorem E3:∀{xs ys:List V},xs.length=ys.length->(List.range xs.length).all (λi=>lC (xs.getD i .non) (ys.getD i .non))=lS xs ys
 |[],[],_=>Z
 |[],_::_,h=>by cases h
 |_::_,[],h=>by cases h
 |x::xs,y::ys,h=>by
  rw[List.length_cons,List.range_succ_eq_map,List.all_cons,List.all_map];show(lC x y && (List.range xs.length).all (λi=>lC (xs.getD i .non) (ys.getD i .non)))=(lC x y && lS xs ys);rw[E3 (xs:=xs) (ys:=ys) (by simpa using h)]
def Er(K:Fg):R2:=λx y H Q=>∃a b xs ys,x=.ref a/\y=.ref b/\SqL K H a xs/\SqL K H b ys/\xs.all mB=true/\ys.all mB=true/\Q (.bl (lS xs ys)) H
def Sm(r:X.A.units<cLine):fC X (compareOp .Eq) (Er X.K):=by
 intro n s σ H x y v u Q I J G h;obtain⟨a,b,xs,ys,rfl,rfl,ha,Y,fa,fb,q⟩:=h;cases J;cases G;obtain⟨its,m,p,_⟩:=I.list ha;obtain⟨c,l,o,_⟩:=I.list Y;have U:=m.length;have l2:=l.length;by_cases w:xs.length=ys.length
 ·refine SeqAt.eq_listAt (e:=λi=>lC (xs.getD i .non) (ys.getD i .non)) p.isList o.isList (by simp only[List.size_toArray];omega) r (λj h1 h2=>?_) ⟨.bl _,H,I,Z,?_⟩
  ·have g:j<xs.length:=by simp only[List.size_toArray]at h1;omega
   have f:j<ys.length:=by simp only[List.size_toArray]at h2;omega
   obtain⟨C,e1,O⟩:=m.get (i:=j) (x:=xs[j]) (cF g);obtain⟨z,e2,M⟩:=l.get (i:=j) (x:=ys[j]) (cF f)
   have g1:its.toArray[j]=C:=by
    have:its[j]?=some its[j]:=cF (by omega);rw[e1]at this;simpa using (qK this).symm
   have g2:c.toArray[j]=z:=by
    have:c[j]?=some c[j]:=cF (by omega);rw[e2]at this;simpa using (qK this).symm
   rw[g1,g2,List.getD_eq_getElem?_getD,List.getD_eq_getElem?_getD,cF g,cF f];exact Bp O M (List.all_eq_true.mp fa _ (qY g)) (List.all_eq_true.mp fb _ (qY f))
  ·rw[List.size_toArray,<- U,E3 w]
   exact q
 ·refine SeqAt.eq_list_lengthsAt p.isList o.isList (by simp only[List.size_toArray];simp;omega) r ⟨.bl _,H,I,Z,?_⟩
  rw[Dd w]at q;exact q
end
def SameBut(a:Addr)(H H':Hp):Prop:=∀b o,H b=some o->b≠a->H' b=some o
def SameBut.refl(a:Addr)(H:Hp):SameBut a H H:=λ_ _ h _=>h
theorem SameBut.trans(h:SameBut a H f)(k:SameBut a f c):SameBut a H c:=λb o e n=>k b o (h b o e n) n
theorem SameBut.upd(a:Addr)(H:Hp)(o:HO):SameBut a H (upd H a o):=λb u e n=>by rw[cO n];exact e
def Same.but(h:Same H c):SameBut a H c:=λb o e _=>h b o e
def Same.new(h:H p=none)(o:HO):Same H (upd H p o):=λb u q=>by rw[cO (dJ q h)];exact q
noncomputable def zA:=@Same.new
def pZ(h:Same H a)(n:a p=none):H p=none:=by
 cases e:H p with
 |none=>rfl
 |some o=>rw[h p o e]at n;cases n
structure DefTx(K:Fg)(mg:Str->Option Value)(x:Str)(st:Stmt)(ps:List Str):Prop where
 ex:∃(f:Addr) (fd:FuncData),Fun K x x st f fd/\mg x=some (.ref f)/\∀us:List Value,us.length=ps.length->bindArgs fd ⟨us,[]⟩=pure (ps.zip us)
structure DefIs(P:Program)(w:World)(K:Fg)(mg:Str->Option Value)(base:Heap)(n:Nat)(x:Str)(ps:List Str)(sp:Sp):Prop where
 ex:∃(f:Addr) (fd:FuncData),FnOk P w K mg base CX0 n f fd ps sp/\Binds K fd ps []/\PySem.W.keepIn K (.ref f)=true/\mg x=some (.ref f)/\∃oc od osl,K.lookup f=some ⟨oc,od,.func fd,osl⟩
def wG{K:Fg}{x:Str}{st:Stmt}{f:Addr}{c:FuncData}(F:Fun K x x st f c):∃b od a,K.lookup f=some ⟨b,od,.func c,a⟩:=by
 obtain⟨b,od,kV,g,i,j,h,ct,a,_,l,_⟩:=F.ex;exact⟨b,od,a,l⟩
section
variable {P:Program}{w:World}{K:Fg}{mg:Str->Option Value}{base:Heap}{n m:Nat}{x:Str}{ps N:List Str}{sp:Sp}{st:Stmt}
theorem DefIs.mono(D:DefIs P w K a base n x ps sp)(h:n<=m):DefIs P w K a base m x ps sp:=by
 obtain⟨f,b,F,r⟩:=D.ex;exact⟨f,b,F.mono h,r⟩
theorem DefIs.of (T:DefTx K g x st ps) (S:FnScope N ps (bH st)) (len:∀vs H Q E,sp vs H Q E->vs.length=ps.length)
  (c:∀(f:Addr) (a:Value) (A:Around) (outer:List Env) (s:Shared) (H:Hp) (vs:List V) (Q:VK) (E:XK),Room n (A.deeper (envOfC x (bH st) s.heap.objs.size f a))->sp vs H Q E->
   ∃t,PSs (fS CX0 P w K g base N x (bH st) f a A outer s H E).nox (nY st) t/\t {nx:=λ_ l=>Q .non l,rt:=Q} (lL N vs) H):DefIs P w K g base (n+1) x ps sp:=by
 obtain⟨f,j,F,m,b⟩:=T.ex;exact⟨f,j,F.ok S len (λa A outer s H vs Q E i h=>c f a A outer s H vs Q E i h),Binds.all b,F.kp,m,wG F⟩
theorem DefIs.none(T:DefTx K a x st ps)(no:∀vs H Q E,¬sp vs H Q E):DefIs P w K a base n x ps sp:=by
 obtain⟨f,c,F,m,b⟩:=T.ex;exact⟨f,c,⟨λvs H Q E h=>absurd h (no vs H Q E),λA outer s H args us vs Q E _ _ _ _ h=>absurd h (no vs H Q E)⟩,Binds.all b,F.kp,m,wG F⟩
end
section
variable {X:Cx}{n:Nat}{x:Str}{ps:List Str}{sp:Sp}{e:Expr}{es:List Expr}{p pos:Pos}{t:TA}
def pd (D:DefIs X.prog X.w X.K X.mg X.base n x ps sp) (g:Room n X.A) (j:PA X (e::es) t) (h:Gl X x:=by rfl) (c:(x == ("__debug__":Str))=false:=by decide)
  (i:starEach (e::es) X.env=(false,eval e X.env)::starEach es X.env:=by rfl) (a:(backTo pos (starEach es X.env)).any (·.1)=false:=by rfl):PE X (.Call (.Name x p) (e::es) [] pos) (Gv sp [] E0 t):=by
 obtain⟨f,l,F,b,k,m,_⟩:=D.ex;exact Vi F g h m k b .nil Pk j c i a
def rP(hm:∃t,X.mg x=some (.int i t))(hg:Gl X x:=by rfl)(hd:(x == ("__debug__":Str))=false:=by decide):PE X (.Name x pos) (tC (.int i)):=by
 obtain⟨t,h⟩:=hm;exact Ln hg h ⟨t,rfl⟩ hd
def oM(b:X.mg x=some (.ref a))(c:Gl X x:=by rfl)(hd:(x == ("__debug__":Str))=false:=by decide):PE X (.Name x pos) (tC (.ref a)):=Ln c b Z hd
def Rr(b:X.mg x=none)(a:bootBuiltins x=some (.type T))(c:Gl X x:=by rfl)(hn:x≠"__name__":=by decide)(hd:(x == ("__debug__":Str))=false:=by decide):PE X (.Name x pos) (tC (.ty T)):=Vh c b a Z hn hd
end
def Fed(a:Addr)(H H':Hp):Prop:=SameBut a H H'/\∃p q:Int,H' a=some (.lst [.int p,.int q])
theorem Fed.trans(h:Fed a H c)(k:Fed a c b):Fed a H b:=⟨h.1.trans k.1,k.2⟩
theorem Fed.of{p q:Int}:Fed a H (upd H a (.lst [.int p,.int q])):=⟨SameBut.upd a H _,p,q,aD⟩
theorem Fed.refl{p q:Int}(h:H a=some (.lst [.int p,.int q])):Fed a H H:=⟨SameBut.refl a H,p,q,h⟩
def Fed.same(h:Fed a H c)(s:Same c b):Fed a H b:=by
 obtain⟨k,p,q,e⟩:=h;exact⟨k.trans s.but,p,q,s _ _ e⟩
def Fed.back(n:H a=none)(s:Same H H0)(h:Fed a H0 H'):Same H H':=λb o e=>h.1 b o (s b o e) (dJ e n)
def deftx_mk {K:Fg} {h:Heap} {s:Str->Option Value} (X:K.In h) (G:h.Ns mainGlobals s) {x:Str} {st:Stmt} {ps:List Str} {f:Addr} {u:Value} {od o:Option Addr} {r:Array (Option Value)} {kV i j g ct:Value}
  (a:PySem.W.nsIn K mainGlobals x=some (some (.ref f))) (l:K.lookup f=some ⟨u,od,.func (PySem.W.fnOf x x (rM st) (nY st) (bH st) .none kV i j o g ct),r⟩)
  (c:PySem.W.codeIn K g x=true) (k:PySem.W.keepIn K (.ref f)=true)
  (b:∀(kV i j:Value) (o:Option Addr) (g ct:Value) (us:List Value),us.length=ps.length->bindArgs (PySem.W.fnOf x x (rM st) (nY st) (bH st) .none kV i j o g ct) ⟨us,[]⟩=pure (ps.zip us)):DefTx K s x st ps:=by
 have F:=Hn (st:=st) l c k;exact⟨f,_,F,PySem.W.mg_of X G a,b kV i j o g ct⟩
def law_top {P:Program} {w:World} {K:Fg} {mg:Str->Option Value} {n:Nat} {x y:Str} {st:Stmt} {sp:Sp} {fa:Addr} (T:DefTx K mg x st [y]) (hmg:mg x=some (.ref fa)) (D:∀base,DefIs P w K mg base n x [y] sp) :
  ∃fd:FuncData,(∀(s:Shared) (u:Value),BindsTo s fd ⟨[u],[]⟩ [(y,u)])/\∀base:Heap,K.In base->base.Ns mainGlobals mg->FnOk P w K mg base CX0 n fa fd [y] sp:=by
 obtain⟨f,fd,F,m,b⟩:=T.ex;rw[hmg]at m;cases m;refine⟨fd,λs u=>.of_eq (b [u] rfl),λbase _ _=>?_⟩;obtain⟨f',fd',G,_,_,m',oc,od,osl,l⟩:=(D base).ex;rw[hmg]at m';cases m';obtain⟨oc2,od2,osl2,l2⟩:=wG F;rw[l]at l2;cases l2;exact G
def gint_mk{K:Fg}{h:Heap}{b:Str->Option Value}(X:K.In h)(G:h.Ns mainGlobals b){x:Str}{i:Int}{t:Tok}(a:PySem.W.nsIn K mainGlobals x=some (some (.int i t))):∃t,b x=some (.int i t):=⟨t,PySem.W.mg_of X G a⟩
end L2
end
section
namespace Zt
open PySem
section
variable {prog:Program}{w:World}{A:Around}{E:Value->Shared->Prop}{s:Shared}
def next_item {items} (a:s.heap.IsTupleIter it l i)
  (g:s.heap.IsTuple l items) (f:items[i]?=some x)
  (j:∀h',h'.IsTupleIter it l (i+1)->Heap.SameBut it s.heap h'->Q x {s with heap:=h'}) :
  wpAny (model prog w) A (Builtin.SmallTypes.nextOf (.ref it)) Q E s:=by
 obtain⟨o,b,h,hd⟩:=id a;obtain⟨m,c,_,p,e⟩:=g;unfold Builtin.SmallTypes.nextOf
 refine qB (wpAny_callSpecial?_slot (name:=Str.ofString "__next__") a.typeIs F.slot_tuple_iterator_next
  (wpAny_call_entry F.slot_tuple_iterator_next a.typeIs F.entry_tuple_iterator_next ?_ (F.args_tuple_iterator_next_1 _)))
 show wpAny _ _ (field (.ref it) 0 >>= _) _ _ s;refine qB (qT b hd (x:=.ref l) Z ?_);show wpAny _ _ (if (Value.ref l == Value.none)=true then _ else _) _ _ s;rw[if_neg (show ¬((Value.ref l == Value.none)=true) from qJ)];show wpAny _ _ (field (.ref it) 1 >>= _) _ _ s;refine qB (qT b hd (x:=.int i 0) Z ?_);show wpAny _ _ (seqItems? (.ref l) >>= _) _ _ s;refine qB (wpAny_seqItems c e ?_);simp only[Int.toNat_natCast,f];refine qB (YE b hd (by simp) (qG ⟨x,Z,qG (j _ ?_ (Heap.SameBut.update ..))⟩))
 exact⟨_,Heap.get?_update_self _ b (Obj.isFreed_of_fields (Obj.data_mapFields hd _)),(Obj.cls_mapFields ..).trans h,by
  rw[Obj.data_mapFields hd];simp[rawInt]⟩
def next_end {items} (h:A.handled=none)
  (b:s.heap.IsTupleIter it l i) (p:s.heap.IsTuple l items) (j:items[i]?=none)
  (hE:∀h' e,Heap.ExtBut it s.heap h'->(∃o,h'.get? e=some o/\o.cls=.type "StopIteration")->E (.ref e) {s with heap:=h'}) :
  wpAny (model prog w) A (Builtin.SmallTypes.nextOf (.ref it)) Q E s:=by
 obtain⟨o,f,y,hd⟩:=id b;obtain⟨r,c,_,u,g⟩:=p;unfold Builtin.SmallTypes.nextOf
 refine qB (wpAny_callSpecial?_slot (name:=Str.ofString "__next__") b.typeIs F.slot_tuple_iterator_next
  (wpAny_call_entry F.slot_tuple_iterator_next b.typeIs F.entry_tuple_iterator_next ?_ (F.args_tuple_iterator_next_1 _)))
 show wpAny _ _ (field (.ref it) 0 >>= _) _ _ s;refine qB (qT f hd (x:=.ref l) Z ?_);show wpAny _ _ (if (Value.ref l == Value.none)=true then _ else _) _ _ s;rw[if_neg (show ¬((Value.ref l == Value.none)=true) from qJ)];show wpAny _ _ (field (.ref it) 1 >>= _) _ _ s;refine qB (qT f hd (x:=.int i 0) Z ?_);show wpAny _ _ (seqItems? (.ref l) >>= _) _ _ s;refine qB (wpAny_seqItems c g ?_);simp only[Int.toNat_natCast,j];refine qB (wpAny_rule (qB (YE f hd (by simp) ?_)));show wpAny _ _ (newExc (.type "StopIteration") [] >>= _) _ _ _;refine qB ?_;simp only[newExc,newTuple];refine qB (wpAny_newObj_type ?_ (by size_fits));refine qB (m:=firstArgMember _ _) (wpAny_of_eq (a:=Value.none) (by first |rfl |(simp only[firstArgMember];rfl)) ?_);refine wpAny_newObj_type ?_ (by size_fits);simp only[raiseNew];refine qB (wpAny_handled ?_)
 first |rw[show A.in1.handled=none from h] |rw[h]
 refine qB (qG (wpAny_throw ?_));exact hE _ _ (((Heap.SameBut.update ..).extBut.push _).push _) ⟨_,qI _ Z,Z⟩
abbrev Hc(h:Heap)(z TI TO:Addr)(f0 f1:Value):Prop:=
 h.get? z=some {cls:=.type "zip",dict:=none,data:=.fields #[f0,f1,.bool false,.ref TI,.ref TO],slots:=#[]}
def yD(h:Heap)(z TI TO:Addr):Prop:=Hc h z TI TO .none (.bool false)\/∃(T:Addr) (b:Bool) (o:Obj),Hc h z TI TO (rawInt T) (.bool b)/\h.get? T=some o/\T≠z
structure Zs(h:Heap)(z TI TO i1 i2 l1 l2:Addr)(xs ys:Array Value)(k:Nat):Prop where
 zip:yD h z TI TO
 ti:IsPair h TI (.ref i1) (.ref i2)
 to:∃a b,IsPair h TO a b
 it1:h.IsTupleIter i1 l1 k
 it2:h.IsTupleIter i2 l2 k
 t1:h.IsTuple l1 xs
 t2:h.IsTuple l2 ys
structure Nx(prog:Program)(w:World)(it l:Addr)(xs:Array Value)(P:Heap->Nat->Prop):Prop where
 item:∀{A:Around} {E:Value->Shared->Prop} {s:Shared} {Q:Value->Shared->Prop} {i:Nat} {x:Value},P s.heap i->xs[i]?=some x->(∀h',P h' (i+1)->Heap.SameBut it s.heap h'->Q x {s with heap:=h'})->wpAny (model prog w) A (Builtin.SmallTypes.nextOf (.ref it)) Q E s
 last:∀{A:Around} {E:Value->Shared->Prop} {s:Shared} {Q:Value->Shared->Prop} {i:Nat},A.handled=none->P s.heap i->xs[i]?=none->(∀h' e,Heap.ExtBut it s.heap h'->(∃o,h'.get? e=some o/\o.cls=.type "StopIteration")->E (.ref e) {s with heap:=h'})->wpAny (model prog w) A (Builtin.SmallTypes.nextOf (.ref it)) Q E s
 kept:∀{h h':Heap} {i:Nat},P h i->(∀o,h.get? it=some o->h'.get? it=some o)->(∀o,h.get? l=some o->h'.get? l=some o)->P h' i
 there:∀{h:Heap} {i:Nat},P h i->∃o,h.get? it=some o
def Nx.ext{xs:Array Value}{P:Heap->Nat->Prop}(N:Nx prog w it l xs P)(p:P h i)(e:Heap.ExtBut a h h')(c:it≠a)(b:l≠a):P h' i:=N.kept p (λo q=>e _ _ c q) λo q=>e _ _ b q
structure Zg(P1:Heap->Nat->Prop)(h:Heap)(z TI TO i1 i2 l2:Addr)(ys:Array Value)(k:Nat):Prop where
 zip:yD h z TI TO
 ti:IsPair h TI (.ref i1) (.ref i2)
 to:∃a b,IsPair h TO a b
 p1:P1 h k
 it2:h.IsTupleIter i2 l2 k
 t2:h.IsTuple l2 ys
def Rl {P1:Heap->Nat->Prop} {z TI TO i1 u l1 l2:Addr} {k1 k2:Nat} {xs ys:Array Value} {x y a b:Value} {Q:Value->Shared->Prop} (D:ZipApart z TI TO i1 u l1 l2)
  (hz:IsZip s.heap z TI TO .none) (a7:IsPair s.heap TI (.ref i1) (.ref u)) (a6:IsPair s.heap TO a b)
  (N1:Nx prog w i1 l1 xs P1) (h1:P1 s.heap k1) (h2:s.heap.IsTupleIter u l2 k2) (a4:s.heap.IsTuple l2 ys) (hx:xs[k1]?=some x) (hy:ys[k2]?=some y)
  (hQ:∀h',IsZip h' z TI TO (rawInt s.heap.objs.size)->IsPair h' TO x y->P1 h' (k1+1)->h'.IsTupleIter u l2 (k2+1)->IsPair h' s.heap.objs.size x y->h'.objs.size=s.heap.objs.size+1->
   (∀c o,c≠z->c≠TO->c≠i1->c≠u->s.heap.get? c=some o->h'.get? c=some o)->Q (.ref s.heap.objs.size) {s with heap:=h'}) :
  wpAny (model prog w) A (Builtin.«zip.__next__» ⟨[.ref z],[]⟩) (λfin s'=>∃v,fin=.done (.ret v)/\Q v s') E s:=by
 show wpAny _ _ (field (.ref z) 2 >>= _) _ _ _;refine qB (qT hz Z (x:=.bool false) Z ?_);show wpAny _ _ (field (.ref z) 3 >>= _) _ _ _;refine qB (qT hz Z (x:=.ref TI) Z ?_);refine qB (wpAny_seqItems a7 Z ?_);show wpAny _ _ (Builtin.SmallTypes.ownedTupleIsFree (.ref z) >>= _) _ _ _;refine qB ?_;unfold Builtin.SmallTypes.ownedTupleIsFree;refine qB (qT hz Z (x:=.none) Z (qG ?_));simp only[if_true];refine qB (wpAny_rule ?_);refine qB (qT hz Z (x:=.ref TO) Z ?_);refine qB (wpAny_setField_rec hz (by simp) λh₁ M j=>?_)
 replace M:IsZip h₁ z TI TO .ellipsis:=M
 refine qB ?_;simp only[List.zipIdx_cons,List.zipIdx_nil,List.forIn_cons,List.forIn_nil];refine qB (qB (wpAny_onRaise ?_));show wpAny _ _ (Builtin.SmallTypes.nextOf (.ref i1) >>= _) _ _ _;refine qB (N1.item (N1.ext h1 j.extBut D.i1z D.l1z) hx λh₂ ab i=>qG ?_);have I:IsPair h₂ TO a b:=i.extBut _ _ D.TOi1 (j.extBut _ _ D.TOz a6);refine qB (wpAny_seqItems I Z ?_);refine qB (wpAny_updateSeq_pair I λh₃ p h=>?_)
 replace p:IsPair h₃ TO x b:=p
 refine qB (wpAny_letGo (qG ?_));refine qB (qB (wpAny_onRaise ?_));show wpAny _ _ (Builtin.SmallTypes.nextOf (.ref u) >>= _) _ _ _
 refine qB (next_item (((h2.extBut j.extBut D.i2z).extBut i.extBut D.i12.symm).extBut h.extBut D.TOi2.symm)
  (((a4.extBut j.extBut D.l2z).extBut i.extBut D.l2i1).extBut h.extBut D.l2TO) hy λh₄ a9 m=>qG ?_)
 have G:IsPair h₄ TO x b:=m.extBut _ _ D.TOi2 p;refine qB (wpAny_seqItems G Z ?_);refine qB (wpAny_updateSeq_pair G λf g l=>?_)
 replace g:IsPair f TO x y:=g
 refine qB (wpAny_letGo (qG (qG ?_)));refine qB (wpAny_seqItems g Z ?_);refine qB (wpAny_newTuple ?_);have hsz:f.objs.size=s.heap.objs.size:=by rw[l.1,m.1,h.1,i.1,j.1]
 have a0:IsZip f z TI TO .ellipsis:=l.extBut _ _ D.TOz.symm (m.extBut _ _ D.i2z.symm (h.extBut _ _ D.TOz.symm (i.extBut _ _ D.i1z.symm M)))
 have a5:∀c o,c≠z->c≠TO->c≠i1->c≠u->s.heap.get? c=some o->f.get? c=some o:=λc o Y c2 c3 c4 e=>
  l.extBut _ _ c2 (m.extBut _ _ c4 (h.extBut _ _ c2 (i.extBut _ _ c3 (j.extBut _ _ Y e))))
 have aa:P1 f (k1+1):=N1.ext (N1.ext (N1.ext ab h.extBut D.TOi1.symm D.l1TO) m.extBut D.i12 D.l1i2) l.extBut D.TOi1.symm D.l1TO;have a8:f.IsTupleIter u l2 (k2+1):=a9.extBut l.extBut D.TOi2.symm;have C:z<f.objs.size:=qH a0;show wpAny _ _ (Builtin.SmallTypes.ownedTupleHandOut (.ref z) (.ref f.objs.size) >>= _) _ _ _;refine qB ?_;unfold Builtin.SmallTypes.ownedTupleHandOut;have a3:IsZip (f.push {cls:=.type "tuple",data:=.seq #[x,y]}) z TI TO .ellipsis:=bX _ a0;refine qB (wpAny_setField_rec a3 (by simp) λh₇ J U=>?_)
 replace J:IsZip h₇ z TI TO (rawInt f.objs.size):=J
 refine wpAny_setField_rec J (by simp) λh₈ r O=>?_
 replace r:IsZip h₈ z TI TO (rawInt f.objs.size):=r
 have up:∀c o,c≠z->f.get? c=some o->h₈.get? c=some o:=λc o Y e=>O.extBut _ _ Y (U.extBut _ _ Y (bX _ e));have a2:IsPair h₈ f.objs.size x y:=O.extBut _ _ (Nat.ne_of_gt C) (U.extBut _ _ (Nat.ne_of_gt C) (qI _ Z));have a1:h₈.objs.size=f.objs.size+1:=by rw[O.1,U.1,Heap.size_push]
 rw[hsz]at r a2 a1;refine qG ⟨_,Z,?_⟩;show Q (.ref f.objs.size) _;rw[hsz];exact hQ h₈ r (up _ _ D.TOz g) (N1.kept aa (λo e=>up _ o D.i1z e) λo e=>up _ o D.l1z e) (a8.at λo e=>up _ o D.i2z e) a2 a1 λc o Y c2 c3 c4 e=>up c o Y (a5 c o Y c2 c3 c4 e)
def P7(b:s.heap.get? a=some o)(h:Q (some o) s):wpAny (model prog w) A (loadIfAlive a) Q E s:=by
 intro Γ p c;unfold loadIfAlive
 first
  |(rw[Sem.wp_loadIfAlive,b];exact h)
  |(simp only[Sem.wp_loadIfAlive,b];exact h)
def Pb {z TI TO i i2 l1 Y:Addr} {k:Nat} {xs ys:Array Value} (M:A.handled=none) (D:ZipApart z TI TO i i2 l1 Y) (I:Nx prog w i l1 xs P1) (S:Zg P1 s.heap z TI TO i i2 Y ys k) (J:xs[k]?=none)
  (hE:∀h' e,(∀c o,c≠z->c≠i->s.heap.get? c=some o->h'.get? c=some o)->(∃o,h'.get? e=some o/\o.cls=.type "StopIteration")->E (.ref e) {s with heap:=h'}) :
  wpAny (model prog w) A (Builtin.«zip.__next__» ⟨[.ref z],[]⟩) Q E s:=by
 obtain⟨hz,y,⟨a,b,a2⟩,U,h2,a0⟩:=S;rcases hz with hz |⟨T,bb,oT,hz,hT,a1⟩
 ·show wpAny _ _ (field (.ref z) 2 >>= _) _ _ _
  refine qB (qT hz Z (x:=.bool false) Z ?_);show wpAny _ _ (field (.ref z) 3 >>= _) _ _ _;refine qB (qT hz Z (x:=.ref TI) Z ?_);refine qB (wpAny_seqItems y Z ?_);show wpAny _ _ (Builtin.SmallTypes.ownedTupleIsFree (.ref z) >>= _) _ _ _;refine qB ?_;unfold Builtin.SmallTypes.ownedTupleIsFree;refine qB (qT hz Z (x:=.none) Z (qG ?_));simp only[if_true];refine qB (wpAny_rule ?_);refine qB (qT hz Z (x:=.ref TO) Z ?_);refine qB (wpAny_setField_rec hz (by simp) λh₁ h g=>?_)
  replace h:IsZip h₁ z TI TO .ellipsis:=h
  refine qB ?_;simp only[List.zipIdx_cons,List.zipIdx_nil,List.forIn_cons,List.forIn_nil];refine qB (qB (wpAny_onRaise ?_));show wpAny _ _ (Builtin.SmallTypes.nextOf (.ref i) >>= _) _ _ _;refine qB (I.last M (I.ext U g.extBut D.i1z D.l1z) J λl e f r=>?_);obtain⟨oe,j,u⟩:=r;have m:IsZip l z TI TO .ellipsis:=f _ _ D.i1z.symm h;have O:e≠z:=λx=>by subst x;rw[m]at j;cases j;simp at u
  refine wpAny_setField_rec m (by simp) λh₃ _ p=>hE h₃ e (λc o G C x=>p.extBut _ _ G (f _ _ C (g.extBut _ _ G x))) ⟨oe,p.extBut _ _ O j,u⟩
 ·show wpAny _ _ (field (.ref z) 2 >>= _) _ _ _
  refine qB (qT hz Z (x:=.bool false) Z ?_);show wpAny _ _ (field (.ref z) 3 >>= _) _ _ _;refine qB (qT hz Z (x:=.ref TI) Z ?_);refine qB (wpAny_seqItems y Z ?_);show wpAny _ _ (Builtin.SmallTypes.ownedTupleIsFree (.ref z) >>= _) _ _ _;refine qB ?_;unfold Builtin.SmallTypes.ownedTupleIsFree;refine qB (qT hz Z (x:=rawInt T) Z ?_);show wpAny _ _ (loadIfAlive ((T:Int).toNat) >>= _) _ _ _;rw[Int.toNat_natCast];refine qB (P7 hT ?_);simp only[Option.isNone_some,Bool.false_eq_true,if_false];refine qB (qT hz Z (x:=.bool bb) Z ?_)
  cases bb with
  |true=>
   simp only[bne_self_eq_false,Bool.false_eq_true,if_false];refine qG ?_;simp only[Bool.false_eq_true,if_false,List.forIn_toArray,List.forIn_cons,List.forIn_nil];refine qB (qB (qB (qU ?_)));show wpAny _ _ (Builtin.SmallTypes.nextOf (.ref i) >>= _) _ _ _;exact qB (I.last M U J λl e f r=>hE l e (λc o G C x=>f _ _ C x) r)
  |false=>
   rw[if_pos (by rfl)];refine qB (wpAny_setField_rec hz (by simp) λh₁ h g=>?_);refine qG ?_;simp only[Bool.false_eq_true,if_false,List.forIn_toArray,List.forIn_cons,List.forIn_nil];refine qB (qB (qB (qU ?_)));show wpAny _ _ (Builtin.SmallTypes.nextOf (.ref i) >>= _) _ _ _;exact qB (I.last M (I.ext U g.extBut D.i1z D.l1z) J λl e f r=>hE l e (λc o G C x=>f _ _ C (g.extBut _ _ G x)) r)
def Fh {z TI TO a h g f:Addr} {k:Nat} {xs ys:Array Value} (r:A.handled=none) (D:ZipApart z TI TO a h g f) (C:Nx prog w a g xs j) (S:Zg j s.heap z TI TO a h f ys k) (l:xs[k]?=none)
  (y:∀h',(∀c o,c≠z->c≠a->s.heap.get? c=some o->h'.get? c=some o)->Q none {s with heap:=h'}):wpAny (model prog w) A (pyNext (.ref z)) Q E s:=by
 have i:s.TypeIs (.ref z) "zip":=by
  rcases S.zip with hz |⟨T,I,G,hz,_⟩ <;> exact⟨_,hz,Z⟩
 unfold pyNext
 refine qB (wpAny_attempt (wpAny_callSpecial?_slot (name:=Str.ofString "__next__") i F.slot_zip_next
  (wpAny_call_entry F.slot_zip_next i F.entry_zip_next (Pb r D C S l λh' e p u=>?_) (F.args_zip_next_1 _))))
 obtain⟨o,m,x⟩:=u;refine qB (wpAny_isInstance (T:="StopIteration") (b:=true) ⟨o,m,x⟩ isSubtype_stop ?_);exact qG (y _ p)
def Om{xs:Array Value}(f:l≠it):Nx prog w it l xs λh k=>h.IsTupleIter it l k/\h.IsTuple l xs where
 item:=λp c i=>next_item p.1 p.2 c λh' a s=>i h' ⟨a,p.2.extBut s.extBut f⟩ s
 last:=λg p c hE=>next_end g p.1 p.2 c hE
 kept:=λp a b=>⟨p.1.at a,p.2.at b⟩
 there:=λp=>by obtain⟨o,e,_⟩:=p.1;exact⟨o,e⟩
def item_first {z TI TO f e h g:Addr} {j i:Nat} {xs ys:Array Value} {x y a b:Value} {Q:Value->Shared->Prop} (D:ZipApart z TI TO f e h g)
  (hz:IsZip s.heap z TI TO .none) (r:IsPair s.heap TI (.ref f) (.ref e)) (p:IsPair s.heap TO a b)
  (M:s.heap.IsTupleIter f h j) (J:s.heap.IsTupleIter e g i) (m:s.heap.IsTuple h xs) (l:s.heap.IsTuple g ys) (G:xs[j]?=some x) (C:ys[i]?=some y)
  (I:∀h',IsZip h' z TI TO (rawInt s.heap.objs.size)->IsPair h' TO x y->h'.IsTupleIter f h (j+1)->h'.IsTupleIter e g (i+1)->IsPair h' s.heap.objs.size x y->h'.objs.size=s.heap.objs.size+1->
   (∀c o,c≠z->c≠TO->c≠f->c≠e->s.heap.get? c=some o->h'.get? c=some o)->Q (.ref s.heap.objs.size) {s with heap:=h'}) :
  wpAny (model prog w) A (Builtin.«zip.__next__» ⟨[.ref z],[]⟩) (λfin u=>∃v,fin=.done (.ret v)/\Q v u) E s:=Rl D hz r p (Om D.l1i1) ⟨M,m⟩ J l G C λh' b1 b2 b3 b4 Y U O=>I h' b1 b2 b3.1 b4 Y U O
def pyNext_end {z TI TO a f e b:Addr} {k:Nat} {xs ys:Array Value} (h:A.handled=none) (D:ZipApart z TI TO a f e b) (S:Zs s.heap z TI TO a f e b xs ys k) (g:xs[k]?=none)
  (i:∀h',(∀c o,c≠z->c≠a->s.heap.get? c=some o->h'.get? c=some o)->Q none {s with heap:=h'}):wpAny (model prog w) A (pyNext (.ref z)) Q E s:=Fh h D (Om D.l1i1) ⟨S.zip,S.ti,S.to,⟨S.it1,S.t1⟩,S.it2,S.t2⟩ g i
end
abbrev yL(h:Heap)(l1:Addr):Heap:=h.push {cls:=.type "tuple_iterator",data:=.fields #[.ref l1,.int 0 0]}
abbrev yK(h:Heap)(l1 l2:Addr):Heap:=(yL h l1).push {cls:=.type "tuple_iterator",data:=.fields #[.ref l2,.int 0 0]}
abbrev yJ(h:Heap)(l1 l2:Addr):Heap:=(yK h l1 l2).push {cls:=.type "tuple",data:=.seq #[.ref h.objs.size,.ref (yL h l1).objs.size]}
abbrev yI(h:Heap)(l1 l2:Addr):Heap:=(yJ h l1 l2).push {cls:=.type "tuple",data:=.seq #[.none,.none]}
abbrev rB(h:Heap)(l1 l2:Addr):Heap:=(yI h l1 l2).push {cls:=.type "zip",data:=.fields #[.none,.bool false,.bool false,.ref (yK h l1 l2).objs.size,.ref (yJ h l1 l2).objs.size]}
def meets_new (a b:Addr) (xs ys:Array Value) :
  Meets (Builtin.«zip.__new__» ⟨[.type "zip",.ref a,.ref b],[]⟩) (λ_ R s=>s.heap.IsTuple a xs/\s.heap.IsTuple b ys ∧
   R (.ok (.ret (.ref (yI s.heap a b).objs.size))) {s with heap:=rB s.heap a b}):=
 .of_wp λprog w A R s h=>by
  obtain⟨m,g,d,tk,j⟩:=s;obtain⟨e,c,h⟩:=h;have l:=sub_zip;have i:Heap.IsTuple (Shared.heap ⟨m,g,d,tk,j⟩) a xs:=e;have f:Heap.IsTuple (Shared.heap ⟨m.push {cls:=.type "tuple_iterator",data:=.fields #[.ref a,.int 0 0]},g,d,tk,j⟩) b ys:=Heap.IsTuple.push c _
  wp_walk using wpAny_pyIter_tuple i,wpAny_pyIter_tuple f
  exact⟨_,Z,h⟩
end Zt
end
section
namespace L2
open PySem PySem.Spec PyProof.Rows
abbrev TJ:=St->Hp->Str->VK->Prop
def PJ(X:Cx)(es:List Expr)(t:TJ):Prop:=
 ∀(pins:List (Addr×Obj)) (s:Shared) (σ:St) (H:Hp) (out:Str) (Q:VK),Inv X pins σ H s->t σ H out Q->wpAny (model X.prog X.w) X.A (joinParts out (evalEach es X.env)) (EP X pins σ Q) X.xe s
def Ez:TJ:=λ_ H out Q=>out.length<=sizeLine/\Q (.str out) H
def F9(x:Str)(t:TJ):TJ:=λσ H out Q=>(out++x).length<=sizeLine/\t σ H (out++x) Q
def Ey(te:TE)(t:TJ):TJ:=λσ H out Q=>te σ H λv H1=>∃x,v=.str x/\x.length<=sizeLine/\(out++x).length<=sizeLine/\t σ H1 (out++x) Q
def Fb(te:TE)(t:TJ):TJ:=λσ H out Q=>te σ H λv H1=>∃i:Int,v=.int i/\i.natAbs.log2<1920/\(out++Str.ofString (toString i)).length<=sizeLine/\t σ H1 (out++Str.ofString (toString i)) Q
section
variable {X:Cx}{e e1 e2:Expr}{es:List Expr}{te:TE}{t:TJ}{pos:Pos}
def gO:PJ X [] Ez:=λ_ _ _ H out _ I h=>joinParts_nilE (joinParts_nil ⟨.str out,H,I.tok _,⟨_,Z⟩,h.2⟩ h.1)
def eG{j}(h:PJ X es t):PJ X (.Constant (.str x) j pos::es) (F9 x t):=by
 intro c s σ H out Q I f;refine joinParts_consE (joinParts_cons (aU (pS (X:=X) c s σ H (λv n=>v=.str x/\n=H) I ⟨Z,Z⟩) λv g ⟨z,o,m,r,l,i⟩=>?_));subst l i;obtain⟨t',rfl⟩:=r;exact⟨f.1,h c g σ _ _ Q m f.2⟩
def fP(l:PE X e f)(h:PJ X es t):PJ X (.FormattedValue e (-1) none pos::es) (Ey f t):=by
 intro c s σ H out Q I i;refine joinParts_consE (joinParts_cons (FormattedValue_plain (aU (l c s σ H _ I i) λv o ⟨z,n,m,r,x,e,hz,j,q⟩=>?_)));subst e;obtain⟨t',rfl⟩:=r;exact formatField_str (λg tk=>⟨j,h c _ σ n _ Q (m.tok tk) q⟩) hz
def yY(l:PE X e f)(h:PJ X es t):PJ X (.FormattedValue e (-1) none pos::es) (Fb f t):=by
 intro c s σ H out Q I g;refine joinParts_consE (joinParts_cons (FormattedValue_plain (aU (l c s σ H _ I g) λv o ⟨z,n,m,r,i,e,hz,j,q⟩=>?_)));subst e;obtain⟨t',rfl⟩:=r;exact formatField_int_small hz ⟨j,h c _ σ n _ Q (m.tok _) q⟩
def gP(h:PJ X (i::g::es) t):PE X (.JoinedStr (i::g::es) pos) (λσ H Q=>t σ H Str.empty Q):=λc s σ H Q I f=>JoinedStr_many (h c s σ H _ Q I f)
end
section
variable {es:List Expr}{env:Env}
def aG{c k p}:starEach (.Constant c k p::es) env=(false,eval (.Constant c k p) env)::starEach es env:=Z
def mK{x p}:starEach (.Name x p::es) env=(false,eval (.Name x p) env)::starEach es env:=Z
def bL{a b c d}:starEach (.Call a b c d::es) env=(false,eval (.Call a b c d) env)::starEach es env:=Z
def eI{a b c d}:starEach (.BinOp a b c d::es) env=(false,eval (.BinOp a b c d) env)::starEach es env:=Z
def ss{a b c}:starEach (.Subscript a b c::es) env=(false,eval (.Subscript a b c) env)::starEach es env:=Z
def sT{a b c}:starEach (.Tuple a b c::es) env=(false,eval (.Tuple a b c) env)::starEach es env:=Z
def Mp{a b c d}:starEach (.Compare a b c d::es) env=(false,eval (.Compare a b c d) env)::starEach es env:=Z
def Y1{a b c}:starEach (.BoolOp a b c::es) env=(false,eval (.BoolOp a b c) env)::starEach es env:=Z
def gQ{a b}:starEach (.JoinedStr a b::es) env=(false,eval (.JoinedStr a b) env)::starEach es env:=Z
def oB{a b c d}:starEach (.ListComp a b c d::es) env=(false,eval (.ListComp a b c d) env)::starEach es env:=Z
end
def pH:Expr->Option Str
 |.Constant (.str x) _ _=>some x
 |_=>none
def tQ:List Expr->Option (List Str)
 |[]=>some []
 |e::es=>(pH e).bind λx=>(tQ es).map (x::·)
def V5(h:pH e=some x):∃j p,e=.Constant (.str x) j p:=by
 unfold pH at h;split at h
 ·cases h;exact⟨_,_,Z⟩
 ·cases h
def Qq(xs:List Str):TA:=λ_ H Q=>Q (xs.map V.str) H
def Sq{t t':TA}(h:PA X es t)(i:∀σ H Q,t' σ H Q->t σ H Q):PA X es t':=λpos a s σ H Q I b=>h pos a s σ H Q I (i σ H Q b)
theorem Ll:∀{es:List Expr} (xs:List Str),tQ es=some xs->PA X es (Qq xs)
 |[],xs,h=>by
  cases h;exact pN
 | e::es,xs,h=>by
  cases a:pH e with
  |none=>rw[tQ,a]at h;cases h
  | some x=>
   cases b:tQ es with
   |none=>rw[tQ,a,b]at h;cases h
   |some ys=>
    rw[tQ,a,b]at h;cases h;obtain⟨j,p,rfl⟩:=V5 a;exact Sq (pc (pS (x:=x) (j:=j) (pos:=p)) (Ll (X:=X) ys b) aG) λσ H Q c=>c
end L2
end
section
namespace M
open PySem
inductive D where
 |int (i:Int)
 |str (x:Str)
 |tup (ds:List D)
inductive All2{α β:Type}(R:α->β->Prop):List α->List β->Prop where
 |nil:All2 R [] []
 |cons {a b as bs} (h:R a b) (t:All2 R as bs):All2 R (a::as) (b::bs)
theorem All2.length{α β:Type}{R:α->β->Prop}{as:List α}{bs:List β}(h:All2 R as bs):as.length=bs.length:=by
 induction h with
 |nil=>rfl
 |cons _ _ a=>simp[a]
def All2.imp{α β:Type}{R S:α->β->Prop}{as:List α}{bs:List β}(h:All2 R as bs)(f:∀a b,R a b->S a b):All2 S as bs:=by
 induction h with
 |nil=>exact .nil
 |cons h _ c=>exact .cons (f _ _ h) c
def S(s:String):Str:=Str.ofString s
def rV(c:Nat):Bool:=97<=c && c<=122
def tG(x:List Nat):Bool:=1<=x.length && x.length<=6 && x.all rV && x != [110,117,109] && x != [105,116]
def Name(x:Str):Prop:=tG x.cps.toList=true
def Name.letters(h:Name x):∀c∈x.cps.toList,rV c=true:=by
 unfold Name tG at h;simp only[Bool.and_eq_true,List.all_eq_true]at h;exact h.1.1.2
def Name.le(h:Name x):x.cps.toList.length<=6:=by
 unfold Name tG at h;simp only[Bool.and_eq_true,decide_eq_true_eq]at h;exact h.1.1.1.2
def sH(n:Int):Str:=Str.ofString (toString n)
def Xm(m:Nat):(sH (m:Int)).cps.toList=(Nat.toDigits 10 m).map Char.toNat:=by
 unfold sH;rw[Str.ofString_eq_toList];show(Nat.repr m).toList.map Char.toNat=_;rw[Nat.toList_repr]
def L(x:Str):List Nat:=x.cps.toList
def eQ(l:List Nat):Str:=⟨l.toArray⟩
theorem lY(l:List Nat):L (eQ l)=l:=Z
theorem Gw(x:Str):eQ (L x)=x:=by
 cases x;rfl
def yM(h:L x=L y):x=y:=by
 rw[<- Gw x,<- Gw y,h]
theorem xA(x y:Str):L (x++y)=L x++L y:=by
 show(x.cps++y.cps).toList=_;simp[L]
theorem xB(x:Str):(L x).length=x.length:=by
 simp[L,Str.length]
end M
end
section
namespace M
open PySem L2
mutual
def RelD(H:Hp):V->D->Prop
 |v,.int i=>v=.int i
 |v,.str x=>v=.str x
 |v,.tup ds=>∃a vs,v=.ref a/\H a=some (.tup vs)/\RelDs H vs ds
def RelDs(H:Hp):List V->List D->Prop
 |vs,[]=>vs=[]
 |vs,d::ds=>∃v r,vs=v::r/\RelD H v d/\RelDs H r ds
end
mutual
theorem RelD.same(s:Same H H'):∀{v:V} (d:D),RelD H v d->RelD H' v d
 |v,.int i,h=>h
 |v,.str x,h=>h
 |v,.tup ds,⟨a,vs,e,ha,h⟩=>⟨a,vs,e,s _ _ ha,RelDs.same s ds h⟩
theorem RelDs.same(s:Same H H'):∀{vs:List V} (ds:List D),RelDs H vs ds->RelDs H' vs ds
 |vs,[],h=>h
 |vs,d::ds,⟨v,r,e,h1,h2⟩=>⟨v,r,e,RelD.same s d h1,RelDs.same s ds h2⟩
end
theorem RelDs.length:∀{vs:List V} {ds:List D},RelDs H vs ds->vs.length=ds.length
 |vs,[],h=>by rw[show vs=[] from h];rfl
 |vs,d::ds,⟨v,r,e,_,a⟩=>by rw[e,List.length_cons,List.length_cons,RelDs.length a]
theorem RelDs.append:∀{vs us:List V} {ds es:List D},RelDs H vs ds->RelDs H us es->RelDs H (vs++us) (ds++es)
 |vs,us,[],es,h,k=>by rw[show vs=[] from h];exact k
 |vs,us,d::ds,es,⟨v,r,e,b,a⟩,k=>by subst e;exact⟨v,r++us,Z,b,RelDs.append a k⟩
theorem RelDs.get:∀{vs:List V} {ds:List D} {i:Nat} {v:V},RelDs H vs ds->vs[i]?=some v->∃d,ds[i]?=some d/\RelD H v d
 |vs,[],i,v,h,e=>by rw[show vs=[] from h]at e;simp at e
 |vs,d::ds,0,v,⟨u,r,a,g,_⟩,e=>by
  subst a;simp at e;subst e;exact⟨d,Z,g⟩
 |vs,d::ds,i+1,v,⟨u,r,a,_,f⟩,e=>by
  subst a;obtain⟨x,b,c⟩:=RelDs.get (i:=i) (v:=v) f (by simpa using e);exact⟨x,by simpa using b,c⟩
def iteKF{c A B:Prop}[Decidable c](h:decide c=false)(b:B):if decide c=true then A else B:=by
 rw[h];exact b
def iteKT{c A B:Prop}[Decidable c](h:decide c=true)(a:A):if decide c=true then A else B:=by
 rw[h];exact a
def yN{A B:Prop}(h:c=false)(b:B):if c=true then A else B:=by
 rw[h];exact b
mutual
theorem RelD.tups(s:∀b vs,H b=some (.tup vs)->H' b=some (.tup vs)):∀{v:V} (d:D),RelD H v d->RelD H' v d
 |v,.int i,h=>h
 |v,.str x,h=>h
 |v,.tup ds,⟨a,vs,e,ha,h⟩=>⟨a,vs,e,s _ _ ha,RelDs.tups s ds h⟩
theorem RelDs.tups(s:∀b vs,H b=some (.tup vs)->H' b=some (.tup vs)):∀{vs:List V} (ds:List D),RelDs H vs ds->RelDs H' vs ds
 |vs,[],h=>h
 |vs,d::ds,⟨v,r,e,h1,h2⟩=>⟨v,r,e,RelD.tups s d h1,RelDs.tups s ds h2⟩
end
def cK(g:∃p q:Int,H a=some (.lst [.int p,.int q]))(f:Fed a H c):∀b vs,H b=some (.tup vs)->c b=some (.tup vs):=λb vs e=>f.1 b _ e λz=>by
 obtain⟨p,q,h⟩:=g;rw[z,h]at e;cases e
def mP(c:Nat):Str:=⟨#[c]⟩
theorem xj0:∀cs:List Nat,Txt.join (S "") (cs.map mP)=eQ cs:=by
 have h:∀cs:List Nat,L (Str.join (S "") (cs.map mP))=cs:=by
  intro cs
  induction cs with
  |nil=>rfl
  | cons c r a=>
   cases r with
   |nil=>rfl
   |cons d r=>
    show L (mP c++S ""++Str.join (S "") ((d::r).map mP))=_;rw[xA,xA,a];have e:L (S "")=[]:=by walk_at"k"
    rw[e];rfl
 intro cs;apply yM;show L (Builtin.Str.glued (S "") (cs.map mP))=cs;rw[StrLaws.glued_eq_join,h]
theorem xkp(cs:List Nat):((cs.map mP).map (·.length)).sum=cs.length:=by
 induction cs with
 |nil=>rfl
 |cons c r a=>
  show(mP c).length+((r.map mP).map (·.length)).sum=r.length+1;rw[a,show(mP c).length=1 from Z];omega
def Me{α:Type}{cs:List α}(h0:0<=r)(h:r<(cs.length:Int)):∃c∈cs,fG cs r=some c:=by
 have a:r.toNat<cs.length:=by omega
 have b:r=((r.toNat:Nat):Int):=by omega
 refine⟨cs[r.toNat],qY a,?_⟩;have q:fG cs ((r.toNat:Nat):Int)=some cs[r.toNat]:=cM (cF a);rw[<- b]at q;exact q
end M
end
section
namespace L2
open PySem PySem.Spec PyProof.Rows
section
variable {κ:Type}[DecidableEq κ]
def bO(kvs:List (κ×V))(k:κ):Option V:=(kvs.find? λkv=>decide (kv.1=k)).map (·.2)
def dC(kvs:List (κ×V))(k:κ)(v:V):List (κ×V):=
 if (kvs.any λkv=>decide (kv.1=k))=true then kvs.map (λkv=>if kv.1=k then (kv.1,v) else kv) else kvs++[(k,v)]
theorem mV{k:κ}(e:p.1=k):bO (p::r) k=some p.2:=by simp[bO,List.find?_cons,e]
theorem mE{k:κ}(e:¬p.1=k):bO (p::r) k=bO r k:=by simp[bO,List.find?_cons,e]
theorem xI(k:κ):∀kvs:List (κ×V),(kvs.any λb=>decide (b.1=k))=(bO kvs k).isSome
 |[]=>Z
 |p::r=>by
  rw[List.any_cons];by_cases e:p.1=k
  ·simp only[mV e,cS e,Bool.true_or,Option.isSome_some]
  ·rw[mE e,cW e,Bool.false_or];exact xI k r
theorem Mi(k j:κ)(y:V):∀kvs:List (κ×V),bO (kvs.map λb=>if b.1=k then (b.1,y) else b) j=(bO kvs j).map λx=>if j=k then y else x
 |[]=>Z
 | p::r=>by
  have c:=Mi k j y r;rw[List.map_cons];by_cases h:p.1=k
  ·rw[if_pos h]
   by_cases e:p.1=j
   ·rw[mV (p:=(p.1,y)) e,mV e,Option.map_some,if_pos (e.symm.trans h)]
   ·rw[mE (p:=(p.1,y)) e,mE e,c]
  ·rw[if_neg h]
   by_cases e:p.1=j
   ·rw[mV (p:=p) e,mV e,Option.map_some,if_neg (λz=>h (e.trans z))]
   ·rw[mE (p:=p) e,mE e,c]
theorem Nh(k j:κ)(y:V):∀kvs:List (κ×V),bO kvs k=none->bO (kvs++[(k,y)]) j=if j=k then some y else bO kvs j
 |[],_=>by
  by_cases e:k=j
  ·rw[if_pos e.symm];exact mV (p:=(k,y)) e
  ·rw[if_neg (λz=>e z.symm)];exact mE (p:=(k,y)) e
 |p::r,hn=>by
  rw[List.cons_append];have b:¬p.1=k:=λz=>by rw[mV z]at hn;cases hn
  rw[mE b]at hn;have c:=Nh k j y r hn;by_cases e:p.1=j
  ·rw[mV e,mV e,if_neg (λz=>b (e.trans z))]
  ·rw[mE e,mE e,c]
theorem Do(kvs:List (κ×V))(k j:κ)(y:V):bO (dC kvs k y) j=if j=k then some y else bO kvs j:=by
 unfold dC;by_cases a:(kvs.any λb=>decide (b.1=k))=true
 ·rw[if_pos a,Mi]
  rw[xI]at a;by_cases e:j=k
  ·obtain⟨x,c⟩:=Option.isSome_iff_exists.mp a
   rw[if_pos e,e,c,Option.map_some,if_pos Z]
  ·rw[if_neg e]
   cases bO kvs j with
   |none=>rfl
   |some x=>rw[Option.map_some,if_neg e]
 ·rw[if_neg a]
  refine Nh k j y kvs ?_;rw[xI]at a
  cases q:bO kvs k with
  |none=>rfl
  |some x=>rw[q]at a;exact(a Z).elim
def Au(kvs:List (κ×V))(k:κ)(v:V):(dC kvs k v).length<=kvs.length+1:=by
 unfold dC;split
 ·rw[aM];omega
 ·rw[bS,List.length_cons,List.length_nil];omega
theorem Wf{k:κ}(v:V)(h:bO kvs k=none):dC kvs k v=kvs++[(k,v)]:=by
 unfold dC;rw[xI,h];exact if_neg (aA Z)
theorem RelO.isSome_eq(r:RelO o u):o.isSome=u.isSome:=by
 cases o with
 |none=>cases u with
  |none=>rfl
  |some _=>exact(show False from r).elim
 |some _=>cases u with
  |none=>exact(show False from r).elim
  |some _=>rfl
theorem KV.val(r:KV kvs vs)(k:κ):RelO (bO kvs k) (valueAt vs k):=by
 unfold KV at r
 induction r with
 |nil=>exact True.intro
 | @cons p q ps qs h t ih=>
  obtain⟨h1,h2⟩:=h;by_cases e:p.1=k
  ·have e':q.1=k:=h1.symm.trans e
   have b:valueAt (q::qs) k=some q.2:=by simp[valueAt,List.find?_cons,e']
   rw[mV e,b];exact h2
  ·have e':¬q.1=k:=λz=>e (h1.trans z)
   have b:valueAt (q::qs) k=valueAt qs k:=by simp[valueAt,List.find?_cons,e']
   rw[mE e,b];exact ih
theorem KV.any(r:KV kvs vs)(k:κ):(kvs.any λb=>decide (b.1=k))=vs.any λb=>decide (b.1=k):=by
 unfold KV at r
 induction r with
 |nil=>rfl
 |cons h t c=>rw[List.any_cons,List.any_cons,c,h.1]
def KV.repl (r:KV kvs vs) (k:κ) (g:RelV y u) :
  KV (kvs.map λb=>if b.1=k then (b.1,y) else b) (vs.map λb=>if b.1=k then (b.1,u) else b):=by
 unfold KV at r⊢
 induction r with
 |nil=>exact .nil
 |@cons p q ps m h t j=>
  rw[List.map_cons,List.map_cons];refine .cons ?_ j;obtain⟨c,l⟩:=h;by_cases e:p.1=k
  ·rw[if_pos e,if_pos (c.symm.trans e)];exact⟨c,g⟩
  ·rw[if_neg e,if_neg (λz=>e (c.trans z))];exact⟨c,l⟩
theorem KV.put(r:KV kvs vs)(k:κ)(b:RelV y u):KV (dC kvs k y) (stored vs k u):=by
 unfold dC stored;rw[r.any k];by_cases e:(vs.any λc=>decide (c.1=k))=true
 ·rw[if_pos e,if_pos e];exact r.repl k b
 ·rw[if_neg e,if_neg e];exact Paired.snoc r ⟨Z,b⟩
theorem KV.length{kvs:List (κ×V)}{vs:List (κ×Value)}(r:KV kvs vs):kvs.length=vs.length:=Paired.length r
end
def rE{k:cQ}(r:RelV (kV k) u):(lN P w).is k u=true:=by
 cases k with
 |inl i=>obtain⟨t,e⟩:=(show ∃t,u=Value.int i t from r);subst e;exact xld P w i t
 |inr x=>obtain⟨t,e⟩:=(show ∃t,u=Value.str x t from r);subst e;exact xlc P w x t
theorem Ng:∀{ks:List cQ} {us:List Value},Vals (ks.map kV) us->ItemsAre (lN P w) ks us
 |[],_,r=>by rw[List.map_nil]at r;cases r;exact .nil
 |k::ks,_,r=>by
  rw[List.map_cons]at r
  cases r with
  |cons h t=>exact .cons (rE h) (Ng t)
abbrev KT(H:Hp):List (List cQ×V)->List (List cQ×Addr×Value)->Prop:=Paired λp q=>p.1=q.1/\H q.2.1=some (.tup (p.1.map kV))/\RelV p.2 q.2.2
theorem KT.val{xs:List (List cQ×Addr×Value)}(r:KT H kvs xs)(k:List cQ):RelO (bO kvs k) ((atKey xs k).map (·.2)):=by
 induction r with
 |nil=>exact True.intro
 | @cons p q ps c h t l=>
  obtain⟨j,_,m⟩:=h;by_cases e:p.1=k
  ·have g:q.1=k:=j.symm.trans e
   have b:atKey (q::c) k=some q.2:=by simp[atKey,List.find?_cons,g]
   rw[mV e,b];exact m
  ·have g:¬q.1=k:=λz=>e (j.trans z)
   have b:atKey (q::c) k=atKey c k:=by simp[atKey,List.find?_cons,g]
   rw[mE e,b];exact l
def KT.repl {xs:List (List cQ×Addr×Value)} (r:KT H kvs xs) (k:List cQ) (j:RelV y u) :
  KT H (kvs.map λc=>if c.1=k then (c.1,y) else c) (xs.map (putAt k u)):=by
 induction r with
 |nil=>exact .nil
 |@cons p q ps n h t l=>
  rw[List.map_cons,List.map_cons];refine .cons ?_ l;obtain⟨b,g,m⟩:=h;unfold putAt;by_cases e:p.1=k
  ·rw[if_pos e,if_pos (b.symm.trans e)];exact⟨b,g,j⟩
  ·rw[if_neg e,if_neg (λz=>e (b.trans z))];exact⟨b,g,m⟩
theorem KT.put {xs:List (List cQ×Addr×Value)} (r:KT H kvs xs) (k:List cQ) (j:H b=some (.tup (k.map kV))) (c:RelV y u) :
  KT H (dC kvs k y) (storedH xs k b u):=by
 have e:(kvs.any λg=>decide (g.1=k))=(atKey xs k).isSome:=by
  rw[xI,(r.val k).isSome_eq,Option.isSome_map]
 unfold dC storedH;rw[e];by_cases q:(atKey xs k).isSome=true
 ·rw[if_pos q,if_pos q];exact r.repl k c
 ·rw[if_neg q,if_neg q];exact Paired.snoc r ⟨Z,j,c⟩
def KT.keeps{xs:List (List cQ×Addr×Value)}(r:KT H kvs xs)(g:∀b ys,H b=some (.tup ys)->c b=some (.tup ys)):KT c kvs xs:=
 Paired.mapP r λ_ _ z=>⟨z.1,g _ _ z.2.1,z.2.2⟩
section
variable {P:Program}{w:World}{H:Hp}{h:Heap}{a:Addr}
def Gj(ok:HOk P w H h)(e:Rd H a u):ObjOk P w H h a u:=e.ok ok
def sZ(ok:HOk P w H h)(e:Rd H a (.dK kvs)):kvs.length<=sizeLine/\(a == sysModules)=false/\∃vs,KV kvs vs/\h.DictOf (lN P w) a vs:=
 show ObjOk P w H h a (.dK kvs) from Gj ok e
def G4(ok:HOk P w H h)(e:H a=some (.dK kvs)):kvs.length<=sizeLine/\(a == sysModules)=false/\∃vs,KV kvs vs/\h.DictOf (lN P w) a vs:=sZ ok (.inl e)
def vZ(ok:HOk P w H h)(e:H a=some (.tup (ks.map kV))):(tupleKind (lN P w)).is h ks a:=by
 obtain⟨_,its,r,o,h1,h2,n,h3,_⟩:=(show ObjOk P w H h a (.tup (ks.map kV)) from ok a _ e);exact⟨o,its.toArray,n,h1,h2,h3,by simpa using Ng r⟩
def vT (ok:HOk P w H h) (e:Rd H a (.dT kvs)):kvs.length<=sizeLine/\(a == sysModules)=false ∧
  ∃xs,KT H kvs xs/\h.DictOfH (tupleKind (lN P w)) a xs:=by
 obtain⟨z,y,xs,r,o,es,ep,I,G,C,n,j⟩:=(show ObjOk P w H h a (.dT kvs) from Gj ok e);refine⟨z,y,xs,r,o,es,ep,I,G,C,n,λx b=>?_,j⟩
 have all:∀{l:List (List cQ×V)} {m:List (List cQ×Addr×Value)},KT H l m->∀x∈m,(tupleKind (lN P w)).is h x.1 x.2.1:=by
  intro l m q
  induction q with
  |nil=>intro x b;exact nomatch b
  | @cons p q ps J c t g=>
   intro x b;rcases gD b with e |b
   ·subst e
    exact vZ ok (by rw[<- c.1];exact c.2.1)
   ·exact g x b
 exact all r x b
def P9 (ok:HOk P w H h) (e:H a=some (.dT kvs)):kvs.length<=sizeLine/\(a == sysModules)=false ∧
  ∃xs,KT H kvs xs/\h.DictOfH (tupleKind (lN P w)) a xs:=vT ok (.inl e)
end
def DGet(H:Hp)(a:Addr)(y:V)(r:Option V):Prop:=
 (∃kvs k,Rd H a (.dK kvs)/\y=kV k/\r=bO kvs k)\/∃kvs k b,Rd H a (.dT kvs)/\y=.ref b/\H b=some (.tup (k.map kV))/\r=bO kvs k
def DPut(H:Hp)(a:Addr)(y v:V)(H':Hp):Prop:=
 (∃kvs k,H a=some (.dK kvs)/\y=kV k/\kvs.length<sizeLine/\H'=upd H a (.dK (dC kvs k v))) ∨
 ∃kvs k b,H a=some (.dT kvs)/\y=.ref b/\H b=some (.tup (k.map kV))/\kvs.length<sizeLine/\H'=upd H a (.dT (dC kvs k v))
theorem DGet.k{k:cQ}(e:H a=some (.dK kvs)):DGet H a (kV k) (bO kvs k):=.inl ⟨kvs,k,.inl e,Z,Z⟩
theorem DPut.k{k:cQ}(e:H a=some (.dK kvs))(b:kvs.length<sizeLine):DPut H a (kV k) v (upd H a (.dK (dC kvs k v))):=.inl ⟨kvs,k,e,Z,b,Z⟩
section
variable {X:Cx}{pins:List (Addr×Obj)}{σ:St}{H:Hp}{s:Shared}{a:Addr}{y v:V}{u r:Value}{o:Option V}{A:Around}{E:Value->Shared->Prop}
theorem Inv.big(I:Inv X pins σ H s):sysModules<s.heap.objs.size:=by
 have h:mainGlobals<s.heap.objs.size:=(I.mod.glob.keeps I.bk).lt;exact Nat.lt_trans (aA Z) h
def X6 (hu:A.units+1<cLine) (I:Inv X pins σ H s) (g:DGet H a y (some v)) (ry:RelV y u) (h:∀w' s',Inv X pins σ H s'->RelV v w'->Q w' s') :
  wpAny (model X.prog X.w) A (getItem (.ref a) u) Q E s:=by
 rcases g with⟨kvs,k,e,ey,l⟩ |⟨kvs,k,b,e,ey,eb,l⟩
 ·subst ey
  obtain⟨z,hd,vs,rel,dd⟩:=sZ I.hok e;obtain⟨w',hw,rw'⟩:=RelO.some_of (v:=v) (o:=valueAt vs k) (by rw[l];exact rel.val k);exact wpAny_getItem_of (rE ry) dd.mapOf hw (h w' _ (I.tok _) rw')
 ·subst ey
  cases (show u=Value.ref b from ry);obtain⟨z,hd,xs,rel,dd⟩:=vT I.hok e;obtain⟨w',hw,rw'⟩:=RelO.some_of (v:=v) (o:=(atKey xs k).map (·.2)) (by rw[l];exact rel.val k);obtain⟨p,hp,hp2⟩:=dH hw;refine wpAny_getItem_heap (tupleKind_room_in1 hu) (vZ I.hok eb) dd hp ?_;rw[hp2];exact h w' _ (I.tok _) rw'
def Fj (hu:A.units+1<cLine) (I:Inv X pins σ H s) (g:DGet H a y o) (ry:RelV y u) (h:∀s',Inv X pins σ H s'->Q (.bool o.isSome) s') :
  wpAny (model X.prog X.w) A (compareOp .In u (.ref a)) Q E s:=by
 rcases g with⟨kvs,k,e,ey,l⟩ |⟨kvs,k,b,e,ey,eb,l⟩
 ·subst ey
  obtain⟨z,hd,vs,rel,dd⟩:=sZ I.hok e;refine wpAny_in_of (rE ry) hd dd.mapOf ?_;rw[<- (rel.val k).isSome_eq,<- l];exact h _ (I.tok _)
 ·subst ey
  cases (show u=Value.ref b from ry);obtain⟨z,hd,xs,rel,dd⟩:=vT I.hok e;refine wpAny_in_heap (tupleKind_room_in1 hu) (vZ I.hok eb) hd dd ?_;have q:=(rel.val k).isSome_eq;rw[Option.isSome_map]at q;rw[<- q,<- l];exact h _ (I.tok _)
def Tj (x:A.units+1<cLine) (I:Inv X pins σ H s) (g:DGet H a y o) (p:RelV y u) (h:∀n,Inv X pins σ H n->Q (.bool (!o.isSome)) n) :
  wpAny (model X.prog X.w) A (compareOp .NotIn u (.ref a)) Q E s:=by
 rcases g with⟨kvs,k,e,j,l⟩ |⟨kvs,k,b,e,j,C,l⟩
 ·subst j
  obtain⟨z,hd,vs,c,m⟩:=sZ I.hok e;refine wpAny_notIn_of (rE p) hd m.mapOf ?_;rw[<- (c.val k).isSome_eq,<- l];exact h _ (I.tok _)
 ·subst j
  cases (show u=Value.ref b from p);obtain⟨z,hd,xs,c,m⟩:=vT I.hok e;refine wpAny_notIn_heap (tupleKind_room_in1 x) (vZ I.hok C) hd m ?_;have q:=(c.val k).isSome_eq;rw[Option.isSome_map]at q;rw[<- q,<- l];exact h _ (I.tok _)
def Ci (I:Inv X pins σ H s) (mu:vQ (H a)) (hs:Heap.SameBut a s.heap h') (he:∃q,h'.get? a=some q) (new:ObjOk X.prog X.w (upd H a ob) h' a ob) :
  Inv X pins σ (upd H a ob) {s with heap:=h',toks:=t'}:=
 I.write (x:=a) (e:=a) mu (.inl rfl) (λb q hb z=>(hs.2 b hb).trans z) he new
def yW (z:kvs.length<=sizeLine) (hd:(a == sysModules)=false) (b:KV kvs vs) (c:h'.DictOf (lN P w) a vs) :
  ObjOk P w g h' a (.dK kvs):=⟨z,hd,vs,b,c⟩
def X7 (hu:A.units+1<cLine) (I:Inv X pins σ H s) (g:DPut H a y v H') (ry:RelV y u) (rv:RelV v r) (h:∀s',Inv X pins σ H' s'->Q () s') :
  wpAny (model X.prog X.w) A (setItem (.ref a) u r) Q E s:=by
 rcases g with⟨kvs,k,e,ey,l,eH⟩ |⟨kvs,k,b,e,ey,eb,l,eH⟩
 ·subst ey eH
  obtain⟨z,hd,vs,rel,dd⟩:=G4 I.hok e;have hz:vs.length<=sizeLine:=by rw[<- rel.length];exact z
  have hl:(dC kvs k v).length<=sizeLine:=by have:=Au kvs k v;omega
  refine wpAny_setItem_pairs (hsz:=hz) (rE ry) dd λh' dd' hs=>h _ ?_;have he:∃q,h'.get? a=some q:=let ⟨q,_,_,hq,_⟩:=dd';⟨q,hq⟩;exact Ci I (by rw[e];exact True.intro) hs he (yW hl hd (rel.put k rv) dd')
 ·subst ey eH
  cases (show u=Value.ref b from ry);obtain⟨z,hd,xs,rel,dd⟩:=P9 I.hok e;have hz:xs.length<=sizeLine:=by rw[<- Paired.length rel];exact z
  have hl:(dC kvs k v).length<=sizeLine:=by have:=Au kvs k v;omega
  refine wpAny_setItem_heap (hsz:=hz) (tupleKind_room_in1 hu) (vZ I.hok eb) dd λh' dd' hs=>h _ ?_;obtain⟨q,es,ep,hq,h2,h3,h4,_,h5⟩:=dd';refine Ci I (by rw[e];exact True.intro) hs ⟨q,hq⟩ ⟨hl,hd,_,(rel.put k eb rv).keeps λc ys ec=>?_,q,es,ep,hq,h2,h3,h4,h5⟩;rw[cO (Pi ec e (λz=>nomatch z))];exact ec
end
def yA(i:Expr):Prop:=∀ov iv,subscripted i false ov iv=operate [ov,iv] (getItem ov iv)
def V6 {E:Value->Shared->Prop} {value b:Expr} {pos:Pos} {T id:String} {Q:Value->Shared->Prop}
  (p:typeLookup (.type T) "__getitem__"=pure (some (.builtin id))) (hs:yA b)
  (h:wpAny (model prog w) A (eval value env) (λo l=>wpAny (model prog w) A (eval b env) (λi c=>c.TypeIs o T/\wpAny (model prog w) A (getItem o i) Q E c) E l) E s) :
  wpAny (model prog w) A (eval (.Subscript value b pos) env) Q E s:=by
 refine Subscript_ (wpAny_mono h (λo l h₁=>wpAny_mono h₁ (λi c g=>?_) λ_ _ x=>x) λ_ _ x=>x);obtain⟨m,g⟩:=g;unfold subscriptTail;refine qB ?_;rw[getitemInPython_of_ne m.not_modules];refine qB (wpAny_specialOf m p ?_)
 have fin:wpAny (model prog w) A (subscripted b false o i) (λr j=>wpAny (model prog w) A (letTemporaryGo value o r >>= λ_=>pure r) Q E j) E c:=by
  rw[hs o i];exact wpAny_operating (wpAny_mono g (λr j n=>qB (wpAny_letTemporaryGo (qG n))) λ_ _ x=>x)
 first
  |exact qG (qB fin)
  |exact qB (qG (qB fin))
  |exact qB fin
def Yz{X:Cx}{pins:List (Addr×Obj)}{σ:St}{H:Hp}{s:Shared}{a:Addr}{y:V}{o:Option V}(I:Inv X pins σ H s)(g:DGet H a y o):s.TypeIs (.ref a) "dict":=by
 rcases g with⟨kvs,k,e,_,_⟩ |⟨kvs,k,b,e,_,_,_⟩
 ·obtain⟨_,_,vs,_,c⟩:=sZ I.hok e
  exact c.typeIs
 ·obtain⟨_,_,xs,_,c⟩:=vT I.hok e
  exact c.typeIs
def Ql(td ty:TE):TE:=λσ H Q=>td σ H λx H1=>ty σ H1 λy H2=>∃a v,x=.ref a/\DGet H2 a y (some v)/\Q v H2
def Eh(ty td:TE):TE:=λσ H Q=>ty σ H λy H1=>td σ H1 λx H2=>∃a o,x=.ref a/\DGet H2 a y o/\Q (.bl o.isSome) H2
def Va(ty td:TE):TE:=λσ H Q=>ty σ H λy H1=>td σ H1 λx H2=>∃a o,x=.ref a/\DGet H2 a y o/\Q (.bl (!o.isSome)) H2
def Qi(td ty tv:TE):TS:=λD σ H=>tv σ H λv H1=>td σ H1 λx H2=>ty σ H2 λy H3=>∃a H4,x=.ref a/\DPut H3 a y v H4/\D.nx σ H4
section
variable {X:Cx}{o i e value:Expr}{pos pos' tpos:Pos}{td ty tv:TE}
def Lm(z:X.A.units+1<cLine)(C:PE X o td)(hi:PE X i ty)(hs:yA i):PE X (.Subscript o i pos) (Ql td ty):=by
 intro pins s σ H Q I h;refine V6 PySem.F.slot_dict_getitem.lookup hs (aU (C pins s σ H _ I h) λu j ⟨x,O,J,m,p⟩=>aU (hi pins j σ O _ J p) λiv s2 ⟨y,M,c,l,a,v,ex,g,n⟩=>?_);subst ex;obtain rfl:u=Value.ref a:=m;exact⟨Yz c g,X6 z c g l λU Y G b=>⟨v,M,G,b,n⟩⟩
def Hz(p:X.A.units+1<cLine)(hi:PE X i ty)(z:PE X o td):PC X .In i o (Eh ty td):=by
 intro pins s σ H Q I h;refine aU (hi pins s σ H _ I h) λiv b ⟨y,O,J,c,m⟩=>aU (z pins b σ O _ J m) λu Y ⟨x,M,G,j,a,n,ex,g,l⟩=>?_;subst ex;obtain rfl:u=Value.ref a:=j;exact Fj p G g c λU C=>⟨.bl n.isSome,M,C,Z,l⟩
def N9(p:X.A.units+1<cLine)(hi:PE X i ty)(z:PE X o td):PC X .NotIn i o (Va ty td):=by
 intro pins s σ H Q I h;refine aU (hi pins s σ H _ I h) λiv b ⟨y,O,J,c,m⟩=>aU (z pins b σ O _ J m) λu Y ⟨x,M,G,j,a,n,ex,g,l⟩=>?_;subst ex;obtain rfl:u=Value.ref a:=j;exact Tj p G g c λU C=>⟨.bl (!n.isSome),M,C,Z,l⟩
def Lp (G:X.A.units+1<cLine) (J:PE X o td) (hi:PE X i ty) (C:PE X value tv) (hs:swapsWith value (some (.Subscript o i pos')) pos.line X.env=pure false) :
  PS X (.Assign [.Subscript o i pos'] value pos) (Qi td ty tv):=by
 intro pins s σ H D I h;refine wpAny_Assign_Subscript (aU (C pins s σ H _ I h) λr c ⟨v,H1,Y,m,z⟩=>aU (J pins c σ H1 _ Y z) λu b ⟨x,H2,U,l,p⟩=>aU (hi pins b σ H2 _ U p) λiv s3 ⟨y,H3,O,j,a,H4,ex,g,n⟩=>?_) hs;subst ex;obtain rfl:u=Value.ref a:=l;exact X7 G O g j m λs4 M=>⟨σ,H4,M,n⟩
end
def Vx(h:Heap)(b:sysModules<h.objs.size):ObjOk P w H (h.push {cls:=.type "dict",data:=.dict #[]}) h.objs.size (.dK []):=
 ⟨qX _,beq_eq_false_iff_ne.mpr (Ne.symm (qL b)),[],.nil,Heap.DictOf.new h⟩
def C3:List (TE×TE)->St->Hp->(List (V×V)->Hp->Prop)->Prop
 |[],_,H,Q=>Q [] H
 |(tk,tv)::r,σ,H,Q=>tk σ H λx H1=>tv σ H1 λy H2=>C3 r σ H2 λps H3=>Q ((x,y)::ps) H3
abbrev VV:List (V×V)->List (Value×Value)->Prop:=Paired λp q=>RelV p.1 q.1/\RelV p.2 q.2
def Az(X:Cx)(pos:Pos)(keys:List (Option Expr))(values:List Expr)(trs:List (TE×TE)):Prop:=
 ∀(pins:List (Addr×Obj)) (s:Shared) (σ:St) (H:Hp) (Q:List (V×V)->Hp->Prop),Inv X pins σ H s->C3 trs σ H Q->
  wpAny (model X.prog X.w) X.A (evalPairs (pairTrees keys values X.env pos)) (λvs s'=>∃ps H',Inv X pins σ H' s'/\VV ps vs/\Q ps H') X.xe s
def Uv{pos:Pos}:Az X pos [] [] []:=λpins s σ H Q I h=>pairTrees_nil_walk ⟨[],H,I,.nil,h⟩
def Wd {pos:Pos} {k v:Expr} (J:PE X k tk) (C:PE X v tv) (G:Az X pos ks vs b) :
  Az X pos (some k::ks) (v::vs) ((tk,tv)::b):=λpins s σ H Q I h=>
 pairTrees_cons_walk (aU (J pins s σ H _ I h) λu j ⟨x,H1,U,m,z⟩=>aU (C pins j σ H1 _ U z) λw2 g ⟨y,H2,O,l,p⟩=>
  aU (G pins g σ H2 _ O p) λws s3 ⟨ps,Y,M,c,n⟩=>⟨(x,y)::ps,Y,M,.cons ⟨m,l⟩ c,n⟩)
def lH(kvs more:List (cQ×V)):List (cQ×V):=more.foldl (λacc kv=>dC acc kv.1 kv.2) kvs
def KV.merge:∀{more:List (cQ×V)} {rs:List (cQ×Value)} {kvs:List (cQ×V)} {vs:List (cQ×Value)},KV more rs->KV kvs vs->KV (lH kvs more) (merged vs rs):=by
 intro more rs kvs vs r;unfold KV at r
 induction r generalizing kvs vs with
 |nil=>intro q;exact q
 | @cons p q ps g h t c=>
  intro b
  have e:KV (dC kvs p.1 p.2) (stored vs q.1 q.2):=by
   have:=b.put p.1 h.2;rw[<- h.1];exact this
  exact c e
theorem Aq:∀(more kvs:List (cQ×V)),(lH kvs more).length<=kvs.length+more.length
 |[],kvs=>by show kvs.length<=kvs.length+0;omega
 |p::r,kvs=>by
  have c:=Aq r (dC kvs p.1 p.2);have b:=Au kvs p.1 p.2;show(lH (dC kvs p.1 p.2) r).length<=_;rw[List.length_cons];omega
theorem Nu:∀{kvs:List (cQ×V)} {ws:List (Value×Value)},VV (kvs.map λg=>(kV g.1,g.2)) ws->∃rs,Carries (lN P w) ws rs/\KV kvs rs
 |[],_,r=>by rw[List.map_nil]at r;cases r;exact⟨[],True.intro,.nil⟩
 | p::kvs,_,r=>by
  rw[List.map_cons]at r
  cases r with
  |@cons a b as bs h t=>
   obtain⟨rs,c,q⟩:=Nu (P:=P) (w:=w) t;obtain⟨l,j⟩:=b;exact⟨(p.1,j)::rs,⟨rE h.1,Z,c⟩,.cons ⟨Z,h.2⟩ q⟩
def Qm(trs:List (TE×TE)):TE:=λσ H Q=>∀p,H p=none->C3 trs σ (upd H p (.dK [])) λps H2=>H2 p=some (.dK [])/\∃kvs:List (cQ×V),ps=kvs.map (λkv=>(kV kv.1,kv.2))/\kvs.length<=15/\Q (.ref p) (upd H2 p (.dK (lH [] kvs)))
def Vj {pos:Pos} {keys:List (Option Expr)} (h:Az X pos keys b g) (j:keys.all (·.isSome)=true) (O:keys.length=b.length) (h0:keys≠[])
  (n:keys.length<=15):PE X (.Dict keys b pos) (Qm g):=by
 intro pins s σ H Q I q;have hn:=I.hok.fresh (qD s.heap.objs.size);have I1:=I.laid (a:=s.heap.objs.size) (o:=.dK []) (h':=s.heap.push {cls:=.type "dict",data:=.dict #[]}) (t':=s.toks) (λ_ _ q=>bX _ q) (qD _) (Vx s.heap I.big);refine wpAny_Dict_walk (knd:=lN X.prog X.w) j O h0 n (aU (h pins _ σ _ _ I1 (q _ hn)) λws s2 ⟨ps,H2,p,m,e,kvs,ep,lk,J⟩=>?_);subst ep;obtain⟨rs,c,C⟩:=Nu (P:=X.prog) (w:=X.w) m;obtain⟨z,hd,x,G,dd⟩:=G4 p.hok e;cases G;refine⟨rs,c,dd,λh' l hs=>⟨.ref s.heap.objs.size,_,?_,Z,J⟩⟩
 have hz:(lH [] kvs).length<=sizeLine:=by
  have Y:=Aq kvs [];rw[List.length_nil]at Y;rw[sizeLine_eq];omega
 have U:∃q,h'.get? s.heap.objs.size=some q:=let ⟨q,_,_,M,_⟩:=l;⟨q,M⟩;exact Ci p (by rw[e];exact True.intro) hs U (yW hz hd (C.merge .nil) l)
section
variable {X:Cx}{pins:List (Addr×Obj)}{σ:St}{H:Hp}{s:Shared}{a:Addr}{kvs:List (cQ×V)}{A:Around}{E:Value->Shared->Prop}
def Vw(I:Inv X pins σ H s)(e:Rd H a (.dK kvs))(h:∀p j,H p=none->Inv X pins σ (upd H p (.dK kvs)) j->Q (.ref p) j):wpAny (model X.prog X.w) A (call (.type "dict") [.ref a]) Q E s:=by
 obtain⟨z,hd,vs,c,m⟩:=sZ I.hok e;refine kt_call_dict hd m (by rw[<- c.length];exact z) λh' g hs=>?_;refine h _ _ (I.hok.fresh (qD _)) (I.laid (a:=s.heap.objs.size) (o:=.dK kvs) (t':=s.toks) (λb q l=>?_) (qD _) (yW z (beq_eq_false_iff_ne.mpr (Ne.symm (qL I.big))) c g));exact(hs.2 b (qL (qH l))).trans (bX _ l)
end
section
variable {κ:Type}[DecidableEq κ]
theorem Ju:∀{l:List κ} {k:κ},l.Nodup->¬k∈l->(l++[k]).Nodup
 |[],k,_,_=>by simp
 |a::r,k,h,b=>by
  obtain⟨g,c⟩:=List.nodup_cons.mp h;show(a::(r++[k])).Nodup;refine List.nodup_cons.mpr ⟨λm=>?_,Ju c λm=>b (List.mem_cons.mpr (Or.inr m))⟩;rcases dD m with q |q
  ·exact g q
  ·exact b (List.mem_cons.mpr (Or.inl (cD q).symm))
end
section
variable {X:Cx}
def Ys:lJ X (.type "dict") (λxs H Q=>∃a kvs,xs=[V.ref a]/\H a=some (.dK kvs)/\∀p,H p=none->Q (.ref p) (upd H p (.dK kvs))):=by
 intro pins s σ H xs us Q I r h;obtain⟨a,kvs,rfl,ha,q⟩:=h;obtain⟨u,rfl,ru⟩:=nU r;cases ru;exact Vw I (.inl ha) λp s' hp I'=>⟨.ref p,_,I',rfl,q p hp⟩
end
section
variable {ix:nH}{tt:TT}{te:TE}{g:TG}{σ:St}{H:Hp}{Q:VK}
def oI(Pv:Nat->List V->Hp->Prop)(n i:Nat)(ys:List V):VK:=λy H2=>∃m',m'<n-i/\m'=n-(i+1)/\i+1<=n/\(ys++[y]).length<=i+1/\Pv (i+1) (ys++[y]) H2
def oH(Pv:Nat->List V->Hp->Prop)(n i:Nat)(ys:List V):Hp->Prop:=λH2=>∃m',m'<n-i/\m'=n-(i+1)/\i+1<=n/\ys.length<=i+1/\Pv (i+1) ys H2
def eT(hi:i<n)(c:ys.length<=i)(h:a (i+1) (ys++[y]) b):oI a n i ys y b:=
 ⟨n-(i+1),by omega,Z,hi,by rw[bS,List.length_singleton];omega,h⟩
def iK(hi:i<n)(c:ys.length<=i)(h:a (i+1) ys b):oH a n i ys b:=
 ⟨n-(i+1),by omega,Z,hi,by omega,h⟩
def oA {K:Fg} {a:Addr} {xs:List V} (c:Nat->List V->Hp->Prop) (h0:c 0 [] H) (hn:xs.length<sizeLine) (j:∀i ys H,i<=xs.length->c i ys H->SqT K H a xs)
  (hs:∀i x ys H,xs[i]?=some x->i<xs.length->ys.length<=i->c i ys H->g x (dX l σ) H λh u=>oU (dX l σ) h/\r h u λb o=>if b=true then s h o (oI c xs.length i ys) else oH c xs.length i ys o)
  (hd:∀ys H,ys.length<=xs.length->c xs.length ys H->∀D,H D=none->Q (.ref D) (upd H D (.lst ys))):oW (sR K a) l g r s σ H Q:=by
 refine⟨λi m ys H=>m=xs.length-i/\i<=xs.length/\ys.length<=i/\c i ys H,⟨xs.length,by simp,qX _,qD _,h0⟩,?_⟩;rintro i m ys H ⟨rfl,hi,n,p⟩;have q:=j i ys H hi p;by_cases f:i<xs.length
 ·refine .inr ⟨⟨xs,xs[i],q,by simp[f]⟩,by omega,λv w y=>?_⟩
  obtain⟨e,y⟩:=y;subst e;exact hs i v ys _ (y xs q) f n p
 ·have e:i=xs.length:=by omega
  subst e;exact .inl ⟨⟨xs,q,qD _⟩,hd ys H n p⟩
def xJ {K:Fg} {a:Addr} {xs:List V} (c:Nat->List V->Hp->Prop) (h0:c 0 [] H) (hn:xs.length<sizeLine) (j:∀i ys H,i<=xs.length->c i ys H->SqL K H a xs)
  (hs:∀i x ys H,xs[i]?=some x->i<xs.length->ys.length<=i->c i ys H->g x (dX l σ) H λh u=>oU (dX l σ) h/\r h u λb o=>if b=true then s h o (oI c xs.length i ys) else oH c xs.length i ys o)
  (hd:∀ys H,ys.length<=xs.length->c xs.length ys H->∀D,H D=none->Q (.ref D) (upd H D (.lst ys))):oW (sU K a) l g r s σ H Q:=by
 refine⟨λi m ys H=>m=xs.length-i/\i<=xs.length/\ys.length<=i/\c i ys H,⟨xs.length,by simp,qX _,qD _,h0⟩,?_⟩;rintro i m ys H ⟨rfl,hi,n,p⟩;have q:=j i ys H hi p;by_cases f:i<xs.length
 ·refine .inr ⟨⟨xs,xs[i],q,by simp[f]⟩,by omega,λv w y=>?_⟩
  obtain⟨e,y⟩:=y;subst e;exact hs i v ys _ (y xs q) f n p
 ·have e:i=xs.length:=by omega
  subst e;exact .inl ⟨⟨xs,q,qD _⟩,hd ys H n p⟩
def hV{v w:Option V}(h:σ[i]?=some none)(k:σ[j]?=some none):oU σ ((σ.set i v).set j w):=by
 refine⟨by simp,λn c e=>?_⟩;have b:i≠n:=λz=>by subst z;rw[h]at e;cases e
 have a:j≠n:=λz=>by subst z;rw[k]at e;cases e
 rw[List.getElem?_set_ne a,List.getElem?_set_ne b];exact e
def Fi{i j k:Nat}{u v w:Option V}(h:σ[i]?=some none)(l:σ[j]?=some none)(f:σ[k]?=some none):oU σ (((σ.set i u).set j v).set k w):=by
 refine⟨by simp,λn m e=>?_⟩;have c:i≠n:=λz=>by subst z;rw[h]at e;cases e
 have b:j≠n:=λz=>by subst z;rw[l]at e;cases e
 have a:k≠n:=λz=>by subst z;rw[f]at e;cases e
 rw[List.getElem?_set_ne a,List.getElem?_set_ne b,List.getElem?_set_ne c];exact e
end
theorem Np:∀{ns:List Int},(∀n∈ns,0<=n/\n<=1000000)->0<=ns.sum/\ns.sum<=1000000*(ns.length:Int)
 |[],_=>by simp
 |n::ns,h=>by
  have c:=h n (by simp);have b:=Np (ns:=ns) λm a=>h m (qO _ a);rw[List.sum_cons,List.length_cons];push_cast;omega
section
variable {X:Cx}
def Mz(y:X.calm=true):lJ X (.builtin "sum") (λxs H Q=>∃p,∃ns:List Int,xs=[.ref p]/\SqL X.K H p (ns.map V.int)/\(∀n∈ns,0<=n/\n<=1000000)/\ns.length<=1000/\Q (.int ns.sum) H):=by
 intro b s σ H xs us Q I r h;obtain⟨p,ns,rfl,o,i,c,q⟩:=h;obtain⟨u,rfl,m⟩:=nU r;cases m;obtain⟨its,l,pl,hz⟩:=I.list o;have hi:=Nw l;obtain⟨xs,e⟩:=hi.allInts.items;have a:ns=xs.toList.map (·.1):=by rw[<- hi.numsOf,<- nums_intItems,<- e]
 have f:=pl.isList;rw[e]at f;have hsz:xs.size=ns.length:=by rw[a,aM,Array.length_toList]
 refine sum_intList (I.ok.hd y) f (λj x=>?_) λh' tk t' k=>⟨.int ns.sum,H,I.kept k,?_,q⟩
 ·have w:numAt xs j∈ns:=by
   rw[a,numAt_eq];exact getD_mem (by rw[aM,Array.length_toList];exact x)
  have G:=i _ w;have C:=Np (ns:=ns.take (j+1)) λn hn=>i n (qW hn);have z:(ns.take (j+1)).length<=1000:=qC (List.length_take_le _ _) (by omega);rw[preSum_eq,<- a];unfold InLong;omega
 ·refine⟨t',?_⟩
  rw[preSum_eq,<- a,fH (by omega)]
def Mx(C:X.calm=true):lJ X (.builtin "max") (λxs H Q=>∃p,∃ns:List Int,xs=[.ref p]/\SqL X.K H p (ns.map V.int)/\ns≠[]/\∀m,m∈ns->(∀n∈ns,n<=m)->Q (.int m) H):=by
 intro f s σ H xs us Q I r h;obtain⟨p,ns,rfl,y,c,q⟩:=h;obtain⟨u,rfl,w⟩:=nU r;cases w;obtain⟨its,o,pl,hz⟩:=I.list y;have hi:=Nw o;obtain⟨xs,e⟩:=hi.allInts.items;have b:ns=xs.toList.map (·.1):=by rw[<- hi.numsOf,<- nums_intItems,<- e]
 have i:=pl.isList;rw[e]at i;have hsz:xs.size=ns.length:=by rw[b,aM,Array.length_toList]
 have J:0<ns.length:=List.length_pos_iff.mpr c;refine max_intList (I.ok.hd C) i (by omega) λv h' tk x k=>?_;obtain⟨t,rfl⟩:=intItems_at x;obtain⟨M,G⟩:=argBest_gt (numAt xs) (xs.size-1);refine⟨.int _,H,I.kept k,⟨t,Z⟩,q _ ?_ λa l=>?_⟩
 ·rw[b,numAt_eq]
  exact getD_mem (by rw[aM,Array.length_toList];omega)
 ·rw[b]at l
  obtain⟨j,z,rfl⟩:=mem_getD l;rw[aM,Array.length_toList]at z;rw[<- numAt_eq];exact G j (by omega)
end
section
variable {X:Cx}{K:Fg}
def U2(h:X.K=K):vR X (rZ K):=by subst h;exact Qt
def W3(h:X.K=K):vR X (sF K):=by subst h;exact iL
def dM(h:X.K=K):lJ X (.builtin "len") (λxs H Q=>∃p ys,xs=[.ref p]/\(SqL K H p ys\/SqT K H p ys)/\Q (.int ys.length) H):=by subst h;exact xkd
def fI {k:Nat} {t:oS} {pos:Pos} (c:X.K=K) (b:X.calm=true) (h:vP X es t)
  (hn:(assignEach es X.env).length=n:=by rfl) (a:(assignEach es X.env).findIdx? (·.1)=none:=by rfl):PG X (.Tuple es k pos) (xV K n t):=by subst c;exact Ru b h hn a
end
end L2
end
section
namespace Zt
open PySem PySem.Spec PyProof.Rows
section
variable {prog:Program}{w:World}{A:Around}{E:Value->Shared->Prop}{s:Shared}
def call_zipN {xs ys:Array Value} (hl1:s.heap.IsTuple l1 xs) (hl2:s.heap.IsTuple l2 ys)
  (h:∀h',IsZip h' (s.heap.objs.size+4) (s.heap.objs.size+2) (s.heap.objs.size+3) .none->IsPair h' (s.heap.objs.size+2) (.ref s.heap.objs.size) (.ref (s.heap.objs.size+1))->(∃a b,IsPair h' (s.heap.objs.size+3) a b)->
   h'.IsTupleIter s.heap.objs.size l1 0->h'.IsTupleIter (s.heap.objs.size+1) l2 0->(∀c o,s.heap.get? c=some o->h'.get? c=some o)->Q (.ref (s.heap.objs.size+4)) {s with heap:=h'}) :
  wpAny (model prog w) A (call (.type "zip") [.ref l1,.ref l2]) Q E s:=by
 refine callType_new F.called_zip (aA Z) (F.typeCall_zip_2 _ _) (F.newCall_zip_2 _ _) (λobj=>F.args_object_init_3 obj _ _) F.entry_zip_new
  (meets_new l1 l2 xs ys) ⟨hl1,hl2,?_⟩
 have z1:(yL s.heap l1).objs.size=s.heap.objs.size+1:=Heap.size_push ..;have z2:(yK s.heap l1 l2).objs.size=s.heap.objs.size+2:=by rw[Heap.size_push,z1]
 have z3:(yJ s.heap l1 l2).objs.size=s.heap.objs.size+3:=by rw[Heap.size_push,z2]
 have z4:(yI s.heap l1 l2).objs.size=s.heap.objs.size+4:=by rw[Heap.size_push,z3]
 have g5:(rB s.heap l1 l2).get? (yI s.heap l1 l2).objs.size=some _:=qI _ rfl;have g4:(rB s.heap l1 l2).get? (yJ s.heap l1 l2).objs.size=some _:=bX _ (qI _ rfl);have g3:(rB s.heap l1 l2).get? (yK s.heap l1 l2).objs.size=some _:=bX _ (bX _ (qI _ rfl));have g2:(rB s.heap l1 l2).get? (yL s.heap l1).objs.size=some _:=bX _ (bX _ (bX _ (qI _ rfl)));have g1:(rB s.heap l1 l2).get? s.heap.objs.size=some _:=bX _ (bX _ (bX _ (bX _ (qI _ rfl))));have kp:∀c o,s.heap.get? c=some o->(rB s.heap l1 l2).get? c=some o:=λc o e=>bX _ (bX _ (bX _ (bX _ (bX _ e))));show _/\_;rw[z2,z3,z4]at g5;rw[z1,z2]at g3;rw[z3]at g4;rw[z1]at g2;rw[z4];exact⟨⟨_,g5,rfl⟩,h _ g5 g3 ⟨_,_,g4⟩ ⟨_,g1,rfl,rfl⟩ ⟨_,g2,rfl,rfl⟩ kp⟩
end
end Zt
namespace L2
open PySem PySem.Spec PyProof.Rows
section
variable {X:Cx}{pins:List (Addr×Obj)}{σ:St}{H:Hp}{s:Shared}{h':Heap}
def Inv.turnedM{fp:List Addr}(I:Inv X pins σ H s)(k:∀b o,b ∉fp->s.heap.get? b=some o->h'.get? b=some o)(hf:∀b∈fp,FpOk X pins H b):Inv X pins σ H {s with heap:=h',toks:=t'}:=by
 have nit:∀b u,H b=some u->b ∉fp:=λb u e z=>by rw[(hf b z).1]at e;cases e
 refine I.step (g':=s.gens) (d':=s.drawn) (ch:=fp) (λb hb=>?_) (λb o _ _ hc e _=>k b o hc e) (λb o _ _ hc e _=>⟨o.slots,k b o hc e⟩) (λ_ _ _ _ n=>n)
  (λb o hc e=>⟨o,k b o hc e⟩) (λ_ _ e=>e) (λ_ _ _ e=>e) (λb ps e=>⟨#[],by rw[e];simp⟩) (λm hm=>?_) (λb u e=>?_) I.bare
 ·obtain⟨f0,f1,f2,f3,f4,f5⟩:=hf b hb
  exact⟨f3,f1,f4,f5⟩
 ·obtain⟨o,es,ep,ho,r⟩:=hm
  exact⟨o,es,ep,k _ o (λz=>(hf _ z).2.1 rfl) ho,r⟩
 ·refine(I.hok b u e).stay (λc v hc q=>k c v ?_ q) (λ_ q=>q) λ_ _ q=>q
  rcases hc with z |z
  ·rw[z];exact nit b u e
  ·exact nit c _ z
end
def O7{h:Heap}{o u:Obj}{b:Addr}(e:(h.push o).get? b=some u)(q:b≠h.objs.size):h.get? b=some u:=by
 rwa[Heap.get?_push_ne h b o q]at e
section
variable {X:Cx}
def yC (K:Fg) (a b:Addr):It:=
  ⟨λi H=>∃xs ys x y,SqT K H a xs/\SqT K H b ys/\xs[i]?=some x/\ys[i]?=some y,λi H x H'=>∃p u v,x=.ref p/\H p=none/\H'=upd H p (.tup [u,v])/\(∀xs,SqT K H a xs->xs[i]?=some u)/\∀ys,SqT K H b ys->ys[i]?=some v,
   λi H=>∃xs ys,SqT K H a xs/\SqT K H b ys/\xs.length<=i⟩
def Wr {P:Program} {w:World} {K:Fg} {elts:List Expr} {x1} {pos:Pos} {a b z TI TO r n:Addr} (D:ZipApart z TI TO r n a b) :
  Turn P w K (.Tuple elts x1 pos) (yC K a b) [z,TI,TO,r,n] z (λi h=>IsZip h z TI TO .none/\IsPair h TI (.ref r) (.ref n)/\(∃u v,IsPair h TO u v)/\h.IsTupleIter r a i/\h.IsTupleIter n b i) where
 mem:=by simp
 obj:=λi h st c j=>by
  obtain⟨m,l,⟨u,v,M⟩,J,G⟩:=st;simp only[List.mem_cons,List.not_mem_nil,or_false]at j;rcases j with rfl |rfl |rfl |rfl |rfl
  ·exact⟨_,m,λv z=>by cases z⟩
  ·exact⟨_,l,λv z=>by cases z⟩
  ·exact⟨_,M,λv z=>by cases z⟩
  ·obtain⟨o,e,c,d⟩:=J
   exact⟨o,e,λv z=>by rw[d]at z;cases z⟩
  ·obtain⟨o,e,c,d⟩:=G
   exact⟨o,e,λv z=>by rw[d]at z;cases z⟩
 keep:=λi h h' st k=>by
  obtain⟨m,l,⟨u,v,M⟩,J,G⟩:=st;exact⟨k z (by simp) _ m,k TI (by simp) _ l,⟨u,v,k TO (by simp) _ M⟩,J.at λo q=>k r (by simp) o q,G.at λo q=>k n (by simp) o q⟩
 item:=by
  intro X hP hw hK j i f s σ H E I hf st hg;subst hP hw hK;obtain⟨xs,ys,x,y,hq,C,hx,hy⟩:=hg;obtain⟨its,rv,p,hz⟩:=I.tuple hq;obtain⟨its',a0,p',aa⟩:=I.tuple C;obtain⟨u,hu,ru⟩:=rv.get hx;obtain⟨Y,ab,a9⟩:=a0.get hy;obtain⟨m,l,⟨_,_,M⟩,J,G⟩:=st;have hT:s.TypeIs (.ref z) "zip":=⟨_,m,Z⟩;unfold pyNext
  refine qB (wpAny_attempt (wpAny_callSpecial?_slot (name:=Str.ofString "__next__") hT F.slot_zip_next
   (wpAny_call_entry F.slot_zip_next hT F.entry_zip_next
    (Zt.item_first D m l M J G p p' (x:=u) (y:=Y) (by simpa using hu) (by simpa using ab) λh1 a1 a2 a3 a4 a5 a6 a7=>qG ⟨_,Z,wpAny_letOwnedTupleGo_zip a1 λh2 b1 b2=>?_⟩) (F.args_zip_next_1 _))))
  have ac:H s.heap.objs.size=none:=I.hok.fresh (qD _);have g1:(s.heap.push {cls:=.type "tuple",data:=.seq #[u,Y]}).get? s.heap.objs.size=some {cls:=.type "tuple",data:=.seq #[u,Y]}:=qI _ Z
  have I1:Inv X f σ (upd H s.heap.objs.size (.tup [x,y])) {s with heap:=s.heap.push {cls:=.type "tuple",data:=.seq #[u,Y]},toks:=s.toks}:=
   I.laid (λb o q=>bX _ q) (qD _) ⟨aE Z,[u,Y],.cons ru (.cons a9 .nil),⟨_,g1,Z,_,Z,Z⟩⟩
  have lt:∀c∈[z,TI,TO,r,n],c≠s.heap.objs.size:=λc j=>by
   simp only[List.mem_cons,List.not_mem_nil,or_false]at j;rcases j with rfl |rfl |rfl |rfl |rfl
   ·exact qL (qH m)
   ·exact qL (qH l)
   ·exact qL (qH M)
   ·obtain⟨o,q,_⟩:=J
    exact qL (qH q)
   ·obtain⟨o,q,_⟩:=G
    exact qL (qH q)
  have a8:∀c∈[z,TI,TO,r,n],FpOk X f (upd H s.heap.objs.size (.tup [x,y])) c:=λc j=>by
   refine⟨?_,(hf c j).2⟩;rw[cO (lt c j)];exact(hf c j).1
  have I2:Inv X f σ (upd H s.heap.objs.size (.tup [x,y])) {s with heap:=h2,toks:=s.toks}:=
   I1.turnedM (t':=s.toks) (λc o hb q=>by
    have O:c≠z/\c≠TI/\c≠TO/\c≠r/\c≠n:=by simpa using hb
    have q1:h1.get? c=some o:=by
     by_cases e:c=s.heap.objs.size
     ·subst e
      have q':(s.heap.push {cls:=.type "tuple",data:=.seq #[u,Y]}).get? s.heap.objs.size=some o:=q;rw[g1]at q';cases q';exact a5
     ·exact a7 c o O.1 O.2.2.1 O.2.2.2.1 O.2.2.2.2 (O7 q e)
    exact(b2.2 c O.1).trans q1) a8
  refine⟨.ref s.heap.objs.size,_,I2,Z,⟨_,x,y,Z,ac,Z,λzs U=>by rw[I.tuple_inj U hq];exact hx,λzs U=>by rw[I.tuple_inj U C];exact hy⟩,⟨b1,?_,⟨_,_,(b2.2 _ D.TOz).trans a2⟩,a3.at λo q=>(b2.2 _ D.i1z).trans q,a4.at λo q=>(b2.2 _ D.i2z).trans q⟩,λc j=>(a8 c j).1⟩;exact(b2.2 _ D.TIz).trans (a7 _ _ D.TIz D.TITO D.TIi1 D.TIi2 l)
 done:=by
  intro X hP hw hK j i f s σ H E I hf st hg;subst hP hw hK;obtain⟨xs,ys,hq,C,hx⟩:=hg;obtain⟨its,rv,p,hz⟩:=I.tuple hq;obtain⟨its',a0,p',aa⟩:=I.tuple C;obtain⟨m,l,M,J,G⟩:=st;have hl:=rv.length
  exact Zt.pyNext_end (I.ok.hd j) D ⟨.inl m,l,M,J,G,p,p'⟩ (by simp;omega) λh' kk=>⟨Z,I.turnedM (t':=s.toks) (λc o hb q=>by
   have O:c≠z/\c≠TI/\c≠TO/\c≠r/\c≠n:=by simpa using hb
   exact kk c o O.1 O.2.2.2.1 q) hf⟩
 self:=λ_ _ _ _ _ st h=>wpAny_pyIter_zip st.1 h
def Fc(K:Fg)(ta:TA):TI:=λσ H R=>ta σ H λvs H1=>∃a b,vs=[.ref a,.ref b]/\(∃xs,SqT K H1 a xs)/\(∃ys,SqT K H1 b ys)/\R (yC K a b) H1
def Rw {a b:Expr} {r:TA} {p pos:Pos} {elts:List Expr} {x1} {J:Pos} (hg:Gl X "zip") (hm:X.mg "zip"=none) (ha:PA X [a,b] r) (hs:starEach [a,b] X.env=[(false,eval a X.env),(false,eval b X.env)]:=by rfl) (j:starEach [b] X.env=[(false,eval b X.env)]:=by rfl) :
  PI X (.Tuple elts x1 J) (.Call (.Name "zip" p) [a,b] [] pos) (Fc X.K r):=by
 intro i s σ H R I h;refine Call_ (oY I hg hm PyProof.Rows.boot_zip (PyProof.Rows.callWith_type1 (aU (ha pos i s σ H _ I h) λus f ⟨vs,H1,m,M,O⟩=>?_) (by rw[hs,j]) (by rw[j];rfl)));obtain⟨Y,U,e,⟨xs,hx⟩,⟨ys,hy⟩,q⟩:=O;subst e;obtain⟨u1,u2,rfl,e1,e2⟩:=M.two;cases e1;cases e2;obtain⟨its,rx,tx,a4⟩:=m.tuple hx;obtain⟨a0,ry,o,a3⟩:=m.tuple hy;have a1:Y<f.heap.objs.size:=by obtain⟨_,e,_⟩:=tx;exact qH e
 have a2:U<f.heap.objs.size:=by obtain⟨_,e,_⟩:=o;exact qH e
 have D:=PyProof.Rows.zipApart_new a1 a2;refine Zt.call_zipN tx o λh1 n G C y x kp=>wpAny_pyIter_zip n ?_;refine⟨f.heap.objs.size+4,[f.heap.objs.size+4,f.heap.objs.size+2,f.heap.objs.size+3,f.heap.objs.size,f.heap.objs.size+1],_,_,H1,Z,m.kept (t':=f.toks) kp,Wr D,⟨n,G,C,y,x⟩,λc u=>?_,q⟩
 have l:f.heap.objs.size<=c:=by
  simp only[List.mem_cons,List.not_mem_nil,or_false]at u;rcases u with z |z |z |z |z <;> subst z <;> first |exact Nat.le_add_right _ _ |exact qD _
 exact m.fpOk l (m.hok.fresh l)
def Ur {K:Fg} {a b:Addr} {xs ys:List V} {g:TG} {tb:TS} {D:Ends} {σ:St} {H:Hp} (hxy:xs.length=ys.length) (Pv:Nat->St->Hp->Prop) (h0:Pv 0 σ H) (hl:∀i σ H,i<=xs.length->Pv i σ H->SqT K H a xs/\SqT K H b ys)
  (hs:∀i x y σ H p,xs[i]?=some x->ys[i]?=some y->Pv i σ H->H p=none->g (.ref p) σ (upd H p (.tup [x,y])) λσ2 H2=>tb {D with nx:=Pv (i+1),ct:=Pv (i+1),bk:=D.nx} σ2 H2) (hd:∀σ H,Pv xs.length σ H->D.nx σ H) :
  ∃W:Nat->Nat->St->Hp->Prop,(∃m,W 0 m σ H)/\∀i m σ H,W i m σ H->
   ((yC K a b).stop i H/\D.nx σ H)\/((yC K a b).go i H/\∃N:St->Hp->Prop,(∀σ' H',N σ' H'->∃m',m'<m/\W (i+1) m' σ' H')/\∀x H',(yC K a b).yld i H x H'->g x σ H' λσ2 H2=>tb {D with nx:=N,ct:=N,bk:=D.nx} σ2 H2):=by
 refine⟨λi m σ H=>m=xs.length-i/\i<=xs.length/\Pv i σ H,⟨xs.length,by simp,qX _,h0⟩,?_⟩;rintro i m σ H ⟨rfl,hi,p⟩;have q:=hl i σ H hi p;by_cases hlt:i<xs.length
 ·refine .inr ⟨⟨xs,ys,xs[i],ys[i]'(by omega),q.1,q.2,by simp[hlt],by simp[<- hxy,hlt]⟩,Pv (i+1),λσ' H' p'=>⟨xs.length-(i+1),by omega,rfl,hlt,p'⟩,λx H' y=>?_⟩
  obtain⟨pp,u,v,rfl,hp,rfl,hu,hv⟩:=y;exact hs i u v σ H pp (hu xs q.1) (hv ys q.2) p hp
 ·have e:i=xs.length:=by omega
  subst e;exact .inl ⟨⟨xs,ys,q.1,q.2,qD _⟩,hd σ H p⟩
end
end L2
end
section
namespace M
open PySem L2
structure Kn where
 name:Str
 rc:Bool
 parts:List (Str×Str)
def Kn.sort(k:Kn):Str:=if k.rc=true then S "rec" else S "alt"
def nJ(p:Str×Str):D:=.tup [.str p.1,.str p.2]
def lG(ps:List (Str×Str)):D:=.tup (ps.map nJ)
def Kn.d(k:Kn):D:=.tup [.str k.name,.str k.sort,lG k.parts]
def iO(ks:List Kn):D:=.tup (ks.map Kn.d)
def bN(ks:List Kn)(x:Str):Option Kn:=ks.find? λk=>decide (k.name=x)
def Be:Option Kn->V
 |some k=>.str k.sort
 |none=>.non
def C5:Option Kn->D
 |some k=>lG k.parts
 |none=>.tup []
def KsAt(H:Hp)(v:V)(ks:List Kn):Prop:=RelD H v (iO ks)/\ks.length<=100/\∀k∈ks,k.parts.length<=100
theorem KsAt.same(h:KsAt H v ks)(s:Same H a):KsAt a v ks:=⟨h.1.same s _,h.2⟩
abbrev En:=Str->Option D
def En.put(e:En)(x:Str)(d:D):En:=λy=>if y=x then some d else e y
def EnAt(H:Hp)(p:Addr)(m:Nat)(e:En):Prop:=
 ∃kvs,H p=some (.dK kvs)/\kvs.length<=m/\∀x,(e x=none->bO kvs (Sum.inr x)=none)/\∀d,e x=some d->∃v,bO kvs (Sum.inr x)=some v/\RelD H v d
theorem EnAt.same(h:EnAt H p m e)(s:Same H b):EnAt b p m e:=by
 obtain⟨kvs,g,f,a⟩:=h;refine⟨kvs,s _ _ g,f,λx=>⟨(a x).1,λd hd=>?_⟩⟩;obtain⟨v,c,r⟩:=(a x).2 d hd;exact⟨v,c,r.same s _⟩
theorem EnAt.mono(h:EnAt H p m e)(l:m<=a):EnAt H p a e:=by
 obtain⟨kvs,c,f,b⟩:=h;exact⟨kvs,c,by omega,b⟩
theorem EnAt.put {H a:Hp} {p q:Addr} {m:Nat} {e:En} {kvs:List (cQ×V)} (l:H p=some (.dK kvs)) (n:kvs.length<=m) (h:∀x,(e x=none->bO kvs (Sum.inr x)=none)/\∀d,e x=some d->∃v,bO kvs (Sum.inr x)=some v/\RelD H v d)
  (s:Same H a) {x:Str} {v:V} {d:D} (g:RelD a v d) (j:a q=some (.dK (dC kvs (Sum.inr x) v))):EnAt a q (m+1) (e.put x d):=by
 refine⟨_,j,by have:=Au kvs (Sum.inr x) v;omega,λy=>?_⟩;rw[Do];unfold En.put;by_cases c:y=x
 ·subst c
  rw[if_pos Z,if_pos Z];refine⟨λz=>(by cases z),λd' f=>?_⟩;cases f;exact⟨v,Z,g⟩
 ·have b:¬(Sum.inr y:cQ)=Sum.inr x:=λz=>c (Sum.inr.inj z)
  rw[if_neg c,if_neg b];refine⟨(h y).1,λd' f=>?_⟩;obtain⟨u,i,r⟩:=(h y).2 d' f;exact⟨u,i,r.same s _⟩
def opV(s:Str)(x y:Int):Int:=
 if s=S "+" then (x+y)%4294967296 else if s=S "-" then (x-y)%4294967296 else if s=S "*" then x*y%4294967296 else if s=S "<" then (if x<y then 1 else 0) else (if x=y then 1 else 0)
def Nm(x:Int):Prop:=0<=x/\x<4294967296
abbrev aO(n:Int):D:=.tup [.str (S "num"),.int n]
abbrev fB(x:Str):D:=.tup [.str (S "box"),.str x]
abbrev iZ(s:Str)(a b:D):D:=.tup [.str (S "op"),.str s,a,b]
abbrev cI(k:Str)(es:List D):D:=.tup [.str (S "rec"),.str k,.tup es]
abbrev eR(a:D)(f:Str):D:=.tup [.str (S "get"),a,.str f]
abbrev iI(k t:Str)(a:D):D:=.tup [.str (S "tag"),.str k,.str t,a]
abbrev fL(r:Str×Str×D):D:=.tup [.str r.1,.str r.2.1,r.2.2]
abbrev mN(a:D)(rs:List (Str×Str×D)):D:=.tup [.str (S "case"),a,.tup (rs.map fL)]
abbrev pG(a b c:D):D:=.tup [.str (S "if"),a,b,c]
def Bs(env:En)(d v:D):Prop:=(∃n,d=aO n/\v=.int n)\/∃x,env x=some v/\d=fB x
def NodeEv(ks:List Kn)(R:En->D->D->Prop)(env:En)(d v:D):Prop:=
 (∃s a b x y,R env a (.int x)/\R env b (.int y)/\Nm x/\Nm y/\d=iZ s a b/\v=.int (opV s x y)) ∨
 (∃k es vs,es.length<=1000/\All2 (R env) es vs/\d=cI k es/\v=.tup [.str k,.tup vs]) ∨
 (∃a k vs f kn i,R env a (.tup [.str k,.tup vs])/\bN ks k=some kn/\(kn.parts.map (·.1)).findIdx? (λz=>decide (z=f))=some i/\vs[i]?=some v/\d=eR a f) ∨
 (∃k t a x,R env a x/\d=iI k t a/\v=.tup [.str k,.str t,x]) ∨
 (∃a rs k t x y e,rs.length<=1000/\R env a (.tup [.str k,.str t,x])/\rs.find? (λr=>decide (r.1=t))=some (t,y,e)/\R (env.put y x) e v/\d=mN a rs) ∨
 (∃a b c x,R env a (.int x)/\R env (if x=0 then c else b) v/\d=pG a b c)
def Bt(env:En)(d:D)(k:Str):Prop:=(∃n,Nm n/\d=aO n/\k=S "num")\/∃x,env x=some (.str k)/\d=fB x
def gN(kn:Kn)(f:Str):Option Str:=(kn.parts.find? λp=>decide (p.1=f)).map (·.2)
abbrev mJ:=En->D->Str->Prop
def Fo(R:mJ):mJ:=λenv d k=>∃s a b,R env a (S "num")/\R env b (S "num")/\d=iZ s a b/\k=S "num"
def Ox(ks:List Kn)(R:mJ):mJ:=λenv d k=>∃es kn,bN ks k=some kn/\kn.rc=true/\All2 (λe (p:Str×Str)=>R env e p.2) es kn.parts/\d=cI k es
def Ow(ks:List Kn)(R:mJ):mJ:=λenv d k=>∃a k1 f kn,R env a k1/\bN ks k1=some kn/\kn.rc=true/\gN kn f=some k/\d=eR a f
def Oy(ks:List Kn)(R:mJ):mJ:=λenv d k=>∃t a kn k1,bN ks k=some kn/\kn.rc=false/\gN kn t=some k1/\R env a k1/\d=iI k t a
def Pr (cs:Prop) (ks:List Kn) (R:mJ):mJ:=λenv d k=>cs/\∃a,∃rs:List (Str×Str×D),∃k1 kn,R env a k1/\bN ks k1=some kn/\kn.rc=false/\rs≠[]/\rs.length=kn.parts.length/\(rs.map (·.1)).Nodup ∧
  (∀r∈rs,env r.2.1=none/\∃k2,gN kn r.1=some k2/\R (env.put r.2.1 (.str k2)) r.2.2 k)/\d=mN a rs
def Ft(R:mJ):mJ:=λenv d k=>∃a b c,R env a (S "num")/\R env b k/\R env c k/\d=pG a b c
def NodeKd(cs:Prop)(ks:List Kn)(R:mJ):mJ:=λenv d k=>Fo R env d k\/Ox ks R env d k\/Ow ks R env d k\/Oy ks R env d k\/Pr cs ks R env d k\/Ft R env d k
def Kd(cs:Prop)(ks:List Kn):Nat->En->D->Str->Prop
 |0=>Bt
 |n+1=>λenv d k=>Bt env d k\/NodeKd cs ks (Kd cs ks n) env d k
def oN{α:Type}{p:α->Bool}{xs:List α}{i:Nat}{a:α}(h:(xs.take i).find? p=none)(c:xs[i]?=some a):(p a=true->xs.find? p=some a)/\(p a=false->(xs.take (i+1)).find? p=none):=by
 have hi:i<xs.length:=(cV c).1;have e:xs[i]=a:=(cV c).2;refine⟨λb=>?_,λb=>?_⟩
 ·have f:xs=xs.take i++a::xs.drop (i+1):=by
   rw[<- e,<- List.drop_eq_getElem_cons hi,List.take_append_drop]
  rw[f,List.find?_append,h];simp[b]
 ·rw[gA,c,List.find?_append,h]
  simp[b]
def Same.new2(h:H p=none)(o c:HO):Same H (upd (upd H p o) p c):=λb u q=>by
 have a:=dJ q h;rw[cO a,cO a];exact q
end M
end
section
namespace St
open PySem PySem.Spec PyProof.Rows
def met(val:Nat->Str)(i:Nat):List Str:=((List.range i).map val).foldl step_dedup []
theorem xF(val:Nat->Str)(i:Nat):met val (i+1)=step_dedup (met val i) (val i):=by
 unfold met;rw[List.range_succ,bZ,List.foldl_append];rfl
theorem met_len(val:Nat->Str):∀i,(met val i).length<=i
 |0=>qD _
 | i+1=>by
  have a:=met_len val i;rw[xF];unfold step_dedup;split
  ·omega
  ·rw[bS,List.length_singleton]
   omega
theorem Qf(l:List Str)(v k:Str):(step_dedup l v).any (· == k)=(l.any (· == k) || decide (k=v)):=by
 unfold step_dedup;split
 ·rename_i h
  by_cases e:k=v
  ·subst e
   rw[h,Bool.true_or]
  ·rw[cW e,Bool.or_false]
 ·rw[List.any_append]
  congr 1;rw[Bool.eq_iff_iff];simp;exact eq_comm
theorem Hi(l:List Str)(v:Str):(step_dedup l v).length=if l.any (· == v) then l.length else l.length+1:=by
 unfold step_dedup;split <;> simp
theorem Li:∀{vs:List Value} {ns:List Str},StrsAre vs ns->∀(i:Nat) (v:Value),vs[i]?=some v->∃t,v=.str (ns.getD i Str.empty) t
 |_,_,.nil,i,v,h=>by simp at h
 |_,_,.cons n t r,0,v,h=>by
  simp at h;exact⟨t,h.symm⟩
 |_,_,.cons n t r,i+1,v,h=>by
  obtain⟨t',e⟩:=Li r i v (by simpa using h);exact⟨t',by simpa using e⟩
section
variable {prog:Program}{w:World}{A:Around}{R:Result->Shared->Prop}{I:Addr}{fp wr:List Addr}{G:Array GenState->Array GenState->Prop}{n:Nat}{P:Nat->Value->Prop}{St:Nat->Shared->Prop}
def Ws (W:WalksS prog w A.in1 I fp wr G n P St) (S:Addr) (z:S ∉fp)
  (val:Nat->Str) (l:∀i v,P i v->∃t,v=.str (val i) t) (j:n+1<scanBound) :
  ∀(k i:Nat) (s:Shared),n-i=k->i<=n->St i s->
   s.heap.SetOf (PySem.strKind prog w) S (λk'=>(met val i).any (· == k')) (met val i).length->
   (∀a,Moved (S::wr) G s a->a.heap.SetOf (PySem.strKind prog w) S (λk'=>(met val n).any (· == k')) (met val n).length->R (.ok (.ret .none)) a)->
   codeAny (model prog w) A (.builtin "set.update.loop" ⟨[.ref S,.ref I],[]⟩) R s:=by
 have y:S ∉wr:=λh=>z (W.sub _ h);have c:∀b∈wr,b∈S::wr:=λb j=>qO _ j;intro k
 induction k with
 | zero=>
  intro i s hk hi f hS hR;have O:i=n:=by omega
  subst O;refine codeAny_builtin F.entry_set_update_loop ?_;rw[Around.under_plainId F.plain_set_update_loop _];show wpAny _ A.in1 (pyNext (.ref I) >>= _) _ _ s;refine qB (W.done s _ _ f λa u=>?_);show wpAny _ A.in1 (ret Value.none) _ _ a
  exact qG (hR a (u.mono c) (by
   obtain⟨o,es,ep,t,M,rest⟩:=hS;exact⟨o,es,ep,t,u.heap S _ y M,rest⟩))
 | succ k ih=>
  intro i s hk hi f hS hR;have x:i<n:=by omega
  refine codeAny_builtin F.entry_set_update_loop ?_;rw[Around.under_plainId F.plain_set_update_loop _];show wpAny _ A.in1 (pyNext (.ref I) >>= _) _ _ s;refine qB (W.item i s _ _ x f λv a hP m u=>?_);obtain⟨t,rfl⟩:=l i v hP
  have a0:a.heap.SetOf (PySem.strKind prog w) S (λk'=>(met val i).any (· == k')) (met val i).length:=by
   obtain⟨o,es,ep,tb,M,rest⟩:=hS;exact⟨o,es,ep,tb,u.heap S _ y M,rest⟩
  show wpAny _ A.in1 (holding [Value.str (val i) t] (setAdd S (.str (val i) t)) >>= _) _ _ a;refine qB (qU ?_);unfold setAdd;refine qU ?_;refine qB ((PySem.strKind prog w).pyHash (k:=val i) (PySem.strKind_is _ _ _ _) ?_);have g:(met val i).length+1<scanBound:=by have:=met_len val i;omega
  refine wpAny_setAddHashed_of (knd:=PySem.strKind prog w) (s:={a with toks:=a.toks+1}) (PySem.strKind_is _ _ _ _) Z a0 g λh' p Y=>?_
  have U:h'.SetOf (PySem.strKind prog w) S (λk'=>(met val (i+1)).any (· == k')) (met val (i+1)).length:=
   SetOf_congr Y (λk'=>by rw[xF,Qf]) (by rw[xF,Hi])
  refine qG ⟨plainId_quiet F.plain_set_update_loop _,ih (i+1) _ (by omega) x (W.frame _ a _ _ m (qS _) λb j o e=>?_) U λJ r C=>?_⟩
  ·rw[p.2 b (λh:b=S=>z (by rw[<- h];exact j))];exact e
  ·refine hR J (Moved.trans W.gtrans ((u.mono c).then_heap (qS _) λb o j e=>?_) r) C
   rw[p.2 b (λh:b=S=>j (by rw[h];exact List.mem_cons_self))];exact e
end
section
variable {prog:Program}{w:World}{A:Around}{E:Value->Shared->Prop}{s:Shared}
set_option maxRecDepth 100000 in
set_option maxHeartbeats 3200000 in
theorem call_set_strs
  (hh:A.handled=none) (hl:s.heap.IsList l items) (hi:StrsAre items.toList ns) (hb:items.size+1<scanBound)
  (h:∀(h':Heap) (tk:Nat),h'.SetOf (PySem.strKind prog w) s.heap.objs.size (λk'=>(met (λi=>ns.getD i Str.empty) items.size).any (· == k')) (met (λi=>ns.getD i Str.empty) items.size).length->
   (∀b o,b<s.heap.objs.size->s.heap.get? b=some o->h'.get? b=some o)->Q (.ref s.heap.objs.size) {s with heap:=h',toks:=tk}) :
  wpAny (model prog w) A (call (.type "set") [.ref l]) Q E s:=by
 obtain⟨c,tl,hmro⟩:=F.called_set.mro;have hmade:=F.called_set.made;have hsub:=F.called_set.sub;refine wpAny_call (codeAny_of_tree ?_);show wpAny _ _ (callAny (.type "set") _) _ _ _;refine qG ⟨Code.quiet_builtin _ (by walk_at"k"),codeAny_builtin F.entry_type_call ?_⟩;rw[Around.under_plain (weight_type_call_type "set" [.ref l] []) rfl];have h1:=F.called_set.notType;have h2:=F.called_set.canCreate;have hct:=F.typeCall_set_1 (.ref l)
 repeat (any_goals (first |assumption |wp_step))
 refine codeAny_mono (code_set_new_1 (.ref l) (E:=E) (Q₁:=λobj s₁=>∃led:Bool,obj=.ref s.heap.objs.size/\s₁={s with heap:=s.heap.push {cls:=.type "set",dict:=none,data:=.set #[] 0 (.fresh 0 0 led)}}) λled=>⟨led,rfl,rfl⟩) λr s₁ hr=>?_
 cases r with
 |error e=>exact hr
 | ok fl=>
  cases fl with
  | ret obj=>
   obtain⟨led,rfl,rfl⟩:=hr;have hS:(s.heap.push {cls:=.type "set",dict:=none,data:=.set #[] 0 (.fresh 0 0 led)}).get? s.heap.objs.size=some {cls:=.type "set",dict:=none,data:=.set #[] 0 (.fresh 0 0 led)}:=qI _ rfl;have hT:Shared.TypeIs {s with heap:=s.heap.push {cls:=.type "set",dict:=none,data:=.set #[] 0 (.fresh 0 0 led)}} (.ref s.heap.objs.size) "set":=⟨_,hS,rfl⟩;have hli:=F.called_set.init.lookup;have hbi:=F.called_set.init.bind (.ref s.heap.objs.size)
   repeat (any_goals (first |assumption |wp_step))
   refine codeAny_mono (codeAny_call_builtin (R:=wants (λr s₂=>r=.none/\∃h' tk,s₂={s with heap:=h',toks:=tk} ∧
     h'.SetOf (PySem.strKind prog w) s.heap.objs.size (λk'=>(met (λi=>ns.getD i Str.empty) items.size).any (· == k')) (met (λi=>ns.getD i Str.empty) items.size).length ∧
     (∀b o,b<s.heap.objs.size->s.heap.get? b=some o->h'.get? b=some o)) E) F.called_set.init.plain F.entry_set_init (check_set_init_1 hT ?_)) λr₂ s₂ hr₂=>?_
   ·obtain⟨ol,hol,hcl,nl,hdl⟩:=hl
    obtain⟨ocls,odict,odata,oslots⟩:=ol;simp only at hcl hdl;subst hcl;subst hdl;have hol':(s.heap.push {cls:=.type "set",dict:=none,data:=.set #[] 0 (.fresh 0 0 led)}).get? l=some {cls:=.type "list",dict:=odict,data:=.seq items nl,slots:=oslots}:=bX _ hol;have hsls:=F.sub_list_set;have hslf:=F.sub_list_frozenset;have hne:(Value.type "list" == Value.type "dict")=false:=by decide
    have hl1:(s.heap.push {cls:=.type "set",dict:=none,data:=.set #[] 0 (.fresh 0 0 led)}).IsList l items:=⟨_,hol',rfl,nl,rfl⟩;unfold Builtin.«set.__init__» noKeywords Builtin.Frozenset.updateFrom;generalize hPI:pyIter=PI
    wp_walk
    subst hPI;refine wpAny_pyIter_list hl1 ?_;refine qB (wpAny_runValue ?_);have hlS:l<s.heap.objs.size:=qH hol;have hh3:A.in1.in1.in1.handled=none:=by simp[hh]
    have hneI:l≠(s.heap.push {cls:=.type "set",dict:=none,data:=.set #[] 0 (.fresh 0 0 led)}).objs.size:=by
     rw[Heap.size_push];exact qL (Nat.lt_succ_of_lt hlS)
    have hSf:s.heap.objs.size ∉ [(s.heap.push {cls:=.type "set",dict:=none,data:=.set #[] 0 (.fresh 0 0 led)}).objs.size,l]:=by
     rw[Heap.size_push];simp only[List.mem_cons,List.mem_singleton,List.not_mem_nil,or_false,not_or];exact⟨qL (Nat.lt_succ_self _),Nat.ne_of_gt hlS⟩
    have hval:∀(i:Nat) (v:Value),items[i]?=some v->∃t,v=.str ((λi=>ns.getD i Str.empty) i) t:=λi v hv=>
     Li hi i v (by rw[Array.getElem?_toList];exact hv)
    refine Ws ((Walks.list hh3 _ l hneI items).toS) s.heap.objs.size
     hSf (λi=>ns.getD i Str.empty) hval hb (items.size-0) 0 _ (by omega) (qX _)
     ⟨⟨_,qI _ rfl,rfl,rfl⟩,(hl1.push _)⟩ ?hS0 ?hR
    case hS0=>
     have hget:((s.heap.push {cls:=.type "set",dict:=none,data:=.set #[] 0 (.fresh 0 0 led)}).push {cls:=.type "list_iterator",data:=.fields #[.ref l,.int 0 0]}).get? s.heap.objs.size
       = some {cls:=.type "set",dict:=none,data:=.set #[] 0 (.fresh 0 0 led)}:=bX _ hS
     exact SetOf_congr ((setObjOf_fresh (knd:=PySem.strKind prog w) led).setOf hget (by unfold scanBound;omega)) (λ_=>rfl) rfl
    case hR=>
     intro s' hm hS';obtain⟨h',g',d',tk',os'⟩:=s';have eg:g'=s.gens:=hm.gens;have ed:d'=s.drawn:=hm.drawn;have eo:os'=s.os:=hm.os;subst eg;subst ed;subst eo;show wpAny _ _ _ _ _ _;refine qG ?_;show wpAny _ _ (ret Value.none) _ _ _;refine qG ⟨rfl,h',tk',rfl,hS',λb o hb e=>?_⟩;have hb1:b≠s.heap.objs.size:=qL hb
     have hb2:b≠(s.heap.push {cls:=.type "set",dict:=none,data:=.set #[] 0 (.fresh 0 0 led)}).objs.size:=by
      rw[Heap.size_push];exact qL (Nat.lt_succ_of_lt hb)
     exact hm.heap b o (by simp only[List.mem_cons,List.mem_singleton,List.not_mem_nil,or_false,not_or];exact⟨hb1,hb2⟩) (bX _ (bX _ e))
   ·cases r₂ with
    |error e=>exact hr₂
    | ok fl₂=>
     cases fl₂ with
     |ret r=>
      obtain⟨rfl,h',tk,rfl,hS',hk'⟩:=hr₂
      repeat (any_goals (first |assumption |wp_step))
      exact h _ _ hS' hk'
     |_=>exact hr₂.elim
  |_=>exact hr.elim
end
end St
end
section
namespace M
open PySem L2
mutual
def D.deep:D->Nat
 |.int _=>0
 |.str _=>0
 |.tup ds=>gJ ds+1
def gJ:List D->Nat
 |[]=>0
 |d::ds=>max d.deep (gJ ds)
end
theorem Dq:∀{ds:List D} {d:D},d∈ds->d.deep<=gJ ds
 | e::ds,d,h=>by
  show d.deep<=max e.deep (gJ ds);rcases gD h with rfl |h
  ·omega
  ·have:=Dq h
   omega
def dR:List Nat:=[113,120,122,118,119]
def iB(cs:List Nat)(a:Nat)(b:Int)(k:Nat):List Nat:=cs.take a++(97+((b+5*(k:Int))%26).toNat)::cs.drop a
def lQ(cs:List Nat)(a:Nat)(b:Int)(k:Nat):List Nat:=iB cs a b (k-k%2)++List.replicate (k%2) 113
def iM(nms:List Str):Prop:=nms.length=26/\nms.Nodup/\∀z∈nms,Name z
theorem wX(cs:List Nat)(a:Nat)(b:Int)(k:Nat):(iB cs a b k).length=cs.length+1:=by
 unfold iB;rw[bS,List.length_cons,List.length_take,List.length_drop];omega
theorem wY(cs:List Nat)(a:Nat)(b:Int)(k:Nat):(lQ cs a b k).length=cs.length+1+k%2:=by
 unfold lQ;rw[bS,wX,List.length_replicate]
theorem Jv{cs:List Nat}{k j:Nat}(e:k<26)(f:j<26)(h:iB cs a b k=iB cs a b j):k=j:=by
 unfold iB at h;have c:=List.append_cancel_left h;have g:=(List.cons.inj c).1;omega
theorem U9{cs:List Nat}{k j:Nat}(g:k<26)(i:j<26)(h:lQ cs a b k=lQ cs a b j):k=j:=by
 have e:=congrArg List.length h;rw[wY,wY]at e;have c:k%2=j%2:=by omega
 unfold lQ at h;rw[c]at h;have f:=List.append_cancel_right h;have l:=Jv (by omega) (by omega) f;omega
theorem N7{f:Nat->Str}(h:∀k j,k<26->j<26->f k=f j->k=j):((List.range 26).map f).Nodup:=by
 refine List.pairwise_map.mpr (List.Pairwise.imp_of_mem (λhi b a e=>?_) (List.pairwise_lt_range (n:=26)));have:=h _ _ (List.mem_range.mp hi) (List.mem_range.mp b) e;omega
def O6:∀c∈dR,rV c=true:=by decide
def N3(i:Int):rV (97+(i%26).toNat)=true:=by
 unfold rV;have b:0<=i%26:=zT _ (aA Z);have a:i%26<26:=zR _ (aA Z);rw[Bool.and_eq_true,decide_eq_true_eq,decide_eq_true_eq];omega
def Jt(i:1<=l.length)(h:l.length<=6)(f:∀c∈l,rV c=true)(a:l.length=1\/∃c∈l,c∈dR):Name (eQ l):=by
 show tG l=true;unfold tG
 have ne:∀z:List Nat,z.length≠1->(∀c∈z,c ∉dR)->(l != z)=true:=λz hz g=>by
  rw[bne_iff_ne];intro e;subst e;rcases a with a |⟨c,b,a⟩
  ·exact hz a
  ·exact g c b a
 rw[ne [110,117,109] (aA Z) (aA Z),ne [105,116] (aA Z) (aA Z),cS i,cS h,List.all_eq_true.mpr f];rfl
def mem_nmA{cs:List Nat}{k c:Nat}:c∈iB cs a b k ↔ c∈cs\/c=97+((b+5*(k:Int))%26).toNat:=by
 unfold iB;rw[List.mem_append,List.mem_cons]
 have e:c∈cs ↔ c∈cs.take a\/c∈cs.drop a:=by
  rw[<- List.mem_append,List.take_append_drop]
 rw[e];constructor
 ·rintro(h |h |h)
  ·exact .inl (.inl h)
  ·exact .inr h
  ·exact .inl (.inr h)
 ·rintro((h |h) |h)
  ·exact .inl h
  ·exact .inr (.inr h)
  ·exact .inr (.inl h)
def Wu{cs:List Nat}{k:Nat}(g:cs.length<=4)(e:∀c∈cs,c∈dR):Name (eQ (iB cs a b k)):=by
 refine Jt (by rw[wX];omega) (by rw[wX];omega) (λc f=>?_) ?_
 ·rcases mem_nmA.mp f with h |h
  ·exact O6 c (e c h)
  ·rw[h];exact N3 _
 ·cases cs with
  |nil=>exact .inl (by rw[wX];rfl)
  |cons c r=>exact .inr ⟨c,mem_nmA.mpr (.inl (by simp)),e c (by simp)⟩
def Wv{cs:List Nat}{k:Nat}(i:cs.length<=4)(f:∀c∈cs,c∈dR):Name (eQ (lQ cs a b k)):=by
 refine Jt (by rw[wY];omega) (by rw[wY];omega) (λc e=>?_) ?_
 ·unfold lQ at e
  rcases dD e with e |e
  ·rcases mem_nmA.mp e with h |h
   ·exact O6 c (f c h)
   ·rw[h];exact N3 _
  ·rw[(List.mem_replicate.mp e).2];decide
 ·by_cases g:k%2=0
  ·cases cs with
   |nil=>exact .inl (by rw[wY,g];rfl)
   |cons c r=>exact .inr ⟨c,by unfold lQ;exact zU _ (mem_nmA.mpr (.inl (by simp))),f c (by simp)⟩
  ·refine .inr ⟨113,?_,aA Z⟩
   unfold lQ;exact zM _ (List.mem_replicate.mpr ⟨by omega,Z⟩)
def Ew{cs:List Nat}(h:cs.length<=4)(i:∀c∈cs,c∈dR):iM ((List.range 26).map λk=>eQ (iB cs a b k)):=by
 refine⟨by simp,N7 λk j f g e=>Jv f g (congrArg L e),λz hz=>?_⟩;obtain⟨k,_,rfl⟩:=fV hz;exact Wu h i
def Eu{cs:List Nat}(h:cs.length<=4)(i:∀c∈cs,c∈dR):iM ((List.range 26).map λk=>eQ (lQ cs a b k)):=by
 refine⟨by simp,N7 λk j f g e=>U9 f g (congrArg L e),λz hz=>?_⟩;obtain⟨k,_,rfl⟩:=fV hz;exact Wv h i
theorem Wj(x:Str){j:Int}(h0:0<=j)(a:j<=x.length):Txt.slice x none (some j)=eQ ((L x).take j.toNat):=by
 have e:Txt.slice x none (some j)=StrLaws.sliceText x none (some j):=Z;rw[e,StrLaws.sliceText_to ⟨h0,by rw[show x.cps.toList.length=x.length by simp[Str.length]];exact a⟩];show eQ ((((L x).drop 0).take (j-0).toNat))=_;rw[List.drop_zero,Int.sub_zero]
theorem Ym(x:Str){j:Int}(h0:0<=j)(a:j<=x.length):Txt.slice x (some j) none=eQ ((L x).drop j.toNat):=by
 have e:Txt.slice x (some j) none=StrLaws.sliceText x (some j) none:=Z;rw[e,StrLaws.sliceText_from ⟨h0,by rw[show x.cps.toList.length=x.length by simp[Str.length]];exact a⟩];apply yM;show((L x).drop j.toNat).take _=(L x).drop j.toNat;refine fH ?_;rw[List.length_drop];show(L x).length-j.toNat<=(((L x).length:Int)-j).toNat;omega
def Xe(h0:0<=i)(h:i<26):fG (S "abcdefghijklmnopqrstuvwxyz").cps.toList i=some (97+i.toNat):=by
 have all:∀k,k<26->(S "abcdefghijklmnopqrstuvwxyz").cps.toList[k]?=some (97+k):=by walk_at"k"
 have a:i=((i.toNat:Nat):Int):=by omega
 have q:=cM (all i.toNat (by omega));rw[<- a]at q;exact q
def Uq(h0:0<=i)(h:i<5):∃c∈dR,fG (S "qxzvw").cps.toList i=some c:=by
 have e:(S "qxzvw").cps.toList=dR:=by walk_at"k"
 rw[e];exact Me h0 h
theorem Xk(cs:List Nat)(a ch:Nat):eQ (cs.take a)++(⟨#[ch]⟩:Str)++eQ (cs.drop a)=eQ (cs.take a++ch::cs.drop a):=by
 apply yM;rw[xA,xA,lY,lY,lY];show cs.take a++[ch]++cs.drop a=_;simp
end M
namespace L2
open PySem PySem.Spec PyProof.Rows
def Uj:fC X (binaryOp .Mult) (λx y H Q=>∃i n,x=.str i/\y=.int n/\(n=0\/n=1)/\Q (.str (if n=1 then i else Str.empty)) H):=by
 intro pins s σ H x y v u Q I rx ry h;obtain⟨i,n,rfl,rfl,hn,q⟩:=h;obtain⟨t,rfl⟩:=rx;obtain⟨t',rfl⟩:=ry;refine SB.mul ?_ λt' k=>⟨.str _,H,I.tok k,⟨t',rfl⟩,?_⟩
 ·rcases hn with rfl |rfl
  ·exact⟨aA Z,λh=>absurd (aA Z) h,λh=>absurd (aA Z) h⟩
  ·exact⟨aA Z,λ_ h=>by simp at h,λ_ h=>by simp at h⟩
 ·have e:Txt.mul i n=if n=1 then i else Str.empty:=by
   rcases hn with rfl |rfl
   ·rfl
   ·unfold Txt.mul
    rw[if_neg (aA Z),if_pos (by simp),if_pos rfl]
  rw[e];exact q
end L2
end
section
namespace M
open PySem L2
structure KWf(ks:List Kn):Prop where
 nd:(ks.map Kn.name).Nodup
 nm:∀k∈ks,Name k.name
 ref:∀(i:Nat) (k:Kn),ks[i]?=some k->∀p∈k.parts,p.2=S "num"\/∃j,∃k':Kn,j<i/\ks[j]?=some k'/\k'.name=p.2
 alt:∀k∈ks,k.rc=false->k.parts≠[]
 few:ks.length<=6
 pts:∀k∈ks,k.parts.length<=5
 pnd:∀k:Kn,k∈ks->(k.parts.map (λp:Str×Str=>p.1)).Nodup
 pnm:∀k:Kn,k∈ks->∀p∈k.parts,Name p.1
theorem mZ(h:Name x):x≠S "num":=λe=>by
 rw[e]at h;exact absurd (show tG (S "num").cps.toList=true from h) (by walk_at"k")
theorem KWf.nil:KWf []:=⟨List.nodup_nil,(λ_ h=>nomatch h),(λi k h=>by simp at h),(λ_ h=>nomatch h),qX _,(λ_ h=>nomatch h),(λ_ h=>nomatch h),(λ_ h=>nomatch h)⟩
theorem rS{α:Type}{f:α->Str}:∀{xs:List α} {i:Nat} {a:α},(xs.map f).Nodup->xs[i]?=some a->xs.find? (λz=>decide (f z=f a))=some a
 |x::xs,0,a,nd,h=>by
  simp at h;subst h;rw[List.find?_cons,cS Z]
 |x::xs,i+1,a,nd,h=>by
  have h':xs[i]?=some a:=by simpa using h
  rw[List.map_cons,List.nodup_cons]at nd;have b:f x≠f a:=λe=>nd.1 (by rw[e];exact qP (cJ h'));rw[List.find?_cons,cW b];exact rS nd.2 h'
theorem KWf.at{ks:List Kn}(w:KWf ks){i:Nat}{k:Kn}(h:ks[i]?=some k):bN ks k.name=some k:=rS (f:=Kn.name) w.nd h
theorem KWf.no(h:∀k∈ks,k.name≠x):bN ks x=none:=by
 unfold bN;rw[List.find?_eq_none];intro k a;simpa using h k a
theorem KWf.num(w:KWf ks):bN ks (S "num")=none:=KWf.no λk a=>mZ (w.nm k a)
def KIn(ks:List Kn)(n:Nat)(x:Str):Prop:=x=S "num"\/∃j k,j<n/\ks[j]?=some k/\k.name=x
theorem KIn.mono(h:KIn ks n x)(l:n<=m):KIn ks m x:=by
 rcases h with h |⟨j,k,a,h⟩
 ·exact .inl h
 ·exact .inr ⟨j,k,by omega,h⟩
def KIn.ap{ks more:List Kn}(h:KIn ks n x):KIn (ks++more) n x:=by
 rcases h with h |⟨j,k,b,a,c⟩
 ·exact .inl h
 ·exact .inr ⟨j,k,b,by rw[List.getElem?_append_left (cV a).1];exact a,c⟩
theorem KIn.of(h:x=S "num"\/∃k∈ks,k.name=x):KIn ks ks.length x:=by
 rcases h with h |⟨k,b,h⟩
 ·exact .inl h
 ·obtain⟨j,a,e⟩:=oJ b
  exact .inr ⟨j,k,a,by rw[<- e];exact cF a,h⟩
theorem KWf.snoc (w:KWf ks) {k:Kn} (n:k.name ∉ks.map Kn.name) (m:Name k.name) (l:∀p∈k.parts,KIn ks ks.length p.2) (j:k.rc=false->k.parts≠[]) (o:ks.length<6) (h:k.parts.length<=5)
  (g:(k.parts.map (·.1)).Nodup) (f:∀p∈k.parts,Name p.1):KWf (ks++[k]):=by
 have mem:∀{q:Kn->Prop},(∀z∈ks,q z)->q k->∀z∈ks++[k],q z:=λa b z hz=>by
  rcases dD hz with hz |hz
  ·exact a z hz
  ·rw[cD hz];exact b
 refine⟨?_,mem w.nm m,?_,mem w.alt j,by rw[bS,List.length_singleton];omega,mem w.pts h,mem w.pnd g,mem w.pnm f⟩
 ·rw[bZ]
  exact Ju w.nd n
 ·intro i z hz p e
  by_cases hi:i<ks.length
  ·rw[List.getElem?_append_left hi]at hz
   exact KIn.ap (w.ref i z hz p e)
  ·rw[List.getElem?_append_right (by omega)]at hz
   have c:i-ks.length=0:=by
    have:=(cV hz).1;simp at this;omega
   rw[c]at hz;simp at hz;subst hz;exact(l p e).ap.mono (by omega)
def dP:List Int->Int
 |[]=>0
 |n::ns=>max n (dP ns)
theorem A5:∀{ns:List Int} {n:Int},n∈ns->n<=dP ns
 | m::ns,n,h=>by
  show n<=max m (dP ns);rcases gD h with rfl |h
  ·omega
  ·have:=A5 h
   omega
theorem Dk:∀{ns:List Int},ns≠[]->(∀n∈ns,0<=n)->dP ns∈ns
 |[n],_,h=>by
  have h0:=h n (by simp);show max n 0∈[n];rw[Int.max_eq_left h0];simp
 |n::m::ns,_,h=>by
  have a:=Dk (ns:=m::ns) (by simp) λx b=>h x (qO _ b);show max n (dP (m::ns))∈n::m::ns;rcases Int.le_total n (dP (m::ns)) with e |e
  ·rw[Int.max_eq_right e];exact qO _ a
  ·rw[Int.max_eq_left e];simp
theorem Jq{m:Int}(hn:ns≠[])(h0:∀n∈ns,0<=n)(a:m∈ns)(h:∀n∈ns,n<=m):m=dP ns:=by
 have c:=A5 a;have b:=h _ (Dk hn h0);omega
def dZ:Nat->List Kn->Str->Int
 |0,_,_=>1
 |n+1,ks,x=>match bN ks x with
  |none=>1
  |some k=>1+(if k.rc=true then (k.parts.map λp=>dZ n ks p.2).sum else dP (k.parts.map λp=>dZ n ks p.2))
theorem Ak(e:∀k∈ks,k.parts.length<=5):∀(n:Nat) (x:Str),1<=dZ n ks x/\dZ n ks x<=6 ^ n
 |0,x=>by simp[dZ]
 | n + 1,x=>by
  unfold dZ;have u:(1:Int)<=6 ^ n:=Int.pow_pos (aA Z);have w:(6:Int) ^ (n+1)=6*6 ^ n:=by rw[Int.pow_succ,Int.mul_comm]
  cases j:bN ks x with
  |none=>simp only;omega
  | some k=>
   simp only;have c:=e k (mL j)
   have all:∀m∈k.parts.map (λp=>dZ n ks p.2),1<=m/\m<=6 ^ n:=λm b=>by
    obtain⟨p,_,rfl⟩:=fV b;exact Ak e n p.2
   have i:(k.parts.map (λp=>dZ n ks p.2)).length<=5:=by rw[aM];exact c
   generalize k.parts.map (λp=>dZ n ks p.2)=ns at all i⊢
   have hs:∀(l:List Int),(∀m∈l,1<=m/\m<=(6:Int) ^ n)->0<=l.sum/\l.sum<=l.length*6 ^ n:=by
    intro l
    induction l with
    |nil=>intro _;simp
    |cons a r g=>
     intro h;have s:=h a (by simp);have o:=g λm b=>h m (qO _ b);rw[List.sum_cons,List.length_cons];push_cast;rw[Int.add_mul];omega
   have b:0<=dP ns/\dP ns<=6 ^ n:=by
    by_cases f:ns=[]
    ·subst f;simp[dP];omega
    ·have:=all _ (Dk f λm b=>by have:=all m b;omega)
     omega
   have s:=hs ns all;have o:(ns.length:Int)*6 ^ n<=5*6 ^ n:=Int.mul_le_mul_of_nonneg_right (by omega) (by omega);split <;> omega
def KsSeq(H:Hp)(v:V)(ks:List Kn):Prop:=∃a vs,v=.ref a/\(H a=some (.lst vs)\/H a=some (.tup vs))/\RelDs H vs (ks.map Kn.d)
theorem KsSeq.same(h:KsSeq H v ks)(s:Same H b):KsSeq b v ks:=by
 obtain⟨a,vs,e,f,c⟩:=h;exact⟨a,vs,e,f.imp (s _ _) (s _ _),c.same s _⟩
def KWf.ksAt(w:KWf ks)(h:RelD H v (iO ks)):KsAt H v ks:=⟨h,by have:=w.few;omega,λk a=>by have:=w.pts k a;omega⟩
def Bd:Option Kn->Str
 |some k=>k.sort
 |none=>S "num"
end M
namespace L2
open PySem PySem.Spec PyProof.Rows
def Gi(g:PI X b it e)(f:PI X b it c):PI X b it (λσ H R=>e σ H R\/c σ H R):=λa s σ H R I h=>by
 rcases h with h |h
 ·exact g a s σ H R I h
 ·exact f a s σ H R I h
end L2
namespace L2
def oK{A B:Hp->Prop}(h:A H):iY σ H (λb a=>if b=true then A a else B a):=by
 unfold iY;show if true=true then A H else B H;rw[if_pos Z];exact h
end L2
namespace M
open PySem L2
theorem Fed.put(h:Fed f H c)(i:H p=none)(j:p≠f)(o:HO):Fed f H (upd c p o):=by
 obtain⟨s,x,y,e⟩:=h;refine⟨λb u a g=>?_,x,y,?_⟩
 ·rw[cO (dJ a i)]
  exact s b u a g
 ·rw[cO (Ne.symm j)]
  exact e
def xD(h:H p=some (.lst us))(o:HO):∀b vs,H b=some (.tup vs)->upd H p o b=some (.tup vs):=λb vs a=>by
 rw[cO λe=>by rw[e,h]at a;cases a];exact a
def Dm(h0:0<=r)(h:r<1+(ks.length:Int)):∃x,fG ([V.str (S "num")]++(ks.map Kn.name).map V.str) r=some (.str x)/\KIn ks ks.length x:=by
 have e:[V.str (S "num")]++(ks.map Kn.name).map V.str=(S "num"::ks.map Kn.name).map V.str:=Z;obtain⟨z,hz,b⟩:=Me (cs:=(S "num"::ks.map Kn.name).map V.str) h0 (by rw[aM,List.length_cons,aM];push_cast;omega);obtain⟨y,a,rfl⟩:=fV hz;refine⟨y,by rw[e];exact b,?_⟩;rcases gD a with rfl |a
 ·exact .inl Z
 ·obtain⟨k,c,rfl⟩:=fV a
  exact KIn.of (.inr ⟨k,c,Z⟩)
def Mr{ys:List Str}(h:i<ys.length):fG (ys.map V.str) (0+(i:Int))=some (.str ys[i]):=by
 rw[Int.zero_add];exact cM (by rw[dA,cF h];rfl)
theorem Qe{a:List Str}(h:a.length=26):bI (a.map V.str) (some 8) (some 12)=((a.drop 8).take 4).map V.str:=by
 unfold bI HT.sIx;rw[aM,h,List.map_take,List.map_drop];rfl
def Xl{a:List Str}(h:a.Nodup)(hi:i<a.length):a[i] ∉a.take i:=λb=>by
 obtain⟨j,c,e⟩:=oJ b;rw[List.length_take]at c;rw[List.getElem_take]at e;have:=(List.getElem_inj h).mp e;omega
def Fw(nms:List Str)(ks:List Kn):Prop:=KWf ks/\ks.length<=4/\ks.map Kn.name=nms.take ks.length/\∀k∈ks,k.parts.length<=4/\k.parts.map (·.1)=((nms.drop 8).take 4).take k.parts.length
def Rq{k:Nat}(a:Room k A):A.units+200<cLine:=by
 have:=a.un;omega
def cH:Nat->List Kn->Str->D
 |0,_,_=>aO 0
 | n+1,ks,x=>match bN ks x with
  |none=>aO 0
  |some k=>if k.rc=true then cI x (k.parts.map λp=>cH n ks p.2) else match k.parts with
   |[]=>aO 0
   |p::_=>iI x p.1 (cH n ks p.2)
def oQ:Nat->List Kn->Str->D
 |0,_,_=>.int 0
 | n+1,ks,x=>match bN ks x with
  |none=>.int 0
  |some k=>if k.rc=true then .tup [.str x,.tup (k.parts.map λp=>oQ n ks p.2)] else match k.parts with
   |[]=>.int 0
   |p::_=>.tup [.str x,.str p.1,oQ n ks p.2]
def KIn.look(a:KWf ks)(h:KIn ks m x):(x=S "num"/\bN ks x=none)\/∃j k,m=j+1/\bN ks x=some k/\k.name=x/\k∈ks/\∀p∈k.parts,KIn ks j p.2:=by
 rcases h with rfl |⟨j,k,f,b,rfl⟩
 ·exact .inl ⟨Z,a.num⟩
 ·refine .inr ⟨m-1,k,by omega,a.at b,Z,cJ b,λp e=>?_⟩
  rcases a.ref j k b p e with z |⟨i,c,hi,z⟩
  ·exact .inl z
  ·exact .inr ⟨i,c,by omega,z⟩
def Fp (ks:List Kn) (m:Nat) (x:Str):Prop:=
  (x=S "num"/\bN ks x=none/\cH (m+1) ks x=aO 0/\oQ (m+1) ks x=.int 0) ∨
  ∃ j k,m=j+1/\bN ks x=some k/\k.name=x/\k∈ks/\(∀p∈k.parts,KIn ks j p.2)/\x≠S "num" ∧
    ((k.rc=true/\cH (m+1) ks x=cI x (k.parts.map λp=>cH m ks p.2)/\oQ (m+1) ks x=.tup [.str x,.tup (k.parts.map λp=>oQ m ks p.2)]) ∨
     (k.rc=false/\∃p r,k.parts=p::r/\cH (m+1) ks x=iI x p.1 (cH m ks p.2)/\oQ (m+1) ks x=.tup [.str x,.str p.1,oQ m ks p.2]))
def KIn.nu(b:KWf ks)(h:KIn ks m x):Fp ks m x:=by
 rcases h.look b with⟨rfl,e⟩ |⟨j,k,rfl,e,hn,c,i⟩
 ·refine .inl ⟨Z,e,?_,?_⟩
  ·unfold cH;rw[e]
  ·unfold oQ;rw[e]
 ·refine .inr ⟨j,k,Z,e,hn,c,i,by rw[<- hn];exact mZ (b.nm k c),?_⟩
  cases a:k.rc with
  | true=>
   refine .inl ⟨Z,?_,?_⟩
   ·conv=>lhs;unfold cH
    rw[e];show(if k.rc=true then _ else _)=_;rw[if_pos a]
   ·conv=>lhs;unfold oQ
    rw[e];show(if k.rc=true then _ else _)=_;rw[if_pos a]
  | false=>
   obtain⟨p,r,f⟩:∃p r,k.parts=p::r:=by
    cases g:k.parts with
    |nil=>exact absurd g (b.alt k c a)
    |cons p r=>exact⟨p,r,Z⟩
   refine .inr ⟨Z,p,r,f,?_,?_⟩
   ·conv=>lhs;unfold cH
    rw[e];show(if k.rc=true then _ else _)=_;rw[if_neg (by rw[a];decide),f]
   ·conv=>lhs;unfold oQ
    rw[e];show(if k.rc=true then _ else _)=_;rw[if_neg (by rw[a];decide),f]
theorem D5{α β γ:Type}{R:β->γ->Prop}{f:α->β}{g:α->γ}:∀{xs:List α},(∀x∈xs,R (f x) (g x))->All2 R (xs.map f) (xs.map g)
 |[],_=>.nil
 |x::xs,h=>.cons (h x (by simp)) (D5 λy a=>h y (qO _ a))
end M
end
section
namespace St
open PySem PySem.Spec PyProof.Rows
theorem N5{ns:List Str}(nd:ns.Nodup):∀i,i<=ns.length->met (λi=>ns.getD i Str.empty) i=ns.take i
 |0,_=>Z
 | i+1,h=>by
  rw[xF,N5 nd i (by omega)];have e:ns.getD i Str.empty=ns[i]:=by simp[List.getD,cF (show i<ns.length by omega)]
  show step_dedup (ns.take i) (ns.getD i Str.empty)=_;rw[e];unfold step_dedup;rw[if_neg,gA,cF (show i<ns.length by omega)]
  ·rfl
  ·intro l
   obtain⟨x,c,g⟩:=List.any_eq_true.mp l;have b:x=ns[i]:=by simpa using g
   subst b;obtain⟨j,f,a⟩:=List.getElem_of_mem c;rw[List.length_take]at f;rw[List.getElem_take]at a;have:=(List.getElem_inj nd).mp a;omega
end St
namespace L2
open PySem PySem.Spec PyProof.Rows
theorem Mq:∀{ns:List Str} {us:List Value},Vals (ns.map V.str) us->StrsAre us ns
 |[],_,h=>by cases h;exact .nil
 | x::r,_,h=>by
  cases h with
  |cons a b=>
   obtain⟨t,rfl⟩:=a;constructor;exact Mq b
def Ul:fC X (compareOp .IsNot) (λx y H Q=>y=.bl true/\∃b,x=.bl b/\Q (.bl (!b)) H):=by
 intro pins s σ H x y v u Q I rx ry h;obtain⟨rfl,b,rfl,q⟩:=h;cases rx;cases ry;cases b <;> exact qG (fF I q rfl)
end L2
end
section
namespace M
open PySem L2
theorem wJ{k:Kn}(h:bN ks x=some k)(n:Nat):dZ (n+1) ks x=1+(if k.rc=true then (k.parts.map λp=>dZ n ks p.2).sum else dP (k.parts.map λp=>dZ n ks p.2)):=by
 conv=>lhs;unfold dZ
 rw[h]
theorem rL (h:bN ks x=none):∀n,dZ n ks x=1
  |0=>Z
  | n + 1 => by conv => lhs;unfold dZ
                rw[h]
def Wk(w:KWf ks)(j:Nat):∀(x:Str),KIn ks j x->∀n,j+1<=n->dZ n ks x=dZ (j+1) ks x:=by
 induction j with
 |zero=>
  intro x h n hn;rcases h.look w with⟨rfl,e⟩ |⟨i,k,b,_⟩
  ·rw[rL e,rL e]
  ·cases b
 | succ j c=>
  intro x h n hn;rcases h.look w with⟨rfl,e⟩ |⟨i,k,b,e,_,_,f⟩
  ·rw[rL e,rL e]
  ·cases b
   obtain⟨m,rfl⟩:∃m,n=m+1:=⟨n-1,by omega⟩;have this:(k.parts.map λp=>dZ m ks p.2)=k.parts.map λp=>dZ (j+1) ks p.2:=zS λp a=>c p.2 (f p a) m (by omega);rw[wJ e,wJ e,this]
def sz(ks:List Kn)(x:Str):Int:=dZ 7 ks x
theorem zV(w:KWf ks):sz ks (S "num")=1:=rL w.num _
def Bh(w:KWf ks)(x:Str):1<=sz ks x:=(Ak w.pts 7 x).1
def Gu(w:KWf ks)(x:Str):sz ks x<=279936:=(Ak w.pts 7 x).2
def dQ(k:Kn)(f:Str->Int):Int:=if k.rc=true then (k.parts.map λp=>f p.2).sum else dP (k.parts.map λp=>f p.2)
theorem Dz{k:Kn}(h:∀p∈k.parts,f p.2=g p.2):dQ k f=dQ k g:=by
 unfold dQ;rw[List.map_congr_left (g:=λp=>g p.2) h]
theorem Gs{ks:List Kn}(w:KWf ks){i:Nat}{k:Kn}(h:ks[i]?=some k):sz ks k.name=1+dQ k (sz ks):=by
 have c:=w.few;have hi:i<ks.length:=(cV h).1;show dZ 7 ks k.name=_;rw[wJ (w.at h)];show 1+dQ k (dZ 6 ks)=_;rw[Dz (g:=sz ks)];intro p b;have a:KIn ks 5 p.2:=KIn.mono (n:=i) (w.ref i k h p b) (by omega);exact(Wk w 5 p.2 a 7 (by omega)).symm
theorem Qu{ks more:List Kn}{k:Kn}(h:bN ks x=some k):bN (ks++more) x=some k:=by
 unfold bN at h⊢;rw[List.find?_append,h];rfl
theorem Io{ks more:List Kn}(w:KWf ks)(b:KWf (ks++more)):∀(n:Nat) (x:Str),KIn ks ks.length x->dZ n (ks++more) x=dZ n ks x
 |0,_,_=>Z
 |n+1,x,h=>by
  rcases h.look w with⟨rfl,e⟩ |⟨i,k,f,e,_,_,c⟩
  ·rw[rL e,rL b.num]
  ·rw[wJ e,wJ (Qu e),List.map_congr_left (g:=λp=>dZ n ks p.2) λp a=>Io w b n p.2 ((c p a).mono (by omega))]
theorem vX{ks more:List Kn}(w:KWf ks)(a:KWf (ks++more))(h:KIn ks ks.length x):sz (ks++more) x=sz ks x:=Io w a 7 x h
def Fit(ks:List Kn):Prop:=∀k∈ks,sz ks k.name<=30
theorem Fit.nil:Fit []:=λ_ h=>nomatch h
theorem Fit.snoc{k:Kn}(w:KWf ks)(a:KWf (ks++[k]))(f:Fit ks)(c:∀p∈k.parts,KIn ks ks.length p.2)(e:dQ k (sz ks)<=29):Fit (ks++[k]):=by
 intro z hz;rcases dD hz with hz |hz
 ·rw[vX w a (KIn.of (.inr ⟨z,hz,Z⟩))]
  exact f z hz
 ·rw[cD hz,Gs a (i:=ks.length) (by simp),Dz (g:=sz ks) λp b=>vX w a (c p b)]
  omega
theorem Jr:∀{ns:List Int} {b:Int},0<=b->(∀n∈ns,n<=b)->dP ns<=b
 |[],b,h0,_=>h0
 |n::ns,b,h0,h=>by
  have e:=h n (by simp);have c:=Jr (ns:=ns) h0 λm a=>h m (by simp[a]);show max n (dP ns)<=b;omega
def Ax(ks:List Kn)(k:Kn):cQ×V:=(Sum.inr k.name,.int (sz ks k.name))
def iJ(ks:List Kn)(i:Nat):List (cQ×V):=(Sum.inr (S "num"),.int 1)::(ks.take i).map (Ax ks)
def V7(w:KWf ks)(i:Nat):(iJ ks i).length<=7:=by
 have:=w.few;show((ks.take i).map _).length+1<=7;rw[aM,List.length_take];omega
theorem Af(ks:List Kn)(x:Str):∀l:List Kn,bO (l.map (Ax ks)) (Sum.inr x)=(l.find? λk=>decide (k.name=x)).map λk=>.int (sz ks k.name)
 |[]=>Z
 | k::l=>by
  by_cases h:k.name=x
  ·rw[List.map_cons,mV (by show(Sum.inr k.name:cQ)=_;rw[h]),List.find?_cons_of_pos (by simpa using h)]
   rfl
  ·rw[List.map_cons,mE (by show ¬(Sum.inr k.name:cQ)=_;exact λe=>h (Sum.inr.inj e)),List.find?_cons_of_neg (by simpa using h)]
   exact Af ks x l
theorem D3(w:KWf ks)(h:KIn ks i x):bO (iJ ks i) (Sum.inr x)=some (.int (sz ks x)):=by
 rcases h with rfl |⟨j,k,c,a,rfl⟩
 ·unfold iJ
  rw[mV Z,zV w]
 ·unfold iJ
  have b:=cJ a;rw[mE (λe=>mZ (w.nm k b) (Sum.inr.inj e).symm),Af];have hnd:((ks.take i).map Kn.name).Nodup:=w.nd.sublist ((List.take_sublist i ks).map _);rw[rS (f:=Kn.name) hnd (i:=j) (by rw[List.getElem?_take_of_lt c];exact a)];rfl
theorem V8(w:KWf ks){k:Kn}(h:ks[i]?=some k):bO (iJ ks i) (Sum.inr k.name)=none:=by
 have c:=cJ h;unfold iJ;rw[mE (λe=>mZ (w.nm k c) (Sum.inr.inj e).symm),Af];have hi:i<ks.length:=(cV h).1;rw[List.find?_eq_none.mpr]
 ·rfl
 ·intro z hz e
  have a:z.name=k.name:=by simpa using e
  have b:=Xl w.nd (i:=i) (by rw[aM];exact hi);refine b ?_;rw[<- List.map_take]
  have:(ks.map Kn.name)[i]'(by rw[aM];exact hi)=k.name:=by
   rw[List.getElem_map];rw[(cV h).2]
  rw[this,<- a];exact List.mem_map.mpr ⟨z,hz,Z⟩
def V9(w:KWf ks){k:Kn}(h:ks[i]?=some k):dC (iJ ks i) (Sum.inr k.name) (.int (sz ks k.name))=iJ ks (i+1):=by
 rw[Wf _ (V8 w h)];unfold iJ;rw[gA,h];simp[Ax]
theorem L4{k:Kn}(h:k∈ks):KIn ks ks.length k.name:=KIn.of (.inr ⟨k,h,Z⟩)
end M
end
section
namespace Nt
open PySem
section
variable {prog:Program}{w:World}{A:Around}{E:Value->Shared->Prop}{s:Shared}
def item {e it l:Addr} {i:Nat} {items:Array Value} {x old:Value} {Q:Value->Shared->Prop}
  (he:IsEnum s.heap e it i old) (hit:s.heap.IsTupleIter it l i) (hl:s.heap.IsTuple l items) (hx:items[i]?=some x) (hne:e≠it)
  (hQ:∀h',IsEnumOut h' e it ((i:Int)+1) x s.heap.objs.size->h'.IsTupleIter it l (i+1)->
   h'.get? s.heap.objs.size=some {cls:=.type "tuple",data:=.seq #[.int i s.toks,x]}->
   (∀b o,b≠e->b≠it->s.heap.get? b=some o->h'.get? b=some o)->Q (.ref s.heap.objs.size) {s with heap:=h',toks:=s.toks+1}) :
  wpAny (model prog w) A (Builtin.«enumerate.__next__» ⟨[.ref e],[]⟩) (λfin s'=>∃v,fin=.done (.ret v)/\Q v s') E s:=by
 obtain⟨hp,g,d,tk,os⟩:=s;have hlt:e<hp.objs.size:=qH he;have ni:=Ne.symm hne;show wpAny _ _ (field (.ref e) 2 >>= _) _ _ _;refine qB (qT he rfl (x:=.ref it) rfl (qB (Zt.next_item hit hl hx λh1 t1 b1=>?_)))
 replace b1:Heap.SameBut it hp h1:=b1
 have e1:IsEnum h1 e it i old:=(b1.2 e hne).trans he;show wpAny _ _ (field (.ref e) 3 >>= _) _ _ ⟨h1,g,d,tk,os⟩;refine qB (qT e1 rfl (x:=rawInt i) rfl ?_);show wpAny _ _ (field (.ref e) 4 >>= _) _ _ ⟨h1,g,d,tk,os⟩;refine qB (qT e1 rfl (x:=.none) rfl ?_);show wpAny _ _ (mkInt i >>= _) _ _ ⟨h1,g,d,tk,os⟩;refine qB (wpAny_mkInt ?_);show wpAny _ _ (setField (.ref e) 3 (rawInt ((i:Int)+1)) >>= _) _ _ ⟨h1,g,d,tk+1,os⟩;refine qB (wpAny_setField_rec e1 (by simp) λh2 e2 b2=>?_)
 replace b2:Heap.SameBut e h1 h2:=b2
 replace e2:IsEnum h2 e it ((i:Int)+1) old:=e2
 show wpAny _ _ (setField (.ref e) 4 .none >>= _) _ _ ⟨h2,g,d,tk+1,os⟩;refine qB (wpAny_setField_rec e2 (by simp) λh3 e3 b3=>?_)
 replace b3:Heap.SameBut e h2 h3:=b3
 replace e3:IsEnum h3 e it ((i:Int)+1) old:=e3
 show wpAny _ _ (newTuple [.int i tk,x] >>= _) _ _ ⟨h3,g,d,tk+1,os⟩;refine qB (wpAny_newTuple ?_);have z3:h3.objs.size=hp.objs.size:=by rw[b3.1,b2.1,b1.1]
 obtain⟨h4,q4⟩:∃h4,h4=h3.push {cls:=.type "tuple",data:=.seq #[.int i tk,x]}:=⟨_,rfl⟩;have e4:IsEnum h4 e it ((i:Int)+1) old:=by rw[q4];exact bX _ e3
 have p4:h4.get? hp.objs.size=some {cls:=.type "tuple",data:=.seq #[.int i tk,x]}:=by rw[q4,<- z3];exact qI _ rfl
 have k4:∀b o,b≠e->b≠it->hp.get? b=some o->h4.get? b=some o:=λb o n1 n2 hb=>by
  rw[q4];exact bX _ (b3.extBut b o n1 (b2.extBut b o n1 (b1.extBut b o n2 hb)))
 have t4:h4.IsTupleIter it l (i+1):=by
  rw[q4];obtain⟨o,ho,r⟩:=(t1.extBut b2.extBut ni).extBut b3.extBut ni;exact⟨o,bX _ ho,r⟩
 rw[<- q4,z3];show wpAny _ _ (Builtin.SmallTypes.ownedTupleIsFree (.ref e) >>= _) _ _ ⟨h4,g,d,tk+1,os⟩;clear q4 e3 b3 e2 b2 e1 b1 t1 z3 h3 h2 h1;refine qB ?_;unfold Builtin.SmallTypes.ownedTupleIsFree;refine qB (qT e4 rfl (x:=.none) rfl (qG ?_));simp only[if_true];refine qB (wpAny_rule (qB (qT e4 rfl (x:=old) rfl ?_)));refine qB (wpAny_setField_rec e4 (by simp) λh5 e5 b5=>?_)
 replace b5:Heap.SameBut e h4 h5:=b5
 replace e5:IsEnum h5 e it ((i:Int)+1) x:=e5
 show wpAny _ _ (Builtin.SmallTypes.ownedTupleHandOut (.ref e) (.ref hp.objs.size) >>= _) _ _ ⟨h5,g,d,tk+1,os⟩;refine qB ?_;unfold Builtin.SmallTypes.ownedTupleHandOut;refine qB (wpAny_setField_rec e5 (by simp) λh6 e6 b6=>?_)
 replace b6:Heap.SameBut e h5 h6:=b6
 replace e6:IsEnumOut h6 e it ((i:Int)+1) x hp.objs.size:=e6
 refine wpAny_setField_rec e6 (by simp) λh7 e7 b7=>?_
 replace b7:Heap.SameBut e h6 h7:=b7
 replace e7:IsEnumOut h7 e it ((i:Int)+1) x hp.objs.size:=e7
 have on:∀b o,b≠e->h4.get? b=some o->h7.get? b=some o:=λb o n hb=>b7.extBut b o n (b6.extBut b o n (b5.extBut b o n hb));refine qB (wpAny_letGo (qG ⟨_,rfl,hQ h7 e7 ?_ (on _ _ (Nat.ne_of_gt hlt) p4) λb o n1 n2 hb=>on b o n1 (k4 b o n1 n2 hb)⟩));obtain⟨o,ho,r⟩:=t4;exact⟨o,on _ _ ni ho,r⟩
def next_item {e it l:Addr} {i:Nat} {items:Array Value} {x old:Value} {Q:Option Value->Shared->Prop}
  (h:IsEnum s.heap e it i old) (g:s.heap.IsTupleIter it l i) (n:s.heap.IsTuple l items) (m:items[i]?=some x) (f:e≠it)
  (p:∀h',IsEnumOut h' e it ((i:Int)+1) x s.heap.objs.size->h'.IsTupleIter it l (i+1)->
   h'.get? s.heap.objs.size=some {cls:=.type "tuple",data:=.seq #[.int i s.toks,x]}->
   (∀b o,b≠e->b≠it->s.heap.get? b=some o->h'.get? b=some o)->Q (some (.ref s.heap.objs.size)) {s with heap:=h',toks:=s.toks+1}) :
  wpAny (model prog w) A (pyNext (.ref e)) Q E s:=by
 have j:s.TypeIs (.ref e) "enumerate":=⟨_,h,Z⟩;unfold pyNext
 exact qB (wpAny_attempt (wpAny_callSpecial?_slot (name:=Str.ofString "__next__") j F.slot_enumerate_next
  (wpAny_call_entry F.slot_enumerate_next j F.entry_enumerate_next (item h g n m f λh' a b c k=>qG (p h' a b c k)) (F.args_enumerate_next_1 _))))
theorem next_end {e it l:Addr} {i:Nat} {items:Array Value} {old:Value} {Q:Option Value->Shared->Prop} (p:A.handled=none)
  (c:IsEnum s.heap e it i old) (a:s.heap.IsTupleIter it l i) (n:s.heap.IsTuple l items) (j:items[i]?=none)
  (u:∀h',Heap.ExtBut it s.heap h'->Q none {s with heap:=h'}):wpAny (model prog w) A (pyNext (.ref e)) Q E s:=by
 have f:s.TypeIs (.ref e) "enumerate":=⟨_,c,Z⟩;unfold pyNext
 refine qB (wpAny_attempt (wpAny_callSpecial?_slot (name:=Str.ofString "__next__") f F.slot_enumerate_next
  (wpAny_call_entry F.slot_enumerate_next f F.entry_enumerate_next ?_ (F.args_enumerate_next_1 _))))
 show wpAny _ _ (field (.ref e) 2 >>= _) _ _ _;refine qB (qT c Z (x:=.ref it) Z (qB (Zt.next_end p a n j λh' y h g=>?_)));obtain⟨o,m,r⟩:=g;exact qB (wpAny_isInstance (T:="StopIteration") (b:=true) ⟨o,m,r⟩ isSubtype_stop (qG (u _ h)))
end
def meets_new (l:Addr) (items:Array Value) :
  Meets (Builtin.«enumerate.__new__» ⟨[.type "enumerate",.ref l],[]⟩) (λ_ R s=>s.heap.IsTuple l items ∧
   R (.ok (.ret (.ref (s.heap.push {cls:=.type "tuple_iterator",data:=.fields #[.ref l,.int 0 0]}).objs.size)))
    {s with heap:=(s.heap.push {cls:=.type "tuple_iterator",data:=.fields #[.ref l,.int 0 0]}).push {cls:=.type "enumerate",data:=.fields #[.none,.bool false,.ref s.heap.objs.size,rawInt 0,.none,.none]}}):=
 .of_wp λprog w A R s h=>by
  obtain⟨hp,g,d,tk,os⟩:=s;obtain⟨hl,h⟩:=h;have hsub:=sub_enumerate;have hL:Heap.IsTuple (Shared.heap ⟨hp,g,d,tk,os⟩) l items:=hl;obtain⟨ol,hol,hcl,nl,hdl⟩:=id hL
  wp_walk using AutoSeq1.wpAny_loadPart' hol
  refine wpAny_stack_any λst=>qG ?_;split
  ·rename_i c _ _ _ _ _
   cases (c == Value.type "enumerate")
   ·wp_walk using AutoSeq1.wpAny_loadPart' hol,wpAny_pyIter_tuple hL
    exact⟨_,rfl,h⟩
   ·wp_walk using AutoSeq1.wpAny_loadPart' hol,wpAny_pyIter_tuple hL
    exact⟨_,rfl,h⟩
  ·wp_walk using AutoSeq1.wpAny_loadPart' hol,wpAny_pyIter_tuple hL
   exact⟨_,rfl,h⟩
section
variable {prog:Program}{w:World}{A:Around}{E:Value->Shared->Prop}{s:Shared}
theorem call (e:s.heap.IsTuple l items)
  (h:∀h',IsEnum h' (s.heap.objs.size+1) s.heap.objs.size 0 .none->h'.IsTupleIter s.heap.objs.size l 0->
   (∀b o,s.heap.get? b=some o->h'.get? b=some o)->Q (.ref (s.heap.objs.size+1)) {s with heap:=h'}) :
  wpAny (model prog w) A (call (.type "enumerate") [.ref l]) Q E s:=by
 refine callType_new F.called_enumerate (aA Z) (F.typeCall_enumerate_1 _) (F.newCall_enumerate_1 _) (λa=>F.args_object_init_2 a _) F.entry_enumerate_new
  (meets_new l items) ⟨e,?_⟩
 have hz:(s.heap.push {cls:=.type "tuple_iterator",data:=.fields #[.ref l,.int 0 0]}).objs.size=s.heap.objs.size+1:=Heap.size_push ..;show _/\_;rw[hz]
 have c:IsEnum ((s.heap.push {cls:=.type "tuple_iterator",data:=.fields #[.ref l,.int 0 0]}).push
   {cls:=.type "enumerate",data:=.fields #[.none,.bool false,.ref s.heap.objs.size,rawInt 0,.none,.none]}) (s.heap.objs.size+1) s.heap.objs.size 0 .none:=by
  rw[<- hz];exact qI _ Z
 exact⟨⟨_,c,Z⟩,h _ c ⟨_,bX _ (qI _ Z),Z,Z⟩ λb o x=>bX _ (bX _ x)⟩
end
end Nt
end
section
namespace L2
open PySem PySem.Spec PyProof.Rows
section
variable {X:Cx}
def Inv.turnedM2{a:List (Addr×Obj)}{σ:St}{H:Hp}{s:Shared}{h':Heap}{t':Nat}{h:List Addr}(I:Inv X a σ H s)(k:∀b o,b ∉h->s.heap.get? b=some o->h'.get? b=some o)(i:∀b∈h,FpOk X a H b):Inv X a σ H {s with heap:=h',toks:=t'}:=by
 have g:∀b u,H b=some u->b ∉h:=λb u e z=>by rw[(i b z).1]at e;cases e
 refine I.step (g':=s.gens) (d':=s.drawn) (ch:=h) (λb p=>?_) (λb o _ _ f e _=>k b o f e) (λb o _ _ f e _=>⟨o.slots,k b o f e⟩) (λ_ _ _ _ n=>n)
  (λb o f e=>⟨o,k b o f e⟩) (λ_ _ e=>e) (λ_ _ _ e=>e) (λb ps e=>⟨#[],by rw[e];simp⟩) (λm l=>?_) (λb u e=>?_) I.bare
 ·obtain⟨J,C,G,y,x,w⟩:=i b p
  exact⟨y,C,x,w⟩
 ·obtain⟨o,es,ep,j,r⟩:=l
  exact⟨o,es,ep,k _ o (λz=>(i _ z).2.1 Z) j,r⟩
 ·refine(I.hok b u e).stay (λc v f q=>k c v ?_ q) (λ_ q=>q) λ_ _ q=>q
  rcases f with z |z
  ·rw[z];exact g b u e
  ·exact g c _ z
def sV(K:Fg)(a:Addr):It:=
 ⟨λi H=>∃xs x,SqT K H a xs/\xs[i]?=some x,λi H x H'=>∃p y,x=.ref p/\H p=none/\H'=upd H p (.tup [.int (i:Nat),y])/\∀xs,SqT K H a xs->xs[i]?=some y,λi H=>∃xs,SqT K H a xs/\xs.length<=i⟩
def Yv{P:Program}{w:World}{K:Fg}{elts:List Expr}{x1}{pos:Pos}(a e it:Addr)(m:e≠it):Turn P w K (.Tuple elts x1 pos) (sV K a) [e,it] e (λi h=>(∃old,IsEnum h e it (i:Nat) old)/\h.IsTupleIter it a i) where
 mem:=by simp
 obj:=λi h st b g=>by
  obtain⟨⟨old,j⟩,l⟩:=st;rcases gD g with z |z
  ·subst z
   exact⟨_,j,λv z=>by cases z⟩
  ·have G:b=it:=by simpa using z
   subst G;obtain⟨o,e,c,d⟩:=l;exact⟨o,e,λv z=>by rw[d]at z;cases z⟩
 keep:=λi h h' st k=>by
  obtain⟨⟨old,j⟩,l⟩:=st;exact⟨⟨old,k e (by simp) _ j⟩,l.at λo q=>k it (by simp) o q⟩
 item:=by
  intro X hP Y hK hc i f s σ H E I C st hg;subst hP Y hK;obtain⟨xs,x,y,U⟩:=hg;obtain⟨its,J,p,hz⟩:=I.tuple y;obtain⟨u,hu,ru⟩:=J.get U;obtain⟨⟨old,j⟩,l⟩:=st;refine Nt.next_item j l (show s.heap.IsTuple a its.toArray from p) (x:=u) (by simpa using hu) m λh1 a1 a2 a3 a5=>⟨_,Z,?_⟩;refine wpAny_letOwnedTupleGo_enum a1 λh2 b1 b2=>?_;have O:e<s.heap.objs.size:=qH j;have a0:H s.heap.objs.size=none:=I.hok.fresh (qD _);have g1:(s.heap.push {cls:=.type "tuple",data:=.seq #[.int (i:Nat) s.toks,u]}).get? s.heap.objs.size=some {cls:=.type "tuple",data:=.seq #[.int (i:Nat) s.toks,u]}:=qI _ Z
  have I1:Inv X f σ (upd H s.heap.objs.size (.tup [.int (i:Nat),x])) {s with heap:=s.heap.push {cls:=.type "tuple",data:=.seq #[.int (i:Nat) s.toks,u]},toks:=s.toks+1}:=
   I.laid (λb o q=>bX _ q) (qD _) ⟨aE Z,[.int (i:Nat) s.toks,u],.cons ⟨_,Z⟩ (.cons ru .nil),⟨_,g1,Z,_,Z,Z⟩⟩
  have n:∀b∈[e,it],FpOk X f (upd H s.heap.objs.size (.tup [.int (i:Nat),x])) b:=λb g=>by
   refine⟨?_,(C b g).2⟩
   have lb:b≠s.heap.objs.size:=by
    rcases gD g with z |z
    ·subst z;exact qL O
    ·have G:b=it:=by simpa using z
     subst G;obtain⟨o,q,_⟩:=l;exact qL (qH q)
   rw[cO lb];exact(C b g).1
  have I2:Inv X f σ (upd H s.heap.objs.size (.tup [.int (i:Nat),x])) {s with heap:=h2,toks:=s.toks+1}:=
   I1.turnedM2 (t':=s.toks+1) (λb o g q=>by
    have M:b≠e/\b≠it:=by simpa using g
    have q1:h1.get? b=some o:=by
     by_cases z:b=s.heap.objs.size
     ·subst z
      have q':(s.heap.push {cls:=.type "tuple",data:=.seq #[.int (i:Nat) s.toks,u]}).get? s.heap.objs.size=some o:=q;rw[g1]at q';cases q';exact a3
     ·exact a5 b o M.1 M.2 (by have q2:(s.heap.push {cls:=.type "tuple",data:=.seq #[.int (i:Nat) s.toks,u]}).get? b=some o:=q;rwa[Heap.get?_push_ne _ b _ z]at q2)
    exact(b2.2 b M.1).trans q1) n
  refine⟨.ref s.heap.objs.size,_,I2,Z,⟨_,x,Z,a0,Z,λys hy=>by rw[I.tuple_inj hy y];exact U⟩,⟨⟨u,?_⟩,?_⟩,λb g=>(n b g).1⟩
  ·exact b1
  ·obtain⟨o,q,r⟩:=a2
   exact⟨o,(b2.2 it (Ne.symm m)).trans q,r⟩
 done:=by
  intro X hP Y hK hc i f s σ H E I C st hg;subst hP Y hK;obtain⟨xs,y,U⟩:=hg;obtain⟨its,J,p,hz⟩:=I.tuple y;obtain⟨⟨old,j⟩,l⟩:=st;have hl:=J.length;obtain⟨f0,f1,f2,f3,f4,f5⟩:=C it (by simp);exact Nt.next_end (I.ok.hd hc) j l (show s.heap.IsTuple a its.toArray from p) (by simp;omega) λh' eb=>⟨Z,I.turned (t':=s.toks) (λb o g q=>eb b o g q) f0 f1 f3 f4 f5⟩
 self:=λ_ _ _ _ _ st h=>by
  obtain⟨⟨old,j⟩,l⟩:=st;exact wpAny_pyIter_enum j h
def Qr(K:Fg)(ta:TA):TI:=λσ H R=>ta σ H λvs H1=>∃a,vs=[.ref a]/\(∃xs,SqT K H1 a xs)/\R (sV K a) H1
def Wb{a:Expr}{j:TA}{p pos:Pos}{elts:List Expr}{x1}{n:Pos}(C:Gl X "enumerate")(y:X.mg "enumerate"=none)(J:PA X [a] j)(hs:starEach [a] X.env=[(false,eval a X.env)]:=by rfl):PI X (.Tuple elts x1 n) (.Call (.Name "enumerate" p) [a] [] pos) (Qr X.K j):=by
 intro g s σ H R I h;refine Call_ (oY I C y boot_enumerate (PyProof.Rows.callWith_type1 (aU (J pos g s σ H _ I h) λus c ⟨vs,U,f,u,w⟩=>?_) hs Z));obtain⟨l,e,⟨xs,x⟩,q⟩:=w;subst e
 cases u with
 |cons r o=>
  cases o;obtain rfl:=r;obtain⟨its,Y,pl,hz⟩:=f.tuple x;refine Nt.call (show c.heap.IsTuple l its.toArray from pl) λh' m O M=>wpAny_pyIter_enum m ?_;refine⟨c.heap.objs.size+1,[c.heap.objs.size+1,c.heap.objs.size],_,_,U,Z,f.kept (t':=c.toks) M,Yv l _ _ (Nat.succ_ne_self _),⟨⟨_,m⟩,O⟩,λb G=>?_,q⟩;have i:b=c.heap.objs.size+1\/b=c.heap.objs.size:=by simpa using G
  rcases i with z |z <;> subst z
  ·exact f.fpOk (qS _) (f.hok.fresh (qS _))
  ·exact f.fpOk (qD _) (f.hok.fresh (qD _))
end
end L2
end
section
namespace L2
open PySem PySem.Spec PySem.W PySem.Calls PyProof.Rows
open Builtin Builtin.ObjectAttr
section
variable {prog:Program}{w:World}{A:Around}{E:Value->Shared->Prop}{s:Shared}{K:Frag}{x C:Addr}{ox:Obj}{od:Option Obj}{name:Str}
structure XCls(K:Frag)(C:Addr):Prop where
 ga:findIn K (.ref C) "__getattribute__"=some (some (.builtin "BaseException.__getattribute__"))
 gk:findIn K (.ref C) "__getattr__"=some none
 mb:mroIn K C (.type "BaseException")=some true
 mo:mroIn K C (.type "object")=some true
 hd:hasDictIn K C=true
 ca:findIn K (.ref C) "__class__"=some (some (.builtin "object.__class__"))
 cn:specialIn K (.builtin "object.__class__") "__get__"=some (some (.builtin "getset_descriptor.__get__"))
 ct:takesIn K (.builtin "object.__class__")=some true
def Rj {Q P:Value->Shared->Prop} (X:K.In s.heap) (I:InstAt s.heap x ox C od) (c:XCls K C)
  (h:∀(A' y:Around) (R:Result->Shared->Prop),(∀v a,P v a->R (.ok (.ret v)) a)->wpAny (model prog w) A' (Builtin.«object.__getattribute__» ⟨[.ref x,.str name tk],[]⟩)
   (λfin a=>match fin with |.done f=>R (.ok f) a |.again z=>z.quiet=true/\codeAny (model prog w) y z R a) (λe a=>R (.error e) a) s)
  (hP:∀v a,P v a->wpAny (model prog w) A (handedOut v) Q E a) :
  wpAny (model prog w) A (getAttrBy (.ref x) (.str name tk) l b) Q E s:=by
 obtain⟨U,g,d,t,os⟩:=s;have G:=I.type (M:=model prog w);have L1:=looks_findIn (M:=model prog w) X c.ga;have L2:=looks_findIn (M:=model prog w) X c.gk;have L3:=looks_mroIn (M:=model prog w) X c.mb;have m:(Value.builtin "BaseException.__getattribute__" == Value.builtin "object.__getattribute__")=false:=by walk_at"k"
 have o:(onTheHeap (Value.ref C) && Value.builtin "BaseException.__getattribute__" == Value.builtin "object.__getattribute__")=false:=by rw[m];rfl
 have u:(b && onTheHeap (Value.builtin "BaseException.__getattribute__"))=false:=by cases b <;> rfl
 unfold getAttrBy;refine qU (qB (G.at (qB (L1.at ?_))));dsimp only;rw[if_neg (by rw[o];decide)];have J:=PySem.F.attrBase_ValueError;have O:builtinKind "BaseException.__getattribute__"=some .slot:=by walk_at"k"
 have j:splitId "BaseException.__getattribute__"=some ("BaseException","__getattribute__"):=by walk_at"k"
 unfold getAttrByItsOwn;refine qB ?_;unfold hookBefore;rw[if_pos (show onTheHeap (Value.ref C)=true from Z)];refine L2.at ?_;refine qB (wpAny_attempt (qU ?_));unfold callGetattribute;rw[if_neg (by rw[u];decide)];unfold boundAndCalled;rw[J.ga.bind (.ref x)];refine qB (qG ?_);refine wpAny_call (codeAny_mono (R:=λr a=>∃v,r=.ok (.ret v)/\P v a) (codeAny_call_builtin J.ga.plain PySem.F.entry_bexc_ga ?_) λr a ⟨v,e,p⟩=>?_)
 ·show wpAny _ _ (checkBuiltinCall "BaseException.__getattribute__" ⟨[.ref x,.str name tk],[]⟩) _ _ _
  have Y:argsOk "BaseException.__getattribute__" ⟨[.ref x,.str name tk],[]⟩:=PySem.F.args_bexc_ga (.ref x) (.str name tk);have hI:Looks (model prog w) U (isInstance (.ref x) (.type "BaseException")) true:=G.andThen L3;refine check_slot (i:="BaseException.__getattribute__") (owner:="BaseException") (n:="__getattribute__") (self:=.ref x) (rest:=[.str name tk]) (kw:=[]) O j hI Y ?_;exact h _ _ (λr a=>∃v,r=.ok (.ret v)/\P v a) λv a p=>⟨v,Z,p⟩
 ·subst e
  exact hP v a p
def X9 (X:K.In s.heap) (I:InstAt s.heap x ox C od) (c:XCls K C) (h:Q (some (.ref C)) {s with toks:=s.toks+1}) :
  wpAny (model prog w) A (getAttr? (.ref x) "__class__") Q E s:=by
 have f:findObj K C od "__class__"=some (.bind (.builtin "getset_descriptor.__get__") (.builtin "object.__class__")):=by
  obtain⟨r,i,_⟩:=any_some c.hd;unfold findObj;rw[i,Option.bind_some,c.ca,Option.bind_some];dsimp only;rw[c.cn,Option.bind_some];dsimp only;rw[c.ct,Option.bind_some]
 unfold getAttr?;refine qB (wpAny_mkText ?_);unfold getAttrBy?;refine qB (wpAny_attempt ?_);refine Rj (s:={s with toks:=s.toks+1}) (P:=λa b=>a=.ref C/\b={s with toks:=s.toks+1}) X I c (λu p R j=>?_) λa b ⟨m,l⟩=>?_
 ·obtain⟨h0,g,d,t,e⟩:=s
  have o:=I.type (M:=model prog w);have n:=looks_find (M:=model prog w) X I f;unfold Builtin.«object.__getattribute__»;refine qB (qG ?_);refine qB (qG (qB (o.at (qB (n.at ?_)))));show wpAny _ _ (bindTo (Value.builtin "getset_descriptor.__get__") (Value.builtin "object.__class__") (.ref x) (.ref C)) _ _ _;unfold bindTo;dsimp only;exact qB (qU (wpAny_call (class_get (s:=⟨h0,g,d,t+1,e⟩) (ox:=ox) (od:=od) X I c.mo (qG (j _ _ ⟨Z,Z⟩)))))
 ·subst m l
  exact qG (qG h)
def W4(c:XCls K C):KitX K (.ref x) (.ref C) (λh=>∃ox od,InstAt h x ox C od) where
 ty:=λ_ _ _ ⟨_,_,I⟩=>I.type
 it:=λ_ _ X _=>by
  obtain⟨cdD,hcD,_⟩:=any_some c.hd;unfold clsIn at hcD;split at hcD
  ·rename_i c' d' cd' sl' ho
   intro A' Q' E' s' k q;unfold isType loadHead;exact qB (wpAny_loadPart (k _ _ (X _ _ ho)) (qG q))
  ·cases hcD
 ne:=λh tp dd its n sl X htp=>by
  obtain⟨cdD,hcD,_⟩:=any_some c.hd;refine Bool.eq_false_iff.mpr λq=>?_;have e:C=tp:=Value.ref.inj (beq_iff_eq.mp q);subst e;unfold clsIn at hcD;split at hcD
  ·rename_i c' d' cd' sl' ho
   have z:=(X _ _ ho).symm.trans htp;cases z
  ·cases hcD
 ca:=λX ⟨_,_,I⟩ k=>X9 X I c k
end
section
variable {prog:Program}{w:World}{A:Around}{E:Value->Shared->Prop}{h:Heap}{g:Array GenState}{d:Drawn}{t:Nat}{os:OsState}
variable {nm q:Str}{C N:Addr}{bs bm bmB:List Value}{hdct:Bool}{sn:List Str}{sub:List Value}{ab:Bool}{col:Option Bool}{dd:Option Addr}{k0 k1 k2 k3 k5:Option Value}{B newId initId:String}
abbrev newExc(C t:Addr)(dx:Option Addr):Obj:={cls:=.ref C,dict:=dx,data:=.fields #[.ref t,.none,.none,.none,.bool false,.none]}
abbrev tS(rest:List Value):Obj:={cls:=.type "tuple",data:=.seq rest.toArray}
def xio (F:ExcBaseFacts B a j n) (T:OwnTail h n y) {rest:List Value} {init:Value}
  (i:h.get? C=some (excClassObj nm q C N bs y u U sub ab O dd k0 k1 k2 k3 Y a)) (hi:Looks (model prog w) h (typeLookup (.ref C) "__init__") (some init))
  (J:∀self,Looks (model prog w) h (bindSpecial init self) (init,[self]))
  (I:wpAny (model prog w) A (call init (.ref (h.objs.size+1)::rest)) (λr p=>r=.none/\Q (.done (.ret (.ref (h.objs.size+1)))) p) E ⟨(h.push (tS rest)).push (newExc C h.objs.size none),g,d,t,z⟩) (c:rest.length<=sizeLine) :
  wpAny (model prog w) A (Builtin.«type.__call__» ⟨.ref C::rest,[]⟩) Q E ⟨h,g,d,t,z⟩:=by
 repeat (first |with_reducible refine wpAny_loadPart_at i ?_ |with_reducible refine wpAny_madeBy_exc i ?_ |wp_step)
 refine codeAny_call_builtin_code (Code.quiet_builtin _ F.quiet) (wpAny_check_new_subT F T i ?_);refine codeAny_exc_new_subT F T i ?_ c;show wpAny _ _ _ _ _ _;have up:∀b o,h.get? b=some o->((h.push (tS rest)).push (newExc C h.objs.size none)).get? b=some o:=λb o e=>bX _ (bX _ e);have m:=up _ _ i;have f:((h.push (tS rest)).push (newExc C h.objs.size none)).get? (h.objs.size+1)=some (newExc C h.objs.size none):=by heap_get
 have l:(Value.ref C::y).contains (.ref C)=true:=by simp
 unfold isInstance
 repeat (first |with_reducible refine wpAny_loadPart_at f ?_ |(with_reducible refine wpAny_isSubtype_exc m ?_;rw[l]) |wp_step)
 show wpAny _ _ (typeLookup (.ref C) _) _ _ _;refine hi _ _ _ _ up ?_;refine qU (qB (J _ _ _ _ _ up ?_));refine qB (wpAny_mono I (λr p G=>?_) λ_ _ x=>x);obtain⟨rfl,M⟩:=G
 wp_walk
 exact M
def Vz (F:ExcBaseFacts B a c f) (T:OwnTail h f p) {rest:List Value} {init:Value}
  (e:h.get? C=some (excClassObj nm q C N bs p l u sub ab o dd M J I G y a)) (hi:Looks (model prog w) h (typeLookup (.ref C) "__init__") (some init))
  (n:∀self,Looks (model prog w) h (bindSpecial init self) (init,[self]))
  (m:wpAny (model prog w) (A.under (.builtin "type.__call__" ⟨.ref C::rest,[]⟩)) (call init (.ref (h.objs.size+1)::rest)) (λr i=>r=.none/\Q (.ref (h.objs.size+1)) i) E
   ⟨(h.push (tS rest)).push (newExc C h.objs.size none),g,d,t,j⟩) (b:rest.length<=sizeLine) :
  wpAny (model prog w) A (call (.ref C) rest) Q E ⟨h,g,d,t,j⟩:=by
 have Y:=tc_lookup;have U:=tc_bind (.ref C);have O:(⟨h,g,d,t,j⟩:Shared).TypeIs (.ref C) "type":=⟨_,e,Z⟩;refine wpAny_call (codeAny_of_tree ?_);show wpAny _ _ (callAny (.ref C) _) _ _ _
 repeat (any_goals (first |assumption |with_reducible refine wpAny_loadPart_at e ?_ |wp_step))
 refine⟨Z,?_⟩;refine codeAny_call_builtin_at (Code.quiet_builtin _ (by walk_at"k")) entry_typeCall (wpAny_check_type_call_sub e (xio F T e hi n ?_ b));exact wpAny_mono m (λr i z=>z) λ_ _ z=>z
def W0 (F:ExcBaseFacts B newId initId bmB) (T:OwnTail h bmB bm) {rest:List Value}
  (hC:h.get? C=some (excClassObj nm q C N bs bm hdct sn sub ab col dd k0 k1 k2 k3 k5 newId)) (he:h.get? e=some (newExc C t0 none))
  (hq:∀h',(∀b o,b≠e->h.get? b=some o->h'.get? b=some o)->h'.get? e=some (newExc C h.objs.size none)->Q .none ⟨h',g,d,t,os⟩) (hrest:rest.length<=sizeLine) :
  wpAny (model prog w) A (call (.builtin initId) (.ref e::rest)) Q E ⟨h,g,d,t,os⟩:=by
 refine wpAny_call (codeAny_call_builtin F.init.plain F.initEntry (wpAny_check_init_subT F T hC he rfl ?_))
 wp_walk
 show Q .none _;refine hq _ (λb o hb e0=>?_) ?_
 ·rw[Heap.get?_update_other _ _ (Ne.symm hb)]
  exact bX _ e0
 ·exact Heap.get?_update_self _ (bX _ he) rfl
end
def rW(K:Frag)(C:Addr)(bmB:List Value)(newId:String):Bool:=match K.lookup C with
 |some ⟨.type "type",_,.cls cd,sl⟩=>(match cd.mro,sl.toList with
  |.ref C'::bm,[_,_,_,_,some (.builtin n),_]=>C' == C && n == newId && !cd.hasDel && cd.hasDict && tailIn K bmB bm
  |_,_=>false)
 |_=>false
def pM(h:Heap)(C:Addr)(bmB:List Value)(newId:String):Prop:=
 ∃nm q N bs bm sn sub ab col dd k0 k1 k2 k3 k5,h.get? C=some (excClassObj nm q C N bs bm true sn sub ab col dd k0 k1 k2 k3 k5 newId)/\OwnTail h bmB bm
def A9{K:Frag}(X:K.In h)(e:rW K C c a=true):pM h C c a:=by
 unfold rW at e;split at e
 ·rename_i J M sl G
  split at e
  ·rename_i Y O y u s r n p i hs
   simp only[Bool.and_eq_true,beq_iff_eq,Bool.not_eq_true']at e;obtain⟨⟨⟨⟨rfl,rfl⟩,b⟩,hd⟩,z⟩:=e;obtain⟨nm,bs,o,ns,m,j,l,sub,U,f,I⟩:=M;dsimp only at i b hd;subst i b hd;obtain⟨sl⟩:=sl;dsimp only at hs;subst hs;exact⟨nm,m,ns,bs,O,l,sub,U,f,J,y,u,s,r,p,X _ _ G,tail_of_in X z⟩
  ·cases e
 ·cases e
end L2
end
section
namespace L2
open PySem PySem.Spec PyProof.Rows
def mG(e C:Addr)(d:Option Addr):HO:=.ext λh=>∃t:Addr,h.get? e=some (newExc C t d)
abbrev bmV:List Value:=[.type "ValueError",.type "Exception",.type "BaseException",.type "object"]
structure XCl(K:Fg)(C:Addr):Prop where
 cls:XCls K C
 obj:rW K C bmV "ValueError.__new__"=true
 kp:PySem.W.keepIn K (.ref C)=true
 sa:PySem.W.findIn K (.ref C) "__setattr__"=some (some (.builtin "object.__setattr__"))
def ObjOk.exc{e C t:Addr}{d:Option Addr}(b:h.get? e=some (newExc C t d)):ObjOk P w H h e (mG e C d):=
 ⟨⟨t,b⟩,⟨_,b⟩,λg c ⟨t',a⟩ k=>⟨t',k _ a⟩⟩
def HOk.exc{d:Option Addr}(x:HOk P w H h)(q:H e=some (mG e C d)):∃t,h.get? e=some (newExc C t d):=
 (show ObjOk P w H h e (mG e C d) from x e _ q).1
section
variable {X:Cx}{pins:List (Addr×Obj)}{σ:St}{H:Hp}{s:Shared}{C:Addr}{Q:VK}{us:List Value}{vs:List V}{CX:lZ}{k:Nat}{f:Addr}{fd:FuncData}{ps:List Str}{sp:Sp}{E:XK}
def Ut{h:Heap}{rest:List Value}{C:Addr}:((h.push (tS rest)).push (newExc C h.objs.size none)).get? (h.objs.size+1)=some (newExc C h.objs.size none):=by heap_get
def V1 (M:XCl X.K C) (hi:PySem.W.findIn X.K (.ref C) "__init__"=some (some (.builtin "ValueError.__init__"))) (I:Inv X pins σ H s) (r:Vals vs us) (y:vs.length<=sizeLine)
  (h:∀e,H e=none->Q (.ref e) (upd H e (mG e C none))):wpAny (model X.prog X.w) X.A (call (.ref C) us) (EP X pins σ Q) X.xe s:=by
 have i:us.length<=sizeLine:=by rw[<- r.length];exact y
 have c:=I.kIn;obtain⟨nm,U,N,bs,bm,O,sub,ab,J,dd,k0,k1,k2,k3,k5,j,T⟩:=A9 c M.obj;have n:=h (s.heap.objs.size+1) (I.hok.fresh (qS _));obtain⟨a,g,d,t,Y⟩:=s;have up:∀b o,a.get? b=some o->((a.push (tS us)).push (L2.newExc C a.objs.size none)).get? b=some o:=λb o e=>bX _ (bX _ e);refine Vz PySem.F.excBase_ValueError T j (PySem.W.looks_findIn c hi) (λself=>PySem.W.Looks.of_pure (PySem.F.excBase_ValueError.init.bind self)) ?_ i;refine W0 PySem.F.excBase_ValueError (T.keeps up) (up _ _ j) Ut (λh' m G=>⟨Z,?_⟩) i;exact⟨.ref (a.objs.size+1),_,I.laid (t':=t) (λb u e=>m b u (λz=>by have l:b<a.objs.size:=qH e;exact absurd l (by rw[show b=a.objs.size+1 from z];exact Nat.not_lt.mpr (qS _))) (up b u e)) (qS _) (ObjOk.exc G),Z,n⟩
variable {x:Str}{p pos:Pos}{e:Expr}{es:List Expr}{t:TA}
def Eg(C:Addr)(t:TA):TE:=λσ H Q=>t σ H λvs H1=>vs.length<=sizeLine/\∀e,H1 e=none->Q (.ref e) (upd H1 e (mG e C none))
def iE (M:XCl X.K C) (hi:PySem.W.findIn X.K (.ref C) "__init__"=some (some (.builtin "ValueError.__init__"))) (i:Gl X x) (g:X.mg x=some (.ref C)) (l:PA X (e::es) t)
  (b:(x == ("__debug__":Str))=false:=by decide) (j:starEach (e::es) X.env=(false,eval e X.env)::starEach es X.env:=by rfl) (a:(backTo pos (starEach es X.env)).any (·.1)=false:=by rfl) :
  PE X (.Call (.Name x p) (e::es) [] pos) (Eg C t):=by
 intro pins s σ H Q I h;refine wpAny_Call_Name_kw (tR I i g ?_ b);refine PySem.W.callWith_K (h₀:=X.base) I.ok.mod.kin M.kp (aU (l pos pins s σ H _ I h) λus m ⟨vs,n,c,r,q⟩=>⟨c.kIn,?_⟩) j a;exact V1 M hi c r q.1 q.2
variable {o value:Expr}{fl:Str}{pos':Pos}{ta tv:TE}
end
section
variable {X:Cx}
def Em(K:Fg):R2:=λx y H Q=>∃a b xs ys,x=.ref a/\y=.ref b/\SqL K H a xs/\SqL K H b ys/\xs.all mB=true/\ys.all mB=true/\Q (.bl (!lS xs ys)) H
def So(z:X.A.units<cLine):fC X (compareOp .NotEq) (Em X.K):=by
 intro o s σ H x y v u Q I U O h;obtain⟨a,b,xs,ys,rfl,rfl,ha,hb,fa,fb,q⟩:=h;cases U;cases O;obtain⟨its,m,w,_⟩:=I.list ha;obtain⟨c,l,r,_⟩:=I.list hb;have l1:=m.length;have l2:=l.length;by_cases G:xs.length=ys.length
 ·refine PySem.EqBoolInt.of_rcne (SeqAt.RcNeAt.lists (e:=λi=>lC (xs.getD i .non) (ys.getD i .non)) w.isList r.isList (by simp only[List.size_toArray];omega) z λj h1 h2=>?_) ⟨.bl _,H,I,Z,?_⟩
  ·have g:j<xs.length:=by simp only[List.size_toArray]at h1;omega
   have f:j<ys.length:=by simp only[List.size_toArray]at h2;omega
   obtain⟨M,e1,q1⟩:=m.get (i:=j) (x:=xs[j]) (cF g);obtain⟨J,e2,Y⟩:=l.get (i:=j) (x:=ys[j]) (cF f)
   have g1:its.toArray[j]=M:=by
    have:its[j]?=some its[j]:=cF (by omega);rw[e1]at this;simpa using (qK this).symm
   have g2:c.toArray[j]=J:=by
    have:c[j]?=some c[j]:=cF (by omega);rw[e2]at this;simpa using (qK this).symm
   rw[g1,g2,List.getD_eq_getElem?_getD,List.getD_eq_getElem?_getD,cF g,cF f];exact Bp q1 Y (List.all_eq_true.mp fa _ (qY g)) (List.all_eq_true.mp fb _ (qY f))
  ·rw[List.size_toArray,<- l1,E3 G]
   exact q
 ·refine PySem.EqBoolInt.of_rcne (SeqAt.RcNeAt.lists_lengths w.isList r.isList (by simp only[List.size_toArray];simp;omega) z) ⟨.bl _,H,I,Z,?_⟩
  rw[Dd G]at q;exact q
end
open PySem.W in
def ad(K:Frag)(x:Str):Addr:=match nsIn K mainGlobals x with |some (some (.ref C))=>C |_=>0
theorem Oz{K:Fg}{x:Str}{C:Addr}(e:PySem.W.nsIn K mainGlobals x=some (some (.ref C))):ad K x=C:=by unfold ad;rw[e]
def names11:List Str:=["BadText","Twice","NoName","NoCount","WrongKind","Lacks","NotOwn","Falls","TooBig","NoFit","NoCode"]
def cAt(K:Fg)(i:Nat):Addr:=ad K (names11.getD i "")
open PySem.W in
def Bm(K:Frag)(C:Addr):Bool:=
 findIn K (.ref C) "__getattribute__" == some (some (.builtin "BaseException.__getattribute__")) && (findIn K (.ref C) "__getattr__" == some none && (mroIn K C (.type "BaseException") == some true && (mroIn K C (.type "object") == some true &&
 (hasDictIn K C && (findIn K (.ref C) "__class__" == some (some (.builtin "object.__class__")) && (specialIn K (.builtin "object.__class__") "__get__" == some (some (.builtin "getset_descriptor.__get__")) && (takesIn K (.builtin "object.__class__") == some true &&
 (rW K C bmV "ValueError.__new__" && (keepIn K (.ref C) && findIn K (.ref C) "__setattr__" == some (some (.builtin "object.__setattr__")))))))))))
def Sw{K:Fg}{C:Addr}(e:Bm K C=true):XCl K C:=by
 unfold Bm at e;simp only[Bool.and_eq_true,beq_iff_eq]at e;obtain⟨o,m,l,j,i,h,g,f,c,b,a⟩:=e;exact⟨⟨o,m,l,j,i,h,g,f⟩,c,b,a⟩
def Qd(s:Stmt)(j:Nat):Stmt:=match s with
 |.ClassDef _ _ _ b _ _ _ _ _ _ _=>b.getD j (.Pass ⟨0,0,0,0⟩)
 |_=>.Pass ⟨0,0,0,0⟩
structure InitTx(K:Fg)(q:Str)(C:Addr)(st:Stmt)(ps:List Str):Prop where
 ex:∃(f:Addr) (fd:FuncData),PySem.W.findIn K (.ref C) "__init__"=some (some (.ref f))/\PySem.W.isFn K (.ref f)=true/\Fun K "__init__" q st f fd/\∀us:List Value,us.length=ps.length->bindArgs fd ⟨us,[]⟩=pure (ps.zip us)
def init_mk {K:Fg} {x q:Str} {C f:Addr} {st:Stmt} {ps:List Str} {r:Value} {od m:Option Addr} {o:Array (Option Value)} {kV h j g ct:Value} (a:PySem.W.nsIn K mainGlobals x=some (some (.ref C)))
  (i:PySem.W.findIn K (.ref C) "__init__"=some (some (.ref f))) (n:PySem.W.isFn K (.ref f)=true)
  (l:K.lookup f=some ⟨r,od,.func (PySem.W.fnOf "__init__" q (rM st) (nY st) (bH st) .none kV h j m g ct),o⟩) (c:PySem.W.codeIn K g q=true) (k:PySem.W.keepIn K (.ref f)=true)
  (b:∀(kV h j:Value) (m:Option Addr) (g ct:Value) (us:List Value),us.length=ps.length->bindArgs (PySem.W.fnOf "__init__" q (rM st) (nY st) (bH st) .none kV h j m g ct) ⟨us,[]⟩=pure (ps.zip us)):InitTx K q (ad K x) st ps:=by
 rw[Oz a];exact⟨f,_,i,n,Hn (st:=st) l c k,b kV h j m g ct⟩
end L2
end
section
namespace L2
open PySem PySem.Spec PyProof.Rows M
section
variable {X:Cx}
def C7(K:Fg):R2:=λx y H Q=>∃a b xs ys,x=.ref a/\y=.ref b/\SqT K H a xs/\SqT K H b ys/\xs.length+ys.length<=sizeLine ∧
 (xs=[]->Q (.ref b) H)/\(xs≠[]->ys=[]->Q (.ref a) H)/\(xs≠[]->ys≠[]->∀p,H p=none->Q (.ref p) (upd H p (.tup (xs++ys))))
def X1:fC X (binaryOp .Add) (C7 X.K):=by
 intro c s σ H x y v u Q I w r h;obtain⟨a,b,xs,ys,rfl,rfl,J,G,hz,q0,Y,U⟩:=h;by_cases f:xs=[]
 ·cases w
  cases r;obtain⟨its,O,p1,_⟩:=I.tuple J;obtain⟨e,r2,p2,_⟩:=I.tuple G;obtain⟨⟨cls,dd,data,sl⟩,z,C,n,hd⟩:=id p1;obtain⟨⟨M,o,p,m⟩,i,l,n2,j⟩:=id p2;simp only at C hd l j;subst C hd l j
  exact concat_meets ⟨_,z,Z⟩ ⟨_,i,Z⟩ noFill_tuple_add seq_tuple_add PySem.F.slot_tuple_add PySem.F.entry_tuple_add (PySem.F.args_tuple_add_2 _ _)
   (tuple_addW0 a b its.toArray e.toArray n n2 dd o sl m (by rw[O.nil_iff.mpr f];rfl)) ⟨z,i,⟨.ref b,H,I,Z,q0 f⟩⟩
 ·exact Ui c s σ H _ _ v u Q I w r ⟨a,b,xs,ys,Z,Z,J,G,f,hz,Y f,U f⟩
end
section
variable {ix:nH}{tt:TT}{te:TE}{g:TG}{σ:St}{H:Hp}{Q:VK}
def Y5 {K:Fg} {a:Addr} {xs:List V} (c:Nat->List V->Hp->Prop) (h0:c 0 [] H) (hn:xs.length<sizeLine) (j:∀i ys H,i<=xs.length->c i ys H->SqT K H a xs)
  (hs:∀i x ys H p,xs[i]?=some x->i<xs.length->ys.length<=i->c i ys H->H p=none->g (.ref p) (dX l σ) (upd H p (.tup [.int (i:Nat),x])) λh G=>oU (dX l σ) h/\r h G λb o=>if b=true then s h o (oI c xs.length i ys) else oH c xs.length i ys o)
  (hd:∀ys H,ys.length<=xs.length->c xs.length ys H->∀D,H D=none->Q (.ref D) (upd H D (.lst ys))):oW (sV K a) l g r s σ H Q:=by
 refine⟨λi m ys H=>m=xs.length-i/\i<=xs.length/\ys.length<=i/\c i ys H,⟨xs.length,by simp,qX _,qD _,h0⟩,?_⟩;rintro i m ys H ⟨rfl,hi,n,p⟩;have q:=j i ys H hi p;by_cases f:i<xs.length
 ·refine .inr ⟨⟨xs,xs[i],q,by simp[f]⟩,by omega,λv I y=>?_⟩
  obtain⟨u,z,rfl,C,rfl,w⟩:=y;exact hs i z ys _ u (w xs q) f n p C
 ·have e:i=xs.length:=by omega
  subst e;exact .inl ⟨⟨xs,q,qD _⟩,hd ys H n p⟩
end
section
variable {X:Cx}
def Sn:fC X (compareOp .Is) (λx y H Q=>y=.bl true/\∃b,x=.bl b/\Q (.bl b) H):=by
 intro a s σ H x y v u Q I e c h;obtain⟨rfl,b,rfl,q⟩:=h;cases e;cases c;cases b <;> exact qG (fF I q Z)
end
end L2
namespace HT
open PySem PySem.Spec PyProof.Rows L2
section
variable {prog:Program}{w:World}{A:Around}{E:Value->Shared->Prop}{s:Shared}
def getItem_tuple_whole {t sl:Addr} (c:IsTup s.heap t items) (hs:s.heap.IsSliceOf sl j i .none) (pl:IsPart j a) (m:IsPart i hi)
  (l:sIx items.size 0 a=0/\sIx items.size items.size hi=items.size)
  (h:Q (.ref t) s):wpAny (model prog w) A (getItem (.ref t) (.ref sl)) Q E s:=by
 obtain⟨n,e,f,o⟩:=id hs;have g:s.TypeIs (.ref sl) "slice":=⟨n,e,f⟩;unfold getItem
 try with_reducible refine qU ?_
 first |refine qB (qG ?_) |skip
 refine qB (wpAny_sequenceKey c.typeIs (aA Z) ?_)
 refine qB (wpAny_callSpecial?_slot (name:=Str.ofString "__getitem__") c.typeIs PyProof.Rows.slot_tuple_getitem
  (wpAny_call_entry PyProof.Rows.slot_tuple_getitem c.typeIs entry_tuple_getitem ?_ (args_tuple_getitem _ _)))
 show wpAny _ _ (Builtin.Tuple.tupleItemsOf (.ref t) >>= _) _ _ s;refine qB (tupleItemsOf_ c ?_);refine qB (YC g ?_);rw[if_pos (aA Z)];refine qB (Of hs pl m ?_)
 have b:(((sIx items.size 0 a:Nat):Int) == 0 && (1:Int) == 1 && (sIx items.size items.size hi-sIx items.size 0 a) == items.size)=true:=by
  rw[l.1,l.2];simp
 show wpAny _ _ (if (((sIx items.size 0 a:Nat):Int) == 0 && (1:Int) == 1 && (sIx items.size items.size hi-sIx items.size 0 a) == items.size)=true then _ else _) _ _ s;rw[if_pos b];unfold Builtin.Tuple.tupleIsExact;refine qB (qB (YC c.typeIs (qG ?_)));rw[if_pos (aA Z)];exact qB (wpAny_rule (qG ⟨_,Z,qG h⟩))
end
end HT
namespace L2
open PySem PySem.Spec PyProof.Rows M
section
variable {X:Cx}
def Bc(K:Fg):V->Option Int->Option Int->Hp->VK->Prop:=λx lo hi H Q=>∃a xs,x=.ref a/\SqT K H a xs ∧
 ((HT.sIx xs.length 0 lo=0/\HT.sIx xs.length xs.length hi=xs.length)->Q (.ref a) H) ∧
 (¬(HT.sIx xs.length 0 lo=0/\HT.sIx xs.length xs.length hi=xs.length)->∀p,H p=none->Q (.ref p) (upd H p (.tup (bI xs lo hi))))
def V4:sM X (Bc X.K):=by
 intro b s σ H x v n m i hi sl Q I f hs pl g h;obtain⟨a,xs,rfl,j,p,o⟩:=h;by_cases e:HT.sIx xs.length 0 i=0/\HT.sIx xs.length xs.length hi=xs.length
 ·cases f
  obtain⟨its,r,l,hz⟩:=I.tuple j;have c:its.toArray.size=xs.length:=by rw[List.size_toArray];exact r.length.symm
  refine⟨"tuple",_,PyProof.Rows.slot_tuple_getitem.lookup,l.typeIs,?_⟩;exact HT.getItem_tuple_whole l hs pl g (by rw[c];exact e) ⟨.ref a,H,I,Z,p e⟩
 ·exact Iw b s σ H _ v n m i hi sl Q I f hs pl g ⟨a,xs,Z,j,e,o e⟩
end
end L2
end
section
namespace L2
open PySem PySem.Spec PyProof.Rows
theorem Ar:plainId "dict.update.loop"=true:=by walk_at"k"
def Oc:entryFor table "dict.update.loop"=some Builtin.«dict.update.loop»:=entryFor_of_fast (by kernel_rfl)
section
variable {prog:Program}{w:World}{A:Around}{K:Type}[DecidableEq K]{knd:KeyKind prog w K}
def PairsAt(knd:KeyKind prog w K)(h:Heap):List Value->List (K×Value)->Prop
 |[],[]=>True
 |it::its,p::ps=>(∃a key,it=.ref a/\h.IsTuple a #[key,p.2]/\knd.is p.1 key=true)/\PairsAt knd h its ps
 |_,_=>False
theorem PairsAt.keep:∀{its:List Value} {ps:List (K×Value)},PairsAt knd h its ps->(∀a xs,h.IsTuple a xs->h'.IsTuple a xs)->PairsAt knd h' its ps
 |[],[],_,_=>trivial
 |it::its,p::ps,⟨⟨a,b,e,f,c⟩,r⟩,k=>⟨⟨a,b,e,k _ _ f,c⟩,PairsAt.keep r k⟩
 |[],_::_,h,_=>h.elim
 |_::_,[],h,_=>h.elim
def xkn{h:Heap}{a d:Addr}{xs:Array Value}{kvs:List (K×Value)}(g:h.IsTuple a xs)(hd:h.DictOf knd d kvs):a≠d:=λe=>by
 subst e;obtain⟨o,i,j,_⟩:=g;obtain⟨t,_,_,f,c,_⟩:=hd;have b:=c.1;have:o=t:=qK (i.symm.trans f);subst this;rw[j]at b;exact absurd (Value.type.inj b) (aA Z)
end
def PairsV(H:Hp):List V->List (cQ×V)->Prop
 |[],[]=>True
 |y::ys,kv::kvs=>(∃b,y=.ref b/\H b=some (.tup [kV kv.1,kv.2]))/\PairsV H ys kvs
 |_,_=>False
theorem PairsV.length:∀{ys:List V} {kvs:List (cQ×V)},PairsV H ys kvs->ys.length=kvs.length
 |[],[],_=>Z
 |y::ys,a::kvs,⟨_,r⟩=>by rw[List.length_cons,List.length_cons,PairsV.length r]
 |[],_::_,h=>h.elim
 |_::_,[],h=>h.elim
section
variable {X:Cx}
theorem M4{a:List (Addr×Obj)}{σ:St}{H:Hp}{s:Shared}(I:Inv X a σ H s):∀{ys:List V} {its:List Value} {kvs:List (cQ×V)},Vals ys its->PairsV H ys kvs->∃ps,KV kvs ps/\PairsAt (lN X.prog X.w) s.heap its ps
 |[],_,[],r,_=>by cases r;exact⟨[],.nil,trivial⟩
 | y::ys,_,j::kvs,r,⟨⟨b,o,n⟩,rest⟩=>by
  subst o
  cases r with
  |cons h t=>
   obtain⟨ps,m,l⟩:=M4 I t rest;obtain⟨c,g,i,_⟩:=I.tuple (zD (K:=X.K) n);obtain⟨f,e,rfl,u,p⟩:=g.two;exact⟨(j.1,e)::ps,.cons ⟨Z,p⟩ m,⟨b,f,h,i,rE u⟩,l⟩
 |[],_,_::_,_,h=>h.elim
 |_::_,_,[],_,h=>h.elim
end
end L2
end
section
namespace M
open PySem L2
inductive Vk(ks:List Kn):Str->D->Prop
 |num (i:Int) (h:Nm i):Vk ks (S "num") (.int i)
 |rc {x:Str} {k:Kn} {ws:List D} (hk:bN ks x=some k) (hr:k.rc=true) (hl:ws.length=k.parts.length) (h:∀(i:Nat) (w:D) (p:Str×Str),ws[i]?=some w->k.parts[i]?=some p->Vk ks p.2 w):Vk ks x (.tup [.str x,.tup ws])
 |al {x:Str} {k:Kn} {p:Str×Str} {w:D} (hk:bN ks x=some k) (hr:k.rc=false) (hp:p∈k.parts) (h:Vk ks p.2 w):Vk ks x (.tup [.str x,.str p.1,w])
def yF(ks:List Kn)(bs:List (Str×Str))(env:En):Prop:=∀p∈bs,∃v,env p.1=some v/\Vk ks p.2 v
def Sg(s:Str):Prop:=s=S "+"\/s=S "-"\/s=S "*"\/s=S "<"\/s=S "="
def Oo(d:D):Prop:=∀s a b,d=iZ s a b->Sg s
def rA(ks:List Kn):Nat->En->D->D->Prop
 |0=>Bs
 |n+1=>λenv d v=>Bs env d v\/(NodeEv ks (rA ks n) env d v/\Oo d)
theorem All2.imp3{α β:Type}{R c:α->β->Prop}(k:∀a b,R a b->c a b):∀{as:List α} {bs:List β},All2 R as bs->All2 c as bs
 |_,_,.nil=>.nil
 |_,_,.cons h t=>.cons (k _ _ h) (All2.imp3 k t)
theorem NodeEv.mono{ks:List Kn}{R n:En->D->D->Prop}(k:∀env d v,R env d v->n env d v){d v:D}(h:NodeEv ks R env d v):NodeEv ks n env d v:=by
 rcases h with⟨s,a,b,x,y,g,l,r⟩ |⟨j,es,vs,m,g,r⟩ |⟨a,j,vs,f,o,i,g,r⟩ |⟨j,t,a,x,g,r⟩ |⟨a,rs,j,t,x,y,e,m,g,p,l,r⟩ |⟨a,b,c,x,g,l,r⟩
 ·exact .inl ⟨s,a,b,x,y,k _ _ _ g,k _ _ _ l,r⟩
 ·exact .inr (.inl ⟨j,es,vs,m,g.imp3 (k env),r⟩)
 ·exact .inr (.inr (.inl ⟨a,j,vs,f,o,i,k _ _ _ g,r⟩))
 ·exact .inr (.inr (.inr (.inl ⟨j,t,a,x,k _ _ _ g,r⟩)))
 ·exact .inr (.inr (.inr (.inr (.inl ⟨a,rs,j,t,x,y,e,m,k _ _ _ g,p,k _ _ _ l,r⟩))))
 ·exact .inr (.inr (.inr (.inr (.inr ⟨a,b,c,x,k _ _ _ g,k _ _ _ l,r⟩))))
def Ge(c:h≠S "op"):Oo (.tup (.str h::r)):=λs a b e=>by
 have g:=D.tup.inj e;have f:=(List.cons.inj g).1;exact absurd (D.str.inj f) c
def lV(ks:List Kn)(n:Nat)(bs:List (Str×Str))(d:D)(x:Str):Prop:=∀env,yF ks bs env->∃v,rA ks n env d v/\Vk ks x v
def Jh{d v:D}(h:Bs env d v):rA ks n env d v:=by
 cases n with
 |zero=>exact h
 |succ n=>exact .inl h
def Tt{bs:List (Str×Str)}(h:Nm i):lV ks n bs (aO i) (S "num"):=λenv _=>⟨.int i,Jh (.inl ⟨i,Z,Z⟩),.num i h⟩
def Ts{bs:List (Str×Str)}(h:(y,x)∈bs):lV ks n bs (fB y) x:=λenv a=>by
 obtain⟨v,c,b⟩:=a _ h;exact⟨v,Jh (.inr ⟨y,c,Z⟩),b⟩
theorem Lk{bs:List (Str×Str)}(c:yF ks bs env):∀{es:List D} {ps:List (Str×Str)},All2 (λe (p:Str×Str)=>lV ks n bs e p.2) es ps->∃vs,All2 (rA ks n env) es vs/\vs.length=ps.length/\∀(i:Nat) w p,vs[i]?=some w->ps[i]?=some p->Vk ks p.2 w
 |_,_,.nil=>⟨[],.nil,Z,λi w p h=>by simp at h⟩
 | _,_,.cons h t=>by
  obtain⟨v,m,l⟩:=h env c;obtain⟨vs,j,g,f⟩:=Lk c t;refine⟨v::vs,.cons m j,by rw[List.length_cons,List.length_cons,g],λi w p a b=>?_⟩
  cases i with
  |zero=>
   simp at a b;subst a b;exact l
  |succ i=>exact f i w p (by simpa using a) (by simpa using b)
def Tu{bs:List (Str×Str)}{k:Kn}(c:bN ks x=some k)(a:k.rc=true)(b:k.parts.length<=1000)(h:All2 (λe (p:Str×Str)=>lV ks n bs e p.2) es k.parts):lV ks (n+1) bs (cI x es) x:=λenv f=>by
 obtain⟨vs,j,i,g⟩:=Lk f h;exact⟨_,.inr ⟨.inr (.inl ⟨x,es,vs,by rw[h.length];exact b,j,Z,Z⟩),Ge (by walk_at"k")⟩,.rc c a i g⟩
def Tv{bs:List (Str×Str)}{k:Kn}(e:bN ks x=some k)(b:k.rc=false)(c:p∈k.parts)(h:lV ks n bs a p.2):lV ks (n+1) bs (iI x p.1 a) x:=λenv f=>by
 obtain⟨v,i,g⟩:=h env f;exact⟨_,.inr ⟨.inr (.inr (.inr (.inl ⟨x,p.1,a,v,i,Z,Z⟩))),Ge (by walk_at"k")⟩,.al e b c g⟩
def rY(f:Str->Int)(k:Kn):Int:=if k.rc=true then (k.parts.map λp=>f p.2).sum else match k.parts with |[]=>0 |p::_=>f p.2
def lO:Nat->List Kn->Str->Int
 |0,_,_=>1
 |n+1,ks,x=>match bN ks x with
  |none=>1
  |some k=>1+rY (lO n ks) k
def Ol(ks:List Kn)(x:Str):Int:=lO 7 ks x
end M
end
section
namespace L2
open PySem PySem.Spec PyProof.Rows
def oR(h:Heap)(e C:Addr)(d:Option Addr)(c2:Value)(T:Option Addr)(fl:Value):Prop:=
 ∃vs:Array Value,(vs.size=6/\vs[2]?=some c2)/\h.get? e=some {cls:=.ref C,dict:=d,data:=.fields vs} ∧
  match T with
  |none=>vs[1]?=some .none
  |some T=>vs[1]?=some (.ref T)/\T≠e/\∃oT ts,h.get? T=some oT/\oT.data=.fields ts/\ts[3]?=some fl
structure FlyTo(fs:List Addr)(e:Addr)(T:Option Addr)(h h':Heap):Prop where
 keep:∀b o,b ∉fs->b≠e->T≠some b->h.get? b=some o->h'.get? b=some o
 slot:∀b o,b∈fs->b≠e->T≠some b->h.get? b=some o->∃sl,h'.get? b=some {o with slots:=sl}
 size:h.objs.size<=h'.objs.size
def FlyTo.refl{fs:List Addr}:FlyTo fs e T h h:=⟨λ_ _ _ _ _ q=>q,λ_ o _ _ _ q=>⟨o.slots,q⟩,qD _⟩
theorem FlyTo.trans{fs:List Addr}(a:FlyTo fs e T h h1)(b:FlyTo fs e (some T') h1 h2)(t:T=some T'\/h.objs.size<=T'):FlyTo fs e T h h2:=by
 have nt:∀c o,T≠some c->h.get? c=some o->(some T':Option Addr)≠some c:=λc o n q z=>by
  have z':T'=c:=qK z;rcases t with t |t
  ·exact n (by rw[t,z'])
  ·exact absurd (qH q) (Nat.not_lt.mpr (by rw[<- z'];exact t))
 refine⟨λc o n1 n2 n3 q=>b.keep c o n1 n2 (nt c o n3 q) (a.keep c o n1 n2 n3 q),λc o n1 n2 n3 q=>?_,qC a.size b.size⟩;obtain⟨sl,q1⟩:=a.slot c o n1 n2 n3 q;obtain⟨sl',q2⟩:=b.slot c _ n1 n2 (nt c o n3 q) q1;exact⟨sl',q2⟩
section
variable {M:Model}{A:Around}{E:Value->Shared->Prop}{s:Shared}{c2:Value}
def Am {fs:List Addr} {d fr:Option Addr} (t:oR s.heap e C d u (some T) r)
  (h:∀h',FlyTo fs e (some T) s.heap h'->oR h' e C d u (some T) (fr.elim .none λf=>rawInt f)->Q () {s with heap:=h'}):wpAny M A (setFlight (.ref e) fr) Q E s:=by
 obtain⟨vs,hz,j,i,c,w,ts,l,nP,p⟩:=t;have i:vs[1]?=some (.ref T):=i;have a:∀b,b≠T->(s.heap.update T (Obj.mapFields (·.setIfInBounds 3 (fr.elim Value.none λf=>rawInt f)))).get? b=s.heap.get? b:=λb m=>Heap.get?_update_other _ _ (Ne.symm m);unfold setFlight;refine qB (qT j Z i ?_);rw[if_pos (show(Value.ref T != Value.none)=true from by simp)];have g:3<ts.size:=(Array.getElem?_eq_some_iff.mp p).1;refine YE l nP g (h _ ⟨λb o _ _ n q=>(a b λz=>n (by rw[z])).trans q,λb o _ _ n q=>⟨o.slots,(a b λz=>n (by rw[z])).trans q⟩,?_⟩ ?_)
 ·rw[Heap.size_after_update];exact qD _
 ·exact⟨vs,hz,(a e (Ne.symm c)).trans j,i,c,_,_,Heap.get?_update_self _ l (Obj.isFreed_of_fields (Obj.data_mapFields nP _)),Obj.data_mapFields nP _,by simp[g]⟩
def Jj {L e C:Addr} {d:Option Addr}
  (y:A.frames=some (env::outer)) (J:s.heap.FunFrames base (env::outer)) (Y:env.frame=some L)
  (O:s.heap.get? e=some {cls:=.ref C,dict:=d,data:=.fields vs}) (hz:vs.size=6/\vs[2]?=some c2)
  (h:∀h',FlyTo (gL (env::outer)) e none s.heap h'->oR h' e C d c2 (some s.heap.objs.size) (rawInt L)->Q () {s with heap:=h'}) :
  wpAny M A (do let a <- frameOf env;let pl <- entryPlaceOf L f;let b <- EntryCells.newEntry c a .none (rawInt L) .none pl;setField (.ref e) 1 b) Q E s:=by
 have p:e ∉gL (env::outer):=λU=>by
  obtain⟨_,o,u,x⟩:=J.mem U;rw[O]at u;injection u with u;subst u;exact x vs Z
 refine qB (wpAny_frameOf_fun y J Y λh₁ i=>?_);refine qB (wpAny_entryPlaceOf λpl j=>?_);unfold EntryCells.newEntry newFields;refine qB (wpAny_newObj_type ?_ (j.sizeOk5 _ _ _ _ _));have m:h₁.get? e=some {cls:=.ref C,dict:=d,data:=.fields vs}:=(i.2.1 e p).trans O;have g:h₁.objs.size=s.heap.objs.size:=i.1;have l:=bX (h:=h₁) {cls:=.type "traceback",dict:=none,data:=.fields ([c,.ref L,.none,rawInt L,.none]++(if pl.isEmpty then List.replicate 6 Value.none else pl)).toArray} m;refine YE l Z (by rw[hz.1];decide) ?_;have r:h₁.objs.size≠e:=Nat.ne_of_gt (qH m);have z:=Heap.get?_update_self (Obj.mapFields (·.setIfInBounds 1 (Value.ref h₁.objs.size))) l Z
 have I:=(Heap.get?_update_other (h₁.push {cls:=.type "traceback",dict:=none,data:=.fields ([c,.ref L,.none,rawInt L,.none]++(if pl.isEmpty then List.replicate 6 Value.none else pl)).toArray})
  (Obj.mapFields (·.setIfInBounds 1 (Value.ref h₁.objs.size))) (Ne.symm r)).trans (qI h₁ Z)
 have keep:∀b o,b≠e->h₁.get? b=some o->
   ((h₁.push {cls:=.type "traceback",dict:=none,data:=.fields ([c,.ref L,.none,rawInt L,.none]++(if pl.isEmpty then List.replicate 6 Value.none else pl)).toArray}).update e (Obj.mapFields (·.setIfInBounds 1 (Value.ref h₁.objs.size)))).get? b=some o:=λb o G w=>by
  rw[Heap.get?_update_other _ _ (Ne.symm G)];exact bX _ w
 refine h _ ⟨λb o w n _ q=>keep b o n ((i.2.1 b w).trans q),λb o w n _ q=>?_,?_⟩ ?_
 ·obtain⟨sl,hs⟩:=i.2.2 b o q
  exact⟨sl,keep b _ n hs⟩
 ·rw[Heap.size_after_update,Heap.size_push,g];exact qS _
 ·refine⟨vs.setIfInBounds 1 (Value.ref h₁.objs.size),⟨by simpa using hz.1,by rw[Array.getElem?_setIfInBounds_ne (aA Z)];exact hz.2⟩,?_,?_,?_,?_⟩
  ·exact z
  ·rw[g];simp[hz.1]
  ·rw[<- g];exact r
  ·refine⟨{cls:=.type "traceback",dict:=none,data:=.fields ([c,.ref L,.none,rawInt L,.none]++(if pl.isEmpty then List.replicate 6 Value.none else pl)).toArray},_,by rw[<- g];exact I,Z,?_⟩
   first |(simp;done) |(rcases j with rfl |⟨_,_,_,_,_,_,_,rfl⟩ <;> simp)
def De {L e C:Addr} {d T:Option Addr}
  (l:A.frames=some (env::outer)) (U:s.heap.FunFrames base (env::outer)) (u:env.frame=some L) (t:oR s.heap e C d c2 T fl)
  (h:∀h' J,FlyTo (gL (env::outer)) e T s.heap h'->(T=some J\/s.heap.objs.size<=J)->oR h' e C d c2 (some J) (rawInt L)->Q () {s with heap:=h'}):wpAny M A (noteFrame (.ref e) env) Q E s:=by
 obtain⟨vs,hz,m,O⟩:=id t;unfold noteFrame;simp only[u]
 cases T with
 |none=>
  refine qB (qT m Z O ?_);rw[if_neg (aA Z)];exact Jj l U u m hz λh' a b=>h h' _ a (.inr (qD _)) b
 | some T=>
  obtain⟨I,x,oT,ts,y,nP,Y⟩:=O;have I:vs[1]?=some (.ref T):=I;refine qB (qT m Z I ?_);rw[if_pos (show(Value.ref T != Value.none)=true from by simp)];refine qB (qT y nP Y ?_);by_cases q:(fl == rawInt L)=true
  ·rw[if_pos q]
   obtain rfl:=beq_iff_eq.mp q;exact qG (h _ T FlyTo.refl (.inl Z) t)
  ·rw[if_neg q]
   have G:3<ts.size:=(Array.getElem?_eq_some_iff.mp Y).1;refine qB (YE y nP G ?_);have f:∀b,b≠T->(s.heap.update T (Obj.mapFields (·.setIfInBounds 3 Value.none))).get? b=s.heap.get? b:=λb i=>Heap.get?_update_other _ _ (Ne.symm i)
   have g:∀b o,s.heap.get? b=some o->(∀vs,o.data≠.fields vs)->b≠T:=λb o i j q=>by
    rw[q,y]at i;injection i with i;subst i;exact j ts nP
   have hsz:(s.heap.update T (Obj.mapFields (·.setIfInBounds 3 Value.none))).objs.size=s.heap.objs.size:=Heap.size_after_update ..;refine Jj (s:={s with heap:=s.heap.update T (Obj.mapFields (·.setIfInBounds 3 Value.none))}) l (U.of_keeps λb o i j=>⟨o,(f b (g b o i j)).trans i,Z⟩) u ((f e (Ne.symm x)).trans m) hz λh' a b=>?_;refine h h' _ ⟨λc o r p n w=>a.keep c o r p (λz=>nomatch z) ((f c λz=>n (by rw[z])).trans w),λc o r p n w=>a.slot c o r p (λz=>nomatch z) ((f c λz=>n (by rw[z])).trans w),?_⟩ (.inr (qD _)) ?_
   ·rw[<- hsz];exact a.size
   ·rw[<- hsz];exact b
def Xb {L e C:Addr} {d T:Option Addr} {m:Value}
  (f:A.frames=some (env::outer)) (g:s.heap.FunFrames base (env::outer)) (i:env.frame=some L) (t:oR s.heap e C d n T m)
  (h:∀h' c,FlyTo (gL (env::outer)) e T s.heap h'->(T=some c\/s.heap.objs.size<=c)->oR h' e C d n (some c) .none->Q () {s with heap:=h'}):wpAny M A (leaving env (.ref e)) Q E s:=by
 unfold leaving;refine qB (De f g i t λl c a w b=>?_);exact Am (s:={s with heap:=l}) (fs:=gL (env::outer)) (fr:=none) b λj p o=>h j c (a.trans p w) w o
end
def excF(e C:Addr)(d:Option Addr)(c2:Value):HO:=.ext λh=>∃vs:Array Value,(vs.size=6/\vs[2]?=some c2)/\h.get? e=some {cls:=.ref C,dict:=d,data:=.fields vs}
theorem ObjOk.excF{d:Option Addr}(hz:vs.size=6/\vs[2]?=some c)(b:h.get? e=some {cls:=.ref C,dict:=d,data:=.fields vs}):ObjOk P w H h e (L2.excF e C d c):=
 ⟨⟨vs,hz,b⟩,⟨_,b⟩,λi g ⟨v,z,a⟩ k=>⟨v,z,k _ a⟩⟩
theorem HOk.excF{d:Option Addr}(x:HOk P w H h)(q:H e=some (L2.excF e C d a)):∃vs:Array Value,(vs.size=6/\vs[2]?=some a)/\h.get? e=some {cls:=.ref C,dict:=d,data:=.fields vs}:=
 (show ObjOk P w H h e (L2.excF e C d a) from x e _ q).1
section
variable {X:Cx}{pins:List (Addr×Obj)}{σ:St}{H:Hp}{s:Shared}{h':Heap}{x C:Addr}{d T T1:Option Addr}{fl c2:Value}
def Inv.flight(I:Inv X pins σ H s)(hx:H x=some (excF x C d c2))(hT:∀T',T=some T'->FpOk X pins H T')(a:FlyTo (gL X.stack) x T s.heap h')(t:oR h' x C d c2 T1 fl):Inv X pins σ H {s with heap:=h'}:=by
 obtain⟨vs,hz,he,_⟩:=t;have nT:∀b u,H b=some u->T≠some b:=λb u e z=>by rw[(hT b z).1]at e;cases e
 have nF:∀b u,H b=some u->b ∉gL X.stack:=λb u e z=>by rw[I.stkFree b z]at e;cases e
 have nx:∀b,H b=none->b≠x:=λb n z=>by rw[z,hx]at n;cases n
 have there:∀b o,T≠some b->s.heap.get? b=some o->∃o',h'.get? b=some o':=λb o n q=>by
  by_cases z:b=x
  ·exact⟨_,by rw[z];exact he⟩
  ·by_cases f:b∈gL X.stack
   ·obtain⟨sl,w⟩:=a.slot b o f z n q
    exact⟨_,w⟩
   ·exact⟨_,a.keep b o f z n q⟩
 have tl:∀b,b ∉T.toList->T≠some b:=λb n z=>n (by rw[z];simp);refine I.call (g':=s.gens) (t':=s.toks) (d':=s.drawn) (ch:=T.toList) ⟨λb o q n hb hc=>a.keep b o hb (nx b n) (tl b hc) q,λb o q n hb hc=>a.slot b o hb (nx b n) (tl b hc) q,λ_ _ _ n _=>n,λb o q hc=>there b o (tl b hc) q,λ_ _ q=>q,λ_ _ _ q=>q,λb ps q=>⟨#[],by rw[q];simp⟩⟩ (λb u e=>?_) I.bare (λb hb=>?_)
 ·by_cases z:b=x
  ·subst z
   rw[hx]at e;cases e;exact ObjOk.excF hz he
  ·refine(I.hok b u e).stay (λc v hc q=>?_) (λ_ q=>q) λ_ _ q=>q
   rcases hc with w |w
   ·rw[w]
    rw[w]at q;exact a.keep b v (nF b u e) z (nT b u e) q
   ·have cx:c≠x:=λz=>by rw[z,hx]at w;cases w
    exact a.keep c v (nF c _ w) cx (nT c _ w) q
 ·have hb':T=some b:=by simpa using hb
  obtain⟨f0,f1,f2,f3,f4,f5⟩:=hT b hb';exact⟨f3,f1,f4,f5⟩
abbrev XS:=Value->Option Addr->St->Hp->Prop
def vY(X:Cx)(E:XS)(e:Value)(s:Shared):Prop:=
 ∃(x C:Addr) (d T:Option Addr) (c2 fl:Value) (pins:List (Addr×Obj)) (σ:St) (H:Hp),e=.ref x/\Inv X pins σ H s/\H x=some (excF x C d c2)/\(∀T',T=some T'->FpOk X pins H T')/\oR s.heap x C d c2 T fl/\E (.ref x) d σ H
abbrev Cx.thr(X:Cx)(E:XS):Cx:=X.wish (vY X E)
def yG(P:Program)(w:World):lZ:=λouter H s E e s'=>
 ∃(x C:Addr) (d T:Option Addr) (c2 fl:Value) (H':Hp),e=.ref x/\s'.os=s.os/\AllBare s'.gens/\Un (gL outer) [] H H' s.heap s'.heap/\HOk P w H' s'.heap/\H' x=some (excF x C d c2) ∧
  (∀T',T=some T'->s.heap.objs.size<=T'/\H' T'=none)/\oR s'.heap x C d c2 T fl/\E (.ref x) d H'
def Pl(I0:Inv X pins σ H s)(h:yG X.prog X.w X.stack H s (λv d H'=>E v d σ H') e s'):vY X E e s':=by
 obtain⟨x,C,d,T,c2,fl,H',rfl,os,bare,un,hok,hx,hT,t,q⟩:=h
 have I1:Inv X pins σ H' s':=by
  obtain⟨hh,g,dr,tk,os'⟩:=s';obtain rfl:os'=s.os:=os;exact I0.call (h':=hh) (g':=g) (d':=dr) (t':=tk) (ch:=[]) un hok bare (λb z=>absurd z (by simp))
 exact⟨x,C,d,T,c2,fl,pins,σ,H',rfl,I1,hx,λT' z=>I0.fpOk (hT T' z).1 (hT T' z).2,t,q⟩
end
section
variable {P:Program}{w:World}{K:Fg}{mg:Str->Option Value}{base:Heap}{N:List Str}{qual:Str}{scope:Scope}{f:Addr}{cd:Value}{A:Around}{outer:List Env}{s:Shared}{H:Hp}{E:XK}
def Y2(h:vY (fS (yG P w) P w K mg base N qual scope f cd A outer s H E) (λv d _ H'=>E v d H') e s'):(fS (yG P w) P w K mg base N qual scope f cd A outer s H E).xe e s':=by
 obtain⟨x,C,d,T,c2,fl,pins,σ,H',rfl,I,hx,hT,t,q⟩:=h;show wpAny (model P w) (A.deeper (envOfC qual scope s.heap.objs.size f cd)) (leaving (envOfC qual scope s.heap.objs.size f cd) (.ref x)) _ _ s';refine Xb (base:=base) I.ok.frames I.stack rfl t λh2 T' a w2 t2=>?_;have I2:=I.flight hx hT a t2;refine⟨x,C,d,some T',c2,.none,H',rfl,I2.os,I2.bare,I2.base,I2.hok,hx,λT2 z=>?_,t2,q⟩;cases z;rcases w2 with z |z
 ·obtain⟨f0,f1,f2,f3,f4,f5⟩:=hT T' z
  refine⟨?_,f0⟩;rcases f3 with y |y
  ·exact absurd y (by show T' ∉([]:List Addr);simp)
  ·exact y
 ·exact⟨qC I.sz z,I.hok.fresh z⟩
theorem PSs.thr{E:XS}{X:Cx}{st:List Stmt}{t:TS}(h:PSs (X.thr E) st t)(c:∀e b,vY X E e b->X.xe e b):PSs X st t:=λa s σ H D I g=>
 wpAny_mono (h a s σ H D (I.wish _) g) (λ_ _ q=>q.unwish) λe b z=>c e b z
end
section
variable {X:Cx}{E:XS}
theorem Vb(hs:X.stack=X.env::X.outer)(hf:X.env.frame=some X.env.locals):PassesOwn (model X.prog X.w) X.A X.env (vY X E):=by
 intro e s h;obtain⟨x,C,d,T,c2,fl,pins,σ,H,rfl,I,hx,hT,t,q⟩:=h;have fr:X.A.frames=some (X.env::X.outer):=by rw[I.ok.frames,hs]
 have fn:s.heap.FunFrames X.base (X.env::X.outer):=by rw[<- hs];exact I.stack
 refine De (base:=X.base) fr fn hf t λh1 T' a w t1=>?_;rw[<- hs]at a;have I1:=I.flight hx hT a t1
 have hT1:FpOk X pins H T':=by
  rcases w with z |z
  ·exact hT T' z
  ·exact I.fpOk z (I.hok.fresh z)
 show wpAny _ _ _ _ _ _;obtain⟨vs,hz,he,h1',_⟩:=id t1;have h1':vs[1]?=some (.ref T'):=h1';refine qB (qT he rfl h1' ?_);rw[if_neg (show ¬((Value.ref T' == Value.none)=true) from qJ)];show wpAny _ _ (setFlight (.ref x) X.env.frame) _ _ _;refine Am (fs:=gL X.stack) t1 λh2 a2 t2=>?_;exact⟨x,C,d,some T',c2,_,pins,σ,H,rfl,I1.flight hx (λT2 z=>by cases z;exact hT1) a2 t2,hx,λT2 z=>by cases z;exact hT1,t2,q⟩
end
section
variable {M:Model}{A:Around}{E':Value->Shared->Prop}{env:Env}
def Yk (l:A.handled=none)
  (h:wpAny M A x (λv c=>∃e t C d b,v=.ref e/\b.contains (.type "BaseException")=true/\pM c.heap C b "ValueError.__new__"/\c.heap.get? e=some (newExc C t d)/\j (.ref e) c) j s) :
  wpAny M A (raiseStmt env (some x) none) Q j s:=by
 unfold raiseStmt;refine qB (wpAny_mono h (λv c h₁=>?_) λ_ _ x=>x);obtain⟨e,t,C,d,b,rfl,a,⟨nm,z,N,bs,u,y,sub,ab,r,dd,Y,U,O,J,I,i,T⟩,o,hE⟩:=h₁;have f:(Value.ref C::u).contains (.type "BaseException")=true:=by rw[List.contains_cons,T.hasType a,Bool.or_true]
 obtain⟨hp,g,d,tk,G⟩:=c
 repeat (first |with_reducible refine wpAny_loadPart_at o ?_ |with_reducible refine wpAny_loadPart_at i ?_ |(with_reducible refine wpAny_isSubtype_exc i ?_;rw[f]) |wp_step)
 exact wpAny_raiseNew_none l hE
end
section
variable {X:Cx}{E:XS}{ex:Expr}{te:TE}{pos:Pos}
def Se(K:Fg)(E:XS)(te:TE):TS:=λ_ σ H=>te σ H λv H1=>∃x C d,v=.ref x/\H1 x=some (mG x C d)/\XCl K C/\E (.ref x) d σ (upd H1 x (excF x C d .none))
def iG(J:X.calm=true)(G:PE (X.thr E) ex o):PS (X.thr E) (.Raise (some ex) none pos) (Se X.K E o):=by
 intro a s σ H D I h;rw[arm_exec_Raise];simp only[evalOpt,Option.map];refine qB (wpAny_standAt (Yk (I.ok.hd J) ?_));refine qB (wpAny_mono (G a s σ H _ I h) (λv g O=>qB (wpAny_standAt (qG ?_))) λ_ _ z=>z);obtain⟨u,l,i,r,x,C,d,ex,j,c,q⟩:=O;subst ex;obtain rfl:v=Value.ref x:=r;obtain⟨f,b⟩:=i.hok.exc j;refine⟨x,f,C,d,bmV,Z,aA Z,A9 i.kIn c.obj,b,?_⟩
 have U:Inv X a σ (upd l x (excF x C d .none)) g:=by
  have y:vQ (l x):=by rw[j];exact True.intro
  exact i.unwish.write (h':=g.heap) (t':=g.toks) (x:=x) (e:=x) y (.inl Z) (λ_ _ _ q=>q) ⟨_,b⟩ (ObjOk.excF (vs:=#[.ref f,.none,.none,.none,.bool false,.none]) ⟨Z,Z⟩ b)
 exact⟨x,C,d,none,.none,.none,a,σ,_,Z,U,aD,λY z=>(nomatch z),⟨#[.ref f,.none,.none,.none,.bool false,.none],⟨Z,Z⟩,b,Z⟩,q⟩
end
structure DefXs(P:Program)(w:World)(K:Fg)(mg:Str->Option Value)(base:Heap)(n:Nat)(x:Str)(ps:List Str)(sp:Sp):Prop where
 ex:∃(f:Addr) (fd:FuncData),FnOk P w K mg base (yG P w) n f fd ps sp/\Binds K fd ps []/\PySem.W.keepIn K (.ref f)=true/\mg x=some (.ref f)/\∃oc od osl,K.lookup f=some ⟨oc,od,.func fd,osl⟩
section
variable {P:Program}{w:World}{K:Fg}{mg:Str->Option Value}{base:Heap}{n m:Nat}{x:Str}{ps N:List Str}{sp:Sp}{st:Stmt}
theorem DefXs.mono(D:DefXs P w K a base n x ps sp)(h:n<=m):DefXs P w K a base m x ps sp:=by
 obtain⟨f,b,F,r⟩:=D.ex;exact⟨f,b,F.mono h,r⟩
theorem DefXs.imp(D:DefXs P w K b base n x ps sp)(h:∀vs H Q E,a vs H Q E->sp vs H Q E):DefXs P w K b base n x ps a:=by
 obtain⟨f,c,F,r⟩:=D.ex;exact⟨f,c,F.imp h,r⟩
theorem DefXs.of (T:DefTx K l x st ps) (S:FnScope N ps (bH st)) (len:∀vs H Q E,sp vs H Q E->vs.length=ps.length)
  (c:∀(f:Addr) (a:Value) (A:Around) (outer:List Env) (s:Shared) (H:Hp) (vs:List V) (Q:VK) (E:XK),Room n (A.deeper (envOfC x (bH st) s.heap.objs.size f a))->sp vs H Q E->
   ∃t,PSs ((fS (yG P w) P w K l base N x (bH st) f a A outer s H E).thr λv d _ j=>E v d j) (nY st) t/\t {nx:=λ_ j=>Q .non j,rt:=Q} (lL N vs) H):DefXs P w K l base (n+1) x ps sp:=by
 obtain⟨f,y,F,m,b⟩:=T.ex;refine⟨f,y,?_,Binds.all b,F.kp,m,wG F⟩;obtain⟨J,od,kV,C,I,O,a,ct,o,rfl,r,i⟩:=F.ex;refine Gg r i S len λA outer s H vs Q E u g=>?_;obtain⟨t,h,q⟩:=c f a A outer s H vs Q E u g;exact⟨t,h.thr λe G z=>Y2 z,q⟩
theorem DefXs.none(T:DefTx K a x st ps)(no:∀vs H Q E,¬sp vs H Q E):DefXs P w K a base n x ps sp:=by
 obtain⟨f,c,F,m,b⟩:=T.ex;exact⟨f,c,⟨λvs H Q E h=>absurd h (no vs H Q E),λA outer s H args us vs Q E _ _ _ _ h=>absurd h (no vs H Q E)⟩,Binds.all b,F.kp,m,wG F⟩
end
section
variable {X:Cx}{E:XS}{n:Nat}{x:Str}{ps:List Str}{sp:Sp}{e:Expr}{es:List Expr}{p pos:Pos}{t:TA}
def Tn(sp:Sp)(E:XS)(t:TA):TE:=λσ H Q=>t σ H λvs H1=>sp vs H1 Q λv d H'=>E v d σ H'
def cN (D:DefXs X.prog X.w X.K X.mg X.base n x ps sp) (y:Room n X.A) (J:PA (X.thr E) (e::es) t) (C:Gl X x:=by rfl) (j:(x == ("__debug__":Str))=false:=by decide)
  (G:starEach (e::es) X.env=(false,eval e X.env)::starEach es X.env:=by rfl) (i:(backTo pos (starEach es X.env)).any (·.1)=false:=by rfl):PE (X.thr E) (.Call (.Name x p) (e::es) [] pos) (Tn sp E t):=by
 obtain⟨f,fd,F,b,k,m,_⟩:=D.ex;intro a s σ H Q I h;refine wpAny_Call_Name_kw (tR (X:=X.thr E) I C m ?_ j);refine PySem.W.callWith_K (h₀:=X.base) I.ok.mod.kin k (aU (J pos a s σ H _ I h) λus l ⟨vs,U,g,r,q⟩=>⟨g.kIn,?_⟩) G i;have z:(us++[]).length=ps.length:=by rw[List.append_nil,<- r.length];exact F.len _ _ _ _ q
 have o:=b l us g.kIn z;rw[List.append_nil]at o;refine wpAny_call (codeAny_mono (F.run X.A X.stack l U ⟨us,[]⟩ us vs Q _ y g.unwish.env0 o r q) λr Y c=>?_)
 cases r with
 |error e=>exact Pl g.unwish c
 |ok O=>
  cases O with
  |ret u=>exact g.after c
  |next=>exact False.elim c
  |brk=>exact False.elim c
  |cont=>exact False.elim c
end
abbrev Cx.mkd(X:Cx)(e:Value):Cx:={X with A:=X.A.mark (some e),calm:=false}
abbrev Cx.pnd(X:Cx)(pn:List (Addr×Obj)):Cx:={X with pn:=pn}
section
variable {X:Cx}{pins pn:List (Addr×Obj)}{σ:St}{H:Hp}{s:Shared}{e:Value}
theorem Cx.Ok.mkd(ok:X.Ok)(e:Value):(X.mkd e).Ok:=
 ⟨ok.mod,ok.kind,ok.glob,ok.blt,ok.above,ok.inj,ok.has,ok.cab,λz=>Bool.noConfusion z,ok.frames,ok.stk,ok.exf,ok.bs,ok.bsz,ok.noex,ok.exfs,ok.funs,ok.frf⟩
theorem Cx.Ok.pnd(ok:X.Ok)(pn:List (Addr×Obj)):(X.pnd pn).Ok:=
 ⟨ok.mod,ok.kind,ok.glob,ok.blt,ok.above,ok.inj,ok.has,ok.cab,ok.hd,ok.frames,ok.stk,ok.exf,ok.bs,ok.bsz,ok.noex,ok.exfs,ok.funs,ok.frf⟩
theorem Inv.mkd(I:Inv X a σ H s)(e:Value):Inv (X.mkd e) a σ H s:=⟨I.ok.mkd e,I.os,I.bare,I.base,I.loc,I.cell,I.free,I.freeC,I.pin,I.hok,I.len⟩
def Inv.unmkd(ok:X.Ok)(I:Inv (X.mkd e) pins σ H s):Inv X pins σ H s:=⟨ok,I.os,I.bare,I.base,I.loc,I.cell,I.free,I.freeC,I.pin,I.hok,I.len⟩
theorem Inv.pnd(I:Inv X a σ H s):Inv (X.pnd (X.pn++a)) [] σ H s:=
 ⟨I.ok.pnd _,I.os,I.bare,I.base,I.loc,I.cell,I.free,I.freeC,λp b=>I.pin p (by simpa using b),I.hok,I.len⟩
def Inv.unpnd(ok:X.Ok)(I:Inv (X.pnd (X.pn++b)) a σ H s):Inv X b σ H s:=
 ⟨ok,I.os,I.bare,I.base,I.loc,I.cell,I.free,I.freeC,λp c=>I.pin p (zU _ c),I.hok,I.len⟩
def FpOk.unpnd(h:FpOk (X.pnd (X.pn++c)) a H b):FpOk X c H b:=
 ⟨h.1,h.2.1,h.2.2.1,h.2.2.2.1,h.2.2.2.2.1,λp f=>h.2.2.2.2.2 p (zU _ f)⟩
theorem SP.unpnd{D:Ends}(ok:X.Ok)(h:SP (X.pnd (X.pn++c)) [] D f g):SP X c D f g:=by
 cases f with
 |next=>obtain⟨a,b,I,q⟩:=h;exact⟨a,b,I.unpnd ok,q⟩
 |brk=>obtain⟨a,b,I,q⟩:=h;exact⟨a,b,I.unpnd ok,q⟩
 |cont=>obtain⟨a,b,I,q⟩:=h;exact⟨a,b,I.unpnd ok,q⟩
 |ret u=>obtain⟨v,a,b,I,r,q⟩:=h;exact⟨v,a,b,I.unpnd ok,r,q⟩
def Inv.forget {t' i:Nat} {m:Str->Option Value} {u:Option Value} (I:Inv X pins σ H s) (hN:X.N.Nodup) (hi:X.N[i]?=some x) (hk:X.env.scope.names.lookup x=some .local)
  (hm:∀m,s.heap.Ns X.env.locals m->∃u,h'.Ns X.env.locals (λy=>if y=x then u else m y)) (hs:∀b,b≠X.env.locals->h'.get? b=s.heap.get? b):Inv X pins (σ.set i none) H {s with heap:=h',toks:=t'}:=by
 obtain⟨m,hn,hl⟩:=id I.loc;have hiσ:i<σ.length:=by rw[I.len];exact(cV hi).1
 have cne:=I.cne;obtain⟨u,hn'⟩:=hm m hn;obtain⟨oL,_,_,hoL,_⟩:=id hn;refine⟨I.ok,I.os,I.bare,⟨λb o e n hb hx=>?_,λb o e n hb hx=>?_,I.base.free,λb o e hx=>?_,I.base.tups,I.base.frzs,I.base.tbls⟩,⟨_,hn',λj y v' e1 e2 e3=>?_⟩,λy c e=>?_,I.free,I.freeC,λp hp=>?_,λb ob e=>?_,by simpa using I.len⟩
 ·exact(hs b (qL (qM (qH e) I.ok.above))).trans (I.base.keep b o e n hb hx)
 ·obtain⟨sl,e1⟩:=I.base.slot b o e n hb hx
  exact⟨sl,(hs b (qL (qM (qH e) I.ok.above))).trans e1⟩
 ·obtain⟨o',e1⟩:=I.base.there b o e hx
  exact⟨o',(hs b (qL (qM (qH e) I.ok.above))).trans e1⟩
 ·by_cases hj:j=i
  ·subst hj
   rw[List.getElem?_set_self hiσ]at e2;cases e2
  ·rw[List.getElem?_set_ne (Ne.symm hj)]at e2
   obtain⟨u',r',q⟩:=hl j y v' e1 e2 e3;refine⟨u',r',?_⟩;rcases q with⟨k,e⟩ |⟨k,c,e,z⟩
   ·refine .inl ⟨k,?_⟩
    have:y≠x:=λe=>hj (Dn hN e1 (e ▸ hi));simp[this,e]
   ·obtain⟨o,ho,hd⟩:=z
    exact .inr ⟨k,c,e,⟨o,(hs c (cne y c e)).trans ho,hd⟩⟩
 ·obtain⟨w',o,ho,hd⟩:=I.cell y c e
  exact⟨w',o,(hs c (cne y c e)).trans ho,hd⟩
 ·obtain⟨e,n,ne,nf,d⟩:=I.pin p hp
  exact⟨(hs p.1 ne).trans e,n,ne,nf,d⟩
 ·refine(I.hok b ob e).stay (λc w' hc q=>(hs c ?_).trans q) (λ_ q=>q) λ_ _ q=>q
  rintro rfl;rcases hc with rfl |hc
  ·rw[I.free]at e;cases e
  ·rw[I.free]at hc;cases hc
def Xa {M:Model} {A:Around} {E':Value->Shared->Prop} {s:Shared} {K:Fg} {x C C0:Addr} {d:Option Addr} {vs:Array Value} {Q:Bool->Shared->Prop} (hx:s.heap.get? x=some {cls:=.ref C,dict:=d,data:=.fields vs})
  (O:pM s.heap C bmV "ValueError.__new__") (O0:pM s.heap C0 bmV "ValueError.__new__") (kin:K.In s.heap) (hsub:PySem.W.mroIn K C (.ref C0)=some true) (hq:Q true s):wpAny M A (excMatches (.ref x) (.ref C0)) Q E' s:=by
 obtain⟨nm,qn,N,bs,bm,sn,sub,ab,col,dd,k0,k1,k2,k3,k5,hC,T⟩:=O;obtain⟨nm',qn',N',bs',bm',sn',sub',ab',col',dd',k0',k1',k2',k3',k5',hC0,T'⟩:=O0;have hcB:(Value.ref C0::bm').contains (.type "BaseException")=true:=by rw[List.contains_cons,T'.hasType (show bmV.contains (.type "BaseException")=true by decide),Bool.or_true]
 have LS:=PySem.W.looks_mroIn (M:=M) kin hsub;have f:=tc_notTuple;obtain⟨hp,g,dr,tk,os⟩:=s;unfold excMatches
 repeat (first |with_reducible refine wpAny_loadPart_at hx ?_ |with_reducible refine wpAny_loadPart_at hC0 ?_ |(with_reducible refine wpAny_isSubtype_exc hC0 ?_;rw[hcB]) |with_reducible refine LS.at ?_ |wp_step)
 exact hq
end
section
variable {X:Cx}{pins:List (Addr×Obj)}{σ:St}{H:Hp}{s:Shared}
def Ah {n:Str} (I:Inv X c σ H s) (U:X.N.Nodup) (hi:X.N[i]?=some n) (x:X.env.scope.names.lookup n=some .local)
  (h:∀r,Inv X c (σ.set i none) H r->Q () r):wpAny M A (do bindName X.env n .none;unbindBehindTheSuite X.env n f) Q E' s:=by
 obtain⟨m,hn,_⟩:=id I.loc;have l:(X.env.scope.kind == .class || (X.env.scope.kind == .module && X.env.locals != X.env.globals))=false:=by rw[I.ok.kind];rfl
 refine wpAny_nameGoes_keeps x hn l λh' v p hs=>h _ ?_;refine I.forget (m:=m) (u:=v) U hi x (λz a=>?_) (λb O=>hs.2 b O);obtain⟨o,es,ep,C,hd,J,G⟩:=hn;obtain⟨o2,Y,a0,g,j,w,a⟩:=a;rw[C]at g;cases g;rw[hd]at j;cases j;have e:z=m:=funext λy=>by rw[<- G y,<- a y]
 exact⟨v,by rw[e];exact p⟩
end
section
variable {X:Cx}{pins:List (Addr×Obj)}{σ:St}{H:Hp}{s:Shared}{C:Addr}{o:Expr}{fl:Str}{pos:Pos}{ta:TE}
def X8(I:Inv X e σ H s)(h:H a=some (excF a C c i))(hd:∀d,c=some d->∃fs,H d=some (.xd fs)):∃ox od,PySem.W.InstAt s.heap a ox C od:=by
 obtain⟨vs,hz,f⟩:=I.hok.excF h
 cases c with
 |none=>exact⟨_,none,f,Z,Z,True.intro⟩
 |some d=>
  obtain⟨fs,g⟩:=hd d Z;obtain⟨j,hn,l⟩:=(show ObjOk X.prog X.w H s.heap d (.xd fs) from I.hok d _ g);obtain⟨od,b,m⟩:=Xg hn;exact⟨_,some od,f,Z,Z,b⟩
def xke:lJ X (.builtin "isinstance") (λxs H Q=>∃a C f i y c b,xs=[.ref a,y]/\(∀u,RelV y u->u=c)/\H a=some (excF a C f i)/\(∀d,f=some d->∃fs,H d=some (.xd fs))/\XCl X.K C ∧
  PySem.W.kitOne X.K (.ref C) c=some b/\Q (.bl b) H):=by
 intro g s σ H xs us Q I r h;obtain⟨a,C,f,i,y,c,b,rfl,m,n,hd,M,e,q⟩:=h;obtain⟨u,v,rfl,l,j⟩:=r.two;obtain rfl:=m v j;obtain rfl:u=Value.ref a:=l;exact PySem.W.kia_one (W4 M.cls) I.kIn (X8 I n hd) e (λz=>nomatch z) λtk=>⟨.bl b,H,I.tok tk,Z,q⟩
end
structure RoomQ(k:Nat)(A:Around):Prop where
 dp:A.depth+3*k+5<recursionLimit
 un:A.units+16*k+200<cLine
theorem Room.q{k:Nat}(r:Room k A):RoomQ k A:=⟨r.dp,r.un⟩
theorem RoomQ.mark{k:Nat}(r:RoomQ k A)(h:Option Value):RoomQ k (A.mark h):=⟨r.dp,r.un⟩
theorem RoomQ.deeper{k:Nat}(r:RoomQ (k+1) A)(env:Env):RoomQ k (A.deeper env):=
 ⟨by have:=r.dp;show A.depth+1+3*k+5<_;omega,by have:=r.un;show A.units+3+16*k+200<_;omega⟩
abbrev Cx.rough(X:Cx):Cx:={X with calm:=false}
section
variable {prog:Program}{w:World}{A:Around}{E':Value->Shared->Prop}{env:Env}
def entry_unchain:entryFor table "proto.unchain"=some Builtin.«proto.unchain»:=entryFor_of_tree (by kernel_rfl)
end
section
variable {X:Cx}{E:XS}
def mU(hs:X.stack=X.env::X.outer)(a:X.env.frame=some X.env.locals):PassesOwn (model (X.thr E).prog (X.thr E).w) (X.thr E).A (X.thr E).env (X.thr E).xe:=Vb hs a
end
end L2
end
section
namespace St
open PySem PySem.Spec PyProof.Rows
theorem Js{ns:List Str}:∀i,i<=ns.length->(met (λi=>ns.getD i Str.empty) i).length=i->met (λi=>ns.getD i Str.empty) i=ns.take i/\(ns.take i).Nodup
 |0,_,_=>⟨Z,List.nodup_nil⟩
 | i+1,h,e=>by
  have p:=met_len (λi=>ns.getD i Str.empty) i;have j:ns.getD i Str.empty=ns[i]:=by simp[List.getD,cF (show i<ns.length by omega)]
  rw[xF]at e⊢;rw[Hi]at e;by_cases c:(met (λi=>ns.getD i Str.empty) i).any (· == (λi=>ns.getD i Str.empty) i)=true
  ·rw[if_pos c]at e
   omega
  ·rw[if_neg c]at e
   have f:(met (λi=>ns.getD i Str.empty) i).length=i:=by omega
   obtain⟨a,b⟩:=Js i (by omega) f
   have o:ns[i] ∉ns.take i:=λn=>c (by
    rw[a];exact List.any_eq_true.mpr ⟨ns[i],n,by rw[show(λi=>ns.getD i Str.empty) i=ns[i] from j];simp⟩)
   have g:ns.take (i+1)=ns.take i++[ns[i]]:=by rw[gA,cF (show i<ns.length by omega)];rfl
   refine⟨?_,?_⟩
   ·unfold step_dedup
    rw[if_neg c,a,g];show ns.take i++[ns.getD i Str.empty]=_;rw[j]
   ·rw[g]
    exact List.nodup_append.mpr ⟨b,by simp,λx m y l=>by rw[cD l];exact λq=>o (by rw[<- q];exact m)⟩
def met_iff(ns:List Str):(met (λi=>ns.getD i Str.empty) ns.length).length=ns.length ↔ ns.Nodup:=by
 constructor
 ·intro h
  have:=(Js ns.length (qD _) h).2
  rwa[List.take_length]at this
 ·intro h
  rw[N5 h _ (qD _),List.take_length]
end St
namespace L2
open PySem PySem.Spec PyProof.Rows
def Wo(te:TE):TE:=λσ H Q=>te σ H λx H1=>∃p,∃ns:List Str,x=.ref p/\H1 p=some (.lst (ns.map V.str))/\ns.length<=1000/\∀m:Nat,m<=ns.length->(m=ns.length ↔ ns.Nodup)->Q (.int m) H1
def Yi {p1 w q1 l:Pos} (hc:X.calm=true) (J:Gl X "len") (C:X.mg "len"=none) (G:Gl X "set") (z:X.mg "set"=none) (he:PE X e O)
  (f:starEach [e] X.env=[(false,eval e X.env)]:=by rfl)
  (g:starEach [Expr.Call (.Name "set" w) [e] [] l] X.env=[(false,eval (.Call (.Name "set" w) [e] [] l) X.env)]:=by rfl) :
  PE X (.Call (.Name "len" p1) [.Call (.Name "set" w) [e] [] l] [] q1) (Wo O):=by
 intro c s σ H Q I h;refine wpAny_Call_Name_kw (oY I J C zH ?_ (aA Z) (aA Z));refine PyProof.Rows.callWith_builtin1 ?_ g Z;rw[g];refine Calls.spliced_cons ?_;refine wpAny_Call_Name_kw (oY I G z PyProof.Rows.boot_set ?_ (aA Z) (aA Z))
 refine PyProof.Rows.callWith_type1 (aU ((pc he pN f) l c s σ H (λvs n=>match vs with
  |[x]=>∃p,∃ns:List Str,x=.ref p/\n p=some (.lst (ns.map V.str))/\ns.length<=1000/\∀m:Nat,m<=ns.length->(m=ns.length ↔ ns.Nodup)->Q (.int m) n
  |_=>False) I h) λus s1 ⟨vs,n,I1,r,q⟩=>?_) f Z
 match vs,r,q with
 | [x],r,q=>
  obtain⟨p,ns,rfl,hp,a0,q⟩:=q;obtain⟨u,rfl,ru⟩:=nU r;cases ru;obtain⟨its,U,pl,hz⟩:=I1.list (zF (K:=X.K) hp);have j:ns.length=its.length:=by have:=U.length;rw[aM]at this;exact this
  refine St.call_set_strs (ns:=ns) (I.ok.hd hc) pl.isList (by simpa using Mq U) (by show its.toArray.size+1<4096;rw[List.size_toArray];omega) λh2 tk hS hk=>Calls.spliced_nil ?_;obtain⟨o,es,ep,t,ho,M,hd,_,_,_,hf,hsz⟩:=hS
  have a:es.size=(St.met (λi=>ns.getD i Str.empty) ns.length).length:=by
   rw[hsz];have:its.toArray.size=ns.length:=by simp[j]
   rw[this]
  have y:=St.met_len (λi=>ns.getD i Str.empty) ns.length;refine call_len_set ho M hd hf (by rw[a];omega) ⟨.int es.size,n,?_,⟨_,Z⟩,q es.size (by rw[a];exact y) (by rw[a];exact St.met_iff ns)⟩;exact I1.kept λb u Y=>hk b u (qH Y) Y
def Vy{d d':Option Addr}(h:excF e C d c=excF e b d' p):C=b/\d=d':=by
 unfold excF at h;injection h with h;let o:Obj:={cls:=.ref C,dict:=d,data:=.fields #[.none,.none,c,.none,.none,.none]};let a:Heap:={objs:=Array.replicate (e+1) o}
 have f:a.get? e=some o:=by
  unfold Heap.get?
  have:a.objs[e]?=some o:=by
   show(Array.replicate (e+1) o)[e]?=some o;simp
  rw[this]
 have n:=congrFun h a;have j:∃vs:Array Value,(vs.size=6/\vs[2]?=some c)/\a.get? e=some {cls:=.ref C,dict:=d,data:=.fields vs}:=⟨_,⟨Z,Z⟩,f⟩;rw[n]at j;obtain⟨vs,_,i⟩:=j;rw[f]at i;have g:=qK i;have m:Value.ref C=Value.ref b:=congrArg Obj.cls g;have l:d=d':=congrArg Obj.dict g;exact⟨by injection m,l⟩
end L2
end
section
namespace M
open PySem L2
def Fk(j:Nat):Str:=eQ [98,121,97+j]
def lE(x:Str):Prop:=∀j:Nat,x≠Fk j
def Ph(h:l[0]?≠some 98\/l[1]?≠some 121):lE (eQ l):=λj e=>by
 have:=congrArg L e;unfold Fk at this;rw[lY,lY]at this;subst this;simp at h
def Cn(h:c∈dR):c≠98/\c≠121:=by
 revert h;unfold dR;simp;omega
def Hv{cs:List Nat}(h:∀c∈cs,c∈dR)(a:Nat)(b:Int)(k:Nat)(t:List Nat)(i:∀c∈t,c∈dR):lE (eQ (iB cs a b k++t)):=by
 apply Ph;unfold iB
 cases g:cs.take a with
 |nil=>
  right;rw[List.nil_append,List.cons_append,List.getElem?_cons_succ];intro e;have f:=cJ e;rcases dD f with f |f
  ·exact(Cn (h _ (List.mem_of_mem_drop f))).2 Z
  ·exact(Cn (i _ f)).2 Z
 |cons c r=>
  left;intro e;simp at e;have:c∈cs.take a:=by rw[g];simp
  exact(Cn (h c (qW this))).1 e
def Ub{cs:List Nat}(e:∀c∈cs,c∈dR):∀z∈((List.range 26).map λk=>eQ (iB cs a b k)),lE z:=λz hz=>by
 obtain⟨k,_,rfl⟩:=fV hz;have:=Hv e a b k [] (λ_ h=>nomatch h);rw[List.append_nil]at this;exact this
def Ud{cs:List Nat}(f:∀c∈cs,c∈dR):∀z∈((List.range 26).map λk=>eQ (lQ cs a b k)),lE z:=λz hz=>by
 obtain⟨k,_,rfl⟩:=fV hz;unfold lQ;exact Hv f a b _ _ λc e=>by rw[List.eq_of_mem_replicate e];decide
def B0(ks:List Kn):Prop:=∀k∈ks,∀p∈k.parts,lE p.1
end M
end
section
set_option maxHeartbeats 400000
end
section
namespace L2
open PySem PySem.Spec PyProof.Rows M
section
variable {X:Cx}{K:Fg}
def eJ(e:X.K=K)(c:PE X l a):PI X b l (xU K a):=by subst e;exact Rv c
def oP(e:X.K=K)(c:PE X l a):PI X b l (G5 K a):=by subst e;exact Vm c
def mY(a:X.K=K):lJ X (.type "tuple") (λxs H Q=>∃p ys,xs=[.ref p]/\((SqL K H p ys/\∀l,H l=none->Q (.ref l) (upd H l (.tup ys)))\/(SqT K H p ys/\Q (.ref p) H))):=by subst a;exact xis
def gX(a:X.K=K):fC X (binaryOp .Add) (C7 K):=by subst a;exact X1
def Pd(a:X.K=K):fC X (compareOp .In) (Ep K false):=by subst a;exact Xu
def Rn(a:X.K=K):sM X (xS K):=by subst a;exact Iw
def mW(a:X.K=K):sM X (Bc K):=by subst a;exact V4
end
section
variable {X:Cx}
def va(i:Nat){x:Str}{p:Pos}{es:List Expr}{t:TA}(c:PA X es t)(e:X.N[i]?=some x:=by rfl)(b:xX X.env.scope x:=by first |exact Or.inl rfl |exact Or.inr (Or.inl rfl) |exact Or.inr (Or.inr rfl))(hd:(x == ("__debug__":Str))=false:=by decide)(a:(x == ("__classdict__":Str))=false:=by decide):PA X (.Name x p::es) (Bj (pE i) t):=pc (pv i e b hd a) c mK
def v1(i:Nat){x:Str}{p:Pos}(c:X.N[i]?=some x:=by rfl)(b:xX X.env.scope x:=by first |exact Or.inl rfl |exact Or.inr (Or.inl rfl) |exact Or.inr (Or.inr rfl))(hd:(x == ("__debug__":Str))=false:=by decide)(a:(x == ("__classdict__":Str))=false:=by decide):PA X [.Name x p] (Bj (pE i) xP):=va i pN c b hd a
def aR(i:Nat){pos a:Pos}(h:X.N.Nodup)(g:PE X e b)(hi:X.N[i]?=some x:=by rfl)(c:qV X.env.scope x:=by first |exact Or.inl rfl |exact Or.inr rfl)(hs:swapsWith e (some (.Name x a)) pos.line X.env=pure false:=by rfl)(f:X.fn x=true\/X.env.scope.names.lookup x=some .local:=by first |exact .inl rfl |exact .inr rfl |assumption):PS X (.Assign [.Name x a] e pos) (oF b (nV i)):=Rx h hi c g hs f
def bK(i:Nat){pos:Pos}(c:X.N.Nodup)(hi:X.N[i]?=some x:=by rfl)(a:qV X.env.scope x:=by first |exact Or.inl rfl |exact Or.inr rfl)(b:X.fn x=true\/X.env.scope.names.lookup x=some .local:=by first |exact .inl rfl |exact .inr rfl |assumption):PG X (.Name x pos) (nV i):=Lo c hi a b
def px(K:Fg){pos:Pos}(g:PE X a e)(f:PE X b c)(h:X.K=K:=by rfl)(hs:Cb b:=by exact λ_ _=>rfl):PE X (.Subscript a b pos) (vO (rZ K) e c):=yO (U2 h) g f hs
def cC(K:Fg){pos:Pos}(g:PE X a e)(f:PE X b c)(h:X.K=K:=by rfl)(hs:Cb b:=by exact λ_ _=>rfl):PE X (.Subscript a b pos) (vO (sF K) e c):=yO (W3 h) g f hs
def dU(i:Nat){pos:Pos}(hi:X.N[i]?=some x:=by rfl)(hN:X.N.Nodup:=by exact qE (by kernel_rfl))(hx:qV X.env.scope x:=by exact Or.inl rfl)(hf:X.fn x=true\/X.env.scope.names.lookup x=some .local:=by first |exact .inl rfl |exact .inr rfl |assumption):PG X (.Name x pos) (nV i):=Lo hN hi hx hf
end
end L2
end
section
namespace L2
open PySem PySem.Spec PyProof.Rows
def lR(h:σ[i]?=some none):oU σ (σ.set i v):=by
 refine⟨by simp,λn b e=>?_⟩;have a:i≠n:=λz=>by subst z;rw[h]at e;cases e
 rw[List.getElem?_set_ne a];exact e
def xW{i j k l:Nat}{u v w x:Option V}(h:σ[i]?=some none)(o:σ[j]?=some none)(m:σ[k]?=some none)(g:σ[l]?=some none):oU σ ((((σ.set i u).set j v).set k w).set l x):=by
 refine⟨by simp,λn p e=>?_⟩;have f:i≠n:=λz=>by subst z;rw[h]at e;cases e
 have c:j≠n:=λz=>by subst z;rw[o]at e;cases e
 have b:k≠n:=λz=>by subst z;rw[m]at e;cases e
 have a:l≠n:=λz=>by subst z;rw[g]at e;cases e
 rw[List.getElem?_set_ne a,List.getElem?_set_ne b,List.getElem?_set_ne c,List.getElem?_set_ne f];exact e
end L2
end
section
namespace PySem
open Sem (wp)
section
variable {prog:Program}{w:World}{A:Around}{E:Value->Shared->Prop}{s:Shared}
def xfz {xs:Array Value} {k:Nat} {name:Str}
  (hx:s.heap.get? a=some {cls:=.type "tuple",dict:=none,data:=.seq xs k,slots:=sl}) (hmiss:typeLookup (.type "tuple") name=pure none) (hname:(["__module__","__name__","__qualname__","__doc__","__annotations__"]:List Str).contains name=false) (hA:A.handled=none)
  (h:∀h' tk,(∀b o,s.heap.get? b=some o->h'.get? b=some o)->Q none {s with heap:=h',toks:=tk}) (hsz:name.length+100<=sizeLine) :
  wpAny (model prog w) A (getAttr? (.ref a) name) Q E s:=by
 obtain⟨hp,g,d,tk,os⟩:=s;have hT:∀tk',(⟨hp,g,d,tk',os⟩:Shared).TypeIs (.ref a) "tuple":=λ_=>⟨_,hx,rfl⟩;have f1:=sub_AttributeError;have f3:=F.slot_tuple_getattribute.lookup;have f4:=F.slot_tuple_getattribute.bind (.ref a);have f5:=am_tuple_getattr_none;unfold getAttr? getAttrBy? getAttrBy
 repeat (any_goals (first |assumption |exact hT _ |((with_reducible show wpAny _ _ (call (Value.builtin "tuple.__getattribute__") _ _) _ _ _);refine call_meets F.slot_tuple_getattribute (hT _) am_entry_tuple_getattribute (F.args_tuple_getattribute_2 _ _) (meets_getattribute_miss_tuple a xs k sl name _ hmiss hname hsz) ⟨hx,hA,λh' tk' e hx'=>?_⟩) |wp_step))
 obtain⟨t',u',he⟩:=hx'.there;show wpAny _ _ (getattributeRaised _ _ _ _ _ _ _) _ _ _;unfold getattributeRaised
 repeat (any_goals (first |assumption |wp_step))
 all_goals first |exact h _ _ hx'.keeps |skip
end
end PySem
namespace L2
open PySem PySem.Spec PyProof.Rows
section
variable {prog:Program}{w:World}{A:Around}{K:Type}[DecidableEq K]{knd:KeyKind prog w K}
theorem Ob{h:Heap}{a I l:Addr}{i:Nat}{xs:Array Value}(f:h.IsTuple a xs)(hd:h.IsTupleIter I l i):a≠I:=λe=>by
 subst e;obtain⟨o,g,j,_⟩:=f;obtain⟨t,c,b,_⟩:=hd;have:o=t:=qK (g.symm.trans c);subst this;rw[j]at b;exact absurd (Value.type.inj b) (aA Z)
def Yq  {R:Result->Shared->Prop} {I l d:Addr} {its:List Value} {ps:List (K×Value)} (hh:A.in1.handled=none) (a1:l≠I) (a8:l≠d) (G:I≠d) :
    ∀(k i:Nat) (s:Shared) (f:List (K×Value)),its.length-i=k->i<=its.length->s.heap.IsTupleIter I l i->s.heap.IsTuple l its.toArray->s.heap.DictOf knd d f->PairsAt knd s.heap (its.drop i) (ps.drop i)->f.length+(its.length-i)<=sizeLine->
    (∀h' tk,h'.DictOf knd d (merged f (ps.drop i))->(∀b o,b≠d->b≠I->s.heap.get? b=some o->h'.get? b=some o)->R (.ok (.ret .none)) {s with heap:=h',toks:=tk})->
    codeAny (model prog w) A (.builtin "dict.update.loop" ⟨[.ref d,.ref I,rawInt i,.none],[]⟩) R s:=by
  intro k
  induction k with
  | zero=>
    intro i s f hk hi g hl hd j hsz hR;have C:i=its.length:=by omega
    have W:=Walks.tuple (prog:=prog) (w:=w) (A:=A.in1) hh I l a1 its.toArray;refine codeAny_builtin Oc ?_;rw[Around.under_plainId Ar _];show wpAny _ A.in1 (pyNext (.ref I) >>= _) _ _ s
    refine wpAny_bind (W.done s _ _ (by have e:its.toArray.size = i := by simp[C]
                                        rw[e];exact⟨g,hl⟩) λh' tk c=>?_)
    show wpAny _ _ (Builtin.Dict.addKeywords d [] >>= _) _ _ _;refine qB (qG (qG ?_))
    have a6:ps.drop i=[]:=by
      rw[C,List.drop_length]at j;rw[C]
      cases hq:ps.drop its.length with
      |nil=>rfl
      |cons p r=>rw[hq]at j;exact j.elim
    refine hR h' tk ?_ λb o J n e=>c b o (by simpa using n) e;rw[a6];exact hd.at λo e=>c d o (by simpa using (Ne.symm G)) e
  | succ k ih=>
    intro i s f hk hi g hl hd j hsz hR;have m:i<its.length:=by omega
    have W:=Walks.tuple (prog:=prog) (w:=w) (A:=A.in1) hh I l a1 its.toArray;have a9:its.drop i=its[i]::its.drop (i+1):=List.drop_eq_getElem_cons m;rw[a9]at j
    obtain⟨p,r,z⟩:∃p r,ps.drop i=p::r:=by
      cases hq:ps.drop i with
      |nil=>rw[hq]at j;exact j.elim
      |cons p r=>exact⟨p,r,Z⟩
    have Y:ps.drop (i+1)=r:=by rw[<- List.tail_drop,z];rfl
    rw[z]at j;obtain⟨⟨a,x,ea,U,a2⟩,y⟩:=j;refine codeAny_builtin Oc ?_;rw[Around.under_plainId Ar _];show wpAny _ A.in1 (pyNext (.ref I) >>= _) _ _ s;refine qB (W.item i s _ _ (by simpa using m) ⟨g,hl⟩ λv h' tk hP u c=>?_)
    have hv:v=.ref a:=by
      have:its[i]?=some v:=by simpa using hP
      rw[cF m,ea]at this;exact(qK this).symm
    subst hv;have O:h'.IsTuple a #[x,p.2]:=U.at λo e=>c a o (by simpa using Ob U g) e;have a4:h'.DictOf knd d f:=hd.at λo e=>c d o (by simpa using (Ne.symm G)) e;obtain⟨oa,a0,ac,na,aa⟩:=id O;refine qB (qU (qB (wpAny_tryCatch ?_)));unfold Builtin.Dict.pairItems;refine qB (YC ⟨oa,a0,ac⟩ ?_);rw[if_pos (aA Z)];refine qB (wpAny_seqItems a0 aa (qG ?_));show wpAny _ _ (holding [x,p.2] (dictSet d x p.2)) _ _ _;refine qU (wpAny_dictSet_pairs a2 a4 (λh2 ab h=>?_) (by omega));have M:h2.IsTupleIter I l (i+1)/\h2.IsTuple l its.toArray:=⟨u.1.at λo e=>(h.2 I G).trans e,u.2.at λo e=>(h.2 l a8).trans e⟩;refine qG ⟨plainId_quiet Ar _,ih (i+1) _ _ (by omega) m M.1 M.2 ab ?_ ?_ λh3 a5 a3 a7=>?_⟩
    · rw[Y]
      exact y.keep λb xs J=>by
        have h1:h'.IsTuple b xs:=J.at λo e=>c b o (by simpa using Ob J g) e;exact h1.at λo e=>(h.2 b (xkn h1 a4)).trans e
    · have:=stored_length_le f p.1 p.2
      omega
    · refine hR h3 a5 ?_ λb o J n e=>a7 b o J n ((h.2 b J).trans (c b o (by simpa using n) e))
      rw[z];rw[Y]at a3;exact a3
end
def xkm:typeLookup (.type "tuple") "keys"=pure none:=am_miss_of_fast (by kernel_rfl)
section
variable {prog:Program}{w:World}{A:Around}{E:Value->Shared->Prop}{s:Shared}{K:Type}[DecidableEq K]{knd:KeyKind prog w K}
def Yy {its:List Value} {sl:Array (Option Value)} {ps:List (K×Value)} {Q:Value->Shared->Prop} (hh:A.handled=none) (hl:s.heap.get? l=some {cls:=.type "tuple",data:=.seq its.toArray n,dict:=none,slots:=sl}) (hp:PairsAt knd s.heap its ps) (hsz:its.length<=sizeLine)
  (h:∀h' tk,h'.DictOf knd s.heap.objs.size (merged [] ps)->(∀b o,s.heap.get? b=some o->h'.get? b=some o)->Q (.ref s.heap.objs.size) {s with heap:=h',toks:=tk}) :
  wpAny (model prog w) A (call (.type "dict") [.ref l]) Q E s:=by
 refine callType_codes (Q₁:=λobj s₁=>obj=.ref s.heap.objs.size/\s₁={s with heap:=s.heap.push {cls:=.type "dict",data:=.dict #[]}}) F.kt_called_dict (F.kt_typeCall_dict_1 _) F.entry_dict_init (kt_code_dict_new _ ⟨rfl,rfl⟩) ?_;rintro obj s₁ ⟨rfl,rfl⟩;have hnew:(s.heap.push {cls:=.type "dict",data:=.dict #[]}).DictOf knd s.heap.objs.size []:=Heap.DictOf.new s.heap;have ext0:∀b o,s.heap.get? b=some o->(s.heap.push {cls:=.type "dict",data:=.dict #[]}).get? b=some o:=λb o e=>bX _ e;have hl0:=ext0 _ _ hl;have hT:(⟨s.heap.push {cls:=.type "dict",data:=.dict #[]},s.gens,s.drawn,s.toks,s.os⟩:Shared).TypeIs (.ref l) "tuple":=⟨_,hl0,rfl⟩;have hdl:l≠s.heap.objs.size:=λe=>absurd (qH hl) (by rw[e];exact qQ _);refine⟨hnew.typeIs,F.args_dict_init_2 _ _,?_⟩;unfold Builtin.«dict.__init__»;refine qB ?_;unfold Builtin.Dict.selfAndRest;refine qB (wpAny_notOrdered_dict hnew.typeIs ?_);show wpAny _ _ (pure (s.heap.objs.size,[Value.ref l])) _ _ _;refine qG ?_;show wpAny _ _ (Builtin.Dict.updateFrom "dict.__init__" s.heap.objs.size (.ref l) [] .none) _ _ _;unfold Builtin.Dict.updateFrom;refine qB (YC hT ?_);rw[if_pos (aA Z)];refine qB (xfz (sl:=sl) hl0 xkm (by walk_at"k") hh (λh1 tk1 k1=>?_) (by walk_at"k"));rw[if_pos (show(none:Option Value).isNone=true from rfl)];refine qB (wpAny_rule ?_);have hl1:=k1 _ _ hl0;have hL1:h1.IsTuple l its.toArray:=⟨_,hl1,rfl,_,rfl⟩
 refine qB (wpAny_pyIter_tuple hL1 (qG ⟨plainId_quiet Ar _,?_⟩));have hsz1:s.heap.objs.size<h1.objs.size:=qH (k1 _ _ (qI _ rfl));have hlI:l<h1.objs.size:=qH hl1;have hV:∀b o,h1.get? b=some o->(h1.push {cls:=.type "tuple_iterator",data:=.fields #[.ref l,.int 0 0]}).get? b=some o:=λb o e=>bX _ e;refine Yq (knd:=knd) (A:=A.in1) (ps:=ps) (l:=l) (d:=s.heap.objs.size) (its:=its) hh (qL hlI) hdl (Nat.ne_of_gt hsz1) its.length 0 _ [] (Nat.sub_zero _) (qX _) ⟨_,qI _ rfl,rfl,rfl⟩ (hL1.push _) (hnew.at λo e=>hV _ _ (k1 _ _ e)) (hp.keep λa xs ha=>ha.at λo e=>hV _ _ (k1 _ _ (ext0 _ _ e))) (by simpa using hsz) λh3 tk3 hd3 hk3=>?_;refine⟨rfl,h h3 tk3 hd3 λb o e=>hk3 b o ?_ ?_ (hV _ _ (k1 _ _ (ext0 _ _ e)))⟩
 ·exact λz=>absurd (qH e) (by rw[z];exact qQ _)
 ·exact λz=>absurd (qH e) (by rw[z];exact Nat.not_lt_of_gt hsz1)
end
section
variable {X:Cx}
def Yt(hc:X.calm=true):lJ X (.type "dict") (λxs H Q=>∃a ys,∃kvs:List (cQ×V),xs=[.ref a]/\H a=some (.tup ys)/\PairsV H ys kvs/\∀p,H p=none->Q (.ref p) (upd H p (.dK (lH [] kvs)))):=by
 intro pins s σ H xs us Q I r h;obtain⟨a,ys,kvs,rfl,ha,hp,q⟩:=h;obtain⟨u,rfl,ru⟩:=nU r;obtain rfl:u=.ref a:=ru;obtain⟨hz,its,rv,⟨oc,od,dt,sl⟩,ho,h1,n,h2,h3⟩:=(show ObjOk X.prog X.w H s.heap a (.tup ys) from I.hok a _ ha);simp only at h1 h2 h3;subst h1 h2 h3;obtain⟨ps,hk,hpa⟩:=M4 I rv hp;have hyl:=hp.length;refine Yy (knd:=lN X.prog X.w) (I.ok.hd hc) ho hpa (by rw[<- rv.length];exact hz) λh' tk dd' k'=>?_
 have hz':(lH [] kvs).length<=sizeLine:=by
  have:=Aq kvs [];rw[List.length_nil]at this;omega
 exact⟨.ref s.heap.objs.size,_,I.laid (a:=s.heap.objs.size) (o:=.dK (lH [] kvs)) (t':=tk) k' (qD _) (yW hz' (beq_eq_false_iff_ne.mpr (Ne.symm (qL I.big))) (hk.merge .nil) dd'),rfl,q _ (I.hok.fresh (qD _))⟩
end
def oE {X:Cx} {K:Fg} (g:X.K=K):lJ X (.builtin "isinstance") (λxs H Q=>∃a C f h y c b,xs=[.ref a,y]/\(∀u,RelV y u->u=c)/\H a=some (excF a C f h)/\(∀d,f=some d->∃fs,H d=some (.xd fs))/\XCl K C ∧
  PySem.W.kitOne K (.ref C) c=some b/\Q (.bl b) H):=by
 subst g;exact xke
end L2
end
section
namespace Zt
open PySem PySem.Spec PyProof.Rows
def apt{a b:Nat}(h:a≠b:=by omega):a≠b:=h
section
variable {prog:Program}{w:World}{A:Around}{E:Value->Shared->Prop}{s:Shared}
def nxL{it l:Addr}{xs:Array Value}(f:l≠it):Nx prog w it l xs λh k=>h.IsListIter it l k/\h.IsList l xs where
 item:=λp c i=>wpAny_nextOf_list_item p.1 p.2 c λh' a s=>i h' ⟨a,p.2.extBut s.extBut f⟩ s
 last:=λg p c hE=>wpAny_nextOf_list_end g p.1 p.2 c hE
 kept:=λp a b=>⟨p.1.at a,p.2.at b⟩
 there:=λp=>by obtain⟨o,e,_⟩:=p.1;exact⟨o,e⟩
def first2 {I G:Heap->Nat->Prop} {B l1 l2 k:Nat} {xs ys:Array Value} {x y a b:Value} {Q:Value->Shared->Prop} (L1:l1<B) (L2:l2<B)
  (hz:IsZip s.heap (B+4) (B+2) (B+3) .none) (a1:IsPair s.heap (B+2) (.ref B) (.ref (B+1))) (a0:IsPair s.heap (B+3) a b)
  (h:Nx prog w B l1 xs I) (g:Nx prog w (B+1) l2 ys G) (h1:I s.heap k) (h2:G s.heap k) (hx:xs[k]?=some x) (hy:ys[k]?=some y)
  (hQ:∀h',IsZip h' (B+4) (B+2) (B+3) (rawInt s.heap.objs.size)->IsPair h' (B+3) x y->I h' (k+1)->G h' (k+1)->IsPair h' s.heap.objs.size x y->h'.objs.size=s.heap.objs.size+1->
   (∀c o,c≠B+4->c≠B+3->c≠B->c≠B+1->s.heap.get? c=some o->h'.get? c=some o)->Q (.ref s.heap.objs.size) {s with heap:=h'}) :
  wpAny (model prog w) A (Builtin.«zip.__next__» ⟨[.ref (B+4)],[]⟩) (λfin s'=>∃v,fin=.done (.ret v)/\Q v s') E s:=by
 show wpAny _ _ (field (.ref (B+4)) 2 >>= _) _ _ _;refine qB (qT hz Z (x:=.bool false) Z ?_);show wpAny _ _ (field (.ref (B+4)) 3 >>= _) _ _ _;refine qB (qT hz Z (x:=.ref (B+2)) Z (qB (wpAny_seqItems a1 Z ?_)));show wpAny _ _ (Builtin.SmallTypes.ownedTupleIsFree (.ref (B+4)) >>= _) _ _ _;refine qB ?_;unfold Builtin.SmallTypes.ownedTupleIsFree;refine qB (qT hz Z (x:=.none) Z (qG ?_));simp only[if_true];refine qB (wpAny_rule (qB (qT hz Z (x:=.ref (B+3)) Z ?_)));refine qB (wpAny_setField_rec hz (by simp) λg1 M r=>?_)
 replace M:IsZip g1 (B+4) (B+2) (B+3) .ellipsis:=M
 refine qB ?_;simp only[List.zipIdx_cons,List.zipIdx_nil,List.forIn_cons,List.forIn_nil];refine qB (qB (wpAny_onRaise ?_));show wpAny _ _ (Builtin.SmallTypes.nextOf (.ref B) >>= _) _ _ _;refine qB (h.item (h.ext h1 r.extBut apt apt) hx λg2 p1 p=>qG ?_);have t2:IsPair g2 (B+3) a b:=p.extBut _ _ apt (r.extBut _ _ apt a0);refine qB (wpAny_seqItems t2 Z (qB (wpAny_updateSeq_pair t2 λg3 O n=>?_)))
 replace O:IsPair g3 (B+3) x b:=O
 refine qB (wpAny_letGo (qG ?_));refine qB (qB (wpAny_onRaise ?_));show wpAny _ _ (Builtin.SmallTypes.nextOf (.ref (B+1)) >>= _) _ _ _;refine qB (g.item (g.ext (g.ext (g.ext h2 r.extBut apt apt) p.extBut apt apt) n.extBut apt apt) hy λg4 p2 m=>qG ?_);have t4:IsPair g4 (B+3) x b:=m.extBut _ _ apt O;refine qB (wpAny_seqItems t4 Z (qB (wpAny_updateSeq_pair t4 λg5 z l=>?_)))
 replace z:IsPair g5 (B+3) x y:=z
 refine qB (wpAny_letGo (qG (qG ?_)));refine qB (wpAny_seqItems z Z (qB (wpAny_newTuple ?_)));have sz:g5.objs.size=s.heap.objs.size:=by rw[l.1,m.1,n.1,p.1,r.1]
 have z7:IsZip g5 (B+4) (B+2) (B+3) .ellipsis:=l.extBut _ _ apt (m.extBut _ _ apt (n.extBut _ _ apt (p.extBut _ _ apt M)))
 have k7:∀c o,c≠B+4->c≠B+3->c≠B->c≠B+1->s.heap.get? c=some o->g5.get? c=some o:=λc o f C Y U e=>
  l.extBut _ _ C (m.extBut _ _ U (n.extBut _ _ C (p.extBut _ _ Y (r.extBut _ _ f e))))
 have q1:I g5 (k+1):=h.ext (h.ext (h.ext p1 n.extBut apt apt) m.extBut apt apt) l.extBut apt apt;have q2:G g5 (k+1):=g.ext p2 l.extBut apt apt;have i:B+4<g5.objs.size:=qH z7;show wpAny _ _ (Builtin.SmallTypes.ownedTupleHandOut (.ref (B+4)) (.ref g5.objs.size) >>= _) _ _ _;refine qB ?_;unfold Builtin.SmallTypes.ownedTupleHandOut;have z8:IsZip (g5.push {cls:=.type "tuple",data:=.seq #[x,y]}) (B+4) (B+2) (B+3) .ellipsis:=bX _ z7;refine qB (wpAny_setField_rec z8 (by simp) λg9 J e9=>?_)
 replace J:IsZip g9 (B+4) (B+2) (B+3) (rawInt g5.objs.size):=J
 refine wpAny_setField_rec J (by simp) λj u ef=>?_
 replace u:IsZip j (B+4) (B+2) (B+3) (rawInt g5.objs.size):=u
 have up:∀c o,c≠B+4->g5.get? c=some o->j.get? c=some o:=λc o f e=>ef.extBut _ _ f (e9.extBut _ _ f (bX _ e));have tt:IsPair j g5.objs.size x y:=ef.extBut _ _ (Nat.ne_of_gt i) (e9.extBut _ _ (Nat.ne_of_gt i) (qI _ Z));have s8:j.objs.size=g5.objs.size+1:=by rw[ef.1,e9.1,Heap.size_push]
 rw[sz]at u tt s8;refine qG ⟨_,Z,?_⟩;show Q (.ref g5.objs.size) _;rw[sz];exact hQ j u (up _ _ apt z) (h.kept q1 (λo e=>up _ o apt e) λo e=>up _ o apt e) (g.kept q2 (λo e=>up _ o apt e) λo e=>up _ o apt e) tt s8 λc o f C Y U e=>up c o f (k7 c o f C Y U e)
def end2 {r:Heap->Nat->Prop} {B l k:Nat} {xs:Array Value} {Q:Fin->Shared->Prop} (G:A.handled=none) (U:l<B)
  (hz:IsZip s.heap (B+4) (B+2) (B+3) .none) (h:IsPair s.heap (B+2) (.ref B) (.ref (B+1))) (u:Nx prog w B l xs r) (J:r s.heap k) (C:xs[k]?=none)
  (hE:∀h' e,(∀c o,c≠B+4->c≠B->s.heap.get? c=some o->h'.get? c=some o)->(∃o,h'.get? e=some o/\o.cls=.type "StopIteration")->E (.ref e) {s with heap:=h'}) :
  wpAny (model prog w) A (Builtin.«zip.__next__» ⟨[.ref (B+4)],[]⟩) Q E s:=by
 show wpAny _ _ (field (.ref (B+4)) 2 >>= _) _ _ _;refine qB (qT hz Z (x:=.bool false) Z ?_);show wpAny _ _ (field (.ref (B+4)) 3 >>= _) _ _ _;refine qB (qT hz Z (x:=.ref (B+2)) Z (qB (wpAny_seqItems h Z ?_)));show wpAny _ _ (Builtin.SmallTypes.ownedTupleIsFree (.ref (B+4)) >>= _) _ _ _;refine qB ?_;unfold Builtin.SmallTypes.ownedTupleIsFree;refine qB (qT hz Z (x:=.none) Z (qG ?_));simp only[if_true];refine qB (wpAny_rule (qB (qT hz Z (x:=.ref (B+3)) Z ?_)));refine qB (wpAny_setField_rec hz (by simp) λO f p=>?_)
 replace f:IsZip O (B+4) (B+2) (B+3) .ellipsis:=f
 refine qB ?_;simp only[List.zipIdx_cons,List.zipIdx_nil,List.forIn_cons,List.forIn_nil];refine qB (qB (wpAny_onRaise ?_));show wpAny _ _ (Builtin.SmallTypes.nextOf (.ref B) >>= _) _ _ _;refine qB (u.last G (u.ext J p.extBut apt apt) C λM e n I=>?_);obtain⟨y,a,b⟩:=I;have i:IsZip M (B+4) (B+2) (B+3) .ellipsis:=n _ _ apt f;have g:e≠B+4:=λx=>by subst x;rw[i]at a;cases a;simp at b
 refine wpAny_setField_rec i (by simp) λg3 _ m=>hE g3 e (λc o j z x=>m.extBut _ _ j (n _ _ z (p.extBut _ _ j x))) ⟨y,m.extBut _ _ g a,b⟩
end
section
variable {prog:Program}{w:World}{A:Around}{E:Value->Shared->Prop}{s:Shared}
def next_stop {z:Addr} {Q:Option Value->Shared->Prop} (hT:s.TypeIs (.ref z) "zip") {K:Heap->Prop}
  (h:∀{A':Around} {R:Fin->Shared->Prop} {E':Value->Shared->Prop},A'.handled=A.handled->(∀h' e,K h'->(∃o,h'.get? e=some o/\o.cls=.type "StopIteration")->E' (.ref e) {s with heap:=h'})->wpAny (model prog w) A' (Builtin.«zip.__next__» ⟨[.ref z],[]⟩) R E' s)
  (hQ:∀h',K h'->Q none {s with heap:=h'}):wpAny (model prog w) A (pyNext (.ref z)) Q E s:=by
 unfold pyNext
 refine qB (wpAny_attempt (wpAny_callSpecial?_slot (name:=Str.ofString "__next__") hT F.slot_zip_next
  (wpAny_call_entry F.slot_zip_next hT F.entry_zip_next (h rfl λh' e hk he=>?_) (F.args_zip_next_1 _))))
 obtain⟨o,ho,hc⟩:=he;refine qB (wpAny_isInstance (T:="StopIteration") (b:=true) ⟨o,ho,hc⟩ isSubtype_stop ?_);exact qG (hQ _ hk)
end
end Zt
namespace L2
open PySem PySem.Spec PyProof.Rows
def apt{a b:Nat}(h:a≠b:=by omega):a≠b:=h
section
variable {X:Cx}
def nG (K:Fg) (a b:Addr):It:=
  ⟨λi H=>∃xs ys x y,SqL K H a xs/\SqL K H b ys/\xs[i]?=some x/\ys[i]?=some y,λi H x H'=>∃p u v,x=.ref p/\H p=none/\H'=upd H p (.tup [u,v])/\(∀xs,SqL K H a xs->xs[i]?=some u)/\∀ys,SqL K H b ys->ys[i]?=some v,
   λi H=>∃xs ys,SqL K H a xs/\SqL K H b ys/\xs.length<=i⟩
def yS(a b B:Nat):Nat->Heap->Prop:=λi h=>IsZip h (B+4) (B+2) (B+3) .none/\IsPair h (B+2) (.ref B) (.ref (B+1))/\(∃u v,IsPair h (B+3) u v)/\h.IsListIter B a i/\h.IsListIter (B+1) b i
def Nf {P:Program} {w:World} {K:Fg} {elts:List Expr} {x1} {pos:Pos} {a b B:Nat} (La:a<B) (Lb:b<B) (X:Cx) (hP:X.prog=P) (hw:X.w=w) (hK:X.K=K) (i:Nat) (f:List (Addr×Obj)) (s:Shared) (σ:St) (H:Hp) (E:Value->Shared->Prop) (I:Inv X f σ H s) (hf:∀c∈[B+4,B+2,B+3,B,B+1],FpOk X f H c) (st:yS a b B i s.heap) (hg:(nG K a b).go i H) :
  wpAny (model P w) X.A (pyNext (.ref (B+4))) (λr m=>∃u,r=some u ∧
   wpAny (model P w) X.A (letOwnedTupleGo (.Tuple elts x1 pos) (.ref (B+4)) u) (λ_ l=>∃x Y,Inv X f σ Y l/\RelV x u/\(nG K a b).yld i H x Y/\yS a b B (i+1) l.heap/\∀c∈[B+4,B+2,B+3,B,B+1],Y c=none) E m) E s:=by
 subst hP hw hK;obtain⟨xs,ys,x,y,hq,z,hx,hy⟩:=hg;obtain⟨its,rv,p,hz⟩:=I.list hq;obtain⟨its',J,p',a0⟩:=I.list z;obtain⟨u,hu,ru⟩:=rv.get hx;obtain⟨j,O,M⟩:=J.get hy;obtain⟨m,l,⟨_,_,s3⟩,s4,s5⟩:=st;have hT:s.TypeIs (.ref (B+4)) "zip":=⟨_,m,Z⟩;unfold pyNext
 refine qB (wpAny_attempt (wpAny_callSpecial?_slot (name:=Str.ofString "__next__") hT F.slot_zip_next
  (wpAny_call_entry F.slot_zip_next hT F.entry_zip_next
   (Zt.first2 La Lb m l s3 (Zt.nxL apt) (Zt.nxL apt) ⟨s4,p.isList⟩ ⟨s5,p'.isList⟩ (x:=u) (y:=j) (by simpa using hu) (by simpa using O) λh1 a1 a2 a3 a4 a5 a6 a7=>qG ⟨_,Z,wpAny_letOwnedTupleGo_zip a1 λh2 b1 G=>?_⟩) (F.args_zip_next_1 _))))
 have U:H s.heap.objs.size=none:=I.hok.fresh (qD _);have g1:(s.heap.push {cls:=.type "tuple",data:=.seq #[u,j]}).get? s.heap.objs.size=some {cls:=.type "tuple",data:=.seq #[u,j]}:=qI _ Z
 have I1:Inv X f σ (upd H s.heap.objs.size (.tup [x,y])) {s with heap:=s.heap.push {cls:=.type "tuple",data:=.seq #[u,j]},toks:=s.toks}:=
  I.laid (λb o q=>bX _ q) (qD _) ⟨aE Z,[u,j],.cons ru (.cons M .nil),⟨_,g1,Z,_,Z,Z⟩⟩
 have lt:∀c∈[B+4,B+2,B+3,B,B+1],c≠s.heap.objs.size:=λc g=>by
  have l5:(B+4:Nat)<s.heap.objs.size:=qH m;simp only[List.mem_cons,List.not_mem_nil,or_false]at g;rcases g with e |e |e |e |e <;> rw[e] <;> exact apt
 have C:∀c∈[B+4,B+2,B+3,B,B+1],FpOk X f (upd H s.heap.objs.size (.tup [x,y])) c:=λc g=>by
  refine⟨?_,(hf c g).2⟩;rw[cO (lt c g)];exact(hf c g).1
 have I2:Inv X f σ (upd H s.heap.objs.size (.tup [x,y])) {s with heap:=h2,toks:=s.toks}:=
  I1.turnedM (t':=s.toks) (λc o hb q=>by
   have n:c≠B+4/\c≠B+2/\c≠B+3/\c≠B/\c≠B+1:=by simpa using hb
   have q1:h1.get? c=some o:=by
    by_cases e:c=s.heap.objs.size
    ·subst e
     have q':(s.heap.push {cls:=.type "tuple",data:=.seq #[u,j]}).get? s.heap.objs.size=some o:=q;rw[g1]at q';cases q';exact a5
    ·exact a7 c o n.1 n.2.2.1 n.2.2.2.1 n.2.2.2.2 (O7 q e)
   exact(G.2 c n.1).trans q1) C
 refine⟨.ref s.heap.objs.size,_,I2,Z,⟨_,x,y,Z,U,Z,λzs h=>by rw[I.list_inj h hq];exact hx,λzs h=>by rw[I.list_inj h z];exact hy⟩,⟨b1,?_,⟨_,_,(G.2 _ apt).trans a2⟩,a3.1.at λo q=>(G.2 _ apt).trans q,a4.1.at λo q=>(G.2 _ apt).trans q⟩,λc g=>(C c g).1⟩;exact(G.2 _ apt).trans (a7 _ _ apt apt apt apt l)
def Nr {P:Program} {w:World} {K:Fg} {elts:List Expr} {x1} {pos:Pos} {a b B:Nat} (J:a<B) (Lb:b<B) :
  Turn P w K (.Tuple elts x1 pos) (nG K a b) [B+4,B+2,B+3,B,B+1] (B+4) (yS a b B) where
 mem:=by simp
 obj:=λi h st c n=>by
  obtain⟨f,j,⟨u,v,m⟩,g,l⟩:=st;simp only[List.mem_cons,List.not_mem_nil,or_false]at n;rcases n with rfl |rfl |rfl |rfl |rfl
  ·exact⟨_,f,λv z=>by cases z⟩
  ·exact⟨_,j,λv z=>by cases z⟩
  ·exact⟨_,m,λv z=>by cases z⟩
  ·obtain⟨o,e,c,d⟩:=g
   exact⟨o,e,λv z=>by rw[d]at z;cases z⟩
  ·obtain⟨o,e,c,d⟩:=l
   exact⟨o,e,λv z=>by rw[d]at z;cases z⟩
 keep:=λi h h' st k=>by
  obtain⟨f,j,⟨u,v,m⟩,g,l⟩:=st;exact⟨k (B+4) (by simp) _ f,k (B+2) (by simp) _ j,⟨u,v,k (B+3) (by simp) _ m⟩,g.at λo q=>k B (by simp) o q,l.at λo q=>k (B+1) (by simp) o q⟩
 item:=λX x r y _=>Nf J Lb X x r y
 done:=by
  intro X x r y n i C s σ H E I hf st hg;subst x r y;obtain⟨xs,ys,Y,U,hx⟩:=hg;obtain⟨its,M,p,hz⟩:=I.list Y;obtain⟨f,j,m,g,l⟩:=st;have hl:=M.length
  refine Zt.next_stop (K:=λh'=>∀c o,c≠B+4->c≠B->s.heap.get? c=some o->h'.get? c=some o) ⟨_,f,Z⟩ (λ{A' R E'} ha hE=>Zt.end2 (ha.trans (I.ok.hd n)) J f j (Zt.nxL apt) ⟨g,p.isList⟩ (by simp;omega) hE) λh' O=>⟨Z,I.turnedM (t':=s.toks) (λc o hb q=>by
   have G:c≠B+4/\c≠B+2/\c≠B+3/\c≠B/\c≠B+1:=by simpa using hb
   exact O c o G.1 G.2.2.2.1 q) hf⟩
 self:=λ_ _ _ _ _ st h=>wpAny_pyIter_zip st.1 h
end
end L2
end
section
namespace Zt
open PySem PySem.Spec PyProof.Rows
def Hnd(h:Heap)(old:Addr):Prop:=∃(oo:Obj) (vs:Array Value),h.get? old=some oo/\oo.data=.fields vs/\vs[2]?=some .none
section
variable {prog:Program}{w:World}{A:Around}{E:Value->Shared->Prop}{s:Shared}
def Ux {α:Type} {old e:Addr} {o:Obj} {us:Array Value} {Q:α->Shared->Prop} (m:A.handled=some (.ref old)) (f:e≠old) (l:Hnd s.heap old) (h:s.heap.get? e=some o) (a:o.data=.fields us) (u:2<us.size)
  (hE:∀h',(∀b,b≠e->h'.get? b=s.heap.get? b)->(∃g,h'.get? e=some g/\g.cls=o.cls)->E (.ref e) {s with heap:=h'}):wpAny (model prog w) A (raiseNew (.ref e)) Q E s:=by
 obtain⟨I,vs,G,C,y⟩:=l;unfold raiseNew;refine qB (wpAny_handled ?_);rw[m]
 have r:(Value.ref old != Value.ref e)=true:=by
  rw[bne_iff_ne];exact λz=>f (Value.ref.inj z).symm
 dsimp only;rw[if_pos r];refine qB (qU (wpAny_runValue (codeAny_builtin L2.entry_unchain ?_)));unfold Builtin.«proto.unchain»;refine qB (qT G C y ?_);rw[if_pos (show(Value.none == Value.none)=true by decide)];refine qB (qG (qG ?_));show wpAny _ _ (do updateField e 2 (Value.ref old);throw (Value.ref e)) _ _ _;refine qB ?_
 have c:wpAny (model prog w) A (setField (.ref e) 2 (Value.ref old)) (λ_ i=>wpAny (model prog w) A (throw (Value.ref e)) Q E i) E s:=by
  refine YE h a u (wpAny_throw ?_);refine hE _ (λb j=>Heap.get?_update_other _ _ (Ne.symm j)) ⟨_,Heap.get?_update_self _ h (Obj.isFreed_of_fields (Obj.data_mapFields a _)),Obj.cls_mapFields ..⟩
 exact c
def N6 {α:Type} {old:Addr} {Q:α->Shared->Prop} (z:A.handled=some (.ref old)) (y:Hnd s.heap old) (hE:∀h' e,(∀b o,s.heap.get? b=some o->h'.get? b=some o)->(∃o,h'.get? e=some o/\o.cls=.type "StopIteration")->E (.ref e) {s with heap:=h'}) :
  wpAny (model prog w) A (newExc (.type "StopIteration") [] >>= λe=>raiseNew e) Q E s:=by
 obtain⟨c,g,d,tk,I⟩:=s;obtain⟨i,vs,f,r,l⟩:=y;refine qB ?_;simp only[newExc,newTuple];refine qB (wpAny_newObj_type ?_ (by size_fits));refine qB (m:=firstArgMember _ _) (wpAny_of_eq (a:=Value.none) (by first |rfl |(simp only[firstArgMember];rfl)) ?_);refine wpAny_newObj_type ?_ (by size_fits);dsimp only;generalize C:c.push {cls:=.type "tuple",data:=.seq ([]:List Value).toArray}=h;have up:∀b o,c.get? b=some o->h.get? b=some o:=λb o e=>by rw[<- C];exact bX _ e
 have lt:∀b o,c.get? b=some o->b≠h.objs.size:=λb o e=>qL (qH (up b o e));refine Ux (old:=old) z (Ne.symm (lt _ _ f)) ⟨i,vs,bX _ (up _ _ f),r,l⟩ (qI _ Z) Z (by show 2<_;simp;omega) λh' j G=>hE h' _ (λb u e=>(j b (lt b u e)).trans (bX _ (up b u e))) G
def Xf {it l old:Addr} {items} {Q:Value->Shared->Prop} (U:A.handled=some (.ref old)) (O:Hnd s.heap old) (a:s.heap.IsListIter it l i) (M:s.heap.IsList l items) (J:items[i]?=none)
  (hE:∀h' e,Heap.ExtBut it s.heap h'->(∃o,h'.get? e=some o/\o.cls=.type "StopIteration")->E (.ref e) {s with heap:=h'}) :
  wpAny (model prog w) A (Builtin.SmallTypes.nextOf (.ref it)) Q E s:=by
 obtain⟨o,c,hc,hd⟩:=id a;obtain⟨ol,h,_,nl,m⟩:=M;obtain⟨C,vs,g,f,y⟩:=O
 have j:it≠old:=λz=>by
  subst z;rw[c]at g;cases g;rw[hd]at f;cases f;cases y
 unfold Builtin.SmallTypes.nextOf
 refine qB (wpAny_callSpecial?_slot (name:=Str.ofString "__next__") a.typeIs slot_listiter_next
  (wpAny_call_entry slot_listiter_next a.typeIs entry_listiter_next ?_ (args_listiter_next _)))
 show wpAny _ _ (field (.ref it) 0 >>= _) _ _ s;refine qB (qT c hd (x:=.ref l) Z ?_);show wpAny _ _ (if (Value.ref l == Value.none)=true then _ else _) _ _ s;rw[if_neg (show ¬((Value.ref l == Value.none)=true) from qJ)];show wpAny _ _ (field (.ref it) 1 >>= _) _ _ s;refine qB (qT c hd (x:=.int i 0) Z ?_);show wpAny _ _ (seqItems? (.ref l) >>= _) _ _ s;refine qB (wpAny_seqItems h m ?_);simp only[Int.toNat_natCast,J];refine qB (wpAny_rule (qB (YE c hd (by simp) ?_)));have r:=Heap.SameBut.update s.heap it (Obj.mapFields λx=>x.setIfInBounds 0 Value.none);refine N6 (old:=old) U ⟨C,vs,r.extBut _ _ (Ne.symm j) g,f,y⟩ λh' e I Y=>hE h' e (λb u G q=>I b u (r.extBut _ _ G q)) Y
def Yu {it t old:Addr} {items} {Q:Option Value->Shared->Prop} (U:A.handled=some (.ref old)) (O:Hnd s.heap old) (a:IsTupIter s.heap it t i) (M:IsTup s.heap t items) (J:items[i]?=none)
  (hQ:∀h',Heap.ExtBut it s.heap h'->Q none {s with heap:=h'}):wpAny (model prog w) A (pyNext (.ref it)) Q E s:=by
 obtain⟨o,c,hc,hd⟩:=id a;obtain⟨ol,h,_,nl,l⟩:=M;obtain⟨y,vs,g,f,r⟩:=O
 have j:it≠old:=λz=>by
  subst z;rw[c]at g;cases g;rw[hd]at f;cases f;cases r
 unfold pyNext
 refine qB (wpAny_attempt (wpAny_callSpecial?_slot (name:=Str.ofString "__next__") a.typeIs slot_tupleiter_next
  (wpAny_call_entry slot_tupleiter_next a.typeIs entry_tupleiter_next ?_ (args_tupleiter_next _))))
 show wpAny _ _ (field (.ref it) 0 >>= _) _ _ s;refine qB (qT c hd (x:=.ref t) Z ?_);show wpAny _ _ (if (Value.ref t == Value.none)=true then _ else _) _ _ s;rw[if_neg (show ¬((Value.ref t == Value.none)=true) from qJ)];show wpAny _ _ (field (.ref it) 1 >>= _) _ _ s;refine qB (qT c hd (x:=.int i 0) Z ?_);show wpAny _ _ (seqItems? (.ref t) >>= _) _ _ s;refine qB (wpAny_seqItems h l ?_);simp only[Int.toNat_natCast,J];refine qB (wpAny_rule (qB (YE c hd (by simp) ?_)));have m:=Heap.SameBut.update s.heap it (Obj.mapFields λx=>x.setIfInBounds 0 Value.none);refine N6 (old:=old) U ⟨y,vs,m.extBut _ _ (Ne.symm j) g,f,r⟩ λh' e I Y=>?_;obtain⟨C,h1,h2⟩:=Y;refine qB (wpAny_isInstance (T:="StopIteration") (b:=true) ⟨C,h1,h2⟩ isSubtype_stop ?_);exact qG (hQ _ λb u G q=>I b u (m.extBut _ _ G q))
def unpack_q {x1} (O:A.handled=some (.ref old)) (M:Hnd s.heap old) (f:IsTup s.heap t items)
  (hn:(assignEach elts env).length=items.size) (c:(assignEach elts env).findIdx? (·.1)=none)
  (h:∀h',Heap.ExtBut s.heap.objs.size s.heap h'->wpAny (model prog w) A (assignInOrder ((assignEach elts env).map (·.2)) items.toList) Q E {s with heap:=h'}) :
  wpAny (model prog w) A (assign (.Tuple elts x1 pos) env (.ref t)) Q E s:=by
 rw[assign_Tuple];refine qB (wpAny_standAt ?_);unfold unpack;rw[hn,c];refine qB (qU ?_);have g:t≠s.heap.objs.size:=by obtain⟨o,J,_⟩:=f;exact qL (qH J)
 obtain⟨z,vs,u,G,C⟩:=M;have m:old≠s.heap.objs.size:=qL (qH u);unfold unpackItems;refine qB ?_
 ·unfold notIterableAtAll
  refine qB (wpAny_specialOf f.typeIs slot_tuple_iter.lookup ?_);refine qG ?_;simp only[Bool.false_eq_true,if_false];refine qB (qU (iter_tuple f ?_));refine qB (qU (draw_tuple g items.size 0 _ _ ⟨_,qI _ Z,Z,Z⟩ (f.push _) (by omega) λh₁ i a=>?_))
  have j:List.take items.size (List.drop 0 items.toList)=items.toList:=by
   rw[List.drop_zero];exact fH (by simp)
  rw[j];rw[if_neg (by simp)];have l:IsTup h₁ t items:=(f.push _).extBut a.extBut g;refine qB (qU (Yu (old:=old) O ⟨z,vs,a.extBut _ _ m (bX _ u),G,C⟩ i l (by simp) λI r=>?_));simp only[Option.isSome_none,Bool.false_eq_true,if_false];refine qG (h I λb o y e=>r b o y (a.extBut b o y (bX _ e)))
def end2_q {B h k old:Nat} {Q:Fin->Shared->Prop} (hh:A.handled=some (.ref old)) (Y:Hnd s.heap old) (L1:h<B)
  (hz:IsZip s.heap (B+4) (B+2) (B+3) .none) (m:IsPair s.heap (B+2) (.ref B) (.ref (B+1))) (h1:s.heap.IsListIter B h k) (h2:s.heap.IsList h xs) (U:xs[k]?=none)
  (hE:∀h' e,(∀c o,c≠B+4->c≠B->s.heap.get? c=some o->h'.get? c=some o)->(∃o,h'.get? e=some o/\o.cls=.type "StopIteration")->E (.ref e) {s with heap:=h'}) :
  wpAny (model prog w) A (Builtin.«zip.__next__» ⟨[.ref (B+4)],[]⟩) Q E s:=by
 obtain⟨J,vs,i,C,y⟩:=Y
 have j:old≠B+4:=λz=>by
  subst z;rw[hz]at i;cases i;cases C;cases y
 show wpAny _ _ (field (.ref (B+4)) 2 >>= _) _ _ _;refine qB (qT hz Z (x:=.bool false) Z ?_);show wpAny _ _ (field (.ref (B+4)) 3 >>= _) _ _ _;refine qB (qT hz Z (x:=.ref (B+2)) Z (qB (wpAny_seqItems m Z ?_)));show wpAny _ _ (Builtin.SmallTypes.ownedTupleIsFree (.ref (B+4)) >>= _) _ _ _;refine qB ?_;unfold Builtin.SmallTypes.ownedTupleIsFree;refine qB (qT hz Z (x:=.none) Z (qG ?_));simp only[if_true];refine qB (wpAny_rule (qB (qT hz Z (x:=.ref (B+3)) Z ?_)));refine qB (wpAny_setField_rec hz (by simp) λg1 g f=>?_)
 replace g:IsZip g1 (B+4) (B+2) (B+3) .ellipsis:=g
 refine qB ?_;simp only[List.zipIdx_cons,List.zipIdx_nil,List.forIn_cons,List.forIn_nil];refine qB (qB (wpAny_onRaise ?_));show wpAny _ _ (Builtin.SmallTypes.nextOf (.ref B) >>= _) _ _ _;refine qB (Xf (old:=old) hh ⟨J,vs,f.extBut _ _ j i,C,y⟩ (h1.at λo e=>f.extBut _ _ apt e) (h2.at λo e=>f.extBut _ _ apt e) U λg2 e I he=>?_);obtain⟨M,a,b⟩:=he;have r:IsZip g2 (B+4) (B+2) (B+3) .ellipsis:=I _ _ apt g;have l:e≠B+4:=λx=>by subst x;rw[r]at a;cases a;simp at b
 refine wpAny_setField_rec r (by simp) λg3 _ G=>hE g3 e (λc o u O x=>G.extBut _ _ u (I _ _ O (f.extBut _ _ u x))) ⟨M,G.extBut _ _ l a,b⟩
end
end Zt
namespace L2
open PySem PySem.Spec PyProof.Rows
def Hd(x:Addr)(X:Cx):Prop:=X.A.handled=some (.ref x)
def ExcAt(H:Hp)(x:Addr):Prop:=∃C d,H x=some (excF x C d .none)
section
variable {X:Cx}
theorem ExcAt.hnd{a:List (Addr×Obj)}{σ:St}{H:Hp}{s:Shared}{x:Addr}(h:ExcAt H x)(I:Inv X a σ H s):Zt.Hnd s.heap x:=by
 obtain⟨C,d,e⟩:=h;obtain⟨vs,hz,b⟩:=I.hok.excF e;exact⟨_,vs,b,Z,hz.2⟩
def sQ(K:Fg)(a b x:Addr):It:=⟨(nG K a b).go,(nG K a b).yld,λi H=>(nG K a b).stop i H/\ExcAt H x⟩
def Yp{P:Program}{w:World}{K:Fg}{elts:List Expr}{x1}{pos:Pos}{a b B:Nat}{x:Addr}(f:a<B)(m:b<B):Turn P w K (.Tuple elts x1 pos) (sQ K a b x) [B+4,B+2,B+3,B,B+1] (B+4) (yS a b B) (Hd x) where
 mem:=by simp
 obj:=(Nr (P:=P) (w:=w) (K:=K) (elts:=elts) (x1:=x1) (pos:=pos) f m).obj
 keep:=(Nr (P:=P) (w:=w) (K:=K) (elts:=elts) (x1:=x1) (pos:=pos) f m).keep
 item:=λX j g l _=>Nf f m X j g l
 done:=by
  intro X j g l hc i u s σ H E I hf st Y;subst j g l;obtain⟨⟨xs,ys,O,M,hx⟩,U⟩:=Y;obtain⟨its,G,p,hz⟩:=I.list O;obtain⟨r,C,s3,z,s5⟩:=st;have hl:=G.length
  refine Zt.next_stop (K:=λh'=>∀c o,c≠B+4->c≠B->s.heap.get? c=some o->h'.get? c=some o) ⟨_,r,Z⟩ (λ{A' R E'} ha hE=>Zt.end2_q (old:=x) (ha.trans hc) (U.hnd I) f r C z p.isList (by simp;omega) hE) λh' J=>⟨Z,I.turnedM (t':=s.toks) (λc o hb q=>by
   have y:c≠B+4/\c≠B+2/\c≠B+3/\c≠B/\c≠B+1:=by simpa using hb
   exact J c o y.1 y.2.2.2.1 q) hf⟩
 self:=λ_ _ _ _ _ st h=>wpAny_pyIter_zip st.1 h
def Oq(Cp:Cx->Prop)(X:Cx)(tg iter:Expr)(wi:TI):Prop:=
 ∀(pins:List (Addr×Obj)) (s:Shared) (σ:St) (H:Hp) (R:It->Hp->Prop),Inv X pins σ H s->wi σ H R->
  wpAny (model X.prog X.w) X.A (eval iter X.env) (λv s1=>wpAny (model X.prog X.w) X.A (pyIter v) (xZ Cp X pins σ tg R) X.xe s1) X.xe s
def Pf(K:Fg)(x:Addr)(ta:TA):TI:=λσ H R=>ta σ H λvs H1=>∃a b,vs=[.ref a,.ref b]/\(∃xs,SqL K H1 a xs)/\(∃ys,SqL K H1 b ys)/\R (sQ K a b x) H1
def Vn {x:Addr} {a b:Expr} {r:TA} {p pos:Pos} {elts:List Expr} {x1} {M:Pos} (hg:Gl X "zip") (hm:X.mg "zip"=none) (ha:PA X [a,b] r) (hs:starEach [a,b] X.env=[(false,eval a X.env),(false,eval b X.env)]:=by rfl) (i:starEach [b] X.env=[(false,eval b X.env)]:=by rfl) :
  Oq (Hd x) X (.Tuple elts x1 M) (.Call (.Name "zip" p) [a,b] [] pos) (Pf X.K x r):=by
 intro g s σ H R I h;refine Call_ (oY I hg hm PyProof.Rows.boot_zip (PyProof.Rows.callWith_type1 (aU (ha pos g s σ H _ I h) λus f ⟨vs,H1,l,O,U⟩=>?_) (by rw[hs,i]) (by rw[i];rfl)));obtain⟨l1,Y,e,⟨xs,hx⟩,⟨ys,hy⟩,q⟩:=U;subst e;obtain⟨u1,u2,rfl,e1,e2⟩:=O.two;cases e1;cases e2;obtain⟨its,rx,tx,a4⟩:=l.list hx;obtain⟨a0,ry,o,a3⟩:=l.list hy;have a1:l1<f.heap.objs.size:=by obtain⟨_,e,_⟩:=tx.isList;exact qH e
 have a2:Y<f.heap.objs.size:=by obtain⟨_,e,_⟩:=o.isList;exact qH e
 refine call_zip_2 tx.isList o.isList λh1 m J G C y _ kp=>wpAny_pyIter_zip m ?_;refine⟨f.heap.objs.size+4,[f.heap.objs.size+4,f.heap.objs.size+2,f.heap.objs.size+3,f.heap.objs.size,f.heap.objs.size+1],_,_,H1,Z,l.kept (t':=f.toks) kp,Yp a1 a2,⟨m,J,⟨_,_,G⟩,C,y⟩,λc u=>?_,q⟩
 have j:f.heap.objs.size<=c:=by
  simp only[List.mem_cons,List.not_mem_nil,or_false]at u;rcases u with z |z |z |z |z <;> subst z <;> first |exact Nat.le_add_right _ _ |exact qD _
 exact l.fpOk j (l.hok.fresh j)
def W9 (j:List Str) (M:nH) (hc:∀C s₀ H₀ ex,Cp (X.comp c j C s₀ H₀ ex)) (r:vS X.N j X.env.scope c M=true)
  (hi:Oq Cp X l a z) (hg:∀C s₀ H₀ ex,PG (X.comp c j C s₀ H₀ ex) l g) (U:∀C s₀ H₀ ex,PTs (X.comp c j C s₀ H₀ ex) f G) (he:∀C s₀ H₀ ex,PE (X.comp c j C s₀ H₀ ex) i J)
  (hs:∀x,foldedSetIterable a X.env x=pure x:=by intro _;rfl):PE X (.ListComp i [⟨l,a,f,0⟩] c pos) (Bi M z g G J):=by
 intro b s σ H Q I h;have ok:=Da r;rw[eval_ListComp];refine wpAny_comprehension_free (use:=none) Z hs (E9 λp Y hk=>I.ok.has p.1 (ok.fre p Y hk)) ok.kind ok.loc (aU (hi b s σ H _ I h) λv s1 y=>aU y λO s2 u=>?_);refine E6 (RR:=λacc C=>compPost (model X.prog X.w) X.A X.xe none (EP X b σ Q) acc C) hc ok hg U he u ?_;intro D C s' H' m I' q hm h0 y u h3 h4;exact⟨m,hm,λh' o=>⟨.ref D,H',I'.letGo o h0 y u h3 h4,Z,q⟩⟩
def Pc(K:Fg)(n:Nat)(x:Addr)(t:oS):TG:=λv σ H Q=>∃a xs,v=.ref a/\SqT K H a xs/\xs.length=n/\ExcAt H x/\t xs σ H Q
def Vl {K:Fg} {x:Addr} {es:List Expr} {k:Nat} {t:oS} {n:Nat} {pos:Pos} (G:X.K=K) (C:Hd x X) (h:vP X es t)
  (hn:(assignEach es X.env).length=n:=by rfl) (g:(assignEach es X.env).findIdx? (·.1)=none:=by rfl):PG X (.Tuple es k pos) (Pc K n x t):=by
 subst G;intro c s σ H v u Q I r f;obtain⟨a,xs,J,m,y,z,f⟩:=f;subst J;cases r;obtain⟨its,i,l,hz⟩:=I.tuple m;refine Zt.unpack_q (old:=x) C (z.hnd I) l (by simp[hn,<- y,i.length]) g λh' j=>?_;have M:Inv X c σ H {s with heap:=h'}:=I.kept (t':=s.toks) λb o e=>j b o (qL (qH e)) e;exact h c _ σ H xs _ Q M (by simpa using i) f
def X4 {K:Fg} {j:nH} {r:TT} {C:TE} {g:TG} {σ:St} {H:Hp} {Q:VK} {a b x:Addr} {xs zs:List V} (l:xs.length=zs.length) (f:Nat->List V->Hp->Prop) (h0:f 0 [] H) (hn:xs.length<sizeLine) (o:∀i ys H,i<=xs.length->f i ys H->SqL K H a xs/\SqL K H b zs/\ExcAt H x)
  (hs:∀i u z ys H p,xs[i]?=some u->zs[i]?=some z->i<xs.length->ys.length<=i->f i ys H->H p=none->g (.ref p) (dX j σ) (upd H p (.tup [u,z])) λh Y=>oU (dX j σ) h/\r h Y λb I=>if b=true then C h I (oI f xs.length i ys) else oH f xs.length i ys I)
  (hd:∀ys H,ys.length<=xs.length->f xs.length ys H->∀D,H D=none->Q (.ref D) (upd H D (.lst ys))):oW (sQ K a b x) j g r C σ H Q:=by
 refine⟨λi m ys H=>m=xs.length-i/\i<=xs.length/\ys.length<=i/\f i ys H,⟨xs.length,by simp,qX _,qD _,h0⟩,?_⟩;rintro i m ys H ⟨rfl,hi,G,p⟩;have q:=o i ys H hi p;by_cases c:i<xs.length
 ·refine .inr ⟨⟨xs,zs,xs[i],zs[i]'(by omega),q.1,q.2.1,by simp[c],by simp[<- l,c]⟩,by omega,λv H' y=>?_⟩
  obtain⟨J,u,v,rfl,U,rfl,O,M⟩:=y;exact hs i u v ys _ J (O xs q.1) (M zs q.2.1) c G p U
 ·have e:i=xs.length:=by omega
  subst e;exact .inl ⟨⟨⟨xs,zs,q.1,q.2.1,qD _⟩,q.2.2⟩,hd ys H G p⟩
end
structure FnOkH(P:Program)(w:World)(K:Fg)(mg:Str->Option Value)(base:Heap)(CX:lZ)(hv:Value)(k:Nat)(f:Addr)(fd:FuncData)(ps:List Str)(sp:Sp):Prop where
 len:∀vs H Q E,sp vs H Q E->vs.length=ps.length
 run:∀(A:Around) (outer:List Env) (s:Shared) (H:Hp) (args:Args) (us:List Value) (vs:List V) (Q:VK) (E:XK),RoomQ k A->A.handled=some hv->Env0 P w K mg base A outer s H->BindsTo s fd args (ps.zip us)->Vals vs us->sp vs H Q E->
  codeAny (model P w) A (.call (.ref f) args) (CR CX outer P w H s Q E) s
def Rk {hv:Value} {CX:lZ} {P:Program} {w:World} {K:Fg} {M:Str->Option Value} {base:Heap} {k:Nat} {f:Addr} {name c:Str} {h:Arguments} {j:List Stmt} {a:Scope} {dV kV U pm g ct oc:Value} {an od:Option Addr}
  {a0:Array (Option Value)} {N ps:List Str} {sp:Sp} (lk:K.lookup f=some ⟨oc,od,.func (PySem.W.fnOf name c h j a dV kV U pm an g ct),a0⟩) (a3:PySem.W.codeIn K g c=true) (S:FnScope N ps a)
  (len:∀vs H Q E,sp vs H Q E->vs.length=ps.length)
  (G:∀(A:Around) (outer:List Env) (s:Shared) (H:Hp) (vs:List V) (Q:VK) (E:XK),RoomQ k (A.deeper (envOfC c a s.heap.objs.size f g))->A.handled=some hv->sp vs H Q E->
   ∃t,PSs (fS CX P w K M base N c a f g A outer s H E).rough j t/\t {nx:=λ_ m=>Q .non m,rt:=Q} (lL N vs) H) :
  FnOkH P w K M base CX hv (k+1) f (PySem.W.fnOf name c h j a dV kV U pm an g ct) ps sp:=by
 refine⟨len,λA outer s H args us vs Q E hr a2 i hb r O=>?_⟩;have hl:=len _ _ _ _ O;have KX:K.In s.heap:=i.mod.kin.keeps λb o e=>(i.bs b o e).1;have a1:s.heap.NoLimit:=i.mod.nolimit.keeps λb o e=>(i.bs b o e).1
 have C:∀y∈ps.zip us,a.names.lookup y.1=some .local\/(a.names.lookup y.1=some .cell/\((cellsFrom (s.heap.objs.size+1) a.names []).lookup y.1).isSome=true):=λ⟨n,v⟩ hy=>by
  rcases S.par n (List.of_mem_zip hy).1 with q |q
  ·exact .inl q
  ·exact .inr ⟨q,PySem.W.cellsFrom_some _ _ _ (.inl q)⟩
 refine codeAny_call_function (by have:=hr.dp;omega) (KX _ _ lk) Z S.co S.gen Z (PySem.W.codeRec_of KX a3) (hb _ _ _ _ ?_);refine wpAny_newFunctionEnv_cells S.kind C λenv he s1 x=>?_;subst he;refine⟨a1.keeps x.toInCall.keep,codeAny_func ?_⟩;obtain⟨t,ht,hq⟩:=G A outer s H vs Q E (hr.deeper _) a2 O;have l:Inv (fS CX P w K M base N c a f g {A with handled:=none} outer s H E) [] (lL N vs) H s1:=Nd S Z ⟨i.frames,i.mod,i.bs,i.bsz,i.funs,i.frf,i.hok,i.bare⟩ hl r x;have ok:=l.ok;have fr:(A.deeper (envOfC c a s.heap.objs.size f g)).frames=some (envOfC c a s.heap.objs.size f g::outer):=ok.frames
 have I:Inv (fS CX P w K M base N c a f g A outer s H E).rough [] (lL N vs) H s1:=
  ⟨⟨ok.mod,ok.kind,ok.glob,ok.blt,ok.above,ok.inj,ok.has,ok.cab,λz=>Bool.noConfusion z,fr,ok.stk,ok.exf,ok.bs,ok.bsz,ok.noex,ok.exfs,ok.funs,ok.frf⟩,l.os,l.bare,l.base,l.loc,l.cell,l.free,l.freeC,l.pin,l.hok,l.len⟩
 refine wpAny_mono (ht [] s1 (lL N vs) H _ I hq) (λfl s' hs=>?_) λe s' hs=>hs
 have fin:∀{Y:St} {m:Hp} {v:V} {u:Value},Inv (fS CX P w K M base N c a f g A outer s H E).rough [] Y m s'->RelV v u->Q v m->CE outer P w H s Q u s':=
  λ{Y m v u} J rv q=>⟨v,m,J.os,J.bare,J.base,J.hok,rv,q⟩
 cases fl with
 |ret u=>
  obtain⟨v,Y,m,J,rv,q⟩:=hs;exact fin J rv q
 |next=>
  obtain⟨Y,m,J,q⟩:=hs;exact fin (v:=V.non) (u:=Value.none) J Z q
 |brk=>
  obtain⟨_,_,_,q⟩:=hs;exact False.elim q
 |cont=>
  obtain⟨_,_,_,q⟩:=hs;exact False.elim q
structure DefH(P:Program)(w:World)(K:Fg)(mg:Str->Option Value)(base:Heap)(n:Nat)(x:Str)(ps:List Str)(sp:Value->Sp):Prop where
 ex:∃(f:Addr) (fd:FuncData),(∀hv,FnOkH P w K mg base CX0 hv n f fd ps (sp hv))/\Binds K fd ps []/\PySem.W.keepIn K (.ref f)=true/\mg x=some (.ref f)
theorem DefH.of {P:Program} {w:World} {K:Fg} {i:Str->Option Value} {base:Heap} {n:Nat} {x:Str} {ps N:List Str} {sp:Value->Sp} {st:Stmt} (T:DefTx K i x st ps) (S:FnScope N ps (bH st)) (len:∀c vs H Q E,sp c vs H Q E->vs.length=ps.length)
  (g:∀(c:Value) (f:Addr) (a:Value) (A:Around) (outer:List Env) (s:Shared) (H:Hp) (vs:List V) (Q:VK) (E:XK),RoomQ n (A.deeper (envOfC x (bH st) s.heap.objs.size f a))->A.handled=some c->sp c vs H Q E->
   ∃t,PSs (fS CX0 P w K i base N x (bH st) f a A outer s H E).rough.nox (nY st) t/\t {nx:=λ_ G=>Q .non G,rt:=Q} (lL N vs) H):DefH P w K i base (n+1) x ps sp:=by
 obtain⟨f,z,F,m,b⟩:=T.ex;refine⟨f,z,λc=>?_,Binds.all b,F.kp,m⟩;obtain⟨J,od,kV,C,I,M,a,ct,o,rfl,r,l⟩:=F.ex;refine Rk r l S (len c) λA outer s H vs Q E u y j=>?_;obtain⟨t,h,q⟩:=g c f a A outer s H vs Q E u y j;exact⟨t,h.nox,q⟩
section
variable {X:Cx}{n:Nat}{x:Str}{ps:List Str}{e:Expr}{es:List Expr}{p pos:Pos}{t:TA}
def Si(sp:Sp)(t:TA):TE:=λσ H Q=>t σ H λvs H1=>sp vs H1 Q λ_ _ _=>False
def Wa (D:DefH X.prog X.w X.K X.mg X.base n x ps sp) (z:RoomQ n X.A) (G:X.A.handled=some g) (O:PA X (e::es) t) (J:Gl X x:=by rfl) (l:(x == ("__debug__":Str))=false:=by decide)
  (M:starEach (e::es) X.env=(false,eval e X.env)::starEach es X.env:=by rfl) (j:(backTo pos (starEach es X.env)).any (·.1)=false:=by rfl):PE X (.Call (.Name x p) (e::es) [] pos) (Si (sp g) t):=by
 obtain⟨f,fd,F,b,k,m⟩:=D.ex;intro a s σ H Q I h;refine wpAny_Call_Name_kw (tR I J m ?_ l);refine PySem.W.callWith_K (h₀:=X.base) I.ok.mod.kin k (aU (O pos a s σ H _ I h) λus o ⟨vs,Y,i,r,q⟩=>⟨i.kIn,?_⟩) M j;have C:(us++[]).length=ps.length:=by rw[List.append_nil,<- r.length];exact(F g).len _ _ _ _ q
 have y:=b o us i.kIn C;rw[List.append_nil]at y;refine wpAny_call (codeAny_mono ((F g).run X.A X.stack o Y ⟨us,[]⟩ us vs Q _ z G i.env0 y r q) λr s' c=>?_)
 cases r with
 |error e=>exact False.elim c
 |ok U=>
  cases U with
  |ret u=>exact i.after c
  |next=>exact False.elim c
  |brk=>exact False.elim c
  |cont=>exact False.elim c
end
section
variable {X:Cx}
def V2(K:Fg)(C0:Addr)(i:Nat)(tb:XS->TS)(ts:Value->TS):TS:=λD σ H=>∃Es:XS,tb Es D σ H/\∀x C d c2 σ' H',Es (.ref x) d σ' H'->H' x=some (excF x C d c2)->
 XCl K C/\PySem.W.mroIn K C (.ref C0)=some true ∧
 ts (.ref x) {nx:=λσ2 H2=>D.nx (σ2.set i none) H2,rt:=D.rt,bk:=λσ2 H2=>D.bk (σ2.set i none) H2,ct:=λσ2 H2=>D.ct (σ2.set i none) H2} (σ'.set i (some (.ref x))) H'
def Y4 {l:List Stmt} {c:List Stmt} {tb:XS->TS} {ts:Value->TS} {n y:Str} {np j pos:Pos} (hs:X.stack=X.env::X.outer) (hf:X.env.frame=some X.env.locals) (hN:X.N.Nodup) (hi:X.N[i]?=some n)
  (U:X.env.scope.names.lookup n=some .local) (hm:X.mg y=some (.ref C0)) (M0:rW X.K C0 bmV "ValueError.__new__"=true) (hb:∀pn Es,PSs ((X.pnd pn).thr Es) l (tb Es)) (a5:∀e,PSs ((X.mkd e).nox) (b0::c) (ts e))
  (hg:Gl X y:=by rfl) (a6:(y == ("__debug__":Str))=false:=by decide):PS X (.Try l [.ExceptHandler (some (.Name y np)) (some n) (b0::c) j] [] [] pos) (V2 X.K C0 i tb ts):=by
 intro b s σ H D I h;obtain⟨Es,a7,hh⟩:=h;refine wpAny_Try_except ?_;refine wpAny_mono (hb (X.pn++b) Es [] s σ H D (I.pnd.wish _) a7) (λf O q=>?_) (λe O q=>?_)
 ·have q':SP X b D f O:=SP.unpnd I.ok q.unwish
  cases f with
  |next=>exact wpAny_execs_nil q'
  |brk=>exact q'
  |cont=>exact q'
  |ret u=>exact q'
 ·obtain⟨x,C,d,T,c2,fl,a4,σ',H',rfl,I1,hx,hT,t,qe⟩:=q
  have g:Inv X b σ' H' O:=I1.unpnd I.ok;have a1:∀m,T=some m->FpOk X b H' m:=λm z=>(hT m z).unpnd;obtain⟨M,Y,qs⟩:=hh x C d c2 σ' H' qe hx;have fr:X.A.frames=some (X.env::X.outer):=by rw[I.ok.frames,hs]
  have fn:O.heap.FunFrames X.base (X.env::X.outer):=by rw[<- hs];exact g.stack
  refine De (base:=X.base) fr fn hf t λh1 m a w t1=>?_;rw[<- hs]at a;have I2:=g.flight hx a1 a t1
  have a0:∀T2,some m=some T2->FpOk X b H' T2:=λT2 z=>by
   cases z;rcases w with z |z
   ·exact a1 m z
   ·exact g.fpOk z (g.hok.fresh z)
  refine Am (s:={O with heap:=h1}) (fs:=gL X.stack) (fr:=none) t1 λh2 a2 t2=>?_;have I3:=I2.flight hx a0 a2 t2;refine wpAny_handleBy_cons (codeAny_handlers_test ?_) (by intro q;cases q);refine tR (X:=X.mkd (.ref x)) (I3.mkd _) hg hm ?_ a6;obtain⟨vs,hz,he,_⟩:=id t2;refine Xa he (A9 I3.kIn M.obj) (A9 I3.kIn M0) I3.kIn Y ?_;refine codeAny_handlers_suite_as ?_;refine Am (s:={O with heap:=h2}) (fs:=gL X.stack) (fr:=none) t2 λh3 a3 t3=>?_;have I4:=I3.flight hx a0 a3 t3;refine Ds (X:=X.mkd (.ref x)) (I4.mkd _) hN hi (.inl U) (v:=.ref x) Z (λs5 I5=>?_) (.inr U);refine wpAny_mono (a5 (.ref x) b s5 _ H' _ (I5.wish _) qs) (λf s6 q6=>?_) (λ_ _ z=>False.elim z);have q7:=q6.unwish;show wpAny _ _ (do bindName X.env n .none;unbindBehindTheSuite X.env n j) (λ_ s3=>SP X b D f s3) _ s6
  cases f with
  |next=>obtain⟨σ2,J,G,q⟩:=q7;exact Ah (G.unmkd I.ok) hN hi U λs7 o=>⟨_,J,o,q⟩
  |brk=>obtain⟨σ2,J,G,q⟩:=q7;exact Ah (G.unmkd I.ok) hN hi U λs7 o=>⟨_,J,o,q⟩
  |cont=>obtain⟨σ2,J,G,q⟩:=q7;exact Ah (G.unmkd I.ok) hN hi U λs7 o=>⟨_,J,o,q⟩
  |ret u=>obtain⟨v,σ2,J,G,r,q⟩:=q7;exact Ah (G.unmkd I.ok) hN hi U λs7 o=>⟨v,_,J,o,r,q⟩
end
open PySem.W in
def Lq(K:Frag):Bool:=
 (List.range 10).all (λi=>Bm K (cAt K i)) && ((List.range 10).all (λi=>i == 0 || findIn K (.ref (cAt K i)) "__init__" == some (some (.builtin "ValueError.__init__"))) &&
 ((List.range 10).all (λi=>(List.range 10).all λj=>kitOne K (.ref (cAt K i)) (.ref (cAt K j)) == some (decide (i=j))) &&
 (List.range 10).all (λi=>kitOne K (.ref (cAt K i)) (.type "ValueError") == some true)))
structure XTabD(K:Fg):Prop where
 cl:∀i,i<10->XCl K (cAt K i)
 ini:∀i,i<10->i≠0->PySem.W.findIn K (.ref (cAt K i)) "__init__"=some (some (.builtin "ValueError.__init__"))
 kit:∀i j,i<10->j<10->PySem.W.kitOne K (.ref (cAt K i)) (.ref (cAt K j))=some (decide (i=j))
 kV:∀i,i<10->PySem.W.kitOne K (.ref (cAt K i)) (.type "ValueError")=some true
def xtabD_of{K:Fg}(e:Lq K=true):XTabD K:=by
 unfold Lq at e;simp only[Bool.and_eq_true,List.all_eq_true,List.mem_range,beq_iff_eq,Bool.or_eq_true]at e;obtain⟨g,f,c,b⟩:=e;exact⟨λi hi=>Sw (g i hi),λi hi h0=>(f i hi).resolve_left h0,λi j hi a=>c i hi j a,λi hi=>b i hi⟩
open PySem.W in
def Mj(K:Frag):Bool:=rW K (ad K "SwapError") bmV "ValueError.__new__" && (List.range 10).all (λi=>mroIn K (cAt K i) (.ref (ad K "SwapError")) == some true)
structure XTab2D(K:Fg):Prop where
 obj:rW K (ad K "SwapError") bmV "ValueError.__new__"=true
 mro:∀i,i<10->PySem.W.mroIn K (cAt K i) (.ref (ad K "SwapError"))=some true
def xtab2D_of{K:Fg}(e:Mj K=true):XTab2D K:=by
 unfold Mj at e;simp only[Bool.and_eq_true,List.all_eq_true,List.mem_range,beq_iff_eq]at e;exact⟨e.1,e.2⟩
end L2
end
section
namespace M
open PySem L2
def Fv(ks:List Kn)(z:Str):Prop:=(∃j,z=Fk j)\/∃k∈ks,∃p∈k.parts,p.1=z
def yE(ks:List Kn)(bs:List (Str×Str))(env:En):Prop:=(∀p∈bs,env p.1=some (.str p.2))/\∀z,Fv ks z->(∀q∈bs,q.1≠z)->env z=none
def TmK(ks:List Kn)(n:Nat)(bs:List (Str×Str))(d:D)(x:Str):Prop:=∀env,yE ks bs env->Kd True ks n env d x
def TmB(ks:List Kn)(n:Nat)(bs:List (Str×Str))(d:D)(x:Str):Prop:=lV ks n bs d x/\TmK ks n bs d x
def L0{d:D}(h:Bt env d x):Kd True ks n env d x:=by
 cases n with
 |zero=>exact h
 |succ n=>exact .inl h
def C4{bs:List (Str×Str)}(h:Nm i):TmB ks n bs (aO i) (S "num"):=⟨Tt h,λenv _=>L0 (.inl ⟨i,h,Z,Z⟩)⟩
def Tp{bs:List (Str×Str)}(h:(y,x)∈bs):TmB ks n bs (fB y) x:=⟨Ts h,λenv a=>L0 (.inr ⟨y,a.1 _ h,Z⟩)⟩
def Tq{bs:List (Str×Str)}{k:Kn}(b:bN ks x=some k)(a:k.rc=true)(c:k.parts.length<=1000)(h:All2 (λe (p:Str×Str)=>TmB ks n bs e p.2) es k.parts):TmB ks (n+1) bs (cI x es) x:=
 ⟨Tu b a c (h.imp λ_ _ h=>h.1),λenv f=>.inr (.inr (.inl ⟨es,k,b,a,h.imp λ_ _ h=>h.2 env f,Z⟩))⟩
def Vf{k:Kn}(nd:(k.parts.map (·.1)).Nodup)(b:p∈k.parts):gN k p.1=some p.2:=by
 unfold gN;obtain⟨i,hi,e⟩:=oJ b;have:=rS (f:=λr:Str×Str=>r.1) (xs:=k.parts) (i:=i) (a:=p) nd (by rw[<- e];exact cF hi);rw[this];rfl
def Tr(f:KWf ks){bs:List (Str×Str)}{k:Kn}(b:bN ks x=some k)(c:k.rc=false)(e:p∈k.parts)(h:TmB ks n bs a p.2):TmB ks (n+1) bs (iI x p.1 a) x:=
 ⟨Tv b c e h.1,λenv g=>.inr (.inr (.inr (.inr (.inl ⟨p.1,a,k,p.2,b,c,Vf (f.pnd k (mL b)) e,h.2 env g,Z⟩))))⟩
theorem NodeKd.mono{cs:Prop}{R n:mJ}(k:∀env d x,R env d x->n env d x){d:D}(h:NodeKd cs ks R env d x):NodeKd cs ks n env d x:=by
 rcases h with⟨s,a,b,e,g,r⟩ |⟨es,i,e,g,j,r⟩ |⟨a,l,f,i,e,r⟩ |⟨t,a,i,l,e,g,j,m,r⟩ |⟨u,a,rs,l,i,e,g,j,m,z,y,w,r⟩ |⟨a,b,c,e,g,j,r⟩
 ·exact .inl ⟨s,a,b,k _ _ _ e,k _ _ _ g,r⟩
 ·exact .inr (.inl ⟨es,i,e,g,j.imp λ_ _ h=>k _ _ _ h,r⟩)
 ·exact .inr (.inr (.inl ⟨a,l,f,i,k _ _ _ e,r⟩))
 ·exact .inr (.inr (.inr (.inl ⟨t,a,i,l,e,g,j,k _ _ _ m,r⟩)))
 ·refine .inr (.inr (.inr (.inr (.inl ⟨u,a,rs,l,i,k _ _ _ e,g,j,m,z,y,λr p=>?_,r⟩))))
  obtain⟨G,o,C,g3⟩:=w r p;exact⟨G,o,C,k _ _ _ g3⟩
 ·exact .inr (.inr (.inr (.inr (.inr ⟨a,b,c,k _ _ _ e,k _ _ _ g,k _ _ _ j,r⟩))))
theorem G8{cs:Prop}:∀(n:Nat) (env:En) (d:D) (x:Str),Kd cs ks n env d x->Kd cs ks (n+1) env d x
 |0,_,_,_,h=>.inl h
 |n+1,env,d,x,h=>by
  rcases h with h |h
  ·exact .inl h
  ·exact .inr (h.mono (G8 n))
def kd_le{cs:Prop}(l:n<=m){d:D}(h:Kd cs ks n env d x):Kd cs ks m env d x:=by
 obtain⟨k,rfl⟩:∃k,m=n+k:=⟨m-n,by omega⟩;clear l
 induction k with
 |zero=>exact h
 |succ k a=>exact G8 _ _ _ _ a
inductive Row where
 |set (x:Str) (t:D)
 |send (c:Str) (t:D)
 |take (l c x:Str)
 |tell (t:D)
 |go (g:Nat)
 |cond (t:D) (g:Nat)
 |fin
def Row.hd:Row->Str
 |.set _ _=>S "set"
 |.send _ _=>S "send"
 |.take _ _ _=>S "take"
 |.tell _=>S "tell"
 |.go _=>S "go"
 |.cond _ _=>S "if"
 |.fin=>S "end"
def Row.as:Row->List D
 |.set x t=>[.str x,t]
 |.send c t=>[.str c,t]
 |.take l c x=>[.str l,.str c,.str x]
 |.tell t=>[t]
 |.go g=>[.int g]
 |.cond t g=>[t,.int g]
 |.fin=>[]
def Row.d(r:Row):D:=.tup (.str r.hd::r.as)
abbrev cR:=Str×Str×Str×Str
def fK(c:cR):D:=.tup [.str c.1,.str c.2.1,.str c.2.2.1,.str c.2.2.2]
structure Hand where
 name:Str
 boxes:List (Str×Str)
 rows:List Row
def Hand.d(h:Hand):D:=.tup [.str h.name,lG h.boxes,.tup (h.rows.map Row.d)]
structure Mak where
 kinds:List Kn
 chans:List cR
 hands:List Hand
def Mak.d(m:Mak):D:=.tup [iO m.kinds,.tup (m.chans.map fK),.tup (m.hands.map Hand.d)]
def iD(m:Mak)(x:Str):Option Hand:=m.hands.find? λh=>decide (h.name=x)
def Row.ends:Row->Prop
 |.go _=>True
 |.fin=>True
 |_=>False
theorem Same.tups(s:Same H a):∀b vs,H b=some (.tup vs)->a b=some (.tup vs):=λb vs e=>s b _ e
def nP(h:x=y):decide (V.str x=V.str y)=true:=cS (congrArg V.str h)
def sI(h:x≠y):decide (V.str x=V.str y)=false:=cW λz=>h (V.str.inj z)
def B5{r:Row}(h:∀g,r≠.go g):r.hd≠S "go":=by cases r <;> first |exact absurd Z (h _) |(show S _≠S _;decide +kernel)
def Gh{r:Row}(h:∀t g,r≠.cond t g):r.hd≠S "if":=by cases r <;> first |exact absurd Z (h _ _) |(show S _≠S _;decide +kernel)
def Ro{r:Row}(h:r≠.fin):r.hd≠S "end":=by cases r <;> first |exact absurd Z h |(show S _≠S _;decide +kernel)
def Tw{r:Row}(h:∀l c x,r≠.take l c x):r.hd≠S "take":=by cases r <;> first |exact absurd Z (h _ _ _) |(show S _≠S _;decide +kernel)
def gS(x:Str):Prop:=x≠S "far"/\x≠S "mark"
def Rg(h:(l[0]?≠some 102/\l[0]?≠some 109)\/l[1]?≠some 97):gS (eQ l):=by
 refine⟨λe=>?_,λe=>?_⟩
 ·have:=congrArg L e
  rw[lY,show L (S "far")=[102,97,114] by walk_at"k"]at this;subst this;simp at h
 ·have:=congrArg L e
  rw[lY,show L (S "mark")=[109,97,114,107] by walk_at"k"]at this;subst this;simp at h
def Cm(h:c∈dR):c≠102/\c≠109/\c≠97:=by
 revert h;unfold dR;simp;omega
def Hu{cs:List Nat}(h:∀c∈cs,c∈dR)(a:Nat)(b:Int)(k:Nat)(t:List Nat)(i:∀c∈t,c∈dR):gS (eQ (iB cs a b k++t)):=by
 apply Rg;unfold iB
 cases g:cs.take a with
 |nil=>
  right;rw[List.nil_append,List.cons_append,List.getElem?_cons_succ];intro e;have f:=cJ e;rcases dD f with f |f
  ·exact(Cm (h _ (List.mem_of_mem_drop f))).2.2 Z
  ·exact(Cm (i _ f)).2.2 Z
 |cons c r=>
  left;have:c∈cs.take a:=by rw[g];simp
  have:=Cm (h c (qW this));refine⟨λe=>?_,λe=>?_⟩ <;> simp at e
  ·exact this.1 e
  ·exact this.2.1 e
def Ua{cs:List Nat}(e:∀c∈cs,c∈dR):∀z∈((List.range 26).map λk=>eQ (iB cs a b k)),gS z:=λz hz=>by
 obtain⟨k,_,rfl⟩:=fV hz;have:=Hu e a b k [] (λ_ h=>nomatch h);rw[List.append_nil]at this;exact this
def Uc{cs:List Nat}(f:∀c∈cs,c∈dR):∀z∈((List.range 26).map λk=>eQ (lQ cs a b k)),gS z:=λz hz=>by
 obtain⟨k,_,rfl⟩:=fV hz;unfold lQ;exact Hu f a b _ _ λc e=>by rw[List.eq_of_mem_replicate e];decide
structure NmsR(nms:List Str):Prop where
 len:nms.length=26
 n0:(nms.take 8).Nodup
 n8:((nms.drop 8).take 4).Nodup
 n12:((nms.drop 12).take 6).Nodup
 n18:(nms.drop 18).Nodup
 nm:∀z∈nms,Name z
theorem NmsR.of(h:iM a):NmsR a:=⟨h.1,h.2.1.sublist (List.take_sublist _ _),h.2.1.sublist ((List.take_sublist _ _).trans (List.drop_sublist _ _)),h.2.1.sublist ((List.take_sublist _ _).trans (List.drop_sublist _ _)),h.2.1.sublist (List.drop_sublist _ _),h.2.2⟩
def NmsR.at0(h:NmsR a)(hi:i<8)(g:j<8)(c:a[i]?=some z)(b:a[j]?=some z):i=j:=by
 have n:=h.len;have m:(a.take 8)[i]?=some z:=by rw[List.getElem?_take,if_pos hi];exact c
 have l:(a.take 8)[j]?=some z:=by rw[List.getElem?_take,if_pos g];exact b
 obtain⟨f,c⟩:=cV m;obtain⟨e,b⟩:=cV l;exact(List.getElem_inj (h₀:=f) (h₁:=e) h.n0).mp (c.trans b.symm)
def NmsR.at18(h:NmsR a)(hi:18<=i)(m:18<=j)(c:a[i]?=some z)(b:a[j]?=some z):i=j:=by
 have l:(a.drop 18)[i-18]?=some z:=by rw[List.getElem?_drop,show 18+(i-18)=i by omega];exact c
 have g:(a.drop 18)[j-18]?=some z:=by rw[List.getElem?_drop,show 18+(j-18)=j by omega];exact b
 obtain⟨f,c⟩:=cV l;obtain⟨e,b⟩:=cV g;have:=(List.getElem_inj (h₀:=f) (h₁:=e) h.n18).mp (c.trans b.symm);omega
def Sr(h:NmsR a)(i:Nat):(((a.drop 8).take 4).take i).Nodup/\∀z∈((a.drop 8).take 4).take i,Name z:=by
 have hs:(((a.drop 8).take 4).take i).Sublist a:=((List.take_sublist _ _).trans (List.take_sublist _ _)).trans (List.drop_sublist _ _);exact⟨h.n8.sublist (List.take_sublist _ _),λz hz=>h.nm z (hs.subset hz)⟩
def NmsR.ahead(h:NmsR a)(hi:i<8)(c:i<a.length):a[i] ∉a.take i:=λb=>by
 obtain⟨j,f,e⟩:=oJ b;rw[List.length_take]at f;rw[List.getElem_take]at e;have:=h.at0 (i:=j) (j:=i) (by omega) hi (List.getElem?_eq_some_iff.mpr ⟨by omega,e⟩) (cF c);omega
theorem oD(nd:(ks.map Kn.name).Nodup){k:Kn}(b:k∈ks):bN ks k.name=some k:=by
 obtain⟨i,hi,e⟩:=oJ b;exact rS (f:=Kn.name) (xs:=ks) (i:=i) (a:=k) nd (by rw[<- e];exact cF hi)
theorem yR(a:KWf ks){bs:List (Str×Str)}:∀(m:Nat) (x:Str),KIn ks m x->TmB ks m bs (cH (m+1) ks x) x
 |0,x,h=>by
  rcases h.nu a with⟨rfl,_,e,_⟩ |⟨j,k,e,_⟩
  ·rw[e];exact C4 ⟨aA Z,aA Z⟩
  ·cases e
 | m+1,x,h=>by
  rcases h.nu a with⟨rfl,_,e,_⟩ |⟨j,k,o,l,hn,s,i,_,⟨c,e,_⟩ |⟨c,p,r,n,e,_⟩⟩
  ·rw[e];exact C4 ⟨aA Z,aA Z⟩
  ·cases o
   rw[e];refine Tq l c (by have:=a.pts k s;omega) ?_;have:=D5 (R:=λe (p:Str×Str)=>TmB ks m bs e p.2) (f:=λp:Str×Str=>cH (m+1) ks p.2) (g:=λp=>p) (xs:=k.parts) λp b=>yR a m p.2 (i p b);rw[List.map_id']at this;exact this
  ·cases o
   rw[e];exact Tr a l c (by rw[n];simp) (yR a m p.2 (i p (by rw[n];simp)))
theorem Ji:∀(n:Nat) (env:En) (d v:D),rA ks n env d v->rA ks (n+1) env d v
 |0,_,_,_,h=>.inl h
 |n+1,env,d,v,h=>by
  rcases h with h |⟨h,g⟩
  ·exact .inl h
  ·exact .inr ⟨h.mono (Ji n),g⟩
def Uo(l:n<=m){d v:D}(h:rA ks n env d v):rA ks m env d v:=by
 obtain⟨k,rfl⟩:∃k,m=n+k:=⟨m-n,by omega⟩;clear l
 induction k with
 |zero=>exact h
 |succ k a=>exact Ji _ _ _ _ a
theorem TmB.up{bs:List (Str×Str)}{d:D}(h:TmB ks n bs d x)(l:n<=m):TmB ks m bs d x:=⟨λenv a=>by
 obtain⟨v,c,b⟩:=h.1 env a;exact⟨v,Uo l c,b⟩,λenv a=>kd_le l (h.2 env a)⟩
abbrev iS:=Except Nat Str
abbrev lX:=En->D->iS->Prop
def nk(k:Str):iS->Option Nat
 |.ok k'=>if k'=k then none else some 4
 |.error c=>some c
def fin(o:Option Nat)(k:Str):iS:=match o with
 |some c=>.error c
 |none=>.ok k
def zO(env:En)(d:D)(r:iS):Prop:=
 (∃i:Int,d=aO i/\0<=i/\i<10 ^ 18/\r=if i<4294967296 then .ok (S "num") else .error 4) ∨
 ∃x:Str,d=fB x/\((∃k,env x=some (.str k)/\r=.ok k)\/(env x=none/\x.length<=100/\r=.error 2))
def sO(R:lX):lX:=λenv d r=>∃s a b ra,d=iZ s a b/\R env a ra/\((∃c,nk (S "num") ra=some c/\r=.error c)\/(nk (S "num") ra=none/\∃rb,R env b rb/\r=fin (nk (S "num") rb) (S "num")))
def sW(R:lX):lX:=λenv d r=>∃a b c ra,d=pG a b c/\R env a ra/\((∃e,nk (S "num") ra=some e/\r=.error e)\/(nk (S "num") ra=none/\∃rb,R env b rb/\((∃e,rb=.error e/\r=.error e)\/∃k rc,rb=.ok k/\R env c rc/\r=fin (nk k rc) k)))
def mS(ks:List Kn)(x so:Str):Option Nat:=match bN ks x with
 |none=>some 2
 |some kn=>if kn.sort=so then none else some 4
def nN(ks:List Kn)(so:Str):iS->iS
 |.error c=>.error c
 |.ok k=>match bN ks k with
  |none=>.error 4
  |some kn=>if kn.sort=so then .ok k else .error 4
def nS(kn:Kn)(f:Str):iS:=match gN kn f with
 |some k=>.ok k
 |none=>.error 2
def AllN(R:D->iS->Prop):List D->List (Str×Str)->Option Nat->Prop
 |[],[],o=>o=none
 |e::es,p::ps,o=>∃re,R e re/\((∃c,nk p.2 re=some c/\o=some c)\/(nk p.2 re=none/\AllN R es ps o))
 |_,_,_=>False
def B3(ks:List Kn)(R:lX):lX:=λenv d r=>∃x es,d=cI x es/\((∃c,mS ks x (S "rec")=some c/\x.length<=100/\r=.error c)\/(mS ks x (S "rec")=none/\∃kn,bN ks x=some kn ∧
 ((es.length≠kn.parts.length/\r=.error 3)\/(es.length=kn.parts.length/\∃o,AllN (R env) es kn.parts o/\r=fin o x))))
def B2(ks:List Kn)(R:lX):lX:=λenv d r=>∃a f ra,d=eR a f/\R env a ra/\((∃c,nN ks (S "rec") ra=.error c/\r=.error c)\/∃k kn,nN ks (S "rec") ra=.ok k/\bN ks k=some kn/\r=nS kn f/\(gN kn f=none->f.length<=100))
def B4(ks:List Kn)(R:lX):lX:=λenv d r=>∃x t a,d=iI x t a/\((∃c,mS ks x (S "alt")=some c/\x.length<=100/\r=.error c)\/(mS ks x (S "alt")=none/\∃kn,bN ks x=some kn ∧
 ((gN kn t=none/\t.length<=100/\r=.error 2)\/∃k1 ra,gN kn t=some k1/\R env a ra/\r=fin (nk k1 ra) x)))
abbrev fZ:=Str×Str×D
def lM(kn:Kn)(rs:List fZ):Option Nat:=
 if ¬(∀r∈rs,r.1∈kn.parts.map (·.1)) then some 2 else if ¬(rs.map (·.1)).Nodup then some 1 else if rs.length<kn.parts.length then some 5 else none
def ArmR(kn:Kn)(R:lX)(env:En)(r:fZ)(q:iS):Prop:=(env r.2.1≠none/\r.2.1.length<=100/\q=.error 1)\/(env r.2.1=none/\((gN kn r.1=none/\r.1.length<=100/\q=.error 2)\/∃k2,gN kn r.1=some k2/\R (env.put r.2.1 (.str k2)) r.2.2 q))
def ArmsN(A:fZ->iS->Prop)(k:Str):List fZ->Option Nat->Prop
 |[],o=>o=none
 |r::rs,o=>∃q,A r q/\((∃c,nk k q=some c/\o=some c)\/(nk k q=none/\ArmsN A k rs o))
def Bn(ks:List Kn)(R:lX):lX:=λenv d r=>∃a rs ra,d=mN a rs/\rs.length<=1000/\R env a ra/\((∃c,nN ks (S "alt") ra=.error c/\r=.error c)\/∃k1 kn,nN ks (S "alt") ra=.ok k1/\bN ks k1=some kn ∧
 ((∃c,lM kn rs=some c/\(∀z∈rs,z.1.length<=100)/\r=.error c)\/(lM kn rs=none/\∃r0 rest q0,rs=r0::rest/\ArmR kn R env r0 q0/\((∃c,q0=.error c/\r=.error c)\/∃k o,q0=.ok k/\ArmsN (ArmR kn R env) k rest o/\r=fin o k))))
def NodeKt(ks:List Kn)(R:lX):lX:=λenv d r=>sO R env d r\/B3 ks R env d r\/B2 ks R env d r\/B4 ks R env d r\/Bn ks R env d r\/sW R env d r
def Kt(ks:List Kn):Nat->lX
 |0=>zO
 |n+1=>λenv d r=>zO env d r\/NodeKt ks (Kt ks n) env d r
def qZ(ks:List Kn):Prop:=∀k∈ks,k.name.length<=100/\∀p∈k.parts,p.1.length<=100/\p.2.length<=100
def EnvL(env:En):Prop:=∀x k,env x=some (.str k)->k.length<=100
def sN(r:iS):Prop:=∀k,r=.ok k->k.length<=100
theorem EnvL.put{y k:Str}(h:EnvL env)(a:k.length<=100):EnvL (env.put y (.str k)):=λx k' e=>by
 unfold En.put at e;split at e
 ·cases e;exact a
 ·exact h x k' e
def rH:(S "num").length<=100:=by walk_at"k"
def wO{k:Str}(h:k.length<=100):sN (fin o k):=λk' e=>by
 cases o with
 |none=>cases e;exact h
 |some c=>cases e
def rN(h:qZ ks)(b:bN ks x=some a):x.length<=100/\∀p∈a.parts,p.1.length<=100/\p.2.length<=100:=by
 have e:=mL b
 have c:a.name=x:=by
  have:=zX b;exact qE this
 rw[<- c];exact h a e
def tW(h:qZ ks)(g:bN ks x=some b)(e:gN b f=some c):c.length<=100:=by
 unfold gN at e;obtain⟨p,a,rfl⟩:=dH e;exact((rN h g).2 p (mL a)).2
theorem wA(j:qZ ks):∀(n:Nat) (env:En) (d:D) (r:iS),EnvL env->Kt ks n env d r->sN r
 | 0,env,d,r,l,h=>by
  rcases h with⟨i,_,_,_,rfl⟩ |⟨x,_,⟨k,e,rfl⟩ |⟨_,_,rfl⟩⟩
  ·intro k e;split at e
   ·cases e;exact rH
   ·cases e
  ·intro k' J;cases J;exact l _ _ e
  ·intro k e;cases e
 | n+1,env,d,r,l,h=>by
  rcases h with h |⟨s,a,b,m,_,_,⟨c,_,rfl⟩ |⟨_,z,_,rfl⟩⟩ |⟨x,es,_,⟨c,_,_,rfl⟩ |⟨_,p,g,⟨_,rfl⟩ |⟨_,o,_,rfl⟩⟩⟩ |⟨a,f,m,_,w,⟨c,_,rfl⟩ |⟨k,p,_,g,rfl,_⟩⟩ |⟨x,t,a,_,⟨c,_,_,rfl⟩ |⟨_,p,g,⟨_,_,rfl⟩ |⟨C,m,_,_,rfl⟩⟩⟩ |⟨a,rs,m,_,_,w,⟨c,_,rfl⟩ |⟨C,p,_,g,⟨c,_,_,rfl⟩ |⟨_,O,rest,U,_,I,⟨c,_,rfl⟩ |⟨k,o,rfl,_,rfl⟩⟩⟩⟩ |⟨a,b,c,m,_,_,⟨e,_,rfl⟩ |⟨_,z,u,⟨e,_,rfl⟩ |⟨k,M,rfl,_,rfl⟩⟩⟩
  ·exact wA j 0 env d r l h
  ·intro k e;cases e
  ·exact wO rH
  ·intro k e;cases e
  ·intro k e;cases e
  ·exact wO (rN j g).1
  ·intro k e;cases e
  ·intro k' e
   unfold nS at e;split at e
   ·rename_i y;cases e;exact tW j g y
   ·cases e
  ·intro k e;cases e
  ·intro k e;cases e
  ·exact wO (rN j g).1
  ·intro k e;cases e
  ·intro k e;cases e
  ·intro k e;cases e
  ·refine wO ?_
   rcases I with⟨_,_,e⟩ |⟨_,⟨_,_,e⟩ |⟨Y,y,G⟩⟩
   ·cases e
   ·cases e
   ·exact wA j n _ _ _ (l.put (tW j g y)) G k Z
  ·intro k e;cases e
  ·intro k e;cases e
  ·exact wO (wA j n _ _ _ l u k Z)
theorem nk_ok{k:Str}:nk k (.ok k)=none:=if_pos Z
def yU{k k':Str}(h:k'≠k):nk k (.ok k')=some 4:=if_neg h
def xH{a:Kn}(h:a.rc=true):a.sort=S "rec":=by unfold Kn.sort;rw[if_pos h]
theorem tY{a:Kn}(h:a.rc=false):a.sort=S "alt":=by unfold Kn.sort;rw[if_neg (by rw[h];decide)]
def tX(h:bN ks x=some b)(hs:b.sort=a):mS ks x a=none:=by unfold mS;rw[h];simp only;rw[if_pos hs]
def Md(h:bN ks x=some b)(hs:b.sort≠a):mS ks x a=some 4:=by unfold mS;rw[h];simp only;rw[if_neg hs]
def E2(h:bN ks x=none):mS ks x a=some 2:=by unfold mS;rw[h]
def tN(h:bN ks x=some b)(hs:b.sort=a):nN ks a (.ok x)=.ok x:=by unfold nN;simp only;rw[h];simp only;rw[if_pos hs]
def Ra(h:bN ks x=some b)(hs:b.sort≠a):nN ks a (.ok x)=.error 4:=by unfold nN;simp only;rw[h];simp only;rw[if_neg hs]
def W5(h:bN ks x=none):nN ks a (.ok x)=.error 4:=by unfold nN;simp only;rw[h]
def Wp(c:∀r∈rs,r.1∈a.parts.map (·.1))(b:(rs.map (·.1)).Nodup)(e:rs.length=a.parts.length):lM a rs=none:=by
 unfold lM;rw[if_neg (λz=>z c),if_neg (λz=>z b),if_neg (by omega)]
theorem Fx:∀{es:List D} {ps:List (Str×Str)},All2 (λe (p:Str×Str)=>R e (.ok p.2)) es ps->AllN R es ps none
 |_,_,.nil=>Z
 |_,_,.cons h t=>⟨_,h,.inr ⟨nk_ok,Fx t⟩⟩
theorem Hf{k:Str}:∀{rs:List fZ},(∀r∈rs,A r (.ok k))->ArmsN A k rs none
 |[],_=>Z
 |r::rs,h=>⟨_,h r (by simp),.inr ⟨nk_ok,Hf λr a=>h r (by simp[a])⟩⟩
def Vg(h:gN a f=some c):f∈a.parts.map (·.1):=by
 unfold gN at h;obtain⟨p,b,_⟩:=dH h;have e:=zX b;rw[<- qE e];exact qP (mL b)
theorem tV(h:gN a f=some b):nS a f=.ok b:=by unfold nS;rw[h]
def fin_ok{k a:Str}:fin (nk k (.ok k)) a=.ok a:=by rw[nk_ok];rfl
theorem vW(G:∀k∈ks,k.parts.length<=100):∀(n:Nat) (env:En) (d:D) (x:Str),Kd True ks n env d x->Kt ks n env d (.ok x)
 |0,env,d,x,h=>by
  rcases h with⟨i,hi,rfl,rfl⟩ |⟨y,O,rfl⟩
  ·exact .inl ⟨i,Z,hi.1,by have:=hi.2;omega,by rw[if_pos hi.2]⟩
  ·exact .inr ⟨y,Z,.inl ⟨x,O,Z⟩⟩
 | n+1,env,d,x,h=>by
  have l:=vW G n;rcases h with h |⟨s,a,b,j,g,rfl,rfl⟩ |⟨es,o,j,g,m,rfl⟩ |⟨a,u,f,o,j,g,m,p,rfl⟩ |⟨t,a,o,u,j,g,m,p,rfl⟩ |⟨_,a,rs,u,o,j,g,m,p,h5,Y,M,rfl⟩ |⟨a,b,c,j,g,m,rfl⟩
  ·exact .inl (vW G 0 env d x h)
  ·exact .inr (.inl ⟨s,a,b,_,Z,l _ _ _ j,.inr ⟨nk_ok,_,l _ _ _ g,fin_ok.symm⟩⟩)
  ·exact .inr (.inr (.inl ⟨x,es,Z,.inr ⟨tX j (xH g),o,j,.inr ⟨m.length,none,Fx (m.imp λ_ _ h=>l _ _ _ h),Z⟩⟩⟩))
  ·exact .inr (.inr (.inr (.inl ⟨a,f,_,Z,l _ _ _ j,.inr ⟨u,o,tN g (xH m),g,(tV p).symm,λe=>by rw[p]at e;cases e⟩⟩)))
  ·exact .inr (.inr (.inr (.inr (.inl ⟨x,t,a,Z,.inr ⟨tX j (tY g),o,j,.inr ⟨u,_,m,l _ _ _ p,fin_ok.symm⟩⟩⟩))))
  ·have z:∀r∈rs,ArmR o (Kt ks n) env r (.ok x):=λr w=>by
    obtain⟨g1,J,I,g3⟩:=M r w;exact .inr ⟨g1,.inr ⟨J,I,l _ _ _ g3⟩⟩
   have U:rs.length<=1000:=by
    have:=G o (mL g);omega
   cases rs with
   |nil=>exact absurd Z p
   |cons C rest=>
    refine .inr (.inr (.inr (.inr (.inr (.inl ⟨a,C::rest,_,Z,U,l _ _ _ j,.inr ⟨u,o,tN g (tY m),g,.inr ⟨Wp (λr w=>?_) Y h5,C,rest,_,Z,z C (by simp),.inr ⟨x,none,Z,Hf λr w=>z r (by simp[w]),Z⟩⟩⟩⟩)))));obtain⟨_,J,I,_⟩:=M r w;exact Vg I
  ·exact .inr (.inr (.inr (.inr (.inr (.inr ⟨a,b,c,_,Z,l _ _ _ j,.inr ⟨nk_ok,_,l _ _ _ g,.inr ⟨x,_,Z,l _ _ _ m,fin_ok.symm⟩⟩⟩)))))
def Sh(s:Str):Prop:=s.length<=10/\∀c∈s.cps.toList,c<16 ^ 8
def yB(bs:List (Str×Str))(d:D)(c:Int):Prop:=(∃i,Nm i/\d=aO i/\1<=c)\/∃x,(∃k,(x,k)∈bs)/\d=fB x/\1<=c
def NdZ(R:List (Str×Str)->D->Int->Prop)(bs:List (Str×Str))(d:D)(c:Int):Prop:=
 (∃s a b c1 c2,R bs a c1/\R bs b c2/\c1+c2+1<=c/\Sh s/\d=iZ s a b) ∨
 (∃k es cs,All2 (R bs) es cs/\cs.sum+1<=c/\Sh k/\d=cI k es) ∨
 (∃a f c',R bs a c'/\c'+1<=c/\Sh f/\d=eR a f) ∨
 (∃k t a c',R bs a c'/\c'+1<=c/\Sh k/\Sh t/\d=iI k t a) ∨
 (∃a rs c0 e,R bs a c0/\(∀r∈rs,Sh r.1/\Sh r.2.1/\∃k,R (bs++[(r.2.1,k)]) r.2.2 e)/\0<=e/\c0+(rs.length:Int)*e+1<=c/\d=mN a rs) ∨
 (∃a b e c1 c2 c3,R bs a c1/\R bs b c2/\R bs e c3/\c1+c2+c3+1<=c/\d=pG a b e)
def Tz:Nat->List (Str×Str)->D->Int->Prop
 |0=>yB
 |n+1=>λbs d c=>yB bs d c\/NdZ (Tz n) bs d c
theorem NdZ.mono(k:∀bs d c,R bs d c->p bs d c){bs:List (Str×Str)}{d:D}(h:NdZ R bs d c):NdZ p bs d c:=by
 rcases h with⟨s,a,b,n,m,g,l,r⟩ |⟨j,es,cs,g,r⟩ |⟨a,f,o,g,r⟩ |⟨j,t,a,o,g,r⟩ |⟨a,rs,I,e,g,l,r⟩ |⟨a,b,e,n,m,G,g,l,C,r⟩
 ·exact .inl ⟨s,a,b,n,m,k _ _ _ g,k _ _ _ l,r⟩
 ·exact .inr (.inl ⟨j,es,cs,g.imp (k bs),r⟩)
 ·exact .inr (.inr (.inl ⟨a,f,o,k _ _ _ g,r⟩))
 ·exact .inr (.inr (.inr (.inl ⟨j,t,a,o,k _ _ _ g,r⟩)))
 ·exact .inr (.inr (.inr (.inr (.inl ⟨a,rs,I,e,k _ _ _ g,(λy z=>by obtain⟨x,w,j,u⟩:=l y z;exact⟨x,w,j,k _ _ _ u⟩),r⟩))))
 ·exact .inr (.inr (.inr (.inr (.inr ⟨a,b,e,n,m,G,k _ _ _ g,k _ _ _ l,k _ _ _ C,r⟩))))
theorem Gy:∀(n:Nat) (bs:List (Str×Str)) (d:D) (c:Int),Tz n bs d c->Tz (n+1) bs d c
 |0,_,_,_,h=>.inl h
 |n+1,bs,d,c,h=>by
  rcases h with h |h
  ·exact .inl h
  ·exact .inr (h.mono (Gy n))
def Pq(l:n<=m){bs:List (Str×Str)}{d:D}(h:Tz n bs d c):Tz m bs d c:=by
 obtain⟨k,rfl⟩:∃k,m=n+k:=⟨m-n,by omega⟩;clear l
 induction k with
 |zero=>exact h
 |succ k a=>exact Gy _ _ _ _ a
def Jp{bs:List (Str×Str)}{d:D}(l:c<=a)(h:yB bs d c):yB bs d a:=by
 rcases h with⟨i,hi,e,h⟩ |⟨x,b,e,h⟩
 ·exact .inl ⟨i,hi,e,by omega⟩
 ·exact .inr ⟨x,b,e,by omega⟩
theorem Vr:∀(n:Nat) (bs:List (Str×Str)) (d:D) (c w:Int),c<=w->Tz n bs d c->Tz n bs d w
 |0,_,_,_,_,l,h=>Jp l h
 | n+1,bs,d,c,w,l,h=>by
  rcases h with h |h
  ·exact .inl (Jp l h)
  ·refine .inr ?_
   rcases h with⟨s,a,b,m,u,g,j,o,r⟩ |⟨p,es,cs,g,j,r⟩ |⟨a,f,m,g,j,r⟩ |⟨p,t,a,m,g,j,r⟩ |⟨a,rs,z,e,g,j,o,x,r⟩ |⟨a,b,e,m,u,y,g,j,o,x,r⟩
   ·exact .inl ⟨s,a,b,m,u,g,j,by omega,r⟩
   ·exact .inr (.inl ⟨p,es,cs,g,by omega,r⟩)
   ·exact .inr (.inr (.inl ⟨a,f,m,g,by omega,r⟩))
   ·exact .inr (.inr (.inr (.inl ⟨p,t,a,m,g,by omega,r⟩)))
   ·exact .inr (.inr (.inr (.inr (.inl ⟨a,rs,z,e,g,j,o,by omega,r⟩))))
   ·exact .inr (.inr (.inr (.inr (.inr ⟨a,b,e,m,u,y,g,j,o,by omega,r⟩))))
def iR(h:Name x):Sh x:=by
 have:=Name.le h;rw[Array.length_toList]at this;refine⟨qC this (aA Z),λc b=>?_⟩;have a:=Name.letters h c b;unfold rV at a
 have e:c<=122:=by
  simp only[Bool.and_eq_true,decide_eq_true_eq]at a;exact a.2
 exact zW e (aA Z)
theorem Gn(a:KWf ks){k:Kn}(h:bN ks x=some k):Sh x:=by
 have b:k.name=x:=by
  have:=zX h;exact qE this
 rw[<- b];exact iR (a.nm k (mL h))
theorem V3(a:KWf ks){k:Kn}(h:k∈ks)(b:p∈k.parts):Sh p.1:=iR (a.pnm k h p b)
def Ca{bs:List (Str×Str)}{i c:Int}(hi:Nm i)(h:1<=c):Tz n bs (aO i) c:=by
 cases n with
 |zero=>exact .inl ⟨i,hi,Z,h⟩
 |succ n=>exact .inl (.inl ⟨i,hi,Z,h⟩)
def Sv{bs:List (Str×Str)}{x k:Str}(a:(x,k)∈bs)(h:1<=c):Tz n bs (fB x) c:=by
 cases n with
 |zero=>exact .inr ⟨x,⟨k,a⟩,Z,h⟩
 |succ n=>exact .inl (.inr ⟨x,⟨k,a⟩,Z,h⟩)
def bM(bs:List (Str×Str)):En:=λy=>(bs.find? λb=>decide (b.1=y)).map λb=>D.str b.2
theorem wN{bs:List (Str×Str)}(nd:(bs.map (·.1)).Nodup)(a:p∈bs):bM bs p.1=some (.str p.2):=by
 unfold bM
 cases e:bs.find? λb=>decide (b.1=p.1) with
 |none=>exact absurd (cS Z) (List.find?_eq_none.mp e p a)
 | some q=>
  have l:=qE (zX (p:=λb:Str×Str=>decide (b.1=p.1)) e);have h:=mL e
  have:q=p:=by
   obtain⟨i,hi,f⟩:=oJ h;obtain⟨j,g,c⟩:=oJ a;have:=(List.getElem_inj (h₀:=by rw[aM];exact hi) (h₁:=by rw[aM];exact g) nd).mp (by rw[List.getElem_map,List.getElem_map,f,c];exact l);subst this;rw[<- f,<- c]
  rw[this];rfl
def Lu{bs:List (Str×Str)}(h:∀q∈bs,q.1≠z):bM bs z=none:=by
 unfold bM;rw[List.find?_eq_none.mpr λq a=>by rw[cW (h q a)];decide];rfl
def Ac{bs:List (Str×Str)}(nd:(bs.map (·.1)).Nodup):yE ks bs (bM bs):=⟨λp a=>wN nd a,λz _ h=>Lu h⟩
theorem Iy:∀(n:Nat) (x:Str),lO n ks x<=dZ n ks x
 |0,_=>Int.le_refl _
 | n + 1,x=>by
  have c:=Iy (ks:=ks) n;unfold lO dZ
  cases bN ks x with
  |none=>exact Int.le_refl _
  | some k=>
   have e:rY (lO n ks) k<=(if k.rc=true then (k.parts.map λp=>dZ n ks p.2).sum else dP (k.parts.map λp=>dZ n ks p.2)):=by
    unfold rY;by_cases b:k.rc=true
    ·rw[if_pos b,if_pos b]
     have:∀l:List (Str×Str),(l.map λp=>lO n ks p.2).sum<=(l.map λp=>dZ n ks p.2).sum:=by
      intro l
      induction l with
      |nil=>exact Int.le_refl _
      |cons a l f=>
       have:=c a.2;rw[List.map_cons,List.map_cons,List.sum_cons,List.sum_cons];omega
     exact this _
    ·rw[if_neg b,if_neg b]
     cases k.parts with
     |nil=>exact Int.le_refl _
     |cons p r=>
      rw[List.map_cons];exact Int.le_trans (c p.2) (A5 (List.mem_cons_self ..))
   show 1+_<=1+_;omega
def Sf(a:KWf ks)(f:Fit ks)(h:KIn ks 6 x):Ol ks x<=30:=by
 have g:Ol ks x<=sz ks x:=Iy 7 x;rcases h.look a with⟨rfl,_⟩ |⟨j,k,e,c,hn,b,l⟩
 ·rw[zV a]at g
  omega
 ·have:=f k b
  rw[hn]at this;omega
def nE(ks:List Kn)(bs:List (Str×Str))(t:D)(k:Str):Prop:=Kd True ks 21 (bM bs) t k/\Tz 21 bs t 40
def cU:Row->Option Str
 |.take l _ _=>some l
 |_=>none
def fY(ks:List Kn)(cs:List cR)(h:Str)(bs:List (Str×Str))(n:Nat):Row->Prop
 |.set x t=>∃k,(x,k)∈bs/\nE ks bs t k
 |.send c t=>∃ch∈cs,ch.1=c/\ch.2.1=h/\nE ks bs t ch.2.2.2
 |.take l c x=>Sh l/\∃ch∈cs,ch.1=c/\ch.2.2.1=h/\(x,ch.2.2.2)∈bs
 |.tell t=>nE ks bs t (S "num")
 |.go g=>g<n
 |.cond t g=>nE ks bs t (S "num")/\g<n
 |.fin=>True
structure RowsG(ks:List Kn)(cs:List cR)(x:Str)(bs:List (Str×Str))(rs:List Row):Prop where
 len:rs.length<=24
 ok:∀r∈rs,fY ks cs x bs rs.length r
 last:∃r,rs.getLast?=some r/\r.ends
 nd:(rs.filterMap cU).Nodup
structure HandG(ks:List Kn)(cs:List cR)(h:Hand):Prop where
 sh:Sh h.name
 nd:(h.boxes.map (·.1)).Nodup
 few:h.boxes.length<=5
 bsh:∀b∈h.boxes,Sh b.1
 kin:∀b∈h.boxes,KIn ks 6 b.2
 rw:RowsG ks cs h.name h.boxes h.rows
structure MakG(m:Mak):Prop where
 wf:KWf m.kinds
 fit:Fit m.kinds
 cnd:(m.chans.map (·.1)).Nodup
 cfew:m.chans.length<=7
 csh:∀c∈m.chans,Sh c.1
 ckin:∀c∈m.chans,KIn m.kinds 6 c.2.2.2
 ends:∀c∈m.chans,c.2.1∈m.hands.map Hand.name/\c.2.2.1∈m.hands.map Hand.name
 hnd:(m.hands.map Hand.name).Nodup
 hfew:m.hands.length<=4
 hok:∀h∈m.hands,HandG m.kinds m.chans h
theorem Bk(wf:KWf ks){bs:List (Str×Str)}:∀(m:Nat) (x:Str),KIn ks m x->Tz m bs (cH (m+1) ks x) (lO (m+1) ks x)
 | 0,x,h=>by
  rcases h.nu wf with⟨rfl,e0,e,_⟩ |⟨j,k,e,_⟩
  ·rw[e]
   exact Ca ⟨aA Z,aA Z⟩ (by unfold lO;rw[e0];exact Int.le_refl _)
  ·cases e
 | m+1,x,h=>by
  rcases h.nu wf with⟨rfl,e0,e,_⟩ |⟨j,k,ej,hk,hn,hm,hp,_,⟨hc,e,_⟩ |⟨hc,p,r,er,e,_⟩⟩
  ·rw[e]
   exact Ca ⟨aA Z,aA Z⟩ (by unfold lO;rw[e0];exact Int.le_refl _)
  ·cases ej
   have e1:lO (m+1+1) ks x=1+(k.parts.map λp=>lO (m+1) ks p.2).sum:=by
    conv=>lhs;unfold lO
    rw[hk];show 1+rY _ k=_;unfold rY;rw[if_pos hc]
   rw[e,e1];exact .inr (.inr (.inl ⟨x,_,_,D5 (g:=λp:Str×Str=>lO (m+1) ks p.2) λp hp'=>Bk wf m p.2 (hp p hp'),by omega,Gn wf hk,rfl⟩))
  ·cases ej
   have e1:lO (m+1+1) ks x=1+lO (m+1) ks p.2:=by
    conv=>lhs;unfold lO
    rw[hk];show 1+rY _ k=_;unfold rY;rw[if_neg (by rw[hc];decide),er]
   rw[e,e1];exact .inr (.inr (.inr (.inr (.inl ⟨x,p.1,_,_,Bk wf m p.2 (hp p (by rw[er];simp)),by omega,Gn wf hk,V3 wf hm (by rw[er];simp),rfl⟩))))
def C8(a:KWf ks)(f:Fit ks){bs:List (Str×Str)}(nd:(bs.map (·.1)).Nodup)(h:KIn ks 6 x):nE ks bs (cH 7 ks x) x:=
 ⟨((yR a 6 x h).up (m:=21) (aA Z)).2 _ (Ac nd),Vr _ _ _ _ _ (Int.le_trans (show lO 7 ks x<=30 from Sf a f h) (aA Z)) (Pq (aA Z) (Bk a 6 x h))⟩
def A8{bs:List (Str×Str)}(nd:(bs.map (·.1)).Nodup){i:Int}(h:Nm i):nE ks bs (aO i) (S "num"):=⟨(C4 (n:=21) h).2 _ (Ac nd),Ca h (aA Z)⟩
def Vc{bs:List (Str×Str)}(nd:(bs.map (·.1)).Nodup){x k:Str}(h:(x,k)∈bs):nE ks bs (fB x) k:=⟨(Tp (n:=21) h).2 _ (Ac nd),Sv h (aA Z)⟩
structure KAny(ks:List Kn):Prop where
 nm:∀k∈ks,Name k.name
 alt:∀k∈ks,k.rc=false->k.parts≠[]
 few:ks.length<=6
 pts:∀k∈ks,k.parts.length<=5
 pnm:∀k∈ks,∀p∈k.parts,Name p.1
 pkd:∀k∈ks,∀p∈k.parts,p.2=S "num"\/Name p.2
structure K1(k:Kn):Prop where
 nm:Name k.name
 alt:k.rc=false->k.parts≠[]
 pts:k.parts.length<=5
 pnm:∀p∈k.parts,Name p.1
 pkd:∀p∈k.parts,p.2=S "num"\/Name p.2
def KAny.one(h:KAny ks){k:Kn}(a:k∈ks):K1 k:=⟨h.nm k a,h.alt k a,h.pts k a,h.pnm k a,h.pkd k a⟩
theorem KWf.any(w:KWf ks):KAny ks:=by
 refine⟨w.nm,w.alt,w.few,w.pts,w.pnm,λk b p a=>?_⟩;obtain⟨i,hi,e⟩:=oJ b;rcases w.ref i k (by rw[<- e];exact cF hi) p a with h |⟨j,k',_,c,h⟩
 ·exact .inl h
 ·exact .inr (by rw[<- h];exact w.nm k' (cJ c))
def gF(as:List Kn)(x:Str):Bool:=decide (x∈as.map Kn.name)
def mI(k:Kn):Bool:=!decide ((k.parts.map (λp:Str×Str=>p.1)).Nodup)
def twB(as:List Kn)(k:Kn):Bool:=gF as k.name || mI k
def pK(as:List Kn)(p:Str×Str):Bool:=!decide (p.2=S "num") && !gF as p.2
def lP(as:List Kn)(k:Kn):Bool:=k.parts.any (pK as)
def gI(as:List Kn)(k:Kn):Bool:=decide (30<1+dQ k (sz as))
def bR(as:List Kn)(k:Kn):Option Nat:=if twB as k=true then some 1 else if lP as k=true then some 2 else if gI as k=true then some 8 else none
def dB:List Kn->List Kn->Option Nat
 |_,[]=>none
 |as,k::ks=>match bR as k with |some c=>some c |none=>dB (as++[k]) ks
def Xy{as:List Kn}{k:Kn}(h:bR as k=none):twB as k=false/\lP as k=false/\gI as k=false:=by
 unfold bR at h;cases c:twB as k <;> cases b:lP as k <;> cases a:gI as k <;> simp_all
theorem wZ{as:List Kn}{k:Kn}(h:lP as k=false):∀p∈k.parts,KIn as as.length p.2:=λp b=>by
 have a:pK as p=false:=by
  unfold lP at h;rw[List.any_eq_false]at h;simpa using h p b
 refine KIn.of ?_;by_cases e:p.2=S "num"
 ·exact .inl e
 ·unfold pK at a
  rw[cW e]at a;simp only[Bool.not_false,Bool.true_and,Bool.not_eq_false']at a;obtain⟨z,hz,c⟩:=fV (qE a);exact .inr ⟨z,hz,c⟩
def Bx{as:List Kn}{k:Kn}(w:KWf as)(f:Fit as)(k1:K1 k)(l:as.length<6)(h:bR as k=none):KWf (as++[k])/\Fit (as++[k]):=by
 obtain⟨h1,h2,h3⟩:=Xy h;unfold twB at h1;rw[Bool.or_eq_false_iff]at h1;have hp:=wZ h2;have w2:KWf (as++[k]):=w.snoc (of_decide_eq_false h1.1) k1.nm hp k1.alt l k1.pts (by have:=h1.2;unfold mI at this;simpa using this) k1.pnm;refine⟨w2,Fit.snoc w w2 f hp ?_⟩;have:=of_decide_eq_false h3;omega
theorem Wl{as:List Kn}{k:Kn}(w:KWf as)(a:KWf (as++[k])):iJ (as++[k]) as.length=iJ as as.length:=by
 unfold iJ;rw[List.take_left' Z,List.take_length];congr 1;refine zS λz hz=>?_;unfold Ax;rw[vX w a (L4 hz)]
theorem A7{as:List Kn}{k:Kn}(w:KWf as)(b:KWf (as++[k]))(c:∀p∈k.parts,KIn as as.length p.2):sz (as++[k]) k.name=1+dQ k (sz as):=by
 rw[Gs b (i:=as.length) (by simp),Dz (g:=sz as) λp a=>vX w b (c p a)]
theorem Wn{as:List Kn}{k:Kn}(w:KWf as)(a:KWf (as++[k]))(b:∀p∈k.parts,KIn as as.length p.2):dC (iJ as as.length) (Sum.inr k.name) (.int (1+dQ k (sz as)))=iJ (as++[k]) (as++[k]).length:=by
 have:=V9 a (i:=as.length) (k:=k) (by simp);rw[Wl w a,A7 w a b]at this;rw[this,bS,List.length_singleton]
theorem Lj{as:List Kn}(w:KWf as)(x:Str):(bO (iJ as as.length) (Sum.inr x)).isSome=(decide (x=S "num") || gF as x):=by
 by_cases e:x=S "num"
 ·subst e
  rw[D3 w (.inl Z),cS Z];rfl
 ·rw[cW e,Bool.false_or]
  by_cases h:x∈as.map Kn.name
  ·obtain⟨k,a,rfl⟩:=fV h
   rw[D3 w (L4 a)];unfold gF;rw[cS h];rfl
  ·unfold gF iJ
   rw[cW h,mE (λq=>e (Sum.inr.inj q).symm),Af,List.take_length,List.find?_eq_none.mpr]
   ·rfl
   ·intro z hz q
    exact h (List.mem_map.mpr ⟨z,hz,by simpa using q⟩)
def Y8{as:List Kn}{k:Kn}(w:KWf as)(f:k.parts.length<=5):0<=dQ k (sz as)/\dQ k (sz as)<=1400000:=by
 have all:∀m∈k.parts.map (λp=>sz as p.2),1<=m/\m<=279936:=λm b=>by
  obtain⟨p,_,rfl⟩:=fV b;exact⟨Bh w _,Gu w _⟩
 have e:(k.parts.map (λp=>sz as p.2)).length<=5:=by rw[aM];exact f
 unfold dQ;generalize k.parts.map (λp=>sz as p.2)=ns at all e⊢
 have hs:∀(l:List Int),(∀m∈l,1<=m/\m<=(279936:Int))->0<=l.sum/\l.sum<=l.length*279936:=by
  intro l
  induction l with
  |nil=>intro _;simp
  |cons a r c=>
   intro h;have i:=h a (by simp);have g:=c λm b=>h m (qO _ b);rw[List.sum_cons,List.length_cons];push_cast;omega
 have i:=hs ns all;have g:dP ns<=279936:=Jr (aA Z) λn hn=>(all n hn).2
 have j:0<=dP ns:=by
  cases ns with
  |nil=>exact Int.le_refl _
  |cons a r=>
   have:=all a (by simp);have:=A5 (ns:=a::r) (n:=a) (by simp);omega
 split <;> omega
def nR(ns:List Str):Option Nat:=if ns.Nodup then none else some 1
def iN(ks:List Kn)(x:Str):Option Nat:=if x=S "num" then none else match bN ks x with
 |none=>some 2
 |some _=>none
def iC(A B:Option Nat->Prop)(o:Option Nat):Prop:=(∃c,A (some c)/\o=some c)\/(A none/\B o)
def SeqR{α:Type}(R:α->Option Nat->Prop):List α->Option Nat->Prop
 |[],o=>o=none
 |a::l,o=>iC (R a) (SeqR R l) o
def lI(r:Option Nat):Option Nat->Prop:=λo=>o=r
def lT(mk:Mak)(c:cR):Option Nat:=match iD mk c.2.1 with
 |none=>some 2
 |some _=>match iD mk c.2.2.1 with
  |none=>some 2
  |some _=>iN mk.kinds c.2.2.2
def lU(mk:Mak)(c:Str):Option cR:=mk.chans.find? λz=>decide (z.1=c)
def rD(e:Nat)(c:cR):Str:=if e=1 then c.2.1 else c.2.2.1
def dO(mk:Mak)(c:Str)(e:Nat)(h:Str):iS:=match lU mk c with
 |none=>.error 2
 |some ch=>if rD e ch=h then .ok ch.2.2.2 else .error 6
def eW(bs:List (Str×Str))(x:Str):iS:=match bs.find? λb=>decide (b.1=x) with
 |none=>.error 2
 |some b=>.ok b.2
def nI(ks:List Kn)(bs:List (Str×Str))(t:D)(k:Str)(o:Option Nat):Prop:=∃r,Kt ks 22 (bM bs) t r/\o=nk k r
def gT(r:iS)(F:Str->Option Nat->Prop)(o:Option Nat):Prop:=match r with
 |.error c=>o=some c
 |.ok k=>F k o
def lW(mk:Mak)(h:Str)(bs:List (Str×Str)):Row->Option Nat->Prop
 |.set x t=>gT (eW bs x) (nI mk.kinds bs t)
 |.send c t=>gT (dO mk c 1 h) (nI mk.kinds bs t)
 |.take _ c x=>gT (eW bs x) λk=>gT (dO mk c 2 h) λk2 o=>o=nk k2 (.ok k)
 |.tell t=>nI mk.kinds bs t (S "num")
 |.cond t _=>nI mk.kinds bs t (S "num")
 |_=>λo=>o=none
def rX(k:Nat):Row->List Nat
 |.go g=>[g]
 |.cond _ g=>[g,k+1]
 |.fin=>[]
 |_=>[k+1]
def tL(rs:List Row)(o:Option Nat):Prop:=(o=none/\rs≠[]/\∀(i:Nat) r,rs[i]?=some r->∀g∈rX i r,g<rs.length)\/(o=some 7/\(rs=[]\/∃(i:Nat) (r:Row) (g:Nat),rs[i]?=some r/\g∈rX i r/\rs.length<=g))
def pO(mk:Mak)(h:Hand):Option Nat->Prop:=
 iC (lI (nR (h.boxes.map (·.1)))) (iC (lI (nR (h.rows.filterMap cU))) (iC (SeqR (λb=>lI (iN mk.kinds b.2)) h.boxes) (iC (SeqR (lW mk h.name h.boxes) h.rows) (tL h.rows))))
def nQ(mk:Mak):Option Nat->Prop:=
 iC (lI (dB [] mk.kinds)) (iC (lI (nR (mk.hands.map Hand.name))) (iC (lI (nR (mk.chans.map (·.1)))) (iC (SeqR (λc=>lI (lT mk c)) mk.chans) (SeqR (pO mk) mk.hands))))
def lD:Row->Prop
 |.set x _=>x.length<=100
 |.send c _=>c.length<=100
 |.take _ c x=>c.length<=100/\x.length<=100
 |.go g=>g<10 ^ 17
 |.cond _ g=>g<10 ^ 17
 |_=>True
structure HandB(h:Hand):Prop where
 nm:h.name.length<=50
 b:h.boxes.length<=50
 bs:∀b∈h.boxes,b.1.length<=100/\b.2.length<=100
 r:h.rows.length<=50
 rs:∀r∈h.rows,lD r
structure MakB(mk:Mak):Prop where
 ka:KAny mk.kinds
 h:mk.hands.length<=50
 c:mk.chans.length<=50
 cs:∀c∈mk.chans,c.1.length<=50/\c.2.1.length<=50/\c.2.2.1.length<=50/\c.2.2.2.length<=100
 hs:∀h∈mk.hands,HandB h
def MakB.kl{mk:Mak}(b:MakB mk):qZ mk.kinds:=λk c=>by
 have a:∀{x:Str},Name x->x.length<=100:=λh=>qC (iR h).1 (aA Z);refine⟨a (b.ka.nm k c),λp f=>⟨a (b.ka.pnm k c p f),?_⟩⟩;rcases b.ka.pkd k c p f with e |e
 ·rw[e];decide +kernel
 ·exact a e
theorem oZ{α:Type}{R:α->Option Nat->Prop}:∀{l:List α},(∀a∈l,R a none)->SeqR R l none
 |[],_=>Z
 |a::l,h=>.inr ⟨h a (by simp),oZ λb c=>h b (qO _ c)⟩
theorem wR{α:Type}{R:α->Option Nat->Prop}{a:α}{c:Nat}{r:List α}(e:R a (some c)):∀{l:List α},(∀b∈l,R b none)->SeqR R (l++a::r) (some c)
 |[],_=>.inl ⟨c,e,Z⟩
 |b::l,h=>.inr ⟨h b (by simp),wR e λd hd=>h d (qO _ hd)⟩
def SeqR.step{α:Type}{R:α->Option Nat->Prop}{l:List α}{o:Option Nat}{i:Nat}{a:α}(ha:l[i]?=some a)(h:SeqR R (l.drop i) o):(∃c,R a (some c)/\o=some c)\/(R a none/\SeqR R (l.drop (i+1)) o):=by
 obtain⟨hi,e⟩:=cV ha;rw[List.drop_eq_getElem_cons hi,e]at h;exact h
theorem AllN.mono(k:∀d r,R d r->b d r):∀{es:List D} {ps:List (Str×Str)} {o:Option Nat},AllN R es ps o->AllN b es ps o
 |[],[],_,h=>h
 |[],_::_,_,h=>h.elim
 |_::_,[],_,h=>h.elim
 |e::es,p::ps,o,h=>by
  obtain⟨f,i,a⟩:=h;refine⟨f,k _ _ i,?_⟩;rcases a with a |⟨a,g⟩
  ·exact .inl a
  ·exact .inr ⟨a,g.mono k⟩
theorem ArmR.mono(k:∀env d r,R env d r->e env d r){q:iS}(h:ArmR a R env z q):ArmR a e env z q:=by
 rcases h with h |⟨b,j |⟨f,i,g⟩⟩
 ·exact .inl h
 ·exact .inr ⟨b,.inl j⟩
 ·exact .inr ⟨b,.inr ⟨f,i,k _ _ _ g⟩⟩
theorem ArmsN.mono(k:∀z q,A z q->b z q):∀{rs:List fZ} {o:Option Nat},ArmsN A x rs o->ArmsN b x rs o
 |[],_,h=>h
 |r::rs,o,h=>by
  obtain⟨q,f,a⟩:=h;refine⟨q,k _ _ f,?_⟩;rcases a with a |⟨a,e⟩
  ·exact .inl a
  ·exact .inr ⟨a,e.mono k⟩
theorem NodeKt.mono(k:∀env d r,R env d r->O env d r){d:D}(h:NodeKt ks R env d r):NodeKt ks O env d r:=by
 rcases h with⟨s,a,b,m,e,i,g⟩ |⟨x,es,e,i⟩ |⟨a,f,m,e,i,g⟩ |⟨x,t,a,e,i⟩ |⟨a,rs,m,e,Y,i,g⟩ |⟨a,b,c,m,e,i,g⟩
 ·refine .inl ⟨s,a,b,m,e,k _ _ _ i,?_⟩
  rcases g with g |⟨g,y,j,l⟩
  ·exact .inl g
  ·exact .inr ⟨g,y,k _ _ _ j,l⟩
 ·refine .inr (.inl ⟨x,es,e,?_⟩)
  rcases i with i |⟨i,p,g,j |⟨j,o,l,u⟩⟩
  ·exact .inl i
  ·exact .inr ⟨i,p,g,.inl j⟩
  ·exact .inr ⟨i,p,g,.inr ⟨j,o,l.mono (k env),u⟩⟩
 ·exact .inr (.inr (.inl ⟨a,f,m,e,k _ _ _ i,g⟩))
 ·refine .inr (.inr (.inr (.inl ⟨x,t,a,e,?_⟩)))
  rcases i with i |⟨i,p,g,j |⟨w,m,j,l,u⟩⟩
  ·exact .inl i
  ·exact .inr ⟨i,p,g,.inl j⟩
  ·exact .inr ⟨i,p,g,.inr ⟨w,m,j,k _ _ _ l,u⟩⟩
 ·refine .inr (.inr (.inr (.inr (.inl ⟨a,rs,m,e,Y,k _ _ _ i,?_⟩))))
  rcases g with g |⟨w,p,g,j,l |⟨l,J,rest,M,u,C,I |⟨G,o,I,h8,h9⟩⟩⟩
  ·exact .inl g
  ·exact .inr ⟨w,p,g,j,.inl l⟩
  ·exact .inr ⟨w,p,g,j,.inr ⟨l,J,rest,M,u,C.mono k,.inl I⟩⟩
  ·exact .inr ⟨w,p,g,j,.inr ⟨l,J,rest,M,u,C.mono k,.inr ⟨G,o,I,h8.mono λz q h=>h.mono k,h9⟩⟩⟩
 ·refine .inr (.inr (.inr (.inr (.inr ⟨a,b,c,m,e,k _ _ _ i,?_⟩))))
  rcases g with g |⟨g,y,j,l |⟨G,U,l,u,C⟩⟩
  ·exact .inl g
  ·exact .inr ⟨g,y,k _ _ _ j,.inl l⟩
  ·exact .inr ⟨g,y,k _ _ _ j,.inr ⟨G,U,l,k _ _ _ u,C⟩⟩
theorem Ga:∀(n:Nat) (env:En) (d:D) (r:iS),Kt ks n env d r->Kt ks (n+1) env d r
 |0,_,_,_,h=>.inl h
 |n+1,env,d,r,h=>by
  rcases h with h |h
  ·exact .inl h
  ·exact .inr (h.mono (Ga n))
def pP(l:n<=m){d:D}(h:Kt ks n env d r):Kt ks m env d r:=by
 obtain⟨k,rfl⟩:∃k,m=n+k:=⟨m-n,by omega⟩;clear l
 induction k with
 |zero=>exact h
 |succ k a=>exact Ga _ _ _ _ a
section
variable {ks:List Kn}{n:Nat}{env:En}{c:Nat}
def Ht(h:4294967296<=i)(a:i<10 ^ 18):Kt ks n env (aO i) (.error 4):=pP (qX n) (.inl ⟨i,Z,by omega,a,by rw[if_neg (by omega)]⟩)
def Rb(h:env x=none)(a:x.length<=100):Kt ks n env (fB x) (.error 2):=pP (qX n) (.inr ⟨x,Z,.inr ⟨h,a,Z⟩⟩)
def Rc(h:Kt ks n env a (.ok (S "num")))(g:Kt ks n env b f)(e:nk (S "num") f=some c):Kt ks (n+1) env (iZ s a b) (.error c):=.inr (.inl ⟨s,a,b,_,Z,h,.inr ⟨nk_ok,f,g,by rw[e];rfl⟩⟩)
def U6(e:mS ks x (S "rec")=some c)(a:x.length<=100):Kt ks (n+1) env (cI x es) (.error c):=.inr (.inr (.inl ⟨x,es,Z,.inl ⟨c,e,a,Z⟩⟩))
def L5(b:bN ks x=some a)(e:a.rc=true)(hn:es.length≠a.parts.length):Kt ks (n+1) env (cI x es) (.error 3):=.inr (.inr (.inl ⟨x,es,Z,.inr ⟨tX b (xH e),a,b,.inl ⟨hn,Z⟩⟩⟩))
def U5(b:bN ks x=some a)(e:a.rc=true)(hn:es.length=a.parts.length)(f:AllN (Kt ks n env) es a.parts (some c)):Kt ks (n+1) env (cI x es) (.error c):=.inr (.inr (.inl ⟨x,es,Z,.inr ⟨tX b (xH e),a,b,.inr ⟨hn,_,f,Z⟩⟩⟩))
def A3(h:Kt ks n env a b)(e:nN ks (S "rec") b=.error c):Kt ks (n+1) env (eR a f) (.error c):=.inr (.inr (.inr (.inl ⟨a,f,b,Z,h,.inl ⟨c,e,Z⟩⟩)))
def U4{f k:Str}(h:Kt ks n env a (.ok k))(e:bN ks k=some b)(g:b.rc=true)(i:gN b f=none)(j:f.length<=100):Kt ks (n+1) env (eR a f) (.error 2):=.inr (.inr (.inr (.inl ⟨a,f,_,Z,h,.inr ⟨k,b,tN e (xH g),e,by unfold nS;rw[i],λ_=>j⟩⟩)))
def Re{x t e:Str}(f:bN ks x=some b)(g:b.rc=false)(i:gN b t=some e)(h:Kt ks n env a (.ok e)):Kt ks (n+1) env (iI x t a) (.ok x):=.inr (.inr (.inr (.inr (.inl ⟨x,t,a,Z,.inr ⟨tX f (tY g),b,f,.inr ⟨e,_,i,h,fin_ok.symm⟩⟩⟩))))
def Lx{k:Str}(i:rs.length<=1000)(h:Kt ks n env a (.ok k))(f:bN ks k=some b)(g:b.rc=false)(e:lM b rs=some c)(hz:∀z∈rs,z.1.length<=100):Kt ks (n+1) env (mN a rs) (.error c):=
 .inr (.inr (.inr (.inr (.inr (.inl ⟨a,rs,_,Z,i,h,.inr ⟨k,b,tN f (tY g),f,.inl ⟨c,e,hz,Z⟩⟩⟩)))))
def W6{rest:List fZ}{k:Str}(j:(b::rest).length<=1000)(h:Kt ks n env a (.ok k))(g:bN ks k=some f)(i:f.rc=false)(e:lM f (b::rest)=none)(h0:ArmR f (Kt ks n) env b (.error c)):Kt ks (n+1) env (mN a (b::rest)) (.error c):=
 .inr (.inr (.inr (.inr (.inr (.inl ⟨a,_,_,Z,j,h,.inr ⟨k,f,tN g (tY i),g,.inr ⟨e,b,rest,_,Z,h0,.inl ⟨c,Z,Z⟩⟩⟩⟩)))))
end
end M
end
section
namespace L2
open PySem PySem.Spec PySem.W PyProof.Rows M
mutual
def nK:D->PyData
 |.int i=>.int i
 |.str s=>.str s
 |.tup ds=>.tuple (mQ ds)
def mQ:List D->List PyData
 |[]=>[]
 |d::ds=>nK d::mQ ds
end
def Ej(d:D):Str:=(nK d).shown
mutual
def eS:D->Nat
 |.int _=>40
 |.str s=>10*s.length+2
 |.tup ds=>eE ds+4
def eE:List D->Nat
 |[]=>0
 |d::ds=>eS d+2+eE ds
end
mutual
def sG:D->Prop
 |.int i=>0<=i/\i<2 ^ 33
 |.str s=>∀c∈s.cps.toList,c<16 ^ 8
 |.tup ds=>fW ds
def fW:List D->Prop
 |[]=>True
 |d::ds=>sG d/\fW ds
end
section
variable {X:Cx}{pins:List (Addr×Obj)}{σ:St}{H:Hp}{s:Shared}
theorem Nj:∀(ds:List D) (vs:List V) (us:List Value),(∀d∈ds,∀x u,RelD H x d->RelV x u->∃as,Reads h u (nK d) as)->RelDs H vs ds->Vals vs us->∃as,ReadsAll h us (mQ ds) as
 |[],vs,us,_,b,a=>by
  rw[show vs=[] from b]at a;cases a;exact⟨_,.nil⟩
 | d::ds,vs,us,k,b,a=>by
  obtain⟨v,r,rfl,g,f⟩:=b
  cases a with
  |cons l j=>
   obtain⟨as,e⟩:=k d (List.mem_cons_self ..) _ _ g l;obtain⟨bs,c⟩:=Nj ds _ _ (λd' hd=>k d' (qO _ hd)) f j;exact⟨_,.cons e c⟩
theorem M8(I:Inv X f σ H s):∀(n:Nat) (d:D),d.deep<=n->∀x u,RelD H x d->RelV x u->∃as,Reads s.heap u (nK d) as
 |n,.int i,_,x,u,c,b=>by
  cases c;obtain⟨t,rfl⟩:=b;exact⟨_,.int i t⟩
 |n,.str z,_,x,u,c,b=>by
  cases c;obtain⟨t,rfl⟩:=b;exact⟨_,.str z t⟩
 |0,.tup ds,h,_,_,_,_=>absurd h (Nat.not_succ_le_zero _)
 | n+1,.tup ds,h,x,u,c,b=>by
  obtain⟨a,vs,rfl,r,e⟩:=c;obtain rfl:u=.ref a:=b;obtain⟨its,j,l,_⟩:=I.tuple (zD (K:=X.K) r);obtain⟨⟨cls,w,data,sl⟩,p,g,m,hd⟩:=id l;simp only at g hd;subst g hd
  obtain⟨as,o⟩:=Nj (h:=s.heap) ds vs its (λd hd x u=>M8 I n d (by
   have:=Dq hd;have h':gJ ds+1<=n+1:=h;omega) x u) e j
  exact⟨as,Reads.tuple p Z Z o⟩
mutual
theorem G0:∀d:D,(nK d).depth<=d.deep
 |.int _=>qX _
 |.str _=>qX _
 |.tup ds=>by
  have:=G1 ds;show PyData.depthAll (mQ ds)+1<=gJ ds+1;omega
theorem G1:∀ds:List D,PyData.depthAll (mQ ds)<=gJ ds
 |[]=>qX _
 |d::ds=>by
  have h1:=G0 d;have h2:=G1 ds;show max (nK d).depth (PyData.depthAll (mQ ds))<=max d.deep (gJ ds);omega
end
mutual
theorem Ir:∀d:D,sG d->(nK d).showable=true/\(nK d).hasDict=false
 |.int i,h=>by
  refine⟨cS ?_,rfl⟩;have h1:0<=i/\i<2 ^ 33:=h;have h2:i.natAbs<2 ^ 33:=by omega
  by_cases h0:i.natAbs=0
  ·rw[h0];decide
  ·exact qM ((Nat.log2_lt h0).mpr h2) (aA Z)
 |.str _,_=>⟨rfl,rfl⟩
 |.tup ds,h=>Iu ds h
theorem Iu:∀ds:List D,fW ds->PyData.showableAll (mQ ds)=true/\PyData.hasDictAll (mQ ds)=false
 |[],_=>⟨rfl,rfl⟩
 | d::ds,h=>by
  have h1:=Ir d h.1;have h2:=Iu ds h.2;refine⟨?_,?_⟩
  ·show((nK d).showable && PyData.showableAll (mQ ds))=true
   rw[h1.1,h2.1];rfl
  ·show((nK d).hasDict || PyData.hasDictAll (mQ ds))=false
   rw[h1.2,h2.2];rfl
end
theorem M7:∀ds:List D,(∀d∈ds,(nK d).shown.length<=eS d)->piled (PyData.shownAll (mQ ds))<=eE ds
 |[],_=>qD _
 |d::ds,h=>by
  have c:=h d (List.mem_cons_self ..);have b:=M7 ds λx a=>h x (qO _ a);show piled ((nK d).shown::PyData.shownAll (mQ ds))<=eS d+2+eE ds;rw[piled_cons];omega
def Vp(ts:List Str):(tupleText ts).length<=piled ts+4:=by
 have e:(Str.ofString "(").length=1:=by rw[PySem.ofString_length];rfl
 unfold tupleText;rw[Str.length_append,Str.length_append]
 have c:(if (ts.length == 1)=true then (Str.ofString ",)") else (Str.ofString ")")).length<=2:=by
  split <;> (rw[PySem.ofString_length];decide)
 have b:(Str.join ", " ts).length<=piled ts:=by
  cases ts with
  |nil=>exact qD _
  |cons t ts=>
   have:=join_length_add (t::ts) (by simp);omega
 have a:((if (ts.length == 1)=true then ",)" else ")":String):Str).length<=2:=by
  split <;> (rw[PySem.ofString_length];decide)
 omega
theorem He:∀{ds:List D},fW ds->∀d∈ds,sG d
 |d::ds,h,x,a=>by
  rcases gD a with rfl |a
  ·exact h.1
  ·exact He h.2 x a
theorem Gb:∀(n:Nat) (d:D),d.deep<=n->sG d->(Ej d).length<=eS d
 |n,.int i,_,h=>by
  have e:0<=i/\i<2 ^ 33:=h;show(Str.ofString (toString i)).length<=40;rw[PySem.ofString_length];have:=int_text_length_le10 (a:=i) (k:=10) (aA Z) (by omega);omega
 |n,.str z,_,h=>StrLaws.reprText_len z h
 |0,.tup ds,hd,_=>absurd hd (Nat.not_succ_le_zero _)
 | n+1,.tup ds,hd,h=>by
  have c:=M7 ds λd b=>Gb n d (by
   have:=Dq b;have h':gJ ds+1<=n+1:=hd;omega) (He h d b)
  have:=Vp (PyData.shownAll (mQ ds));show(tupleText (PyData.shownAll (mQ ds))).length<=eE ds+4;omega
def My(hg:X.A.guards=some [])(hu:X.A.units+200<cLine):lJ X (.builtin "repr") (λxs H Q=>∃(v:V) (ds:List D),xs=[v]/\RelD H v (.tup ds)/\D.deep (.tup ds)<=150/\sG (.tup ds)/\eS (.tup ds)<=sizeLine/\Q (.str (Ej (.tup ds))) H):=by
 intro pins s σ H xs us Q I r h;obtain⟨v,ds,rfl,hv,hd,ok,hz,q⟩:=h;obtain⟨u,rfl,ru⟩:=nU r;obtain⟨as,hr⟩:=M8 I 150 (.tup ds) hd v u hv ru;obtain⟨a,vs,rfl,ha,rvs⟩:=id hv;obtain rfl:u=.ref a:=ru;have sh:=Ir (.tup ds) ok;have dp:=G0 (.tup ds);have hl:=Gb 150 (.tup ds) hd ok;exact repr_of_reads' hr sh.1 (PyData.noDict_hsm sh.2) hg (by omega) (λb o e=>e) (λh' u tk k=>⟨.str (Ej (.tup ds)),H,I.kept k,⟨u,rfl⟩,q⟩) (qC hl hz)
end
end L2
end
section
namespace M
open PySem L2
theorem xG(d:D)(ds:List D):eE (d::ds)=eS d+2+eE ds:=Z
theorem wQ(ds:List D):eS (.tup ds)=eE ds+4:=Z
theorem V0(s:Str):eS (.str s)=10*s.length+2:=Z
theorem Uz(i:Int):eS (.int i)=40:=Z
theorem Cs:eE []=0:=Z
theorem wF(ds:List D):D.deep (.tup ds)=gJ ds+1:=Z
theorem wM(d:D)(ds:List D):gJ (d::ds)=max d.deep (gJ ds):=Z
theorem Qg(i:Int):D.deep (.int i)=0:=Z
theorem Ri:gJ []=0:=Z
structure TzF(n:Nat)(d:D)(c:Int):Prop where
 pos:1<=c
 dp:d.deep<=3*n+2
 ok:sG d
 sz:(eS d:Int)+220<=600*c
structure TzFs(n:Nat)(ds:List D)(c:Int):Prop where
 pos:0<=c
 dp:gJ ds<=3*n+2
 ok:fW ds
 sz:(eE ds:Int)<=600*c
theorem Og(k:∀d c,R d c->TzF n d c):∀{es:List D} {cs:List Int},All2 R es cs->TzFs n es cs.sum
 |_,_,.nil=>⟨by simp,by rw[Ri];omega,trivial,by rw[Cs];simp⟩
 |_,_,.cons (a:=e) (b:=c) (as:=es) (bs:=cs) h t=>by
  have g:=k _ _ h;have f:=Og k t;have r:=g.pos;have p:=f.pos;have l:=g.sz;have j:=f.sz;have o:=g.dp;have m:=f.dp;rw[List.sum_cons];refine⟨by omega,by rw[wM];omega,⟨g.ok,f.ok⟩,?_⟩;rw[xG];omega
def Oh{bs:List (Str×Str)}(e:∀b∈bs,Sh b.1){d:D}(h:yB bs d c)(n:Nat):TzF n d c:=by
 rcases h with⟨i,hi,rfl,h⟩ |⟨x,⟨k,a⟩,rfl,h⟩
 ·have hn:(S "num").length=3:=by walk_at"k"
  refine⟨h,?_,⟨(by show ∀c∈(S "num").cps.toList,c<16 ^ 8;decide +kernel),⟨(by have:=hi;unfold Nm at this;show 0<=i/\i<2 ^ 33;omega),trivial⟩⟩,?_⟩
  ·show max 0 (max 0 0)+1<=_
   omega
  ·show((10*(S "num").length+2+2+(40+2+0)+4:Nat):Int)+220<=_
   rw[hn];omega
 ·have hs:=(e _ a).1
  have hn:(S "box").length=3:=by walk_at"k"
  refine⟨h,?_,⟨(by show ∀c∈(S "box").cps.toList,c<16 ^ 8;decide +kernel),⟨(e _ a).2,trivial⟩⟩,?_⟩
  ·show max 0 (max 0 0)+1<=_
   omega
  ·show((10*(S "box").length+2+2+(10*x.length+2+2+0)+4:Nat):Int)+220<=_
   rw[hn];have f:x.length<=10:=hs;omega
def tD(e:h=S "op"\/h=S "rec"\/h=S "get"\/h=S "tag"\/h=S "case"\/h=S "if"):h.length<=4/\∀c∈h.cps.toList,c<16 ^ 8:=by
 rcases e with rfl |rfl |rfl |rfl |rfl |rfl <;> exact⟨by walk_at"k",by walk_at"k"⟩
theorem Ip:∀(n:Nat) (bs:List (Str×Str)) (d:D) (c:Int),(∀b∈bs,Sh b.1)->Tz n bs d c->TzF n d c
 |0,bs,d,c,j,h=>Oh j h 0
 | n + 1,bs,d,c,j,h=>by
  rcases h with h |h
  ·exact Oh j h (n+1)
  have p:=Ip n;rcases h with⟨s,a,b,c1,c2,o,w,M,hs,rfl⟩ |⟨k,es,cs,o,w,G,rfl⟩ |⟨a,f,c',o,w,hf,rfl⟩ |⟨k,t,a,c',o,w,G,ht,rfl⟩ |⟨a,rs,c0,e,o,w,M,h4,rfl⟩ |⟨a,b,e,c1,c2,c3,o,w,M,h4,rfl⟩
  ·obtain⟨z,I,m,y⟩:=p bs a c1 j o
   obtain⟨p2,d2,C,z2⟩:=p bs b c2 j w;have g:=tD (h:=S "op") (.inl Z);have u:=g.1;have x:s.length<=10:=hs.1;refine⟨by omega,?_,⟨g.2,hs.2,m,C,trivial⟩,?_⟩
   ·show max 0 (max 0 (max a.deep (max b.deep 0)))+1<=_
    omega
   ·show((10*(S "op").length+2+2+(10*s.length+2+2+(eS a+2+(eS b+2+0)))+4:Nat):Int)+220<=_
    omega
  ·obtain⟨z,I,m,y⟩:=Og (λd c h=>p bs d c j h) o
   have g:=tD (h:=S "rec") (.inr (.inl Z));have u:=g.1;have x:k.length<=10:=G.1;refine⟨by omega,?_,⟨g.2,G.2,m,trivial⟩,?_⟩
   ·show max 0 (max 0 (max (gJ es+1) 0))+1<=_
    omega
   ·show((10*(S "rec").length+2+2+(10*k.length+2+2+(eE es+4+2+0))+4:Nat):Int)+220<=_
    omega
  ·obtain⟨z,I,m,y⟩:=p bs a c' j o
   have g:=tD (h:=S "get") (.inr (.inr (.inl Z)));have u:=g.1;have x:f.length<=10:=hf.1;refine⟨by omega,?_,⟨g.2,m,hf.2,trivial⟩,?_⟩
   ·show max 0 (max a.deep (max 0 0))+1<=_
    omega
   ·show((10*(S "get").length+2+2+(eS a+2+(10*f.length+2+2+0))+4:Nat):Int)+220<=_
    omega
  ·obtain⟨z,I,m,y⟩:=p bs a c' j o
   have g:=tD (h:=S "tag") (.inr (.inr (.inr (.inl Z))));have u:=g.1;have x:k.length<=10:=G.1;have a1:t.length<=10:=ht.1;refine⟨by omega,?_,⟨g.2,G.2,ht.2,m,trivial⟩,?_⟩
   ·show max 0 (max 0 (max 0 (max a.deep 0)))+1<=_
    omega
   ·show((10*(S "tag").length+2+2+(10*k.length+2+2+(10*t.length+2+2+(eS a+2+0)))+4:Nat):Int)+220<=_
    omega
  ·obtain⟨z,I,m,y⟩:=p bs a c0 j o
   have g:=tD (h:=S "case") (.inr (.inr (.inr (.inr (.inl Z)))));have u:=g.1
   have J:∀l:List (Str×Str×D),(∀r∈l,Sh r.1/\Sh r.2.1/\∃k,Tz n (bs++[(r.2.1,k)]) r.2.2 e)->gJ (l.map fL)<=3*n+3/\fW (l.map fL)/\(eE (l.map fL):Int)<=600*((l.length:Int)*e):=by
    intro l
    induction l with
    |nil=>intro _;exact⟨by show 0<=_;omega,trivial,by show((0:Nat):Int)<=_;simp⟩
    | cons r l U=>
     intro u;obtain⟨g1,g2,g3⟩:=U λr' Y=>u r' (qO _ Y);obtain⟨s1,O,kk,s3⟩:=u r (List.mem_cons_self ..)
     obtain⟨p2,d2,C,z2⟩:=p _ _ _ (λb a0=>by
      rcases dD a0 with h |h
      ·exact j b h
      ·rw[cD h];exact O) s3
     have l1:r.1.length<=10:=s1.1;have l2:r.2.1.length<=10:=O.1;refine⟨?_,⟨⟨s1.2,O.2,C,trivial⟩,g2⟩,?_⟩
     ·show max (max 0 (max 0 (max r.2.2.deep 0))+1) (gJ (l.map fL))<=_
      omega
     ·have:((r::l).length:Int)*e=(l.length:Int)*e+e:=by rw[List.length_cons,Int.natCast_add,Int.add_mul];simp
      show((10*r.1.length+2+2+(10*r.2.1.length+2+2+(eS r.2.2+2+0))+4+2+eE (l.map fL):Nat):Int)<=_;rw[this];omega
   obtain⟨g1,g2,g3⟩:=J rs w;have e0:0<=(rs.length:Int)*e:=Int.mul_nonneg (by omega) M;refine⟨by omega,?_,⟨g.2,m,g2,trivial⟩,?_⟩
   ·show max 0 (max a.deep (max (gJ (rs.map fL)+1) 0))+1<=_
    omega
   ·show((10*(S "case").length+2+2+(eS a+2+(eE (rs.map fL)+4+2+0))+4:Nat):Int)+220<=_
    omega
  ·obtain⟨z,I,m,y⟩:=p bs a c1 j o
   obtain⟨p2,d2,C,z2⟩:=p bs b c2 j w;obtain⟨p3,d3,o3,z3⟩:=p bs e c3 j M;have g:=tD (h:=S "if") (.inr (.inr (.inr (.inr (.inr Z)))));have u:=g.1;refine⟨by omega,?_,⟨g.2,m,C,o3,trivial⟩,?_⟩
   ·show max 0 (max a.deep (max b.deep (max e.deep 0)))+1<=_
    omega
   ·show((10*(S "if").length+2+2+(eS a+2+(eS b+2+(eS e+2+0)))+4:Nat):Int)+220<=_
    omega
structure Rp(A B:Nat)(d:D):Prop where
 dp:d.deep<=A
 ok:sG d
 sz:eS d<=B
theorem Rp.mono{A B e c:Nat}{d:D}(h:Rp A B d)(a:A<=e)(b:B<=c):Rp e c d:=⟨qC h.dp a,h.ok,qC h.sz b⟩
theorem Rp.str{s:Str}(h:Sh s):Rp 0 102 (.str s):=⟨qD _,h.2,by have a:s.length<=10:=h.1;rw[V0];omega⟩
theorem Rp.tup{A B N:Nat}:∀{ds:List D},(∀d∈ds,Rp A B d)->ds.length<=N->Rp (A+1) (N*(B+2)+4) (.tup ds):=by
 have a:∀ds:List D,(∀d∈ds,Rp A B d)->gJ ds<=A/\fW ds/\eE ds<=ds.length*(B+2):=by
  intro ds
  induction ds with
  |nil=>intro _;exact⟨qX _,trivial,by rw[Cs];exact qX _⟩
  |cons d ds e=>
   intro h;have b:=h d (List.mem_cons_self ..);obtain⟨j,c,g3⟩:=e λx f=>h x (qO _ f);have m:=b.dp;have l:=b.sz;refine⟨by rw[wM];omega,⟨b.ok,c⟩,?_⟩;rw[xG,List.length_cons,Nat.succ_mul];omega
 intro ds h g;obtain⟨j,c,g3⟩:=a ds h;have:=Nat.mul_le_mul_right (B+2) g;exact⟨by rw[wF];omega,c,by rw[wQ];omega⟩
def Ie(a:KWf ks)(h:KIn ks m x):Sh x:=by
 rcases h.look a with⟨rfl,_⟩ |⟨j,k,e,c,hn,b,f⟩
 ·exact⟨by walk_at"k",by walk_at"k"⟩
 ·rw[<- hn];exact iR (a.nm k b)
def Gk{bs:List (Str×Str)}{t:D}{k:Str}(a:∀b∈bs,Sh b.1)(h:nE ks bs t k):Rp 65 24000 t:=by
 have:=Ip 21 bs t 40 a h.2;exact⟨this.dp,this.ok,by have:=this.sz;omega⟩
def wordL:List Str:=[S "twice",S "name",S "count",S "wrong",S "lacks",S "own",S "falls",S "big",S "fit",S "text"]
def eL(c:Nat):Str:=wordL.getD (c-1) (S "")
theorem sh_far:Sh (S "far"):=⟨by walk_at"k",by walk_at"k"⟩
def Cu:Sh (S "mark"):=⟨by walk_at"k",by walk_at"k"⟩
def sh_num:Sh (S "num"):=⟨by walk_at"k",by walk_at"k"⟩
def Sh.le(h:Sh x):x.length<=100:=qC h.1 (aA Z)
def B9(a:KWf ks):∀k∈ks,k.parts.length<=100:=λk b=>qC (a.pts k b) (aA Z)
structure BadR(ks:List Kn)(cs:List cR)(h:Str)(bs:List (Str×Str))(r:Row)(c:Nat):Prop where
 R:lW ⟨ks,cs,[]⟩ h bs r (some c)
 b:lD r
 m:cU r=none\/cU r=some (S "mark")
 rp:Rp 70 127000 r.d
 c1:1<=c
 c8:c<=8
structure BIn(ks:List Kn)(cs:List cR)(bs:List (Str×Str)):Prop where
 wf:KWf ks
 fit:Fit ks
 few:ks.length<=6
 kf:∀k∈ks,gS k.name/\∀p∈k.parts,gS p.1
 cnd:(cs.map (·.1)).Nodup
 csh:∀c∈cs,Sh c.1/\gS c.1
 ckin:∀c∈cs,KIn ks 6 c.2.2.2
 bnd:(bs.map (·.1)).Nodup
 bsh:∀b∈bs,Sh b.1/\gS b.1
 bkin:∀b∈bs,KIn ks 6 b.2
def pV{i:Int}(h0:0<=i)(a:i<2 ^ 33):Rp 1 100 (aO i):=⟨by show max 0 (max 0 0)+1<=1;decide,⟨sh_num.2,⟨h0,a⟩,trivial⟩,by have e:eS (aO i)=10*(S "num").length+2+2+(40+2+0)+4:=Z;have:=sh_num.1;rw[show(S "num").length=3 by walk_at"k"]at e;omega⟩
def Rp.two{A B:Nat}{w:Str}(c:Sh w)(b:Rp A B a):Rp (A+1) (B+200) (.tup [.str w,a]):=by
 have g:=b.dp;have f:=b.sz;have e:=c.1;refine⟨by show max 0 (max a.deep 0)+1<=_;omega,⟨c.2,b.ok,trivial⟩,?_⟩;show 10*w.length+2+2+(eS a+2+0)+4<=_;omega
def Rp.three{A B C:Nat}{w:Str}(f:Sh w)(e:Rp A B a)(c:Rp A C b):Rp (A+1) (B+C+200) (.tup [.str w,a,b]):=by
 have n:=e.dp;have m:=e.sz;have l:=f.1;have j:=c.dp;have g:=c.sz;refine⟨by show max 0 (max a.deep (max b.deep 0))+1<=_;omega,⟨f.2,e.ok,c.ok,trivial⟩,?_⟩;show 10*w.length+2+2+(eS a+2+(eS b+2+0))+4<=_;omega
theorem Rp.four{A B C E:Nat}{w:Str}(j:Sh w)(g:Rp A B a)(f:Rp A C b)(e:Rp A E c):Rp (A+1) (B+C+E+200) (.tup [.str w,a,b,c]):=by
 have u:=g.dp;have r:=g.sz;have p:=j.1;have o:=f.dp;have n:=f.sz;have m:=e.dp;have l:=e.sz;refine⟨by show max 0 (max a.deep (max b.deep (max c.deep 0)))+1<=_;omega,⟨j.2,g.ok,f.ok,e.ok,trivial⟩,?_⟩;show 10*w.length+2+2+(eS a+2+(eS b+2+(eS c+2+0)))+4<=_;omega
theorem Rp.s(h:Sh x):Rp A 102 (.str x):=(Rp.str h).mono (qX _) (qD _)
theorem Rp.i{i:Nat}(h:i<2 ^ 33):Rp A 102 (.int i):=⟨by rw[Qg];omega,⟨by omega,by omega⟩,by rw[Uz];omega⟩
def fR(w:String)(h:(S w).length<=10/\∀c∈(S w).cps.toList,c<16 ^ 8:=by exact⟨by walk_at"k",by walk_at"k"⟩):Sh (S w):=h
section
variable {ks:List Kn}{cs:List cR}{h:Str}{bs:List (Str×Str)}
def oC{t:D}(hN:nI ks bs t (S "num") (some c))(rp:Rp 69 126000 t)(c1:1<=c)(c8:c<=8):BadR ks cs h bs (.tell t) c:=⟨hN,trivial,.inl rfl,(Rp.two (fR "tell") rp).mono (aA Z) (aA Z),c1,c8⟩
def Mf{t:D}(b:nI ks bs t (S "num") (some c))(a:Rp 69 126000 t)(f:1<=c)(e:c<=8):BadR ks cs h bs (.cond t 0) c:=⟨b,by show 0<10 ^ 17;decide,.inl Z,(Rp.three (fR "if") a (Rp.i (aA Z))).mono (aA Z) (aA Z),f,e⟩
def oV{k:Str}(e:r=.ok k)(h:F k o):gT r F o:=by rw[e];exact h
def vV(e:r=.error c):gT r F (some c):=by rw[e];rfl
def Bv(g:BIn ks cs bs)(c:b∈bs):eW bs b.1=.ok b.2:=by
 have e:=wN g.bnd c;unfold bM at e;unfold eW;obtain⟨q,a,e⟩:=dH e;rw[a];injection e with e;exact congrArg Except.ok e
def Jo(g:BIn ks cs bs):eW bs (S "far")=.error 2:=by
 unfold eW;rw[List.find?_eq_none.mpr λq a=>by rw[cW ((g.bsh q a).2.1)];decide]
theorem Fz(g:BIn ks cs bs)(a:c∈cs):lU ⟨ks,cs,hs⟩ c.1=some c:=by
 obtain⟨i,hi⟩:=List.getElem?_of_mem a;exact rS (f:=λc:cR=>c.1) g.cnd hi
theorem Qc(g:BIn ks cs bs):lU ⟨ks,cs,hs⟩ (S "far")=none:=List.find?_eq_none.mpr λq a=>by rw[cW ((g.csh q a).2.1)];decide
def Vd(g:BIn ks cs bs):dO ⟨ks,cs,hs⟩ (S "far") e h=.error 2:=by unfold dO;rw[Qc g]
def Hy(g:BIn ks cs bs)(b:c∈cs)(a:rD e c=h):dO ⟨ks,cs,hs⟩ c.1 e h=.ok c.2.2.2:=by unfold dO;rw[Fz g b];exact if_pos a
def Jw(g:BIn ks cs bs)(b:c∈cs)(a:rD e c≠h):dO ⟨ks,cs,hs⟩ c.1 e h=.error 6:=by unfold dO;rw[Fz g b];exact if_neg a
def Qv(g:BIn ks cs bs):bN ks (S "far")=none:=List.find?_eq_none.mpr λq a=>by rw[cW ((g.kf q a).1.1)];decide
def Gf(g:BIn ks cs bs)(a:KIn ks 6 x):Kt ks 21 (bM bs) (cH 7 ks x) (.ok x):=vW (B9 g.wf) _ _ _ _ (C8 g.wf g.fit g.bnd a).1
def tH(g:BIn ks cs bs)(a:KIn ks 6 x):Rp 65 24000 (cH 7 ks x):=Gk (λb c=>(g.bsh b c).1) (C8 g.wf g.fit g.bnd a)
def A6{t:D}{k k':Str}(a:Kt ks 21 (bM bs) t (.ok k'))(b:k'≠k):nI ks bs t k (some 4):=⟨_,pP (aA Z) a,(yU b).symm⟩
def nZ{t:D}{k:Str}(a:Kt ks 22 (bM bs) t (.error c)):nI ks bs t k (some c):=⟨_,a,Z⟩
def Hx{i:Int}(h:Nm i):Kt ks 21 (bM bs) (aO i) (.ok (S "num")):=pP (qX _) (.inl ⟨i,Z,h.1,by have:=h.2;omega,by rw[if_pos h.2]⟩)
def Hh(g:BIn ks cs bs)(a:b∈bs):Kt ks 21 (bM bs) (fB b.1) (.ok b.2):=pP (qX _) (.inr ⟨b.1,Z,.inl ⟨b.2,wN g.bnd a,Z⟩⟩)
def Sj{i:Int}(h:Nm i):Rp 65 24000 (aO i):=(pV h.1 (by have:=h.2;omega)).mono (aA Z) (aA Z)
def Bo(h:Sh x):Rp 65 24000 (fB x):=(Rp.two (fR "box") (Rp.s (A:=0) h)).mono (aA Z) (aA Z)
def Sy{i:Int}(b:4294967296<=i)(a:i<2 ^ 33):BadR ks cs h bs (.tell (aO i)) 4:=oC (nZ (Ht b (by omega))) ((pV (by omega) a).mono (aA Z) (aA Z)) (aA Z) (aA Z)
def Q7{i j:Int}(a:Nm j)(c:4294967296<=i)(b:i<2 ^ 33):BadR ks cs h bs (.cond (iZ (S "+") (aO j) (aO i)) 0) 4:=
 Mf (nZ (Rc (Hx a) (Ht c (by omega)) Z)) ((Rp.four (fR "op") (Rp.s (A:=1) (fR "+")) (pV a.1 (by have:=a.2;omega)) (pV (by omega) b)).mono (aA Z) (aA Z)) (aA Z) (aA Z)
def P8(g:BIn ks cs bs):BadR ks cs h bs (.tell (fB (S "far"))) 2:=oC (nZ (Rb (Lu λq a=>(g.bsh q a).2.1) sh_far.le)) ((Bo sh_far).mono (aA Z) (aA Z)) (aA Z) (aA Z)
def T8(g:BIn ks cs bs){t:D}(a:Rp 65 24000 t):BadR ks cs h bs (.send (S "far") t) 2:=⟨vV (Vd g),sh_far.le,.inl Z,(Rp.three (fR "send") (Rp.s sh_far) a).mono (aA Z) (aA Z),aA Z,aA Z⟩
def Q8(g:BIn ks cs bs){t:D}(a:Rp 65 24000 t):BadR ks cs h bs (.set (S "far") t) 2:=⟨vV (Jo g),sh_far.le,.inl Z,(Rp.three (fR "set") (Rp.s sh_far) a).mono (aA Z) (aA Z),aA Z,aA Z⟩
def Cr(e:Sh l)(b:Sh c)(a:Sh x):Rp 70 127000 (Row.take l c x).d:=(Rp.four (fR "take") (Rp.s (A:=0) e) (Rp.s b) (Rp.s a)).mono (aA Z) (aA Z)
def Ta(g:BIn ks cs bs):BadR ks cs h bs (.take (S "mark") (S "far") (S "far")) 2:=⟨vV (Jo g),⟨sh_far.le,sh_far.le⟩,.inr Z,Cr Cu sh_far sh_far,aA Z,aA Z⟩
def Px(g:BIn ks cs bs):BadR ks cs h bs (.tell (eR (cI (S "far") []) (S "far"))) 2:=oC (nZ (A3 (U6 (E2 (Qv g)) sh_far.le) Z)) ((Rp.three (fR "get") (Rp.three (fR "rec") (Rp.s (A:=1) sh_far) (Rp.tup (A:=0) (B:=0) (N:=0) (ds:=[]) (λ_ h=>nomatch h) (qD _))) (Rp.s sh_far)).mono (aA Z) (aA Z)) (aA Z) (aA Z)
def T9(g:BIn ks cs bs)(a:c∈cs)(b:c.2.1≠h):BadR ks cs h bs (.send c.1 (cH 7 ks c.2.2.2)) 6:=⟨vV (Jw g a (e:=1) b),(g.csh c a).1.le,.inl Z,(Rp.three (fR "send") (Rp.s (g.csh c a).1) (tH g (g.ckin c a))).mono (aA Z) (aA Z),aA Z,aA Z⟩
def Tb(g:BIn ks cs bs)(a:c∈cs)(f:b∈bs)(j:c.2.2.1≠h):BadR ks cs h bs (.take (S "mark") c.1 b.1) 6:=⟨oV (Bv g f) (vV (Jw g a (e:=2) j)),⟨(g.csh c a).1.le,(g.bsh b f).1.le⟩,.inr Z,Cr Cu (g.csh c a).1 (g.bsh b f).1,aA Z,aA Z⟩
def Jm(g:BIn ks cs bs)(a:c∈cs)(l:c.2.1=h){t:D}{k:Str}(f:Kt ks 21 (bM bs) t (.ok k))(j:k≠c.2.2.2)(b:Rp 65 24000 t):BadR ks cs h bs (.send c.1 t) 4:=⟨oV (Hy g a (e:=1) l) (A6 f j),(g.csh c a).1.le,.inl Z,(Rp.three (fR "send") (Rp.s (g.csh c a).1) b).mono (aA Z) (aA Z),aA Z,aA Z⟩
def Tc(g:BIn ks cs bs)(a:c∈cs)(f:b∈bs)(l:c.2.2.1=h)(j:b.2≠c.2.2.2):BadR ks cs h bs (.take (S "mark") c.1 b.1) 4:=⟨oV (Bv g f) (oV (Hy g a (e:=2) l) (yU j).symm),⟨(g.csh c a).1.le,(g.bsh b f).1.le⟩,.inr Z,Cr Cu (g.csh c a).1 (g.bsh b f).1,aA Z,aA Z⟩
def Hg(g:BIn ks cs bs)(a:b∈bs){t:D}{k:Str}(e:Kt ks 21 (bM bs) t (.ok k))(f:k≠b.2)(c:Rp 65 24000 t):BadR ks cs h bs (.set b.1 t) 4:=⟨oV (Bv g a) (A6 e f),(g.bsh b a).1.le,.inl Z,(Rp.three (fR "set") (Rp.s (g.bsh b a).1) c).mono (aA Z) (aA Z),aA Z,aA Z⟩
def Jn{t:D}{k:Str}(b:Kt ks 21 (bM bs) t (.ok k))(c:k≠S "num")(a:Rp 65 24000 t):BadR ks cs h bs (.tell t) 4:=oC (A6 b c) (a.mono (aA Z) (aA Z)) (aA Z) (aA Z)
def Jl{t:D}{k:Str}(b:Kt ks 21 (bM bs) t (.ok k))(c:k≠S "num")(a:Rp 65 24000 t):BadR ks cs h bs (.cond t 0) 4:=Mf (A6 b c) (a.mono (aA Z) (aA Z)) (aA Z) (aA Z)
end
theorem Hk(a b:List D):gJ (a++b)=max (gJ a) (gJ b):=by
 induction a with
 |nil=>show gJ b=max 0 (gJ b);omega
 |cons x a c=>rw[List.cons_append,wM,wM,c];omega
def Sk(c:fW a)(f:fW b):fW (a++b):=by
 induction a with
 |nil=>exact f
 |cons x a e=>exact⟨c.1,e c.2⟩
theorem Ic(a b:List D):eE (a++b)=eE a+eE b:=by
 induction a with
 |nil=>rw[List.nil_append,Cs,Nat.zero_add]
 |cons x a c=>rw[List.cons_append,xG,xG,c];omega
def Ug(h:fW (a++b)):fW a:=by
 induction a with
 |nil=>trivial
 |cons x a c=>exact⟨h.1,c h.2⟩
def Rp.more{A B C:Nat}{d:D}(h:Rp A B (.tup es))(hd:Rp 1 C d)(c:2<=A):Rp A (B+C+2) (.tup (es++[d])):=by
 have b:=h.dp;have a:=h.sz;have f:=hd.dp;have e:=hd.sz;rw[wF]at b;rw[wQ]at a;refine⟨by rw[wF,Hk];show max _ (max d.deep 0)+1<=_;omega,Sk h.ok ⟨hd.ok,trivial⟩,?_⟩;rw[wQ,Ic];show _+(eS d+2+0)+4<=_;omega
def Rp.init{A B:Nat}(h:Rp A B (.tup es)):Rp A B (.tup es.dropLast):=by
 have c:=h.dp;have b:=h.sz;have e:fW es:=h.ok;rw[wF]at c;rw[wQ]at b;rcases List.eq_nil_or_concat es with rfl |⟨a,d,rfl⟩
 ·exact h
 ·rw[List.concat_eq_append]at *
  rw[List.dropLast_concat];rw[Hk]at c;rw[Ic]at b;exact⟨by rw[wF];omega,Ug e,by rw[wQ];omega⟩
def Rp.third{A B:Nat}{d:D}(h:Rp A B (.tup [.str x,.str y,d])):Rp (A-1) B d:=by
 have b:max 0 (max 0 (max d.deep 0))+1<=A:=h.dp;have a:10*x.length+2+2+(10*y.length+2+2+(eS d+2+0))+4<=B:=h.sz;exact⟨by omega,h.ok.2.2.1,by omega⟩
theorem Ms{d:D}(hd:R d (.ok (S "num"))):∀{ps:List (Str×Str)},(∀p∈ps,R (f p) (.ok p.2))->(∃q,ps.getLast?=some q/\q.2≠S "num")->AllN R ((ps.map f).dropLast++[d]) ps (some 4)
 |[],_,h=>by obtain⟨_,h,_⟩:=h;cases h
 |[p],_,h=>by
  obtain⟨q,h,b⟩:=h;cases h;exact⟨_,hd,.inl ⟨4,yU (Ne.symm b),Z⟩⟩
 |p::q::r,a,h=>⟨_,a p (by simp),.inr ⟨nk_ok,Ms hd (ps:=q::r) (λz hz=>a z (qO _ hz)) (by rwa[List.getLast?_cons_cons]at h)⟩⟩
section
variable {ks:List Kn}{cs:List cR}{h:Str}{bs:List (Str×Str)}
def Bw(g:BIn ks cs bs)(a:KIn ks m x)(hn:m<=n):Kt ks n (bM bs) (cH (m+1) ks x) (.ok x):=pP hn (vW (B9 g.wf) _ _ _ _ ((yR g.wf m x a).2 _ (Ac g.bnd)))
def hU(g:BIn ks cs bs){k:Kn}(a:k∈ks):KIn ks 6 k.name:=(KIn.of (.inr ⟨k,a,Z⟩)).mono g.few
def Dj(g:BIn ks cs bs){k:Kn}(b:k∈ks)(c:p∈k.parts):KIn ks 6 p.2:=by
 rcases(hU g b).look g.wf with⟨e,_⟩ |⟨j,k',f,e,_,_,a⟩
 ·exact absurd e (mZ (g.wf.nm k b))
 ·rw[oD g.wf.nd b]at e
  cases e;exact(a p c).mono (by omega)
def fX(ks:List Kn)(k:Kn)(p:Str×Str):D:=iI k.name p.1 (cH 7 ks p.2)
def eK(x:Str)(ps:List (Str×Str)):List fZ:=ps.map λp=>(p.1,x,aO 7)
def Co(g:BIn ks cs bs){k:Kn}(b:k∈ks)(c:k.rc=false)(a:k.parts=p::ps):Kt ks 21 (bM bs) (fX ks k p) (.ok k.name):=
 Re (oD g.wf.nd b) c (by unfold gN;rw[a,List.find?_cons,cS Z];rfl) (Bw g (Dj g b (by rw[a];simp)) (aA Z))
def U0(g:BIn ks cs bs){k:Kn}(a:k∈ks)(b:p∈k.parts):Rp 66 25000 (fX ks k p):=(Rp.four (fR "tag") (Rp.s (iR (g.wf.nm k a))) (Rp.s (iR (g.wf.pnm k a p b))) (tH g (Dj g a b))).mono (aA Z) (aA Z)
def Pu(a:Sh x){rs:List fZ}(b:∀r∈rs,Sh r.1/\r.2.1=x/\r.2.2=aO 7)(e:rs.length<=10):Rp 66 25000 (.tup (rs.map fL)):=by
 refine(Rp.tup (A:=2) (B:=402) (N:=10) (ds:=rs.map fL) (λd hd=>?_) (by rw[aM];exact e)).mono (aA Z) (aA Z);obtain⟨r,c,rfl⟩:=fV hd;obtain⟨j,g,f⟩:=b r c;show Rp 2 402 (.tup [.str r.1,.str r.2.1,r.2.2]);rw[g,f];exact(Rp.three j (Rp.s a) (pV (aA Z) (aA Z))).mono (aA Z) (aA Z)
def Cf(g:BIn ks cs bs){k:Kn}(f:k∈ks){p:Str×Str}(c:p∈k.parts)(a:Sh x){rs:List fZ}(b:∀r∈rs,Sh r.1/\r.2.1=x/\r.2.2=aO 7)(e:rs.length<=10):Rp 69 126000 (mN (fX ks k p) rs):=(Rp.three (fR "case") (U0 g f c) (Pu a b e)).mono (aA Z) (aA Z)
def Jk(a:r∈eK x ps):∃p∈ps,r=(p.1,x,aO 7):=by
 obtain⟨p,b,e⟩:=fV a;exact⟨p,b,e.symm⟩
theorem wL(g:BIn ks cs bs){k:Kn}(c:k∈ks)(a:r∈eK x k.parts):Sh r.1/\r.2.1=x/\r.2.2=aO 7:=by
 obtain⟨p,b,rfl⟩:=Jk a;exact⟨iR (g.wf.pnm k c p b),Z,Z⟩
theorem D7(x:Str)(ps:List (Str×Str)):(eK x ps).map (·.1)=ps.map (·.1):=by
 unfold eK;rw[List.map_map];rfl
theorem D9{k:Kn}(a:r∈eK x k.parts):r.1∈k.parts.map (·.1):=by
 obtain⟨p,b,rfl⟩:=Jk a;exact qP b
theorem Ab(x:Str)(ps:List (Str×Str)):(eK x ps).length=ps.length:=aM _
def Sz(g:BIn ks cs bs){k:Kn}(b:k∈ks)(a:k.rc=false)(f:k.parts=p::ps):BadR ks cs h bs (.tell (mN (fX ks k p) ((eK (S "far") k.parts).drop 1))) 5:=by
 have m:=g.wf.pts k b;have c:∀r∈(eK (S "far") k.parts).drop 1,r∈eK (S "far") k.parts:=λr a=>List.mem_of_mem_drop a;have e:((eK (S "far") k.parts).drop 1).length=k.parts.length-1:=by rw[List.length_drop,Ab]
 refine oC (nZ (Lx (by omega) (Co g b a f) (oD g.wf.nd b) a ?_ λz hz=>(wL g b (c z hz)).1.le)) (Cf g b (by rw[f];simp) sh_far (λr a=>wL g b (c r a)) (by omega)) (aA Z) (aA Z);unfold lM
 have hnd:(((eK (S "far") k.parts).drop 1).map (·.1)).Nodup:=by
  rw[List.map_drop,D7];exact(g.wf.pnd k b).sublist (List.drop_sublist _ _)
 have j:((eK (S "far") k.parts).drop 1).length<k.parts.length:=by
  rw[e,f];show ps.length+1-1<ps.length+1;omega
 rw[if_neg (λl=>l λr a=>D9 (c r a)),if_neg (λl=>l hnd),if_pos j]
def Td(g:BIn ks cs bs){k:Kn}(c:k∈ks)(a:k.rc=false)(e:k.parts=p::ps):BadR ks cs h bs (.tell (mN (fX ks k p) (eK (S "far") k.parts++(eK (S "far") k.parts).take 1))) 1:=by
 have l:=g.wf.pts k c
 have b:∀r∈eK (S "far") k.parts++(eK (S "far") k.parts).take 1,r∈eK (S "far") k.parts:=λr a=>by
  rcases dD a with a |a
  ·exact a
  ·exact qW a
 have f:(eK (S "far") k.parts++(eK (S "far") k.parts).take 1).length<=6:=by rw[bS,List.length_take,Ab];omega
 refine oC (nZ (Lx (by omega) (Co g c a e) (oD g.wf.nd c) a ?_ λz hz=>(wL g c (b z hz)).1.le)) (Cf g c (by rw[e];simp) sh_far (λr a=>wL g c (b r a)) (by omega)) (aA Z) (aA Z);unfold lM;rw[if_neg (λj=>j λr a=>D9 (b r a)),if_pos ?_];rw[bZ,List.map_take,D7,e];intro nd;exact(List.nodup_append.mp nd).2.2 p.1 (by simp) p.1 (by simp) Z
def Pw(g:BIn ks cs bs){k:Kn}(c:k∈ks)(a:k.rc=false)(j:k.parts=p::ps)(m:b∈bs):BadR ks cs h bs (.tell (mN (fX ks k p) (eK b.1 k.parts))) 1:=by
 have u:=g.wf.pts k c;have f:=Ab b.1 k.parts;have e:eK b.1 k.parts=(p.1,b.1,aO 7)::eK b.1 ps:=by rw[j];rfl
 have n:=Cf g c (p:=p) (by rw[j];simp) (g.bsh b m).1 (λr a=>wL (x:=b.1) g c a) (by omega)
 have o:lM k (eK b.1 k.parts)=none:=by
  unfold lM;rw[if_neg (λl=>l λr a=>D9 a),if_neg (λl=>l (by rw[D7];exact g.wf.pnd k c)),if_neg (by omega)]
 rw[e]at n o f⊢;exact oC (nZ (W6 (by omega) (Co g c a j) (oD g.wf.nd c) a o (.inl ⟨by show bM bs b.1≠none;rw[wN g.bnd m];exact(λh=>nomatch h),(g.bsh b m).1.le,Z⟩))) n (aA Z) (aA Z)
theorem Dv(g:BIn ks cs bs){k:Kn}(a:k∈ks)(f:k.rc=true):cH 7 ks k.name=cI k.name (k.parts.map λp=>cH 6 ks p.2)/\∀p∈k.parts,KIn ks 5 p.2:=by
 rcases(hU g a).nu g.wf with⟨e,_⟩ |⟨j,k',l,e,_,_,b,_,⟨_,m,_⟩ |⟨c,_⟩⟩
 ·exact absurd e (mZ (g.wf.nm k a))
 ·rw[oD g.wf.nd a]at e
  cases e;cases l;exact⟨m,b⟩
 ·rw[oD g.wf.nd a]at e
  cases e;rw[f]at c;cases c
def Ba(g:BIn ks cs bs){k:Kn}(a:k∈ks)(b:k.rc=true):Rp 64 24000 (.tup (k.parts.map λp=>cH 6 ks p.2)):=by
 have:=tH g (hU g a);rw[(Dv g a b).1]at this;exact this.third
def Br(a:Sh x)(b:Sh f)(h:Rp 64 24200 (.tup es)):Rp 69 126000 (eR (cI x es) f):=(Rp.three (fR "get") (Rp.three (fR "rec") (Rp.s a) h) (Rp.s b)).mono (aA Z) (aA Z)
def Pz(g:BIn ks cs bs){k:Kn}(a:k∈ks)(b:k.rc=true)(c:Sh f):BadR ks cs h bs (.tell (eR (cI k.name ((k.parts.map λp=>cH 6 ks p.2)++[aO 1])) f)) 3:=
 oC (nZ (A3 (L5 (oD g.wf.nd a) b (by rw[bS,aM];show _+1≠_;omega)) Z)) (Br (iR (g.wf.nm k a)) c (((Ba g a b).more (pV (i:=1) (aA Z) (aA Z)) (aA Z)).mono (aA Z) (aA Z))) (aA Z) (aA Z)
def Sx(g:BIn ks cs bs){k:Kn}(b:k∈ks)(c:k.rc=true)(a:k.parts≠[])(e:Sh f):BadR ks cs h bs (.tell (eR (cI k.name (k.parts.map λp=>cH 6 ks p.2).dropLast) f)) 3:=
 oC (nZ (A3 (L5 (oD g.wf.nd b) c (by have:=List.length_pos_iff.mpr a;rw[List.length_dropLast,aM];omega)) Z)) (Br (iR (g.wf.nm k b)) e ((Ba g b c).init.mono (aA Z) (aA Z))) (aA Z) (aA Z)
def T7(g:BIn ks cs bs){k:Kn}(a:k∈ks)(b:k.rc=true){q:Str×Str}(c:k.parts.getLast?=some q)(hn:q.2≠S "num")(n:Sh f):BadR ks cs h bs (.tell (eR (cI k.name ((k.parts.map λp=>cH 6 ks p.2).dropLast++[aO 1])) f)) 4:=by
 have j:k.parts≠[]:=λe=>by rw[e]at c;cases c
 refine oC (nZ (A3 (U5 (oD g.wf.nd a) b (by have:=List.length_pos_iff.mpr j;rw[bS,List.length_dropLast,aM];show _-1+1=_;omega) (Ms (pP (m:=20) (qX _) (.inl ⟨1,Z,aA Z,aA Z,Z⟩)) (λp l=>Bw g ((Dv g a b).2 p l) (aA Z)) ⟨q,c,hn⟩)) Z)) (Br (iR (g.wf.nm k a)) n (((Ba g a b).init.more (pV (i:=1) (aA Z) (aA Z)) (aA Z)).mono (aA Z) (aA Z))) (aA Z) (aA Z)
def Py(g:BIn ks cs bs){k:Kn}(a:k∈ks)(b:k.rc=true):BadR ks cs h bs (.tell (eR (cH 7 ks k.name) (S "far"))) 2:=
 oC (nZ (U4 (Bw g (hU g a) (aA Z)) (oD g.wf.nd a) b (by unfold gN;rw[List.find?_eq_none.mpr λq c=>by rw[cW (((g.kf k a).2 q c).1)];decide];rfl) sh_far.le)) ((Rp.three (fR "get") (tH g (hU g a)) (Rp.s sh_far)).mono (aA Z) (aA Z)) (aA Z) (aA Z)
def Hs(g:BIn ks cs bs){k:Kn}(a:k∈ks):k.name≠S "num":=mZ (g.wf.nm k a)
end
def eD(r:Row)(c:Nat):D:=.tup [r.d,.str (eL c)]
def EntAt(ks:List Kn)(cs:List cR)(h:Str)(bs:List (Str×Str))(H:Hp)(w:V):Prop:=∃r c,RelD H w (eD r c)/\BadR ks cs h bs r c
theorem EntAt.tups{cs:List cR}{bs:List (Str×Str)}{w:V}(e:EntAt ks cs h bs H w)(t:∀b vs,H b=some (.tup vs)->a b=some (.tup vs)):EntAt ks cs h bs a w:=by
 obtain⟨r,c,g,f⟩:=e;exact⟨r,c,g.tups t _,f⟩
def ent(h1:H t1=none)(hr:RelDs H us r.as)(h2:upd H t1 (.tup (.str r.hd::us)) t2=none):Same H (upd (upd H t1 (.tup (.str r.hd::us))) t2 (.tup [.ref t1,.str (eL c)]))/\RelD (upd (upd H t1 (.tup (.str r.hd::us))) t2 (.tup [.ref t1,.str (eL c)])) (.ref t2) (eD r c):=by
 have s1:=zA h1 (.tup (.str r.hd::us));have s2:=zA h2 (.tup [.ref t1,.str (eL c)]);exact⟨s1.trans s2,t2,_,rfl,aD,_,_,rfl,⟨t1,_,rfl,s2 _ _ aD,_,_,rfl,rfl,hr.same (s1.trans s2) _⟩,_,_,rfl,rfl,rfl⟩
structure BLs(ks:List Kn)(cs:List cR)(h:Str)(bs:List (Str×Str))(H0 H:Hp)(l:Addr)(ws:List V)(N:Nat):Prop where
 sm:Same H0 H
 fr:H0 l=none
 at_:H l=some (.lst ws)
 all:∀w∈ws,EntAt ks cs h bs H w
 len:ws.length<=N
section
variable {ks:List Kn}{cs:List cR}{h:Str}{bs:List (Str×Str)}{H0 H:Hp}{l:Addr}{ws:List V}{N:Nat}
theorem BLs.up(b:BLs ks cs h bs c H l ws N)(hn:N<=a):BLs ks cs h bs c H l ws a:=⟨b.sm,b.fr,b.at_,b.all,qC b.len hn⟩
theorem BLs.keep(b:BLs ks cs h bs e H l ws N)(s:Same H a):BLs ks cs h bs e a l ws N:=⟨b.sm.trans s,b.fr,s _ _ b.at_,λw c=>(b.all w c).tups (Same.tups s),b.len⟩
def BLs.add(b:BLs ks cs h bs H0 H l ws N)(s:Same H H1)(e:EntAt ks cs h bs H1 v):BLs ks cs h bs H0 (upd H1 l (.lst (ws++[v]))) l (ws++[v]) (N+1):=by
 have b1:=b.keep s
 have tp:∀a vs,H1 a=some (.tup vs)->upd H1 l (.lst (ws++[v])) a=some (.tup vs):=λa vs e=>by
  rw[cO λz=>by rw[z,b1.at_]at e;cases e];exact e
 refine⟨λa o e=>?_,b.fr,aD,λw hw=>?_,?_⟩
 ·rw[cO (dJ e b.fr)]
  exact b1.sm _ _ e
 ·rcases dD hw with hw |hw
  ·exact(b1.all w hw).tups tp
  ·rw[cD hw]
   exact e.tups tp
 ·have:=b.len
  rw[bS,List.length_singleton];omega
theorem BLs.ent(b:BLs ks cs h bs o H l ws N)(n:H f=none)(j:RelDs H us r.as)(m:upd H f (.tup (.str r.hd::us)) t2=none)(g:BadR ks cs h bs r c):upd (upd H f (.tup (.str r.hd::us))) t2 (.tup [.ref f,.str (eL c)]) l=some (.lst ws)/\BLs ks cs h bs o (upd (upd (upd H f (.tup (.str r.hd::us))) t2 (.tup [.ref f,.str (eL c)])) l (.lst (ws++[.ref t2]))) l (ws++[.ref t2]) (N+1)/\∀a vs,H a=some (.tup vs)->upd (upd (upd H f (.tup (.str r.hd::us))) t2 (.tup [.ref f,.str (eL c)])) l (.lst (ws++[.ref t2])) a=some (.tup vs):=by
 obtain⟨s,e⟩:=M.ent (c:=c) n j m
 exact⟨s _ _ b.at_,b.add s ⟨r,c,e,g⟩,λa vs e=>by
  rw[cO λz=>by rw[z,b.at_]at e;cases e];exact s _ _ e⟩
def BLs.cat{D:Addr}(b:BLs ks cs h bs H0 H l ws N)(s:Same H H1)(hy:∀w∈ys,EntAt ks cs h bs H1 w)(hm:ys.length<=M)(hD:H1 D=none):BLs ks cs h bs H0 (upd H1 D (.lst (ws++ys))) D (ws++ys) (N+M):=by
 have b1:=b.keep s;have sD:=zA hD (.lst (ws++ys));refine⟨b1.sm.trans sD,pZ b1.sm hD,aD,λw hw=>?_,?_⟩
 ·rcases dD hw with hw |hw
  ·exact(b1.all w hw).tups (Same.tups sD)
  ·exact(hy w hw).tups (Same.tups sD)
 ·have:=b.len
  rw[bS];omega
def Ls(s:Same H b)(c:∀w∈ws,EntAt ks cs h bs H w)(e:EntAt ks cs h bs b v):∀w∈ws++[v],EntAt ks cs h bs b w:=λw a=>by
 rcases dD a with a |a
 ·exact(c w a).tups (Same.tups s)
 ·rw[cD a]
  exact e
theorem BLs.nil(s:Same b H)(a:H l=none):BLs ks cs h bs b (upd H l (.lst [])) l [] 0:=⟨s.trans (zA a _),pZ s a,aD,(λ_ h=>nomatch h),qD _⟩
end
end M
end
section
namespace L2
open PySem PySem.Spec PyProof.Rows M
theorem X5{xs:List V}(h:HT.sIx xs.length 0 a=0/\HT.sIx xs.length xs.length hi=xs.length):bI xs a hi=xs:=by
 unfold bI;rw[h.1,h.2];simp
def nA{K:Fg}{H:Hp}{a:Addr}{xs:List V}{c hi:Option Int}{Q:VK}(e:H a=some (.tup xs))(q:∀p b,Same H b->b p=some (.tup (bI xs c hi))->Q (.ref p) b):Bc K (.ref a) c hi H Q:=by
 refine⟨a,xs,Z,zD e,λh=>q a H (Same.refl _) (by rw[X5 h];exact e),λ_ p f=>q p _ (zA f _) aD⟩
def dW{K:Fg}{H:Hp}{a b:Addr}{xs zs:List V}{Q:VK}(g:H a=some (.tup xs))(f:H b=some (.tup zs))(i:xs.length+zs.length<=sizeLine)(q:∀p c,Same H c->c p=some (.tup (xs++zs))->Q (.ref p) c):C7 K (.ref a) (.ref b) H Q:=by
 refine⟨a,b,xs,zs,Z,Z,zD g,zD f,i,λe=>q b H (Same.refl _) (by rw[e];exact f),λ_ e=>q a H (Same.refl _) (by rw[e,List.append_nil];exact g),λ_ _ p h=>q p _ (zA h _) aD⟩
theorem rG(us:List V)(k:Nat):bI us none (some (k:Int))=us.take k:=by
 unfold bI;rw[HT.sIx_none,HT.sIx_nat,List.drop_zero,Nat.sub_zero];rcases Nat.le_total k us.length with h |h
 ·rw[Nat.min_eq_left h]
 ·rw[Nat.min_eq_right h,fH (qD _),fH h]
theorem xC(us:List V)(k:Nat):bI us (some (k:Int)) none=us.drop k:=by
 unfold bI;rw[HT.sIx_none,HT.sIx_nat];rcases Nat.le_total k us.length with h |h
 ·rw[Nat.min_eq_left h,fH (by rw[List.length_drop];exact qD _)]
 ·rw[Nat.min_eq_right h,Nat.sub_self,List.take_zero,List.drop_eq_nil_of_le h]
theorem Dc(us:List V):bI us none (some (-1))=us.dropLast:=by
 rcases List.eq_nil_or_concat us with rfl |⟨as,v,rfl⟩
 ·rfl
 ·rw[List.concat_eq_append,List.dropLast_concat]
  have e:HT.sIx (as++[v]).length (as++[v]).length (some (-1))=as.length:=by
   rw[bS,List.length_singleton];show(if (-1:Int)<0 then ((-1:Int)+((as.length+1:Nat):Int)).toNat else min (-1:Int).toNat (as.length+1))=as.length;rw[if_pos (aA Z)];omega
  unfold bI;rw[e,HT.sIx_none,List.drop_zero,Nat.sub_zero,List.take_append_of_le_length (qD _),fH (qD _)]
end L2
namespace M
open PySem L2
theorem RelDs.take:∀{vs:List V} {ds:List D} (k:Nat),RelDs H vs ds->RelDs H (vs.take k) (ds.take k)
 |vs,ds,0,_=>Z
 |vs,[],k+1,h=>by rw[show vs=[] from h];rfl
 |vs,d::ds,k+1,⟨v,r,e,b,a⟩=>by subst e;exact⟨v,r.take k,Z,b,RelDs.take k a⟩
theorem RelDs.drop:∀{vs:List V} {ds:List D} (k:Nat),RelDs H vs ds->RelDs H (vs.drop k) (ds.drop k)
 |vs,ds,0,h=>h
 |vs,[],k+1,h=>by rw[show vs=[] from h];rfl
 |vs,d::ds,k+1,⟨v,r,e,b,a⟩=>by subst e;exact RelDs.drop k a
def RelDs.init(h:RelDs H vs ds):RelDs H vs.dropLast ds.dropLast:=by
 rw[List.dropLast_eq_take,List.dropLast_eq_take,h.length];exact h.take _
theorem KWf.pre{as:List Kn}:∀{r:List Kn},KWf (as++r)->KWf as:=λ{r} w=>by
 have sub:∀k∈as,k∈as++r:=λk a=>zU _ a;refine⟨?_,λk a=>w.nm k (sub k a),λi k a p c=>?_,λk a=>w.alt k (sub k a),?_,λk a=>w.pts k (sub k a),λk a=>w.pnd k (sub k a),λk a=>w.pnm k (sub k a)⟩
 ·have:=w.nd
  rw[bZ]at this;exact(List.nodup_append.mp this).1
 ·have hi:=(cV a).1
  rcases w.ref i k (by rw[List.getElem?_append_left hi];exact a) p c with h |⟨j,k',f,b,e⟩
  ·exact .inl h
  ·exact .inr ⟨j,k',f,by rw[List.getElem?_append_left (by omega)]at b;exact b,e⟩
 ·have:=w.few
  rw[bS]at this;omega
theorem Fit.pre{as r:List Kn}(w:KWf (as++r))(f:Fit (as++r)):Fit as:=λk a=>by
 have:=f k (zU _ a);rw[vX w.pre w (KIn.of (.inr ⟨k,a,Z⟩))]at this;exact this
theorem Xx{as r:List Kn}{k:Kn}(w:KWf (as++k::r))(f:Fit (as++k::r)):bR as k=none:=by
 have a:KWf (as++[k]):=KWf.pre (r:=r) (by rw[List.append_assoc];exact w);have z:Fit (as++[k]):=Fit.pre (r:=r) (by rw[List.append_assoc];exact w) (by rw[List.append_assoc];exact f);have n:KWf as:=a.pre;have b:k∈as++[k]:=by simp
 have l:∀p∈k.parts,p.2=S "num"\/p.2∈as.map Kn.name:=λp l=>by
  rcases a.ref as.length k (by simp) p l with h |⟨j,k',u,c,e⟩
  ·exact .inl h
  ·rw[List.getElem?_append_left u]at c
   exact .inr (by rw[<- e];exact qP (cJ c))
 have y:twB as k=false:=by
  unfold twB gF mI;rw[cW,cS (a.pnd k b)]
  ·rfl
  ·intro o
   have:=a.nd;rw[bZ]at this;exact(List.nodup_append.mp this).2.2 _ o _ (by simp) Z
 have m:lP as k=false:=by
  unfold lP;rw[List.any_eq_false];intro p g;unfold pK gF;rcases l p g with e |e
  ·rw[cS e];simp
  ·rw[cS e];simp
 have x:gI as k=false:=by
  unfold gI;apply cW;have:=z k b;rw[A7 n a (wZ m)]at this;omega
 unfold bR;rw[y,m,x];rfl
theorem Ma:∀(ks as more:List Kn),dB as ks=none->dB as (ks++more)=dB (as++ks) more
 |[],as,more,_=>by rw[List.nil_append,List.append_nil]
 | k::ks,as,more,h=>by
  have h':(match bR as k with |some c=>some c |none=>dB (as++[k]) ks)=none:=h;show(match bR as k with |some c=>some c |none=>dB (as++[k]) (ks++more))=_
  cases e:bR as k with
  |some c=>rw[e]at h';cases h'
  |none=>
   rw[e]at h';have:=Ma ks (as++[k]) more h';rw[List.append_assoc]at this;exact this
theorem Aj{as:List Kn}:∀{ks:List Kn},KWf (as++ks)->Fit (as++ks)->dB as ks=none
 |[],_,_=>Z
 |k::ks,w,f=>by
  show(match bR as k with |some c=>some c |none=>dB (as++[k]) ks)=none;rw[Xx w f];exact Aj (as:=as++[k]) (by rw[List.append_assoc];exact w) (by rw[List.append_assoc];exact f)
structure KG(nms:List Str)(ks:List Kn):Prop where
 wf:KWf ks
 fit:Fit ks
 k4:ks.length<=4
 kn:ks.map Kn.name=nms.take ks.length
 kp:∀k∈ks,∀p∈k.parts,p.1∈nms
structure BadK(ks:List Kn)(c:Nat):Prop where
 r:dB [] ks=some c
 ka:KAny ks
 c8:1<=c/\c<=8
section
variable {nms:List Str}{ks:List Kn}
def pT(ok:iM a){i j:Nat}{x y:Str}(c:a[i]?=some x)(b:a[j]?=some y)(h:i≠j):x≠y:=λe=>by
 obtain⟨m,g⟩:=cV c;obtain⟨l,f⟩:=cV b;exact h ((List.getElem_inj ok.2.1).mp (by rw[g,f];exact e))
def Hw(ok:iM a){i n:Nat}(c:a[i]?=some x)(h:n<=i):x ∉a.take n:=λe=>by
 obtain⟨j,b⟩:=List.getElem?_of_mem e;rw[List.getElem?_take]at b;split at b
 ·exact pT ok c b (by omega) Z
 ·cases b
theorem oX(ok:iM a)(g:KG a ks){i:Nat}(b:a[i]?=some x)(h:4<=i):x ∉ks.map Kn.name:=by
 rw[g.kn];exact Hw ok b (by have:=g.k4;omega)
theorem gU(ok:iM a){i:Nat}{x:Str}(b:a[i]?=some x):Name x:=ok.2.2 x (cJ b)
theorem Mb(g:KG a ks){more:List Kn}:dB [] (ks++more)=dB ks more:=Ma ks [] more (Aj (as:=[]) g.wf g.fit)
theorem Aa(w:KAny ks)(e:ks.length<=5){k:Kn}(h:K1 k):KAny (ks++[k]):=by
 have a:∀{p:Kn->Prop},(∀k∈ks,p k)->p k->∀z∈ks++[k],p z:=λc b z hz=>by
  rcases dD hz with hz |hz
  ·exact c z hz
  ·rw[cD hz];exact b
 refine⟨a w.nm h.nm,a w.alt h.alt,?_,a w.pts h.pts,a w.pnm h.pnm,a w.pkd h.pkd⟩;rw[bS,List.length_singleton];omega
def A2(g:KG nms ks){k:Kn}(h:K1 k)(hc:bR ks k=some c)(c8:1<=c/\c<=8):BadK (ks++[k]) c:=⟨by rw[Mb g];show(match bR ks k with |some c=>some c |none=>_)=_;rw[hc],Aa g.wf.any (by have:=g.k4;omega) h,c8⟩
def Pp{k:Kn}(h:k.name∈ks.map Kn.name):bR ks k=some 1:=by
 unfold bR twB gF;rw[cS h];rfl
def Ss{k:Kn}(h:¬(k.parts.map (·.1)).Nodup):bR ks k=some 1:=by
 unfold bR twB mI;rw[cW h];simp
theorem yT{k:Kn}(b:k.name ∉ks.map Kn.name)(a:(k.parts.map (·.1)).Nodup):twB ks k=false:=by
 unfold twB gF mI;rw[cW b,cS a];rfl
def Gc{k:Kn}(e:k.name ∉ks.map Kn.name)(c:(k.parts.map (·.1)).Nodup)(a:p∈k.parts)(hn:p.2≠S "num")(b:p.2 ∉ks.map Kn.name):bR ks k=some 2:=by
 have:lP ks k=true:=by
  unfold lP;rw[List.any_eq_true];refine⟨p,a,?_⟩;unfold pK gF;rw[cW hn,cW b];rfl
 unfold bR;rw[yT e c,this];rfl
def tM(b:Name x)(c:ps.length<=5)(a:∀p∈ps,Name p.1/\(p.2=S "num"\/Name p.2)):K1 ⟨x,true,ps⟩:=⟨b,(λh=>nomatch h),c,λp h=>(a p h).1,λp h=>(a p h).2⟩
def Qb(g:KG b ks){k:Kn}(a:k∈ks):BadK (ks++[⟨k.name,true,[]⟩]) 1:=A2 g (tM (g.wf.nm k a) (aA Z) (λp c=>absurd c List.not_mem_nil)) (Pp (show k.name∈ks.map Kn.name from qP a)) (aA Z)
def Qa(ok:iM c)(g:KG c ks)(h:c[6]?=some x)(f:c[8]?=some a)(j:c[9]?=some b):BadK (ks++[⟨x,true,[(a,S "num"),(b,S "num"),(a,S "num")]⟩]) 1:=
 A2 g (tM (gU ok h) (by show 3<=5;decide) (λp e=>by
  simp only[List.mem_cons,List.not_mem_nil,or_false]at e;rcases e with rfl |rfl |rfl
  ·exact⟨gU ok f,.inl Z⟩
  ·exact⟨gU ok j,.inl Z⟩
  ·exact⟨gU ok f,.inl Z⟩)) (Ss (by show ¬ [a,b,a].Nodup;simp)) (aA Z)
def Tf(ok:iM c)(g:KG c ks){x a b:Str}(e:c[6]?=some x)(j:c[8]?=some a)(h:c[9]?=some b):BadK (ks++[⟨x,false,[(a,S "num"),(b,x)]⟩]) 2:=
 A2 g ⟨gU ok e,(λ_=>by simp),(by show 2<=5;decide),(λp f=>by
  simp only[List.mem_cons,List.not_mem_nil,or_false]at f;rcases f with rfl |rfl
  ·exact gU ok j
  ·exact gU ok h),(λp f=>by
  simp only[List.mem_cons,List.not_mem_nil,or_false]at f;rcases f with rfl |rfl
  ·exact .inl Z
  ·exact .inr (gU ok e))⟩ (Gc (oX ok g e (aA Z)) (by show[a,b].Nodup;have:=pT ok j h (aA Z);simpa using this) (p:=(b,x)) (by simp) (mZ (gU ok e)) (oX ok g e (aA Z))) (aA Z)
def Te(ok:iM c)(g:KG c ks)(f:c[6]?=some x)(j:c[8]?=some a)(e:c[7]?=some b):BadK (ks++[⟨x,true,[(a,b)]⟩]) 2:=
 A2 g (tM (gU ok f) (by show 1<=5;decide) (λp h=>by
  rw[cD h];exact⟨gU ok j,.inr (gU ok e)⟩)) (Gc (oX ok g f (aA Z)) (by show[a].Nodup;simp) (p:=(a,b)) (by simp) (mZ (gU ok e)) (oX ok g e (aA Z))) (aA Z)
def four(nms:List Str)(y:Str):List (Str×Str):=((nms.drop 8).take 4).map λf=>(f,y)
def Q9 (ok:iM e) (g:KG e ks) (h3:ks.length<=3) {u m J a b:Str} (I:e[5]?=some u) (x:e[6]?=some m) (O:e[4]?=some J) (ha:e[8]?=some a) (M:e[9]?=some b) :
  BadK (ks++[⟨u,true,four e (S "num")⟩,⟨m,true,four e u⟩,⟨J,true,[(a,m),(b,m)]⟩]) 8:=by
 have hl:((e.drop 8).take 4).length=4:=by rw[List.length_take,List.length_drop,ok.1];decide
 have G:∀y,(four e y).map (·.1)=(e.drop 8).take 4:=λy=>by unfold four;rw[List.map_map];exact List.map_id _
 have hnd:∀y,((four e y).map (·.1)).Nodup:=λy=>by rw[G];exact ok.2.1.sublist ((List.take_sublist _ _).trans (List.drop_sublist _ _))
 have o:∀y p,p∈four e y->Name p.1/\p.2=y:=λy p j=>by
  obtain⟨f,hf,rfl⟩:=fV j;exact⟨ok.2.2 f (List.mem_of_mem_drop (qW hf)),Z⟩
 have r:∀y,(four e y).length=4:=λy=>by unfold four;rw[aM,hl]
 have sum:∀(y:Str) (F:Str->Int),((four e y).map λp=>F p.2).sum=4*F y:=λy F=>by
  have:(four e y).map (λp=>F p.2)=List.replicate 4 (F y):=by
   rw[List.eq_replicate_iff];refine⟨by rw[aM,r],λb M=>?_⟩;obtain⟨p,j,rfl⟩:=fV M;rw[(o y p j).2]
  rw[this];simp;omega
 let h:Kn:=⟨u,true,four e (S "num")⟩
 let l:Kn:=⟨m,true,four e u⟩
 let w:Kn:=⟨J,true,[(a,m),(b,m)]⟩
 have q5:K1 h:=tM (gU ok I) (by rw[r];decide) λp j=>⟨(o _ p j).1,.inl (o _ p j).2⟩;have q6:K1 l:=tM (gU ok x) (by rw[r];decide) λp j=>⟨(o _ p j).1,.inr (by rw[(o _ p j).2];exact gU ok I)⟩
 have q4:K1 w:=tM (gU ok O) (by show 2<=5;decide) λp j=>by
  simp only[List.mem_cons,List.not_mem_nil,or_false]at j;rcases j with rfl |rfl
  ·exact⟨gU ok ha,.inr (gU ok x)⟩
  ·exact⟨gU ok M,.inr (gU ok x)⟩
 have o5:u ∉ks.map Kn.name:=oX ok g I (aA Z)
 have s5:dQ h (sz ks)=4:=by
  show(if true=true then _ else _)=_;rw[if_pos Z];show((four e (S "num")).map λp=>sz ks p.2).sum=4;rw[sum,zV g.wf];rfl
 have C:lP ks h=false:=by
  unfold lP;rw[List.any_eq_false];intro p j;unfold pK;rw[cS (o _ p j).2];simp
 have r5:bR ks h=none:=by
  unfold bR;rw[yT o5 (hnd _),C,show gI ks h=false by unfold gI;rw[s5];decide];rfl
 obtain⟨U,f5⟩:=Bx g.wf g.fit q5 (by omega) r5
 have z5:sz (ks++[h]) u=5:=by
  have:=A7 g.wf U (wZ C);rw[s5]at this;exact this
 have m5:u∈(ks++[h]).map Kn.name:=by rw[bZ];simp[h]
 have o6:m ∉(ks++[h]).map Kn.name:=by
  rw[bZ];intro n;rcases dD n with n |n
  ·exact oX ok g x (aA Z) n
  ·exact pT ok x I (aA Z) (cD n)
 have s6:dQ l (sz (ks++[h]))=20:=by
  show(if true=true then _ else _)=_;rw[if_pos Z];show((four e u).map λp=>sz (ks++[h]) p.2).sum=20;rw[sum,z5];rfl
 have z:lP (ks++[h]) l=false:=by
  unfold lP;rw[List.any_eq_false];intro p j;unfold pK gF;rw[(o _ p j).2,cS m5];simp
 have r6:bR (ks++[h]) l=none:=by
  unfold bR;rw[yT o6 (hnd _),z,show gI (ks++[h]) l=false by unfold gI;rw[s6];decide];rfl
 obtain⟨w6,f6⟩:=Bx U f5 q6 (by rw[bS,List.length_singleton];omega) r6
 have z6:sz (ks++[h]++[l]) m=21:=by
  have:=A7 U w6 (wZ z);rw[s6]at this;exact this
 have m6:m∈(ks++[h]++[l]).map Kn.name:=by rw[bZ];simp[l]
 have o4:J ∉(ks++[h]++[l]).map Kn.name:=by
  rw[bZ,bZ];intro n;rcases dD n with n |n
  ·rcases dD n with n |n
   ·exact oX ok g O (aA Z) n
   ·exact pT ok O I (aA Z) (cD n)
  ·exact pT ok O x (aA Z) (cD n)
 have s4:dQ w (sz (ks++[h]++[l]))=42:=by
  show(if true=true then _ else _)=_;rw[if_pos Z];show([(a,m),(b,m)].map λp:Str×Str=>sz (ks++[h]++[l]) p.2).sum=42;show sz (ks++[h]++[l]) m+(sz (ks++[h]++[l]) m+0)=42;rw[z6];rfl
 have Y:lP (ks++[h]++[l]) w=false:=by
  unfold lP;rw[List.any_eq_false];intro p j
  have:p.2=m:=by
   have j:p∈[(a,m),(b,m)]:=j;simp only[List.mem_cons,List.not_mem_nil,or_false]at j;rcases j with rfl |rfl <;> rfl
  unfold pK gF;rw[this,cS m6];simp
 have r4:bR (ks++[h]++[l]) w=some 8:=by
  unfold bR;rw[yT o4 (by show[a,b].Nodup;have:=pT ok ha M (aA Z);simpa using this),Y,show gI (ks++[h]++[l]) w=true by unfold gI;rw[s4];decide];rfl
 refine⟨?_,?_,aA Z⟩
 ·rw[Mb g]
  show(match bR ks h with |some c=>some c |none=>dB (ks++[h]) [l,w])=_;rw[r5];show(match bR (ks++[h]) l with |some c=>some c |none=>dB (ks++[h]++[l]) [w])=_;rw[r6];show(match bR (ks++[h]++[l]) w with |some c=>some c |none=>_)=_;rw[r4]
 ·have a5:=Aa g.wf.any (by omega) q5
  have a6:=Aa a5 (by rw[bS,List.length_singleton];omega) q6;have a4:=Aa a6 (by rw[bS,bS,List.length_singleton,List.length_singleton];omega) q4;rw[List.append_assoc,List.append_assoc]at a4;exact a4
end
def rz(rs:List Row):Nat:=(rs.map λr=>eS r.d+2).sum
theorem Ct(a b:List Row):rz (a++b)=rz a+rz b:=by
 unfold rz;rw[bZ,List.sum_append]
theorem Ad(r:Row)(b:List Row):rz (r::b)=eS r.d+2+rz b:=by
 unfold rz;rw[List.map_cons,List.sum_cons]
structure Wh(t:Nat)(h:Hand):Prop where
 nm:Sh h.name
 b:h.boxes.length<=5+t
 bs:∀b∈h.boxes,Sh b.1/\Sh b.2
 r:h.rows.length<=10+t
 rs:∀r∈h.rows,lD r/\Rp 70 127000 r.d
 z:rz h.rows<=250000+130000*t
structure Wm(t:Nat)(mk:Mak):Prop where
 ka:KAny mk.kinds
 hl:mk.hands.length<=4+t
 hne:mk.hands≠[]
 cl:mk.chans.length<=5+t
 cne:mk.chans≠[]
 cs:∀c∈mk.chans,Sh c.1/\Sh c.2.1/\Sh c.2.2.1/\Sh c.2.2.2
 hs:∀h∈mk.hands,Wh t h
structure CG(nms:List Str)(mk:Mak):Prop where
 c5:mk.chans.length<=5
 cn:mk.chans.map (·.1)=(nms.drop 12).take mk.chans.length
 kin:∀c∈mk.chans,KIn mk.kinds 6 c.2.2.2
 ends:∀c∈mk.chans,c.2.1∈mk.hands.map Hand.name/\c.2.2.1∈mk.hands.map Hand.name
structure BG(nms:List Str)(ks:List Kn)(h:Hand):Prop where
 nd:(h.boxes.map (·.1)).Nodup
 b5:h.boxes.length<=5
 bx:∀b∈h.boxes,∃i,18<=i/\i<24/\nms[i]?=some b.1
 kin:∀b∈h.boxes,KIn ks 6 b.2
 mnd:(h.rows.filterMap cU).Nodup
structure RG(nms:List Str)(ks:List Kn)(cs:List cR)(h:Hand):Prop where
 ok:∀r∈h.rows,∃n,fY ks cs h.name h.boxes n r
 mr:∀z∈h.rows.filterMap cU,z∈nms
structure Gd(nms:List Str)(mk:Mak)(s:Nat):Prop where
 g0:1<=s->KG nms mk.kinds
 g1:2<=s->mk.hands.map Hand.name=nms.take mk.hands.length/\mk.hands.length<=4
 g2:3<=s->CG nms mk
 h1:∀(i:Nat) h,mk.hands[i]?=some h->5+4*i<=s->BG nms mk.kinds h
 h2:∀(i:Nat) h,mk.hands[i]?=some h->6+4*i<=s->RG nms mk.kinds mk.chans h
 h3:∀(i:Nat) h,mk.hands[i]?=some h->7+4*i<=s->HandG mk.kinds mk.chans h/\h.rows.length<=10
theorem Wm.mono{t:Nat}{mk:Mak}(w:Wm t mk):Wm (t+1) mk:=⟨w.ka,by have:=w.hl;omega,w.hne,by have:=w.cl;omega,w.cne,w.cs,λh a=>by
 have q:=w.hs h a;exact⟨q.nm,by have:=q.b;omega,q.bs,by have:=q.r;omega,q.rs,by have:=q.z;omega⟩⟩
def Wm.mb{t:Nat}(p:t<=2){mk:Mak}(w:Wm t mk):MakB mk:=by
 have a:∀{x:Str},Sh x->x.length<=50:=λh=>qC h.1 (aA Z);refine⟨w.ka,by have:=w.hl;omega,by have:=w.cl;omega,λc j=>?_,λh g=>?_⟩
 ·obtain⟨o,n,m,l⟩:=w.cs c j
  exact⟨a o,a n,a m,l.le⟩
 ·have q:=w.hs h g
  exact⟨a q.nm,by have:=q.b;omega,λb e=>⟨(q.bs b e).1.le,(q.bs b e).2.le⟩,by have:=q.r;omega,λr f=>(q.rs r f).1⟩
theorem zL(f:mk.kinds=a.kinds)(g:mk.chans=a.chans){bs:List (Str×Str)}(e:lW mk h bs r o):lW a h bs r o:=by
 obtain⟨ks,cs,hs⟩:=mk;obtain⟨b,j,c⟩:=a;cases f;cases g;cases r <;> exact e
theorem Dt{cs:List cR}{bs:List (Str×Str)}(z:KWf ks)(w:(cs.map (·.1)).Nodup)(y:(bs.map (·.1)).Nodup)(g:fY ks cs h bs n r):lW ⟨ks,cs,[]⟩ h bs r none:=by
 have a:∀{t k},nE ks bs t k->nI ks bs t k none:=λG=>⟨_,pP (aA Z) (vW (B9 z) _ _ _ _ G.1),nk_ok.symm⟩
 have p:∀{b:Str×Str},b∈bs->eW bs b.1=.ok b.2:=λ{b} M=>by
  have e:=wN y M;unfold bM at e;unfold eW;obtain⟨q,I,e⟩:=dH e;rw[I];injection e with e;exact congrArg Except.ok e
 have j:∀{c:cR} {e:Nat},c∈cs->rD e c=h->dO ⟨ks,cs,[]⟩ c.1 e h=.ok c.2.2.2:=λ{c e} o m=>by
  obtain⟨i,hi⟩:=List.getElem?_of_mem o;unfold dO;rw[show lU ⟨ks,cs,[]⟩ c.1=some c from rS (f:=λc:cR=>c.1) w hi];exact if_pos m
 cases r with
 |set x t=>
  obtain⟨k,J,u⟩:=g;exact oV (p J) (a u)
 |send c t=>
  obtain⟨ch,o,rfl,m,u⟩:=g;exact oV (j (e:=1) o m) (a u)
 |take l c x=>
  obtain⟨_,ch,o,rfl,m,C⟩:=g;exact oV (p C) (oV (j (e:=2) o m) nk_ok.symm)
 |tell t=>exact a g
 |go g=>rfl
 |cond t g'=>exact a g.1
 |fin=>rfl
theorem xN(a:KWf ks)(h:KIn ks m x):iN ks x=none:=by
 unfold iN;rcases h.look a with⟨rfl,_⟩ |⟨_,k,_,e,_⟩
 ·rw[if_pos Z]
 ·split
  ·rfl
  ·rw[e]
def Nq(c:x≠S "num")(b:x ∉ks.map Kn.name):iN ks x=some 2:=by
 unfold iN;rw[if_neg c,show bN ks x=none from KWf.no λk a e=>b (by rw[<- e];exact qP a)]
def mC(h:ns.Nodup):nR ns=none:=if_pos h
def X0(h:¬ns.Nodup):nR ns=some 1:=if_neg h
theorem Y6{cs:List cR}{bs:List (Str×Str)}(g:RowsG ks cs x bs rs):tL rs none:=by
 obtain⟨n,c,m⟩:=g.last;have f:rs≠[]:=λe=>by rw[e]at c;cases c
 refine .inl ⟨Z,f,λi r hi w b=>?_⟩;have l:=(cV hi).1;have j:=g.ok r (cJ hi)
 have a:r.ends\/i+1<rs.length:=by
  by_cases e:i+1<rs.length
  ·exact .inr e
  ·left
   rw[List.getLast?_eq_getElem?,show rs.length-1=i by omega,hi]at c;cases c;exact m
 cases r with
 |go g'=>rw[cD b];exact j
 | cond t g'=>
  rcases gD b with rfl |b
  ·exact j.2
  ·rw[cD b]
   rcases a with h |h
   ·exact h.elim
   ·exact h
 |fin=>cases b
 |set _ _=>rw[cD b];exact a.resolve_left id
 |send _ _=>rw[cD b];exact a.resolve_left id
 |take _ _ _=>rw[cD b];exact a.resolve_left id
 |tell _=>rw[cD b];exact a.resolve_left id
def Nv(c:KWf mk.kinds)(a:(mk.chans.map (·.1)).Nodup)(g:HandG mk.kinds mk.chans h):pO mk h none:=
 .inr ⟨(mC g.nd).symm,.inr ⟨(mC g.rw.nd).symm,.inr ⟨oZ λb f=>(xN c (g.kin b f)).symm,.inr ⟨oZ λr e=>zL Z Z (Dt c a g.nd (g.rw.ok r e)),Y6 g.rw⟩⟩⟩⟩
def Cg(g:KWf mk.kinds)(l:KIn mk.kinds 6 c.2.2.2)(o:c.2.1∈mk.hands.map Hand.name)(n:c.2.2.1∈mk.hands.map Hand.name):lT mk c=none:=by
 have f:∀{x:Str},x∈mk.hands.map Hand.name->∃h,iD mk x=some h:=λ{x} j=>by
  obtain⟨h,m,rfl⟩:=fV j;unfold iD
  cases e:mk.hands.find? λz=>decide (z.name=h.name) with
  |some z=>exact⟨z,Z⟩
  |none=>exact absurd (cS Z) (List.find?_eq_none.mp e h m)
 obtain⟨a,r⟩:=f o;obtain⟨b,p⟩:=f n;unfold lT;rw[r,p];exact xN g l
def Xi(g:MakG mk):nQ mk none:=
 .inr ⟨(Aj (as:=[]) g.wf g.fit).symm,.inr ⟨(mC g.hnd).symm,.inr ⟨(mC g.cnd).symm,.inr ⟨oZ λc a=>(Cg g.wf (g.ckin c a) (g.ends c a).1 (g.ends c a).2).symm,oZ λh b=>Nv g.wf g.cnd (g.hok h b)⟩⟩⟩⟩
def sX(nms:List Str)(mk:Mak)(c:cR):Prop:=nms[17]?=some c.1/\∃x7 hn,nms[7]?=some x7/\hn∈mk.hands.map Hand.name/\(c.2=(x7,hn,S "num")\/c.2=(hn,x7,S "num")\/c.2=(hn,hn,x7))
def yH(mk mk':Mak):Prop:=(∃old∈mk.hands.map Hand.name,mk'=⟨mk.kinds,mk.chans,mk.hands++[⟨old,[],[.fin]⟩]⟩)\/∃o∈mk.chans.take 5,mk'=⟨mk.kinds,mk.chans.take 5++[(o.1,o.2.2.1,o.2.1,o.2.2.2)],mk.hands⟩
def sY(h h':Hand):Prop:=(∃o∈h.boxes.take 4,h'=⟨h.name,h.boxes.take 4++[(o.1,S "num")],h.rows⟩)\/∃r∈h.rows,cU r≠none/\h'=⟨h.name,h.boxes,r::h.rows⟩
def On(nms:List Str)(mk:Mak)(h:Hand)(j:Nat)(h':Hand)(c:Nat):Prop:=
 (j=0/\c=1/\(sY h h'\/∃x,nms[23]?=some x/\h'=⟨h.name,(x,S "num")::(x,S "num")::h.boxes.drop 2,h.rows⟩)) ∨
 (j=1/\c=2/\∃x y,nms[24]?=some x/\nms[7]?=some y/\h'=⟨h.name,h.boxes.take 4++[(x,y)],h.rows⟩) ∨
 (j=2/\∃r a,BadR mk.kinds mk.chans h.name h.boxes r c/\h'=⟨h.name,h.boxes,h.rows.take a++r::h.rows.drop a⟩) ∨
 (j=3/\c=7/\∃far:Nat,24<=far/\far<2 ^ 31/\(h'=⟨h.name,h.boxes,[]⟩\/(∃r,(r=.go far\/r=.tell (aO 3)\/r=.cond (aO 0) 0)/\h'=⟨h.name,h.boxes,h.rows.dropLast++[r]⟩)\/∃r a,a<=h.rows.length/\(r=.go far\/∃b:Int,Nm b/\r=.cond (aO b) far)/\h'=⟨h.name,h.boxes,h.rows.take a++r::h.rows.drop a⟩))
section
variable {nms:List Str}{mk:Mak}{t:Nat}
def zZ{h:Hand}(w:Wh t h){a b:List Row}(e:h.rows=a++b){r:Row}(f:lD r/\Rp 70 127000 r.d):Wh (t+1) ⟨h.name,h.boxes,a++r::b⟩:=by
 have j:=w.r;have g:=w.z;have l:=f.2.sz;rw[e]at j g;rw[Ct]at g;rw[bS]at j;refine⟨w.nm,by have:=w.b;show h.boxes.length<=_;omega,w.bs,by show(a++r::b).length<=_;rw[bS,List.length_cons];omega,λx c=>?_,by show rz (a++r::b)<=_;rw[Ct,Ad];omega⟩;have c:x∈a++r::b:=c;rcases dD c with c |c
 ·exact w.rs x (by rw[e];exact zU _ c)
 ·rcases gD c with rfl |c
  ·exact f
  ·exact w.rs x (by rw[e];exact zM _ c)
def Iq{h:Hand}(w:Wh t h){a b:List Row}(e:h.rows=a++b):Wh t ⟨h.name,h.boxes,a⟩:=by
 have f:=w.r;have c:=w.z;rw[e]at f c;rw[Ct]at c;rw[bS]at f;exact⟨w.nm,w.b,w.bs,by show a.length<=_;omega,λx g=>w.rs x (by rw[e];exact zU _ g),by show rz a<=_;omega⟩
def Bl(w:Wh t h){bs:List (Str×Str)}(c:bs.length<=6+t)(a:∀b∈bs,Sh b.1/\Sh b.2):Wh (t+1) ⟨h.name,bs,h.rows⟩:=⟨w.nm,by show bs.length<=_;omega,a,by have:=w.r;show h.rows.length<=_;omega,w.rs,by have:=w.z;show rz h.rows<=_;omega⟩
theorem Wh.up(w:Wh t h):Wh (t+1) h:=⟨w.nm,by have:=w.b;omega,w.bs,by have:=w.r;omega,w.rs,by have:=w.z;omega⟩
def tJ(ok:iM a){i:Nat}{x:Str}(h:a[i]?=some x):Sh x:=iR (gU ok h)
def sp0(g:Gd e mk 1)(w:Wm t mk)(b:BadK ks c):nQ ⟨ks,mk.chans,mk.hands⟩ (some c)/\Wm (t+1) ⟨ks,mk.chans,mk.hands⟩/\Gd e ⟨ks,mk.chans,mk.hands⟩ 0:=by
 have a:=w.mono;exact⟨.inl ⟨c,b.r.symm,Z⟩,⟨b.ka,a.hl,a.hne,a.cl,a.cne,a.cs,a.hs⟩,⟨λh=>absurd h (aA Z),λh=>absurd h (aA Z),λh=>absurd h (aA Z),λi h f h'=>absurd h' (by omega),λi h f h'=>absurd h' (by omega),λi h f h'=>absurd h' (by omega)⟩⟩
def rR{B:Option Nat->Prop}(h:¬ns.Nodup\/B (some 1)):iC (lI (nR ns)) B (some 1):=by
 by_cases hn:ns.Nodup
 ·exact .inr ⟨(mC hn).symm,h.resolve_left λz=>z hn⟩
 ·exact .inl ⟨1,(X0 hn).symm,Z⟩
def yX(g:KG a mk.kinds):lI (dB [] mk.kinds) none:=(Aj (as:=[]) g.wf g.fit).symm
def sp1(g:Gd x mk 2)(w:Wm t mk)(b:yH mk f):nQ f (some 1)/\Wm (t+1) f/\Gd x f 1:=by
 have j:=w.mono;have p:=g.g0 (aA Z);rcases b with⟨old,u,rfl⟩ |⟨o,u,rfl⟩
 ·obtain⟨h0,n,rfl⟩:=fV u
  refine⟨.inr ⟨yX p,rR (.inl ?_)⟩,⟨w.ka,by have:=w.hl;show(mk.hands++[_]).length<=_;rw[bS,List.length_singleton];omega,by simp,j.cl,j.cne,j.cs,λh a=>?_⟩,⟨λ_=>p,λh=>absurd h (aA Z),λh=>absurd h (aA Z),λi h a h'=>absurd h' (by omega),λi h a h'=>absurd h' (by omega),λi h a h'=>absurd h' (by omega)⟩⟩
  ·show ¬((mk.hands++[(⟨h0.name,[],[.fin]⟩:Hand)]).map Hand.name).Nodup
   rw[bZ];exact λnd=>(List.nodup_append.mp nd).2.2 _ (qP n) _ (by simp) Z
  ·rcases dD a with a |a
   ·exact j.hs h a
   ·rw[cD a]
    have e:(Row.fin).d=.tup [.str (S "end")]:=Z;refine⟨(w.hs h0 n).nm,by simp,λb z=>absurd z List.not_mem_nil,by show 1<=_;omega,λr y=>?_,?_⟩
    ·rw[cD y]
     exact⟨trivial,(Rp.tup (A:=0) (B:=102) (N:=1) (ds:=[.str (S "end")]) (λd hd=>by rw[cD hd];exact Rp.str (fR "end")) (qD _)).mono (aA Z) (aA Z)⟩
    ·show rz [Row.fin]<=_
     rw[Ad,show rz []=0 from Z];have:=(Rp.tup (A:=0) (B:=102) (N:=1) (ds:=[.str (S "end")]) (λd hd=>by rw[cD hd];exact Rp.str (fR "end")) (qD _)).sz;rw[e];omega
 ·have m:∀c∈mk.chans.take 5,c∈mk.chans:=λc l=>qW l
  refine⟨.inr ⟨yX p,rR (.inr (rR (.inl ?_)))⟩,⟨w.ka,j.hl,j.hne,by show(mk.chans.take 5++[_]).length<=_;rw[bS,List.length_singleton,List.length_take];omega,by simp,λc l=>?_,j.hs⟩,⟨λ_=>p,λh=>absurd h (aA Z),λh=>absurd h (aA Z),λi h a h'=>absurd h' (by omega),λi h a h'=>absurd h' (by omega),λi h a h'=>absurd h' (by omega)⟩⟩
  ·show ¬((mk.chans.take 5++[((o.1,o.2.2.1,o.2.1,o.2.2.2):cR)]).map (·.1)).Nodup
   rw[bZ];exact λnd=>(List.nodup_append.mp nd).2.2 o.1 (qP u) o.1 (by simp) Z
  ·rcases dD l with l |l
   ·exact w.cs c (m c l)
   ·rw[cD l]
    obtain⟨J,I,G,C⟩:=w.cs o (m o u);exact⟨J,G,I,C⟩
def yV(ok:iM a)(g:CG a mk):(mk.chans.map (·.1)).Nodup:=by
 rw[g.cn];exact ok.2.1.sublist ((List.take_sublist _ _).trans (List.drop_sublist _ _))
def Ho(ok:iM a)(g:mk.hands.map Hand.name=a.take mk.hands.length):(mk.hands.map Hand.name).Nodup:=by
 rw[g];exact ok.2.1.sublist (List.take_sublist _ _)
theorem Lv(h:x ∉mk.hands.map Hand.name):iD mk x=none:=List.find?_eq_none.mpr λz hz=>by
 rw[cW λe=>h (by rw[<- e];exact qP hz)];decide
def sp2(ok:iM l)(g:Gd l mk 3)(w:Wm t mk){c:cR}(b:sX l mk c):nQ ⟨mk.kinds,mk.chans++[c],mk.hands⟩ (some 2)/\Wm (t+1) ⟨mk.kinds,mk.chans++[c],mk.hands⟩/\Gd l ⟨mk.kinds,mk.chans++[c],mk.hands⟩ 2:=by
 have I:=w.mono;have G:=g.g0 (aA Z);obtain⟨hn,h4⟩:=g.g1 (aA Z);have n:=g.g2 (aA Z);obtain⟨p,o,r,C,x,U⟩:=b;have O:o ∉mk.hands.map Hand.name:=by rw[hn];exact Hw ok C (by omega)
 have k7:iN mk.kinds o=some 2:=Nq (mZ (gU ok C)) (oX ok G C (aA Z));have J:=tJ ok C
 have f:Sh r:=by
  obtain⟨h,m,rfl⟩:=fV x;exact(w.hs h m).nm
 obtain⟨a0,y⟩:∃a,iD mk r=some a:=by
  obtain⟨h,m,rfl⟩:=fV x;unfold iD
  cases e:mk.hands.find? λz=>decide (z.name=h.name) with
  |some z=>exact⟨z,Z⟩
  |none=>exact absurd (cS Z) (List.find?_eq_none.mp e h m)
 have M:lT mk c=some 2:=by
  obtain⟨c1,c2⟩:=c;unfold lT;rcases U with rfl |rfl |rfl
  ·show(match iD mk o with |none=>some 2 |some _=>_)=_
   rw[Lv O]
  ·show(match iD mk r with |none=>some 2 |some _=>match iD mk o with |none=>some 2 |some _=>_)=_
   rw[y,Lv O]
  ·show(match iD mk r with |none=>some 2 |some _=>match iD mk r with |none=>some 2 |some _=>iN mk.kinds o)=_
   rw[y];exact k7
 refine⟨.inr ⟨yX G,.inr ⟨(mC (Ho ok hn)).symm,.inr ⟨(mC ?_).symm,.inl ⟨2,?_,Z⟩⟩⟩⟩,⟨w.ka,I.hl,I.hne,by have:=w.cl;show(mk.chans++[_]).length<=_;rw[bS,List.length_singleton];omega,by simp,λz hz=>?_,I.hs⟩,⟨λ_=>G,λ_=>⟨hn,h4⟩,λh=>absurd h (aA Z),λi h m h'=>absurd h' (by omega),λi h m h'=>absurd h' (by omega),λi h m h'=>absurd h' (by omega)⟩⟩
 ·show((mk.chans++[c]).map (·.1)).Nodup
  rw[bZ,List.nodup_append];refine⟨yV ok n,by simp,λa Y b' hb e=>?_⟩;rw[cD hb]at e;subst e;rw[n.cn]at Y;obtain⟨j,u⟩:=List.getElem?_of_mem Y;rw[List.getElem?_take]at u;split at u
  ·rw[List.getElem?_drop]at u
   exact pT ok p u (by have:=n.c5;omega) Z
  ·cases u
 ·show SeqR (λc'=>lI (lT mk c')) (mk.chans++[c]) (some 2)
  exact wR M.symm λz hz=>(Cg G.wf (n.kin z hz) (n.ends z hz).1 (n.ends z hz).2).symm
 ·rcases dD hz with hz |hz
  ·exact w.cs z hz
  ·rw[cD hz]
   refine⟨tJ ok p,?_⟩;rcases U with e |e |e <;> rw[e]
   ·exact⟨J,f,sh_num⟩
   ·exact⟨f,J,sh_num⟩
   ·exact⟨f,f,J⟩
end
section
variable {nms:List Str}{mk:Mak}{t:Nat}
theorem Xc{hs:List Hand}{k:Nat}(b:hs[k]?=some h):hs=hs.take k++h::hs.drop (k+1):=by
 obtain⟨a,e⟩:=cV b;rw[<- e,<- List.drop_eq_getElem_cons a,List.take_append_drop]
def Y7{hs:List Hand}{k:Nat}{h h':Hand}(a:hs[k]?=some h)(hn:h'.name=h.name):(hs.take k++h'::hs.drop (k+1)).map Hand.name=hs.map Hand.name:=by
 conv=>rhs;rw[Xc a]
 rw[bZ,bZ,List.map_cons,List.map_cons,hn]
theorem Nc{hs:List Hand}{k:Nat}{h h':Hand}(a:hs[k]?=some h):(hs.take k++h'::hs.drop (k+1)).length=hs.length:=by
 have:=(cV a).1;rw[bS,List.length_cons,List.length_take,List.length_drop];omega
def Dh{hs:List Hand}{k i:Nat}{h h' x:Hand}(e:hs[k]?=some h)(hi:i<=k)(a:(hs.take k++h'::hs.drop (k+1))[i]?=some x):(i<k/\hs[i]?=some x)\/(i=k/\x=h'):=by
 have f:=(cV e).1;have b:(hs.take k).length=k:=by rw[List.length_take];omega
 rcases Nat.lt_or_ge i k with c |c
 ·left
  rw[List.getElem?_append_left (by omega),List.getElem?_take,if_pos c]at a;exact⟨c,a⟩
 ·right
  have:i=k:=by omega
  subst this;rw[List.getElem?_append_right (by omega),b,Nat.sub_self]at a;cases a;exact⟨Z,Z⟩
def tU (ok:iM a) {k j:Nat} (M:j<=3) (g:Gd a mk (3+4*k+j+1)) (w:Wm t mk) {h h':Hand} (m:mk.hands[k]?=some h) (hn:h'.name=h.name) (C:pO ⟨mk.kinds,mk.chans,mk.hands.take k++h'::mk.hands.drop (k+1)⟩ h' (some c)) (y:Wh (t+1) h') (J:2<=j->BG a mk.kinds h') (I:j=3->RG a mk.kinds mk.chans h') :
  nQ ⟨mk.kinds,mk.chans,mk.hands.take k++h'::mk.hands.drop (k+1)⟩ (some c)/\Wm (t+1) ⟨mk.kinds,mk.chans,mk.hands.take k++h'::mk.hands.drop (k+1)⟩/\Gd a ⟨mk.kinds,mk.chans,mk.hands.take k++h'::mk.hands.drop (k+1)⟩ (3+4*k+j):=by
 have e:=w.mono;have p:=g.g0 (by omega);obtain⟨l,G⟩:=g.g1 (by omega);have b:=g.g2 (by omega);have en:=Y7 m hn;have r:=Nc (h':=h') m;have o:=yV ok b;refine⟨.inr ⟨yX p,.inr ⟨(mC (by show((mk.hands.take k++h'::mk.hands.drop (k+1)).map Hand.name).Nodup;rw[en];exact Ho ok l)).symm,.inr ⟨(mC o).symm,.inr ⟨oZ λz hz=>(Cg (mk:=⟨mk.kinds,mk.chans,mk.hands.take k++h'::mk.hands.drop (k+1)⟩) p.wf (b.kin z hz) (by show z.2.1∈(mk.hands.take k++h'::mk.hands.drop (k+1)).map Hand.name;rw[en];exact(b.ends z hz).1) (by show z.2.2.1∈(mk.hands.take k++h'::mk.hands.drop (k+1)).map Hand.name;rw[en];exact(b.ends z hz).2)).symm,wR C λz hz=>?_⟩⟩⟩⟩,⟨w.ka,by show(mk.hands.take k++h'::mk.hands.drop (k+1)).length<=_;rw[r];exact e.hl,by simp,e.cl,e.cne,e.cs,λz hz=>?_⟩,⟨λ_=>p,λ_=>⟨by show(mk.hands.take k++h'::mk.hands.drop (k+1)).map Hand.name=a.take (mk.hands.take k++h'::mk.hands.drop (k+1)).length;rw[en,r];exact l,by show(mk.hands.take k++h'::mk.hands.drop (k+1)).length<=_;rw[r];exact G⟩,λ_=>⟨b.c5,b.cn,b.kin,λz hz=>by show _∈(mk.hands.take k++h'::mk.hands.drop (k+1)).map Hand.name/\_∈(mk.hands.take k++h'::mk.hands.drop (k+1)).map Hand.name;rw[en];exact b.ends z hz⟩,λi x f hi=>?_,λi x f hi=>?_,λi x f hi=>?_⟩⟩
 ·obtain⟨i,hi⟩:=List.getElem?_of_mem hz
  rw[List.getElem?_take]at hi;split at hi
  ·exact Nv (mk:=⟨mk.kinds,mk.chans,_⟩) p.wf o (g.h3 i z hi (by omega)).1
  ·cases hi
 ·have hz:z∈mk.hands.take k++h'::mk.hands.drop (k+1):=hz
  rcases dD hz with hz |hz
  ·exact e.hs z (qW hz)
  ·rcases gD hz with rfl |hz
   ·exact y
   ·exact e.hs z (List.mem_of_mem_drop hz)
 ·rcases Dh m (by omega) f with⟨u,n⟩ |⟨rfl,rfl⟩
  ·exact g.h1 i x n (by omega)
  ·exact J (by omega)
 ·rcases Dh m (by omega) f with⟨u,n⟩ |⟨rfl,rfl⟩
  ·exact g.h2 i x n (by omega)
  ·exact I (by omega)
 ·rcases Dh m (by omega) f with⟨u,n⟩ |⟨rfl,rfl⟩
  ·exact g.h3 i x n (by omega)
  ·omega
theorem Bq(a b:List Row)(r:Row):(a++r::b).filterMap cU=a.filterMap cU++((cU r).toList++b.filterMap cU):=by
 rw[List.filterMap_append,List.filterMap_cons];cases cU r <;> rfl
def Rf{a b:List Str}(h:(a++b).Nodup)(f:x ∉a++b):(a++(x::b)).Nodup:=by
 rw[List.nodup_append]at h⊢;refine⟨h.1,List.nodup_cons.mpr ⟨λj=>f (zM _ j),h.2.1⟩,λp g q c e=>?_⟩;rcases gD c with rfl |c
 ·exact f (by rw[<- e];exact zU _ g)
 ·exact h.2.2 p g q c e
theorem N4(rs:List Row)(a:Nat):rs.filterMap cU=(rs.take a).filterMap cU++(rs.drop a).filterMap cU:=by
 rw[<- List.filterMap_append,List.take_append_drop]
def sp3(ok:iM I)(fa:∀z∈I,gS z){k j:Nat}(g:Gd I mk (3+4*k+j+1))(w:Wm t mk)(M:mk.hands[k]?=some h)(sp:On I mk h j h' c):h'.name=h.name/\1<=c/\c<=8/\nQ ⟨mk.kinds,mk.chans,mk.hands.take k++h'::mk.hands.drop (k+1)⟩ (some c)/\Wm (t+1) ⟨mk.kinds,mk.chans,mk.hands.take k++h'::mk.hands.drop (k+1)⟩/\Gd I ⟨mk.kinds,mk.chans,mk.hands.take k++h'::mk.hands.drop (k+1)⟩ (3+4*k+j):=by
 have l:=w.hs h (cJ M);have kg:=g.g0 (by omega);have cg:=g.g2 (by omega);have ab:=yV ok cg;have b5:=l.b;rcases sp with⟨rfl,rfl,f |⟨x,a7,rfl⟩⟩ |⟨rfl,rfl,x,y,a6,n7,rfl⟩ |⟨rfl,r,a,O,rfl⟩ |⟨rfl,rfl,u,f1,f2,f⟩
 ·rcases f with⟨o,ho,rfl⟩ |⟨r,U,hm,rfl⟩
  ·refine⟨Z,aA Z,aA Z,tU ok (j:=0) (h':=⟨h.name,h.boxes.take 4++[(o.1,S "num")],h.rows⟩) (aA Z) g w M Z (rR (.inl ?_)) (Bl l (by rw[bS,List.length_singleton,List.length_take];omega) λb f=>?_) (λh=>absurd h (aA Z)) (λh=>absurd h (aA Z))⟩
   ·show ¬((h.boxes.take 4++[(o.1,S "num")]).map (·.1)).Nodup
    rw[bZ];exact λnd=>(List.nodup_append.mp nd).2.2 o.1 (qP ho) o.1 (by simp) Z
   ·rcases dD f with f |f
    ·exact l.bs b (qW f)
    ·rw[cD f]
     exact⟨(l.bs o (qW ho)).1,sh_num⟩
  ·refine⟨Z,aA Z,aA Z,tU ok (j:=0) (h':=⟨h.name,h.boxes,r::h.rows⟩) (aA Z) g w M Z (rR (.inr (rR (.inl ?_)))) (zZ l (a:=[]) (b:=h.rows) Z (l.rs r U)) (λh=>absurd h (aA Z)) (λh=>absurd h (aA Z))⟩
   show ¬((r::h.rows).filterMap cU).Nodup
   cases e:cU r with
   |none=>exact absurd e hm
   |some z=>
    rw[List.filterMap_cons,e];exact λnd=>(List.nodup_cons.mp nd).1 (List.mem_filterMap.mpr ⟨r,U,e⟩)
 ·refine⟨Z,aA Z,aA Z,tU ok (j:=0) (h':=⟨h.name,(x,S "num")::(x,S "num")::h.boxes.drop 2,h.rows⟩) (aA Z) g w M Z (rR (.inl ?_)) (Bl l (by rw[List.length_cons,List.length_cons,List.length_drop];omega) λb f=>?_) (λh=>absurd h (aA Z)) (λh=>absurd h (aA Z))⟩
  ·show ¬(x::x::(h.boxes.drop 2).map (·.1)).Nodup
   simp
  ·rcases gD f with rfl |f
   ·exact⟨tJ ok a7,sh_num⟩
   ·rcases gD f with rfl |f
    ·exact⟨tJ ok a7,sh_num⟩
    ·exact l.bs b (List.mem_of_mem_drop f)
 ·have C:=g.h1 k h M (by omega)
  refine⟨Z,aA Z,aA Z,tU ok (j:=1) (h':=⟨h.name,h.boxes.take 4++[(x,y)],h.rows⟩) (aA Z) g w M Z (.inr ⟨(mC ?_).symm,.inr ⟨(mC C.mnd).symm,.inl ⟨2,?_,Z⟩⟩⟩) (Bl l (by rw[bS,List.length_singleton,List.length_take];omega) λb f=>?_) (λh=>absurd h (aA Z)) (λh=>absurd h (aA Z))⟩
  ·show((h.boxes.take 4++[(x,y)]).map (·.1)).Nodup
   rw[bZ,List.nodup_append];refine⟨by rw[List.map_take];exact C.nd.sublist (List.take_sublist _ _),by simp,λp hp q hq e=>?_⟩;obtain⟨b,f,rfl⟩:=fV hp;obtain⟨i,h1,h2,h3⟩:=C.bx b (qW f);rw[cD hq]at e;exact pT ok h3 a6 (by omega) e
  ·show SeqR (λb=>lI (iN mk.kinds b.2)) (h.boxes.take 4++[(x,y)]) (some 2)
   exact wR (Nq (mZ (gU ok n7)) (oX ok kg n7 (aA Z))).symm λb f=>(xN kg.wf (C.kin b (qW f))).symm
  ·rcases dD f with f |f
   ·exact l.bs b (qW f)
   ·rw[cD f]
    exact⟨tJ ok a6,tJ ok n7⟩
 ·have C:=g.h1 k h M (by omega)
  have rg:=g.h2 k h M (by omega);have a8:S "mark" ∉h.rows.filterMap cU:=λhm=>(fa _ (rg.mr _ hm)).2 Z
  have Y:((h.rows.take a++r::h.rows.drop a).filterMap cU).Nodup:=by
   rw[Bq];have:=C.mnd;rw[N4 h.rows a]at this a8;rcases O.m with e |e <;> rw[e]
   ·exact this
   ·exact Rf this a8
  refine⟨Z,O.c1,O.c8,tU ok (j:=2) (h':=⟨h.name,h.boxes,h.rows.take a++r::h.rows.drop a⟩) (aA Z) g w M Z (.inr ⟨(mC C.nd).symm,.inr ⟨(mC Y).symm,.inr ⟨oZ λb f=>(xN kg.wf (C.kin b f)).symm,.inl ⟨c,?_,Z⟩⟩⟩⟩) (zZ l (List.take_append_drop a h.rows).symm ⟨O.b,O.rp⟩) (λ_=>⟨C.nd,C.b5,C.bx,C.kin,Y⟩) (λh=>absurd h (aA Z))⟩;show SeqR _ (h.rows.take a++r::h.rows.drop a) (some c);refine wR (zL Z Z O.R) λz hz=>?_;obtain⟨n,ac⟩:=rg.ok z (qW hz);exact zL Z Z (Dt kg.wf ab C.nd ac)
 ·obtain⟨hg,ag⟩:=g.h3 k h M (by omega)
  have C:=g.h1 k h M (by omega);have rg:=g.h2 k h M (by omega)
  have fin:∀rs:List Row,(rs.filterMap cU).Nodup->(∀z∈rs.filterMap cU,z∈I)->(∀r∈rs,∃n,fY mk.kinds mk.chans h.name h.boxes n r)->tL rs (some 7)->Wh (t+1) ⟨h.name,h.boxes,rs⟩->h'=⟨h.name,h.boxes,rs⟩->h'.name=h.name/\1<=7/\7<=8/\nQ ⟨mk.kinds,mk.chans,mk.hands.take k++h'::mk.hands.drop (k+1)⟩ (some 7)/\Wm (t+1) ⟨mk.kinds,mk.chans,mk.hands.take k++h'::mk.hands.drop (k+1)⟩/\Gd I ⟨mk.kinds,mk.chans,mk.hands.take k++h'::mk.hands.drop (k+1)⟩ (3+4*k+3):=by
   rintro rs Y mr a5 fl wh rfl;refine⟨Z,aA Z,aA Z,tU ok (j:=3) (h':=⟨h.name,h.boxes,rs⟩) (aA Z) g w M Z (.inr ⟨(mC C.nd).symm,.inr ⟨(mC Y).symm,.inr ⟨oZ λb f=>(xN kg.wf (C.kin b f)).symm,.inr ⟨oZ λr U=>?_,fl⟩⟩⟩⟩) wh (λ_=>⟨C.nd,C.b5,C.bx,C.kin,Y⟩) (λ_=>⟨a5,mr⟩)⟩;obtain⟨n,ae⟩:=a5 r U;exact zL Z Z (Dt kg.wf ab C.nd ae)
  have a3:∀r:Row,(r=.go u\/r=.tell (aO 3)\/r=.cond (aO 0) 0\/∃b:Int,Nm b/\r=.cond (aO b) u)->(∃n,fY mk.kinds mk.chans h.name h.boxes n r)/\cU r=none/\lD r/\Rp 70 127000 r.d:=by
   intro r U;have a4:∀{b:Int},Nm b->Rp 1 100 (aO b):=λf=>pV f.1 (by have:=f.2;omega);rcases U with rfl |rfl |rfl |⟨b,f,rfl⟩
   ·exact⟨⟨u+1,Nat.lt_succ_self _⟩,Z,by show u<10 ^ 17;omega,(Rp.two (fR "go") (Rp.i (A:=0) (by omega))).mono (aA Z) (aA Z)⟩
   ·exact⟨⟨0,A8 C.nd ⟨aA Z,aA Z⟩⟩,Z,trivial,(Rp.two (fR "tell") (a4 (b:=3) ⟨aA Z,aA Z⟩)).mono (aA Z) (aA Z)⟩
   ·exact⟨⟨1,A8 C.nd ⟨aA Z,aA Z⟩,Nat.lt_succ_self _⟩,Z,by show 0<10 ^ 17;decide,(Rp.three (fR "if") (a4 (b:=0) ⟨aA Z,aA Z⟩) (Rp.i (aA Z))).mono (aA Z) (aA Z)⟩
   ·exact⟨⟨u+1,A8 C.nd f,Nat.lt_succ_self _⟩,Z,by show u<10 ^ 17;omega,(Rp.three (fR "if") (a4 f) (Rp.i (by omega))).mono (aA Z) (aA Z)⟩
  rcases f with rfl |⟨r,U,rfl⟩ |⟨r,a,ha,U,rfl⟩
  ·exact fin [] List.nodup_nil (λ_ h=>nomatch h) (λ_ h=>nomatch h) (.inr ⟨Z,.inl Z⟩) (Iq l (a:=[]) (b:=h.rows) Z).up Z
  ·have a1:h.rows≠[]:=λe=>by
    obtain⟨_,hl,_⟩:=hg.rw.last;rw[e]at hl;cases hl
   have aa:h.rows=h.rows.dropLast++[h.rows.getLast a1]:=(List.dropLast_concat_getLast a1).symm;obtain⟨q1,q2,q3⟩:=a3 r (by rcases U with h |h |h;exact .inl h;exact .inr (.inl h);exact .inr (.inr (.inl h)))
   have a0:(h.rows.dropLast++[r]).filterMap cU=h.rows.dropLast.filterMap cU:=by
    rw[Bq,q2];simp
   have a2:(h.rows.dropLast.filterMap cU).Sublist (h.rows.filterMap cU):=(List.dropLast_sublist _).filterMap _
   have a9:(h.rows.dropLast++[r]).length=h.rows.length:=by
    have:=List.length_pos_iff.mpr a1;rw[bS,List.length_singleton,List.length_dropLast];omega
   have G:(h.rows.dropLast++[r])[h.rows.dropLast.length]?=some r:=by
    rw[List.getElem?_append_right (qD _),Nat.sub_self];rfl
   have ah:h.rows.dropLast.length+1=h.rows.length:=by
    have:=List.length_pos_iff.mpr a1;rw[List.length_dropLast];omega
   refine fin _ (by rw[a0];exact C.mnd.sublist a2) (by rw[a0];exact λz hz=>rg.mr z (a2.subset hz)) (λx J=>?_) (.inr ⟨Z,.inr ⟨h.rows.dropLast.length,r,?_⟩⟩) (zZ (Iq l aa) (a:=h.rows.dropLast) (b:=[]) (by rw[List.append_nil]) q3) Z
   ·rcases dD J with J |J
    ·exact rg.ok x ((List.dropLast_sublist _).subset J)
    ·rw[cD J];exact q1
   ·rcases U with rfl |rfl |rfl
    ·exact⟨u,G,by show u∈[u];simp,by omega⟩
    ·exact⟨h.rows.dropLast.length+1,G,by show _∈[_];simp,by omega⟩
    ·exact⟨h.rows.dropLast.length+1,G,by show _∈[_,_];simp,by omega⟩
  ·obtain⟨q1,q2,q3⟩:=a3 r (by rcases U with h |h;exact .inl h;exact .inr (.inr (.inr h)))
   have a0:(h.rows.take a++r::h.rows.drop a).filterMap cU=h.rows.filterMap cU:=by
    rw[Bq,q2,N4 h.rows a];rfl
   have a9:(h.rows.take a++r::h.rows.drop a).length=h.rows.length+1:=by
    rw[bS,List.length_cons,List.length_take,List.length_drop];omega
   have af:(h.rows.take a++r::h.rows.drop a)[a]?=some r:=by
    have:(h.rows.take a).length=a:=by rw[List.length_take];omega
    rw[List.getElem?_append_right (by omega),this,Nat.sub_self];rfl
   refine fin _ (by rw[a0];exact C.mnd) (by rw[a0];exact rg.mr) (λx J=>?_) (.inr ⟨Z,.inr ⟨a,r,u,af,?_,by omega⟩⟩) (zZ l (List.take_append_drop a h.rows).symm q3) Z
   ·rcases dD J with J |J
    ·exact rg.ok x (qW J)
    ·rcases gD J with rfl |J
     ·exact q1
     ·exact rg.ok x (List.mem_of_mem_drop J)
   ·rcases U with rfl |⟨b,_,rfl⟩
    ·show u∈[u];simp
    ·show u∈[u,_];simp
end
theorem BIn.of{a:List Str}{mk:Mak}{t:Nat}(ok:iM a)(j:∀z∈a,gS z)(e:KG a mk.kinds)(n:CG a mk)(w:Wm t mk){h:Hand}(x:h∈mk.hands)(o:BG a mk.kinds h):BIn mk.kinds mk.chans h.boxes:=by
 have m:∀c∈mk.chans,c.1∈a:=λc g=>by
  have:c.1∈mk.chans.map (·.1):=qP g;rw[n.cn]at this;exact List.mem_of_mem_drop (qW this)
 have l:∀k∈mk.kinds,k.name∈a:=λk f=>by
  have:k.name∈mk.kinds.map Kn.name:=qP f;rw[e.kn]at this;exact qW this
 refine⟨e.wf,e.fit,by have:=e.k4;omega,λk f=>⟨j _ (l k f),λp u=>j _ (e.kp k f p u)⟩,yV ok n,λc g=>⟨(w.cs c g).1,j _ (m c g)⟩,n.kin,o.nd,λb r=>?_,o.kin⟩;obtain⟨i,_,_,hi⟩:=o.bx b r;exact⟨((w.hs h x).bs b r).1,j _ (cJ hi)⟩
def Uy{cs:List cR}{bs:List (Str×Str)}(hc:∀c∈cs,Sh c.1)(hb:∀b∈bs,Sh b.1)(hn:n<=24)(h:fY ks cs x bs n r):lD r/\Rp 70 24900 r.d:=by
 have hd:∀{t k},nE ks bs t k->Rp 65 24000 t:=λh=>Gk hb h
 cases r with
 |set y t=>
  obtain⟨k,hk,tm⟩:=h;exact⟨(hb _ hk).le,(Rp.three (fR "set") (Rp.s (hb _ hk)) (hd tm)).mono (aA Z) (aA Z)⟩
 |send c t=>
  obtain⟨ch,hcm,rfl,_,tm⟩:=h;exact⟨(hc _ hcm).le,(Rp.three (fR "send") (Rp.s (hc _ hcm)) (hd tm)).mono (aA Z) (aA Z)⟩
 |take l c y=>
  obtain⟨hl,ch,hcm,rfl,_,hy⟩:=h;exact⟨⟨(hc _ hcm).le,(hb _ hy).le⟩,(Rp.four (fR "take") (Rp.s (A:=0) hl) (Rp.s (hc _ hcm)) (Rp.s (hb _ hy))).mono (aA Z) (aA Z)⟩
 |tell t=>exact⟨trivial,(Rp.two (fR "tell") (hd h)).mono (aA Z) (aA Z)⟩
 |go g=>
  have h:g<n:=h;exact⟨by show g<10 ^ 17;omega,(Rp.two (fR "go") (Rp.i (A:=0) (by omega))).mono (aA Z) (aA Z)⟩
 |cond t g=>
  have h2:g<n:=h.2;exact⟨by show g<10 ^ 17;omega,(Rp.three (fR "if") (hd h.1) (Rp.i (by omega))).mono (aA Z) (aA Z)⟩
 |fin=>exact⟨trivial,(Rp.tup (A:=0) (B:=102) (N:=1) (ds:=[.str (S "end")]) (λd hd=>by rw[cD hd];exact Rp.str (fR "end")) (qD _)).mono (aA Z) (aA Z)⟩
theorem Gm{B:Nat}:∀{rs:List Row},(∀r∈rs,eS r.d<=B)->rz rs<=rs.length*(B+2)
 |[],_=>qX _
 |r::rs,h=>by
  rw[Ad,List.length_cons,Nat.succ_mul];have c:=h r (List.mem_cons_self ..);have b:=Gm (rs:=rs) λx a=>h x (qO _ a);omega
def Vs(g:MakG mk)(p:mk.hands≠[])(u:mk.chans≠[])(w:mk.chans.length<=5)(f:∀h∈mk.hands,h.rows.length<=10):Wm 0 mk:=by
 have e:∀{x:Str},x∈mk.hands.map Hand.name->Sh x:=λ{x} o=>by
  obtain⟨h,j,rfl⟩:=fV o;exact(g.hok h j).sh
 refine⟨g.wf.any,by have:=g.hfew;omega,p,by omega,u,λc l=>⟨g.csh c l,e (g.ends c l).1,e (g.ends c l).2,Ie g.wf (g.ckin c l)⟩,λh j=>?_⟩;have q:=g.hok h j;have m:∀r∈h.rows,lD r/\Rp 70 24900 r.d:=λr a=>Uy g.csh q.bsh q.rw.len (q.rw.ok r a);refine⟨q.sh,q.few,λb n=>⟨q.bsh b n,Ie g.wf (q.kin b n)⟩,f h j,λr a=>⟨(m r a).1,(m r a).2.mono (aA Z) (aA Z)⟩,?_⟩;have:=Gm (rs:=h.rows) (B:=24900) λr a=>(m r a).2.sz;have:=Nat.mul_le_mul_right (24900+2) (f h j);omega
end M
end
section
namespace L2
open PySem PySem.Spec PyProof.Rows
section
variable {P:Program}{w:World}{K:Fg}{mg:Str->Option Value}{base:Heap}{n m:Nat}{x:Str}{ps N:List Str}{sp sp':Sp}{st:Stmt}
def DefXs.calm(D:DefXs P w K mg base n x ps sp)(h:∀vs H Q E,sp' vs H Q E->sp vs H Q λ_ _ _=>False):DefIs P w K mg base n x ps sp':=by
 obtain⟨f,fd,F,r⟩:=D.ex;refine⟨f,fd,⟨λvs H Q E q=>F.len _ _ _ _ (h vs H Q E q),λA outer s H args us vs Q E hr he hb hv hs=>codeAny_mono (F.run A outer s H args us vs Q (λ_ _ _=>False) hr he hb hv (h _ _ _ _ hs)) λr s' q=>?_⟩,r⟩
 cases r with
 |error e=>
  obtain⟨_,_,_,_,_,_,_,_,_,_,_,_,_,_,_,z⟩:=q;exact False.elim z
 |ok fl=>cases fl <;> exact q
end
end L2
end
section
namespace M
open PySem L2
theorem L6:∀{rs:List Row},(∀r∈rs,Rp 70 127000 r.d)->gJ (rs.map Row.d)<=70/\fW (rs.map Row.d)/\eE (rs.map Row.d)=rz rs
 |[],_=>⟨qX _,trivial,Z⟩
 |r::rs,h=>by
  have a:=h r (List.mem_cons_self ..);obtain⟨e,c,g3⟩:=L6 (rs:=rs) λx b=>h x (qO _ b);have f:=a.dp;rw[List.map_cons];refine⟨by rw[wM];omega,⟨a.ok,c⟩,?_⟩;rw[xG,Ad,g3]
def M6(h:∀p∈ps,Sh p.1/\Sh p.2)(b:ps.length<=6):Rp 2 1288 (lG ps):=by
 have h:=Rp.tup (A:=1) (B:=212) (N:=6) (ds:=ps.map nJ) (λd hd=>by
  obtain⟨p,a,rfl⟩:=fV hd
  exact Rp.tup (A:=0) (B:=102) (N:=2) (ds:=[.str p.1,.str p.2]) (λd hd=>by
   simp only[List.mem_cons,List.not_mem_nil,or_false]at hd;rcases hd with rfl |rfl
   ·exact Rp.str (h p a).1
   ·exact Rp.str (h p a).2) (qD _)) (by rw[aM];exact b)
 exact h
def Ha{t:Nat}(Y:t<=1)(w:Wm t mk):Rp 148 2100000 mk.d:=by
 have m:∀k∈mk.kinds,Rp 3 4000 k.d:=λk j=>by
  have h5:=w.ka.pts k j
  have G:=M6 (ps:=k.parts) (λp o=>⟨iR (w.ka.pnm k j p o),by
   rcases w.ka.pkd k j p o with e |e
   ·rw[e];exact sh_num
   ·exact iR e⟩) (by omega)
  have hs:Sh k.sort:=by
   unfold Kn.sort;split <;> exact⟨by walk_at"k",by walk_at"k"⟩
  have:=Rp.tup (A:=2) (B:=1288) (N:=3) (ds:=[.str k.name,.str k.sort,lG k.parts]) (λd hd=>by
   simp only[List.mem_cons,List.not_mem_nil,or_false]at hd;rcases hd with rfl |rfl |rfl
   ·exact(Rp.str (iR (w.ka.nm k j))).mono (aA Z) (aA Z)
   ·exact(Rp.str hs).mono (aA Z) (aA Z)
   ·exact G) (qD _)
  exact this.mono (aA Z) (aA Z)
 have a:Rp 4 24100 (iO mk.kinds):=(Rp.tup (A:=3) (B:=4000) (N:=6) (ds:=mk.kinds.map Kn.d) (λd hd=>by
  obtain⟨k,j,rfl⟩:=fV hd;exact m k j) (by rw[aM];exact w.ka.few)).mono (aA Z) (aA Z)
 have g:Rp 3 3600 (.tup (mk.chans.map fK)):=(Rp.tup (A:=1) (B:=420) (N:=6) (ds:=mk.chans.map fK) (λd hd=>by
  obtain⟨c,J,rfl⟩:=fV hd;obtain⟨x,u,O,M⟩:=w.cs c J
  have:=Rp.tup (A:=0) (B:=102) (N:=4) (ds:=[.str c.1,.str c.2.1,.str c.2.2.1,.str c.2.2.2]) (λd hd=>by
   simp only[List.mem_cons,List.not_mem_nil,or_false]at hd;rcases hd with rfl |rfl |rfl |rfl
   ·exact Rp.str x
   ·exact Rp.str u
   ·exact Rp.str O
   ·exact Rp.str M) (qD _)
  exact this) (by have:=w.cl;rw[aM];omega)).mono (aA Z) (aA Z)
 have l:∀h∈mk.hands,Rp 72 390000 h.d:=λh n=>by
  have q:=w.hs h n;have bx:=M6 q.bs (by have:=q.b;omega);obtain⟨U,C,y⟩:=L6 (rs:=h.rows) λr I=>(q.rs r I).2;have e1:=bx.dp;have e2:=bx.sz;have e5:h.name.length<=10:=q.nm.1;have e6:=q.z;refine⟨?_,⟨q.nm.2,bx.ok,C,trivial⟩,?_⟩
  ·show max 0 (max (D.deep (lG h.boxes)) (max (gJ (h.rows.map Row.d)+1) 0))+1<=_
   omega
  ·show 10*h.name.length+2+2+(eS (lG h.boxes)+2+(eE (h.rows.map Row.d)+4+2+0))+4<=_
   rw[y];omega
 have f:Rp 73 1960000 (.tup (mk.hands.map Hand.d)):=(Rp.tup (A:=72) (B:=390000) (N:=5) (ds:=mk.hands.map Hand.d) (λd hd=>by
  obtain⟨h,n,rfl⟩:=fV hd;exact l h n) (by have:=w.hl;rw[aM];omega)).mono (aA Z) (aA Z)
 have x:=a.dp;have u:=a.sz;have b1:=g.dp;have b2:=g.sz;have c1:=f.dp;have c2:=f.sz;refine⟨?_,⟨a.ok,g.ok,f.ok,trivial⟩,?_⟩
 ·show max (D.deep (iO mk.kinds)) (max (D.deep (.tup (mk.chans.map fK))) (max (D.deep (.tup (mk.hands.map Hand.d))) 0))+1<=_
  omega
 ·show eS (iO mk.kinds)+2+(eS (.tup (mk.chans.map fK))+2+(eS (.tup (mk.hands.map Hand.d))+2+0))+4<=_
  omega
end M
end
section
local macro_rules | `(tactic| obtain $p:rcasesPatMed:=$e:term)=>`(tactic| ((refine Fd λG hG=>?_;rcases $e:term with $p:rcasesPatMed) <;> refine hG ?_))
section
namespace L2
open PySem
abbrev qaa:List Str:=["kinds","term","boxes"]
abbrev qab:List Str:=["_law_feed_here","_law_many"]
abbrev qac:List Str:=["kinds","K"]
abbrev qad:List Str:=["kinds","kind"]
abbrev qae:List Str:=["kind","sizes"]
abbrev qaf:List Str:=["_law_kinds_here","_law_kind"]
abbrev qag:List Str:=["kinds","term","boxes","kind"]
abbrev qah:List Str:=["names","things"]
abbrev qai:List Str:=["found","kind"]
abbrev qaj:List Str:=["kinds","kind","name"]
abbrev qak:List Str:=["_law_feed_here","_law_kinds_here"]
abbrev qal:List Str:=["x","boxes"]
abbrev qam:List Str:=["_law_script","_law_k"]
abbrev qan:List Str:=["_law_feed_here","_law_kinds_here","_law_boxes_here","_law_kind"]
abbrev qao:List Str:=["make","h"]
abbrev qap:List Str:=["make","c"]
abbrev qaq:List Str:=["things","name"]
abbrev qar:List Str:=["kinds","name","sort"]
abbrev qas:List Str:=["kinds","term","boxes","sort"]
abbrev qat:List Str:=["_law_feed_here"]
abbrev qau:List Str:=["_law_feed_here","_law_kinds_here","_law_sort","_law_names_here"]
abbrev qav:List Str:=["_law_feed_here","_law_kinds_here","_law_channels_here","_law_h","_law_boxes_here","_law_marks"]
abbrev qaw:List Str:=["_law_feed_here","_law_kinds_here","_law_channels_here","_law_h","_law_boxes_here","_law_names_here"]
abbrev qax:List Str:=["_law_script","_law_at","_law_names_here"]
abbrev qay:List Str:=["_law_script","_law_at","_law_kinds_here","_law_channels_here","_law_many","_law_names_here"]
abbrev qaz:List Str:=["kinds","kind","arm","boxes"]
abbrev qa0:List Str:=["kinds","kind","arms"]
abbrev qa1:List Str:=["boxes","x","thing"]
abbrev qa2:List Str:=["make","channel"]
abbrev qa3:List Str:=["make","hand"]
abbrev qa4:List Str:=["make","h","boxes","row"]
abbrev qa5:List Str:=["make","c","end","h"]
abbrev qa6:List Str:=["_law_cell","_law_many"]
abbrev qa7:List Str:=["_law_feed_here","_law_names_here"]
abbrev qa8:List Str:=["_law_feed_here","_law_kinds_here","_law_names_here","_law_hands_here"]
abbrev qa9:List Str:=["_law_feed_here","_law_kinds_here","_law_channels_here","_law_h","_law_names_here"]
abbrev qba:List Str:=["_law_feed_here","_law_kinds_here","_law_names_here"]
abbrev qbb:List Str:=["_law_feed_here","_law_make_here","_law_names_here"]
abbrev qbc:List Str:=["_law_feed_here","_law_make_here"]
abbrev qbd:List Str:=["_law_feed_here","_law_hand","_law_form"]
abbrev qbe:List Str:=["_law_feed_here","_law_kinds_here","_law_x"]
abbrev qbf:List Str:=["_law_make_here","_law_hand"]
abbrev qbg:List Str:=["_law_feed_here","_law_make_here","_law_hand","_law_names_here"]
abbrev qbh:List Str:=["_law_feed_here","_law_make_here","_law_k","_law_slot","_law_names_here"]
abbrev qbi:List Str:=["_law_feed_here","_law_make_here","_law_slot","_law_names_here"]
abbrev qbj:List Str:=["_law_make_here"]
end L2
namespace K28
open PySem L2 M
seal L2.PE L2.PA L2.PS L2.PSs L2.PT L2.PW L2.PI L2.PG L2.PJ L2.PTs
def bT(i:Nat):Stmt:=PySem.Challenge.pw_swapstride_k28_whole_one_fault_each.main.body.getD i (.Pass ⟨0,0,0,0⟩)
abbrev s_look_kinds:Stmt:=bT 14
def sc_look_kinds:FnScope ["kinds","sizes","kind"] ["kinds"] (bH s_look_kinds):=by walk_at"q"
abbrev s_look_names:Stmt:=bT 15
def sc_look_names:FnScope ["kind","sizes","name","parts","part","other"] qae (bH s_look_names):=by walk_at"q"
abbrev s_need_once:Stmt:=bT 16
def sc_need_once:FnScope qah qah (bH s_need_once):=by walk_at"q"
abbrev s_looked_size:Stmt:=bT 17
def sc_looked_size:FnScope ["kind","sizes","size","name"] qae (bH s_looked_size):=by walk_at"q"
abbrev s_size_by:Stmt:=bT 18
def sc_size_by:FnScope ["kind","sizes","inner"] qae (bH s_size_by):=by walk_at"q"
abbrev s_sort_of:Stmt:=bT 19
def sc_sort_of:FnScope ["kinds","K","name","sort","parts"] qac (bH s_sort_of):=by walk_at"q"
abbrev s_parts_of:Stmt:=bT 20
def sc_parts_of:FnScope ["kinds","K","name","sort","parts"] qac (bH s_parts_of):=by walk_at"q"
abbrev s_need_there:Stmt:=bT 21
def sc_need_there:FnScope qad qad (bH s_need_there):=by walk_at"q"
abbrev s_ways_of:Stmt:=bT 23
def sc_ways_of:FnScope ["rows"] ["rows"] (bH s_ways_of):=by walk_at"q"
abbrev s_row_ways:Stmt:=bT 24
def xkv:FnScope ["row","k"] ["row","k"] (bH s_row_ways):=by walk_at"q"
abbrev s_hand_of:Stmt:=bT 25
def Yl:FnScope qao qao (bH s_hand_of):=by walk_at"q"
abbrev s_channel_of:Stmt:=bT 26
def xh2:FnScope qap qap (bH s_channel_of):=by walk_at"q"
abbrev s_named:Stmt:=bT 27
def sc_named:FnScope ["things","name","thing"] qaq (bH s_named):=by walk_at"q"
abbrev s_kind_of:Stmt:=bT 30
def sc_kind_of:FnScope ["kinds","term","boxes","head"] qaa (bH s_kind_of):=by walk_at"q"
abbrev s_num_kind:Stmt:=bT 31
def sc_num_kind:FnScope ["n"] ["n"] (bH s_num_kind):=by walk_at"q"
abbrev s_box_kind:Stmt:=bT 32
def sc_box_kind:FnScope qal qal (bH s_box_kind):=by walk_at"q"
abbrev s_op_kind:Stmt:=bT 33
def sc_op_kind:FnScope qaa qaa (bH s_op_kind):=by walk_at"q"
abbrev s_rec_kind:Stmt:=bT 34
def sc_rec_kind:FnScope ["kinds","term","boxes","name","parts","part","inner"] qaa (bH s_rec_kind):=by walk_at"q"
abbrev s_get_kind:Stmt:=bT 35
def sc_get_kind:FnScope qag qaa (bH s_get_kind):=by walk_at"q"
abbrev s_tag_kind:Stmt:=bT 36
def sc_tag_kind:FnScope ["kinds","term","boxes","name"] qaa (bH s_tag_kind):=by walk_at"q"
abbrev s_case_kind:Stmt:=bT 37
def sc_case_kind:FnScope ["kinds","term","boxes","kind","arms","inner","arm"] qaa (bH s_case_kind):=by walk_at"q"
abbrev s_arm_kind:Stmt:=bT 38
def sc_arm_kind:FnScope ["kinds","kind","arm","boxes","x"] qaz (bH s_arm_kind):=by walk_at"q"
abbrev s_if_kind:Stmt:=bT 39
def sc_if_kind:FnScope qag qaa (bH s_if_kind):=by walk_at"q"
abbrev s_need_kind:Stmt:=bT 40
def sc_need_kind:FnScope qag qag (bH s_need_kind):=by walk_at"q"
abbrev s_need_same:Stmt:=bT 41
def sc_need_same:FnScope qai qai (bH s_need_same):=by walk_at"q"
abbrev s_need_sort:Stmt:=bT 42
def sc_need_sort:FnScope ["kinds","name","sort","found"] qar (bH s_need_sort):=by walk_at"q"
abbrev s_kind_of_sort:Stmt:=bT 43
def sc_kind_of_sort:FnScope ["kinds","term","boxes","sort","kind"] qas (bH s_kind_of_sort):=by walk_at"q"
abbrev s_part_kind:Stmt:=bT 44
def sc_part_kind:FnScope ["kinds","kind","name","part"] qaj (bH s_part_kind):=by walk_at"q"
abbrev s_need_tags:Stmt:=bT 45
def sc_need_tags:FnScope ["kinds","kind","arms","own","tags","tag"] qa0 (bH s_need_tags):=by walk_at"q"
abbrev s_with_box:Stmt:=bT 46
def sc_with_box:FnScope ["boxes","x","thing","more"] qa1 (bH s_with_box):=by walk_at"q"
abbrev s_nought_term:Stmt:=bT 47
def sc_nought_term:FnScope ["kinds","kind","parts"] qad (bH s_nought_term):=by walk_at"q"
abbrev s_look:Stmt:=bT 51
def sc_look:FnScope ["make","channel","hand"] ["make"] (bH s_look):=by walk_at"q"
abbrev s_look_channel:Stmt:=bT 52
def sc_look_channel:FnScope ["make","channel","h"] qa2 (bH s_look_channel):=by walk_at"q"
abbrev s_look_hand:Stmt:=bT 53
def sc_look_hand:FnScope ["make","hand","h","rows","box","boxes","row"] qa3 (bH s_look_hand):=by walk_at"q"
abbrev s_look_row:Stmt:=bT 54
def sc_look_row:FnScope ["make","h","boxes","row","head"] qa4 (bH s_look_row):=by walk_at"q"
abbrev s_own_kind:Stmt:=bT 55
def sc_own_kind:FnScope ["make","c","end","h","channel"] qa5 (bH s_own_kind):=by walk_at"q"
abbrev s_look_falls:Stmt:=bT 56
def sc_look_falls:FnScope ["h","rows","ways","way"] ["h","rows"] (bH s_look_falls):=by walk_at"q"
abbrev sl_feed:Stmt:=bT 58
def scl_feed:FnScope ["_law_script","_law_k","_law_cell"] qam (bH sl_feed):=by walk_at"q"
abbrev sl_take:Stmt:=bT 59
def scl_take:FnScope ["_law_feed_here","_law_many","_law_digit","_law_one"] qab (bH sl_take):=by walk_at"q"
abbrev sl_names:Stmt:=bT 60
def scl_names:FnScope ["_law_cell","_law_many","_law_letters","_law_size_here","_law_at","_law_common","_law_found"] qa6 (bH sl_names):=by walk_at"q"
abbrev sl_number:Stmt:=bT 61
def scl_number:FnScope ["_law_feed_here","_law_form"] qat (bH sl_number):=by walk_at"q"
abbrev sl_sort_of:Stmt:=bT 62
def scl_sort_of:FnScope ["_law_kinds_here","_law_kind","_law_name","_law_sort","_law_parts_here"] qaf (bH sl_sort_of):=by walk_at"q"
abbrev sl_size:Stmt:=bT 63
def scl_size:FnScope ["_law_kinds_here","_law_kind","_law_sort","_law_parts_here","_law_sizes"] qaf (bH sl_size):=by walk_at"q"
abbrev sl_parts:Stmt:=bT 64
def scl_parts:FnScope ["_law_feed_here","_law_kinds_here","_law_sort","_law_names_here","_law_parts_here","_law_left","_law_j","_law_kind"] qau (bH sl_parts):=by walk_at"q"
abbrev sl_kinds:Stmt:=bT 65
def scl_kinds:FnScope ["_law_feed_here","_law_names_here","_law_kinds_here","_law_k","_law_sort"] qa7 (bH sl_kinds):=by walk_at"q"
abbrev sl_new_term:Stmt:=bT 66
def scl_new_term:FnScope ["_law_feed_here","_law_kinds_here","_law_boxes_here","_law_kind","_law_some"] qan (bH sl_new_term):=by walk_at"q"
abbrev sl_any_kind:Stmt:=bT 67
def scl_any_kind:FnScope qak qak (bH sl_any_kind):=by walk_at"q"
abbrev sl_channels:Stmt:=bT 68
def scl_channels:FnScope ["_law_feed_here","_law_kinds_here","_law_names_here","_law_hands_here","_law_found","_law_k","_law_ends"] qa8 (bH sl_channels):=by walk_at"q"
abbrev sl_boxes:Stmt:=bT 69
def scl_boxes:FnScope ["_law_feed_here","_law_kinds_here","_law_channels_here","_law_h","_law_names_here","_law_wants","_law_c","_law_come","_law_to","_law_kind","_law_k","_law_turn"] qa9 (bH sl_boxes):=by walk_at"q"
abbrev sl_deal:Stmt:=bT 70
def scl_deal:FnScope ["_law_feed_here","_law_kinds_here","_law_channels_here","_law_h","_law_boxes_here","_law_marks","_law_form","_law_into","_law_c","_law_come","_law_to","_law_kind","_law_out","_law_x"] qav (bH sl_deal):=by walk_at"q"
abbrev sl_rows:Stmt:=bT 71
def scl_rows:FnScope ["_law_feed_here","_law_kinds_here","_law_channels_here","_law_h","_law_boxes_here","_law_names_here","_law_marks","_law_rows_here","_law_many","_law_at","_law_form","_law_test"] qaw (bH sl_rows):=by walk_at"q"
abbrev sl_make:Stmt:=bT 72
def scl_make:FnScope ["_law_script","_law_at","_law_names_here","_law_kinds_here","_law_feed_here","_law_hands_here"] qax (bH sl_make):=by walk_at"q"
abbrev sl_hands:Stmt:=bT 73
def scl_hands:FnScope ["_law_script","_law_at","_law_kinds_here","_law_channels_here","_law_many","_law_names_here","_law_found","_law_k","_law_feed_here","_law_boxes_here"] qay (bH sl_hands):=by walk_at"q"
abbrev sl_bad_kinds:Stmt:=bT 74
def scl_bad_kinds:FnScope ["_law_feed_here","_law_kinds_here","_law_names_here","_law_form","_law_one","_law_other"] qba (bH sl_bad_kinds):=by walk_at"q"
abbrev sl_bad_channels:Stmt:=bT 75
def scl_bad_channels:FnScope ["_law_feed_here","_law_make_here","_law_names_here","_law_h","_law_some"] qbb (bH sl_bad_channels):=by walk_at"q"
abbrev sl_bad_names:Stmt:=bT 76
def scl_bad_names:FnScope ["_law_feed_here","_law_make_here","_law_old","_law_some"] qbc (bH sl_bad_names):=by walk_at"q"
abbrev sl_bad_boxes:Stmt:=bT 77
def scl_bad_boxes:FnScope ["_law_feed_here","_law_hand","_law_form","_law_h","_law_boxes_here","_law_rows_here","_law_some","_law_takes","_law_one"] qbd (bH sl_bad_boxes):=by walk_at"q"
abbrev sl_cases:Stmt:=bT 78
def scl_cases:FnScope ["_law_feed_here","_law_kinds_here","_law_x","_law_found","_law_name","_law_sort","_law_parts_here","_law_held","_law_arms","_law_whole","_law_more","_law_fewer","_law_other","_law_f","_law_kind"] qbe (bH sl_cases):=by walk_at"q"
abbrev sl_wholes:Stmt:=bT 79
def scl_wholes:FnScope ["_law_make_here","_law_hand","_law_found","_law_name","_law_sort","_law_parts_here","_law_whole","_law_out"] qbf (bH sl_wholes):=by walk_at"q"
abbrev sl_bad_rows:Stmt:=bT 80
def scl_bad_rows:FnScope ["_law_feed_here","_law_make_here","_law_hand","_law_names_here","_law_h","_law_boxes_here","_law_rows_here","_law_one","_law_great","_law_some","_law_c","_law_come","_law_to","_law_kind","_law_x","_law_told"] qbg (bH sl_bad_rows):=by walk_at"q"
abbrev sl_spoiled_hand:Stmt:=bT 81
def scl_spoiled_hand:FnScope ["_law_feed_here","_law_make_here","_law_k","_law_slot","_law_names_here","_law_h","_law_boxes_here","_law_rows_here","_law_hand","_law_row","_law_word","_law_at","_law_far","_law_form","_law_last"] qbh (bH sl_spoiled_hand):=by walk_at"q"
abbrev sl_spoiled:Stmt:=bT 82
def scl_spoiled:FnScope ["_law_feed_here","_law_make_here","_law_slot","_law_names_here","_law_kinds_here","_law_word","_law_k","_law_hand"] qbi (bH sl_spoiled):=by walk_at"q"
abbrev sl_words_of:Stmt:=bT 83
def scl_words_of:FnScope ["_law_e","_law_told","_law_words"] ["_law_e"] (bH sl_words_of):=by walk_at"q"
abbrev sl_refused:Stmt:=bT 84
def scl_refused:FnScope ["_law_make_here","_law_found","_law_e"] qbj (bH sl_refused):=by walk_at"q"
abbrev s_law:Stmt:=bT 85
def sc_law:FnScope ["_law_script","_law_names_here","_law_make_here","_law_feed_here","_law_slot","_law_spoiled_here","_law_word","_law_kept"] ["_law_script"] (bH s_law):=by walk_at"q"
abbrev s_init:Stmt:=Qd (bT 2) 0
structure Tx(K:Fg)(mg:Str->Option Value):Prop where
 jA:DefTx K mg "look_kinds" s_look_kinds ["kinds"]
 jB:DefTx K mg "look_names" s_look_names qae
 jC:DefTx K mg "need_once" s_need_once qah
 jD:DefTx K mg "looked_size" s_looked_size qae
 jE:DefTx K mg "size_by" s_size_by qae
 jF:DefTx K mg "sort_of" s_sort_of qac
 jG:DefTx K mg "parts_of" s_parts_of qac
 jH:DefTx K mg "need_there" s_need_there qad
 jI:DefTx K mg "ways_of" s_ways_of ["rows"]
 jJ:DefTx K mg "row_ways" s_row_ways ["row","k"]
 jK:DefTx K mg "hand_of" s_hand_of qao
 jL:DefTx K mg "channel_of" s_channel_of qap
 jM:DefTx K mg "named" s_named qaq
 jN:DefTx K mg "kind_of" s_kind_of qaa
 jO:DefTx K mg "num_kind" s_num_kind ["n"]
 jP:DefTx K mg "box_kind" s_box_kind qal
 jQ:DefTx K mg "op_kind" s_op_kind qaa
 jR:DefTx K mg "rec_kind" s_rec_kind qaa
 jS:DefTx K mg "get_kind" s_get_kind qaa
 jT:DefTx K mg "tag_kind" s_tag_kind qaa
 jU:DefTx K mg "case_kind" s_case_kind qaa
 jV:DefTx K mg "arm_kind" s_arm_kind qaz
 jW:DefTx K mg "if_kind" s_if_kind qaa
 jX:DefTx K mg "need_kind" s_need_kind qag
 jY:DefTx K mg "need_same" s_need_same qai
 jZ:DefTx K mg "need_sort" s_need_sort qar
 j7:DefTx K mg "kind_of_sort" s_kind_of_sort qas
 j8:DefTx K mg "part_kind" s_part_kind qaj
 j9:DefTx K mg "need_tags" s_need_tags qa0
 kA:DefTx K mg "with_box" s_with_box qa1
 kB:DefTx K mg "nought_term" s_nought_term qad
 kC:DefTx K mg "look" s_look ["make"]
 kD:DefTx K mg "look_channel" s_look_channel qa2
 kE:DefTx K mg "look_hand" s_look_hand qa3
 kF:DefTx K mg "look_row" s_look_row qa4
 kG:DefTx K mg "own_kind" s_own_kind qa5
 kH:DefTx K mg "look_falls" s_look_falls ["h","rows"]
 kI:DefTx K mg "_law_feed" sl_feed qam
 kJ:DefTx K mg "_law_take" sl_take qab
 kK:DefTx K mg "_law_names" sl_names qa6
 kL:DefTx K mg "_law_number" sl_number qat
 kM:DefTx K mg "_law_sort_of" sl_sort_of qaf
 kN:DefTx K mg "_law_size" sl_size qaf
 kO:DefTx K mg "_law_parts" sl_parts qau
 kP:DefTx K mg "_law_kinds" sl_kinds qa7
 kQ:DefTx K mg "_law_new_term" sl_new_term qan
 kR:DefTx K mg "_law_any_kind" sl_any_kind qak
 kS:DefTx K mg "_law_channels" sl_channels qa8
 kT:DefTx K mg "_law_boxes" sl_boxes qa9
 kU:DefTx K mg "_law_deal" sl_deal qav
 kW:DefTx K mg "_law_rows" sl_rows qaw
 kX:DefTx K mg "_law_make" sl_make qax
 kY:DefTx K mg "_law_hands" sl_hands qay
 kZ:DefTx K mg "_law_bad_kinds" sl_bad_kinds qba
 k8:DefTx K mg "_law_bad_channels" sl_bad_channels qbb
 k9:DefTx K mg "_law_bad_names" sl_bad_names qbc
 uA:DefTx K mg "_law_bad_boxes" sl_bad_boxes qbd
 uB:DefTx K mg "_law_cases" sl_cases qbe
 uC:DefTx K mg "_law_wholes" sl_wholes qbf
 uD:DefTx K mg "_law_bad_rows" sl_bad_rows qbg
 uE:DefTx K mg "_law_spoiled_hand" sl_spoiled_hand qbh
 uF:DefTx K mg "_law_spoiled" sl_spoiled qbi
 uG:DefTx K mg "_law_words_of" sl_words_of ["_law_e"]
 uH:DefTx K mg "_law_refused" sl_refused qbj
 uI:DefTx K mg "law" s_law ["_law_script"]
 uJ:∃t,mg "GREATEST_SIZE"=some (.int 30 t)
 uK:∃t,mg "WIDE"=some (.int 4294967296 t)
 uL:∃t,mg "FROM"=some (.int 1 t)
 uM:∃t,mg "TO"=some (.int 2 t)
 uN:mg "ValueError"=none
 uO:mg "dict"=none
 uP:mg "enumerate"=none
 uQ:mg "int"=none
 uR:mg "isinstance"=none
 uS:mg "len"=none
 uT:mg "list"=none
 uU:mg "max"=none
 uV:mg "min"=none
 uW:mg "range"=none
 uX:mg "repr"=none
 uY:mg "set"=none
 uZ:mg "sum"=none
 u6:mg "tuple"=none
 vA:mg "zip"=none
 vB:mg "BadText"=some (.ref (cAt K 0))
 vC:mg "Twice"=some (.ref (cAt K 1))
 vD:mg "NoName"=some (.ref (cAt K 2))
 vE:mg "NoCount"=some (.ref (cAt K 3))
 vF:mg "WrongKind"=some (.ref (cAt K 4))
 vG:mg "Lacks"=some (.ref (cAt K 5))
 vH:mg "NotOwn"=some (.ref (cAt K 6))
 vI:mg "Falls"=some (.ref (cAt K 7))
 vJ:mg "TooBig"=some (.ref (cAt K 8))
 vK:mg "NoFit"=some (.ref (cAt K 9))
 vL:mg "SwapError"=some (.ref (ad K "SwapError"))
 xt2:XTab2D K
 xt:XTabD K
 it:InitTx K "BadText.__init__" (cAt K 0) s_init ["self","at"]
def aB(h:n<=4000000):n<=sizeLine:=qC h (aA Z)
theorem cL(h:n<=4000000):n<sizeLine:=zW h (aA Z)
def Tg:bootBuiltins "ValueError"=some (.type "ValueError"):=by walk_at"k"
def A0(K:Fg):Sp:=λvs H Q _=>∃(a:Addr) (ns:List Int) (k:Int),vs=[.ref a,.int k]/\SqL K H a (ns.map V.int)/\ns.length<=63/\0<=k/\∀(r:Addr) (p q:Int),H r=none->Q (.ref r) (upd H r (.lst [.int p,.int q]))
def iW:Sp:=λvs H Q _=>∃(a:Addr) (p q m:Int),vs=[.ref a,.int m]/\H a=some (.lst [.int p,.int q])/\0<m/\m<2 ^ 64/\∀(r:Int) (H':Hp),0<=r->r<m->Fed a H H'->Q (.int r) H'
section
variable {P:Program}{w:World}{K:Fg}{mg:Str->Option Value}{base:Heap}{n:Nat}
def Cd{ns:List Int}{k:Int}(h0:0<=k)(h:k<(ns.length:Int)):∃v:Int,fG (ns.map V.int) k=some (.int v):=by
 have a:k.toNat<ns.length:=by omega
 have b:k=((k.toNat:Nat):Int):=by omega
 refine⟨ns[k.toNat],?_⟩;have q:fG (ns.map V.int) ((k.toNat:Nat):Int)=some (.int ns[k.toNat]):=cM (by rw[dA,cF a] <;> rfl);rw[<- b]at q;exact q
def pY:2<=sizeLine:=by decide
def Dr(T:Tx K C):DefIs P w K C base (n+1) "_law_feed" qam (A0 K):=by
 refine DefIs.of T.kI scl_feed (λvs H Q E h=>?_) (λf J A outer s H vs Q E M h=>?_)
 ·obtain⟨a,ns,k,rfl,_⟩:=h
  rfl
 obtain⟨a,ns,k,rfl,U,I,G,q⟩:=h;have nd:=scl_feed.nd;have g:(ns.map V.int).length=ns.length:=aM _
 refine⟨_,(aF (aR 2 nd pI)
   (aF (aT (pR mR (pv 1) (bV (dM (K:=K) Z) Z T.uS zH (v1 0)) (nM _)) (po (aR 2 nd (cC K (pv 0) (pv 1)))) pQ)
   (aF (aT (PW.pt (iF (pR lK (bV (dM (K:=K) Z) Z T.uS zH (v1 0)) pI (nM _)) (iQ (pR bY (aN iV (cC K (pv 0) pI) pI) pI (nM _))))) (po (aS (fU (va 2 (pc (aN eY (aN iV (aN eY (aN nW (aN iV (pv 2) pI) pI) (aN nW pI (pv 1))) pI) pI) pN eI))))) pQ)
   (aF (aT (PW.pt (iF (pR Gx (pv 1) (bV (dM (K:=K) Z) Z T.uS zH (v1 0)) (nM _)) (iQ (pR lK (bV (dM (K:=K) Z) Z T.uS zH (v1 0)) pI (nM _))))) (po (aR 2 nd (aN eY (cC K (pv 0) (aN iV (pv 1) (bV (dM (K:=K) Z) Z T.uS zH (v1 0)))) (aN nW pI (pv 1))))) pQ)
   (po (aS (fU (pc pI (pc (aN eY (aN iV (aN eY (aN nW (aN iV (pv 2) pI) pI) (aN nW pI (pv 1))) pI) pI) pN eI) aG)))))))),?_⟩
 have h0:0<ns.length->∃v:Int,fG (ns.map V.int) 0=some (.int v):=λh=>Cd (Int.le_refl 0) (by omega);walk_at"rd";refine aJ (λc=>?_) (λc=>?_)
 ·have p:=qE c
  rw[g]at p;obtain⟨v,y⟩:=Cd (ns:=ns) G p;obtain⟨z,r⟩:=h0 (by omega);walk_at"rd";refine aJ (λm=>?_) (λm=>?_)
  ·walk_at"rd"
   refine aJ (λx=>?_) (λx=>?_)
   ·walk_at"rd"
    exact⟨pY,λl b=>q l _ _ b⟩
   ·walk_at"rd"
    refine aJ (λj=>?_) (λj=>?_)
    ·have u:=qE j
     rw[g]at u;omega
    ·refine cG ?_
     walk_at"rd";exact⟨pY,λl b=>q l _ _ b⟩
  ·have e:=of_decide_eq_false (Bool.eq_false_iff.mpr m)
   rw[g]at e;omega
 ·have p:=of_decide_eq_false (Bool.eq_false_iff.mpr c)
  rw[g]at p;walk_at"rd";refine aJ (λm=>?_) (λm=>?_)
  ·have e:=qE m
   rw[g]at e;obtain⟨z,r⟩:=h0 (by omega);walk_at"rd";refine aJ (λx=>?_) (λx=>?_)
   ·walk_at"rd"
    exact⟨pY,λl b=>q l _ _ b⟩
   ·walk_at"rd"
    refine aJ (λj=>?_) (λj=>?_)
    ·walk_at"rd"
     refine aJ (λo=>?_) (λo=>?_)
     ·obtain⟨v,y⟩:=Cd (ns:=ns) (k:=k%(ns.length:Int)) (zT _ (by omega)) (zR _ (by omega))
      rw[<- g]at y;have O:(0:Int)<((ns.map V.int).length:Nat):=by rw[g];omega
      walk_at"rd";exact⟨pY,λl b=>q l _ _ b⟩
     ·walk_at"rd"
      exact⟨pY,λl b=>q l _ _ b⟩
    ·refine cG ?_
     walk_at"rd";exact⟨pY,λl b=>q l _ _ b⟩
  ·refine cG ?_
   walk_at"rd";refine aJ (λj=>?_) (λj=>?_)
   ·walk_at"rd"
    refine aJ (λo=>?_) (λo=>?_)
    ·have e:=of_decide_eq_false (Bool.eq_false_iff.mpr m)
     exact absurd (qE o) e
    ·walk_at"rd"
     exact⟨pY,λl b=>q l _ _ b⟩
   ·refine cG ?_
    walk_at"rd";exact⟨pY,λl b=>q l _ _ b⟩
def Wz(T:Tx K e):DefIs P w K e base (n+1) "_law_take" qab iW:=by
 refine DefIs.of T.kJ scl_take (λvs H Q E h=>?_) (λf j A outer s H vs Q E o h=>?_)
 ·obtain⟨a,p,q,m,rfl,_⟩:=h
  rfl
 obtain⟨a,p,q,m,rfl,g,b,l,k⟩:=h;have nd:=scl_take.nd;have r:SqL K H a [.int p,.int q]:=zF g
 refine⟨_,(aF (aT (pR lK (cC K (pv 0) pI) pI (nM _)) (aF (aR 2 nd (aN iV (cC K (pv 0) pI) (pv 1)))
   (aF (mT (aN pX (cC K (pv 0) pI) (pv 1)) (Ib (pv 0) pI Mc))
   (po (aS (pv 2))))) pQ)
   (aF (aR 3 nd (aN iV (aN nW (cC K (pv 0) pI) pI) pI))
   (aF (mT (aN eY (aN iV (aN eY (aN nW (pv 3) pI) pI) pI) pI) (Ib (pv 0) pI Mc))
   (po (aS (aN iV (aN pX (aN eY (aN nW (pv 3) pI) (cC K (pv 0) pI)) pI) (pv 1))))))),?_⟩
 walk_at"rd";refine aJ (λc=>?_) (λc=>?_)
 ·walk_at"rd"
  refine k _ _ (zT _ (by omega)) (zR _ b) Fed.of
 ·walk_at"rd"
  refine(eZ (zF aD) Z ?_);walk_at"rd";refine k _ _ (zT _ (by omega)) (zR _ b) Fed.of
end
def Le:Sp:=λvs H Q _=>∃c:Int,vs=[.int c,.int 26]/\∀(b:Addr) (H':Hp) (nms:List Str),Same H H'->H b=none->H' b=some (.lst (nms.map V.str))->iM nms->(∀z∈nms,lE z/\gS z)->Q (.ref b) H'
section
variable {P:Program}{w:World}{K:Fg}{mg:Str->Option Value}{base:Heap}{n m:Nat}
def Xs(T:Tx K mg):DefIs P w K mg base (n+1) "_law_names" qa6 Le:=by
 refine DefIs.of T.kK scl_names (by walk_at"l") (λf a5 A outer s H vs Q E hr h=>?_);obtain⟨c,rfl,k⟩:=h;have nd:=scl_names.nd
 refine⟨_,(aF (aR 2 nd pS)
   (aF (aR 3 nd (aN iV (pv 0) pI))
   (aF (aR 4 nd (aN iV (aN pX (pv 0) pI) (aN eY (pv 3) pI)))
   (aF (aR 5 nd (gM PySem.F.plainAttrs_str PySem.F.slot_str_join PySem.F.type_str_join U8 pS (pc (iT ["_law_j","_law_cell"] [none,some 0] Z (by kernel_rfl) (oO Z T.uW (v1 3)) (λ_ _ _ _=>(dU 0)) (λ_ _ _ _=>iH) (λ_ _ _ _=>(yO Hr pS (aN iV (aN eY (aN pX (pv 1) pI) (pv 0)) pI) (λ_ _=>Z)))) pN oB)))
   (aF (aR 6 nd (iT ["_law_k","_law_common","_law_letters","_law_at","_law_cell"] [none,some 5,some 2,some 4,some 0] Z (by kernel_rfl) (oO Z T.uW (v1 1)) (λ_ _ _ _=>(dU 0)) (λ_ _ _ _=>iH) (λ_ _ _ _=>(aN E1 (aN E1 (gY Iv (pv 1) iU (gE (pv 3))) (yO Hr (pv 2) (aN iV (aN eY (aN pX (pv 4) pI) (aN nW pI (pv 0))) pI) (λ_ _=>Z))) (gY Iv (pv 1) (gE (pv 3)) iU)))))
   (aF (aT (pR bY (aN iV (aN pX (pv 0) pI) pI) pI (nM _)) (po (aS (pv 6))) pQ)
   (po (aS (iT ["_law_k","_law_found"] [none,some 6] Z (by kernel_rfl) (oO Z T.uW (v1 1)) (λ_ _ _ _=>(dU 0)) (λ_ _ _ _=>iH) (λ_ _ _ _=>(aN E1 (cC K (pv 1) (aN pU (pv 0) (aN iV (pv 0) pI))) (aN Uj pS (aN iV (pv 0) pI))))))))))))),?_⟩
 have m0:0<=c%5:=zT _ (aA Z);have m5:c%5<5:=zR _ (aA Z);refine(aC (fJ (by show(0:Int)<5;decide) ?_));have hp:0<(c%5)+1:=by omega
 refine(aC (fJ ⟨aA Z,aA Z⟩ (aC (fO (fJ hp ?_)))));have a0:0<=c / 5%((c%5)+1):=zT _ (by omega);have a1:c / 5%((c%5)+1)<(c%5)+1:=zR _ hp;refine(dY Z (aZ (by omega) (by omega) ?_));refine Al (j:=0) (λi ys J=>J=H/\∃cs:List Nat,ys=(cs.map mP).map V.str/\∀c∈cs,c∈dR) (by rfl) ⟨Z,(cZ ([]) Z (λ_ h=>nomatch h))⟩ (cL (by omega)) ?_ ?_
 ·rintro i ys J hi hl ⟨rfl,cs,rfl,a⟩
  refine(aC (fJ ⟨aA Z,aA Z⟩ (aC (fO (fJ (by show(0:Int)<5;decide) ?_)))));obtain⟨ch,a2,a3⟩:=Uq (zT (c / 25+(0+(i:Int))) (by decide:(5:Int)≠0)) (zR _ (aA Z));refine(aK ⟨ch,(cP (jAA (by walk_at"k") a3 ?_))⟩)
  exact nL hi hl ⟨Z,cs++[ch],by simp[mP],λx p=>by
   rcases dD p with p |p
   ·exact a x p
   ·rw[cD p];exact a2⟩
 ·rintro ys J hl ⟨rfl,cs,rfl,a⟩ D hD
  rw[aM,aM]at hl;refine(aI (S "") D (cZ (cs.map mP) Z (jAAA Z (zF aD) ?_ ?_)))
  ·rw[xkp,show(S "").length=0 by walk_at"k"]
   omega
  rw[xj0];have o:=zA hD (.lst ((cs.map mP).map V.str));generalize upd J D (.lst ((cs.map mP).map V.str))=H1 at o⊢;have b:(eQ cs).length=cs.length:=by rw[<- xB,lY]
  have c4:cs.length<=4:=by omega
  refine(eF (aZ (aA Z) (aA Z) ?_));refine Al (j:=0) (λi ys I=>I=H1/\ys=((List.range i).map λk=>eQ (iB cs (c / 5%(c%5+1)).toNat (c / 125) k)).map V.str) (by rfl) ⟨Z,Z⟩ (cL (aA Z)) ?_ ?_
  ·rintro i ys I hi u ⟨rfl,rfl⟩
   have e0:(0+(i:Int))=(i:Int):=by omega
   have Y:0<=(c / 125+5*(0+(i:Int)))%26:=zT _ (aA Z);have U:(c / 125+5*(0+(i:Int)))%26<26:=zR _ (aA Z);refine(eF (bP Z (bU (aB (by rw[b];omega)) ?_)));refine(bJ (fJ ⟨aA Z,aA Z⟩ (aC (fJ (.inl ⟨aA Z,aA Z⟩) (fO (fJ (by show(0:Int)<26;decide) ?_))))));refine⟨_,(aK (cP (jAA (by walk_at"k") (Xe Y U) ?_)))⟩;rw[Wj (eQ cs) a0 (by rw[b];omega)];refine(fJ ?_ ?_)
   ·refine aB ?_
    rw[show(eQ ((L (eQ cs)).take (c / 5%(c%5+1)).toNat)).length=(cs.take (c / 5%(c%5+1)).toNat).length by rw[<- xB,lY,lY],List.length_take];show _+1<=_;omega
   refine(eF (bP Z (bU (aB (by rw[b];omega)) ?_)));rw[Ym (eQ cs) a0 (by rw[b];omega),lY];refine(fJ ?_ ?_)
   ·refine aB ?_
    rw[Str.length_append,show(eQ (cs.take (c / 5%(c%5+1)).toNat)).length=(cs.take (c / 5%(c%5+1)).toNat).length by rw[<- xB,lY],show(eQ (cs.drop (c / 5%(c%5+1)).toNat)).length=(cs.drop (c / 5%(c%5+1)).toNat).length by rw[<- xB,lY],List.length_take,List.length_drop];show _+1+_<=_;omega
   rw[Xk];refine nL hi u ⟨Z,?_⟩;rw[List.range_succ,bZ,bZ,e0];rfl
  ·rintro ys I u ⟨rfl,rfl⟩ M C
   have g:=zA C (.lst (((List.range 26).map λk=>eQ (iB cs (c / 5%(c%5+1)).toNat (c / 125) k)).map V.str));refine(aC (fJ ⟨aA Z,aA Z⟩ (fJ (by show(0:Int)<3;decide) (bP Z (aJ (λcc=>?_) (λcc=>?_))))))
   ·exact(aC (k M _ _ (o.trans g) (pZ o C) aD (Ew c4 a) (λz hz=>⟨Ub a z hz,Ua a z hz⟩)))
   ·refine(eF (aZ (aA Z) (aA Z) ?_))
    obtain⟨G,l⟩:∃G,G=upd I M (.lst (((List.range 26).map λk=>eQ (iB cs (c / 5%(c%5+1)).toNat (c / 125) k)).map V.str)):=⟨_,Z⟩;have hb:G M=some (.lst (((List.range 26).map λk=>eQ (iB cs (c / 5%(c%5+1)).toNat (c / 125) k)).map V.str)):=by rw[l];exact aD
    rw[<- l]at g;refine Al (j:=0) (λi ys H4=>H4=G/\ys=((List.range i).map λk=>eQ (lQ cs (c / 5%(c%5+1)).toNat (c / 125) k)).map V.str) (by rfl) ⟨l.symm,Z⟩ (cL (aA Z)) ?_ ?_
    ·rintro i ys H4 hi r ⟨rfl,rfl⟩
     have a4:i<26:=hi;have er:(0+(i:Int))%2=((i%2:Nat):Int):=by omega
     have es:(0+(i:Int))-(0+(i:Int))%2=((i-i%2:Nat):Int):=by omega
     refine(gC (fJ (by show(0:Int)<2;decide) (fO (eN M ⟨.str (eQ (iB cs (c / 5%(c%5+1)).toNat (c / 125) (i-i%2))),(cP (jAA (zF hb) ?_ ?_))⟩))))
     ·rw[es]
      refine cM ?_;rw[dA,dA,List.getElem?_range (by omega)];rfl
     refine(aC (fJ (by show(0:Int)<2;decide) (fJ (by omega) ?_)));refine(fJ ?_ ?_)
     ·refine aB ?_
      rw[show(eQ (iB cs (c / 5%(c%5+1)).toNat (c / 125) (i-i%2))).length=cs.length+1 by rw[<- xB,lY,wX]];have:(if (0+(i:Int))%2=1 then S "q" else Str.empty).length<=1:=by split <;> decide +kernel
      show _+(if (0+(i:Int))%2=1 then S "q" else Str.empty).length<=_;omega
     refine nL hi r ⟨Z,?_⟩;rw[List.range_succ,bZ,bZ];congr 1;show[V.str _]=[V.str _];congr 2;apply yM;rw[xA,lY,lY];unfold lQ;congr 1;rw[er];rcases Nat.mod_two_eq_zero_or_one i with e |e
     ·rw[e];decide +kernel
     ·rw[e];decide +kernel
    ·rintro ys H4 r ⟨rfl,rfl⟩ D4 y
     have O:=zA y (.lst (((List.range 26).map λk=>eQ (lQ cs (c / 5%(c%5+1)).toNat (c / 125) k)).map V.str));exact k D4 _ _ (o.trans (g.trans O)) (pZ (o.trans g) y) aD (Eu c4 a) (λz hz=>⟨Ud a z hz,Uc a z hz⟩)
def Ld:Sp:=λvs H Q _=>∃v ks x,vs=[v,.str x]/\KsSeq H v ks/\∀t pv H',Same H H'->H' t=some (.tup [.str (Bd (bN ks x)),pv])->RelD H' pv (C5 (bN ks x))->Q (.ref t) H'
def tP(m:Nat):Sp:=λvs H Q _=>∃v ks x,vs=[v,.str x]/\KsSeq H v ks/\KWf ks/\KIn ks m x/\∀H',Same H H'->Q (.int (dZ (m+1) ks x)) H'
def O3  (T:Tx K mg):DefIs P w K mg base (n+1) "_law_sort_of" qaf Ld :=by
  refine DefIs.of T.kM scl_sort_of (by walk_at"l") (λf a0 A outer s H vs Q E hr h=>?_);obtain⟨v,ks,x,rfl,⟨a,us,rfl,M,O⟩,q⟩:=h;have nd:=scl_sort_of.nd
  refine⟨_,(aF (fM zI Z (Gi (oP (K:=K) Z (pv 0)) (eJ (K:=K) Z (pv 0))) (fI (K:=K) Z Z (aX (bK 2 nd) (aX (bK 3 nd) (aX (bK 4 nd) fE))))
      (po (aT (pR bY (pv 2) (pv 1) (nM _)) (po (aS (aH (va 3 (v1 4))))) pQ)))
      (po (aS (aH (pc pS (pc (aH pN) pN sT) aG))))),?_⟩
  have hl:=O.length;rw[aM]at hl
  have l:∀(i:Nat) (v:V),us[i]?=some v->(ks.take i).find? (λk=>decide (k.name=x))=none->∃k b pv,ks[i]?=some k/\v=.ref b/\H b=some (.tup [.str k.name,.str k.sort,pv])/\RelD H pv (lG k.parts):=λi v G hn=>by
    obtain⟨d,hd,rd⟩:=O.get G;rw[dA]at hd;obtain⟨k,g,rfl⟩:=dH hd;obtain⟨b,ws,rfl,J,_,_,rfl,rfl,_,_,rfl,rfl,U,_,rfl,C,rfl⟩:=rd;exact(aP k b U (jAAA g Z J C))
  rcases M with y |y
  case' inl=>
    refine .inl (fN ⟨_,zF y⟩ ?_);refine Dg (xs:=us) (λi σ j=>∃u r o,σ=[some (.ref a),some (.str x),u,r,o]/\j=H/\(ks.take i).find? (λk=>decide (k.name=x))=none) (aI none none (dG none Z Z Z)) (λi σ j _ p=>by obtain⟨_,_,_,_,rfl,_⟩:=p;exact zF y) ?_ ?_
  case' inr=>
    refine .inr (fN ⟨_,zD y⟩ ?_);refine hJ (xs:=us) (λi σ j=>∃u r o,σ=[some (.ref a),some (.str x),u,r,o]/\j=H/\(ks.take i).find? (λk=>decide (k.name=x))=none) (aI none none (dG none Z Z Z)) (λi σ j _ p=>by obtain⟨_,_,_,_,rfl,_⟩:=p;exact zD y) ?_ ?_
  all_goals first
    | (rintro i v σ j G ⟨u,r,o,rfl,rfl,hn⟩
       obtain⟨k,b,pv,g,rfl,J,C⟩:=l i v G hn;refine(gK (jAA (zD J) Z (aK ⟨Z,(aK ⟨Z,(aW Z ?_)⟩)⟩)));refine(bJ (bP Z (aJ (λc=>?_) (λc=>?_))))
       · have e:k.name=x:=V.str.inj (qE c)
         have e2:bN ks x=some k:=(oN hn g).1 (cS e);refine(aC (bQ (aE Z) (λt I=>?_)));have st:=zA I (.tup [.str k.sort,pv]);rw[e2]at q;exact q t pv _ st aD (C.same st _)
       · have e:¬k.name=x:=λz=>c (cS (congrArg V.str z))
         exact⟨_,_,_,Z,Z,(oN hn g).2 (cW e)⟩)
    | (rintro σ j ⟨u,r,o,rfl,rfl,hn⟩
       rw[fH (by omega)]at hn;rw[show bN ks x=none from hn]at q;refine⟨aE Z,λe he=>⟨aE Z,λt I=>?_⟩⟩;have Y:=zA he (.tup []);have st:=zA I (.tup [.str (S "num"),.ref e]);exact q t (.ref e) _ (Y.trans st) aD (iP ([]) (st _ _ aD) Z))
def M3 (T:Tx K mg) (G:Sp) (a:DefIs P w K mg base n "_law_sort_of" qaf Ld) (g:DefIs P w K mg base n "_law_size" qaf G) (M:∀j,m=j+1->G=tP j) (hm:m<=6) :
  DefIs P w K mg base (n+1) "_law_size" qaf (tP m):=by
 refine DefIs.of T.kN scl_size (by walk_at"l") (λf a6 A outer s H vs Q E hr h=>?_);obtain⟨v,ks,x,rfl,hk,u,a4,q⟩:=h;have nd:=scl_size.nd
 refine⟨_,(aF (mT (pd a hr (va 0 (v1 1))) (fI (K:=K) Z Z (aX (bK 2 nd) (aX (bK 3 nd) fE))))
   (aF (pB (i:=4) ["_law_name","_law_part","_law_kinds_here"] [none,none,some 0] Z (by kernel_rfl) nd Z (by first |exact Or.inl Z |exact Or.inr rfl) (eJ (K:=K) Z (pv 3)) (λ_ _ _ _=>(fI (K:=K) (n:=2) Z Z (aX (dU 0) (aX (dU 1) fE)))) (λ_ _ _ _=>iH) (λ_ _ _ _=>(pd g hr (va 2 (v1 1)))))
   (aF (aT (pR bY (pv 2) pS (nM _)) (po (aS (aN eY pI (bV (Mx Z) Z T.uU PyProof.Rows.boot_max (v1 4))))) pQ)
   (po (aS (aN eY pI (bV (Mz Z) Z T.uZ PyProof.Rows.boot_sum (v1 4)))))))),?_⟩
 refine(bJ (aP v ks x (eV hk (λt pv H1 s1 ht rp=>?_))));refine(iX (zD ht) Z Z Z Z ?_)
 have a3:∃ps:List (Str×Str),C5 (bN ks x)=lG ps/\ps.length<=5/\(∀p∈ps,∃j,m=j+1/\KIn ks j p.2)/\(Bd (bN ks x)=S "alt"->ps≠[]/\dZ (m+1) ks x=1+dP (ps.map λp=>dZ m ks p.2)) ∧
   (Bd (bN ks x)≠S "alt"->dZ (m+1) ks x=1+(ps.map λp=>dZ m ks p.2).sum):=by
  cases C:bN ks x with
  |none=>
   refine(cZ ([]) Z (jAAA (aA Z) (λ_ h=>nomatch h) (λh=>absurd h (by walk_at"k")) (λ_=>?_)));unfold dZ;rw[C];rfl
  | some k=>
   have l:k∈ks:=mL C
   have y:k.name=x:=by
    have:=zX C;simpa using this
   refine(cZ k.parts Z (jAAA (u.pts k l) (λp hp=>?_) (λh=>?_) (λh=>?_)))
   ·rcases a4 with rfl |⟨j,k',hj,a1,e⟩
    ·exact absurd y (mZ (u.nm k l))
    ·have e2:bN ks k'.name=some k':=u.at a1
     rw[e,C]at e2;cases e2;refine(cZ (m-1) (by omega) ?_);rcases u.ref j k a1 p hp with z |⟨i,k2,hi,z⟩
     ·exact .inl z
     ·exact .inr (aI i k2 ⟨by omega,z⟩)
   ·have o:k.rc=false:=by
     cases hc:k.rc with
     |false=>rfl
     |true=>
      have:k.sort=S "alt":=h;unfold Kn.sort at this;rw[hc,if_pos Z]at this;exact absurd this (by walk_at"k")
    refine⟨u.alt k l o,?_⟩
    conv=>lhs;unfold dZ
    rw[C];show 1+(if k.rc=true then _ else _)=_;rw[if_neg (by rw[o];decide)]
   ·have o:k.rc=true:=by
     cases hc:k.rc with
     |true=>rfl
     |false=>
      refine absurd ?_ h;show k.sort=S "alt";unfold Kn.sort;rw[hc,if_neg (aA Z)]
    conv=>lhs;unfold dZ
    rw[C];show 1+(if k.rc=true then _ else _)=_;rw[if_pos o]
 obtain⟨ps,a5,h5,U,a2,O⟩:=a3;rw[a5]at rp;obtain⟨e,us,rfl,he,J⟩:=rp;have hl:=J.length;rw[aM]at hl;refine(fN ⟨_,zD he⟩ ?_);refine oA (xs:=us) (λi ys H'=>Same H1 H'/\ys=((ps.take i).map λp=>dZ m ks p.2).map V.int) ⟨Same.refl _,Z⟩ (cL (by omega)) (λi ys H' _ p=>zD (p.1 _ _ he)) ?_ ?_
 ·rintro i z ys H' hz hi a0 ⟨I,rfl⟩
  obtain⟨d,hd,rd⟩:=J.get hz;rw[dA]at hd;obtain⟨p,hp,rfl⟩:=dH hd;obtain⟨b,ws,rfl,hb,_,_,rfl,rfl,_,_,rfl,rfl,rfl⟩:=rd;obtain⟨j,rfl,hj⟩:=U p (cJ hp);have D':=M j Z;subst D';refine(iX (zD (I _ _ hb)) Z Z Z Z ⟨hV Z Z,oK ?_⟩);refine(aC (eF (aI ks p.2 (aY (hk.same (s1.trans I)) u hj (λH2 s2=>eT hi a0 ⟨I.trans s2,?_⟩)))));rw[gA,hp];simp
 ·rintro ys H' a0 ⟨I,rfl⟩ D hD
  rw[fH (by omega)];have sD:=zA hD (.lst ((ps.map λp=>dZ m ks p.2).map V.int));have r:=s1.trans (I.trans sD)
  have hb:∀n∈ps.map (λp=>dZ m ks p.2),0<=n/\n<=1000000:=λn hn=>by
   obtain⟨p,_,rfl⟩:=fV hn;have h1:=Ak u.pts m p.2
   have h2:(6:Int) ^ m<=6 ^ 6:=by
    rcases(show m=0\/m=1\/m=2\/m=3\/m=4\/m=5\/m=6 by omega) with h |h |h |h |h |h |h <;> subst h <;> decide
   have h3:(6:Int) ^ 6=46656:=by decide
   omega
  refine(dE Z Z (aJ (λc=>?_) (λc=>?_)))
  ·obtain⟨Y,ez⟩:=a2 (V.str.inj (qE c))
   refine(aC (aV D (aZ (zF aD) (λz=>Y (List.map_eq_nil_iff.mp z)) (λmx h1 h2=>(fO ?_)))));have:=q _ r;rw[ez,<- Jq (λz=>Y (List.map_eq_nil_iff.mp z)) (λn hn=>(hb n hn).1) h1 h2]at this;exact this
  ·have ez:=O (λz=>c (cS (congrArg V.str z)))
   refine(gV D Z (zF aD) (jAA hb (by rw[aM];omega) (fO ?_)));have:=q _ r;rw[ez]at this;exact this
theorem L7(T:Tx K a):∀m,m<=6->DefIs P w K a base (m+2) "_law_size" qaf (tP m)
 |0,h=>M3 (n:=1) T (λ_ _ _ _=>False) (O3 T) (DefIs.none T.kN λ_ _ _ _ h=>h) (λj e=>by cases e) h
 |m+1,h=>M3 (n:=m+2) T (tP m) (O3 T) (L7 T m (by omega)) (λj e=>by cases e;rfl) h
def Cy:Sp:=λvs H Q _=>∃(f l nb:Addr) (srt:Str) (p q:Int) (ws:List V) (ks:List Kn) (n4:List Str),vs=[.ref f,.ref l,.str srt,.ref nb]/\H f=some (.lst [.int p,.int q])/\H l=some (.lst ws)/\RelDs H ws (ks.map Kn.d)/\KWf ks ∧
 H nb=some (.lst (n4.map V.str))/\n4.length=4/\(srt=S "rec"\/srt=S "alt")/\l≠f/\nb≠f ∧
 ∀v ps (H':Hp),Fed f H H'->RelD H' v (lG ps)->ps.length<=4->ps.map (·.1)=n4.take ps.length->(srt=S "alt"->ps≠[])->(∀p∈ps,KIn ks ks.length p.2)->(ps.map λp=>sz ks p.2).sum<=29->Q v H'
def Qs{D:Ends}{σ:St}{H:Hp}{c:Bool}{B:Prop}{i:Nat}{v x:V}(a:V->St)(f:σ.set i (some v)=a v)(e:σ=a x)(b:D.nx σ H->B)(h:∀y,(y=v\/(y=x/\c=false))->D.nx (a y) H):if c=true then oF (tC v) (nV i) D σ H else B:=by
 cases c with
 |false=>exact b (by rw[e];exact h x (.inr ⟨Z,Z⟩))
 |true=>
  show D.nx (σ.set i (some v)) H;rw[f];exact h v (.inl Z)
def Fl{a:TE}{σ:St}{H:Hp}{Q:VK}{c cA:Bool}(f:Q (.bl cA) H->a σ H Q)(h:∀b:Bool,(b=true->cA=true)->Q (.bl b) H):if c=true then a σ H Q else Q (.bl false) H:=by
 cases c with
 |false=>exact h false (λe=>by cases e)
 |true=>exact f (h cA id)
theorem Ly:∀{ns:List Int},(∀n∈ns,0<=n)->dP ns<=ns.sum/\0<=ns.sum
 |[],_=>⟨Int.le_refl _,Int.le_refl _⟩
 |n::ns,h=>by
  have c:=h n (by simp);have b:=Ly (ns:=ns) λm a=>h m (by simp[a]);rw[List.sum_cons];show max n (dP ns)<=_/\_;omega
theorem W2(a:KWf ks)(h:(ps.map λp=>sz ks p.2).sum<=29):dQ (Kn.mk x b ps) (sz ks)<=29:=by
 have:=Ly (ns:=ps.map λp=>sz ks p.2) λn hn=>by
  obtain⟨p,_,rfl⟩:=fV hn;have:=Bh a p.2;omega
 unfold dQ;show(if b=true then (ps.map λp=>sz ks p.2).sum else dP (ps.map λp=>sz ks p.2))<=29;split <;> omega
def Xt(T:Tx K mg)(a:DefIs P w K mg base n "_law_take" qab iW)(c:DefIs P w K mg base n "_law_size" qaf (tP 6)):DefIs P w K mg base (n+1) "_law_parts" qau Cy:=by
 refine DefIs.of T.kO scl_parts (by walk_at"l") (λf bi A outer s H vs Q E hr h=>?_);obtain⟨M,l,nb,G,p,q,ws,ks,n4,rfl,hf,hl,a5,wf,am,h4,hs,lf,nf,k⟩:=h;have nd:=scl_parts.nd
 refine⟨_,(aF (aR 4 nd (fU pN))
   (aF (aR 5 nd pI)
   (aF (fM zI Z (oO Z T.uW (pc (aN eY (aN eY (pd a hr (va 0 (pc pI pN aG))) (hH Dp Z T.uQ PyProof.Rows.boot_int (pc (rO bY (pv 2) pS (nM _)) pN Mp))) (hH Dp Z T.uQ PyProof.Rows.boot_int (pc (C6 (rO bY (pd a hr (va 0 (pc pI pN aG))) pI (nM _)) (Ia (rO bY (pv 2) pS (nM _)))) pN Y1))) pN eI)) (bK 6 nd)
   (aF (aR 7 nd (cC K (aN mO (fU (pc pS pN aG)) (iT ["_law_row"] [none] Z (by kernel_rfl) (oP (K:=K) Z (pv 1)) (λ_ _ _ _=>(dU 0)) (λ_ _ _ _=>iH) (λ_ _ _ _=>(px K (pv 0) pI)))) (pd a hr (va 0 (pc (aN eY pI (bV (dM (K:=K) Z) Z T.uS zH (v1 1))) pN eI)))))
   (aF (aT (pR lK (pd c hr (va 1 (v1 7))) (pv 5) (nM _)) (po (aR 7 nd pS)) pQ)
   (aF (aR 5 nd (aN pU (pv 5) (pd c hr (va 1 (v1 7)))))
   (po (cT (gM zG zK zJ gZ (pv 4) (pc (aH (pc (cC K (pv 3) (pv 6)) (v1 7) ss)) pN sT))))))))
   (po (aS (hH (mY (K:=K) Z) Z T.u6 zN (pc (gY rK (pv 4) iU (gE pI)) pN ss))))))),?_⟩
 refine⟨aE Z,λpl a9=>?_⟩;have s0:=zA a9 (.lst []);have O:pl≠M:=Ne.symm (dJ hf a9);have a3:=wf.few;have ai:=a5.length;rw[aM]at ai;refine(gW M p q 4 Z (s0 _ _ hf) (aA Z) (aA Z) (λr1 H1 bc bb f1=>?_));obtain⟨p1,q1,h1⟩:=f1.2;have F1:Fed M H H1:=⟨s0.but.trans f1.1,f1.2⟩;have av:H1 pl=some (.lst []):=f1.1 _ _ aD O
 have b7:∃cA cB:Bool,decide (V.str G=V.str (S "rec"))=cA/\decide (V.str G=V.str (S "alt"))=cB/\0<=(if cA=true then (1:Int) else 0)/\0<=(if cB=true then (1:Int) else 0)/\(if cA=true then (1:Int) else 0)+(if cB=true then (1:Int) else 0)<=1/\(G=S "alt"->(if cB=true then (1:Int) else 0)=1):=by
  rcases hs with rfl |rfl
  ·exact(eO true false (by walk_at"k") (by walk_at"k") (jAAA (aA Z) (aA Z) (aA Z) (λe=>absurd e (by walk_at"k"))))
  ·exact(eO false true (by walk_at"k") (by walk_at"k") (jAAA (aA Z) (aA Z) (aA Z) (λ_=>Z)))
 obtain⟨cA,cB,eA,eB,b5,bh,bg,b4⟩:=b7;refine(bQ Z (.inr (cZ cB (congrArg (λb=>[V.bl b]) eB) (fO ?_))));refine(gW M p1 q1 9 Z h1 (aA Z) (aA Z) (λr2 H2 ba b9 f2=>(bP Z (Fl (cA:=decide (V.str G=V.str (S "rec"))) (λz=>(bQ Z z)) (λb hb=>?_)))));rw[eA]at hb
 have bf:0<=(if b=true then (1:Int) else 0)/\(if b=true then (1:Int) else 0)<=(if cA=true then (1:Int) else 0):=by
  cases b with
  |false=>exact⟨Int.le_refl _,b5⟩
  |true=>rw[hb Z];exact⟨aA Z,aA Z⟩
 refine .inr (cZ b Z (fQ Z (jAA (by omega) (by omega) ?_)))
 all_goals
   have F2:Fed M H H2:=F1.trans f2;have au:H2 pl=some (.lst []):=f2.1 _ _ av O
   refine vM (λi σ H'=>∃us,∃ps:List (Str×Str),∃left o6 o7,σ=[some (.ref M),some (.ref l),some (.str _),some (.ref nb),some (.ref pl),some (.int left),o6,o7]/\Fed M H H'/\H' pl=some (.lst us)/\RelDs H' us (ps.map nJ)/\ps.length=i/\ps.map (·.1)=n4.take i/\(∀p∈ps,KIn ks ks.length p.2)/\(ps.map λp=>sz ks p.2).sum+left=25/\-(i:Int)<=left)
    (aI ([]) ([]) (aP 25 none none (aY F2 au Z (cP ⟨(λ_ h=>nomatch h),Z,aA Z⟩)))) ?_ ?_
   ·rintro i σ H3 hi ⟨us,ps,left,o6,o7,rfl,F,a7,J,g,a8,ac,ak,aa⟩
    have be:i<4:=by omega
    obtain⟨p3,q3,h3⟩:=F.2;have ab:=F.1 l _ hl lf;have bd:=F.1 nb _ am nf;have ah:=a5.tups (cK (aI p q hf) F) _;refine⟨aE Z,λl1 ay=>?_⟩;have Y:=zA ay (.lst [.str (S "num")]);refine(fN ⟨_,zF (Y _ _ ab)⟩ ?_);refine Nb (j:=0) (xs:=ws) (λi ys H'=>H'=upd H3 l1 (.lst [.str (S "num")])/\ys=((ks.take i).map Kn.name).map V.str) (by rfl) ⟨Z,Z⟩ (cL (by omega)) (λi ys H' _ p=>by obtain⟨rfl,_⟩:=p;exact zF (Y _ _ ab)) ?_ ?_
    ·rintro i' x ys H' hx an ⟨rfl,rfl⟩
     obtain⟨d,hd,rd⟩:=(ah.same Y _).get hx;rw[dA]at hd;obtain⟨k',b0,rfl⟩:=dH hd;obtain⟨b,b8,rfl,hb,_,_,rfl,rfl,_,_,rfl,rfl,v3,_,rfl,r3,rfl⟩:=rd;have b1:i'<ws.length:=(cV hx).1;refine(aQ (zD hb) Z (nL b1 an ⟨Z,?_⟩));rw[gA,b0];simp
    rintro ys H' an ⟨rfl,rfl⟩ D2 b6;rw[fH (by omega)];have s2:=zA b6 (.lst ((ks.map Kn.name).map V.str));refine(aI l1 D2 (aK (cP (jAAA (s2 _ _ aD) aD (aB (by rw[aM,aM];show 1+_<=_;omega)) (λl3 a1=>?_)))));have s3:=zA a1 (.lst ([.str (S "num")]++(ks.map Kn.name).map V.str));have C:=Y.trans (s2.trans s3);have ar:l3≠M:=Ne.symm (dJ (s2 _ _ (Y _ _ h3)) a1);refine(aC (gV l Z (.inl (zF (C _ _ ab))) (fO ?_)));refine(aI M p3 (aV q3 (aY (C _ _ h3) (by omega) (by omega) (λr H4 r0 ae f4=>?_))));rw[ai]at ae;obtain⟨x,hx,a0⟩:=Dm r0 ae;have ao:H4 l3=some (.lst ([.str (S "num")]++(ks.map Kn.name).map V.str)):=f4.1 _ _ aD ar;refine(eZ (zF ao) hx ?_);have F4:Fed M H H4:=(F.same C).trans f4;have u:=f4.1 _ _ (C _ _ a7) O;have aj:=(J.same C _).tups (cK (aI p3 q3 (C _ _ h3)) f4) _;have ax:=F4.1 l _ hl lf;have aw:=F4.1 nb _ am nf;have ag:=a5.tups (cK (aI p q hf) F4) _;have U:KsSeq H4 (.ref l) ks:=(iP ws (.inl ax) ag);refine(aC (eF (aI ks x (aY U wf (a0.mono a3) (λH5 s5=>(aC (fQ Z (Qs (x:=.str x) (λy=>[some (.ref M),some (.ref l),some (.str G),some (.ref nb),some (.ref pl),some (.int left),some (.int (0+(i:Int))),some y]) Z Z id (λy hy=>?_)))))))))
    obtain⟨kd,rfl,af,az⟩:∃kd,y=.str kd/\KIn ks ks.length kd/\-((i:Int)+1)<=left-sz ks kd:=by
     rcases hy with rfl |⟨rfl,b2⟩
     ·exact(dG (S "num") Z (.inl Z) (by have h1:sz ks (S "num")=1:=zV wf;omega))
     ·refine(bU a0 ?_)
      have h0:¬left<sz ks x:=of_decide_eq_false b2;omega
    ·refine(bJ (eF (aI ks kd (aY (U.same s5) wf (af.mono a3) (λH6 s6=>(fO ?_))))))
     have a4:=s5.trans s6;have al:=a4 _ _ u;have a2:i<n4.length:=by omega
     refine(bQ (.inl (gR (zF al))) (bJ (eZ (zF (a4 _ _ aw)) (Mr a2) (bQ (aE Z) (λt ht=>?_)))));have I:∀o,Same H4 (upd H6 t o):=λo=>a4.trans (zA ht o);have a6:=J.length;rw[aM]at a6;refine(iA us Z (I _ _ _ u) (cL (by omega)) ?_);refine⟨_,(aV (ps++[(n4[i],kd)]) (aK (dS (Fed.put (F4.same (I _)) a9 O _) aD ?_ (by rw[bS,List.length_singleton,g]) (jAAA ?_ (λz hz=>?_) ?_ (by push_cast;exact az)))))⟩
     ·rw[bZ]
      refine RelDs.append ((aj.same (I _) _).tups (xD (I _ _ _ u) _) _) ?_;exact(aW (cY (xD (I _ _ _ u) _ _ _ aD) Z Z Z Z Z) Z)
     ·rw[bZ,a8,gA,cF a2]
      rfl
     ·rcases dD hz with hz |hz
      ·exact ac z hz
      ·rw[cD hz];exact af
     ·show((ps++[(n4[i],kd)]).map λp=>sz ks p.2).sum+(left-sz ks kd)=25
      rw[bZ,List.sum_append];simp only[List.map_cons,List.map_nil,List.sum_cons,List.sum_nil];omega
   ·rintro σ H3 ⟨us,ps,left,o6,o7,rfl,F,a7,J,g,a8,ac,ak,aa⟩
    have a6:=J.length;rw[aM]at a6;refine(eF ⟨Z,(iP us (zF a7) (λc2 b3=>?_))⟩)
    have aq:bI us none (some 4)=us:=by
     unfold bI;rw[show HT.sIx us.length 0 none=0 from Z,List.drop_zero,Nat.sub_zero];refine fH ?_;unfold HT.sIx;simp;omega
    have Y:=zA b3 (.lst (bI us none (some 4)));refine(aV c2 ⟨Z,.inl ⟨zF aD,λt ht=>?_⟩⟩);have s2:=zA ht (.tup (bI us none (some 4)));refine k _ ps _ (F.same (Y.trans s2)) (iP us (by rw[aq];exact aD) (J.same (Y.trans s2) _)) (by omega) (by rw[g];exact a8) ?_ ac (by omega);intro ha e;have h9:=b4 ha;rw[e]at g;simp only[List.length_nil]at g;omega
def L9:Sp:=λvs H Q _=>∃(f nb:Addr) (p q:Int) (nms:List Str),vs=[.ref f,.ref nb]/\H f=some (.lst [.int p,.int q])/\H nb=some (.lst (nms.map V.str))/\NmsR nms/\nb≠f/\∀v ks (H':Hp),Fed f H H'->RelD H' v (iO ks)->Fw nms ks->Fit ks->Q v H'
def Xr(T:Tx K mg)(a:DefIs P w K mg base n "_law_take" qab iW)(g:DefIs P w K mg base n "_law_parts" qau Cy):DefIs P w K mg base (n+1) "_law_kinds" qa7 L9:=by
 refine DefIs.of T.kP scl_kinds (by walk_at"l") (λf au A outer s H vs Q E hr h=>?_);obtain⟨I,nb,p,q,j,rfl,hf,ai,M,nf,k⟩:=h;have nd:=scl_kinds.nd
 refine⟨_,(aF (aR 2 nd (fU pN))
   (aF (fM zI Z (oO Z T.uW (pc (pd a hr (va 0 (pc pI pN aG))) pN bL)) (bK 3 nd)
   (aF (aR 4 nd (cC K (fU (pc pS (pc pS pN aG) aG)) (pd a hr (va 0 (pc pI pN aG)))))
   (po (cT (gM zG zK zJ gZ (pv 2) (pc (aH (pc (cC K (pv 1) (pv 3)) (va 4 (pc (pd g hr (va 0 (va 2 (va 4 (pc (gY rK (pv 1) (gE pI) (gE pI)) pN ss))))) pN bL)) ss)) pN sT))))))
   (po (aS (hH (mY (K:=K) Z) Z T.u6 zN (v1 2)))))),?_⟩
 refine⟨aE Z,λl hl=>?_⟩;have s0:=zA hl (.lst []);have lf:l≠I:=Ne.symm (dJ hf hl);have a2:=M.len;refine(gW I p q 5 Z (s0 _ _ hf) (aA Z) (aA Z) (λr1 H1 an am f1=>(gH Z (jAA (by omega) (by omega) ?_))));have F1:Fed I H H1:=⟨s0.but.trans f1.1,f1.2⟩;have ah:H1 l=some (.lst []):=f1.1 _ _ aD lf
 refine vM (λi σ H'=>∃us,∃ks:List Kn,∃o3 o4,σ=[some (.ref I),some (.ref nb),some (.ref l),o3,o4]/\Fed I H H'/\H' l=some (.lst us)/\RelDs H' us (ks.map Kn.d)/\ks.length=i/\Fit ks/\Fw j ks)
  (aI ([]) ([]) (aI none none (aY F1 ah Z (aY Fit.nil KWf.nil (qX _) ⟨Z,λ_ h=>nomatch h⟩)))) ?_ ?_
 ·rintro i σ H2 hi ⟨us,ks,o3,o4,rfl,F,a5,J,O,G,wf,aq,ak,aj⟩
  have ar:i<4:=by omega
  have af:=J.length;rw[aM]at af;obtain⟨p2,q2,h2⟩:=F.2;refine⟨aE Z,λl1 a9=>?_⟩;have Y:=zA a9 (.lst [.str (S "rec"),.str (S "alt")]);have ac:l1≠I:=Ne.symm (dJ h2 a9);refine(gW I p2 q2 2 Z (Y _ _ h2) (aA Z) (aA Z) (λr H3 r0 ao f3=>?_))
  have ae:∃b:Str,fG [V.str (S "rec"),V.str (S "alt")] r=some (.str b)/\(b=S "rec"\/b=S "alt"):=by
   rcases(show r=0\/r=1 by omega) with rfl |rfl
   ·exact(cZ (S "rec") Z (.inl Z))
   ·exact(cZ (S "alt") Z (.inr Z))
  obtain⟨b,al,x⟩:=ae;refine(eZ (zF (f3.1 _ _ aD ac)) al ?_);have F3:Fed I H H3:=(F.same Y).trans f3;obtain⟨p3,q3,h3⟩:=f3.2;have C:=f3.1 _ _ (Y _ _ a5) lf;have a0:=(J.same Y _).tups (cK (aI p2 q2 (Y _ _ h2)) f3) _;have a8:=F3.1 nb _ ai nf;have U:i<j.length:=by omega
  refine(bQ (.inl (gR (zF C))) (bJ (eZ (zF a8) (Mr U) (aC ?_))));refine(gC (eF (lF (gB (zF a8) (λc hc=>?_)))));rw[Qe a2];have sc:=zA hc (.lst (((j.drop 8).take 4).map V.str));have cf:c≠I:=Ne.symm (dJ h3 hc);refine(aP I l c (fD b p3 q3 us ks ((j.drop 8).take 4) (aY (sc _ _ h3) (sc _ _ C) (a0.same sc _) (jAAA wf aD (by rw[List.length_take,List.length_drop,a2];rfl) (jAAA x lf cf (λv ps H4 f4 rv h4 a4 aa a1 a7=>?_))))));have F4:Fed I H H4:=(F3.same sc).trans f4;have u:=f4.1 _ _ (sc _ _ C) lf;have a6:=(a0.same sc _).tups (cK (aI p3 q3 (sc _ _ h3)) f4) _;refine⟨aE Z,λt ht=>?_⟩;have s5:∀o,Same H4 (upd H4 t o):=λo=>zA ht o;refine(iA us Z (s5 _ _ _ u) (cL (by omega)) ?_);have ab:=Sr M ps.length
  have a3:(Kn.mk j[i] (decide (b=S "rec")) ps).sort=b:=by
   unfold Kn.sort;rcases x with rfl |rfl
   ·rfl
   ·show(if decide (S "alt"=S "rec")=true then _ else _)=_
    rw[if_neg (by walk_at"k")]
  have y:ks.map Kn.name=j.take i:=by rw[ak,O]
  have w2:KWf (ks++[Kn.mk j[i] (decide (b=S "rec")) ps]):=by
   refine wf.snoc ?_ (M.nm _ (qY U)) a1 ?_ (by omega) (by show ps.length<=5;omega) (by show(ps.map (·.1)).Nodup;rw[a4];exact ab.1) (λz hz=>ab.2 z.1 (by rw[<- a4];exact qP hz))
   ·show j[i] ∉ks.map Kn.name
    rw[y];exact M.ahead (by omega) U
   ·intro ag
    refine aa ?_;rcases x with e |e
    ·exact absurd ag (by show ¬decide (b=S "rec")=false;rw[e];decide +kernel)
    ·exact e
  refine⟨_,(eN (ks++[Kn.mk j[i] (decide (b=S "rec")) ps]) (eX (Fed.put (F4.same (s5 _)) hl lf _) aD ?_ (by rw[bS,List.length_singleton,O]) (G.snoc wf w2 a1 (W2 wf a7)) ?_))⟩
  ·rw[bZ]
   refine RelDs.append ((a6.same (s5 _) _).tups (xD (s5 _ _ _ u) _) _) ?_;refine(aW (fA (xD (s5 _ _ _ u) _ _ _ aD) (eM Z ?_ Z ((rv.same (s5 _) _).tups (xD (s5 _ _ _ u) _) _) Z)) Z);show V.str b=V.str _;rw[a3]
  ·refine(jAAA w2 (by rw[bS,List.length_singleton];omega) ?_ ?_)
   ·rw[bZ,y,bS,List.length_singleton,O,gA,cF U]
    rfl
   ·intro z hz
    rcases dD hz with hz |hz
    ·exact aj z hz
    ·rw[cD hz]
     exact⟨h4,a4⟩
 ·rintro σ H2 ⟨us,ks,o3,o4,rfl,F,a5,J,O,G,hK⟩
  refine(eP l us ⟨Z,.inl ⟨zF a5,λt ht=>?_⟩⟩);have Y:=zA ht (.tup us);exact k _ ks _ (F.same Y) (iP us aD (J.same Y _)) hK G
def C1:Sp:=λvs H Q _=>∃(a:Addr) (p q:Int),vs=[.ref a]/\H a=some (.lst [.int p,.int q])/\∀(i:Int) (H':Hp),Nm i->Fed a H H'->Q (.int i) H'
def Yg(T:Tx K z)(b:DefIs P w K z base n "_law_take" qab iW):DefIs P w K z base (n+1) "_law_number" qat C1:=by
 refine DefIs.of T.kL scl_number (λvs H Q E h=>?_) (λf M A outer s H vs Q E l h=>?_)
 ·obtain⟨a,p,q,rfl,_⟩:=h
  rfl
 obtain⟨a,p,q,rfl,J,k⟩:=h;have nd:=scl_number.nd;have U:(2:Int) ^ (32:Int).toNat=4294967296:=by decide
 refine⟨_,(aF (aR 1 nd (pd b l (va 0 (pc pI pN aG))))
   (aF (aT (pR mR (pv 1) pI (nM _)) (po (aS (pd b l (va 0 (pc pI pN aG))))) pQ)
   (aF (aT (pR bY (pv 1) pI (nM _)) (po (aS (aN pU (aN pU (aN rJ pI pI) pI) (pd b l (va 0 (pc pI pN aG)))))) pQ)
   (po (aS (pd b l (va 0 (pc (aN rJ pI pI) pN eI)))))))),?_⟩
 refine(gW a p q 4 Z J (aA Z) (aA Z) (λO Y I G o=>?_));obtain⟨u,r,x⟩:=o.2;refine(aC (fQ Z ?_));refine aJ (λc=>?_) (λc=>?_)
 ·exact(gW a u r 6 Z x (aA Z) (aA Z) (λy C e g j=>k _ _ ⟨e,by omega⟩ (o.trans j)))
 refine(dE Z Z ?_);refine aJ (λc=>?_) (λc=>?_)
 ·refine(fJ (jAA (aA Z) (aA Z) (aA Z)) (fO (gW a u r 6 Z x (aA Z) (aA Z) (λy C e g j=>(fO (k _ _ ⟨by omega,by omega⟩ (o.trans j)))))))
 ·refine(aC (fJ (jAA (aA Z) (aA Z) (aA Z)) (aI a u (aV r (aY x (by omega) (by omega) (λy C e g j=>k _ _ ⟨e,by omega⟩ (o.trans j)))))))
def rQ:Sp:=λvs H Q _=>∃v ks x,vs=[v,.str x]/\KsAt H v ks/\Q (Be (bN ks x)) H
def vN:Sp:=λvs H Q _=>∃v ks x,vs=[v,.str x]/\KsAt H v ks/\∀u H',Same H H'->RelD H' u (C5 (bN ks x))->Q u H'
def Ao(T:Tx K y):DefIs P w K y base (n+1) "sort_of" qac rQ:=by
 refine DefIs.of T.jF sc_sort_of (by walk_at"l") (λf O A outer s H vs Q E hr h=>?_);obtain⟨v,ks,x,rfl,I,q⟩:=h;have nd:=sc_sort_of.nd
 refine⟨_,(aF (fM zI Z (eJ (K:=K) Z (pv 0)) (fI (K:=K) Z Z (aX (bK 2 nd) (aX (bK 3 nd) (aX (bK 4 nd) fE))))
   (po (aT (pR bY (pv 2) (pv 1) (nM _)) (po (aS (pv 3))) pQ)))
   (po (aS nX))),?_⟩
 obtain⟨a,us,rfl,r,u⟩:=I.1;refine(fN ⟨_,zD r⟩ ?_);have G:=u.length;rw[aM]at G;refine hJ (xs:=us) (λi σ j=>∃o m l,σ=[some (.ref a),some (.str x),o,m,l]/\j=H/\(ks.take i).find? (λk=>decide (k.name=x))=none) (aP none none none (cP Z)) (λi σ j _ p=>?_) ?_ ?_
 ·obtain⟨_,_,_,_,rfl,_⟩:=p
  exact zD r
 ·rintro i v σ j C ⟨o,m,l,rfl,rfl,hn⟩
  obtain⟨d,hd,rd⟩:=u.get C;rw[dA]at hd;obtain⟨k,g,rfl⟩:=dH hd;obtain⟨b,ws,rfl,J,_,_,rfl,rfl,_,_,rfl,rfl,U,_,rfl,Y,rfl⟩:=rd;refine(gK (jAA (zD J) Z (aK ⟨Z,(aK ⟨Z,(aW Z ?_)⟩)⟩)));refine(bJ (bP Z (aJ (λc=>?_) (λc=>?_))))
  ·have e:k.name=x:=V.str.inj (qE c)
   have M:bN ks x=some k:=(oN hn g).1 (cS e);refine(aC ?_);rw[M]at q;exact q
  ·have e:¬k.name=x:=λz=>c (cS (congrArg V.str z))
   exact(aK (bU Z ((oN hn g).2 (cW e))))
 ·rintro σ j ⟨o,m,l,rfl,rfl,hn⟩
  rw[fH (by omega)]at hn;rw[show bN ks x=none from hn]at q;exact q
def E7(T:Tx K C):DefIs P w K C base (n+1) "parts_of" qac vN:=by
 refine DefIs.of T.jG sc_parts_of (by walk_at"l") (λf Y A outer s H vs Q E hr h=>?_);obtain⟨v,ks,x,rfl,M,q⟩:=h;have nd:=sc_parts_of.nd
 refine⟨_,(aF (fM zI Z (eJ (K:=K) Z (pv 0)) (fI (K:=K) Z Z (aX (bK 2 nd) (aX (bK 3 nd) (aX (bK 4 nd) fE))))
   (po (aT (pR bY (pv 2) (pv 1) (nM _)) (po (aS (pv 4))) pQ)))
   (po (aS (aH pN)))),?_⟩
 obtain⟨a,us,rfl,r,u⟩:=M.1;refine(fN ⟨_,zD r⟩ ?_);have J:=u.length;rw[aM]at J;refine hJ (xs:=us) (λi σ j=>∃o m l,σ=[some (.ref a),some (.str x),o,m,l]/\j=H/\(ks.take i).find? (λk=>decide (k.name=x))=none) (aP none none none (cP Z)) (λi σ j _ p=>?_) ?_ ?_
 ·obtain⟨_,_,_,_,rfl,_⟩:=p
  exact zD r
 ·rintro i v σ j G ⟨o,m,l,rfl,rfl,hn⟩
  obtain⟨d,hd,rd⟩:=u.get G;rw[dA]at hd;obtain⟨k,g,rfl⟩:=dH hd;obtain⟨b,ws,rfl,O,_,_,rfl,rfl,_,_,rfl,rfl,v3,_,rfl,y,rfl⟩:=rd;refine(gK (jAA (zD O) Z (aK ⟨Z,(aK ⟨Z,(aW Z ?_)⟩)⟩)));refine(bJ (bP Z (aJ (λc=>?_) (λc=>?_))))
  ·have e:k.name=x:=V.str.inj (qE c)
   have U:bN ks x=some k:=(oN hn g).1 (cS e);refine(aC ?_);rw[U]at q;exact q _ _ (Same.refl _) y
  ·have e:¬k.name=x:=λz=>c (cS (congrArg V.str z))
   exact(aK (bU Z ((oN hn g).2 (cW e))))
 ·rintro σ j ⟨o,m,l,rfl,rfl,hn⟩
  rw[fH (by omega)]at hn;rw[show bN ks x=none from hn]at q;exact⟨aE Z,λp I=>q _ _ (zA I _) (iP ([]) aD Z)⟩
theorem aL{t u:TS}{D:Ends}(h:∀R:St->Hp->Prop,(∀σ H,u D σ H->R σ H)->t {D with nx:=R} σ H):xO t u D σ H:=h (u D) λ_ _ h=>h
theorem M9{k:Kn}(h:k.rc=true):k.sort=S "rec":=by unfold Kn.sort;rw[if_pos h]
theorem Vu{k:Kn}(h:k.rc=false):k.sort=S "alt":=by unfold Kn.sort;rw[if_neg (by rw[h];decide)]
def B6{A B:Prop}(h:c=true)(a:A):if c=true then A else B:=by rw[if_pos h];exact a
def yQ:Sp:=λvs H Q _=>∃(f ka:Addr) (p q:Int) (us:List V) (ks:List Kn),vs=[.ref f,.ref ka]/\H f=some (.lst [.int p,.int q])/\(H ka=some (.lst us)\/H ka=some (.tup us))/\RelDs H us (ks.map Kn.d)/\ks.length<=6/\∀x H',KIn ks ks.length x->Fed f H H'->Q (.str x) H'
def xjh(T:Tx K mg)(c:DefIs P w K mg base n "_law_take" qab iW):DefIs P w K mg base (n+1) "_law_any_kind" qak yQ:=by
 refine DefIs.of T.kR scl_any_kind (by walk_at"l") (λf a3 A outer s H vs Q E hr h=>?_);obtain⟨f',ka,p1,q1,us,ks,rfl,h1,a,J,a2,q⟩:=h;have nd:=scl_any_kind.nd;refine(gH (po (aS (cC K (aN mO (fU (pc pS pN aG)) (iT ["_law_row"] [none] Z (by kernel_rfl) (Gi (oP (K:=K) Z (pv 1)) (eJ (K:=K) Z (pv 1))) (λ_ _ _ _=>(dU 0)) (λ_ _ _ _=>iH) (λ_ _ _ _=>(px K (pv 0) pI)))) (pd c hr (va 0 (pc (aN eY pI (bV (dM (K:=K) Z) Z T.uS zH (v1 1))) pN eI)))))) ?_);refine⟨aE Z,λl2 a1=>?_⟩;have r:=zA a1 (.lst [.str (S "num")]);have M:=J.length;rw[aM]at M;rcases a with a |a
 ·refine .inl (fN ⟨_,zF (r _ _ a)⟩ ?_)
  refine Nb (j:=0) (xs:=us) (λi ys y=>y=upd H l2 (.lst [.str (S "num")])/\ys=((ks.take i).map Kn.name).map V.str) (by rfl) ⟨Z,Z⟩ (cL (by omega)) (λi ys y _ p=>by obtain⟨rfl,_⟩:=p;exact zF (r _ _ a)) ?_ ?_
  ·rintro i' x ys y u l ⟨rfl,rfl⟩
   obtain⟨d,hd,rd⟩:=(J.same r _).get u;rw[dA]at hd;obtain⟨k',O,rfl⟩:=dH hd;obtain⟨b,a0,rfl,hb,_,_,rfl,rfl,_,_,rfl,rfl,v3,_,rfl,r3,rfl⟩:=rd;have U:i'<us.length:=(cV u).1;refine(aQ (zD hb) Z (nL U l ⟨Z,?_⟩));rw[gA,O];simp
  rintro ys y l ⟨rfl,rfl⟩ D2 Y;rw[fH (by omega)];have z:=zA Y (.lst ((ks.map Kn.name).map V.str));refine(aI l2 D2 (aK (cP (jAAA (z _ _ aD) aD (aB (by rw[aM,aM];show 1+_<=_;omega)) (λl3 o=>?_)))));have s4:=zA o (.lst ([.str (S "num")]++(ks.map Kn.name).map V.str));have e:=r.trans (z.trans s4);have I:l3≠f':=Ne.symm (dJ ((r.trans z) _ _ h1) o);refine(aC (gV ka Z (.inl (zF (e _ _ a))) (fO (aI f' p1 (aV q1 (aY (e _ _ h1) (by omega) (by omega) (λr5 H5 G C f5=>?_)))))));obtain⟨x,u,g⟩:=Dm (ks:=ks) G (by rw[<- M];exact C);exact(eZ (zF (f5.1 _ _ aD I)) u (q x _ g (((Fed.refl h1).same e).trans f5)))
 ·refine .inr (fN ⟨_,zD (r _ _ a)⟩ ?_)
  refine tT (j:=0) (xs:=us) (λi ys y=>y=upd H l2 (.lst [.str (S "num")])/\ys=((ks.take i).map Kn.name).map V.str) (by rfl) ⟨Z,Z⟩ (cL (by omega)) (λi ys y _ p=>by obtain⟨rfl,_⟩:=p;exact zD (r _ _ a)) ?_ ?_
  ·rintro i' x ys y u l ⟨rfl,rfl⟩
   obtain⟨d,hd,rd⟩:=(J.same r _).get u;rw[dA]at hd;obtain⟨k',O,rfl⟩:=dH hd;obtain⟨b,a0,rfl,hb,_,_,rfl,rfl,_,_,rfl,rfl,v3,_,rfl,r3,rfl⟩:=rd;have U:i'<us.length:=(cV u).1;refine(aQ (zD hb) Z (nL U l ⟨Z,?_⟩));rw[gA,O];simp
  rintro ys y l ⟨rfl,rfl⟩ D2 Y;rw[fH (by omega)];have z:=zA Y (.lst ((ks.map Kn.name).map V.str));refine(aI l2 D2 (aK (cP (jAAA (z _ _ aD) aD (aB (by rw[aM,aM];show 1+_<=_;omega)) (λl3 o=>?_)))));have s4:=zA o (.lst ([.str (S "num")]++(ks.map Kn.name).map V.str));have e:=r.trans (z.trans s4);have I:l3≠f':=Ne.symm (dJ ((r.trans z) _ _ h1) o);refine(aC (gV ka Z (.inr (zD (e _ _ a))) (fO (aI f' p1 (aV q1 (aY (e _ _ h1) (by omega) (by omega) (λr5 H5 G C f5=>?_)))))));obtain⟨x,u,g⟩:=Dm (ks:=ks) G (by rw[<- M];exact C);exact(eZ (zF (f5.1 _ _ aD I)) u (q x _ g (((Fed.refl h1).same e).trans f5)))
def Vq(h:RelD H u (.tup ds)):∃b,u=.ref b:=by
 obtain⟨b,_,e,_⟩:=h;exact⟨b,e⟩
def Rh(a:KWf ks)(h:KIn ks m x)(r:RelD H u (cH (m+1) ks x)):∃b,u=.ref b:=by
 rcases h.nu a with⟨rfl,_,e,_⟩ |⟨j,k,z,o,hn,l,g,_,⟨c,e,_⟩ |⟨c,p,f,y,e,_⟩⟩ <;> (rw[e]at r;exact Vq r)
def lA(F:Nat->List Kn->Str->D)(m:Nat):Sp:=λvs H Q _=>∃v ks x,vs=[v,.str x]/\RelD H v (iO ks)/\KWf ks/\KIn ks m x/\∀u H',Same H H'->RelD H' u (F (m+1) ks x)->Q u H'
def Oe (T:Tx K mg) (M:Sp) (g:DefIs P w K mg base n "parts_of" qac vN) (l:DefIs P w K mg base n "sort_of" qac rQ) (c:DefIs P w K mg base n "nought_term" qad M) (a0:∀j,m=j+1->M=lA cH j) :
  DefIs P w K mg base (n+1) "nought_term" qad (lA cH m):=by
 refine DefIs.of T.kB sc_nought_term (by walk_at"l") (λf a8 A outer s H vs Q E hr h=>?_);obtain⟨v,ks,x,rfl,hk,J,a7,q⟩:=h;have nd:=sc_nought_term.nd
 refine⟨_,(aF (aT (pR bY (pv 1) pS (nM _)) (po (aS (aH (pc pS (pc pI pN aG) aG)))) pQ)
   (aF (aR 2 nd (pd g hr (va 0 (v1 1))))
   (aF (aT (pR bY (pd l hr (va 0 (v1 1))) pS (nM _)) (po (aS (aH (pc pS (va 1 (pc (hH (mY (K:=K) Z) Z T.u6 zN (pc (iT ["part","kinds"] [none,some 0] Z (by kernel_rfl) (eJ (K:=K) Z (pv 2)) (λ_ _ _ _=>(dU 0)) (λ_ _ _ _=>iH) (λ_ _ _ _=>(pd c hr (va 1 (pc (px K (pv 0) pI) pN ss))))) pN oB)) pN bL)) aG)))) pQ)
   (po (aS (aH (pc pS (va 1 (pc (px K (px K (pv 2) pI) pI) (pc (pd c hr (va 0 (pc (px K (px K (pv 2) pI) pI) pN ss))) pN bL) ss)) aG))))))),?_⟩
 rcases a7.nu J with⟨rfl,_,e,_⟩ |⟨j,k,rfl,a3,hn,hm,hp,a5,I⟩
 ·refine(dE Z Z (iteKT (by walk_at"k") ?_))
  refine⟨aE Z,λt ht=>?_⟩;rw[e]at q;exact q _ _ (zA ht _) (cY aD Z Z Z Z Z)
 ·have D':=a0 j Z
  subst D';refine(dE Z Z (iteKF (cW λz=>a5 (V.str.inj z)) ?_));refine(aC (eP v ks (dG x Z (J.ksAt hk) (λu H1 Y r1=>?_))));rw[a3]at r1;obtain⟨a,us,rfl,ha,C⟩:=r1;have hl:=C.length;rw[aM]at hl;have h5:=J.pts k hm;refine(bJ (aP v ks x (eV (J.ksAt (hk.same Y _)) ?_)));rw[a3];rcases I with⟨hc,e,_⟩ |⟨hc,p,r,er,e,_⟩
  ·refine(bP Z (iteKT (cS (by show V.str k.sort=_;rw[M9 hc];rfl)) ?_))
   refine(aC (fN ⟨_,zD ha⟩ ?_));refine tT (j:=0) (xs:=us) (λi ys H'=>Same H1 H'/\RelDs H' ys ((k.parts.take i).map λp=>cH (j+1) ks p.2)) (by rfl) ⟨Same.refl _,Z⟩ (cL (by omega)) (λi ys H' _ p=>zD (p.1 _ _ ha)) ?_ ?_
   ·rintro i y ys H' hy a2 ⟨O,o⟩
    obtain⟨d,hd,rd⟩:=C.get hy;rw[dA]at hd;obtain⟨p,a1,rfl⟩:=dH hd;obtain⟨b,ws,rfl,hb,_,_,rfl,rfl,_,_,rfl,rfl,rfl⟩:=rd;have hi:i<us.length:=(cV hy).1;refine(dI (zD (O _ _ hb)) Z ⟨_,(aI ks p.2 (aY (hk.same (Y.trans O) _) J (hp p (cJ a1)) (λu H2 G r2=>nL hi a2 ⟨O.trans G,?_⟩)))⟩);rw[gA,a1,bZ];exact(o.same G _).append (aW r2 Z)
   ·rintro ys H' a2 ⟨O,o⟩ D hD
    rw[fH (by omega)]at o;refine(aI D ys ⟨Z,.inl ⟨zF aD,λl' a6=>⟨aE Z,λt ht=>?_⟩⟩⟩);have G:=zA hD (.lst ys);have U:=zA a6 (.tup ys);have s4:=zA ht (.tup [.str (S "rec"),.str x,.ref l']);rw[e]at q;exact q _ _ (Y.trans (O.trans (G.trans (U.trans s4)))) (fA aD (eM Z Z Z (iP ys (s4 _ _ aD) (o.same (G.trans (U.trans s4)) _)) Z))
  ·refine(bP Z (iteKF (cW (by show ¬V.str k.sort=_;rw[Vu hc];decide +kernel)) ?_))
   rw[er]at C;obtain⟨vp,rest,rfl,rp,_⟩:=C;obtain⟨b,ws,rfl,hb,_,_,rfl,rfl,_,_,rfl,rfl,rfl⟩:=rp;have a4:SqT K H1 a (.ref b::rest):=zD ha;have at0:fG (V.ref b::rest) 0=some (.ref b):=cM (j:=0) Z;refine(dI a4 at0 (eZ (zD hb) Z ?_));refine(dI a4 at0 (eZ (zD hb) Z ?_));refine⟨_,(aI ks p.2 (aY (hk.same Y _) J (hp p (by rw[er];simp)) (λu H2 G r2=>⟨aE Z,λt ht=>?_⟩)))⟩;have U:=zA ht (.tup [.str (S "tag"),.str x,.str p.1,u]);rw[e]at q;exact q _ _ (Y.trans (G.trans U)) (fA aD (eM Z Z Z Z (aW (r2.same U _) Z)))
theorem N8(T:Tx K a):∀m,DefIs P w K a base (m+2) "nought_term" qad (lA cH m)
 |0=>Oe (n:=1) T (λ_ _ _ _=>False) (E7 T) (Ao T) (DefIs.none T.kB λ_ _ _ _ h=>h) (λj e=>by cases e)
 |m+1=>Oe (n:=m+2) T (lA cH m) (E7 T) (Ao T) (N8 T m) (λj e=>by cases e;rfl)
def Nl(m:Nat):Sp:=λvs H Q _=>∃p x v d env,vs=[.ref p,.str x,v]/\EnAt H p m env/\RelD H v d/\m<=1000/\∀p' H',Same H H'->EnAt H' p' (m+1) (env.put x d)->Q (.ref p') H'
def xk2(T:Tx K g):DefIs P w K g base (n+1) "with_box" qa1 (Nl m):=by
 refine DefIs.of T.kA sc_with_box (by walk_at"l") (λf y A outer s H vs Q E o h=>?_);obtain⟨p,x,v,d,env,rfl,⟨kvs,b,r,u⟩,j,C,q⟩:=h;have nd:=sc_with_box.nd;have l:=hW o
 refine⟨_,(aF (aR 3 nd (hH Ys Z T.uO PyProof.Rows.boot_dict (v1 0)))
   (aF (Lp l (pv 3) (pv 1) (pv 2) Z)
   (po (aS (pv 3))))),?_⟩
 refine(eP p kvs (eV b (λc e=>?_)));have z:=zA e (.dK kvs);refine(gC (gB (DPut.k (k:=Sum.inr x) aD (cL (by omega))) (aC ?_)));have a:=Same.new2 e (.dK kvs) (.dK (dC kvs (Sum.inr x) v));exact q c _ a (EnAt.put b r u a (j.same a _) aD)
def Rz(K:Fg)(H:Hp)(v:Value)(d:Option Addr)(c:Nat):Prop:=∃x,v=.ref x/\d=none/\H x=some (excF x (cAt K c) none .none)
def hX(a:H e=none):Same H (upd (upd H e (mG e C none)) e (excF e C none .none)):=λb u q=>by
 rw[cO (dJ q a),cO (dJ q a)];exact q
def cX{a b:Str}{m n:Nat}(e:a.length<=m)(c:b.length<=n):(a++b).length<=m+n:=by
 rw[Str.length_append];omega
def Ag{i:Int}(h:i.natAbs<2 ^ 64):i.natAbs.log2<1920:=by
 by_cases h0:i.natAbs=0
 ·rw[h0];decide
 ·have:=(Nat.log2_lt h0).mpr h
  omega
def A4{i:Int}(h0:0<=i)(h:i<10 ^ 18):(Str.ofString (toString i)).length<=18:=by
 obtain⟨m,rfl⟩:=Int.eq_ofNat_of_zero_le h0;have e:=congrArg List.length (Xm m);rw[aM]at e;show(sH (m:Int)).cps.size<=18;rw[<- Array.length_toList,e];exact(Nat.length_toDigits_le_iff (b:=10) (k:=18) (aA Z) (aA Z)).mpr (by omega)
def Fails(K:Fg)(H:Hp)(E:XK)(c:Nat):Prop:=∀v d H',Same H H'->Rz K H' v d c->E v d H'
theorem Fails.on(h:Fails K H E c)(s:Same H a):Fails K a E c:=λv d e b r=>h v d e (s.trans b) r
def Hq{A B:Prop}(h:c=true)(a:A):if c=true then A else B:=by rw[if_pos h];exact a
def rC(K:Fg)(H:Hp)(Q:VK)(E:XK)(r:iS):Prop:=(∀k,r=.ok k->∀H',Same H H'->Q (.str k) H')/\∀c,r=.error c->Fails K H E c
def Goes'(K:Fg)(H:Hp)(Q:VK)(E:XK)(o:Option Nat):Prop:=(o=none->∀H',Same H H'->Q .non H')/\∀c,o=some c->Fails K H E c
abbrev RK:=List Kn->lX
structure In3(H:Hp)(kv tv:V)(p:Addr)(ks:List Kn)(d:D)(env:En)(m:Nat):Prop where
 kd:KsAt H kv ks
 kl:qZ ks
 el:EnvL env
 tm:RelD H tv d
 en:EnAt H p m env
theorem In3.same{d:D}(h:In3 H b a p ks d env m)(s:Same H c):In3 c b a p ks d env m:=⟨h.kd.same s,h.kl,h.el,h.tm.same s _,h.en.same s⟩
def In3.sub{d:D}(h:In3 H b e p ks d env m)(s:Same H c)(t:RelD H a d'):In3 c b a p ks d' env m:=⟨h.kd.same s,h.kl,h.el,t.same s _,h.en.same s⟩
def dN(K:Fg)(R:RK)(m:Nat):Sp:=λvs H Q E=>∃kv tv p ks d env r,vs=[kv,tv,.ref p]/\In3 H kv tv p ks d env m/\R ks env d r/\rC K H Q E r
def tZ(K:Fg)(R:RK)(m:Nat):Sp:=λvs H Q E=>∃kv tv p ks d env r k,vs=[kv,tv,.ref p,.str k]/\In3 H kv tv p ks d env m/\k.length<=100/\R ks env d r/\Goes' K H Q E (nk k r)
def wV(K:Fg):Sp:=λvs H Q E=>∃a b:Str,vs=[.str a,.str b]/\a.length<=100/\b.length<=100/\Goes' K H Q E (nk b (.ok a))
def Cz(K:Fg):Sp:=λvs H Q E=>∃kv ks,∃x so:Str,vs=[kv,.str x,.str so]/\KsAt H kv ks/\(∀c,mS ks x so=some c->x.length<=100)/\so.length<=100/\Goes' K H Q E (mS ks x so)
def E4(K:Fg)(R:RK)(m:Nat):Sp:=λvs H Q E=>∃kv tv p ks d env r,∃so:Str,vs=[kv,tv,.ref p,.str so]/\In3 H kv tv p ks d env m/\so.length<=100/\R ks env d r/\rC K H Q E (nN ks so r)
def wU(K:Fg):Sp:=λvs H Q E=>∃kv ks kn,∃k f:Str,vs=[kv,.str k,.str f]/\KsAt H kv ks/\qZ ks/\bN ks k=some kn/\(gN kn f=none->f.length<=100)/\rC K H Q E (nS kn f)
def Ik(K:Fg):Sp:=λvs H Q E=>∃i:Int,vs=[.int i]/\0<=i/\i<10 ^ 18/\rC K H Q E (if i<4294967296 then .ok (S "num") else .error 4)
def By(K:Fg)(m:Nat):Sp:=λvs H Q E=>∃(x:Str) (p:Addr) (env:En) (r:iS),vs=[.str x,.ref p]/\EnAt H p m env/\((∃k,env x=some (.str k)/\r=.ok k)\/(env x=none/\x.length<=100/\r=.error 2))/\rC K H Q E r
def oG(R:RK):Prop:=∀ks env d r,qZ ks->EnvL env->R ks env d r->sN r
def E5(T:Tx K I):DefXs P w K I base (n+1) "need_same" qai (wV K):=by
 refine DefXs.of T.jY sc_need_same (by walk_at"l") (λf Y A outer s H vs Q E J h=>?_);obtain⟨a,b,rfl,x,u,q,G⟩:=h;have nd:=sc_need_same.nd;have hu:=hW J;refine(gH (po (aT (pR mM (pv 0) (pv 1) (nM _)) (po (iG Z (iE (T.xt.cl 4 (aA Z)) (T.xt.ini 4 (aA Z) (aA Z)) Z T.vF (pc (gP (eG (fP (pv 0) (eG (fP (pv 1) (eG gO)))))) pN gQ)))) pQ)) ?_);refine(bJ (bP Z (aJ (λc=>?_) (λc=>?_))))
 ·have g:a≠b:=λz=>by rw[z]at c;simp at c
  have M:=G 4 (yU g);have C:(Str.empty++Str.ofString "a term of the kind ").length<=19:=by walk_at"k"
  have r:=cX C x;have U:(Str.ofString " where ").length<=7:=by walk_at"k"
  have p:=cX r U;have o:=cX p u;have O:(Str.ofString " is asked for").length<=13:=by walk_at"k"
  have l:=cX o O;refine(dY (aB (qC C (aA Z))) (aZ (aB (qC x (aA Z))) (aB (qC r (aA Z))) (dY (aB (qC p (aA Z))) (eX (aB (qC u (aA Z))) (aB (qC o (aA Z))) (aB (qC l (aA Z))) (aB (qC l (aA Z))) (aE Z) (λe j=>?_)))));exact(hZ (cAt K 4) none aD (T.xt.cl 4 (aA Z)) (M _ _ _ (hX j) (bU Z aD)))
 ·have j:a=b:=by
   by_cases z:a=b
   ·exact z
   ·exact absurd (show(!decide (V.str a=V.str b))=true by rw[cW λy=>z (V.str.inj y)];rfl) c
  exact q (by rw[j];exact nk_ok) _ (Same.refl _)
def O8(T:Tx K g)(R:RK)(l:oG R)(b:DefXs P w K g base n "kind_of" qaa (dN K R m))(a:DefXs P w K g base n "need_same" qai (wV K)):DefXs P w K g base (n+1) "need_kind" qag (tZ K R m):=by
 refine DefXs.of T.jX sc_need_kind (by walk_at"l") (λf J A outer s H vs Q E j h=>?_);obtain⟨G,y,p,ks,d,env,r,k,rfl,hi,I,x,q,u⟩:=h;have nd:=sc_need_kind.nd;have M:=hW j;refine(gH (po (cT (cN a j (pc (cN b j (va 0 (va 1 (v1 2)))) (v1 3) bL)))) ?_);refine(bJ (eP G y (aI p ks (aP d env r (aY hi x (λk' e U o=>?_) (λc e=>u c (by rw[e];rfl)))))));subst e;exact(eP k' k (aY (l _ _ _ _ hi.kl hi.el x k' Z) I (λz O C=>q z _ (o.trans C)) (λc z=>(u c z).on o)))
def xjk(T:Tx K J)(a:DefIs P w K J base n "sort_of" qac rQ):DefXs P w K J base (n+1) "need_sort" qar (Cz K):=by
 refine DefXs.of T.jZ sc_need_sort (by walk_at"l") (λf a0 A outer s H vs Q E Y h=>?_);obtain⟨kv,ks,x,j,rfl,hk,U,p,q,I⟩:=h;have nd:=sc_need_sort.nd;have hu:=hW Y
 refine⟨_,(aF (aR 3 nd (pd a Y (va 0 (v1 1))))
   (aF (aT (pR wC (pv 3) nX (nM _)) (po (iG Z (iE (T.xt.cl 2 (aA Z)) (T.xt.ini 2 (aA Z) (aA Z)) Z T.vD (pc (gP (eG (fP (pv 1) gO))) pN gQ)))) pQ)
   (po (aT (pR mM (pv 3) (pv 2) (nM _)) (po (iG Z (iE (T.xt.cl 4 (aA Z)) (T.xt.ini 4 (aA Z) (aA Z)) Z T.vF (pc (gP (eG (fP (pv 1) (eG (fP (pv 2) gO))))) pN gQ)))) pQ)))),?_⟩
 refine(bJ (aP kv ks x (eV hk ?_)))
 cases g:bN ks x with
 |none=>
  have b:=U 2 (E2 g);have G:=I 2 (E2 g);refine(aC (lF (iteKT (cS Z) ?_)));have C:(Str.empty++Str.ofString "no kind ").length<=8:=by walk_at"k"
  have l:=cX C b;refine(dY (aB (qC C (aA Z))) (dS (aB (qC b (aA Z))) (aB (qC l (aA Z))) (aB (qC l (aA Z))) (aE Z) (λe u=>?_)));exact(hZ (cAt K 2) none aD (T.xt.cl 2 (aA Z)) (G _ _ _ (hX u) (bU Z aD)))
 | some o=>
  refine(aC (lF (iteKF (cW (λz=>by cases z)) ?_)));refine(bJ (bP Z (aJ (λc=>?_) (λc=>?_))))
  ·have r:o.sort≠j:=λz=>by rw[show Be (some o)=V.str j by rw[<- z];rfl]at c;simp at c
   have b:=U 4 (Md g r);have G:=I 4 (Md g r);have C:(Str.empty++Str.ofString "the kind ").length<=9:=by walk_at"k"
   have l:=cX C b;have e3:(Str.ofString " is no ").length<=7:=by walk_at"k"
   have O:=cX l e3;have M:=cX O p;refine(dY (aB (qC C (aA Z))) (aZ (aB (qC b (aA Z))) (aB (qC l (aA Z))) (dY (aB (qC O (aA Z))) (dS (aB (qC p (aA Z))) (aB (qC M (aA Z))) (aB (qC M (aA Z))) (aE Z) (λe u=>?_)))));exact(hZ (cAt K 4) none aD (T.xt.cl 4 (aA Z)) (G _ _ _ (hX u) (bU Z aD)))
  ·have u:o.sort=j:=by
    by_cases z:o.sort=j
    ·exact z
    ·exact absurd (show(!decide (V.str o.sort=V.str j))=true by rw[cW λy=>z (V.str.inj y)];rfl) c
   exact q (tX g u) _ (Same.refl _)
def xgx(T:Tx K Y)(R:RK)(a1:oG R)(g:DefXs P w K Y base n "kind_of" qaa (dN K R m))(b:DefIs P w K Y base n "sort_of" qac rQ):DefXs P w K Y base (n+1) "kind_of_sort" qas (E4 K R m):=by
 refine DefXs.of T.j7 sc_kind_of_sort (by walk_at"l") (λf a2 A outer s H vs Q E hr h=>?_);obtain⟨kv,tv,p,ks,d,env,r,u,rfl,hi,j,hR,q,U⟩:=h;have nd:=sc_kind_of_sort.nd;have hu:=hW hr
 refine⟨_,(aF (aR 4 nd (cN g hr (va 0 (va 1 (v1 2)))))
   (aF (aT (pR mM (pd b hr (va 0 (v1 4))) (pv 3) (nM _)) (po (iG Z (iE (T.xt.cl 4 (aA Z)) (T.xt.ini 4 (aA Z) (aA Z)) Z T.vF (pc (gP (eG (fP (pv 4) (eG (fP (pv 3) gO))))) pN gQ)))) pQ)
   (po (aS (pv 4))))),?_⟩
 refine(bJ (eP kv tv (aI p ks (aP d env r (aY hi hR (λk e H1 O=>?_) (λc e=>U c (by rw[e];rfl)))))));subst e;have l:=a1 _ _ _ _ hi.kl hi.el hR k Z;refine(bJ (aP kv ks k (eV (hi.kd.same O) ?_)))
 cases o:bN ks k with
 |none=>
  have hf:=U 4 (W5 o);refine(dE Z Z (Hq (by show(!decide (V.non=V.str u))=true;rw[cW (λz=>by cases z)];rfl) ?_));have M:(Str.empty++Str.ofString "a term of the kind ").length<=19:=by walk_at"k"
  have G:=cX M l;have e3:(Str.ofString ", which is no ").length<=14:=by walk_at"k"
  have C:=cX G e3;have x:=cX C j;refine(dY (aB (qC M (aA Z))) (aZ (aB (qC l (aA Z))) (aB (qC G (aA Z))) (dY (aB (qC C (aA Z))) (dS (aB (qC j (aA Z))) (aB (qC x (aA Z))) (aB (qC x (aA Z))) (aE Z) (λe J=>?_)))));exact(hZ (cAt K 4) none aD (T.xt.cl 4 (aA Z)) (hf _ _ _ (O.trans (hX J)) (bU Z aD)))
 | some I=>
  refine(dE Z Z (aJ (λc=>?_) (λc=>?_)))
  ·have a0:I.sort≠u:=λz=>by rw[show Be (some I)=V.str u by rw[<- z];rfl]at c;simp at c
   have hf:=U 4 (Ra o a0);have M:(Str.empty++Str.ofString "a term of the kind ").length<=19:=by walk_at"k"
   have G:=cX M l;have e3:(Str.ofString ", which is no ").length<=14:=by walk_at"k"
   have C:=cX G e3;have x:=cX C j;refine(dY (aB (qC M (aA Z))) (aZ (aB (qC l (aA Z))) (aB (qC G (aA Z))) (dY (aB (qC C (aA Z))) (dS (aB (qC j (aA Z))) (aB (qC x (aA Z))) (aB (qC x (aA Z))) (aE Z) (λe J=>?_)))));exact(hZ (cAt K 4) none aD (T.xt.cl 4 (aA Z)) (hf _ _ _ (O.trans (hX J)) (bU Z aD)))
  ·have J:I.sort=u:=by
    by_cases z:I.sort=u
    ·exact z
    ·exact absurd (show(!decide (V.str I.sort=V.str u))=true by rw[cW λy=>z (V.str.inj y)];rfl) c
   exact(aC (q k (tN o J) _ O))
def xji(T:Tx K mg)(a:DefIs P w K mg base n "parts_of" qac vN):DefXs P w K mg base (n+1) "part_kind" qaj (wU K):=by
 refine DefXs.of T.j8 sc_part_kind (by walk_at"l") (λf a0 A outer s H vs Q E hr h=>?_);obtain⟨kv,ks,J,k,j,rfl,hk,M,y,O,q,qf⟩:=h;have nd:=sc_part_kind.nd;have hu:=hW hr
 refine⟨_,(aF (fM (mU Z Z) Z (eJ (K:=K) Z (pd a hr (va 0 (v1 1)))) (bK 3 nd)
   (po (aT (pR bY (px K (pv 3) pI) (pv 2) (nM _)) (po (aS (px K (pv 3) pI))) pQ)))
   (po (iG Z (iE (T.xt.cl 2 (aA Z)) (T.xt.ini 2 (aA Z) (aA Z)) Z T.vD (pc (gP (eG (fP (pv 2) (eG (fP (pv 1) gO))))) pN gQ))))),?_⟩
 refine(aC (eF (eO ks k Z hk (λu H1 Y r1=>?_))));rw[y]at r1;obtain⟨e,ps,rfl,C,o⟩:=r1;have hl:=o.length;rw[aM]at hl;refine(bU ⟨_,zD C⟩ ?_);refine hJ (xs:=ps) (λi σ G=>∃I,σ=[some kv,some (.str k),some (.str j),I]/\G=H1/\(J.parts.take i).find? (λp=>decide (p.1=j))=none) ⟨none,(cP Z)⟩ (λi σ G _ p=>?_) ?_ ?_
 ·obtain⟨_,_,rfl,_⟩:=p
  exact zD C
 ·rintro i v σ G hv ⟨I,rfl,rfl,hn⟩
  obtain⟨d,hd,rd⟩:=o.get hv;rw[dA]at hd;obtain⟨p,r,rfl⟩:=dH hd;obtain⟨b,ws,rfl,hb,_,_,rfl,rfl,_,_,rfl,rfl,rfl⟩:=rd;refine(aQ (zD hb) Z (dE Z Z (aJ (λc=>?_) (λc=>?_))))
  ·have U:p.1=j:=V.str.inj (qE c)
   have e2:=(oN hn r).1 (cS U);have l:gN J j=some p.2:=by unfold gN;rw[e2];rfl
   exact(aQ (zD hb) Z (q p.2 (tV l) _ Y))
  ·have U:¬p.1=j:=λz=>c (cS (congrArg V.str z))
   exact(bU Z ((oN hn r).2 (cW U)))
 ·rintro σ G ⟨I,rfl,rfl,hn⟩
  rw[fH (by omega)]at hn;have l:gN J j=none:=by unfold gN;rw[hn];rfl
  have hf:=qf 2 (by unfold nS;rw[l]);have x:=(rN M y).1;have g:=O l;have e1:(Str.empty++Str.ofString "no part ").length<=8:=by walk_at"k"
  have l2:=cX e1 g;have l:(Str.ofString " in the kind ").length<=13:=by walk_at"k"
  have l3:=cX l2 l;have l4:=cX l3 x;refine(dY (aB (qC e1 (aA Z))) (aZ (aB (qC g (aA Z))) (aB (qC l2 (aA Z))) (dY (aB (qC l3 (aA Z))) (dS (aB (qC x (aA Z))) (aB (qC l4 (aA Z))) (aB (qC l4 (aA Z))) (aE Z) (λe C=>?_)))));exact(hZ (cAt K 2) none aD (T.xt.cl 2 (aA Z)) (hf _ _ _ (Y.trans (hX C)) (bU Z aD)))
def xk7(T:Tx K p):DefXs P w K p base (n+1) "num_kind" ["n"] (Ik K):=by
 refine DefXs.of T.jO sc_num_kind (by walk_at"l") (λf G A outer s H vs Q E x h=>?_);obtain⟨i,rfl,h0,c,q,g⟩:=h;have nd:=sc_num_kind.nd;have I:=hW x
 refine⟨_,(aF (aT (Ry (We Pj mR pI (pv 0) (rP T.uK))) (po (iG Z (iE (T.xt.cl 4 (aA Z)) (T.xt.ini 4 (aA Z) (aA Z)) Z T.vF (pc (gP (yY (pv 0) (eG (yY (rP T.uK) gO)))) pN gQ)))) pQ)
   (po (aS pS))),?_⟩
 refine(aC (fQ Z (iteKT (cS h0) (fQ Z ?_))));by_cases b:i<4294967296
 ·rw[if_pos b]at q
  rw[cS b];exact q _ Z _ (Same.refl _)
 ·rw[if_neg b]at g
  rw[cW b];have y:=g 4 Z;have u:=A4 (i:=i) (h0) (c);have o:=cX (a:=Str.empty) (m:=0) (by walk_at"k") u;have C:(Str.ofString " is no number below ").length<=20:=by walk_at"k"
  have l:=cX o C;have r:=A4 (i:=4294967296) (aA Z) (aA Z);have j:=cX l r;refine(eF (aY (Ag (by omega)) (aB (qC o (aA Z))) (aB (qC l (aA Z))) (bU (Ag (aA Z)) (jAAA (aB (qC j (aA Z))) (aB (qC j (aA Z))) (aE Z) (λe z=>?_)))));exact(hZ (cAt K 4) none aD (T.xt.cl 4 (aA Z)) (y _ _ _ (hX z) (bU Z aD)))
def O2(T:Tx K G):DefXs P w K G base (n+1) "box_kind" qal (By K m):=by
 refine DefXs.of T.jP sc_box_kind (by walk_at"l") (λf Y A outer s H vs Q E J h=>?_);obtain⟨x,p,env,r,rfl,⟨kvs,o,hl,u⟩,b,q,C⟩:=h;have nd:=sc_box_kind.nd;have l:=hW J
 refine⟨_,(aF (aT (yZ (N9 l (pv 0) (pv 1))) (po (iG Z (iE (T.xt.cl 2 (aA Z)) (T.xt.ini 2 (aA Z) (aA Z)) Z T.vD (pc (gP (eG (fP (pv 0) (eG gO)))) pN gQ)))) pQ)
   (po (aS (Lm l (pv 1) (pv 0) (λ_ _=>Z))))),?_⟩
 rcases b with⟨k,b,rfl⟩ |⟨b,a,rfl⟩
 ·obtain⟨v,I,z⟩:=(u x).2 _ b
  obtain rfl:v=.str k:=z;have g:DGet H p (.str x) (some (.str k)):=I ▸ DGet.k (k:=Sum.inr x) o;refine(bJ (gK (bP g (cG ?_))));exact(bJ (gB g (q k Z _ (Same.refl _))))
 ·have g:DGet H p (.str x) none:=(u x).1 b ▸ DGet.k (k:=Sum.inr x) o
  refine(bJ (gK (bP g (nB ?_))));have M:=C 2 Z;have y:(Str.empty++Str.ofString "no box ").length<=7:=by walk_at"k"
  have j:=cX y a;have U:(Str.ofString " at hand").length<=8:=by walk_at"k"
  have c:=cX j U;refine(dY (aB (qC y (aA Z))) (eX (aB (qC a (aA Z))) (aB (qC j (aA Z))) (aB (qC c (aA Z))) (aB (qC c (aA Z))) (aE Z) (λe O=>?_)));exact(hZ (cAt K 2) none aD (T.xt.cl 2 (aA Z)) (M _ _ _ (hX O) (bU Z aD)))
def Yd(T:Tx K I)(R:RK)(g:DefXs P w K I base n "need_kind" qag (tZ K R m)):DefXs P w K I base (n+1) "op_kind" qaa (dN K (λks=>sO (R ks)) m):=by
 refine DefXs.of T.jQ sc_op_kind (by walk_at"l") (λf a0 A outer s H vs Q E C h=>?_);obtain⟨J,tv,p,ks,d,env,r,rfl,hi,⟨sg,a,b,ra,rfl,ha,j⟩,q,G⟩:=h;have nd:=sc_op_kind.nd;have hu:=hW C
 refine⟨_,(aF (cT (cN g C (va 0 (pc (px K (pv 1) pI) (va 2 (pc pS pN aG)) ss))))
   (aF (cT (cN g C (va 0 (pc (px K (pv 1) pI) (va 2 (pc pS pN aG)) ss))))
   (po (aS pS)))),?_⟩
 obtain⟨l,us,rfl,M,_,_,rfl,rfl,_,_,rfl,rfl,va,_,rfl,y,O,_,rfl,x,rfl⟩:=hi.tm;refine(dI (zD M) Z (aC ?_));refine(aI J va (fD p ks a env ra (S "num") (dS (hi.sub (Same.refl _) y) rH ha (λz H1 o=>?_) (λc z=>?_))))
 ·rcases j with⟨c,e,_⟩ |⟨_,Y,hb,rfl⟩
  ·rw[z]at e;cases e
  refine(dI (zD (o _ _ M)) Z (aC ?_));exact(aI J O (fD p ks b env Y (S "num") (dS (hi.sub o x) rH hb (λu H2 U=>q _ (by rw[u];rfl) _ (o.trans U)) (λc u=>(G c (by rw[u];rfl)).on o))))
 ·rcases j with⟨c',e,rfl⟩ |⟨e,_⟩
  ·rw[z]at e;cases e;exact G c Z
  ·rw[z]at e;cases e
def Yb(T:Tx K mg)(R:RK)(a0:oG R)(j:DefXs P w K mg base n "kind_of" qaa (dN K R m))(g:DefXs P w K mg base n "need_kind" qag (tZ K R m)):DefXs P w K mg base (n+1) "if_kind" qaa (dN K (λks=>sW (R ks)) m):=by
 refine DefXs.of T.jW sc_if_kind (by walk_at"l") (λf a1 A outer s H vs Q E I h=>?_);obtain⟨kv,tv,p,ks,d,env,r,rfl,hi,⟨a,b,c,ra,rfl,ha,C⟩,q,Y⟩:=h;have nd:=sc_if_kind.nd;have hu:=hW I
 refine⟨_,(aF (cT (cN g I (va 0 (pc (px K (pv 1) pI) (va 2 (pc pS pN aG)) ss))))
   (aF (aR 3 nd (cN j I (va 0 (pc (px K (pv 1) pI) (v1 2) ss))))
   (aF (cT (cN g I (va 0 (pc (px K (pv 1) pI) (va 2 (v1 3)) ss))))
   (po (aS (pv 3)))))),?_⟩
 obtain⟨l,us,rfl,hl,_,_,rfl,rfl,va,_,rfl,U,vb,_,rfl,O,vc,_,rfl,M,rfl⟩:=hi.tm;refine(dI (zD hl) Z (aC ?_));refine(aI kv va (fD p ks a env ra (S "num") (dS (hi.sub (Same.refl _) U) rH ha (λz H1 G=>?_) (λc z=>?_))))
 ·rcases C with⟨e,e1,_⟩ |⟨_,rb,hb,y⟩
  ·rw[z]at e1;cases e1
  refine(dI (zD (G _ _ hl)) Z (aC ?_));refine(aI kv vb (aI p ks (aP b env rb (aY (hi.sub G O) hb (λk x H2 s2=>?_) (λe x=>?_)))))
  ·rcases y with⟨e,o,_⟩ |⟨k',rc,o,hc,rfl⟩
   ·rw[x]at o;cases o
   rw[x]at o;cases o;have u:=G.trans s2;refine(dI (zD (u _ _ hl)) Z (bJ ?_));exact(aI kv vc (fD p ks c env rc k (dS (hi.sub u M) (a0 _ _ _ _ hi.kl hi.el hb k x) hc (λJ H3 s3=>(aC (q k (by rw[J];rfl) _ (u.trans s3)))) (λc J=>(Y c (by rw[J];rfl)).on u))))
  ·rcases y with⟨e',o,rfl⟩ |⟨k',rc,o,_⟩
   ·rw[x]at o;cases o;exact(Y e Z).on G
   ·rw[x]at o;cases o
 ·rcases C with⟨c',e,rfl⟩ |⟨e,_⟩
  ·rw[z]at e;cases e;exact Y c Z
  ·rw[z]at e;cases e
def xk9(T:Tx K y)(R:RK)(b:DefXs P w K y base n "kind_of_sort" qas (E4 K R m))(g:DefXs P w K y base n "part_kind" qaj (wU K)):DefXs P w K y base (n+1) "get_kind" qaa (dN K (λks=>B2 ks (R ks)) m):=by
 refine DefXs.of T.jS sc_get_kind (by walk_at"l") (λf a0 A outer s H vs Q E C h=>?_);obtain⟨M,tv,p,ks,d,env,r,rfl,hi,⟨a,f',ra,rfl,ha,j⟩,q,J⟩:=h;have nd:=sc_get_kind.nd;have hu:=hW C
 refine⟨_,(aF (aR 3 nd (cN b C (va 0 (pc (px K (pv 1) pI) (va 2 (pc pS pN aG)) ss))))
   (po (aS (cN g C (va 0 (va 3 (pc (px K (pv 1) pI) pN ss))))))),?_⟩
 obtain⟨l,us,rfl,U,_,_,rfl,rfl,va,_,rfl,x,_,_,rfl,rfl,rfl⟩:=hi.tm;refine(dI (zD U) Z (aC ?_));refine(aI M va (fD p ks a env ra (S "rec") (dS (hi.sub (Same.refl _) x) (by walk_at"k") ha (λk z H1 o=>?_) (λc z=>?_))))
 ·rcases j with⟨c,e,_⟩ |⟨k',O,e,G,rfl,I⟩
  ·rw[z]at e;cases e
  rw[z]at e;cases e;refine(aC (dI (zD (o _ _ U)) Z ?_));exact(aI M ks (aP O k f' (eX (hi.kd.same o) hi.kl G I (λk2 u H2 Y=>q k2 u _ (o.trans Y)) (λc u=>(J c u).on o))))
 ·rcases j with⟨c',e,rfl⟩ |⟨k',O,e,_⟩
  ·rw[z]at e;cases e;exact J c Z
  ·rw[z]at e;cases e
def xk3(T:Tx K M)(R:RK)(g:DefXs P w K M base n "need_sort" qar (Cz K))(j:DefXs P w K M base n "need_kind" qag (tZ K R m))(b:DefXs P w K M base n "part_kind" qaj (wU K)):DefXs P w K M base (n+1) "tag_kind" qaa (dN K (λks=>B4 ks (R ks)) m):=by
 refine DefXs.of T.jT sc_tag_kind (by walk_at"l") (λf a1 A outer s H vs Q E O h=>?_);obtain⟨kv,tv,p,ks,d,env,r,rfl,hi,⟨x,t,a,rfl,C⟩,q,qf⟩:=h;have nd:=sc_tag_kind.nd;have hu:=hW O
 refine⟨_,(aF (aR 3 nd (px K (pv 1) pI))
   (aF (cT (cN g O (va 0 (va 3 (pc pS pN aG)))))
   (aF (cT (cN j O (va 0 (pc (px K (pv 1) pI) (va 2 (pc (cN b O (va 0 (va 3 (pc (px K (pv 1) pI) pN ss)))) pN bL)) ss))))
   (po (aS (pv 3)))))),?_⟩
 obtain⟨l,us,rfl,hl,_,_,rfl,rfl,_,_,rfl,rfl,_,_,rfl,rfl,va,_,rfl,Y,rfl⟩:=hi.tm;have hS:SqT K H l [.str (S "tag"),.str x,.str t,va]:=zD hl;refine(aQ hS Z ?_);refine(aC (eP kv ks (aI x (S "alt") (dS hi.kd (λc z=>?_) (by walk_at"k") (λz H1 J=>?_) (λc z=>?_)))))
 ·rcases C with⟨c',e,hx,_⟩ |⟨e,_⟩
  ·exact hx
  ·rw[z]at e;cases e
 ·rcases C with⟨c,e,_⟩ |⟨_,kn,G,y⟩
  ·rw[z]at e;cases e
  have I:SqT K H1 l [.str (S "tag"),.str x,.str t,va]:=zD (J _ _ hl);refine(dI I Z (bJ (dI I Z ?_)));refine(aI kv ks (aP kn x t (eX (hi.kd.same J) hi.kl G (λo=>?_) (λk1 o H2 s2=>?_) (λc o=>?_))))
  ·rcases y with⟨_,ht,_⟩ |⟨k1,ra,e,_⟩
   ·exact ht
   ·rw[o]at e;cases e
  ·rcases y with⟨e,_⟩ |⟨a0,ra,e,ha,rfl⟩
   ·unfold nS at o;rw[e]at o;cases o
   rw[tV e]at o;cases o;have u:=J.trans s2;exact(aI kv va (fD p ks a env ra k1 (dS (hi.sub u Y) (tW hi.kl G e) ha (λU H3 s3=>(aC (q x (by rw[U];rfl) _ (u.trans s3)))) (λc U=>(qf c (by rw[U];rfl)).on u))))
  ·rcases y with⟨e,_,rfl⟩ |⟨a0,ra,e,_⟩
   ·unfold nS at o;rw[e]at o;cases o;exact(qf 2 Z).on J
   ·rw[tV e]at o;cases o
 ·rcases C with⟨c',e,_,rfl⟩ |⟨e,_⟩
  ·rw[z]at e;cases e;exact qf c Z
  ·rw[z]at e;cases e
theorem Lw(x:Str):∀ys:List Str,nO (.str x) (ys.map V.str)=decide (x∈ys)
 |[]=>Z
 | y::ys=>by
  show((y == x) || nO (.str x) (ys.map V.str))=_;rw[Lw x ys];by_cases h:y=x
  ·subst h;simp
  ·have h':¬x=y:=λe=>h e.symm
   simp[h,h']
theorem Dw:∀ys:List Str,(ys.map V.str).all mB=true
 |[]=>Z
 |y::ys=>by
  show(mB (.str y) && (ys.map V.str).all mB)=true;rw[Dw ys];rfl
theorem Cj{α:Type}{l:List α}{i:Nat}{a:α}(h:l[i]?=some a):l.drop i=a::l.drop (i+1):=by
 obtain⟨hi,e⟩:=cV h;rw[List.drop_eq_getElem_cons hi,e]
def wI(K:Fg):Sp:=λvs H Q E=>∃(p:Addr) (ns:List Str) (t:Str),vs=[.ref p,.str t]/\H p=some (.lst (ns.map V.str))/\ns.length<=1000/\t.length<=200/\(ns.Nodup->Q .non H)/\(¬ns.Nodup->Fails K H E 1)
def Lf(K:Fg):Sp:=λvs H Q E=>∃(kv:V) (c:Addr) (ws:List V) (ks:List Kn) (k:Str) (kn:Kn) (rs:List fZ),vs=[kv,.str k,.ref c]/\KsAt H kv ks/\qZ ks/\bN ks k=some kn/\H c=some (.tup ws)/\RelDs H ws (rs.map fL)/\rs.length<=1000/\(∀e,lM kn rs=some e->∀z∈rs,z.1.length<=100)/\Goes' K H Q E (lM kn rs)
def Iz(K:Fg)(R:RK)(m:Nat):Sp:=λvs H Q E=>∃(kv av:V) (p:Addr) (ks:List Kn) (env:En) (k1:Str) (kn:Kn) (z:fZ) (r:iS),vs=[kv,.str k1,av,.ref p]/\In3 H kv av p ks (fL z) env m/\bN ks k1=some kn/\ArmR kn (R ks) env z r/\m<=1000/\rC K H Q E r
def Ap(T:Tx K y):DefXs P w K y base (n+1) "need_once" qah (wI K):=by
 refine DefXs.of T.jC sc_need_once (by walk_at"l") (λf M A outer s H vs Q E C h=>?_);obtain⟨p,ns,t,rfl,r,b,o,q,x⟩:=h;have nd:=sc_need_once.nd;have O:=hW C;refine(gH (po (aT (pR mR (Yi Z Z T.uS Z T.uY (pv 0)) (bV (dM (K:=K) Z) Z T.uS zH (v1 0)) (nM _)) (po (iG Z (iE (T.xt.cl 1 (aA Z)) (T.xt.ini 1 (aA Z) (aA Z)) Z T.vC (pc (gP (eG (fP (pv 1) (eG gO)))) pN gQ)))) pQ)) ?_);refine(eP p ns (aZ r b (λm U a=>?_)));refine(gV p Z (.inl (zF r)) ?_);refine(fQ Z (aJ (λc=>?_) (λc=>?_)))
 ·have g:=qE c
  rw[aM]at g;have G:=x (λhn=>by have:=a.mpr hn;omega);have u:(Str.empty++Str.ofString "two ").length<=4:=by walk_at"k"
  have l:=cX u o;have J:(Str.ofString " of one name").length<=12:=by walk_at"k"
  have j:=cX l J;refine(dY (aB (qC u (aA Z))) (eX (aB (qC o (aA Z))) (aB (qC l (aA Z))) (aB (qC j (aA Z))) (aB (qC j (aA Z))) (aE Z) (λe I=>?_)));exact(hZ (cAt K 1) none aD (T.xt.cl 1 (aA Z)) (G _ _ _ (hX I) (bU Z aD)))
 ·have g:¬((m:Int)<((ns.map V.str).length:Nat)):=λz=>c (cS z)
  rw[aM]at g;exact q (a.mp (by omega))
def xjj(T:Tx K mg)(C:DefIs P w K mg base n "parts_of" qac vN)(l:DefXs P w K mg base n "need_once" qah (wI K)):DefXs P w K mg base (n+1) "need_tags" qa0 (Lf K):=by
 refine DefXs.of T.j9 sc_need_tags (by walk_at"l") (λf aj A outer s H vs Q E hr h=>?_);obtain⟨kv,c,ws,ks,k,U,rs,rfl,hk,ac,a1,hc,a5,ai,a8,q,qf⟩:=h;have nd:=sc_need_tags.nd;have hu:=hW hr
 refine⟨_,(aF (pB (i:=3) ["part"] [none] Z (by kernel_rfl) nd Z (by first |exact Or.inl Z |exact Or.inr rfl) (eJ (K:=K) Z (pd C hr (va 0 (v1 1)))) (λ_ _ _ _=>(dU 0)) (λ_ _ _ _=>iH) (λ_ _ _ _=>(px K (pv 0) pI)))
   (aF (pB (i:=4) ["arm"] [none] Z (by kernel_rfl) nd Z (by first |exact Or.inl Z |exact Or.inr rfl) (eJ (K:=K) Z (pv 2)) (λ_ _ _ _=>(dU 0)) (λ_ _ _ _=>iH) (λ_ _ _ _=>(px K (pv 0) pI)))
   (aF (fM (mU Z Z) Z (oP (K:=K) Z (pv 4)) (bK 5 nd)
   (po (aT (pR O9 (pv 5) (pv 3) (by with_unfolding_all rfl)) (po (iG Z (iE (T.xt.cl 2 (aA Z)) (T.xt.ini 2 (aA Z) (aA Z)) Z T.vD (pc (gP (eG (fP (pv 5) (eG (fP (pv 1) gO))))) pN gQ)))) pQ)))
   (aF (cT (cN l hr (va 4 (pc (gP (eG (fP (pv 1) gO))) pN gQ))))
   (po (aT (pR mR (bV (dM (K:=K) Z) Z T.uS zH (v1 4)) (bV (dM (K:=K) Z) Z T.uS zH (v1 3)) (nM _)) (po (iG Z (iE (T.xt.cl 5 (aA Z)) (T.xt.ini 5 (aA Z) (aA Z)) Z T.vG (pc (gP (eG (fP (pv 1) gO))) pN gQ)))) pQ)))))),?_⟩
 have ab:=mL a1;have o:=(rN ac a1).1;have aa:=hk.2.2 U ab;refine(bJ (aP kv ks k (eV hk (λu H1 s1 r1=>?_))));rw[a1]at r1;obtain⟨e,ps,rfl,he,a6⟩:=r1;have hl:=a6.length;rw[aM]at hl;refine(bU ⟨_,zD he⟩ ?_);refine tT (j:=0) (xs:=ps) (λi ys M=>M=H1/\ys=((U.parts.take i).map (·.1)).map V.str) (by rfl) ⟨Z,Z⟩ (cL (by omega)) (λi ys M _ p=>by obtain⟨rfl,_⟩:=p;exact zD he) ?_ ?_
 ·rintro i x ys M hx J ⟨rfl,rfl⟩
  obtain⟨d,hd,rd⟩:=a6.get hx;rw[dA]at hd;obtain⟨p,hp,rfl⟩:=dH hd;obtain⟨b,wz,rfl,hb,_,_,rfl,rfl,_,_,rfl,rfl,rfl⟩:=rd;have a2:i<ps.length:=(cV hx).1;refine(aQ (zD hb) Z (nL a2 J ⟨Z,?_⟩));rw[gA,hp];simp
 rintro ys M J ⟨rfl,rfl⟩ D1 ah;rw[fH (by omega)];have t1:=zA ah (.lst ((U.parts.map (·.1)).map V.str));have s2:=s1.trans t1;have a9:=a5.length;rw[aM]at a9;generalize af:upd M D1 (.lst ((U.parts.map (·.1)).map V.str))=H2 at t1 s2⊢;have a7:H2 D1=some (.lst ((U.parts.map (·.1)).map V.str)):=by rw[<- af];exact aD
 refine(fN ⟨_,zD (s2 _ _ hc)⟩ ?_);refine tT (j:=0) (xs:=ws) (λi ys M=>M=H2/\ys=((rs.take i).map (·.1)).map V.str) (by rfl) ⟨Z,Z⟩ (cL (by omega)) (λi ys M _ p=>by obtain⟨rfl,_⟩:=p;exact zD (s2 _ _ hc)) ?_ ?_
 ·rintro i x ys H3 hx J ⟨rfl,rfl⟩
  obtain⟨d,hd,rd⟩:=(a5.same s2 _).get hx;rw[dA]at hd;obtain⟨p,hp,rfl⟩:=dH hd;obtain⟨b,wz,rfl,hb,_,_,rfl,rfl,_,_,rfl,rfl,v3,_,rfl,r3,rfl⟩:=rd;have a2:i<ws.length:=(cV hx).1;refine(aQ (zD hb) Z (nL a2 J ⟨Z,?_⟩));rw[gA,hp];simp
 rintro ys H3 J ⟨rfl,rfl⟩ D2 ag;rw[fH (by omega)];have t2:=zA ag (.lst ((rs.map (·.1)).map V.str));have s3:=s2.trans t2;have G:=t2 _ _ a7;generalize ae:upd H3 D2 (.lst ((rs.map (·.1)).map V.str))=H4 at t2 s3 G⊢;have I:H4 D2=some (.lst ((rs.map (·.1)).map V.str)):=by rw[<- ae];exact aD
 refine(fN ⟨_,zF I⟩ ?_);refine Dg (xs:=(rs.map (·.1)).map V.str) (λi σ M=>∃o5,σ=[some kv,some (.str k),some (.ref c),some (.ref D1),some (.ref D2),o5]/\M=H4/\∀r∈rs.take i,r.1∈U.parts.map (·.1)) ⟨none,(cP (λ_ h=>nomatch h))⟩ (λi σ M _ p=>?_) ?_ ?_
 ·obtain⟨_,_,rfl,_⟩:=p
  exact zF I
 ·rintro i z σ H5 hz ⟨o5,rfl,rfl,g⟩
  rw[dA]at hz;obtain⟨y,hy,rfl⟩:=dH hz;rw[dA]at hy;obtain⟨r,a0,rfl⟩:=dH hy;refine(bJ (gK (jAA (.inl (zF G)) Z (bP (Dw _) ?_))));rw[if_pos Z,Lw];by_cases Y:r.1∈U.parts.map (·.1)
  ·rw[cS Y]
   refine cG (bU Z (λz hz=>?_));rw[gA,a0]at hz;rcases dD hz with hz |hz
   ·exact g z hz
   ·rw[show z=r by simpa using hz];exact Y
  ·rw[cW Y]
   have e2:lM U rs=some 2:=by unfold lM;rw[if_pos λz=>Y (z r (cJ a0))]
   have hf:=qf 2 e2;have a4:=a8 2 e2 r (cJ a0);refine nB ?_;have e1:(Str.empty++Str.ofString "no tag ").length<=7:=by walk_at"k"
   have O:=cX e1 a4;have e3:(Str.ofString " in the kind ").length<=13:=by walk_at"k"
   have l3:=cX O e3;have l4:=cX l3 o;refine(dY (aB (qC e1 (aA Z))) (aZ (aB (qC a4 (aA Z))) (aB (qC O (aA Z))) (dY (aB (qC l3 (aA Z))) (dS (aB (qC o (aA Z))) (aB (qC l4 (aA Z))) (aB (qC l4 (aA Z))) (aE Z) (λe he=>?_)))));exact(hZ (cAt K 2) none aD (T.xt.cl 2 (aA Z)) (hf _ _ _ (s3.trans (hX he)) (bU Z aD)))
 ·rintro σ H5 ⟨o5,rfl,rfl,g⟩
  rw[fH (by rw[aM,aM];omega)]at g;have l1:(Str.empty++Str.ofString "arms in a case of the kind ").length<=27:=by walk_at"k"
  have O:=cX l1 o;refine(aC (dY (aB (qC l1 (aA Z))) (aY (aB (by omega)) (aB (qC O (aA Z))) (aB (qC O (aA Z))) ?_)));refine⟨D2,(aV (rs.map (·.1)) (dS I (by rw[aM];omega) (qC O (aA Z)) (λhnd=>?_) (λhnd=>(qf 1 (by unfold lM;rw[if_neg λz=>z g,if_pos hnd])).on s3)))⟩;refine(gV D2 Z (.inl (zF I)) (gV D1 Z (.inl (zF G)) (fQ Z (aJ (λcc=>?_) (λcc=>?_)))))
  ·have a3:=qE cc
   rw[aM,aM,aM,aM]at a3;have hf:=qf 5 (by unfold lM;rw[if_neg λz=>z g,if_neg λz=>z hnd,if_pos (by omega)]);have e1:(Str.empty++Str.ofString "no arm for some tag of the kind ").length<=32:=by walk_at"k"
   have O:=cX e1 o;refine(dY (aB (qC e1 (aA Z))) (dS (aB (qC o (aA Z))) (aB (qC O (aA Z))) (aB (qC O (aA Z))) (aE Z) (λe he=>?_)));exact(hZ (cAt K 5) none aD (T.xt.cl 5 (aA Z)) (hf _ _ _ (s3.trans (hX he)) (bU Z aD)))
  ·have a3:¬((((rs.map (·.1)).map V.str).length:Nat):Int)<((((U.parts.map (·.1)).map V.str).length:Nat):Int):=λz=>cc (cS z)
   rw[aM,aM,aM,aM]at a3;exact q (by unfold lM;rw[if_neg λz=>z g,if_neg λz=>z hnd,if_neg (by omega)]) _ s3
def xla(T:Tx K M)(R:RK)(l:DefXs P w K M base n "kind_of" qaa (dN K R (m+1)))(j:DefIs P w K M base n "with_box" qa1 (Nl m))(b:DefXs P w K M base n "part_kind" qaj (wU K)):DefXs P w K M base (n+1) "arm_kind" qaz (Iz K R m):=by
 refine DefXs.of T.jV sc_arm_kind (by walk_at"l") (λf a4 A outer s H vs Q E O h=>?_);obtain⟨kv,av,p,ks,env,k1,kn,z,r,rfl,hi,G,I,hm,q,U⟩:=h;have nd:=sc_arm_kind.nd;have hu:=hW O
 refine⟨_,(aF (aR 4 nd (px K (pv 2) pI))
   (aF (aT (yZ (Hz hu (pv 4) (pv 3))) (po (iG Z (iE (T.xt.cl 1 (aA Z)) (T.xt.ini 1 (aA Z) (aA Z)) Z T.vC (pc (gP (eG (fP (pv 4) (eG gO)))) pN gQ)))) pQ)
   (po (aS (cN l O (va 0 (pc (px K (pv 2) pI) (pc (pd j O (va 3 (va 4 (pc (cN b O (va 0 (va 1 (pc (px K (pv 2) pI) pN ss)))) pN bL)))) pN bL) ss))))))),?_⟩
 obtain⟨a,us,rfl,ha,_,_,rfl,rfl,_,_,rfl,rfl,ve,_,rfl,re,rfl⟩:=hi.tm;have hS:SqT K H a [.str z.1,.str z.2.1,ve]:=zD ha;refine(aQ hS Z ?_);obtain⟨kvs,C,a3,hh⟩:=hi.en;rcases I with⟨hx,y,rfl⟩ |⟨hx,I⟩
 ·obtain⟨d0,a2⟩:=Option.ne_none_iff_exists'.mp hx
  obtain⟨v0,a0,_⟩:=(hh z.2.1).2 d0 a2;have g:DGet H p (.str z.2.1) (some v0):=a0 ▸ DGet.k (k:=Sum.inr z.2.1) C;refine(bJ (gK (bP g (nB ?_))));have hf:=U 1 Z;have e1:(Str.empty++Str.ofString "the box ").length<=8:=by walk_at"k"
  have l2:=cX e1 y;have J:(Str.ofString " of an arm is at hand already").length<=29:=by walk_at"k"
  have l3:=cX l2 J;refine(dY (aB (qC e1 (aA Z))) (eX (aB (qC y (aA Z))) (aB (qC l2 (aA Z))) (aB (qC l3 (aA Z))) (aB (qC l3 (aA Z))) (aE Z) (λe he=>?_)));exact(hZ (cAt K 1) none aD (T.xt.cl 1 (aA Z)) (hf _ _ _ (hX he) (bU Z aD)))
 ·have g:DGet H p (.str z.2.1) none:=(hh z.2.1).1 hx ▸ DGet.k (k:=Sum.inr z.2.1) C
  refine(bJ (gK (bP g (cG ?_))));refine(dI hS Z (gC (dI hS Z ?_)));refine(aI kv ks (aP kn k1 z.1 (eX hi.kd hi.kl G (λo=>?_) (λk2 o H1 s1=>?_) (λc o=>?_))))
  ·rcases I with⟨_,h,_⟩ |⟨k2,e,_⟩
   ·exact h
   ·rw[o]at e;cases e
  ·rcases I with⟨e,_⟩ |⟨Y,e,hR⟩
   ·unfold nS at o;rw[e]at o;cases o
   rw[tV e]at o;cases o;refine(aI p z.2.1 (aP (.str k2) (.str k2) env (aY (hi.en.same s1) Z hm (λp' H2 s2 a1=>?_))));have u:=s1.trans s2;exact(aI kv ve (aI p' ks (aV z.2.2 ⟨r,(aY ⟨hi.kd.same u,hi.kl,hi.el.put (tW hi.kl G e),re.same u _,a1⟩ hR (λk J H3 s3=>q k J _ (u.trans s3)) (λc J=>(U c J).on u))⟩)))
  ·rcases I with⟨e,_,rfl⟩ |⟨Y,e,_⟩
   ·unfold nS at o;rw[e]at o;cases o;exact U 2 Z
   ·rw[tV e]at o;cases o
def xk5(T:Tx K mg)(R:RK)(a:DefXs P w K mg base n "need_sort" qar (Cz K))(g:DefXs P w K mg base n "need_kind" qag (tZ K R m))(j:DefIs P w K mg base n "parts_of" qac vN):DefXs P w K mg base (n+1) "rec_kind" qaa (dN K (λks=>B3 ks (R ks)) m):=by
 refine DefXs.of T.jR sc_rec_kind (by walk_at"l") (λf ai A outer s H vs Q E hr h=>?_);obtain⟨kv,tv,p,ks,d,env,r,rfl,hi,⟨x,es,rfl,J⟩,q,qf⟩:=h;have nd:=sc_rec_kind.nd;have hu:=hW hr
 refine⟨_,(aF (aR 3 nd (px K (pv 1) pI))
   (aF (cT (cN a hr (va 0 (va 3 (pc pS pN aG)))))
   (aF (aR 4 nd (pd j hr (va 0 (v1 3))))
   (aF (aT (pR mM (bV (dM (K:=K) Z) Z T.uS zH (pc (px K (pv 1) pI) pN ss)) (bV (dM (K:=K) Z) Z T.uS zH (v1 4)) (nM _)) (po (iG Z (iE (T.xt.cl 3 (aA Z)) (T.xt.ini 3 (aA Z) (aA Z)) Z T.vE (pc (gP (eG (fP (pv 3) (eG gO)))) pN gQ)))) pQ)
   (aF (fM (mU Z Z) Z (Rw Z T.vA (va 4 (pc (px K (pv 1) pI) pN ss))) (fI (K:=K) Z Z (aX (bK 5 nd) (aX (bK 6 nd) fE)))
   (po (cT (cN g hr (va 0 (va 6 (va 2 (pc (px K (pv 5) pI) pN ss))))))))
   (po (aS (pv 3)))))))),?_⟩
 obtain⟨l,us,rfl,hl,_,_,rfl,rfl,_,_,rfl,rfl,va,_,rfl,a8,rfl⟩:=hi.tm;obtain⟨c,Y,rfl,hc,a1⟩:=a8;have hS:SqT K H l [.str (S "rec"),.str x,.ref c]:=zD hl;refine(aQ hS Z ?_);refine(aC (eP kv ks (aI x (S "rec") (dS hi.kd (λc z=>?_) (by walk_at"k") (λz H1 s1=>?_) (λc z=>?_)))))
 ·rcases J with⟨c',e,hx,_⟩ |⟨e,_⟩
  ·exact hx
  ·rw[z]at e;cases e
 ·rcases J with⟨c,e,_⟩ |⟨_,kn,O,ac⟩
  ·rw[z]at e;cases e
  refine(bJ (aP kv ks x (eV (hi.kd.same s1) (λu H2 s2 r2=>?_))));rw[O]at r2;obtain⟨e,ps,rfl,M,a2⟩:=r2;have y:=s1.trans s2;have l1:=a2.length;rw[aM]at l1;have l2:=a1.length;have hx:=(rN hi.kl O).1;have a7:SqT K H2 l [.str (S "rec"),.str x,.ref c]:=zD (y _ _ hl);refine(aQ a7 Z (aV c (jAA Z (.inr (zD (y _ _ hc))) (gV e Z (.inr (zD M)) (bP Z ?_)))));rcases ac with⟨ag,rfl⟩ |⟨ah,o,a6,rfl⟩
  ·refine Hq (by show(!decide (V.int _=V.int _))=true;rw[cW (λz=>by have:=V.int.inj z;omega)];rfl) ?_
   have hf:=qf 3 Z;have e1:(Str.empty++Str.ofString "as many terms as the rec ").length<=25:=by walk_at"k"
   have l2:=cX e1 hx;have e3:(Str.ofString " has fields are asked for").length<=25:=by walk_at"k"
   have l3:=cX l2 e3;refine(dY (aB (qC e1 (aA Z))) (eX (aB (qC hx (aA Z))) (aB (qC l2 (aA Z))) (aB (qC l3 (aA Z))) (aB (qC l3 (aA Z))) (aE Z) (λe he=>?_)));exact(hZ (cAt K 3) none aD (T.xt.cl 3 (aA Z)) (hf _ _ _ (y.trans (hX he)) (bU Z aD)))
  ·refine Pg (by rw[show Y.length=ps.length by omega]) ?_
   refine(dI a7 Z (aI e c (aZ ⟨_,zD M⟩ ⟨_,zD (y _ _ hc)⟩ ?_)));refine Ur (xs:=ps) (ys:=Y) (by omega) (λi σ H'=>∃o5 o6,σ=[some kv,some (.ref l),some (.ref p),some (.str x),some (.ref e),o5,o6]/\Same H2 H'/\AllN (R ks env) (es.drop i) (kn.parts.drop i) o) (eO none none Z (Same.refl _) a6) (λi σ H' _ p=>?_) ?_ ?_
   ·obtain⟨_,_,_,U,_⟩:=p
    exact⟨zD (U _ _ M),zD ((y.trans U) _ _ hc)⟩
   ·rintro i vx vy σ H' pt ab hy ⟨o5,o6,rfl,U,C⟩ ae
    obtain⟨dp,a5,a9⟩:=a2.get ab;rw[dA]at a5;obtain⟨pr,a3,rfl⟩:=dH a5;obtain⟨de,af,aa⟩:=a1.get hy;obtain⟨b,ws,rfl,hb,_,_,rfl,rfl,_,_,rfl,rfl,rfl⟩:=a9;rw[Cj af,Cj a3]at C;obtain⟨rr,hR,a4⟩:=C;have sn:=zA ae (.tup [.ref b,vy]);have s3:=U.trans sn;have a0:=y.trans s3;refine(iX (zD aD) Z Z Z Z ?_);refine(bJ (dI (zD (s3 _ _ hb)) Z ?_));refine(aI kv vy (fD p ks de env rr pr.2 (dS (hi.sub a0 aa) (((rN hi.kl O).2 pr (cJ a3)).2) hR (λz2 H3 s4=>?_) (λc z2=>?_))))
    ·rcases a4 with⟨c,G,_⟩ |⟨_,I⟩
     ·rw[z2]at G;cases G
     ·exact(aK (eV (s3.trans s4) I))
    ·rcases a4 with⟨c',G,rfl⟩ |⟨G,_⟩
     ·rw[z2]at G;cases G;exact(qf c Z).on a0
     ·rw[z2]at G;cases G
   ·rintro σ H' ⟨o5,o6,rfl,U,C⟩
    rw[List.drop_eq_nil_of_le (by omega),List.drop_eq_nil_of_le (by omega)]at C;have ho:o=none:=C;exact(aC (q x (by rw[ho];rfl) _ (y.trans U)))
 ·rcases J with⟨c',e,_,rfl⟩ |⟨e,_⟩
  ·rw[z]at e;cases e;exact qf c Z
  ·rw[z]at e;cases e
def xjm(T:Tx K mg)(R:RK)(aa:oG R)(hm:m<=1000)(g:DefXs P w K mg base n "kind_of_sort" qas (E4 K R m))(x:DefXs P w K mg base n "need_tags" qa0 (Lf K))(b:DefXs P w K mg base n "arm_kind" qaz (Iz K R m))(y:DefXs P w K mg base n "need_same" qai (wV K)):DefXs P w K mg base (n+1) "case_kind" qaa (dN K (λks=>Bn ks (R ks)) m):=by
 refine DefXs.of T.jU sc_case_kind (by walk_at"l") (λf an A outer s H vs Q E hr h=>?_);obtain⟨kv,tv,p,ks,d,env,r,rfl,hi,⟨a,rs,ra,rfl,ai,ha,a7⟩,q,qf⟩:=h;have nd:=sc_case_kind.nd;have hu:=hW hr
 refine⟨_,(aF (aR 3 nd (cN g hr (va 0 (pc (px K (pv 1) pI) (va 2 (pc pS pN aG)) ss))))
   (aF (aR 4 nd (px K (pv 1) pI))
   (aF (cT (cN x hr (va 0 (va 3 (v1 4)))))
   (aF (aR 5 nd (cN b hr (va 0 (va 3 (pc (px K (pv 4) pI) (v1 2) ss)))))
   (aF (fM (mU Z Z) Z (eJ (K:=K) Z (gY (Rn (K:=K) Z) (pv 4) (gE pI) iU)) (bK 6 nd)
   (po (cT (cN y hr (pc (cN b hr (va 0 (va 3 (va 6 (v1 2))))) (v1 5) bL)))))
   (po (aS (pv 5)))))))),?_⟩
 obtain⟨l,us,rfl,hl,_,_,rfl,rfl,va,_,rfl,ae,vr,_,rfl,rr,rfl⟩:=hi.tm;obtain⟨c,ws,rfl,hc,a4⟩:=rr;refine(dI (zD hl) Z (aC ?_));refine(aI kv va (fD p ks a env ra (S "alt") (dS (hi.sub (Same.refl _) ae) (by walk_at"k") ha (λk1 z H1 s1=>?_) (λc z=>?_))))
 ·rcases a7 with⟨O,e,_⟩ |⟨am,kn,e,G,a1⟩
  ·rw[z]at e;cases e
  rw[z]at e;cases e;refine(aQ (zD (s1 _ _ hl)) Z ?_);refine(bJ (eP kv c (aI ws ks (aP k1 kn rs (eX (hi.kd.same s1) hi.kl G (s1 _ _ hc) (a4.same s1 _) (jAAA ai (λe z2=>?_) (λz2 H2 s2=>?_) (λc z2=>?_)))))))
  ·rcases a1 with⟨O,u,h,_⟩ |⟨u,_⟩
   ·exact h
   ·rw[z2]at u;cases u
  ·rcases a1 with⟨O,u,_⟩ |⟨_,r0,rest,q0,rfl,ab,a6⟩
   ·rw[z2]at u;cases u
   have J:=s1.trans s2;obtain⟨w0,wr,rfl,ah,a5⟩:=a4;refine(gC (eN c ⟨w0,(cP (jAA (zD (J _ _ hc)) (cM (j:=0) Z) (aC ?_)))⟩));refine(aP kv w0 p (fD ks env k1 kn r0 q0 (eX (hi.sub J ah) G ab hm (λk M H3 s3=>?_) (λc M=>?_))))
   ·rcases a6 with⟨O,u,_⟩ |⟨k',o,u,hN,rfl⟩
    ·rw[M]at u;cases u
    rw[M]at u;cases u
    have ak:k.length<=100:=by
     rcases ab with⟨_,_,e⟩ |⟨_,⟨_,_,e⟩ |⟨k2,hp,hq⟩⟩
     ·rw[M]at e;cases e
     ·rw[M]at e;cases e
     ·exact aa _ _ _ _ hi.kl (hi.el.put (tW hi.kl G hp)) hq k M
    have a3:=J.trans s3
    refine⟨_,Z,_,Z,c,w0::wr,Z,zD (a3 _ _ hc),(by
     rw[show((1:Int))=((1:Nat):Int) from Z,HT.sIx_nat];rw[List.length_cons];omega),λcp al=>?_⟩
    have t3:=zA al (.tup (bI (w0::wr) (some 1) none));have Y:=a3.trans t3
    have a9:bI (w0::wr) (some 1) none=wr:=by
     unfold bI;rw[show((1:Int))=((1:Nat):Int) from Z,HT.sIx_nat,HT.sIx_none,List.length_cons];rw[show min 1 (wr.length+1)=1 by omega];show List.take _ wr=wr;exact fH (by omega)
    refine(bU ⟨_,zD aD⟩ ?_);rw[a9]at t3 Y⊢;have ag:=a5.length;rw[aM]at ag;refine hJ (xs:=wr) (λi σ H'=>∃o6,σ=[some kv,some (.ref l),some (.ref p),some (.str k1),some (.ref c),some (.str k),o6]/\Same (upd H3 cp (.tup wr)) H'/\ArmsN (ArmR kn (R ks) env) k (rest.drop i) o) (dG none Z (Same.refl _) hN) (λi σ H' _ p=>?_) ?_ ?_
    ·obtain⟨_,_,sm,_⟩:=p
     exact zD (sm _ _ aD)
    ·rintro i v σ H5 hv ⟨o6,rfl,sm,I⟩
     obtain⟨d0,a8,af⟩:=a5.get hv;rw[dA]at a8;obtain⟨z,hz,rfl⟩:=dH a8;rw[Cj hz]at I;obtain⟨qz,hA,a2⟩:=I;have U:=Y.trans sm;refine(aC (gC ?_));refine(aP kv v p (fD ks env k1 kn z qz (eX (hi.sub U af) G hA hm (λkz z4 H6 s6=>?_) (λc z4=>?_))))
     ·have ac:=U.trans s6
      have aj:kz.length<=100:=by
       rcases hA with⟨_,_,e⟩ |⟨_,⟨_,_,e⟩ |⟨k2,hp,hq⟩⟩
       ·rw[z4]at e;cases e
       ·rw[z4]at e;cases e
       ·exact aa _ _ _ _ hi.kl (hi.el.put (tW hi.kl G hp)) hq kz z4
      subst z4;refine(eP kz k (aY aj ak (λz5 H7 s7=>?_) (λc z5=>?_)))
      ·rcases a2 with⟨c,C,_⟩ |⟨_,a0⟩
       ·rw[z5]at C;cases C
       ·exact(bU (sm.trans (s6.trans s7)) a0)
      ·rcases a2 with⟨O,C,rfl⟩ |⟨C,_⟩
       ·rw[z5]at C;cases C;exact(qf c Z).on ac
       ·rw[z5]at C;cases C
     ·subst z4
      rcases a2 with⟨O,C,rfl⟩ |⟨C,_⟩
      ·cases C;exact(qf c Z).on U
      ·cases C
    ·rintro σ H5 ⟨o6,rfl,sm,I⟩
     rw[List.drop_eq_nil_of_le (by omega)]at I;have ho:o=none:=I;exact(aC (q k (by rw[ho];rfl) _ (Y.trans sm)))
   ·rcases a6 with⟨O,u,rfl⟩ |⟨k',o,u,_⟩
    ·rw[M]at u;cases u;exact(qf c Z).on J
    ·rw[M]at u;cases u
  ·rcases a1 with⟨O,u,_,rfl⟩ |⟨u,_⟩
   ·rw[z2]at u;cases u;exact(qf c Z).on s1
   ·rw[z2]at u;cases u
 ·rcases a7 with⟨O,e,rfl⟩ |⟨k',kn,e,_⟩
  ·rw[z]at e;cases e;exact qf c Z
  ·rw[z]at e;cases e
def Yc(T:Tx K J)(R:RK)(u:DefXs P w K J base n "num_kind" ["n"] (Ik K))(z:DefXs P w K J base n "box_kind" qal (By K m))(G:DefXs P w K J base n "op_kind" qaa (dN K (λks=>sO (R ks)) m))(o:DefXs P w K J base n "rec_kind" qaa (dN K (λks=>B3 ks (R ks)) m))(y:DefXs P w K J base n "get_kind" qaa (dN K (λks=>B2 ks (R ks)) m))(j:DefXs P w K J base n "tag_kind" qaa (dN K (λks=>B4 ks (R ks)) m))(e:DefXs P w K J base n "case_kind" qaa (dN K (λks=>Bn ks (R ks)) m))(I:DefXs P w K J base n "if_kind" qaa (dN K (λks=>sW (R ks)) m)):DefXs P w K J base (n+1) "kind_of" qaa (dN K (λks env d r=>zO env d r\/NodeKt ks (R ks) env d r) m):=by
 refine DefXs.of T.jN sc_kind_of (by walk_at"l") (λf a1 A outer s H vs Q E M h=>?_);obtain⟨U,tv,p,ks,d,env,r,rfl,hi,hR,q⟩:=h;have nd:=sc_kind_of.nd;have hu:=hW M
 refine⟨_,(aF (aR 3 nd (px K (pv 1) pI))
   (aF (aT (pR bY (pv 3) pS (nM _)) (po (aS (cN u M (pc (px K (pv 1) pI) pN ss)))) pQ)
   (aF (aT (pR bY (pv 3) pS (nM _)) (po (aS (cN z M (pc (px K (pv 1) pI) (v1 2) ss)))) pQ)
   (aF (aT (pR bY (pv 3) pS (nM _)) (po (aS (cN G M (va 0 (va 1 (v1 2)))))) pQ)
   (aF (aT (pR bY (pv 3) pS (nM _)) (po (aS (cN o M (va 0 (va 1 (v1 2)))))) pQ)
   (aF (aT (pR bY (pv 3) pS (nM _)) (po (aS (cN y M (va 0 (va 1 (v1 2)))))) pQ)
   (aF (aT (pR bY (pv 3) pS (nM _)) (po (aS (cN j M (va 0 (va 1 (v1 2)))))) pQ)
   (aF (aT (pR bY (pv 3) pS (nM _)) (po (aS (cN e M (va 0 (va 1 (v1 2)))))) pQ)
   (po (aS (cN I M (va 0 (va 1 (v1 2)))))))))))))),?_⟩
 rcases hR with(⟨i,rfl,h0,a0,rfl⟩ |⟨x,rfl,hx⟩) |g |g |g |g |g |g
 ·obtain⟨a,us,rfl,C,_,_,rfl,rfl,_,_,rfl,rfl,rfl⟩:=hi.tm
  have O:SqT K H a [.str (S "num"),.int i]:=zD C;walk_at"rd";exact(jAA h0 a0 q)
 ·obtain⟨a,us,rfl,C,_,_,rfl,rfl,_,_,rfl,rfl,rfl⟩:=hi.tm
  have O:SqT K H a [.str (S "box"),.str x]:=zD C;walk_at"rd";exact(aI x p (aI env r (aZ hi.en hx q)))
 ·obtain⟨sg,a,b,_,rfl,_⟩:=id g
  obtain⟨l,us,rfl,C,_,_,rfl,rfl,_,_,rfl,rfl,va,_,rfl,Y,vb,_,rfl,rb,rfl⟩:=hi.tm;have O:SqT K H l [.str (S "op"),.str sg,va,vb]:=zD C;walk_at"rd";exact(aV U ⟨p,(aV ks (aI env r (aZ hi g q)))⟩)
 ·obtain⟨x,es,rfl,_⟩:=id g
  obtain⟨l,us,rfl,C,_,_,rfl,rfl,_,_,rfl,rfl,va,_,rfl,Y,rfl⟩:=hi.tm;have O:SqT K H l [.str (S "rec"),.str x,va]:=zD C;walk_at"rd";exact(aV U ⟨p,(aV ks (aI env r (aZ hi g q)))⟩)
 ·obtain⟨a,f',_,rfl,_⟩:=id g
  obtain⟨l,us,rfl,C,_,_,rfl,rfl,va,_,rfl,Y,_,_,rfl,rfl,rfl⟩:=hi.tm;have O:SqT K H l [.str (S "get"),va,.str f']:=zD C;walk_at"rd";exact(aV U ⟨p,(aV ks (aI env r (aZ hi g q)))⟩)
 ·obtain⟨x,t,a,rfl,_⟩:=id g
  obtain⟨l,us,rfl,C,_,_,rfl,rfl,_,_,rfl,rfl,_,_,rfl,rfl,va,_,rfl,Y,rfl⟩:=hi.tm;have O:SqT K H l [.str (S "tag"),.str x,.str t,va]:=zD C;walk_at"rd";exact(aV U ⟨p,(aV ks (aI env r (aZ hi g q)))⟩)
 ·obtain⟨a,rs,_,rfl,_⟩:=id g
  obtain⟨l,us,rfl,C,_,_,rfl,rfl,va,_,rfl,Y,vr,_,rfl,rr,rfl⟩:=hi.tm;have O:SqT K H l [.str (S "case"),va,vr]:=zD C;walk_at"rd";exact(aV U ⟨p,(aV ks (aI env r (aZ hi g q)))⟩)
 ·obtain⟨a,b,c,_,rfl,_⟩:=id g
  obtain⟨l,us,rfl,C,_,_,rfl,rfl,va,_,rfl,Y,vb,_,rfl,rb,vc,_,rfl,rc,rfl⟩:=hi.tm;have O:SqT K H l [.str (S "if"),va,vb,vc]:=zD C;walk_at"rd";exact(aV U ⟨p,(aV ks (aI env r (aZ hi g q)))⟩)
def U3(D:DefXs P w K c base n "kind_of" qaa (dN K R (m+1))):DefXs P w K c base n "kind_of" qaa (dN K R m):=D.imp λvs H Q E h=>by
 obtain⟨e,b,p,ks,d,env,r,g,a,f⟩:=h;exact(fD e b p ks d env (dG r g ⟨a.kd,a.kl,a.el,a.tm,a.en.mono (by omega)⟩ f))
def N0 (T:Tx K c) (R:RK) (b:oG R) (j:m<=1000) (g:DefXs P w K c base (n+2) "kind_of" qaa (dN K R (m+1))) :
  DefXs P w K c base (n+5) "kind_of" qaa (dN K (λks env d r=>zO env d r\/NodeKt ks (R ks) env d r) m):=by
 have D:=U3 g;have same:∀k,DefXs P w K c base (k+1) "need_same" qai (wV K):=λk=>E5 T;have sort:∀k,DefIs P w K c base (k+1) "sort_of" qac rQ:=λk=>Ao T;have a:∀k,DefIs P w K c base (k+1) "parts_of" qac vN:=λk=>E7 T;have e:∀k,DefXs P w K c base (k+2) "part_kind" qaj (wU K):=λk=>xji (n:=k+1) T (a k);have nk:=O8 (n:=n+2) T R b D (same (n+1));have ns:=xjk (P:=P) (w:=w) (base:=base) (n:=n+2) T (sort (n+1));have f:=xgx (n:=n+2) T R b D (sort (n+1));have o:=xla (n:=n+2) T R g (xk2 T) (e n);have h:=xjj (P:=P) (w:=w) (base:=base) (n:=n+2) T (a (n+1)) (Ap T);have l:=xjm (n:=n+3) T R b j f h o (same (n+2));exact Yc (n:=n+4) T R (xk7 T) (O2 T) (Yd (n:=n+3) T R nk) (xk5 (n:=n+3) T R ns nk (a (n+2))) (xk9 (n:=n+3) T R f (e (n+1))) (xk3 (n:=n+3) T R ns nk (e (n+1))) l (Yb (n:=n+3) T R b (D.mono (by omega)) nk)
theorem G9(T:Tx K f):∀n m,n+m<=999->DefXs P w K f base (3*n+5) "kind_of" qaa (dN K (λks=>Kt ks n) m)
 | 0,m,h=>by
  refine(N0 (P:=P) (w:=w) (base:=base) (n:=0) (m:=m) T (λ_ _ _ _=>False) (λ_ _ _ _ _ _ h=>h.elim) (by omega) (DefXs.none T.jN ?_)).imp ?_
  ·rintro vs H Q E ⟨_,_,_,_,_,_,_,_,_,h,_⟩
   exact h
  ·rintro vs H Q E ⟨g,e,p,ks,d,env,r,c,b,a,l⟩
   exact(fD g e p ks d env (cZ r c (jAA b (.inl a) l)))
 |n+1,m,h=>by
  have j:=G9 T n (m+1) (by omega);exact N0 (n:=3*n+3) (m:=m) T (λks=>Kt ks n) (λks env d r c b a=>wA c n env d r b a) (by omega) j
structure TIn(H:Hp)(f:Addr)(kv bv:V)(ks:List Kn)(bs:List (Str×Str)):Prop where
 fd:∃p q:Int,H f=some (.lst [.int p,.int q])
 kd:RelD H kv (iO ks)
 wf:KWf ks
 bl:∃a us,bv=.ref a/\H a=some (.lst us)/\RelDs H us (bs.map nJ)/\a≠f
 nd:(bs.map (·.1)).Nodup
 len:bs.length<=100
 fit:Fit ks
def A1:Sp:=λvs H Q _=>∃(f:Addr) (kv bv:V) (ks:List Kn) (bs:List (Str×Str)) (x:Str),vs=[.ref f,kv,bv,.str x]/\TIn H f kv bv ks bs/\KIn ks 6 x/\∀a d H',Fed f H H'->RelD H' (.ref a) d->nE ks bs d x->Q (.ref a) H'
def W8{H:Hp}{us:List V}{bs:List (Str×Str)}(g:RelDs H us (bs.map nJ)){i:Nat}{v:V}(c:us[i]?=some v):∃(b:Addr) (p:Str×Str),bs[i]?=some p/\v=.ref b/\H b=some (.tup [.str p.1,.str p.2]):=by
 obtain⟨d,hd,rd⟩:=g.get c;rw[dA]at hd;obtain⟨a,e,rfl⟩:=dH hd;obtain⟨b,ws,rfl,f,_,_,rfl,rfl,_,_,rfl,rfl,rfl⟩:=rd;exact(aI b a ⟨e,Z,f⟩)
def xje (T:Tx K mg) (a:DefIs P w K mg base n "_law_take" qab iW) (g:DefIs P w K mg base n "_law_number" qat C1) (c:DefIs P w K mg base n "nought_term" qad (lA cH 6)) :
  DefIs P w K mg base (n+1) "_law_new_term" qan A1:=by
 refine DefIs.of T.kQ scl_new_term (by walk_at"l") (λf ai A outer s H vs Q E hr h=>?_);obtain⟨M,kv,bv,ks,bs,x,rfl,j,l,q⟩:=h;have nd:=scl_new_term.nd;obtain⟨p0,q0,hf⟩:=j.fd;obtain⟨ba,us,rfl,a3,a1,ah⟩:=j.bl;have a8:=a1.length;rw[aM]at a8;have ae:=j.len
 refine⟨_,(aF (pB (i:=4) ["_law_x","_law_told","_law_kind"] [none,none,some 3] Z (by kernel_rfl) nd Z (by first |exact Or.inl Z |exact Or.inr rfl) (oP (K:=K) Z (pv 2)) (λ_ _ _ _=>(fI (K:=K) (n:=2) Z Z (aX (dU 0) (aX (dU 1) fE)))) (λ_ _ _ _=>(pW (pR bY (pv 1) (pv 2) (nM _)))) (λ_ _ _ _=>(pv 0)))
   (aF (aT (PW.pt (iF (pR lK (bV (dM (K:=K) Z) Z T.uS zH (v1 4)) pI (nM _)) (iQ (pR bY (pd a hr (va 0 (pc pI pN aG))) pI (nM _))))) (po (aS (aH (pc pS (pc (cC K (pv 4) (pd a hr (va 0 (pc (bV (dM (K:=K) Z) Z T.uS zH (v1 4)) pN bL)))) pN ss) aG)))) pQ)
   (aF (aT (pR bY (pv 3) pS (nM _)) (po (aS (aH (pc pS (pc (pd g hr (v1 0)) pN bL) aG)))) pQ)
   (po (aS (pd c hr (va 1 (v1 3)))))))),aL λR1 aa=>?_⟩
 refine(fN ⟨_,zF a3⟩ ?_);refine xJ (xs:=us) (λi ys H'=>H'=H/\∃zs:List Str,ys=zs.map V.str/\∀z∈zs,(z,x)∈bs) ⟨Z,(cZ ([]) Z (λ_ h=>nomatch h))⟩ (cL (by omega)) (λi ys H' _ p=>by rw[p.1];exact zF a3) ?_ ?_
 ·rintro i y ys H' hy hi C ⟨rfl,zs,rfl,hz⟩
  obtain⟨b,p,hp,rfl,hb⟩:=W8 a1 hy;refine(iX (zD hb) Z Z Z Z ⟨hV Z Z,?_⟩);refine(bJ (bP Z (aJ (λO=>?_) (λO=>?_))))
  ·have e:p.2=x:=V.str.inj (qE O)
   refine(aC (eT hi C ⟨Z,(cZ (zs++[p.1]) (by rw[bZ];rfl) (λz a7=>?_))⟩));rcases dD a7 with h |h
   ·exact hz z h
   ·rw[cD h,<- e];exact cJ hp
  ·exact iK hi C (bP Z hz)
 rintro ys H1 C ⟨rfl,zs,rfl,hz⟩ D hD;have sD:=zA hD (.lst (zs.map V.str));have U:upd H1 D (.lst (zs.map V.str)) D=some (.lst (zs.map V.str)):=aD;have I:=sD _ _ hf;have a0:=j.kd.same sD _;have dF:D≠M:=λz=>by rw[z,hf]at hD;cases hD
 generalize upd H1 D (.lst (zs.map V.str))=H2 at sD U I a0⊢;refine aa _ _ (aL λR2 a9=>?_)
 have K2:∀Y,Fed M H2 Y->R2 [some (.ref M),some kv,some (.ref ba),some (.str x),some (.ref D)] Y:=λY J=>by
  refine a9 _ _ ?_;obtain⟨p3,q3,G⟩:=J.2;have a6:=cK (aI p0 q0 I) J;have a5:Fed M H1 Y:=⟨λb o e n=>J.1 b o (sD _ _ e) n,(aI p3 q3 G)⟩;refine(dE Z Z (aJ (λO=>?_) (λO=>?_)))
  ·have e:x=S "num":=V.str.inj (qE O)
   refine(aC (aP M p3 q3 (eV G (λi H4 ni f4=>⟨aE Z,λt ht=>?_⟩))));have st:=zA ht (.tup [.str (S "num"),.int i]);refine q t (aO i) _ ((a5.trans f4).same st) (cY aD Z Z Z Z Z) ?_;rw[e];exact A8 j.nd ni
  ·refine(bJ (aP kv ks x (aY (a0.tups a6 _) j.wf l (λu H4 s4 ru=>?_))))
   obtain⟨b,rfl⟩:=Rh j.wf l ru;exact q b _ _ (a5.same s4) ru (C8 j.wf j.fit j.nd l)
 refine(gV D Z (.inl (zF U)) (fQ Z (aJ (λO=>?_) (λO=>cG (K2 H2 ⟨λb o e _=>e,(aI p0 q0 I)⟩)))))
 have ac:0<zs.length:=by
  have:=qE O;rw[aM]at this;omega
 refine(aC (aP M p0 q0 (gH Z (jAAA I (aA Z) (aA Z) (λt Y t0 t1 J=>(bP Z (aJ (λc2=>?_) (λc2=>K2 Y J))))))));obtain⟨p3,q3,G⟩:=J.2;have a4:=J.1 _ _ U dF;have af:zs.length<=us.length:=by rw[aM]at C;exact C
 have ag:(zs.map V.str).length=zs.length:=aM ..;refine(bJ (gV D Z (.inl (zF a4)) (aI M p3 (aV q3 (aY G (by omega) (by omega) (λr H4 r0 r1 f4=>?_))))));obtain⟨ri,rfl⟩:∃i:Nat,r=(i:Int):=⟨r.toNat,by omega⟩;have a2:ri<zs.length:=by omega
 have hv:(zs.map V.str)[ri]?=some (.str zs[ri]):=by rw[dA,cF a2];rfl
 refine(eZ (zF (f4.1 _ _ a4 dF)) (cM hv) ⟨aE Z,λt' ht=>?_⟩);have st:=zA ht (.tup [.str (S "box"),.str zs[ri]]);have ab:Fed M H1 H4:=⟨λb o e n=>f4.1 b o (J.1 b o (sD _ _ e) n) n,f4.2⟩;exact q t' (fB zs[ri]) _ (ab.same st) (cY aD Z Z Z Z Z) (Vc j.nd (hz _ (qY a2)))
structure GIn(H:Hp)(f nb:Addr)(kv:V)(ks:List Kn)(nms:List Str):Prop where
 fd:∃p q:Int,H f=some (.lst [.int p,.int q])
 nl:H nb=some (.lst (nms.map V.str))
 ok:NmsR nms
 ne:nb≠f
 nby:∀z∈nms,lE z
 kd:RelD H kv (iO ks)
 wf:KWf ks
 pb:B0 ks
theorem GIn.same(g:GIn H f b c ks a)(s:Same H e):GIn e f b c ks a:=by
 obtain⟨p,q,h⟩:=g.fd;exact⟨(aI p q (s _ _ h)),s _ _ g.nl,g.ok,g.ne,g.nby,g.kd.same s _,g.wf,g.pb⟩
def GIn.fed(g:GIn H f b c ks a)(s:Fed f H e):GIn e f b c ks a:=⟨s.2,s.1 _ _ g.nl g.ne,g.ok,g.ne,g.nby,g.kd.tups (cK g.fd s) _,g.wf,g.pb⟩
theorem GIn.refl(g:GIn H f b c ks a):Fed f H H:=by
 obtain⟨p,q,h⟩:=g.fd;exact Fed.refl h
theorem GIn.name{H:Hp}{f b:Addr}{c:V}{ks:List Kn}{a:List Str}(g:GIn H f b c ks a){i:Nat}(h:i<26):∃z,a[i]?=some z/\fG (a.map V.str) (i:Int)=some (.str z):=by
 have e:=g.ok.len;exact(cZ (a[i]'(by omega)) (cF _) (cM (by rw[dA,cF (by omega)];rfl)))
structure ChsOk(ks:List Kn)(nms:List Str)(hn:Nat)(cs:List cR):Prop where
 len:cs.length<=6
 l5:cs.length<=5
 nm:cs.map (·.1)=(nms.drop 12).take cs.length
 kin:∀c∈cs,KIn ks ks.length c.2.2.2
 ends:∀c∈cs,c.2.1∈nms.take hn/\c.2.2.1∈nms.take hn
def Ih:Sp:=λvs H Q _=>∃(f nb:Addr) (kv:V) (ks:List Kn) (nms:List Str) (hn:Nat),vs=[.ref f,kv,.ref nb,.int hn]/\GIn H f nb kv ks nms/\1<=hn/\hn<=4/\∀cv cs H',Fed f H H'->RelD H' cv (.tup (cs.map fK))->ChsOk ks nms hn cs->1<=cs.length->Q cv H'
def Jx{a:List Str}{i hn:Nat}(h:a[i]?=some z)(hi:i<hn):z∈a.take hn:=cJ (i:=i) (by rw[List.getElem?_take,if_pos hi];exact h)
def rT{H:Hp}{us:List V}{cs:List cR}(g:RelDs H us (cs.map fK)){i:Nat}{v:V}(a:us[i]?=some v):∃(b:Addr) (c:cR),cs[i]?=some c/\v=.ref b/\H b=some (.tup [.str c.1,.str c.2.1,.str c.2.2.1,.str c.2.2.2]):=by
 obtain⟨d,hd,rd⟩:=g.get a;rw[dA]at hd;obtain⟨c,e,rfl⟩:=dH hd;obtain⟨b,ws,rfl,f,_,_,rfl,rfl,_,_,rfl,rfl,_,_,rfl,rfl,_,_,rfl,rfl,rfl⟩:=rd;exact(aI b c ⟨e,Z,f⟩)
structure BsOk(ks:List Kn)(nms:List Str)(bs:List (Str×Str)):Prop where
 len:bs.length<=5
 nd:(bs.map (·.1)).Nodup
 nm:∀b∈bs,b.1∈nms
 n18:∀b∈bs,∃i,18<=i/\i<24/\nms[i]?=some b.1
 kin:∀b∈bs,KIn ks 6 b.2
def Gp:Sp:=λvs H Q _=>∃(f nb:Addr) (kv cv:V) (ks:List Kn) (nms:List Str) (cs:List cR) (x:Str),vs=[.ref f,kv,cv,.str x,.ref nb]/\GIn H f nb kv ks nms/\RelD H cv (.tup (cs.map fK))/\cs.length<=6/\(∀c∈cs,KIn ks ks.length c.2.2.2)/\∀bv bs H',Fed f H H'->RelD H' bv (lG bs)->BsOk ks nms bs->Q bv H'
def xjf(T:Tx K mg)(a:DefIs P w K mg base n "_law_take" qab iW)(p:DefIs P w K mg base n "_law_any_kind" qak yQ):DefIs P w K mg base (n+1) "_law_channels" qa8 Ih:=by
 refine DefIs.of T.kS scl_channels (by walk_at"l") (λf bh A outer s H vs Q E hr h=>?_);obtain⟨x,nb,kv,ks,y,hn,rfl,g,h1,h4,q⟩:=h;have nd:=scl_channels.nd
 refine⟨_,(aF (aR 4 nd (fU pN))
   (aF (fM zI Z (oO Z T.uW (pc (aN eY pI (pd a hr (va 0 (pc pI pN aG)))) pN eI)) (bK 5 nd)
   (aF (aR 6 nd (aH (pc (cC K (pv 2) (pd a hr (va 0 (v1 3)))) (pc (cC K (pv 2) (pd a hr (va 0 (v1 3)))) pN ss) ss)))
   (po (cT (gM zG zK zJ gZ (pv 4) (pc (aH (pc (cC K (pv 2) (aN eY pI (pv 5))) (pc (px K (pv 6) pI) (pc (px K (pv 6) pI) (pc (pd p hr (va 0 (v1 1))) pN bL) ss) ss) ss)) pN sT))))))
   (po (aS (hH (mY (K:=K) Z) Z T.u6 zN (v1 4)))))),aL λR1 b3=>?_⟩
 refine⟨aE Z,λl hl=>b3 _ _ (aL λR2 b2=>?_)⟩;have s0:=zA hl (.lst []);have g0:=g.same s0;obtain⟨p0,q0,b0⟩:=g.fd;have lf:l≠x:=Ne.symm (dJ b0 hl);obtain⟨p1,q1,az⟩:=g0.fd;refine(gW x p1 q1 5 Z az (aA Z) (aA Z) (λr1 H3 bd bc f1=>(fO ?_)));have F3:Fed x H H3:=(g.refl.same s0).trans f1;have ao:=f1.1 _ _ aD lf;obtain⟨N,hN,bg⟩:∃N:Nat,1+r1=(N:Int)/\N<=5:=(cZ ((1+r1).toNat) (by omega) (by omega));rw[show(λi j:Int=>V.int (i+j)) 1 r1=V.int (N:Int) from congrArg V.int hN];refine(gH Z (jAA (by omega) (by omega) ?_))
 refine vM (λi σ H'=>∃us,∃cs:List cR,∃o6 o7,σ=[some (.ref x),some kv,some (.ref nb),some (.int hn),some (.ref l),o6,o7]/\Fed x H H'/\H' l=some (.lst us)/\RelDs H' us (cs.map fK)/\cs.length=i/\ChsOk ks y hn cs)
  (aI ([]) ([]) (aI none none (aY F3 ao Z ⟨Z,aA Z,aA Z,Z,(λ_ h=>nomatch h),λ_ h=>nomatch h⟩))) ?_ ?_
 ·rintro i σ H4 hi ⟨us,cs,o6,o7,rfl,F4,M,C,O,r⟩
  have bf:i<5:=by omega
  have e0:(0+(i:Int))=(i:Int):=by omega
  have g4:=g.fed F4;obtain⟨p4,q4,ay⟩:=F4.2;have aj:=C.length;rw[aM]at aj;refine aL λS1 b1=>?_;refine(bJ (gW x p4 q4 hn Z ay (by omega) (by omega) (λra H5 bb ba f5=>?_)));obtain⟨ia,rfl⟩:∃i:Nat,ra=(i:Int):=⟨ra.toNat,by omega⟩;have g5:=g4.fed f5;obtain⟨za,ag,b7⟩:=g5.name (i:=ia) (by omega);refine(eZ (zF g5.nl) b7 ?_);obtain⟨p5,q5,ax⟩:=f5.2;refine(bJ (gW x p5 q5 hn Z ax (by omega) (by omega) (λrb H6 b9 b8 f6=>?_)));obtain⟨ib,rfl⟩:∃i:Nat,rb=(i:Int):=⟨rb.toNat,by omega⟩;have g6:=g5.fed f6;obtain⟨zb,af,b6⟩:=g6.name (i:=ib) (by omega);refine(eZ (zF g6.nl) b6 ⟨aE Z,λte ak=>?_⟩);have s7:=zA ak (.tup [.str za,.str zb]);have F6:=F4.trans (f5.trans f6);have a7:=cK g4.fd (f5.trans f6)
  have ac:∀(tf:Addr) (I G:Str) (U:Hp),Fed x H U->U l=some (.lst us)->RelDs U us (cs.map fK)->U tf=some (.tup [.str I,.str G])->I∈y.take hn->G∈y.take hn->S1 [some (.ref x),some kv,some (.ref nb),some (.int hn),some (.ref l),some (.int (0+(i:Int))),some (.ref tf)] U:=λtf I G U F8 a4 a1 a3 ai ah=>by
   refine b1 _ _ ?_;have g8:=g.fed F8;obtain⟨Y,ae,b5⟩:=g8.name (i:=12+i) (by omega)
   have a6:fG (y.map V.str) (12+(0+(i:Int)))=some (.str Y):=by
    rw[e0];exact b5
   refine(bQ (.inl (gR (zF a4))) ?_);refine(bJ (fO (eZ (zF g8.nl) a6 ?_)));refine(aQ (zD a3) Z (aQ (zD a3) Z ?_));obtain⟨p8,q8,aw⟩:=F8.2;obtain⟨ka,ab,b4,au,ar⟩:=id g8.kd;subst b4;have a5:=g.wf.few;refine(bJ (fD x ka p8 q8 ab ks (dS aw (.inr au) ar a5 (λkx H9 aq f9=>⟨aE Z,λt ht=>?_⟩))));have st:=zA ht (.tup [.str Y,.str I,.str G,.str kx]);have J:=f9.1 _ _ a4 lf;have a8:=cK g8.fd f9;refine(iA us Z (st _ _ J) (cL (by omega)) ?_);have be:l≠t:=dJ J ht;have al:H l=none:=hl;refine(aI (us++[.ref t]) (cs++[(Y,I,G,kx)]) (aK (dS ?_ aD ?_ (by rw[bS,List.length_singleton,O]) ?_)))
   ·refine⟨λb o e hb=>?_,?_⟩
    ·rw[cO (dJ e al)]
     exact st _ _ ((F8.trans f9).1 b o e hb)
    ·obtain⟨p9,q9,av⟩:=f9.2
     exact(aI p9 q9 (by rw[cO (Ne.symm lf)];exact st _ _ av))
   ·have a0:∀b vs,upd H9 t (.tup [.str Y,.str I,.str G,.str kx]) b=some (.tup vs)->upd (upd H9 t (.tup [.str Y,.str I,.str G,.str kx])) l (.lst (us++[.ref t])) b=some (.tup vs):=λb vs e=>by
     rw[cO λz=>by rw[z,st _ _ J]at e;cases e];exact e
    rw[bZ];refine(((a1.tups a8 _).same st _).tups a0 _).append (aW (fA (a0 _ _ aD) (eM Z Z Z Z (aW Z Z))) Z)
   ·refine⟨by rw[bS,List.length_singleton];omega,by rw[bS,List.length_singleton];omega,?_,λc u=>?_,λc u=>?_⟩
    ·rw[bZ,bS,List.length_singleton,r.nm,gA,List.getElem?_drop,O,ae]
     rfl
    ·rcases dD u with u |u
     ·exact r.kin c u
     ·rw[cD u];exact aq
    ·rcases dD u with u |u
     ·exact r.ends c u
     ·rw[cD u];exact⟨ai,ah⟩
  have F7:=F6.same s7;have an:=(f5.trans f6).1 _ _ M lf;have am:=s7 _ _ an;have a2:=(C.tups a7 _).same s7 _;have aa:=Jx ag (by omega:ia<hn);have a9:=Jx af (by omega:ib<hn);exact ac te za zb _ F7 am a2 aD aa a9
 ·rintro σ H4 ⟨us,cs,o6,o7,rfl,F4,M,C,O,r⟩
  refine b2 _ _ ?_;refine(eP l us ⟨Z,.inl ⟨zF M,λt ht=>?_⟩⟩);have st:=zA ht (.tup us);exact q _ cs _ (F4.same st) (iP us aD (C.same st _)) r (by omega)
def Xo(T:Tx K mg)(a:DefIs P w K mg base n "_law_take" qab iW)(r:DefIs P w K mg base n "_law_any_kind" qak yQ):DefIs P w K mg base (n+1) "_law_boxes" qa9 Gp:=by
 refine DefIs.of T.kT scl_boxes (by walk_at"l") (λf b5 A outer s H vs Q E hr h=>?_);obtain⟨f',nb,kv,cv,ks,aa,cs,x,rfl,g,al,h6,am,q⟩:=h;have nd:=scl_boxes.nd
 refine⟨_,(aF (aR 5 nd (fU pN))
   (aF (fM zI Z (eJ (K:=K) Z (pv 2)) (fI (K:=K) Z Z (aX (bK 6 nd) (aX (bK 7 nd) (aX (bK 8 nd) (aX (bK 9 nd) fE)))))
   (po (aT (PW.pt (iF (pR bY (pv 8) (pv 3) (nM _)) (iQ (pR O9 (pv 9) (pv 5) (by with_unfolding_all rfl))))) (po (cT (gM zG zK zJ gZ (pv 5) (v1 9)))) pQ)))
   (aF (fM zI Z (oO Z T.uW (pc (pd a hr (va 0 (pc pI pN aG))) pN bL)) (bK 10 nd)
   (po (cT (gM zG zK zJ gZ (pv 5) (pc (pd r hr (va 0 (v1 1))) pN bL)))))
   (aF (aR 11 nd (aN pX (pd a hr (va 0 (pc pI pN aG))) pI))
   (po (aS (hH (mY (K:=K) Z) Z T.u6 zN (pc (iT ["_law_k","_law_names_here","_law_wants","_law_turn"] [none,some 4,some 5,some 11] Z (by kernel_rfl) (oO Z T.uW (pc (bV (X3 Z) Z T.uV PyProof.Rows.boot_min (pc pI (pc (bV (dM (K:=K) Z) Z T.uS zH (v1 5)) pN bL) aG)) pN bL)) (λ_ _ _ _=>(dU 0)) (λ_ _ _ _=>iH) (λ_ _ _ _=>(aH (pc (cC K (pv 1) (aN eY pI (aN iV (aN eY (pv 0) (pv 3)) pI))) (pc (cC K (pv 2) (pv 0)) pN ss) ss)))) pN oB)))))))),aL λR1 ar=>?_⟩
 refine⟨aE Z,λl O=>ar _ _ (aL λR2 aq=>?_)⟩;have s0:=zA O (.lst []);obtain⟨p0,q0,a6⟩:=g.fd;have lf:l≠f':=Ne.symm (dJ a6 O);have b1:nb≠l:=dJ g.nl O;obtain⟨ca,us,rfl,a7,hR⟩:=al;have ac:=hR.length;rw[aM]at ac;have Y:=g.wf.few;refine(fN ⟨_,zD (s0 _ _ a7)⟩ ?_);have av:∀{I:Hp} {xs:List Str} (k:Str),SameBut l H I->I l=some (.lst (xs.map V.str))->SameBut l H (upd I l (.lst ((xs++[k]).map V.str))):=λk s _=>s.trans (SameBut.upd _ _ _)
 refine hJ (xs:=us) (λi σ I=>∃(xs:List Str) (o6 o7 o8 o9:Option V),σ=[some (.ref f'),some kv,some (.ref ca),some (.str x),some (.ref nb),some (.ref l),o6,o7,o8,o9,none,none]/\SameBut l H I/\I l=some (.lst (xs.map V.str))/\(∀k∈xs,KIn ks ks.length k)/\xs.length<=i)
  (aI ([]) none (aP none none none (aY s0.but aD (λ_ h=>nomatch h) (qX _)))) (λi σ I _ p=>?_) ?_ ?_
 ·obtain⟨_,_,_,_,_,_,J,_⟩:=p
  exact zD (J _ _ a7 (dJ a7 O))
 ·rintro i v σ H1 hv ⟨xs,o6,o7,o8,o9,rfl,J,u,M,a2⟩
  obtain⟨b,c,hc,rfl,y⟩:=rT hR hv;have hi:i<us.length:=(cV hv).1;refine(gK (jAA (zD (J _ _ y (dJ y O))) Z (aK ⟨Z,(aK ⟨Z,(aK ⟨Z,(aW Z ?_)⟩)⟩)⟩)));refine(bJ (bP Z (aJ (λc1=>?_) (λc1=>cG (eN xs (eU Z (jAAA J u M (by omega))))))));refine(bJ (gK (jAA (.inl (zF u)) Z (bP (Dw xs) (aJ (λc2=>?_) (λc2=>(eN xs (eU Z (jAAA J u M (by omega))))))))));refine(bQ (.inl (gR (zF u))) (aC (eN l (cP (jAA u (cL (by rw[aM];omega)) ?_)))));refine(eN (xs++[c.2.2.2]) (aK (aY (J.trans (SameBut.upd _ _ _)) (by rw[aD,bZ];rfl) (λk a4=>?_) (by rw[bS,List.length_singleton];omega))));rcases dD a4 with h |h
  ·exact M k h
  ·rw[cD h];exact am c (cJ hc)
 rintro σ H1 ⟨xs,o6,o7,o8,o9,rfl,J,u,M,a2⟩;refine aq _ _ (aL λR3 ao=>?_);have F1:Fed f' H H1:=⟨λb o e _=>J b o e (dJ e O),(aI p0 q0 (J _ _ a6 (dJ a6 O)))⟩;have g1:=g.fed F1;obtain⟨p1,q1,ak⟩:=F1.2;refine(gW f' p1 q1 3 Z ak (aA Z) (aA Z) (λr1 H2 b0 ay f2=>(gH Z (jAA (by omega) (by omega) ?_))))
 refine vM (λi σ I=>∃(xs:List Str) (a0:Option V),σ=[some (.ref f'),some kv,some (.ref ca),some (.str x),some (.ref nb),some (.ref l),o6,o7,o8,o9,a0,none]/\Fed f' H I/\I l=some (.lst (xs.map V.str))/\(∀k∈xs,KIn ks ks.length k)/\xs.length<=6+i)
  (aI xs none (aY (F1.trans f2) (f2.1 _ _ u lf) M (by omega))) ?_ ?_
 ·rintro i σ H3 hi ⟨xs,a0,rfl,F3,u,M,a2⟩
  have g3:=g.fed F3;obtain⟨p3,q3,a5⟩:=F3.2;obtain⟨ka,ab,au,ai,ah⟩:=id g3.kd;subst au;refine(bQ (.inl (gR (zF u))) (bJ (fD f' ka p3 q3 ab ks (dS a5 (.inr ai) ah Y (λkx H4 ag f4=>?_)))));have C:=f4.1 _ _ u lf;refine(eN l (cP (jAA C (cL (by rw[aM];omega)) ?_)));have F4:=F3.trans f4;refine(aV (xs++[kx]) (aY ?_ (by rw[aD,bZ];rfl) (λk a4=>?_) (by rw[bS,List.length_singleton];omega)))
  ·refine⟨λb o e y=>by rw[cO (dJ e O)];exact F4.1 b o e y,?_⟩
   obtain⟨p4,q4,aj⟩:=F4.2;exact(aI p4 q4 (by rw[cO (Ne.symm lf)];exact aj))
  ·rcases dD a4 with h |h
   ·exact M k h
   ·rw[cD h];exact ag
 rintro σ H3 ⟨xs,a0,rfl,F3,u,M,a2⟩;refine ao _ _ (aL λR4 an=>?_);obtain⟨p3,q3,a5⟩:=F3.2;refine(gW f' p3 q3 4 Z a5 (aA Z) (aA Z) (λr4 H4 ax aw f4=>(fJ ⟨aA Z,aA Z⟩ (an _ _ ?_))));have F4:=F3.trans f4;have g4:=g.fed F4;have C:=f4.1 _ _ u lf;have xl:(xs.map V.str).length=xs.length:=aM _;refine(gV l Z (.inl (zF C)) (eU Z ?_))
 obtain⟨N,hN,b4,b3⟩:∃N:Nat,(if ((xs.map V.str).length:Int)<5 then ((xs.map V.str).length:Int) else 5)=(N:Int)/\N<=5/\N<=xs.length:=by
  rw[xl];refine(dG ((if (xs.length:Int)<5 then (xs.length:Int) else 5).toNat) ?_ ?_ ?_) <;> split <;> omega
 rw[hN];refine(gH Z (jAA (by omega) (by omega) ?_));have tn:0<=r4 / 2/\r4 / 2<=1:=by omega
 obtain⟨tt,ae⟩:∃t:Nat,r4 / 2=(t:Int):=⟨(r4 / 2).toNat,by omega⟩;have ix:∀i:Nat,(18+((0+(i:Int))+r4 / 2)%6)=((18+(i+tt)%6:Nat):Int):=λi=>by rw[ae];omega
 refine Al (j:=0) (λi ys I=>Same H4 I/\∃bs:List (Str×Str),RelDs I ys (bs.map nJ)/\bs.length=i/\(∀(j:Nat) b,bs[j]?=some b->aa[18+(j+tt)%6]?=some b.1)/\∀b∈bs,KIn ks 6 b.2) (by rfl) ⟨Same.refl _,(cZ ([]) Z (eV (λj b h=>by simp at h) (λ_ h=>nomatch h)))⟩ (cL (by omega)) ?_ ?_
 ·rintro i ys H5 hi a9 ⟨s5,bs,a1,a8,G,a3⟩
  have g5:=g4.same s5;obtain⟨z,hz,az⟩:=g5.name (i:=18+(i+tt)%6) (by omega);have hx:i<xs.length:=by omega
  refine(gC (fO (fJ (by show(0:Int)<6;decide) (fO (eZ (zF g5.nl) (by rw[ix];exact az) ?_)))));refine(bJ (eN l ⟨.str xs[i],(cP (jAAA (zF (s5 _ _ C)) ?_ (aE Z) (λt ht=>nL hi a9 ?_)))⟩))
  ·rw[show(0+(i:Int))=(i:Int) by omega]
   exact cM (by rw[dA,cF hx];rfl)
  have st:=zA ht (.tup [.str z,.str xs[i]]);refine⟨s5.trans st,(cZ (bs++[(z,xs[i])]) ?_ (jAA (by rw[bS,List.length_singleton,a8]) (λj b y=>?_) (λb y=>?_)))⟩
  ·rw[bZ]
   exact(a1.same st _).append (aW (cY aD Z Z Z Z Z) Z)
  ·by_cases U:j<bs.length
   ·rw[List.getElem?_append_left U]at y
    exact G j b y
   ·have af:=(cV y).1
    rw[bS,List.length_singleton]at af;have e0:j=i:=by omega
    subst e0;rw[List.getElem?_append_right (by omega),a8,Nat.sub_self]at y;simp at y;subst y;exact hz
  ·rcases dD y with h |h
   ·exact a3 b h
   ·rw[cD h]
    exact(M _ (qY hx)).mono Y
 ·rintro ys H5 a9 ⟨s5,bs,a1,a8,G,a3⟩ D hD
  have sD:=zA hD (.lst ys);refine(aI D ys ⟨Z,.inl ⟨zF aD,λt ht=>?_⟩⟩);have st:=zA ht (.tup ys);have sA:=sD.trans st;refine q _ bs _ (F4.same (s5.trans sA)) (iP ys aD (a1.same sA _)) ⟨by omega,?_,λb y=>?_,λb y=>?_,a3⟩
  ·refine List.pairwise_iff_getElem.mpr λi j hi U b2 e=>?_
   rw[aM]at hi U;rw[List.getElem_map,List.getElem_map]at e;have h1:=G i _ (cF hi);have h2:=G j _ (cF U);rw[e]at h1;have:=g.ok.at18 (by omega) (by omega) h1 h2;omega
  ·obtain⟨j,U,e⟩:=oJ y
   have:=G j b (by rw[<- e];exact cF U);exact cJ this
  ·obtain⟨j,U,e⟩:=oJ y
   exact(gH (by omega) ⟨by omega,G j b (by rw[<- e];exact cF U)⟩)
def MkS(ms:List Str)(r:Row)(ms':List Str):Prop:=(cU r=none/\ms'=ms)\/∃(i:Nat) (h:i<ms.length),cU r=some ms[i]/\ms'=ms.eraseIdx i
def Pt(cs:List cR)(x:Str)(bs:List (Str×Str))(c y:Str):Prop:=∃ch∈cs,ch.1=c/\ch.2.2.1=x/\(y,ch.2.2.2)∈bs
def IntoAt(H:Hp)(cs:List cR)(x:Str)(bs:List (Str×Str))(w:V):Prop:=∃(b:Addr) (c y:Str),w=.ref b/\H b=some (.tup [.str c,.str y])/\Pt cs x bs c y
theorem IntoAt.tups{cs:List cR}{bs:List (Str×Str)}{w:V}(h:IntoAt H cs x bs w)(s:∀b vs,H b=some (.tup vs)->a b=some (.tup vs)):IntoAt a cs x bs w:=by
 obtain⟨b,c,y,e,f,r⟩:=h;exact(aI b c (dG y e (s _ _ f) r))
def mX{H:Hp}{us:List V}{bs:List (Str×Str)}(g:RelDs H us (bs.map nJ)){i:Nat}{v:V}(a:us[i]?=some v):∃(b:Addr) (p:Str×Str),bs[i]?=some p/\v=.ref b/\H b=some (.tup [.str p.1,.str p.2]):=by
 obtain⟨d,hd,rd⟩:=g.get a;rw[dA]at hd;obtain⟨c,e,rfl⟩:=dH hd;obtain⟨b,ws,rfl,f,_,_,rfl,rfl,_,_,rfl,rfl,rfl⟩:=rd;exact(aI b c ⟨e,Z,f⟩)
theorem Ny:∀(l:List Str) (i:Nat) (h:i<l.length),List.Perm (l[i]::l.eraseIdx i) l
 |a::l,0,_=>List.Perm.refl _
 |a::l,i+1,h=>by
  have:=Ny l i (by simpa using h);exact(List.Perm.swap ..).trans (List.Perm.cons a this)
def Xj{A ms:List Str}{i:Nat}(h:i<ms.length)(nd:(A++ms).Nodup):((A++[ms[i]])++ms.eraseIdx i).Nodup:=by
 rw[List.append_assoc];refine(List.Perm.nodup_iff ?_).mpr nd;exact List.Perm.append_left _ (Ny ms i h)
def Sb2(f m:Addr)(H H':Hp):Prop:=(∀b o,H b=some o->b≠f->b≠m->H' b=some o)/\∃p q:Int,H' f=some (.lst [.int p,.int q])
theorem Sb2.of{f m:Addr}(h:Fed f H a):Sb2 f m H a:=⟨λb o e n _=>h.1 b o e n,h.2⟩
def Sb2.same{f m:Addr}(h:Sb2 f m H c)(s:Same c a):Sb2 f m H a:=by
 obtain⟨r,p,q,l⟩:=h;exact⟨λb o e j g=>s _ _ (r b o e j g),(aI p q (s _ _ l))⟩
theorem Sb2.upd{f m:Addr}(h:Sb2 f m H c)(n:m≠f)(o:HO):Sb2 f m H (L2.upd c m o):=by
 obtain⟨l,p,q,j⟩:=h;exact⟨λb u e g a=>by rw[cO a];exact l b u e g a,(aI p q (by rw[cO (Ne.symm n)];exact j))⟩
structure DIn(H:Hp)(f:Addr)(kv cv bv:V)(ks:List Kn)(cs:List cR)(bs:List (Str×Str)):Prop where
 fd:∃p q:Int,H f=some (.lst [.int p,.int q])
 kd:RelD H kv (iO ks)
 wf:KWf ks
 pb:B0 ks
 cd:RelD H cv (.tup (cs.map fK))
 c6:cs.length<=6
 ck:∀c∈cs,KIn ks 6 c.2.2.2
 bd:RelD H bv (lG bs)
 b5:bs.length<=5
 bn:(bs.map (·.1)).Nodup
 bb:∀b∈bs,lE b.1
 bk:∀b∈bs,KIn ks 6 b.2
 k4:Fit ks
theorem DIn.keep{cs:List cR}{bs:List (Str×Str)}(d:DIn H f c e g ks cs bs)(s:∀b vs,H b=some (.tup vs)->a b=some (.tup vs))(h:∃p q:Int,a f=some (.lst [.int p,.int q])):DIn a f c e g ks cs bs:=
 ⟨h,d.kd.tups s _,d.wf,d.pb,d.cd.tups s _,d.c6,d.ck,d.bd.tups s _,d.b5,d.bn,d.bb,d.bk,d.k4⟩
def DIn.same{cs:List cR}{bs:List (Str×Str)}(d:DIn H f a b c ks cs bs)(s:Same H e):DIn e f a b c ks cs bs:=d.keep (Same.tups s) (by obtain⟨p,q,h⟩:=d.fd;exact(aI p q (s _ _ h)))
def DIn.fed{cs:List cR}{bs:List (Str×Str)}(d:DIn H f a b c ks cs bs)(s:Fed f H e):DIn e f a b c ks cs bs:=d.keep (cK d.fd s) s.2
def DIn.tin{cs:List cR}{bs:List (Str×Str)}(d:DIn H f e h j ks cs bs)(a:H b=none)(c:RelDs H us (bs.map nJ)):TIn (upd H b (.lst us)) f e (.ref b) ks bs:=by
 have s:=zA a (.lst us);have d':=d.same s;obtain⟨p,q,g⟩:=d.fd;exact⟨d'.fd,d'.kd,d.wf,(aI b us (aZ aD (c.same s _) (Ne.symm (dJ g a)))),d.bn,by have:=d.b5;omega,d.k4⟩
def Qj{k n:Nat}(h:k<n):seqIndex? (k:Int) n=some k:=by
 unfold seqIndex?;have:¬(k:Int)<0:=by omega
 simp only[if_neg this];rw[if_pos (by simp;omega),Int.toNat_natCast]
theorem Hm:∀(l:List Str) (i:Nat),(l.map V.str).eraseIdx i=(l.eraseIdx i).map V.str
 |[],i=>Z
 |a::l,0=>Z
 |a::l,i+1=>by
  rw[List.map_cons,List.eraseIdx_cons_succ,List.eraseIdx_cons_succ,List.map_cons,Hm l i]
def Aw(a:KWf ks)(c:Fit ks){bs:List (Str×Str)}{d:D}(b:KIn ks 6 x)(nd:(bs.map (·.1)).Nodup)(h:nE ks bs d x):nE ks bs d x:=h
def Bz:Sp:=λvs H Q _=>∃(f m:Addr) (kv cv bv:V) (ks:List Kn) (cs:List cR) (bs:List (Str×Str)) (x:Str) (ms:List Str),vs=[.ref f,kv,cv,.str x,bv,.ref m]/\DIn H f kv cv bv ks cs bs/\H m=some (.lst (ms.map V.str))/\m≠f/\ms.length<=100/\(∀z∈ms,Sh z) ∧
 ∀u r ms' H',Sb2 f m H H'->H' m=some (.lst (ms'.map V.str))->MkS ms r ms'->RelD H' u r.d->(∀n,fY ks cs x bs n r)->(∀b vs,H b=some (.tup vs)->H' b=some (.tup vs))->Q u H'
def Ww(T:Tx K mg)(a:DefIs P w K mg base n "_law_take" qab iW)(g:DefIs P w K mg base n "_law_new_term" qan A1):DefIs P w K mg base (n+1) "_law_deal" qav Bz:=by
 refine DefIs.of T.kU scl_deal (by walk_at"l") (λf cm A outer s H vs Q E hr h=>?_);obtain⟨O,ml,kv,cv,bv,ks,cs,bs,x,ms,rfl,d,b6,mf,cg,bi,q⟩:=h;have nd:=scl_deal.nd;have c6:=d.c6;have b5:=d.b5
 refine⟨_,(aF (aR 6 nd (pd a hr (va 0 (pc pI pN aG))))
   (aF (aR 7 nd (fU pN))
   (aF (fM zI Z (eJ (K:=K) Z (pv 2)) (fI (K:=K) Z Z (aX (bK 8 nd) (aX (bK 9 nd) (aX (bK 10 nd) (aX (bK 11 nd) fE)))))
   (po (aR 7 nd (aN mO (pv 7) (iT ["_law_x","_law_told","_law_c","_law_to","_law_h","_law_kind"] [none,none,some 8,some 10,some 3,some 11] Z (by kernel_rfl) (eJ (K:=K) Z (pv 4)) (λ_ _ _ _=>(fI (K:=K) (n:=2) Z Z (aX (dU 0) (aX (dU 1) fE)))) (λ_ _ _ _=>(pW (PW.pt (iF (pR bY (pv 3) (pv 4) (nM _)) (iQ (pR bY (pv 1) (pv 5) (nM _))))))) (λ_ _ _ _=>(aH (va 2 (v1 0)))))))))
   (aF (pB (i:=12) ["_law_c","_law_come","_law_to","_law_kind","_law_h"] [none,none,none,none,some 3] Z (by kernel_rfl) nd Z (by first |exact Or.inl Z |exact Or.inr rfl) (eJ (K:=K) Z (pv 2)) (λ_ _ _ _=>(fI (K:=K) (n:=4) Z Z (aX (dU 0) (aX (dU 1) (aX (dU 2) (aX (dU 3) fE)))))) (λ_ _ _ _=>(pW (pR bY (pv 1) (pv 4) (nM _)))) (λ_ _ _ _=>(aH (va 0 (v1 3)))))
   (aF (aT (PW.pt (iF (pR mR (pv 6) pI (nM _)) (iF (pR lK (bV (dM (K:=K) Z) Z T.uS zH (v1 7)) pI (nM _)) (iQ (pR lK (bV (dM (K:=K) Z) Z T.uS zH (v1 5)) pI (nM _)))))) (aF (mT (cC K (pv 7) (pd a hr (va 0 (pc (bV (dM (K:=K) Z) Z T.uS zH (v1 7)) pN bL)))) (fI (K:=K) Z Z (aX (bK 8 nd) (aX (bK 13 nd) fE))))
   (po (aS (aH (pc pS (pc (gM zG PySem.F.slot_list_pop PySem.F.type_list_pop Wt (pv 5) (pc (pd a hr (va 0 (pc (bV (dM (K:=K) Z) Z T.uS zH (v1 5)) pN bL))) pN bL)) (va 8 (v1 13)) bL) aG))))) pQ)
   (aF (aT (PW.pt (iF (pR mR (pv 6) pI (nM _)) (iQ (pR lK (bV (dM (K:=K) Z) Z T.uS zH (v1 12)) pI (nM _))))) (aF (mT (cC K (pv 12) (pd a hr (va 0 (pc (bV (dM (K:=K) Z) Z T.uS zH (v1 12)) pN bL)))) (fI (K:=K) Z Z (aX (bK 8 nd) (aX (bK 11 nd) fE))))
   (po (aS (aH (pc pS (va 8 (pc (pd g hr (va 0 (va 1 (pc (hH xK Z T.uT zP (v1 4)) (v1 11) bL)))) pN bL)) aG))))) pQ)
   (aF (aT (PW.pt (iF (pR mR (pv 6) pI (nM _)) (iQ (pR lK (bV (dM (K:=K) Z) Z T.uS zH (v1 4)) pI (nM _))))) (aF (mT (px K (pv 4) (pd a hr (va 0 (pc (bV (dM (K:=K) Z) Z T.uS zH (v1 4)) pN bL)))) (fI (K:=K) Z Z (aX (bK 13 nd) (aX (bK 11 nd) fE))))
   (po (aS (aH (pc pS (va 13 (pc (pd g hr (va 0 (va 1 (pc (hH xK Z T.uT zP (v1 4)) (v1 11) bL)))) pN bL)) aG))))) pQ)
   (po (aS (aH (pc pS (pc (pd g hr (va 0 (va 1 (pc (hH xK Z T.uT zP (v1 4)) (pc pS pN aG) bL)))) pN bL) aG))))))))))),aL λR1 c8=>?_⟩
 obtain⟨p0,q0,bq⟩:=d.fd;refine(gW O p0 q0 8 Z bq (aA Z) (aA Z) (λfm H1 cl cj f1=>c8 _ _ (aL λR2 c7=>?_)));have d1:=d.fed f1;have al:=f1.1 _ _ b6 mf;refine⟨aE Z,λl0 b8=>c7 _ _ (aL λco bc=>?_)⟩;have s0:=zA b8 (.lst []);obtain⟨ca,uc,c9,a4,ab⟩:=id d1.cd;subst c9;obtain⟨ba,ub,cb,J,hB⟩:=id d1.bd;subst cb;have bt:=ab.length;have o:=hB.length;rw[aM]at bt o;refine(fN ⟨_,zD (s0 _ _ a4)⟩ ?_)
 refine hJ (xs:=uc) (λi σ H'=>∃(l:Addr) (ws:List V) (o8 o9 a3 a2:Option V),σ=[some (.ref O),some kv,some (.ref ca),some (.str x),some (.ref ba),some (.ref ml),some (.int fm),some (.ref l),o8,o9,a3,a2,none,none]/\Same H1 H'/\H1 l=none/\H' l=some (.lst ws)/\(∀w∈ws,IntoAt H' cs x bs w)/\ws.length<=5*i)
  (fD l0 ([]) none none none none (dS s0 b8 aD (λ_ h=>nomatch h) (qX _))) (λi σ H' _ p=>?_) ?_ ?_
 ·obtain⟨_,_,_,_,_,_,_,sm,_⟩:=p
  exact zD (sm _ _ a4)
 ·rintro i v σ H2 hv ⟨l,ws,o8,o9,a3,a2,rfl,sm,hl,ar,a1,bh⟩
  obtain⟨b,c,hc,rfl,hb⟩:=rT ab hv;have hi:i<uc.length:=(cV hv).1;refine(gK (jAA (zD (sm _ _ hb)) Z (aK ⟨Z,(aK ⟨Z,(aK ⟨Z,(aW Z ?_)⟩)⟩)⟩)));refine(aC (fN ⟨_,zD (sm _ _ J)⟩ ?_));refine oA (xs:=ub) (λj ys H'=>Same H2 H'/\(∀w∈ys,IntoAt H' cs x bs w)/\ys.length<=j) (jAA (Same.refl _) (λ_ h=>nomatch h) (qD _)) (cL (by omega)) (λj ys H' _ p=>zD ((sm.trans p.1) _ _ J)) ?_ ?_
  ·rintro j y ys H3 hy hj U ⟨s2,C,an⟩
   obtain⟨b2,pb,aq,rfl,bu⟩:=mX hB hy;refine(iX (zD ((sm.trans s2) _ _ bu)) Z Z Z Z ⟨hV Z Z,?_⟩);refine(bJ (bP Z (aJ (λc1=>?_) (λc1=>cG (iK hj U (jAA s2 C (by omega)))))));refine(bJ (bP Z (aJ (λc2=>?_) (λc2=>iK hj U (jAA s2 C (by omega))))));refine(aC (bQ (aE Z) (λt ht=>eT hj U ?_)));have st:=zA ht (.tup [.str c.1,.str pb.1]);refine(jAA (s2.trans st) (λw I=>?_) (by rw[bS,List.length_singleton];omega));rcases dD I with I |I
   ·exact(C w I).tups (Same.tups st)
   ·rw[cD I]
    have e1:c.2.2.1=x:=V.str.inj (qE c1);have e2:pb.2=c.2.2.2:=V.str.inj (qE c2);exact(aP t c.1 pb.1 (eV aD (cZ c (cJ hc) (eV e1 (by rw[<- e2];exact cJ aq)))))
  ·rintro ys H3 U ⟨s2,C,an⟩ D hD
   have sD:=zA hD (.lst ys);have am:=s2.trans sD;refine(aI l D (aI ws ys (cP (jAAA (am _ _ ar) aD (aB (by omega)) (λl2 b7=>?_)))));have sl:=zA b7 (.lst (ws++ys));have ay:=am.trans sl;refine(aI l2 (ws++ys) (aK (aK (dS (sm.trans ay) (pZ (sm.trans am) b7) aD (λw I=>?_) (by rw[bS];omega)))));rcases dD I with I |I
   ·exact(a1 w I).tups (Same.tups ay)
   ·exact(C w I).tups (Same.tups (sD.trans sl))
 rintro σ H2 ⟨il,ws,o8,o9,a3,a2,rfl,s2,b9,ar,a1,bh⟩;refine bc _ _ (aL λR3 c4=>?_);have d2:=d1.same s2;have b4:=s2 _ _ al;have F2:Fed O H H2:=f1.same s2;have a4:=s2 _ _ a4;have ab:=ab.same s2 _;refine(fN ⟨_,zD a4⟩ ?_);refine oA (xs:=uc) (λi ys H'=>Same H2 H'/\(∀w∈ys,∃(b:Addr) (ch:cR),w=.ref b/\H' b=some (.tup [.str ch.1,.str ch.2.2.2])/\ch∈cs/\ch.2.1=x)/\ys.length<=i) (jAA (Same.refl _) (λ_ h=>nomatch h) (qD _)) (cL (by omega)) (λi ys H' _ p=>zD (p.1 _ _ a4)) ?_ ?_
 ·rintro i y ys H3 hy hi U ⟨s3,C,an⟩
  obtain⟨b,c,hc,rfl,hb⟩:=rT ab hy;refine(gK (jAA (zD (s3 _ _ hb)) Z (aK ⟨Z,(aK ⟨Z,(aK ⟨Z,(aK (jAAA Z Z (xW Z Z Z Z) ?_))⟩)⟩)⟩)));refine(bJ (bP Z (aJ (λc1=>?_) (λc1=>iK hi U (jAA s3 C (by omega))))));refine(aC (bQ (aE Z) (λt ht=>eT hi U ?_)));have st:=zA ht (.tup [.str c.1,.str c.2.2.2]);refine(jAA (s3.trans st) (λw I=>?_) (by rw[bS,List.length_singleton];omega));rcases dD I with I |I
  ·obtain⟨b',ch,e,bw,r⟩:=C w I
   exact(eO b' ch e (st _ _ bw) r)
  ·rw[cD I]
   exact(aI t c (aZ aD (cJ hc) (V.str.inj (qE c1))))
 rintro ys H3 U ⟨s3,C,an⟩ D hD;have sD:=zA hD (.lst ys);obtain⟨H4,ah⟩:∃H4,H4=upd H3 D (.lst ys):=⟨_,Z⟩;have ax:H4 D=some (.lst ys):=by rw[ah];exact aD
 rw[<- ah]at sD;have s4:=s3.trans sD;have d4:=d2.same s4;have F4:Fed O H H4:=F2.same s4;have a7:=s4 _ _ b4;have a8:=s4 _ _ ar;obtain⟨p1,q1,bb⟩:=f1.2;have bg:il≠O:=Ne.symm (dJ bb b9);have cf:il≠ml:=Ne.symm (dJ al b9);have Df:D≠O:=Ne.symm (dJ (s3 _ _ (s2 _ _ bb)) hD);obtain⟨p4,q4,a0⟩:=F4.2;have J:=(s2.trans s4) _ _ J;have ag:=hB.same (s2.trans s4) _;have ci:=o;have bf:(ms.map V.str).length=ms.length:=aM _;have aw:∀w∈ws,IntoAt H4 cs x bs w:=λw I=>(a1 w I).tups (Same.tups s4)
 have b1:∀w∈ys,∃(b:Addr) (ch:cR),w=.ref b/\H4 b=some (.tup [.str ch.1,.str ch.2.2.2])/\ch∈cs/\ch.2.1=x:=λw I=>by
  obtain⟨b,ch,e,hb,r⟩:=C w I;exact(eO b ch e (sD _ _ hb) r)
 rw[<- ah];clear ah a1 C
 have ac:∀{H5 H6:Hp} {u:V} {r:Row},Fed O H4 H5->Same H5 H6->cU r=none->RelD H6 u r.d->(∀n,fY ks cs x bs n r)->Q u H6:=λ{H5 H6 u r} M s6 bm hu bj=>by
  have F5:=(F4.trans M).same s6;exact q u r ms H6 (Sb2.of F5) (s6 _ _ (M.1 _ _ a7 mf)) (.inl ⟨bm,Z⟩) hu bj (cK d.fd F5)
 refine c4 _ _ (aL λR4 c0=>?_)
 have a5:R4 [some (.ref O),some kv,some (.ref ca),some (.str x),some (.ref ba),some (.ref ml),some (.int fm),some (.ref il),o8,o9,a3,a2,some (.ref D),none] H4:=by
  refine c0 _ _ (aL λR5 bz=>?_)
  have aj:R5 [some (.ref O),some kv,some (.ref ca),some (.str x),some (.ref ba),some (.ref ml),some (.int fm),some (.ref il),o8,o9,a3,a2,some (.ref D),none] H4:=by
   refine bz _ _ (aL λR6 bx=>?_)
   have ai:R6 [some (.ref O),some kv,some (.ref ca),some (.str x),some (.ref ba),some (.ref ml),some (.int fm),some (.ref il),o8,o9,a3,a2,some (.ref D),none] H4:=by
    refine bx _ _ ?_;refine(gC (eO ba ub Z (.inr (zD J)) (λbl o=>?_)));have sb:=zA o (.lst ub);refine(fD O kv (.ref bl) ks bs (S "num") (aZ (d4.tin o ag) (.inl Z) (λta td H5 M rd tb=>⟨aE Z,λt ht=>?_⟩)));have st:=zA ht (.tup [.str (S "tell"),.ref ta]);exact ac (r:=.tell td) (((Fed.refl a0).same sb).trans M) st Z (cY aD Z Z Z (rd.same st _) Z) λ_=>Aw d.wf d.k4 (.inl Z) d.bn tb
   refine(aC (fQ Z (aJ (λc1=>?_) (λc1=>cG ai))));refine(gV ba Z (.inr (zD J)) (fQ Z (aJ (λc2=>?_) (λc2=>ai))));have ak:=qE c2;refine aL λS1 aa=>?_;refine(bJ (gV ba Z (.inr (zD J)) (aI O p4 (aV q4 (aY a0 (by omega) (by omega) (λr5 H5 b0 az M=>?_))))));obtain⟨i5,rfl⟩:∃i:Nat,r5=(i:Int):=⟨r5.toNat,by omega⟩;have Y:i5<ub.length:=by omega
   have G:=cK (aI p4 q4 a0) M;obtain⟨ae,pb,aq,eb,a9⟩:=mX ag (cF Y);refine(eN ba (cZ (.ref ae) Z (jAAA Z (zD (G _ _ J)) (cM (by rw[cF Y,eb])) (iX (zD (G _ _ a9)) Z Z Z Z (aa _ _ ?_)))));have ao:=cJ aq;have d5:=d4.fed M;refine(gC (eP ba ub (eV (.inr (zD (G _ _ J))) (λbl o=>?_))));have sb:=zA o (.lst ub);refine(aC (fD O kv (.ref bl) ks bs pb.2 (aZ (d5.tin o (ag.tups G _)) (d.bk pb ao) (λta td H6 f6 rd tb=>⟨aE Z,λt ht=>?_⟩))));have st:=zA ht (.tup [.str (S "set"),.str pb.1,.ref ta]);exact ac (r:=.set pb.1 td) ((M.same sb).trans f6) st Z (fA aD (eM Z Z Z (rd.same st _) Z)) λ_=>(cZ pb.2 ao (Aw d.wf d.k4 (d.bk pb ao) d.bn tb))
  refine(aC (fQ Z (aJ (λc1=>?_) (λc1=>cG aj))));refine(gV D Z (.inl (zF ax)) (fQ Z (aJ (λc2=>?_) (λc2=>aj))));have ak:=qE c2;refine aL λS1 aa=>?_;refine(bJ (gV D Z (.inl (zF ax)) (aI O p4 (aV q4 (aY a0 (by omega) (by omega) (λr5 H5 b0 az M=>?_))))));obtain⟨i5,rfl⟩:∃i:Nat,r5=(i:Int):=⟨r5.toNat,by omega⟩;have Y:i5<ys.length:=by omega
  have G:=cK (aI p4 q4 a0) M;obtain⟨ae,ch,eb,a9,av,br⟩:=b1 _ (qY Y);refine(eN D (cZ (.ref ae) Z (jAAA Z (zF (M.1 _ _ ax Df)) (cM (by rw[cF Y,eb])) (iX (zD (G _ _ a9)) Z Z Z Z (aa _ _ ?_)))));have d5:=d4.fed M;refine(gC (eP ba ub (eV (.inr (zD (G _ _ J))) (λbl o=>?_))));have sb:=zA o (.lst ub);refine(aC (fD O kv (.ref bl) ks bs ch.2.2.2 (aZ (d5.tin o (ag.tups G _)) (d.ck ch av) (λta td H6 f6 rd tb=>⟨aE Z,λt ht=>?_⟩))));have st:=zA ht (.tup [.str (S "send"),.str ch.1,.ref ta]);exact ac (r:=.send ch.1 td) ((M.same sb).trans f6) st Z (fA aD (eM Z Z Z (rd.same st _) Z)) λ_=>(cZ ch av (eV br (Aw d.wf d.k4 (d.ck ch av) d.bn tb)))
 refine(aC (fQ Z (aJ (λc1=>?_) (λc1=>cG a5))));refine(gV il Z (.inl (zF a8)) (fQ Z (aJ (λc2=>?_) (λc2=>cG a5))));refine(gV ml Z (.inl (zF a7)) (fQ Z (aJ (λc3=>?_) (λc3=>a5))));have ak:=qE c2;have bo:=qE c3;refine aL λS1 aa=>?_;refine(bJ (gV il Z (.inl (zF a8)) (aI O p4 (aV q4 (aY a0 (by omega) (by omega) (λr5 H5 b0 az M=>?_))))));obtain⟨i5,rfl⟩:∃i:Nat,r5=(i:Int):=⟨r5.toNat,by omega⟩;have Y:i5<ws.length:=by omega
 have G:=cK (aI p4 q4 a0) M;obtain⟨ae,c5,y5,eb,a9,au⟩:=aw _ (qY Y);refine(eN il (cZ (.ref ae) Z (jAAA Z (zF (M.1 _ _ a8 bg)) (cM (by rw[cF Y,eb])) (iX (zD (G _ _ a9)) Z Z Z Z (aa _ _ ?_)))));have a6:=M.1 _ _ a7 mf;obtain⟨p5,q5,bp⟩:=M.2;refine(bQ (.inl (gR (zF a6))) ?_);refine(aC (gV ml Z (.inl (zF a6)) (aI O p5 (aV q5 (aY bp (by omega) (by omega) (λr6 H6 ce cc f6=>?_))))));obtain⟨i6,rfl⟩:∃i:Nat,r6=(i:Int):=⟨r6.toNat,by omega⟩;have af:i6<ms.length:=by omega
 have b3:=f6.1 _ _ a6 mf;refine(aV ml (aP (i6:Int) i6 (.str ms[i6]) (cP (jAA b3 (by omega) (jAAA (by omega) (Qj (by rw[bf];exact af)) (by rw[dA,cF af];rfl) ?_)))));have er:(ms.map V.str).eraseIdx i6=(ms.eraseIdx i6).map V.str:=Hm ms i6;rw[er];refine(aC (bQ (aE Z) (λt ht=>?_)));have st:=zA ht (.tup [.str (S "take"),.str ms[i6],.str c5,.str y5]);have F6:Fed O H H6:=F4.trans (M.trans f6);have sb:Sb2 O ml H (upd (upd H6 ml (.lst ((ms.eraseIdx i6).map V.str))) t (.tup [.str (S "take"),.str ms[i6],.str c5,.str y5])):=((Sb2.of F6).upd mf _).same st
 refine q _ (.take ms[i6] c5 y5) (ms.eraseIdx i6) _ sb (st _ _ aD) (.inr ⟨i6,af,Z,Z⟩) ⟨t,_,Z,aD,_,_,Z,Z,_,_,Z,Z,_,_,Z,Z,_,_,Z,Z,Z⟩ (λ_=>⟨bi _ (qY af),au⟩) λb vs e=>st _ _ (by
  rw[cO λz=>by rw[z,b6]at e;cases e];exact cK d.fd F6 b vs e)
def Xz{cs:List cR}{bs:List (Str×Str)}(h:fY ks cs x bs n r)(l:n<=a):fY ks cs x bs a r:=by
 cases r with
 |go g=>exact qM h l
 |cond t g=>exact⟨h.1,qM h.2 l⟩
 |_=>exact h
theorem MkS.nd(h:MkS b r a)(n:(A.filterMap cU++b).Nodup):((A++[r]).filterMap cU++a).Nodup:=by
 rcases h with⟨h,rfl⟩ |⟨i,hi,h,rfl⟩
 ·rw[List.filterMap_append,List.filterMap_cons,h,List.filterMap_nil,List.append_nil]
  exact n
 ·rw[List.filterMap_append,List.filterMap_cons,h,List.filterMap_nil]
  exact Xj hi n
def MkS.sub(h:MkS b r a):a.length<=b.length/\∀z∈a,z∈b:=by
 rcases h with⟨_,rfl⟩ |⟨i,hi,_,rfl⟩
 ·exact⟨qD _,λz hz=>hz⟩
 ·exact⟨by rw[List.length_eraseIdx];split <;> omega,λz hz=>List.mem_of_mem_eraseIdx hz⟩
def MkS.mem{A:List Row}{b a:List Str}{p:Str->Prop}(h:MkS b r a)(n:∀z∈A.filterMap cU++b,p z):∀z∈(A++[r]).filterMap cU++a,p z:=by
 intro z hz;rcases dD hz with hz |hz
 ·rw[List.filterMap_append]at hz
  rcases dD hz with hz |hz
  ·exact n z (zU _ hz)
  ·rcases h with⟨e,_⟩ |⟨i,hi,e,_⟩
   ·rw[List.filterMap_cons,e]at hz
    exact nomatch hz
   ·rw[List.filterMap_cons,e]at hz
    rw[cD hz];exact n _ (zM _ (qY hi))
 ·exact n z (zM _ (h.sub.2 z hz))
def Bg:Sp:=λvs H Q _=>∃(f nb:Addr) (kv cv bv:V) (ks:List Kn) (cs:List cR) (bs:List (Str×Str)) (x:Str) (nms:List Str),vs=[.ref f,kv,cv,.str x,bv,.ref nb]/\DIn H f kv cv bv ks cs bs/\H nb=some (.lst (nms.map V.str))/\NmsR nms/\nb≠f/\∀rv rs H',Fed f H H'->RelD H' rv (.tup (rs.map Row.d))->RowsG ks cs x bs rs->(∀z∈rs.filterMap cU,z∈nms)->rs.length<=10->Q rv H'
theorem Ti{a:List Str}(h:a.length=26):bI (a.map V.str) (some 20) (some 26)=((a.drop 20).take 6).map V.str:=by
 unfold bI HT.sIx;rw[aM,h,List.map_take,List.map_drop];rfl
def Up(F:Fed f H H1)(hl:H l=none)(lf:l≠f):Fed f H (upd H1 l o):=by
 obtain⟨h1,p,q,h2⟩:=F;exact⟨λb u e n=>by rw[cO (dJ e hl)];exact h1 b u e n,(aI p q (by rw[cO (Ne.symm lf)];exact h2))⟩
def Wy(T:Tx K mg)(a:DefIs P w K mg base n "_law_take" qab iW)(j:DefIs P w K mg base n "_law_new_term" qan A1)(O:DefIs P w K mg base n "_law_deal" qav Bz):DefIs P w K mg base (n+1) "_law_rows" qaw Bg:=by
 refine DefIs.of T.kW scl_rows (by walk_at"l") (λf d8 A outer s H vs Q E hr h=>?_);obtain⟨l,nb,kv,cv,bv,ks,cs,bs,x,Y,rfl,d,c9,b2,d1,q⟩:=h;have c4:=b2.len;have nd:=scl_rows.nd;have c6:=d.c6;have b5:=d.b5
 refine⟨_,(aF (aR 6 nd (hH xK Z T.uT zP (pc (gY rK (pv 5) (gE pI) (gE pI)) pN ss)))
   (aF (aR 7 nd (fU pN))
   (aF (aR 8 nd (aN eY pI (pd a hr (va 0 (pc pI pN aG)))))
   (aF (fM zI Z (oO Z T.uW (pc (aN pU (pv 8) pI) pN eI)) (bK 9 nd)
   (aF (aR 10 nd (pd a hr (va 0 (pc pI pN aG))))
   (po (aT (pR mR (pv 10) pI (nM _)) (aF (aR 11 nd (pd j hr (va 0 (va 1 (pc (hH xK Z T.uT zP (v1 4)) (pc pS pN aG) bL)))))
   (po (cT (gM zG zK zJ gZ (pv 7) (pc (aH (pc pS (va 11 (pc (pd a hr (va 0 (v1 8))) pN bL)) aG)) pN sT))))) (po (aT (pR bY (pv 10) pI (nM _)) (po (cT (gM zG zK zJ gZ (pv 7) (pc (cC K (fU (pc (aH (pc pS pN aG)) (pc (aH (pc pS (pc (pd a hr (va 0 (v1 8))) pN bL) aG)) pN sT) sT)) (pd a hr (va 0 (pc pI pN aG)))) pN ss)))) (po (cT (gM zG zK zJ gZ (pv 7) (pc (pd O hr (va 0 (va 1 (va 2 (va 3 (va 4 (v1 6))))))) pN bL))))))))))
   (aF (aT (pR lK (pd a hr (va 0 (pc pI pN aG))) pI (nM _)) (po (aS (aN (gX (K:=K) Z) (hH (mY (K:=K) Z) Z T.u6 zN (v1 7)) (aH (pc (aH (pc pS (pc (pd a hr (va 0 (v1 8))) pN bL) aG)) pN sT))))) pQ)
   (po (aS (aN (gX (K:=K) Z) (hH (mY (K:=K) Z) Z T.u6 zN (v1 7)) (aH (pc (aH (pc pS pN aG)) pN sT)))))))))),aL λR1 cl=>?_⟩
 obtain⟨p0,q0,b6⟩:=d.fd;refine(eF (lF (gB (zF c9) (λc0 cc=>?_))));rw[Ti c4];obtain⟨p,a0⟩:∃p,(Y.drop 20).take 6=p:=⟨_,Z⟩;have d4:p.length=6:=by rw[<- a0,List.length_take,List.length_drop,c4];rfl
 have ca:p.Nodup:=by
  rw[<- a0]
  have:(Y.drop 20).Sublist (Y.drop 18):=by
   rw[show Y.drop 20=(Y.drop 18).drop 2 by rw[List.drop_drop]];exact List.drop_sublist _ _
  exact b2.n18.sublist ((List.take_sublist _ _).trans this)
 have bo:∀z∈p,Sh z:=λz hz=>by
  rw[<- a0]at hz;exact iR (b2.nm z (List.mem_of_mem_drop (qW hz)))
 have bt:∀z∈p,z∈Y:=λz hz=>by
  rw[<- a0]at hz;exact List.mem_of_mem_drop (qW hz)
 rw[a0];have aw:=zA cc (.lst (p.map V.str));refine(aV c0 (eV (.inl (zF aD)) (λml aq=>cl _ _ (aL λR2 ck=>?_))));have bc:=zA aq (.lst (p.map V.str));refine⟨aE Z,λrl a4=>ck _ _ (aL λR3 cj=>?_)⟩;have bb:=zA a4 (.lst []);have s0:=aw.trans (bc.trans bb);obtain⟨H0,am⟩:∃H0,H0=upd (upd (upd H c0 (.lst (p.map V.str))) ml (.lst (p.map V.str))) rl (.lst []):=⟨_,Z⟩;have bq:H0 rl=some (.lst []):=by rw[am];exact aD
 have bu:H0 ml=some (.lst (p.map V.str)):=by rw[am];exact bb _ _ aD
 rw[<- am]at s0⊢;clear am;have bh:H ml=none:=pZ aw aq;have bf:H rl=none:=pZ (aw.trans bc) a4;have a6:ml≠l:=Ne.symm (dJ b6 bh);have U:rl≠l:=Ne.symm (dJ b6 bf);have be:rl≠ml:=λz=>by rw[z,aD]at a4;cases a4
 have F0:Fed l H H0:=(Fed.refl b6).same s0;obtain⟨pA,qA,cb⟩:=F0.2;refine(gW l pA qA 10 Z cb (aA Z) (aA Z) (λrm H1 cw cu f1=>(fO ?_)));obtain⟨many,b4,d5,cr⟩:∃many:Nat,1+rm=(many:Int)/\1<=many/\many<=10:=(dG ((1+rm).toNat) (by omega) (by omega) (by omega))
 suffices bi:R3 [some (.ref l),some kv,some cv,some (.str x),some bv,some (.ref nb),some (.ref ml),some (.ref rl),some (.int (many:Int)),none,none,none] H1 by
  rw[<- b4]at bi;exact bi
 refine cj _ _ (aL λR4 ci=>?_);refine(aC (fQ Z (jAA (by omega) (by omega) ?_)))
 refine vM (λi σ H'=>∃us,∃(rs:List Row) (ms:List Str) (o9 M J:Option V),σ=[some (.ref l),some kv,some cv,some (.str x),some bv,some (.ref nb),some (.ref ml),some (.ref rl),some (.int many),o9,M,J]/\Fed l H H'/\H' rl=some (.lst us)/\RelDs H' us (rs.map Row.d)/\rs.length=i/\(∀r∈rs,fY ks cs x bs many r)/\H' ml=some (.lst (ms.map V.str))/\ms.length<=6/\(∀z∈ms,Sh z)/\(rs.filterMap cU++ms).Nodup/\∀z∈rs.filterMap cU++ms,z∈Y)
  (fD ([]) ([]) p none none none (aY (F0.trans f1) (f1.1 _ _ bq U) Z (eX (λ_ h=>nomatch h) (f1.1 _ _ bu a6) (by omega) bo ca (λz hz=>bt z hz)))) ?_ ?_
 ·rintro i σ H2 hi ⟨us,rs,ms,o9,M,J,rfl,F2,ag,a7,an,af,ao,br,ah,ai,b3⟩
  have d2:=d.keep (cK d.fd F2) F2.2;obtain⟨p2,q2,al⟩:=F2.2;have ay:=a7.length;rw[aM]at ay
  have put:∀{H5:Hp} {u:V} {r:Row} {aa:List Str} (M J:Option V),Fed l H H5->H5 rl=some (.lst us)->RelDs H5 us (rs.map Row.d)->RelD H5 u r.d->fY ks cs x bs many r->H5 ml=some (.lst (aa.map V.str))->MkS ms r aa->
    (λi σ H'=>∃us,∃(rs:List Row) (ms:List Str) (o9 M J:Option V),σ=[some (.ref l),some kv,some cv,some (.str x),some bv,some (.ref nb),some (.ref ml),some (.ref rl),some (.int many),o9,M,J]/\Fed l H H'/\H' rl=some (.lst us)/\RelDs H' us (rs.map Row.d)/\rs.length=i/\(∀r∈rs,fY ks cs x bs many r)/\H' ml=some (.lst (ms.map V.str))/\ms.length<=6/\(∀z∈ms,Sh z)/\(rs.filterMap cU++ms).Nodup/\∀z∈rs.filterMap cU++ms,z∈Y) (i+1) [some (.ref l),some kv,some cv,some (.str x),some bv,some (.ref nb),some (.ref ml),some (.ref rl),some (.int many),some (.int (0+(i:Int))),M,J] (upd H5 rl (.lst (us++[u]))):=λ{H5 u r aa} M J F5 c a1 hu b0 bw a8=>by
   have tp:∀b vs,H5 b=some (.tup vs)->upd H5 rl (.lst (us++[u])) b=some (.tup vs):=λb vs e=>by
    rw[cO λz=>by rw[z,c]at e;cases e];exact e
   refine(aI (us++[u]) (rs++[r]) (aV aa (aI M J (aY (Up F5 bf U) aD ?_ (jAAA (by rw[bS,List.length_singleton,an]) (λr' b1=>?_) (by rw[cO (Ne.symm be)];exact bw) (jAAA (by have:=a8.sub.1;omega) (λz hz=>ah z (a8.sub.2 z hz)) (a8.nd ai) (a8.mem b3)))))))
   ·rw[bZ]
    exact(a1.tups tp _).append (aW (hu.tups tp _) Z)
   ·rcases dD b1 with h |h
    ·exact af r' h
    ·rw[cD h];exact b0
  refine aL λS1 cf=>?_;refine(gW l p2 q2 16 Z al (aA Z) (aA Z) (λfm H3 d7 d6 f3=>cf _ _ ?_));have F3:=F2.trans f3;have d3:=d2.fed f3;have c5:=cK d2.fd f3;have I:=f3.1 _ _ ag U;have a5:=f3.1 _ _ ao a6;have a2:=a7.tups c5 _;obtain⟨p3,q3,ak⟩:=F3.2;obtain⟨ba,ub,cp,cd,cg⟩:=id d3.bd;refine(aC (fQ Z (aJ (λc1=>?_) (λc1=>?_))))
  ·
   refine aL λS2 ce=>?_;refine(gC (eO ba ub (congrArg (λv=>[v]) cp) (.inr (zD cd)) (λbl au=>?_)));have sb:=zA au (.lst ub);refine(fD l kv (.ref bl) ks bs (S "num") (aZ (d3.tin au cg) (.inl Z) (λta td H4 f4 rd tb=>ce _ _ ?_)));have a9:Fed l H3 H4:=((Fed.refl ak).same sb).trans f4;have b9:=cK d3.fd a9;have a3:=a9.1 _ _ I U;obtain⟨p4,q4,c3⟩:=f4.2;refine(bQ (.inl (gR (zF a3))) ?_);refine(bJ (gW l p4 q4 many Z c3 (by omega) (by omega) (λg H5 g0 g1 f5=>⟨aE Z,λt ht=>?_⟩)));obtain⟨gn,rfl⟩:∃i:Nat,g=(i:Int):=⟨g.toNat,by omega⟩;have st:=zA ht (.tup [.str (S "if"),.ref ta,.int gn]);have y:=(a9.trans f5).same st;have av:=cK d3.fd y;have c:=y.1 _ _ I U;refine(iA us Z c (cL (by omega)) ?_);exact put (r:=.cond td gn) _ _ (F3.trans y) c (a2.tups av _) (fA aD (eM Z ((rd.tups (cK (aI p4 q4 c3) f5) _).same st _) Z Z Z)) ⟨Aw d.wf d.k4 (.inl Z) d.bn tb,by omega⟩ (y.1 _ _ a5 a6) (.inl ⟨Z,Z⟩)
  ·refine(dE Z Z (aJ (λc2=>?_) (λc2=>?_)))
   ·
    refine(bQ (.inl (gR (zF I))) ?_);refine⟨aE Z,λt1 ae=>?_⟩;have s1:=zA ae (.tup [.str (S "end")]);refine(aC (gW l p3 q3 many Z (s1 _ _ ak) (by omega) (by omega) (λg H4 g0 g1 f4=>⟨aE Z,λt2 ac=>⟨aE Z,λll bz=>?_⟩⟩)));obtain⟨gn,rfl⟩:∃i:Nat,g=(i:Int):=⟨g.toNat,by omega⟩;have s2:=zA ac (.tup [.str (S "go"),.int gn]);have s3:=zA bz (.lst [.ref t1,.ref t2]);have a9:Fed l H3 _:=(((Fed.refl ak).same s1).trans f4).same (s2.trans s3);obtain⟨p5,q5,aj⟩:=a9.2
    have c8:ll≠l:=by
     obtain⟨p6,q6,h6⟩:=f4.2;exact Ne.symm (dJ (s2 _ _ h6) bz)
    refine(gW l p5 q5 2 Z aj (aA Z) (aA Z) (λr2 H5 d0 cz f5=>?_));have y:=a9.trans f5;have c:=y.1 _ _ I U;have bm:H4 t1=some (.tup [.str (S "end")]):=cK (aI p3 q3 (s1 _ _ ak)) f4 _ _ aD;have b7:=cK (aI p5 q5 aj) f5;have co:=b7 _ _ ((s2.trans s3) _ _ bm);have cm:=b7 _ _ (s3 _ _ aD);have ar:=f5.1 _ _ aD c8;have c7:r2=0\/r2=1:=by omega
    rcases c7 with rfl |rfl
    ·refine(eN ll ⟨.ref t1,(cP ⟨zF ar,Z,(iA us Z c (cL (by omega)) ?_)⟩)⟩)
     exact put (r:=.fin) _ _ (F3.trans y) c (a2.tups (cK d3.fd y) _) (gB co (aW Z Z)) trivial (y.1 _ _ a5 a6) (.inl ⟨Z,Z⟩)
    ·refine(eN ll ⟨.ref t2,(cP ⟨zF ar,Z,(iA us Z c (cL (by omega)) ?_)⟩)⟩)
     exact put (r:=.go gn) _ _ (F3.trans y) c (a2.tups (cK d3.fd y) _) (cY cm Z Z Z Z Z) (by show gn<many;omega) (y.1 _ _ a5 a6) (.inl ⟨Z,Z⟩)
   ·
    refine(bQ (.inl (gR (zF I))) ?_);refine(bJ (gC (eP l ml (aI kv cv (fD bv ks cs bs x ms (eX d3 a5 a6 (by omega) ah (λu r aa H4 ax bx a8 hu b0 b9=>?_)))))));have a3:=ax.1 _ _ I U be;have F4:Fed l H H4:=⟨λb o e bg=>ax.1 b o (F3.1 b o e bg) bg (dJ e bh),ax.2⟩;refine(iA us Z a3 (cL (by omega)) ?_);exact put (r:=r) _ _ F4 a3 (a2.tups b9 _) hu (b0 many) bx a8
 rintro σ H2 ⟨us,rs,ms,o9,M,J,rfl,F2,ag,a7,an,af,ao,br,ah,ai,b3⟩;have cq:rs.length<=9:=by omega
 have d2:=d.keep (cK d.fd F2) F2.2;have ay:=a7.length;rw[aM]at ay;refine ci _ _ (aL λR7 ch=>?_);obtain⟨p4,q4,al⟩:=F2.2;have bj:=a7.length;rw[aM]at bj;refine(gW l p4 q4 4 Z al (aA Z) (aA Z) (λr4 H5 cy cx f5=>(fQ Z ?_)));have av:=cK (aI p4 q4 al) f5;have F5:=F2.trans f5;have c:=f5.1 _ _ ag U;have a1:=a7.tups av _
 have fin:∀{H6 H7:Hp} {tr tl:Addr} {v:V} {r:Row},Fed l H H6->Same H6 H7->H6 tr=some (.tup us)->RelDs H6 us (rs.map Row.d)->RelD H6 v r.d->r.ends->fY ks cs x bs (rs.length+1) r->H7 tl=some (.tup (us++[v]))->Q (.ref tl) H7:=λ{H6 H7 tr tl v r} F6 s7 _ C hv he bp ab=>by
  refine q (.ref tl) (rs++[r]) H7 (F6.same s7) (gB ab ?_) ⟨by rw[bS,List.length_singleton];omega,λr' b1=>?_,(cZ r (by simp) he),?_⟩ ?_ (by rw[bS,List.length_singleton];omega)
  ·rw[bZ]
   exact(C.same s7 _).append (aW (hv.same s7 _) Z)
  ·rw[bS,List.length_singleton]
   rcases dD b1 with h |h
   ·exact Xz (af r' h) (by omega)
   ·rw[cD h];exact bp
  ·have e:cU r=none:=by
    cases r with
    |take _ _ _=>exact he.elim
    |_=>rfl
   rw[List.filterMap_append,List.filterMap_cons,e,List.filterMap_nil,List.append_nil];exact(List.nodup_append.mp ai).1
  ·have e:cU r=none:=by
    cases r with
    |take _ _ _=>exact he.elim
    |_=>rfl
   rw[List.filterMap_append,List.filterMap_cons,e,List.filterMap_nil,List.append_nil];exact λz hz=>b3 z (zU _ hz)
 refine aJ (λc1=>?_) (λc1=>?_)
 ·refine(eP rl us ⟨Z,.inl ⟨zF c,λtr az=>?_⟩⟩)
  have sr:=zA az (.tup us);obtain⟨p5,q5,aj⟩:=f5.2;refine(aC (gW l p5 q5 many Z (sr _ _ aj) (by omega) (by omega) (λg H6 g0 g1 f6=>⟨aE Z,λt1 ae=>⟨aE Z,λt2 ac=>?_⟩⟩)));obtain⟨gn,rfl⟩:∃i:Nat,g=(i:Int):=⟨g.toNat,by omega⟩;have s1:=zA ae (.tup [.str (S "go"),.int gn]);have s2:=zA ac (.tup [.ref t1]);have b8:=cK (aI p5 q5 (sr _ _ aj)) f6;have F6:Fed l H _:=((F5.same sr).trans f6).same (s1.trans s2);have G:=(s1.trans s2) _ _ (b8 _ _ aD);have C:=((a1.same sr _).tups b8 _).same (s1.trans s2) _;have hv:RelD (upd (upd H6 t1 (.tup [.str (S "go"),.int gn])) t2 (.tup [.ref t1])) (.ref t1) (Row.go gn).d:=(cY (s2 _ _ aD) Z Z Z Z Z);refine(aI tr t2 (aK (cP (jAA (zD G) (zD aD) (jAAA (aB (by rw[List.length_singleton];omega)) (λe=>?_) (λ_ e=>nomatch e) (λ_ _ tl ab=>?_))))))
  ·exact fin F6 (Same.refl _) G C hv trivial (by show gn<_;omega) (by rw[aD,e];rfl)
  ·have s7:=zA ab (.tup (us++[.ref t1]))
   exact fin F6 s7 G C hv trivial (by show gn<_;omega) aD
 ·refine ch _ _ ?_
  refine(eP rl us ⟨Z,.inl ⟨zF c,λtr az=>?_⟩⟩);have sr:=zA az (.tup us);refine⟨aE Z,λt1 ae=>⟨aE Z,λt2 ac=>?_⟩⟩;have s1:=zA ae (.tup [.str (S "end")]);have s2:=zA ac (.tup [.ref t1]);have sA:=sr.trans (s1.trans s2);have F6:Fed l H _:=F5.same sA;have G:=(s1.trans s2) _ _ (show upd H5 tr (.tup us) tr=some (.tup us) from aD);have C:=a1.same sA _;have hv:RelD (upd (upd (upd H5 tr (.tup us)) t1 (.tup [.str (S "end")])) t2 (.tup [.ref t1])) (.ref t1) Row.fin.d:=(gB (s2 _ _ aD) (aW Z Z));refine(aI tr t2 (aK (cP (jAA (zD G) (zD aD) (jAAA (aB (by rw[List.length_singleton];omega)) (λe=>?_) (λ_ e=>nomatch e) (λ_ _ tl ab=>?_))))))
  ·exact fin F6 (Same.refl _) G C hv trivial trivial (by rw[aD,e];rfl)
  ·have s7:=zA ab (.tup (us++[.ref t1]))
   exact fin F6 s7 G C hv trivial trivial aD
structure NIn(H:Hp)(nb:Addr)(nms:List Str):Prop where
 nl:H nb=some (.lst (nms.map V.str))
 ok:NmsR nms
 nby:∀z∈nms,lE z
def NIn.same(g:NIn H b a)(s:Same H c):NIn c b a:=⟨s _ _ g.nl,g.ok,g.nby⟩
theorem NIn.name{H:Hp}{b:Addr}{a:List Str}(g:NIn H b a){i:Nat}(h:i<26):∃z,a[i]?=some z/\fG (a.map V.str) (i:Int)=some (.str z):=by
 have c:=g.ok.len;exact(cZ (a[i]'(by omega)) (cF _) (cM (by rw[dA,cF (by omega)];rfl)))
structure HandN(nms:List Str)(h:Hand):Prop where
 bx:∀b∈h.boxes,∃i,18<=i/\i<24/\nms[i]?=some b.1
 mr:∀z∈h.rows.filterMap cU,z∈nms
 r10:h.rows.length<=10
structure MkW(nms:List Str)(mk:Mak):Prop where
 k4:mk.kinds.length<=4
 kn:mk.kinds.map Kn.name=nms.take mk.kinds.length
 c5:mk.chans.length<=5
 cn:mk.chans.map (·.1)=(nms.drop 12).take mk.chans.length
 ne:mk.hands≠[]
 hn:mk.hands.map Hand.name=nms.take mk.hands.length
 c1:1<=mk.chans.length
 hb:∀h∈mk.hands,HandN nms h
 kp:∀k∈mk.kinds,∀p∈k.parts,p.1∈nms
def Cv(K:Fg):Sp:=λvs H Q _=>∃(a nb:Addr) (ns:List Int) (at_ many:Nat) (kv cv:V) (ks:List Kn) (cs:List cR) (nms:List Str),vs=[.ref a,.int at_,kv,cv,.int many,.ref nb]/\SqL K H a (ns.map V.int)/\ns.length<=63/\NIn H nb nms/\RelD H kv (iO ks)/\KWf ks/\B0 ks/\ks.length<=4/\Fit ks/\RelD H cv (.tup (cs.map fK))/\ChsOk ks nms many cs/\1<=many/\many<=4 ∧
 ∀v mk H',Same H H'->RelD H' v mk.d->MakG mk->mk.hands.map Hand.name=nms.take many->mk.chans=cs->mk.kinds=ks->(∀h∈mk.hands,HandN nms h)->Q v H'
def C2(K:Fg):Sp:=λvs H Q _=>∃(a nb:Addr) (ns:List Int) (at_:Nat) (nms:List Str),vs=[.ref a,.int at_,.ref nb]/\SqL K H a (ns.map V.int)/\ns.length<=63/\NIn H nb nms ∧
 ∀v mk H',Same H H'->RelD H' v mk.d->MakG mk->MkW nms mk->Q v H'
def Uu{cs:List cR}{bs:List (Str×Str)}(c:NmsR a)(e:x∈a)(b:BsOk ks a bs)(r:RowsG ks cs x bs rs):HandG ks cs ⟨x,bs,rs⟩:=⟨iR (c.nm x e),b.nd,b.len,λp f=>iR (c.nm _ (b.nm p f)),b.kin,r⟩
def Xq(T:Tx K mg)(y:DefIs P w K mg base n "_law_feed" qam (A0 K))(u:DefIs P w K mg base n "_law_boxes" qa9 Gp)(x:DefIs P w K mg base n "_law_rows" qaw Bg):DefIs P w K mg base (n+1) "_law_hands" qay (Cv K):=by
 refine DefIs.of T.kY scl_hands (by walk_at"l") (λf b0 A outer s H vs Q E hr h=>?_);obtain⟨a,nb,ns,av,many,kv,cv,ks,cs,j,rfl,hS,ar,g,hk,wf,pb,aw,Y,hc,p,h1,h4,q⟩:=h;have nd:=scl_hands.nd;have ay:=g.ok.len
 refine⟨_,(aF (aR 6 nd (fU pN))
   (aF (fM zI Z (oO Z T.uW (v1 4)) (bK 7 nd)
   (aF (aR 8 nd (pd y hr (va 0 (pc (aN eY (pv 1) (pv 7)) pN eI))))
   (aF (aR 9 nd (pd u hr (va 8 (va 2 (va 3 (pc (cC K (pv 5) (pv 7)) (v1 5) ss))))))
   (po (cT (gM zG zK zJ gZ (pv 6) (pc (aH (pc (cC K (pv 5) (pv 7)) (va 9 (pc (pd x hr (va 8 (va 2 (va 3 (pc (cC K (pv 5) (pv 7)) (va 9 (v1 5)) ss))))) pN bL)) ss)) pN sT)))))))
   (po (aS (aH (va 2 (va 3 (pc (hH (mY (K:=K) Z) Z T.u6 zN (v1 6)) pN bL)))))))),aL λR1 aq=>?_⟩
 refine⟨aE Z,λl hl=>aq _ _ (aL λR2 ao=>?_)⟩;have s0:=zA hl (.lst []);refine(eF (aZ (by omega) (by omega) ?_))
 refine vM (λi σ H'=>∃us,∃(hs:List Hand) (o7 o8 o9:Option V),σ=[some (.ref a),some (.int av),some kv,some cv,some (.int many),some (.ref nb),some (.ref l),o7,o8,o9]/\Same H H'/\H' l=some (.lst us)/\RelDs H' us (hs.map Hand.d)/\hs.length=i/\hs.map Hand.name=j.take i/\(∀h∈hs,HandG ks cs h)/\∀h∈hs,HandN j h)
  (aI ([]) ([]) (aP none none none (aY s0 aD Z (cP ⟨(λ_ h=>nomatch h),(λ_ h=>nomatch h)⟩)))) ?_ ?_
 ·rintro i σ H1 hi ⟨us,hs,o7,o8,o9,rfl,s1,U,O,aa,I,a1,a2⟩
  have ax:i<4:=by omega
  have e0:(0+(i:Int))=(i:Int):=by omega
  have af:=O.length;rw[aM]at af;refine aL λS1 an=>?_;refine(gC (fO (aI a ns (gH Z (jAAA (s1.seq hS) ar (by omega) (λr p1 q1 nr=>an _ _ (aL λS2 am=>?_)))))));have sr:=zA nr (.lst [.int p1,.int q1]);obtain⟨H2,a3⟩:∃H2,H2=upd H1 r (.lst [.int p1,.int q1]):=⟨_,Z⟩;have ak:H2 r=some (.lst [.int p1,.int q1]):=by rw[a3];exact aD
  rw[<- a3]at sr⊢;clear a3;have M:=s1.trans sr;have g2:=g.same M;have a6:nb≠r:=dJ (g.same s1).nl nr;have lr:l≠r:=dJ U nr;obtain⟨z,hz,az⟩:=g2.name (i:=i) (by omega);have a4:fG (j.map V.str) (0+(i:Int))=some (.str z):=by rw[e0];exact az
  have G2:GIn H2 r nb kv ks j:=⟨(aI p1 q1 ak),g2.nl,g.ok,a6,g.nby,hk.same M _,wf,pb⟩;refine(bJ (gC (eZ (zF g2.nl) a4 (eP r nb (fD kv cv ks j cs z (dS G2 (hc.same M _) p.len p.kin (λbv bs H3 f3 ab G=>am _ _ ?_)))))));have G3:=G2.fed f3;have ac:=cK G2.fd f3;have a9:=f3.1 _ _ (sr _ _ U) lr;have d3:DIn H3 r kv cv bv ks cs bs:=⟨G3.fd,G3.kd,wf,pb,(hc.same M _).tups ac _,p.len,λc C=>(p.kin c C).mono wf.few,ab,G.len,G.nd,λb hb=>g.nby _ (G.nm b hb),G.kin,Y⟩;refine(bQ (.inl (gR (zF a9))) ?_);refine(bJ (eZ (zF G3.nl) a4 (aC ?_)));refine(bJ (gC (eZ (zF G3.nl) a4 (aC (eP r nb (aI kv cv (fD bv ks cs bs z j (dS d3 G3.nl g.ok a6 (λrv rs H4 f4 ah ai aj a7=>⟨aE Z,λt ht=>?_⟩)))))))));have st:=zA ht (.tup [.str z,bv,rv]);have au:=f3.trans f4;have a8:=f4.1 _ _ a9 lr;have ae:Same H1 H4:=Fed.back nr sr au;refine(iA us Z (st _ _ a8) (cL (by omega)) ?_);have a5:=ae.trans st
  have J:∀b vs,upd H4 t (.tup [.str z,bv,rv]) b=some (.tup vs)->upd (upd H4 t (.tup [.str z,bv,rv])) l (.lst (us++[.ref t])) b=some (.tup vs):=λb vs e=>by
   rw[cO λz=>by rw[z,st _ _ a8]at e;cases e];exact e
  refine(aI (us++[.ref t]) (hs++[⟨z,bs,rs⟩]) (aK (bU (λb o e=>?_) (jAA aD ?_ (jAAA (by rw[bS,List.length_singleton,aa]) ?_ (λh hh=>?_) (λh hh=>?_))))))
  ·rw[cO (dJ e hl)]
   exact a5 _ _ (s1 _ _ e)
  ·rw[bZ]
   refine((O.same a5 _).tups J _).append (aW ?_ Z);exact(fA (J _ _ aD) (eM Z (((ab.tups (cK G3.fd f4) _).same st _).tups J _) Z ((ah.same st _).tups J _) Z))
  ·rw[bZ,I,gA,hz]
   rfl
  ·rcases dD hh with h' | h'
   ·exact a1 h h'
   ·rw[cD h']
    exact Uu g.ok (cJ hz) G ai
  ·rcases dD hh with h' | h'
   ·exact a2 h h'
   ·rw[cD h']
    exact⟨G.n18,aj,a7⟩
 ·rintro σ H1 ⟨us,hs,o7,o8,o9,rfl,s1,U,O,aa,I,a1,a2⟩
  refine ao _ _ ?_;refine(bJ (eP l us ⟨Z,.inl ⟨zF U,λt ht=>⟨aE Z,λt2 ag=>?_⟩⟩⟩));have st:=zA ht (.tup us);have a0:=zA ag (.tup [kv,cv,.ref t]);have sA:=s1.trans (st.trans a0)
  have al:(cs.map (·.1)).Nodup:=by
   rw[p.nm]
   have:((j.drop 12).take cs.length).Sublist ((j.drop 12).take 6):=by
    have h6:=p.len;rw[show(j.drop 12).take cs.length=((j.drop 12).take 6).take cs.length by rw[List.take_take,Nat.min_eq_left h6]];exact List.take_sublist _ _
   exact g.ok.n12.sublist this
  refine q _ ⟨ks,cs,hs⟩ _ sA (fA aD (eM (hk.same sA _) (hc.same sA _) Z (iP us (a0 _ _ aD) (O.same (st.trans a0) _)) Z)) ⟨wf,Y,al,(by have:=p.len;show cs.length<=7;omega),(λc C=>?_),(λc C=>(p.kin c C).mono wf.few),(λc C=>?_),?_,by show hs.length<=4;omega,a1⟩ ?_ Z Z a2
  ·have hm:c.1∈cs.map (·.1):=qP C
   rw[p.nm]at hm;exact iR (g.ok.nm _ (List.mem_of_mem_drop (qW hm)))
  ·show c.2.1∈hs.map Hand.name/\c.2.2.1∈hs.map Hand.name
   rw[I];exact p.ends c C
  ·show(hs.map Hand.name).Nodup
   rw[I]
   have:(j.take many).Sublist (j.take 8):=by
    rw[show j.take many=(j.take 8).take many by rw[List.take_take,Nat.min_eq_left (by omega)]];exact List.take_sublist _ _
   exact g.ok.n0.sublist this
  ·exact I
def Wx(T:Tx K mg)(b:DefIs P w K mg base n "_law_feed" qam (A0 K))(u:DefIs P w K mg base n "_law_take" qab iW)(l:DefIs P w K mg base n "_law_kinds" qa7 L9)(c:DefIs P w K mg base n "_law_channels" qa8 Ih)(o:DefIs P w K mg base n "_law_hands" qay (Cv K)):DefIs P w K mg base (n+1) "_law_make" qax (C2 K):=by
 refine DefIs.of T.kX scl_make (by walk_at"l") (λf an A outer s H vs Q E hr h=>?_);obtain⟨a,I,ns,x,y,rfl,hS,a0,g,q⟩:=h;have nd:=scl_make.nd
 refine⟨_,(aF (aR 3 nd (pd l hr (pc (pd b hr (va 0 (v1 1))) (v1 2) bL)))
   (aF (aR 4 nd (pd b hr (va 0 (pc (aN eY (pv 1) pI) pN eI))))
   (aF (aR 5 nd (aN eY pI (pd u hr (va 4 (pc pI pN aG)))))
   (po (aS (pd o hr (va 0 (pc (aN eY (pv 1) pI) (va 3 (pc (pd c hr (va 4 (va 3 (va 2 (v1 5))))) (va 5 (v1 2)) bL)) eI)))))))),aL λR1 ak=>?_⟩
 refine(bJ (aP a ns x (aY hS a0 (by omega) (λr p1 q1 nr=>?_))));have sr:=zA nr (.lst [.int p1,.int q1]);have g1:=g.same sr;have a9:I≠r:=dJ g.nl nr;refine(eP r I (aP p1 q1 y (dS aD g1.nl g.ok a9 (λkv ks H1 f1 a6 ac a7=>ak _ _ (aL λR2 aj=>?_)))));have s1:Same H H1:=Fed.back nr sr f1;obtain⟨wf,h4,ae,ab⟩:=ac
 have a2:∀k∈ks,∀p∈k.parts,p.1∈y:=λk hk p hp=>by
  have h9:=(ab k hk).2;have a8:p.1∈k.parts.map (·.1):=qP hp;rw[h9]at a8;exact List.mem_of_mem_drop (qW (qW a8))
 have pb:B0 ks:=λk hk p hp j=>g.nby _ (a2 k hk p hp) j;refine(bJ (fO (aI a ns (gH Z (jAAA (s1.seq hS) a0 (by omega) (λr2 p2 q2 C=>aj _ _ (aL λR3 ai=>?_)))))));have O:=zA C (.lst [.int p2,.int q2]);have g2:=(g.same s1).same O;have a3:I≠r2:=dJ (g.same s1).nl C;refine(gW r2 p2 q2 4 Z aD (aA Z) (aA Z) (λhm H3 am al f3=>(fO ?_)));obtain⟨many,Y,M,J⟩:∃many:Nat,1+hm=(many:Int)/\1<=many/\many<=4:=(dG ((1+hm).toNat) (by omega) (by omega) (by omega))
 suffices a4:R3 [some (.ref a),some (.int x),some (.ref I),some kv,some (.ref r2),some (.int (many:Int))] H3 by
  rw[<- Y]at a4;exact a4
 refine ai _ _ ?_;have U:Same H1 H3:=Fed.back C O f3;have g3:=(g.same s1).same U;have s3:=s1.trans U;have aa:=f3.2;have G3:GIn H3 r2 I kv ks y:=⟨aa,g3.nl,g.ok,a3,g.nby,a6.same U _,wf,pb⟩;refine(bJ (fO (bJ (gC (fD r2 I kv ks y many (aY G3 M J (λcv cs H4 f4 ag z ah=>?_)))))));have a1:Same H1 H4:=Fed.back C O (f3.trans f4);have s4:=s1.trans a1;refine(aC (eP a I (fD ns (x+2) many kv cv ks (eO cs y ?_ (s4.seq hS) (jAA a0 (g.same s4) (jAAA (a6.same a1 _) wf pb (jAAA h4 a7 ag (jAAA z M J (λv mk H5 s5 hv a5 G ec ek af=>q v mk H5 (s4.trans s5) hv a5 ⟨by rw[ek];exact h4,by rw[ek];exact ae,by rw[ec];exact z.l5,by rw[ec];exact z.nm,λe=>?_,?_,by rw[ec];exact ah,af,by rw[ek];exact a2⟩)))))))))
 ·show[V.ref a,V.int ((x:Int)+2),kv,cv,V.int many,V.ref I]=_
  rw[show((x:Int)+2)=((x+2:Nat):Int) by omega]
 ·rw[e]at G
  have:=congrArg List.length G;rw[List.length_take,g.ok.len]at this;simp at this;omega
 ·have hl:=congrArg List.length G
  rw[aM,List.length_take,g.ok.len]at hl;rw[G,show mk.hands.length=many by omega]
def Same.over(s:Same H a)(c:H p=none)(o:HO):Same H (upd a p o):=λb u q=>by
 rw[cO (dJ q c)];exact s b u q
def Cq(h:Name x):x.length<=6:=by
 have a:=h.le;rw[Array.length_toList]at a;exact a
def kd_le(h:x=S "num"\/Name x):x.length<=6:=by
 rcases h with rfl |h
 ·decide +kernel
 ·exact Cq h
def Fs(H:Hp)(kv:V)(p:Addr)(as:List Kn)(k:Kn):Prop:=KWf as/\K1 k/\RelD H kv k.d/\H p=some (.dK (iJ as as.length))
def Mn:Sp:=λvs H Q _=>∃kv p as k,vs=[kv,.ref p]/\Fs H kv p as k/\(∀q∈k.parts,KIn as as.length q.2)/\∀H',Same H H'->Q (.int (1+dQ k (sz as))) H'
def O5(K:Fg):Sp:=λvs H Q E=>∃kv p as k,vs=[kv,.ref p]/\Fs H kv p as k/\(twB as k=true->Fails K H E 1)/\(twB as k=false->lP as k=true->Fails K H E 2)/\(twB as k=false->lP as k=false->∀H',Same H H'->Q .non H')
def Oa(K:Fg):Sp:=λvs H Q E=>∃kv p as k,vs=[kv,.ref p]/\Fs H kv p as k/\(∀q∈k.parts,KIn as as.length q.2)/\(gI as k=true->Fails K H E 8)/\(gI as k=false->∀H',Same H H'->Q (.int (1+dQ k (sz as))) H')
def O4(K:Fg):Sp:=λvs H Q E=>∃kv ks,vs=[kv]/\RelD H kv (iO ks)/\KAny ks/\(dB [] ks=none->∀H',Same H H'->Q (.bl true) H')/\(∀c,dB [] ks=some c->Fails K H E c)
def Rm{as:List Kn}(a:KWf as)(b:H p=some (.dK (iJ as as.length)))(h:KIn as as.length x):DGet H p (.str x) (some (.int (sz as x))):=by
 have g:DGet H p (.str x) (bO (iJ as as.length) (Sum.inr x)):=DGet.k (k:=Sum.inr x) b;rw[D3 a h]at g;exact g
def Ye(T:Tx K mg):DefIs P w K mg base (n+1) "size_by" qae Mn:=by
 refine DefIs.of T.jE sc_size_by (by walk_at"l") (λf a1 A outer s H vs Q E hr h=>?_);obtain⟨kv,p,as,k,rfl,⟨C,O,hk,hp⟩,I,q⟩:=h;have nd:=sc_size_by.nd;have hu:=hW hr
 refine⟨_,(aF (pB (i:=2) ["part","sizes"] [none,some 1] Z (by kernel_rfl) nd Z (by first |exact Or.inl Z |exact Or.inr rfl) (eJ (K:=K) Z (px K (pv 0) pI)) (λ_ _ _ _=>(dU 0)) (λ_ _ _ _=>iH) (λ_ _ _ _=>(Lm hu (pv 1) (px K (pv 0) pI) (λ_ _=>Z))))
   (aF (aT (pR bY (px K (pv 0) pI) pS (nM _)) (po (aS (aN eY pI (bV (Mz Z) Z T.uZ PyProof.Rows.boot_sum (v1 2))))) pQ)
   (po (aS (aN eY pI (bV (Mx Z) Z T.uU PyProof.Rows.boot_max (v1 2))))))),?_⟩
 obtain⟨b,ws,rfl,Y,_,_,rfl,rfl,_,_,rfl,rfl,v3,_,rfl,r3,rfl⟩:=hk;obtain⟨a,us,rfl,ha,c⟩:=r3;have hl:=c.length;rw[aM]at hl;have h5:=O.pts;refine(aQ (zD Y) Z (bU ⟨_,zD ha⟩ ?_));refine tT (j:=0) (xs:=us) (λu ys x=>x=H/\ys=((k.parts.take u).map λp=>sz as p.2).map V.int) (by rfl) ⟨Z,Z⟩ (cL (by omega)) (λu ys x _ p=>by obtain⟨rfl,_⟩:=p;exact zD ha) ?_ ?_
 ·rintro u y ys x U l ⟨rfl,rfl⟩
  obtain⟨d,hd,rd⟩:=c.get U;rw[dA]at hd;obtain⟨pr,e,rfl⟩:=dH hd;obtain⟨b',a0,rfl,M,_,_,rfl,rfl,_,_,rfl,rfl,rfl⟩:=rd;have J:u<us.length:=(cV U).1;refine(dI (zD M) Z (gB (Rm C hp (I pr (cJ e))) (nL J l ⟨Z,?_⟩)));rw[gA,e];simp
 ·rintro ys x l ⟨rfl,rfl⟩ D hD
  rw[fH (by omega)];have G:=zA hD (.lst ((k.parts.map λp=>sz as p.2).map V.int))
  have r:∀n∈k.parts.map (λp=>sz as p.2),0<=n/\n<=1000000:=λn hn=>by
   obtain⟨p,_,rfl⟩:=fV hn;have h1:=Bh C p.2;have h2:=Gu C p.2;exact⟨by omega,by omega⟩
  refine(aQ (zD (G _ _ Y)) Z (bP Z ?_))
  cases o:k.rc with
  |true=>
   refine iteKT (cS (by unfold Kn.sort;rw[if_pos o];rfl)) ?_;refine(gV D Z (zF aD) (jAA r (by rw[aM];omega) (fO ?_)));have:=q _ G;unfold dQ at this;rw[if_pos o]at this;exact this
  |false=>
   refine iteKF (cW (by unfold Kn.sort;rw[if_neg (by rw[o];decide)];decide +kernel)) ?_;have g:=O.alt o;refine(aC (aV D (aZ (zF aD) (λz=>g (List.map_eq_nil_iff.mp z)) (λmx h1 h2=>(fO ?_)))));have:=q _ G;unfold dQ at this;rw[if_neg (by rw[o];decide),<- Jq (λz=>g (List.map_eq_nil_iff.mp z)) (λn hn=>(r n hn).1) h1 h2]at this;exact this
def xhk(T:Tx K o)(a:DefIs P w K o base n "size_by" qae Mn):DefXs P w K o base (n+1) "looked_size" qae (Oa K):=by
 refine DefXs.of T.jD sc_looked_size (by walk_at"l") (λf Y A outer s H vs Q E I h=>?_);obtain⟨kv,p,as,k,rfl,hz,j,G,q⟩:=h;have nd:=sc_looked_size.nd
 refine⟨_,(aF (aR 2 nd (pd a I (va 0 (v1 1))))
   (aF (aT (pR lK (pv 2) (rP T.uJ) (nM _)) (aF (aR 3 nd (px K (pv 0) pI))
   (po (iG Z (iE (T.xt.cl 8 (aA Z)) (T.xt.ini 8 (aA Z) (aA Z)) Z T.vJ (pc (gP (eG (fP (pv 3) (eG (yY (pv 2) gO))))) pN gQ))))) pQ)
   (po (aS (pv 2))))),?_⟩
 refine(aC (eF (aP p as k (aZ hz j (λH1 g=>(aC (fQ Z (aJ (λc=>?_) (λc=>?_)))))))))
 ·obtain⟨C,y,J,hp⟩:=hz
  obtain⟨b,ws,rfl,O,_,_,rfl,rfl,_,_,rfl,rfl,v3,_,rfl,r3,rfl⟩:=J;refine(aQ (zD (g _ _ O)) Z ?_);have hB:=Y8 (k:=k) C y.pts;have hn:=Cq y.nm;have z:(Str.empty++Str.ofString "the kind ").length<=9:=by walk_at"k"
  have l:(Str.ofString " has the size ").length<=14:=by walk_at"k"
  have U:=A4 (i:=1+dQ k (sz as)) (by omega) (by omega);have x:=cX z hn;have u:=cX x l;have r:=cX u U;refine(dY (aB (qC z (aA Z))) (aZ (aB (qC hn (aA Z))) (aB (qC x (aA Z))) (dY (aB (qC u (aA Z))) (dS (Ag (by omega)) (aB (qC r (aA Z))) (aB (qC r (aA Z))) (aE Z) (λe M=>?_)))));exact(hZ (cAt K 8) none aD (T.xt.cl 8 (aA Z)) (G c _ _ _ (g.trans (hX M)) (bU Z aD)))
 ·exact(aC (q (Bool.eq_false_iff.mpr c) _ g))
def xh8(T:Tx K mg)(g:DefXs P w K mg base n "need_once" qah (wI K)):DefXs P w K mg base (n+1) "look_names" qae (O5 K):=by
 refine DefXs.of T.jB sc_look_names (by walk_at"l") (λf a8 A outer s H vs Q E hr h=>?_);obtain⟨kv,p,as,k,rfl,⟨wf,k1,hk,hp⟩,qt,qn,q⟩:=h;have nd:=sc_look_names.nd;have hu:=hW hr
 refine⟨_,(aF (aR 2 nd (px K (pv 0) pI))
   (aF (aR 3 nd (px K (pv 0) pI))
   (aF (aT (yZ (Hz hu (pv 2) (pv 1))) (po (iG Z (iE (T.xt.cl 1 (aA Z)) (T.xt.ini 1 (aA Z) (aA Z)) Z T.vC (pc (gP (eG (fP (pv 2) gO))) pN gQ)))) pQ)
   (aF (cT (cN g hr (pc (iT ["part"] [none] Z (by kernel_rfl) (eJ (K:=K) Z (pv 3)) (λ_ _ _ _=>(dU 0)) (λ_ _ _ _=>iH) (λ_ _ _ _=>(px K (pv 0) pI))) (pc (gP (eG (fP (pv 2) gO))) pN gQ) oB)))
   (po (fM (mU Z Z) Z (eJ (K:=K) Z (pv 3)) (bK 4 nd)
   (aF (aR 5 nd (px K (pv 4) pI))
   (po (aT (yZ (N9 hu (pv 5) (pv 1))) (po (iG Z (iE (T.xt.cl 2 (aA Z)) (T.xt.ini 2 (aA Z) (aA Z)) Z T.vD (pc (gP (eG (fP (pv 5) (eG (fP (pv 2) gO))))) pN gQ)))) pQ))))))))),?_⟩
 obtain⟨b,ws,rfl,hb,_,_,rfl,rfl,_,_,rfl,rfl,v3,_,rfl,r3,rfl⟩:=hk;obtain⟨a,us,rfl,ha,G⟩:=r3;have hl:=G.length;rw[aM]at hl;have h5:=k1.pts;have hn:=Cq k1.nm;have g0:∀x,DGet H p (.str x) (bO (iJ as as.length) (Sum.inr x)):=λx=>DGet.k (k:=Sum.inr x) hp;have a5:=mZ k1.nm;refine(aQ (zD hb) Z ?_);refine(aQ (zD hb) Z ?_);refine(bJ (gK (bP (g0 _) ?_)));rw[Lj wf,cW a5,Bool.false_or];refine aJ (λc=>?_) (λc=>?_)
 ·have a3:(Str.empty++Str.ofString "two kinds ").length<=10:=by walk_at"k"
  have M:=cX a3 hn;refine(dY (aB (qC a3 (aA Z))) (dS (aB (qC hn (aA Z))) (aB (qC M (aA Z))) (aB (qC M (aA Z))) (aE Z) (λe he=>?_)));exact(hZ (cAt K 1) none aD (T.xt.cl 1 (aA Z)) (qt (by unfold twB;rw[c];rfl) _ _ _ (hX he) (bU Z aD)))
 have a1:gF as k.name=false:=Bool.eq_false_iff.mpr c;refine(fN ⟨_,zD ha⟩ ?_);refine tT (j:=0) (xs:=us) (λi' ys o=>o=H/\ys=((k.parts.take i').map λp=>p.1).map V.str) (by rfl) ⟨Z,Z⟩ (cL (by omega)) (λi' ys o _ p=>by obtain⟨rfl,_⟩:=p;exact zD ha) ?_ ?_
 ·rintro i' y ys o hy Y ⟨rfl,rfl⟩
  obtain⟨d,hd,rd⟩:=G.get hy;rw[dA]at hd;obtain⟨J,u,rfl⟩:=dH hd;obtain⟨b',a4,rfl,I,_,_,rfl,rfl,_,_,rfl,rfl,rfl⟩:=rd;have a6:i'<us.length:=(cV hy).1;refine(aQ (zD I) Z (nL a6 Y ⟨Z,?_⟩));rw[gA,u];simp
 rintro ys H9 Y ⟨rfl,rfl⟩ D hD;rw[fH (by omega)];have C:=zA hD (.lst ((k.parts.map λp=>p.1).map V.str));have a2:(Str.empty++Str.ofString "parts of the kind ").length<=18:=by walk_at"k"
 have M:=cX a2 hn;refine(dY (aB (qC a2 (aA Z))) (aY (aB (qC hn (aA Z))) (aB (qC M (aA Z))) (aB (qC M (aA Z))) ?_));refine⟨D,(aV (k.parts.map λp=>p.1) (dS aD (by rw[aM];omega) (qC M (aA Z)) (λhnd=>?_) (λhnd v d o s' r=>qt (by unfold twB mI;rw[cW hnd,a1];rfl) v d o (C.trans s') r)))⟩
 have O:twB as k=false:=by
  unfold twB mI;rw[cS hnd,a1];rfl
 refine(fN ⟨_,zD (C _ _ ha)⟩ ?_);refine hJ (xs:=us) (λi σ o=>∃o4 o5,σ=[some (.ref b),some (.ref p),some (.str k.name),some (.ref a),o4,o5]/\o=upd H9 D (.lst ((k.parts.map λp=>p.1).map V.str))/\∀J∈k.parts.take i,pK as J=false) (aI none none (cP (λ_ h=>nomatch h))) (λi σ o _ p=>?_) ?_ ?_
 ·obtain⟨_,_,_,rfl,_⟩:=p
  exact zD (C _ _ ha)
 ·rintro j v σ o hv ⟨o4,o5,rfl,rfl,l⟩
  obtain⟨d,hd,rd⟩:=G.get hv;rw[dA]at hd;obtain⟨J,u,rfl⟩:=dH hd;obtain⟨b',a4,rfl,I,_,_,rfl,rfl,_,_,rfl,rfl,rfl⟩:=rd;have U:=cJ u;refine(aQ (zD (C _ _ I)) Z ?_);refine(bJ (gK (bP (DGet.k (k:=Sum.inr J.2) (C _ _ hp)) ?_)));rw[Lj wf,Bool.not_or];refine aJ (λc2=>?_) (λc2=>?_)
  ·have a0:=kd_le (k1.pkd J U)
   have e8:(Str.empty++Str.ofString "no kind ").length<=8:=by walk_at"k"
   have a7:(Str.ofString " ahead of the kind ").length<=19:=by walk_at"k"
   have m1:=cX e8 a0;have m2:=cX m1 a7;have m3:=cX m2 hn;refine(dY (aB (qC e8 (aA Z))) (aZ (aB (qC a0 (aA Z))) (aB (qC m1 (aA Z))) (dY (aB (qC m2 (aA Z))) (dS (aB (qC hn (aA Z))) (aB (qC m3 (aA Z))) (aB (qC m3 (aA Z))) (aE Z) (λe he=>?_)))));exact(hZ (cAt K 2) none aD (T.xt.cl 2 (aA Z)) (qn O (List.any_eq_true.mpr (cZ J U c2)) _ _ _ (C.trans (hX he)) (bU Z aD)))
  ·refine(aK (cP (λz hz=>?_)))
   rw[gA,u]at hz;rcases dD hz with hz |hz
   ·exact l z hz
   ·rw[cD hz]
    exact Bool.eq_false_iff.mpr c2
 ·rintro σ o ⟨o4,o5,rfl,rfl,l⟩
  rw[fH (by omega)]at l;exact q O (List.any_eq_false.mpr λz hz=>by rw[l z hz];decide) _ C
theorem Wi(as:List Kn)(k:Kn)(ks:List Kn):dB as (k::ks)=(match bR as k with |some c=>some c |none=>dB (as++[k]) ks):=Z
def xh9(T:Tx K mg)(l:DefXs P w K mg base n "look_names" qae (O5 K))(j:DefXs P w K mg base n "looked_size" qae (Oa K)):DefXs P w K mg base (n+1) "look_kinds" ["kinds"] (O4 K):=by
 refine DefXs.of T.jA sc_look_kinds (by walk_at"l") (λf a6 A outer s H vs Q E hr h=>?_);obtain⟨kv,ks,rfl,hk,G,q,qf⟩:=h;have nd:=sc_look_kinds.nd;have hu:=hW hr
 refine⟨_,(aF (aR 1 nd (Vj (Wd pS pI Uv) Z Z (λz=>by cases z) (aA Z)))
   (aF (fM (mU Z Z) Z (eJ (K:=K) Z (pv 0)) (bK 2 nd)
   (aF (cT (cN l hr (va 2 (v1 1))))
   (po (Lp hu (pv 1) (px K (pv 2) pI) (cN j hr (va 2 (v1 1))) Z))))
   (po (aS rF)))),?_⟩
 obtain⟨a,us,rfl,ha,U⟩:=hk;have hl:=U.length;rw[aM]at hl;have h6:=G.few;intro p hp;refine⟨aD,(dG ([(Sum.inr (S "num"),.int 1)]) Z (aA Z) ?_)⟩;have s0:=Same.new2 hp (.dK []) (.dK (lH [] [(Sum.inr (S "num"),.int 1)]));refine(fN ⟨_,zD (s0 _ _ ha)⟩ ?_);refine hJ (xs:=us) (λi σ H'=>∃o2,σ=[some (.ref a),some (.ref p),o2]/\Same H H'/\KWf (ks.take i)/\Fit (ks.take i)/\dB [] ks=dB (ks.take i) (ks.drop i)/\H' p=some (.dK (iJ (ks.take i) (ks.take i).length))) (cZ none Z (jAAA s0 KWf.nil Fit.nil ⟨Z,aD⟩)) (λi σ H' _ p=>?_) ?_ ?_
 ·obtain⟨_,_,o,_⟩:=p
  exact zD (o _ _ ha)
 ·rintro i v σ H' hv ⟨o3,rfl,o,J,a1,g,C⟩
  obtain⟨d,hd,rd⟩:=U.get hv;rw[dA]at hd;obtain⟨k,y,rfl⟩:=dH hd;have hi:i<ks.length:=(cV y).1;have a4:(ks.take i).length=i:=by rw[List.length_take];omega
  have k1:=G.one (cJ y)
  have ed:ks.drop i=k::ks.drop (i+1):=by
   rw[List.drop_eq_getElem_cons hi];congr 1;exact(cV y).2
  have et:ks.take (i+1)=ks.take i++[k]:=by rw[gA,y];rfl
  rw[ed,Wi]at g;have I:∀c,bR (ks.take i) k=some c->dB [] ks=some c:=λc e=>by rw[e]at g;exact g
  refine⟨_,Z,_,Z,v,p,ks.take i,k,Z,(jAAA J k1 (rd.same o _) C),λz v d M u r=>qf 1 (I 1 (by unfold bR;rw[if_pos z])) v d M (o.trans u) r,
   λz1 O v d M u r=>qf 2 (I 2 (by unfold bR;rw[z1,if_neg (aA Z),if_pos O])) v d M (o.trans u) r,λz1 O H0 x=>?_⟩
  have a0:=wZ O;refine(aC (gW v p (ks.take i) k Z (jAAA J k1 (rd.same (o.trans x) _) (x _ _ C)) a0 (λz v d M u r=>qf 8 (I 8 (by unfold bR;rw[z1,if_neg (aA Z),O,if_neg (aA Z),if_pos z])) v d M ((o.trans x).trans u) r) (λz3 M a2=>?_)));have u:=x.trans a2;obtain⟨b,ws,rfl,hb,_,_,rfl,rfl,_,_,rfl,rfl,v3,_,rfl,r3,rfl⟩:=rd;have a5:=V7 J (ks.take i).length
  have Y:bR (ks.take i) k=none:=by
   unfold bR;rw[z1,if_neg (aA Z),O,if_neg (aA Z),z3,if_neg (aA Z)]
  obtain⟨w2,f2⟩:=Bx J a1 k1 (by omega) Y;refine(dI (zD (u _ _ (o _ _ hb))) Z (gB (DPut.k (k:=Sum.inr k.name) (u _ _ C) (cL (by omega))) (bU (Same.over (o.trans u) hp _) (jAAA ?_ ?_ ?_ ?_))))
  ·rw[et];exact w2
  ·rw[et];exact f2
  ·rw[et,g,Y]
  ·rw[Wn J w2 a0,et]
   exact aD
 ·rintro σ H' ⟨o3,rfl,o,J,a1,g,C⟩
  have a3:us.length=ks.length:=hl;rw[a3,List.drop_length]at g;exact q g _ o
def Cw:Sp:=λvs H Q _=>∃(tv:V) (x:Str) (hs:List (Str×List D)),vs=[tv,.str x]/\RelD H tv (.tup (hs.map λe=>.tup (.str e.1::e.2)))/\(∀hd,hs.find? (λh=>decide (h.1=x))=some hd->∀u,RelD H u (.tup (.str hd.1::hd.2))->Q u H)/\(hs.find? (λh=>decide (h.1=x))=none->Q .non H)
def Mm:Sp:=λvs H Q _=>∃(mv:V) (x:Str) (mk:Mak),vs=[mv,.str x]/\RelD H mv mk.d/\(∀hd,iD mk x=some hd->∀u,RelD H u hd.d->Q u H)/\(iD mk x=none->Q .non H)
def Mk:Sp:=λvs H Q _=>∃(mv:V) (x:Str) (mk:Mak),vs=[mv,.str x]/\RelD H mv mk.d/\(∀c,lU mk x=some c->∀u,RelD H u (fK c)->Q u H)/\(lU mk x=none->Q .non H)
def Ae(K:Fg):Sp:=λvs H Q E=>∃(kv:V) (ks:List Kn) (x:Str),vs=[kv,.str x]/\KsAt H kv ks/\x.length<=100/\Goes' K H Q E (iN ks x)
def Il(K:Fg):Sp:=λvs H Q E=>∃(mv:V) (mk:Mak) (c:Str) (e:Nat) (h:Str),vs=[mv,.str c,.int e,.str h]/\RelD H mv mk.d/\(e=1\/e=2)/\c.length<=100/\h.length<=100/\rC K H Q E (dO mk c e h)
def mF{hd:Hand}(h:RelD H u hd.d):∃a c b,u=.ref a/\H a=some (.tup [.str hd.name,c,b])/\RelD H c (lG hd.boxes)/\RelD H b (.tup (hd.rows.map Row.d)):=by
 obtain⟨a,us,e,f,_,_,rfl,rfl,c,_,rfl,j,b,_,rfl,g,rfl⟩:=h;exact(aP a c b (jAAA e f j g))
def gG{H:Hp}{u:V}{mk:Mak}(h:RelD H u mk.d):∃a b f c,u=.ref a/\H a=some (.tup [b,f,c])/\RelD H b (iO mk.kinds)/\RelD H f (.tup (mk.chans.map fK))/\RelD H c (.tup (mk.hands.map Hand.d)):=by
 obtain⟨a,us,e,g,b,_,rfl,h0,f,_,rfl,l,c,_,rfl,j,rfl⟩:=h;exact(aI a b (eO f c e g (jAA h0 l j)))
def tI{H:Hp}{u:V}{r:Row}(h:RelD H u r.d):∃a us,u=.ref a/\H a=some (.tup (.str r.hd::us))/\RelDs H us r.as:=by
 obtain⟨a,us,e,c,_,b,rfl,rfl,f⟩:=h;exact(eO a b e c f)
def hE(h:Hand):Str×List D:=(h.name,[lG h.boxes,.tup (h.rows.map Row.d)])
def cE(c:cR):Str×List D:=(c.1,[.str c.2.1,.str c.2.2.1,.str c.2.2.2])
def G7{c:Prop}[Decidable c]{A B:Prop}(h:¬c)(a:A):if (!decide c)=true then A else B:=by
 rw[cW h];exact a
def G6{c:Prop}[Decidable c]{A B:Prop}(h:c)(b:B):if (!decide c)=true then A else B:=by
 rw[cS h];exact b
def M1(T:Tx K M):DefIs P w K M base (n+1) "named" qaq Cw:=by
 refine DefIs.of T.jM sc_named (by walk_at"l") (λf a0 A outer s H vs Q E hr h=>?_);obtain⟨tv,x,hs,rfl,U,q,J⟩:=h;have nd:=sc_named.nd
 refine⟨_,(aF (fM zI Z (eJ (K:=K) Z (pv 0)) (bK 2 nd)
   (po (aT (pR bY (px K (pv 2) pI) (pv 1) (nM _)) (po (aS (pv 2))) pQ)))
   (po (aS nX))),?_⟩
 obtain⟨a,us,rfl,C,G⟩:=U;refine(fN ⟨_,zD C⟩ ?_);have y:=G.length;rw[aM]at y;refine hJ (xs:=us) (λi σ o=>∃u,σ=[some (.ref a),some (.str x),u]/\o=H/\(hs.take i).find? (λh=>decide (h.1=x))=none) ⟨none,(cP Z)⟩ (λi σ o _ p=>?_) ?_ ?_
 ·obtain⟨_,_,rfl,_⟩:=p
  exact zD C
 ·rintro i v σ o O ⟨u,rfl,rfl,hn⟩
  obtain⟨d,l,rd⟩:=G.get O;rw[dA]at l;obtain⟨h',g,rfl⟩:=dH l;have r:=rd;obtain⟨b,ws,rfl,Y,_,I,rfl,rfl,_⟩:=rd;refine(aQ (zD Y) (cM (j:=0) Z) (dE Z Z (aJ (λc=>?_) (λc=>?_))))
  ·have e:h'.1=x:=V.str.inj (qE c)
   exact(aC (q _ ((oN hn g).1 (cS e)) _ r))
  ·have e:¬h'.1=x:=λz=>c (cS (congrArg V.str z))
   exact(bU Z ((oN hn g).2 (cW e)))
 ·rintro σ o ⟨u,rfl,rfl,hn⟩
  rw[y,fH (qD _)]at hn;exact J hn
def Ya(T:Tx K j)(b:DefIs P w K j base n "named" qaq Cw):DefIs P w K j base (n+1) "hand_of" qao Mm:=by
 refine DefIs.of T.jK Yl (by walk_at"l") (λf z A outer s H vs Q E p h=>?_);obtain⟨C,x,mk,rfl,r,q,l⟩:=h;refine(gH (po (aS (pd b p (pc (px K (pv 0) pI) (v1 1) ss)))) ?_);obtain⟨a,G,I,o,rfl,u,_,_,y⟩:=gG r;have e:(mk.hands.map hE).find? (λh=>decide (h.1=x))=(iD mk x).map hE:=List.find?_map ..;refine(aQ (zD u) Z (aC (aP o x (mk.hands.map hE) (aZ ?_ (λhd c=>?_) (λc=>?_)))))
 ·rw[List.map_map]
  exact y
 ·rw[e]at c
  obtain⟨h',g,rfl⟩:=dH c;exact q h' g
 ·rw[e]at c
  exact l (Option.map_eq_none_iff.mp c)
def xib(T:Tx K l)(b:DefIs P w K l base n "named" qaq Cw):DefIs P w K l base (n+1) "channel_of" qap Mk:=by
 refine DefIs.of T.jL xh2 (by walk_at"l") (λf C A outer s H vs Q E p h=>?_);obtain⟨G,x,mk,rfl,r,q,o⟩:=h;refine(gH (po (aS (pd b p (pc (px K (pv 0) pI) (v1 1) ss)))) ?_);obtain⟨a,I,z,J,rfl,u,_,y,_⟩:=gG r;have e:(mk.chans.map cE).find? (λh=>decide (h.1=x))=(lU mk x).map cE:=List.find?_map ..;refine(aQ (zD u) Z (aC (aP z x (mk.chans.map cE) (aZ ?_ (λhd g=>?_) (λg=>?_)))))
 ·rw[List.map_map]
  exact y
 ·rw[e]at g
  obtain⟨h',j,rfl⟩:=dH g;exact q h' j
 ·rw[e]at g
  exact o (Option.map_eq_none_iff.mp g)
def xh7(T:Tx K c)(a:DefIs P w K c base n "sort_of" qac rQ):DefXs P w K c base (n+1) "need_there" qad (Ae K):=by
 refine DefXs.of T.jH sc_need_there (by walk_at"l") (λf C A outer s H vs Q E r h=>?_);obtain⟨p,ks,x,rfl,u,j,q,o⟩:=h;have nd:=sc_need_there.nd;refine(gH (po (aT (PW.pt (iF (pR mM (pv 1) pS (nM _)) (iQ (pR wC (pd a r (va 0 (v1 1))) nX (nM _))))) (po (iG Z (iE (T.xt.cl 2 (aA Z)) (T.xt.ini 2 (aA Z) (aA Z)) Z T.vD (pc (gP (eG (fP (pv 1) gO))) pN gQ)))) pQ)) ?_);refine(dE Z Z ?_);by_cases hn:x=S "num"
 ·have e:iN ks x=none:=if_pos hn
  exact G6 (by rw[hn];rfl) (cG (q e _ (Same.refl _)))
 ·refine G7 (λz=>hn (V.str.inj z)) ?_
  refine(bJ (aP p ks x (eV u ?_)))
  cases b:bN ks x with
  |some k=>
   have e:iN ks x=none:=by unfold iN;rw[if_neg hn,b]
   exact(lF (cG (q e _ (Same.refl _))))
  |none=>
   have e:iN ks x=some 2:=by unfold iN;rw[if_neg hn,b]
   refine(lF (nB ?_));have l:(Str.empty++Str.ofString "no kind ").length<=8:=by walk_at"k"
   have g:=cX l j;refine(dY (aB (qC l (aA Z))) (dS (aB (qC j (aA Z))) (aB (qC g (aA Z))) (aB (qC g (aA Z))) (aE Z) (λG y=>?_)));exact(hZ (cAt K 2) none aD (T.xt.cl 2 (aA Z)) (o 2 e _ _ _ (hX y) (bU Z aD)))
def xk6(T:Tx K M)(a:DefIs P w K M base n "channel_of" qap Mk):DefXs P w K M base (n+1) "own_kind" qa5 (Il K):=by
 refine DefXs.of T.kG sc_own_kind (by walk_at"l") (λf a0 A outer s H vs Q E hr h=>?_);obtain⟨mv,mk,c,e,h,rfl,hm,he,x,hh,q,J⟩:=h;have nd:=sc_own_kind.nd
 refine⟨_,(aF (aR 4 nd (pd a hr (va 0 (v1 1))))
   (aF (aT (pR wC (pv 4) nX (nM _)) (po (iG Z (iE (T.xt.cl 2 (aA Z)) (T.xt.ini 2 (aA Z) (aA Z)) Z T.vD (pc (gP (eG (fP (pv 1) gO))) pN gQ)))) pQ)
   (aF (aT (pR mM (px K (pv 4) (pv 2)) (pv 3) (nM _)) (po (iG Z (iE (T.xt.cl 6 (aA Z)) (T.xt.ini 6 (aA Z) (aA Z)) Z T.vH (pc (gP (eG (fP (pv 1) (eG (fP (pv 3) (eG gO)))))) pN gQ)))) pQ)
   (po (aS (px K (pv 4) pI)))))),aL λR1 o=>?_⟩
 refine(bJ (aP mv c mk (aZ hm (λch r u hu=>o _ _ (aL λR2 G=>?_)) (λr=>o _ _ ?_))))
 ·obtain⟨b,ws,rfl,hb,_,_,rfl,rfl,_,_,rfl,rfl,_,_,rfl,rfl,_,_,rfl,rfl,rfl⟩:=hu
  refine(aC (lF (iteKF (cW λz=>nomatch z) (G _ _ (aL λR3 C=>?_)))))
  have ix:fG [V.str ch.1,.str ch.2.1,.str ch.2.2.1,.str ch.2.2.2] (e:Int)=some (.str (rD e ch)):=by
   rcases he with rfl |rfl
   ·exact cM (j:=1) Z
   ·exact cM (j:=2) Z
  refine(bJ (eZ (zD hb) ix (dE Z Z ?_)));by_cases y:rD e ch=h
  ·refine G6 (congrArg V.str y) (C _ _ (aQ (zD hb) Z ?_))
   refine q _ ?_ _ (Same.refl _);unfold dO;rw[r];exact if_pos y
  ·refine G7 (λz=>y (V.str.inj z)) ?_
   have I:dO mk c e h=.error 6:=by
    unfold dO;rw[r];exact if_neg y
   have p:(Str.empty++Str.ofString "the channel ").length<=12:=by walk_at"k"
   have l:=cX p x;have e3:(Str.ofString " has another hand than ").length<=23:=by walk_at"k"
   have Y:=cX l e3;have U:=cX Y hh;have e5:(Str.ofString " there").length<=6:=by walk_at"k"
   have O:=cX U e5;refine(dY (aB (qC p (aA Z))) (aZ (aB (qC x (aA Z))) (aB (qC l (aA Z))) (dY (aB (qC Y (aA Z))) (eX (aB (qC hh (aA Z))) (aB (qC U (aA Z))) (aB (qC O (aA Z))) (aB (qC O (aA Z))) (aE Z) (λe' g=>?_)))));exact(hZ (cAt K 6) none aD (T.xt.cl 6 (aA Z)) (J 6 I _ _ _ (hX g) (bU Z aD)))
 ·have I:dO mk c e h=.error 2:=by
   unfold dO;rw[r]
  refine(aC (lF (iteKT (cS Z) ?_)));have p:(Str.empty++Str.ofString "no channel ").length<=11:=by walk_at"k"
  have l:=cX p x;refine(dY (aB (qC p (aA Z))) (dS (aB (qC x (aA Z))) (aB (qC l (aA Z))) (aB (qC l (aA Z))) (aE Z) (λe' g=>?_)));exact(hZ (cAt K 2) none aD (T.xt.cl 2 (aA Z)) (J 2 I _ _ _ (hX g) (bU Z aD)))
def nC(bs:List (Str×Str)):List (cQ×V):=bs.map λb=>(Sum.inr b.1,.str b.2)
theorem M5:∀{us:List V} {bs:List (Str×Str)},RelDs H us (bs.map nJ)->PairsV H us (nC bs)
 |us,[],h=>by rw[show us=[] from h];trivial
 |us,b::bs,⟨v,r,e,g,f⟩=>by
  subst e;obtain⟨a,ws,rfl,c,_,_,rfl,rfl,_,_,rfl,rfl,rfl⟩:=g;exact⟨⟨a,Z,c⟩,M5 f⟩
theorem Dy:∀(bs:List (Str×Str)) (acc:List (cQ×V)),(∀b∈bs,b.1≠y)->bO (lH acc (nC bs)) (Sum.inr y)=bO acc (Sum.inr y)
 |[],acc,_=>Z
 |b::bs,acc,h=>by
  show bO (lH (dC acc (Sum.inr b.1) (.str b.2)) (nC bs)) (Sum.inr y)=_;rw[Dy bs _ λc a=>h c (by simp[a]),Do,if_neg λe=>h b (by simp) (Sum.inr.inj e).symm]
theorem Lz:∀(bs:List (Str×Str)) (acc:List (cQ×V)),(bs.map (·.1)).Nodup->∀p∈bs,bO (lH acc (nC bs)) (Sum.inr p.1)=some (.str p.2)
 |[],acc,_,p,a=>nomatch a
 |b::bs,acc,nd,p,a=>by
  rw[List.map_cons,List.nodup_cons]at nd;show bO (lH (dC acc (Sum.inr b.1) (.str b.2)) (nC bs)) (Sum.inr p.1)=_;rcases gD a with rfl |a
  ·rw[Dy bs _ λc f e=>nd.1 (by rw[<- e];exact qP f),Do,if_pos Z]
  ·exact Lz bs _ nd.2 p a
def Um{bs:List (Str×Str)}(nd:(bs.map (·.1)).Nodup)(c:H p=some (.dK (lH [] (nC bs)))):EnAt H p bs.length (bM bs):=by
 refine(gH c ⟨?_,λy=>⟨λe=>?_,λd e=>?_⟩⟩)
 ·have:=Aq (nC bs) []
  unfold nC at this⊢;rw[aM]at this;simpa using this
 ·unfold bM at e
  have h:=List.find?_eq_none.mp (Option.map_eq_none_iff.mp e);rw[Dy bs [] λb a=>by simpa using h b a];rfl
 ·unfold bM at e
  obtain⟨b,a,rfl⟩:=dH e
  have f:b.1=y:=by
   have:=zX a;exact qE this
  refine(cZ (.str b.2) ?_ Z);rw[<- f];exact Lz bs [] nd b (mL a)
def Fy{bs:List (Str×Str)}(a:x.length<=100):(∃k,bM bs x=some (.str k)/\eW bs x=.ok k)\/(bM bs x=none/\x.length<=100/\eW bs x=.error 2):=by
 unfold bM eW
 cases bs.find? λb=>decide (b.1=x) with
 |none=>exact .inr (eV a Z)
 |some b=>exact .inl (cZ b.2 Z Z)
def Th{bs:List (Str×Str)}(h:∀b∈bs,b.2.length<=100):EnvL (bM bs):=λx k e=>by
 unfold bM at e;obtain⟨b,a,c⟩:=dH e;cases c;exact h b (mL a)
def Ve(h:∀c∈mk.chans,c.2.2.2.length<=100){c h' k:Str}(o:dO mk c e h'=.ok k):k.length<=100:=by
 unfold dO at o
 cases a:lU mk c with
 |none=>rw[a]at o;cases o
 | some ch=>
  rw[a]at o;dsimp only at o;by_cases b:rD e ch=h'
  ·rw[if_pos b]at o
   cases o;exact h ch (mL a)
  ·rw[if_neg b]at o
   cases o
def Mg{bs:List (Str×Str)}(h:∀b∈bs,b.2.length<=100){x k:Str}(o:eW bs x=.ok k):k.length<=100:=by
 unfold eW at o
 cases a:bs.find? λb=>decide (b.1=x) with
 |none=>rw[a]at o;cases o
 |some b=>rw[a]at o;cases o;exact h b (mL a)
structure LIn(H:Hp)(mv:V)(mk:Mak)(h:Str)(da:Addr)(bs:List (Str×Str)):Prop where
 md:RelD H mv mk.d
 kb:MakB mk
 hl:h.length<=100
 en:EnAt H da 100 (bM bs)
 bl:∀b∈bs,b.2.length<=100
def Lc(K:Fg):Sp:=λvs H Q E=>∃(mv rv:V) (mk:Mak) (h:Str) (da:Addr) (bs:List (Str×Str)) (r:Row) (o:Option Nat),vs=[mv,.str h,.ref da,rv]/\LIn H mv mk h da bs/\RelD H rv r.d/\lD r/\lW mk h bs r o/\Goes' K H Q E o
def B7(h:RelD H v (iO ks))(k:KAny ks):KsAt H v ks:=(jAA h (qC k.few (aA Z)) (λz hz=>qC (k.pts z hz) (aA Z)))
theorem Goes'.on(h:Goes' K H Q E o)(s:Same H a):Goes' K a Q E o:=⟨λe f b=>h.1 e f (s.trans b),λc e=>(h.2 c e).on s⟩
def xk8(T:Tx K mg)(b:DefXs P w K mg base n "need_kind" qag (tZ K (λks=>Kt ks 22) 100))(C:DefXs P w K mg base n "box_kind" qal (By K 100))(u:DefXs P w K mg base n "own_kind" qa5 (Il K))(G:DefXs P w K mg base n "need_same" qai (wV K)):DefXs P w K mg base (n+1) "look_row" qa4 (Lc K):=by
 refine DefXs.of T.kF sc_look_row (by walk_at"l") (λf a8 A outer s H vs Q E hr h=>?_);obtain⟨mv,rv,mk,h,da,bs,r,o,rfl,O,a4,hb,I,q⟩:=h;have nd:=sc_look_row.nd;obtain⟨ma,kv,cv,hv,rfl,a2,a6,_,_⟩:=gG O.md;obtain⟨a,us,rfl,ha,U⟩:=tI a4;have ks:=B7 a6 O.kb.ka;have a0:∀{Y:V} {t:D},RelD H Y t->In3 H kv Y da mk.kinds t (bM bs) 100:=λh=>⟨ks,O.kb.kl,Th O.bl,h,O.en⟩
 refine⟨_,(aF (aR 4 nd (px K (pv 3) pI))
   (po (aT (pR bY (pv 4) pS (nM _)) (po (cT (cN b hr (pc (px K (pv 0) pI) (pc (px K (pv 3) pI) (va 2 (pc (cN C hr (pc (px K (pv 3) pI) (v1 2) ss)) pN bL)) ss) ss)))) (po (aT (pR bY (pv 4) pS (nM _)) (po (cT (cN b hr (pc (px K (pv 0) pI) (pc (px K (pv 3) pI) (va 2 (pc (cN u hr (va 0 (pc (px K (pv 3) pI) (pc (rP T.uL) (v1 1) mK) ss))) pN bL)) ss) ss)))) (po (aT (pR bY (pv 4) pS (nM _)) (po (cT (cN G hr (pc (cN C hr (pc (px K (pv 3) pI) (v1 2) ss)) (pc (cN u hr (va 0 (pc (px K (pv 3) pI) (pc (rP T.uM) (v1 1) mK) ss))) pN bL) bL)))) (po (aT (pR (Pd (K:=K) Z) (pv 4) (aH (pc pS (pc pS pN aG) aG)) (by with_unfolding_all rfl)) (po (cT (cN b hr (pc (px K (pv 0) pI) (pc (px K (pv 3) pI) (va 2 (pc pS pN aG)) ss) ss)))) pQ))))))))),aL λR1 a7=>?_⟩
 refine(aQ (zD ha) (cM (j:=0) Z) (a7 _ _ ?_));have no:∀{x y:Str},x≠y->decide (V.str x=V.str y)=false:=λh=>cW λz=>h (V.str.inj z);have cl:∀{c h' k:Str} {e:Nat},dO mk c e h'=.ok k->k.length<=100:=λe=>Ve (λc hc=>(O.kb.cs c hc).2.2.2) e
 cases r with
 | set x t=>
  obtain⟨_,a3,rfl,rfl,Y,_,rfl,J,rfl⟩:=U;refine(dE Z Z (iteKT (cS Z) ?_));refine(aQ (zD a2) Z (aQ (zD ha) (cM (j:=2) Z) (aC ?_)));refine(aQ (zD ha) (cM (j:=1) Z) (gW x da (bM bs) (eW bs x) Z O.en (Fy hb) (λk e H1 s1=>?_) (λc e=>q.2 c ?_)))
  ·have p:gT (eW bs x) (nI mk.kinds bs t) o:=I
   rw[e]at p;obtain⟨r,hk,rfl⟩:=p;exact(aI kv Y (fD da mk.kinds t (bM bs) r k (aY ((a0 J).same s1) (Mg O.bl e) hk (q.on s1))))
  ·have p:gT (eW bs x) (nI mk.kinds bs t) o:=I
   rw[e]at p;exact p
 | send c t=>
  obtain⟨_,a3,rfl,rfl,Y,_,rfl,J,rfl⟩:=U;refine(dE Z Z (iteKF (no (x:=S "send") (y:=S "set") (by walk_at"k")) ?_));refine(dE Z Z (iteKT (cS Z) ?_));refine(aQ (zD a2) Z (aQ (zD ha) (cM (j:=2) Z) (aC ?_)));have p:gT (dO mk c 1 h) (nI mk.kinds bs t) o:=I;refine(dI (zD ha) (cM (j:=1) Z) (eF (aI mk c (aI 1 h (eX O.md (.inl Z) hb O.hl (λk e H1 s1=>?_) (λc' e=>q.2 c' ?_))))))
  ·rw[e]at p
   obtain⟨r,hk,rfl⟩:=p;exact(aI kv Y (fD da mk.kinds t (bM bs) r k (aY ((a0 J).same s1) (cl e) hk (q.on s1))))
  ·rw[e]at p
   exact p
 | take l c x=>
  obtain⟨_,a3,rfl,rfl,_,_,rfl,rfl,_,_,rfl,rfl,rfl⟩:=U;refine(dE Z Z (iteKF (no (x:=S "take") (y:=S "set") (by walk_at"k")) ?_));refine(dE Z Z (iteKF (no (x:=S "take") (y:=S "send") (by walk_at"k")) ?_));refine(dE Z Z (iteKT (cS Z) ?_));have p:gT (eW bs x) (λk=>gT (dO mk c 2 h) λk2 o=>o=nk k2 (.ok k)) o:=I;refine(aQ (zD ha) (cM (j:=3) Z) (gW x da (bM bs) (eW bs x) Z O.en (Fy hb.2) (λk e H1 s1=>?_) (λc' e=>q.2 c' ?_)))
  ·rw[e]at p
   have a1:gT (dO mk c 2 h) (λk2 o=>o=nk k2 (.ok k)) o:=p;refine(dI (zD (s1 _ _ ha)) (cM (j:=2) Z) (eF (aI mk c (aI 2 h (eX (O.md.same s1 _) (.inr Z) hb.1 O.hl (λk2 e2 H2 s2=>?_) (λc' e2=>(q.2 c' ?_).on s1))))))
   ·rw[e2]at a1
    have a5:o=nk k2 (.ok k):=a1;refine(aI k k2 (aZ (Mg O.bl e) (cl e2) ?_));rw[<- a5];exact q.on (s1.trans s2)
   ·rw[e2]at a1
    exact a1
  ·rw[e]at p
   exact p
 |tell t=>
  obtain⟨Y,_,rfl,J,rfl⟩:=U;obtain⟨r,hk,rfl⟩:=I;refine(dE Z Z (iteKF (no (x:=S "tell") (y:=S "set") (by walk_at"k")) ?_));refine(dE Z Z (iteKF (no (x:=S "tell") (y:=S "send") (by walk_at"k")) ?_));refine(dE Z Z (iteKF (no (x:=S "tell") (y:=S "take") (by walk_at"k")) ?_));refine(bQ (aE Z) (λt9 M=>(gK (jAA (.inr (zD aD)) Z (bP Z (B6 (by show(if false=true then !nO (V.str (S "tell")) [V.str (S "tell"),V.str (S "if")] else nO (V.str (S "tell")) [V.str (S "tell"),V.str (S "if")])=true;decide +kernel) ?_))))));have y:=zA M (.tup [.str (Str.ofString "tell"),.str (Str.ofString "if")]);refine(aQ (zD (y _ _ a2)) Z (aQ (zD (y _ _ ha)) (cM (j:=1) Z) (aC ?_)));exact(aI kv Y (fD da mk.kinds t (bM bs) r (S "num") (aY ((a0 J).same y) rH hk (q.on y))))
 |go g=>
  obtain rfl:o=none:=I;refine(dE Z Z (iteKF (no (x:=S "go") (y:=S "set") (by walk_at"k")) ?_));refine(dE Z Z (iteKF (no (x:=S "go") (y:=S "send") (by walk_at"k")) ?_));refine(dE Z Z (iteKF (no (x:=S "go") (y:=S "take") (by walk_at"k")) ?_));refine(bQ (aE Z) (λt9 M=>(gK (jAA (.inr (zD aD)) Z (bP Z (yN (by show(if false=true then !nO (V.str (S "go")) [V.str (S "tell"),V.str (S "if")] else nO (V.str (S "go")) [V.str (S "tell"),V.str (S "if")])=false;decide +kernel) (q.1 Z _ (zA M _))))))))
 |cond t g=>
  obtain⟨Y,_,rfl,J,_⟩:=U;obtain⟨r,hk,rfl⟩:=I;refine(dE Z Z (iteKF (no (x:=S "if") (y:=S "set") (by walk_at"k")) ?_));refine(dE Z Z (iteKF (no (x:=S "if") (y:=S "send") (by walk_at"k")) ?_));refine(dE Z Z (iteKF (no (x:=S "if") (y:=S "take") (by walk_at"k")) ?_));refine(bQ (aE Z) (λt9 M=>(gK (jAA (.inr (zD aD)) Z (bP Z (B6 (by show(if false=true then !nO (V.str (S "if")) [V.str (S "tell"),V.str (S "if")] else nO (V.str (S "if")) [V.str (S "tell"),V.str (S "if")])=true;decide +kernel) ?_))))));have y:=zA M (.tup [.str (Str.ofString "tell"),.str (Str.ofString "if")]);refine(aQ (zD (y _ _ a2)) Z (aQ (zD (y _ _ ha)) (cM (j:=1) Z) (aC ?_)));exact(aI kv Y (fD da mk.kinds t (bM bs) r (S "num") (aY ((a0 J).same y) rH hk (q.on y))))
 |fin=>
  obtain rfl:o=none:=I;refine(dE Z Z (iteKF (no (x:=S "end") (y:=S "set") (by walk_at"k")) ?_));refine(dE Z Z (iteKF (no (x:=S "end") (y:=S "send") (by walk_at"k")) ?_));refine(dE Z Z (iteKF (no (x:=S "end") (y:=S "take") (by walk_at"k")) ?_));refine(bQ (aE Z) (λt9 M=>(gK (jAA (.inr (zD aD)) Z (bP Z (yN (by show(if false=true then !nO (V.str (S "end")) [V.str (S "tell"),V.str (S "if")] else nO (V.str (S "end")) [V.str (S "tell"),V.str (S "if")])=false;decide +kernel) (q.1 Z _ (zA M _))))))))
def Nk:Sp:=λvs H Q _=>∃(rv:V) (k:Nat) (r:Row),vs=[rv,.int k]/\RelD H rv r.d/\∀a H',Same H H'->H' a=some (.tup ((rX k r).map λi:Nat=>V.int i))->Q (.ref a) H'
def WaysR(H:Hp)(rs:List Row)(ws:List V):Prop:=∀(i:Nat) w,ws[i]?=some w->∃r a,rs[i]?=some r/\w=.ref a/\H a=some (.tup ((rX i r).map λi:Nat=>V.int i))
def WaysR.same(h:WaysR H rs ws)(s:Same H b):WaysR b rs ws:=λi w e=>by
 obtain⟨r,a,g,f,c⟩:=h i w e;exact(eO r a g f (s _ _ c))
def Lg:Sp:=λvs H Q _=>∃(v:V) (rs:List Row),vs=[v]/\RelD H v (.tup (rs.map Row.d))/\rs.length<=100/\∀(b:Addr) (ws:List V) (H':Hp),Same H H'->H' b=some (.lst ws)->WaysR H' rs ws->ws.length=rs.length->Q (.ref b) H'
def Ml(K:Fg):Sp:=λvs H Q E=>∃(v:V) (h:Str) (rs:List Row) (o:Option Nat),vs=[.str h,v]/\RelD H v (.tup (rs.map Row.d))/\rs.length<=50/\h.length<=100/\(∀r∈rs,lD r)/\tL rs o/\Goes' K H Q E o
def Ii(K:Fg):Sp:=λvs H Q E=>∃(mv cv:V) (mk:Mak) (c:cR),vs=[mv,cv]/\RelD H mv mk.d/\MakB mk/\c∈mk.chans/\RelD H cv (fK c)/\Goes' K H Q E (lT mk c)
def xk4(T:Tx K u):DefIs P w K u base (n+1) "row_ways" ["row","k"] Nk:=by
 refine DefIs.of T.jJ xkv (by walk_at"l") (λf y A outer s H vs Q E C h=>?_);obtain⟨z,k,r,rfl,o,q⟩:=h;obtain⟨a,us,rfl,x,l⟩:=tI o
 refine⟨_,(aF (aT (pR bY (px K (pv 0) pI) pS (nM _)) (po (aS (aH (pc (px K (pv 0) pI) pN ss)))) pQ)
   (aF (aT (pR bY (px K (pv 0) pI) pS (nM _)) (po (aS (aH (pc (px K (pv 0) pI) (pc (aN eY (pv 1) pI) pN eI) ss)))) pQ)
   (aF (aT (pR bY (px K (pv 0) pI) pS (nM _)) (po (aS (aH pN))) pQ)
   (po (aS (aH (pc (aN eY (pv 1) pI) pN eI))))))),?_⟩
 have b:SqT K H a (.str r.hd::us):=zD x;have h0:fG (V.str r.hd::us) 0=some (.str r.hd):=cM (j:=0) Z
 cases r with
 |go g=>
  obtain⟨_,_,rfl,rfl,rfl⟩:=l;refine(aQ b h0 (bP Z (iteKT (nP Z) ?_)));exact(aQ b Z ⟨aE Z,λp c=>q p _ (zA c _) aD⟩)
 |cond t g=>
  obtain⟨_,_,rfl,_,_,_,rfl,rfl,rfl⟩:=l;refine(aQ b h0 (bP Z (iteKF (sI (B5 (by intro _ e;cases e))) ?_)));refine(aQ b h0 (bP Z (iteKT (nP Z) ?_)));exact(aQ b Z (aC (fJ (aE Z) (λp c=>q p _ (zA c _) (by rw[aD];rfl)))))
 |fin=>
  refine(aQ b h0 (bP Z (iteKF (sI (B5 (by intro _ e;cases e))) ?_)));refine(aQ b h0 (bP Z (iteKF (sI (Gh (by intro _ _ e;cases e))) ?_)));refine(aQ b h0 (bP Z (iteKT (nP Z) ?_)));exact⟨aE Z,λp c=>q p _ (zA c _) aD⟩
 |_=>
  refine(aQ b h0 (bP Z (iteKF (sI (B5 (by intro _ e;cases e))) ?_)));refine(aQ b h0 (bP Z (iteKF (sI (Gh (by intro _ _ e;cases e))) ?_)));refine(aQ b h0 (bP Z (iteKF (sI (Ro (by intro e;cases e))) ?_)));exact(aC (fJ (aE Z) (λp c=>q p _ (zA c _) (by rw[aD];rfl))))
def Yf(T:Tx K M)(b:DefIs P w K M base n "row_ways" ["row","k"] Nk):DefIs P w K M base (n+1) "ways_of" ["rows"] Lg:=by
 refine DefIs.of T.jI sc_ways_of (by walk_at"l") (λf a0 A outer s H vs Q E hr h=>?_);obtain⟨v,rs,rfl,hv,U,q⟩:=h;have nd:=sc_ways_of.nd;refine(gH (po (aS (iT ["k","row"] [none,none] Z (by kernel_rfl) (Wb Z T.uP (v1 0)) (λ_ _ _ _=>(fI (K:=K) (n:=2) Z Z (aX (dU 0) (aX (dU 1) fE)))) (λ_ _ _ _=>iH) (λ_ _ _ _=>(pd b hr (va 1 (v1 0))))))) ?_);obtain⟨a,us,rfl,O,o⟩:=hv;have hl:=o.length;rw[aM]at hl;refine(aC (dG a Z ⟨_,zD O⟩ ?_));refine Y5 (xs:=us) (λi ys z=>Same H z/\WaysR z rs ys/\ys.length=i) (jAA (Same.refl _) (λi w e=>by simp at e) Z) (cL (by omega)) (λi ys z _ p=>zD (p.1 _ _ O)) ?_ ?_
 ·rintro i x ys z p hx hi y ⟨C,g,l⟩ hp
  obtain⟨d,hd,rd⟩:=o.get hx;rw[dA]at hd;obtain⟨r,G,rfl⟩:=dH hd;have sp:=zA hp (.tup [.int (i:Nat),x]);refine(iX (zD aD) Z Z Z Z ⟨hV Z Z,oK ?_⟩);refine(bJ (aK ⟨r,(eV (rd.same (C.trans sp) _) (λu H2 J Y=>eT hi y (jAA (C.trans (sp.trans J)) (λj w e=>?_) (by rw[bS,List.length_singleton,l]))))⟩));by_cases c:j<ys.length
  ·rw[List.getElem?_append_left c]at e
   exact g.same (sp.trans J) j w e
  ·have I:=(cV e).1
   rw[bS,List.length_singleton]at I;have e0:j=i:=by omega
   subst e0;rw[List.getElem?_append_right (by omega),l,Nat.sub_self]at e;simp at e;exact(eO r u G e.symm Y)
 ·rintro ys z y ⟨C,g,l⟩ D hD
  exact q D ys _ (C.trans (zA hD _)) aD (g.same (zA hD _)) (by omega)
def xia(T:Tx K mg)(l:DefIs P w K mg base n "ways_of" ["rows"] Lg):DefXs P w K mg base (n+1) "look_falls" ["h","rows"] (Ml K):=by
 refine DefXs.of T.kH sc_look_falls (by walk_at"l") (λf aa A outer s H vs Q E hr h=>?_);obtain⟨v,h,rs,o,rfl,hv,a9,hh,hB,fr,q⟩:=h;have nd:=sc_look_falls.nd;have a2:=hv;obtain⟨a,us,rfl,ha,a3⟩:=hv;have hl:=a3.length;rw[aM]at hl
 refine⟨_,(aF (aT (pR bY (bV (dM (K:=K) Z) Z T.uS zH (v1 1)) pI (nM _)) (po (iG Z (iE (T.xt.cl 7 (aA Z)) (T.xt.ini 7 (aA Z) (aA Z)) Z T.vI (pc (gP (eG (fP (pv 0) gO))) pN gQ)))) pQ)
   (po (fM (mU Z Z) Z (oP (K:=K) Z (pd l hr (v1 1))) (bK 2 nd)
   (po (fM (mU Z Z) Z (eJ (K:=K) Z (pv 2)) (bK 3 nd)
   (po (aT (pR Gx (pv 3) (bV (dM (K:=K) Z) Z T.uS zH (v1 1)) (nM _)) (po (iG Z (iE (T.xt.cl 7 (aA Z)) (T.xt.ini 7 (aA Z) (aA Z)) Z T.vI (pc (gP (eG (yY (pv 3) (eG (fP (pv 0) gO))))) pN gQ)))) pQ))))))),aL λR1 a5=>?_⟩
 refine(gV a Z (.inr (zD ha)) (bP Z (aJ (λc1=>?_) (λc1=>a5 _ _ ?_))))
 ·have e0:rs=[]:=by
   have:=V.int.inj (qE c1);exact List.eq_nil_of_length_eq_zero (by omega)
  have eo:o=some 7:=by
   rcases fr with⟨_,z,_⟩ |⟨z,_⟩
   ·exact absurd e0 z
   ·exact z
  have e1:(Str.empty++Str.ofString "no rows in the hand ").length<=20:=by walk_at"k"
  have Y:=cX e1 hh;refine(dY (aB (qC e1 (aA Z))) (dS (aB (qC hh (aA Z))) (aB (qC Y (aA Z))) (aB (qC Y (aA Z))) (aE Z) (λe' U=>?_)));exact(hZ (cAt K 7) none aD (T.xt.cl 7 (aA Z)) (q.2 7 eo _ _ _ (hX U) (bU Z aD)))
 have a4:rs≠[]:=λz=>c1 (by rw[hl,z];exact cS Z);refine(eF ⟨rs,(aZ a2 (by omega) (λb ws H1 s1 hb a1 a7=>?_))⟩);refine(bU ⟨_,zF hb⟩ ?_);refine Dg (xs:=ws) (λi σ H'=>∃o2 C,σ=[some (.str h),some (.ref a),o2,C]/\H'=H1/\∀(j:Nat) r,j<i->rs[j]?=some r->∀g∈rX j r,g<rs.length) (aI none none (cP (λj r hj=>absurd hj (Nat.not_lt_zero _)))) (λi σ H' _ p=>by obtain⟨_,_,_,rfl,_⟩:=p;exact zF hb) ?_ ?_
 ·rintro i w σ H' hw ⟨o2,C,rfl,rfl,I⟩
  obtain⟨r,c,u,rfl,hc⟩:=a1 i w hw;refine(fN ⟨_,zD hc⟩ ?_);refine hJ (xs:=(rX i r).map λi:Nat=>V.int i) (λj σ H2=>∃C,σ=[some (.str h),some (.ref a),some (.ref c),C]/\H2=H'/\∀(k:Nat) g,k<j->(rX i r)[k]?=some g->g<rs.length) ⟨C,(cP (λk g hk=>absurd hk (Nat.not_lt_zero _)))⟩ (λi σ H2 _ p=>by obtain⟨_,_,rfl,_⟩:=p;exact zD hc) ?_ ?_
  ·rintro j y σ H2 hy ⟨C,rfl,rfl,hk⟩
   rw[dA]at hy;obtain⟨g,M,rfl⟩:=dH hy;refine(aC (gV a Z (.inr (zD (s1 _ _ ha))) (fQ Z (aJ (λc2=>?_) (λc2=>?_)))))
   ·have a8:rs.length<=g:=by have:=qE c2;omega
    have eo:o=some 7:=by
     rcases fr with⟨_,_,z⟩ |⟨z,_⟩
     ·have:=z i r u g (cJ M);omega
     ·exact z
    have a6:g<10 ^ 17:=by
     have a0:=hB r (cJ u);have hi:=(cV u).1;have x:=cJ M
     cases r with
     |go g'=>rw[cD x];exact a0
     |cond t g'=>
      rcases gD x with rfl |x
      ·exact a0
      ·rw[cD x];omega
     |fin=>cases x
     |set _ _=>rw[cD x];omega
     |send _ _=>rw[cD x];omega
     |take _ _ _=>rw[cD x];omega
     |tell _=>rw[cD x];omega
    have e1:(Str.empty++Str.ofString "a way to no row, ").length<=17:=by walk_at"k"
    have ei:=A4 (i:=(g:Int)) (by omega) (by omega);have Y:=cX e1 ei;have e3:(Str.ofString ", in the hand ").length<=14:=by walk_at"k"
    have l3:=cX Y e3;have l4:=cX l3 hh;refine(dY (aB (qC e1 (aA Z))) (aZ (Ag (by omega)) (aB (qC Y (aA Z))) (dY (aB (qC l3 (aA Z))) (dS (aB (qC hh (aA Z))) (aB (qC l4 (aA Z))) (aB (qC l4 (aA Z))) (aE Z) (λe' U=>?_)))));exact(hZ (cAt K 7) none aD (T.xt.cl 7 (aA Z)) (q.2 7 eo _ _ _ (s1.trans (hX U)) (bU Z aD)))
   ·refine(bU Z (λk g' J O=>?_))
    by_cases e:k=j
    ·rw[e,M]at O
     cases O;have hn:¬((us.length:Int)<=(g:Int)):=λz=>c2 (cS z);omega
    ·exact hk k g' (by omega) O
  ·rintro σ H2 ⟨C,rfl,rfl,hk⟩
   refine(aK (cP (λj r' hj G g hg=>?_)));by_cases e:j=i
   ·subst e
    rw[u]at G;cases G;obtain⟨k,J⟩:=List.getElem?_of_mem hg;exact hk k g (by rw[aM];exact(cV J).1) J
   ·exact I j r' (by omega) G g hg
 ·rintro σ H' ⟨o2,C,rfl,rfl,I⟩
  refine q.1 ?_ _ s1;rcases fr with⟨z,_⟩ |⟨_,z |⟨i,r,g,h1,h2,h3⟩⟩
  ·exact z
  ·exact absurd z a4
  ·have:=I i r (by have:=(cV h1).1;omega) h1 g h2
   omega
def xgw(T:Tx K J)(g:DefIs P w K J base n "hand_of" qao Mm)(a:DefXs P w K J base n "need_there" qad (Ae K)):DefXs P w K J base (n+1) "look_channel" qa2 (Ii K):=by
 refine DefXs.of T.kD sc_look_channel (by walk_at"l") (λf a5 A outer s H vs Q E hr h=>?_);obtain⟨mv,cv,mk,c,rfl,hm,mb,a0,hc,q⟩:=h;have nd:=sc_look_channel.nd;obtain⟨b,ws,rfl,hb,_,_,rfl,rfl,_,_,rfl,rfl,_,_,rfl,rfl,_,_,rfl,rfl,rfl⟩:=hc;obtain⟨ma,kv,cv,r,rfl,M,O,_,_⟩:=gG hm;obtain⟨_,a4,a3,a2⟩:=mb.cs c a0
 refine⟨_,(aF (fM (mU Z Z) Z (eJ (K:=K) Z (aH (pc (px K (pv 1) (rP T.uL)) (pc (px K (pv 1) (rP T.uM)) pN ss) ss))) (bK 2 nd)
   (po (aT (pR wC (pd g hr (va 0 (v1 2))) nX (nM _)) (po (iG Z (iE (T.xt.cl 2 (aA Z)) (T.xt.ini 2 (aA Z) (aA Z)) Z T.vD (pc (gP (eG (fP (pv 2) gO))) pN gQ)))) pQ)))
   (po (cT (cN a hr (pc (px K (pv 0) pI) (pc (px K (pv 1) pI) pN ss) ss))))),aL λR1 a1=>?_⟩
 refine(aQ (zD hb) (cM (j:=1) Z) (aQ (zD hb) (cM (j:=2) Z) ⟨aE Z,λt ht=>?_⟩));have y:=zA ht (.tup [.str c.2.1,.str c.2.2.1]);have l:upd H t (.tup [.str c.2.1,.str c.2.2.1]) t=some (.tup [.str c.2.1,.str c.2.2.1]):=aD;generalize upd H t (.tup [.str c.2.1,.str c.2.2.1])=H1 at y l⊢;refine(bU ⟨_,zD l⟩ ?_);refine hJ (xs:=[.str c.2.1,.str c.2.2.1]) (λi σ C=>∃I,σ=[some (.ref ma),some (.ref b),I]/\C=H1/\(1<=i->∃h,iD mk c.2.1=some h)/\(2<=i->∃h,iD mk c.2.2.1=some h)) (cZ none Z (eV (λz=>absurd z (aA Z)) (λz=>absurd z (aA Z)))) (λi σ C _ p=>by obtain⟨_,_,rfl,_⟩:=p;exact zD l) ?_ ?_
 ·rintro i v σ C r ⟨I,rfl,rfl,G,p2⟩
  obtain⟨x,rfl,hx,hn,hy⟩:∃x,v=.str x/\x.length<=50/\(iD mk x=none->lT mk c=some 2)/\∀h,iD mk x=some h->(1<=i+1->∃h,iD mk c.2.1=some h)/\(2<=i+1->∃h,iD mk c.2.2.1=some h):=by
   match i with
   |0=>
    cases r;exact(bU a4 ⟨(λe=>by unfold lT;rw[e]),λh e=>⟨λ_=>⟨h,e⟩,λz=>absurd z (aA Z)⟩⟩)
   |1=>
    cases r;obtain⟨h1,o⟩:=G (aA Z);exact(bU a3 ⟨(λe=>by unfold lT;rw[o];dsimp only;rw[e]),λh e=>⟨λ_=>⟨h1,o⟩,λ_=>⟨h,e⟩⟩⟩)
   |j+2=>cases r
  refine(aC (eF (aI x mk (aZ (hm.same y _) (λhd U u hu=>?_) (λU=>?_)))))
  ·obtain⟨a',bv,rv,rfl,_⟩:=mF hu
   obtain⟨y1,y2⟩:=hy hd U;exact(lF (iteKF (cW λz=>nomatch z) ⟨_,(cP ⟨y1,y2⟩)⟩))
  ·refine(lF (iteKT (cS Z) ?_))
   have o:(Str.empty++Str.ofString "no hand ").length<=8:=by walk_at"k"
   have l2:=cX o hx;refine(dY (aB (qC o (aA Z))) (dS (aB (qC hx (aA Z))) (aB (qC l2 (aA Z))) (aB (qC l2 (aA Z))) (aE Z) (λe' Y=>?_)));exact(hZ (cAt K 2) none aD (T.xt.cl 2 (aA Z)) (q.2 2 (hn U) _ _ _ (y.trans (hX Y)) (bU Z aD)))
 ·rintro σ C ⟨I,rfl,rfl,G,p2⟩
  refine a1 _ _ ?_;obtain⟨h1,o⟩:=G (by show 1<=2;decide);obtain⟨h2,e2⟩:=p2 (by show 2<=2;decide);have er:lT mk c=iN mk.kinds c.2.2.2:=by unfold lT;rw[o];dsimp only;rw[e2]
  rw[er]at q;exact(aQ (zD (y _ _ M)) Z (aQ (zD (y _ _ hb)) Z (aI kv mk.kinds (gH Z (jAA (B7 (O.same y _) mb.ka) a2 (q.on y))))))
def Ai{B:Option Nat->Prop}(h:iC (lI (nR ns)) B o):(ns.Nodup->B o)/\(¬ns.Nodup->o=some 1):=by
 unfold lI nR at h;refine⟨λz=>?_,λz=>?_⟩
 ·rw[if_pos z]at h
  rcases h with⟨c,e,_⟩ |⟨_,b⟩
  ·cases e
  ·exact b
 ·rw[if_neg z]at h
  rcases h with⟨c,e,a⟩ |⟨e,_⟩
  ·rw[a];exact e
  ·cases e
def xM{α:Type}{R:α->Option Nat->Prop}{C:Option Nat->Prop}{l:List α}{o:Option Nat}{i:Nat}{a:α}(j:l[i]?=some a)(h:iC (SeqR R (l.drop i)) C o):(∃c,R a (some c)/\o=some c)\/(R a none/\iC (SeqR R (l.drop (i+1))) C o):=by
 rcases h with⟨c,h,e⟩ |⟨h,p⟩
 ·rcases h.step j with⟨r,b,g⟩ |⟨b,f⟩
  ·cases g;exact .inl (cZ c b e)
  ·exact .inr ⟨b,.inl (cZ c f e)⟩
 ·rcases h.step j with⟨r,b,g⟩ |⟨b,f⟩
  ·cases g
  ·exact .inr ⟨b,.inr ⟨f,p⟩⟩
def Du{α:Type}{R:α->Option Nat->Prop}{C:Option Nat->Prop}{l:List α}{o:Option Nat}(hn:n=l.length)(h:iC (SeqR R (l.drop n)) C o):C o:=by
 rw[hn,List.drop_length]at h;rcases h with⟨c,h,_⟩ |⟨_,h⟩
 ·cases h
 ·exact h
def Ij(K:Fg):Sp:=λvs H Q E=>∃(mv hv:V) (mk:Mak) (h:Hand) (o:Option Nat),vs=[mv,hv]/\RelD H mv mk.d/\MakB mk/\h∈mk.hands/\RelD H hv h.d/\pO mk h o/\Goes' K H Q E o
def Bf(K:Fg):Sp:=λvs H Q E=>∃(mv:V) (mk:Mak) (o:Option Nat),vs=[mv]/\RelD H mv mk.d/\MakB mk/\nQ mk o/\(o=none->∀H',Same H H'->Q (.bl true) H')/\∀c,o=some c->Fails K H E c
def xjl(T:Tx K mg)(g:DefXs P w K mg base n "need_once" qah (wI K))(C:DefXs P w K mg base n "need_there" qad (Ae K))(M:DefXs P w K mg base n "look_row" qa4 (Lc K))(G:DefXs P w K mg base n "look_falls" ["h","rows"] (Ml K)):DefXs P w K mg base (n+1) "look_hand" qa3 (Ij K):=by
 refine DefXs.of T.kE sc_look_hand (by walk_at"l") (λf bb A outer s H vs Q E hr h=>?_);obtain⟨mv,hv,mk,h,o,rfl,hm,mb,ar,hh,b4,q⟩:=h;have nd:=sc_look_hand.nd;have U:=mb.hs h ar;have h5:=U.b;have b8:h.name.length<=50:=U.nm;have b9:=U.r;obtain⟨ma,kv,cv,hv,rfl,am,aq,_,_⟩:=gG hm;obtain⟨a,bv,rv,rfl,ha,av,a9⟩:=mF hh;have a8:=a9;obtain⟨ba,ub,rfl,a3,hB⟩:=av;obtain⟨ra,ur,rfl,a4,hR⟩:=a9;have ao:=hB.length;have an:=hR.length;rw[aM]at ao an
 refine⟨_,(aF (aR 2 nd (px K (pv 1) pI))
   (aF (aR 3 nd (px K (pv 1) pI))
   (aF (cT (cN g hr (pc (iT ["box"] [none] Z (by kernel_rfl) (eJ (K:=K) Z (px K (pv 1) pI)) (λ_ _ _ _=>(dU 0)) (λ_ _ _ _=>iH) (λ_ _ _ _=>(px K (pv 0) pI))) (pc (gP (eG (fP (pv 2) gO))) pN gQ) oB)))
   (aF (cT (cN g hr (pc (iT ["row"] [none] Z (by kernel_rfl) (eJ (K:=K) Z (pv 3)) (λ_ _ _ _=>(dU 0)) (λ_ _ _ _=>(pW (pR bY (px K (pv 0) pI) pS (nM _)))) (λ_ _ _ _=>(px K (pv 0) pI))) (pc (gP (eG (fP (pv 2) gO))) pN gQ) oB)))
   (aF (fM (mU Z Z) Z (eJ (K:=K) Z (px K (pv 1) pI)) (bK 4 nd)
   (po (cT (cN C hr (pc (px K (pv 0) pI) (pc (px K (pv 4) pI) pN ss) ss)))))
   (aF (aR 5 nd (hH (Yt Z) Z T.uO PyProof.Rows.boot_dict (pc (px K (pv 1) pI) pN ss)))
   (aF (fM (mU Z Z) Z (eJ (K:=K) Z (pv 3)) (bK 6 nd)
   (po (cT (cN M hr (va 0 (va 2 (va 5 (v1 6))))))))
   (po (cT (cN G hr (va 2 (v1 3)))))))))))),aL λR1 b3=>?_⟩
 refine(aQ (zD ha) Z (b3 _ _ (aL λR2 b2=>?_)));refine(aQ (zD ha) Z (b2 _ _ (aL λR3 b1=>?_)));refine(aQ (zD ha) Z (bU ⟨_,zD a3⟩ ?_));refine oA (xs:=ub) (λi ys J=>J=H/\ys=((h.boxes.take i).map (·.1)).map V.str) ⟨Z,Z⟩ (cL (by omega)) (λi ys J _ p=>by rw[p.1];exact zD a3) ?_ ?_
 ·rintro i y ys J hy hi Y ⟨rfl,rfl⟩
  obtain⟨b,pb,a1,rfl,hb⟩:=mX hB hy;refine⟨lR Z,oK (aQ (zD hb) (cM (j:=0) Z) (eT hi Y ⟨Z,?_⟩))⟩;rw[gA,a1,bZ,bZ];rfl
 rintro ys H1 Y ⟨rfl,rfl⟩ D1 b5;rw[fH (by omega)];have s1:=zA b5 (.lst ((h.boxes.map (·.1)).map V.str));have I:(Str.empty++Str.ofString "boxes of the hand ").length=18:=by walk_at"k"
 refine(dY (aB (by rw[I];decide)) (aY (aB (by omega)) (aB (by rw[Str.length_append,I];omega)) (aB (by rw[Str.length_append,I];omega)) ?_));obtain⟨af,a7⟩:=Ai b4;refine⟨D1,(aV (h.boxes.map (·.1)) (dS aD (by rw[aM];omega) (by rw[Str.length_append,I];omega) (λah=>b1 _ _ (aL λR4 b0=>?_)) (λz=>(q.2 1 (a7 z)).on s1)))⟩;obtain⟨ae,a6⟩:=Ai (af ah);generalize upd H1 D1 (.lst ((h.boxes.map (·.1)).map V.str))=H2 at s1⊢;refine(fN ⟨_,zD (s1 _ _ a4)⟩ ?_);refine oA (xs:=ur) (λi ys J=>J=H2/\ys=((h.rows.take i).filterMap cU).map V.str) ⟨Z,Z⟩ (cL (by omega)) (λi ys J _ p=>by rw[p.1];exact zD (s1 _ _ a4)) ?_ ?_
 ·rintro i y ys J hy hi Y ⟨rfl,rfl⟩
  obtain⟨d,a2,rd⟩:=hR.get hy;rw[dA]at a2;obtain⟨r,a5,rfl⟩:=dH a2;obtain⟨b,us,rfl,hb,al⟩:=tI rd
  have tk:(h.rows.take (i+1)).filterMap cU=(h.rows.take i).filterMap cU++[r].filterMap cU:=by
   rw[gA,a5,<- List.filterMap_append];rfl
  refine⟨lR Z,?_⟩;refine(aQ (zD (s1 _ _ hb)) (cM (j:=0) Z) (bP Z ?_))
  cases r with
  |take l c x=>
   obtain⟨_,b7,rfl,rfl,_⟩:=al;refine iteKT (nP Z) (aQ (zD (s1 _ _ hb)) (cM (j:=1) Z) (eT hi Y ⟨Z,?_⟩));rw[tk,bZ];rfl
  |_=>
   refine iteKF (sI (Tw (by intro _ _ _ e;cases e))) (iK hi Y ⟨Z,?_⟩);rw[tk];exact congrArg _ (List.append_nil _).symm
 rintro ys H3 Y ⟨rfl,rfl⟩ D2 ag;rw[fH (by omega)];have s2:=zA ag (.lst ((h.rows.filterMap cU).map V.str));have I:(Str.empty++Str.ofString "takes of the hand ").length=18:=by walk_at"k"
 refine(dY (aB (by rw[I];decide)) (aY (aB (by omega)) (aB (by rw[Str.length_append,I];omega)) (aB (by rw[Str.length_append,I];omega)) ?_));refine⟨D2,(aV (h.rows.filterMap cU) (dS aD (by have:=List.length_filterMap_le cU h.rows;omega) (by rw[Str.length_append,I];omega) (λak=>b0 _ _ (aL λR5 az=>?_)) (λz=>(q.2 1 (a6 z)).on (s1.trans s2))))⟩;have ac:=ae ak;have u:=s1.trans s2;generalize upd H3 D2 (.lst ((h.rows.filterMap cU).map V.str))=H4 at u⊢;clear s1 s2 ag;refine(aQ (zD (u _ _ ha)) Z (bU ⟨_,zD (u _ _ a3)⟩ ?_));refine hJ (xs:=ub) (λi σ J=>∃o4,σ=[some (.ref ma),some (.ref a),some (.str h.name),some (.ref ra),o4,none,none]/\Same H4 J/\iC (SeqR (λb=>lI (iN mk.kinds b.2)) (h.boxes.drop i)) (iC (SeqR (lW mk h.name h.boxes) h.rows) (tL h.rows)) o) (dG none Z (Same.refl _) ac) (λi σ J _ p=>by obtain⟨_,_,sm,_⟩:=p;exact zD (sm _ _ (u _ _ a3))) ?_ ?_
 ·rintro i v σ J hv ⟨o4,rfl,sm,hq⟩
  obtain⟨b,pb,a1,rfl,hb⟩:=mX hB hv;have s0:=u.trans sm;have aw:=(U.bs pb (cJ a1)).2;refine(aQ (zD (s0 _ _ am)) Z (aQ (zD (s0 _ _ hb)) Z (aI kv mk.kinds (gH Z (jAAA (B7 (aq.same s0 _) mb.ka) aw (λe bc aj=>?_) (λc e=>?_))))))
  ·rcases xM a1 hq with⟨c,z,_⟩ |⟨_,z⟩
   ·have z':some c=iN mk.kinds pb.2:=z
    rw[e]at z';cases z'
   ·exact(bU (sm.trans aj) z)
  ·rcases xM a1 hq with⟨c',z,e2⟩ |⟨z,_⟩
   ·have z':some c'=iN mk.kinds pb.2:=z
    rw[e]at z';cases z';exact(q.2 c e2).on s0
   ·have z':none=iN mk.kinds pb.2:=z
    rw[e]at z';cases z'
 rintro σ J ⟨o4,rfl,ai,hq⟩;have ab:=Du (by omega) hq
 replace u:=u.trans ai
 refine az _ _ (aL λR6 ay=>?_);refine(aQ (zD (u _ _ ha)) Z (aP ba ub (nC h.boxes) (aZ (u _ _ a3) (M5 (hB.same u _)) (λdp au=>ay _ _ (aL λR7 ax=>?_)))));have s3:=zA au (.dK (lH [] (nC h.boxes)));have en:=Um ah (show upd J dp (.dK (lH [] (nC h.boxes))) dp=some (.dK (lH [] (nC h.boxes))) from aD);have a0:=u.trans s3;generalize upd J dp (.dK (lH [] (nC h.boxes)))=H5 at en a0⊢
 have b6:EnAt H5 dp 100 (bM h.boxes):=by
  obtain⟨kvs,z1,z2,z3⟩:=en;exact(dG kvs z1 (by omega) z3)
 refine(fN ⟨_,zD (a0 _ _ a4)⟩ ?_);refine hJ (xs:=ur) (λi σ J=>∃o6,σ=[some (.ref ma),some (.ref a),some (.str h.name),some (.ref ra),o4,some (.ref dp),o6]/\Same H5 J/\iC (SeqR (lW mk h.name h.boxes) (h.rows.drop i)) (tL h.rows) o) (dG none Z (Same.refl _) ab) (λi σ J _ p=>by obtain⟨_,_,sm,_⟩:=p;exact zD (sm _ _ (a0 _ _ a4))) ?_ ?_
 ·rintro i v σ H6 hv ⟨o6,rfl,sm,hq⟩
  obtain⟨d,a2,rd⟩:=hR.get hv;rw[dA]at a2;obtain⟨r,a5,rfl⟩:=dH a2;have O:=a0.trans sm;have li:LIn H6 (.ref ma) mk h.name dp h.boxes:=⟨hm.same O _,mb,by omega,b6.same sm,λb hb=>(U.bs b hb).2⟩;have rb:=U.rs r (cJ a5);rcases xM a5 hq with⟨c,z,e2⟩ |⟨z,zn⟩
  ·exact(gC (eF (aI v mk (aI h.name dp (aP h.boxes r (some c) (eX li (rd.same O _) rb z (λe=>nomatch e) (λc' e=>by cases e;exact(q.2 c e2).on O)))))))
  ·exact(gC (eF (aI v mk (aI h.name dp (aP h.boxes r none (eX li (rd.same O _) rb z (λ_ H7 s7=>(bU (sm.trans s7) zn)) (λc' e=>nomatch e)))))))
 ·rintro σ H6 ⟨o6,rfl,sm,hq⟩
  have O:=a0.trans sm;have aa:=Du (by omega) hq;exact ax _ _ (aC (eF (aP h.name h.rows o (eX (a8.same O _) (by omega) (by omega) U.rs aa (q.on O)))))
def Uh(T:Tx K mg)(l:DefXs P w K mg base n "look_kinds" ["kinds"] (O4 K))(a:DefXs P w K mg base n "need_once" qah (wI K))(g:DefXs P w K mg base n "look_channel" qa2 (Ii K))(u:DefXs P w K mg base n "look_hand" qa3 (Ij K)):DefXs P w K mg base (n+1) "look" ["make"] (Bf K):=by
 refine DefXs.of T.kC sc_look (by walk_at"l") (λf am A outer s H vs Q E hr h=>?_);obtain⟨mv,mk,o,rfl,hm,mb,a6,q,qf⟩:=h;have nd:=sc_look.nd;have h4:=mb.h;have h7:=mb.c;obtain⟨ma,kv,cv,hv,rfl,O,a8,aa,a9⟩:=gG hm;obtain⟨ca,uc,rfl,a1,a3⟩:=aa;obtain⟨ha,uh,rfl,a0,a2⟩:=a9;have a7:=a3.length;have a4:=a2.length;rw[aM]at a7 a4
 refine⟨_,(aF (cT (cN l hr (pc (px K (pv 0) pI) pN ss)))
   (aF (cT (cN a hr (pc (iT ["hand"] [none] Z (by kernel_rfl) (eJ (K:=K) Z (px K (pv 0) pI)) (λ_ _ _ _=>(dU 0)) (λ_ _ _ _=>iH) (λ_ _ _ _=>(px K (pv 0) pI))) (pc pS pN aG) oB)))
   (aF (cT (cN a hr (pc (iT ["channel"] [none] Z (by kernel_rfl) (eJ (K:=K) Z (px K (pv 0) pI)) (λ_ _ _ _=>(dU 0)) (λ_ _ _ _=>iH) (λ_ _ _ _=>(px K (pv 0) pI))) (pc pS pN aG) oB)))
   (aF (fM (mU Z Z) Z (eJ (K:=K) Z (px K (pv 0) pI)) (bK 1 nd)
   (po (cT (cN g hr (va 0 (v1 1))))))
   (aF (fM (mU Z Z) Z (eJ (K:=K) Z (px K (pv 0) pI)) (bK 2 nd)
   (po (cT (cN u hr (va 0 (v1 2))))))
   (po (aS rF))))))),aL λR1 ag=>?_⟩
 refine(aQ (zD O) Z (aI kv mk.kinds (aY a8 mb.ka (λek H1 s1=>ag _ _ (aL λR2 af=>?_)) (λc e=>?_))))
 rotate_left
 ·rcases a6 with⟨c',z,e2⟩ |⟨z,_⟩
  ·have x:some c'=dB [] mk.kinds:=z
   rw[e]at x;cases x;exact qf c e2
  ·have x:none=dB [] mk.kinds:=z
   rw[e]at x;cases x
 have a5:iC (lI (nR (mk.hands.map Hand.name))) (iC (lI (nR (mk.chans.map (·.1)))) (iC (SeqR (λc=>lI (lT mk c)) mk.chans) (SeqR (pO mk) mk.hands))) o:=by
  rcases a6 with⟨c',z,e2⟩ |⟨_,z⟩
  ·have x:some c'=dB [] mk.kinds:=z
   rw[ek]at x;cases x
  ·exact z
 obtain⟨hA,ak⟩:=Ai a5;refine(aQ (zD (s1 _ _ O)) Z (bU ⟨_,zD (s1 _ _ a0)⟩ ?_));refine oA (xs:=uh) (λi ys J=>J=H1/\ys=((mk.hands.take i).map Hand.name).map V.str) ⟨Z,Z⟩ (cL (by omega)) (λi ys J _ p=>by rw[p.1];exact zD (s1 _ _ a0)) ?_ ?_
 ·rintro i y ys J hy hi U ⟨rfl,rfl⟩
  obtain⟨d,C,rd⟩:=a2.get hy;rw[dA]at C;obtain⟨h,hh,rfl⟩:=dH C;obtain⟨b,bv,rv,rfl,hb,_⟩:=mF rd;refine⟨lR Z,oK (aQ (zD (s1 _ _ hb)) (cM (j:=0) Z) (eT hi U ⟨Z,?_⟩))⟩;rw[gA,hh,bZ,bZ];rfl
 rintro ys H2 U ⟨rfl,rfl⟩ D1 ai;rw[fH (by omega)];have s2:=zA ai (.lst ((mk.hands.map Hand.name).map V.str));refine⟨D1,(aV (mk.hands.map Hand.name) (dS aD (by rw[aM];omega) (by walk_at"k") (λhnd=>af _ _ (aL λR3 ae=>?_)) (λz=>(qf 1 (ak z)).on (s1.trans s2))))⟩;obtain⟨hB,aj⟩:=Ai (hA hnd);have G:=s1.trans s2;generalize upd H2 D1 (.lst ((mk.hands.map Hand.name).map V.str))=H3 at G⊢;refine(aQ (zD (G _ _ O)) Z (bU ⟨_,zD (G _ _ a1)⟩ ?_));refine oA (xs:=uc) (λi ys J=>J=H3/\ys=((mk.chans.take i).map (·.1)).map V.str) ⟨Z,Z⟩ (cL (by omega)) (λi ys J _ p=>by rw[p.1];exact zD (G _ _ a1)) ?_ ?_
 ·rintro i y ys J hy hi U ⟨rfl,rfl⟩
  obtain⟨b,c,hc,rfl,hb⟩:=rT a3 hy;refine⟨lR Z,oK (aQ (zD (G _ _ hb)) (cM (j:=0) Z) (eT hi U ⟨Z,?_⟩))⟩;rw[gA,hc,bZ,bZ];rfl
 rintro ys H4 U ⟨rfl,rfl⟩ D2 ah;rw[fH (by omega)];have s3:=zA ah (.lst ((mk.chans.map (·.1)).map V.str));refine⟨D2,(aV (mk.chans.map (·.1)) (dS aD (by rw[aM];omega) (by walk_at"k") (λal=>ae _ _ (aL λR4 ac=>?_)) (λz=>(qf 1 (aj z)).on (G.trans s3))))⟩;have hC:=hB al;have I:=G.trans s3;generalize upd H4 D2 (.lst ((mk.chans.map (·.1)).map V.str))=H5 at I⊢;refine(aQ (zD (I _ _ O)) Z (bU ⟨_,zD (I _ _ a1)⟩ ?_));refine hJ (xs:=uc) (λi σ J=>∃o1,σ=[some (.ref ma),o1,none]/\Same H5 J/\iC (SeqR (λc=>lI (lT mk c)) (mk.chans.drop i)) (SeqR (pO mk) mk.hands) o) (dG none Z (Same.refl _) hC) (λi σ J _ p=>by obtain⟨_,_,sm,_⟩:=p;exact zD (sm _ _ (I _ _ a1))) ?_ ?_
 ·rintro i v σ H6 hv ⟨o1,rfl,sm,hq⟩
  obtain⟨d,C,rd⟩:=a3.get hv;rw[dA]at C;obtain⟨c,hc,rfl⟩:=dH C;have r:=I.trans sm;refine(aC (eF (aP v mk c (eX (hm.same r _) mb (cJ hc) (rd.same r _) (λe H7 s7=>?_) (λc' e=>?_)))))
  ·rcases xM hc hq with⟨c',z,_⟩ |⟨_,z⟩
   ·have x:some c'=lT mk c:=z
    rw[e]at x;cases x
   ·exact(bU (sm.trans s7) z)
  ·rcases xM hc hq with⟨c2,z,e2⟩ |⟨z,_⟩
   ·have x:some c2=lT mk c:=z
    rw[e]at x;cases x;exact(qf c' e2).on r
   ·have x:none=lT mk c:=z
    rw[e]at x;cases x
 rintro σ H6 ⟨o1,rfl,sm,hq⟩;have hE:SeqR (pO mk) mk.hands o:=Du (by omega) hq;refine ac _ _ (aL λR5 ab=>?_);have r:=I.trans sm;refine(aQ (zD (r _ _ O)) Z (bU ⟨_,zD (r _ _ a0)⟩ ?_));refine hJ (xs:=uh) (λi σ J=>∃o2,σ=[some (.ref ma),o1,o2]/\Same H6 J/\SeqR (pO mk) (mk.hands.drop i) o) (dG none Z (Same.refl _) hE) (λi σ J _ p=>by obtain⟨_,_,sm,_⟩:=p;exact zD (sm _ _ (r _ _ a0))) ?_ ?_
 ·rintro i v σ H7 hv ⟨o2,rfl,Y,hq⟩
  obtain⟨d,C,rd⟩:=a2.get hv;rw[dA]at C;obtain⟨h,hh,rfl⟩:=dH C;have M:=r.trans Y;rcases hq.step hh with⟨c,z,e2⟩ |⟨z,zn⟩
  ·exact(aC (eF (aI v mk (aI h (some c) (aY (hm.same M _) mb (cJ hh) (jAAA (rd.same M _) z (λe=>nomatch e) (λc' e=>by cases e;exact(qf c e2).on M)))))))
  ·exact(aC (eF (aI v mk (aI h none (aY (hm.same M _) mb (cJ hh) (jAAA (rd.same M _) z (λ_ H8 s8=>(bU (Y.trans s8) zn)) (λc' e=>nomatch e)))))))
 ·rintro σ H7 ⟨o2,rfl,Y,hq⟩
  rw[a4,List.drop_length]at hq;exact ab _ _ (q hq _ (r.trans Y))
def B8{H:Hp}{us:List V}{ks:List Kn}(g:RelDs H us (ks.map Kn.d)){i:Nat}{v:V}(a:us[i]?=some v):∃(b:Addr) (k:Kn) (pv:V),ks[i]?=some k/\v=.ref b/\H b=some (.tup [.str k.name,.str k.sort,pv])/\RelD H pv (lG k.parts):=by
 obtain⟨d,hd,rd⟩:=g.get a;rw[dA]at hd;obtain⟨k,e,rfl⟩:=dH hd;obtain⟨b,ws,rfl,f,_,_,rfl,rfl,_,_,rfl,rfl,pv,_,rfl,c,rfl⟩:=rd;exact(aI b k (cZ pv e (eV f c)))
def Mo:Sp:=λvs H Q _=>∃(mv hv:V) (mk:Mak) (hd:Hand),vs=[mv,hv]/\RelD H mv mk.d/\RelD H hv hd.d/\BIn mk.kinds mk.chans hd.boxes/\mk.chans.length<=10/\hd.boxes.length<=10/\∀l ws H',BLs mk.kinds mk.chans hd.name hd.boxes H H' l ws 126->Q (.ref l) H'
def Yh(T:Tx K mg)(x:DefIs P w K mg base n "nought_term" qad (lA cH 6)):DefIs P w K mg base (n+1) "_law_wholes" qbf Mo:=by
 refine DefIs.of T.uC scl_wholes (by walk_at"l") (λf c0 A outer s H vs Q E hr h=>?_);obtain⟨mv,hv,mk,hd,rfl,hm,hh,g,bq,br,q⟩:=h;have nd:=scl_wholes.nd;have h6:=g.few;obtain⟨ma,kv,cv,bt,rfl,a3,ag,b8,_⟩:=gG hm;obtain⟨a,bv,rv,rfl,ha,bf,_⟩:=mF hh;obtain⟨ka,uk,rfl,ah,ak⟩:=id ag;obtain⟨ca,uc,rfl,ai,al⟩:=b8;obtain⟨ba,ub,rfl,aj,am⟩:=bf;have aw:=ak.length;have ax:=al.length;have ay:=am.length;rw[aM]at aw ax ay
 refine⟨_,(aF (aR 2 nd (fU pN))
   (aF (fM zI Z (eJ (K:=K) Z (px K (pv 0) pI)) (fI (K:=K) Z Z (aX (bK 3 nd) (aX (bK 4 nd) (aX (bK 5 nd) fE))))
   (aF (aR 6 nd (pd x hr (pc (px K (pv 0) pI) (v1 3) ss)))
   (aF (cT (gM zG zK zJ gZ (pv 2) (pc (aH (pc (aH (pc pS (va 6 (pc pI pN aG)) aG)) (pc pS pN aG) sT)) pN sT)))
   (aF (aR 2 nd (aN mO (pv 2) (iT ["_law_x","_law_told","_law_whole","_law_name"] [none,none,some 6,some 3] Z (by kernel_rfl) (eJ (K:=K) Z (px K (pv 1) pI)) (λ_ _ _ _=>(fI (K:=K) (n:=2) Z Z (aX (dU 0) (aX (dU 1) fE)))) (λ_ _ _ _=>(pW (pR mM (pv 1) (pv 3) (nM _)))) (λ_ _ _ _=>(aH (pc (aH (pc pS (va 0 (v1 2)) aG)) (pc pS pN aG) sT))))))
   (aF (pB (i:=7) ["_law_c","_law_come","_law_to","_law_kind","_law_name","_law_hand"] [none,none,none,none,some 3,some 1] Z (by kernel_rfl) nd Z (by first |exact Or.inl Z |exact Or.inr rfl) (eJ (K:=K) Z (px K (pv 0) pI)) (λ_ _ _ _=>(fI (K:=K) (n:=4) Z Z (aX (dU 0) (aX (dU 1) (aX (dU 2) (aX (dU 3) fE)))))) (λ_ _ _ _=>(pW (PW.pt (iF (pR bY (pv 1) (px K (pv 5) pI) (nM _)) (iQ (pR mM (pv 3) (pv 4) (nM _))))))) (λ_ _ _ _=>(pv 0)))
   (po (aR 2 nd (aN mO (pv 2) (iT ["_law_c","_law_whole"] [none,some 6] Z (by kernel_rfl) (oP (K:=K) Z (pv 7)) (λ_ _ _ _=>(dU 0)) (λ_ _ _ _=>iH) (λ_ _ _ _=>(aH (pc (aH (pc pS (va 0 (v1 1)) aG)) (pc pS pN aG) sT))))))))))))
   (po (aS (pv 2))))),aL λR1 bm=>?_⟩
 refine⟨aE Z,λl0 b4=>bm _ _ (aL λR2 bl=>?_)⟩;have b0:BLs mk.kinds mk.chans hd.name hd.boxes H _ l0 [] 0:=BLs.nil (Same.refl _) b4;refine(aQ (zD (b0.sm _ _ a3)) Z (bU ⟨_,zD (b0.sm _ _ ah)⟩ ?_));refine hJ (xs:=uk) (λi σ C=>∃(l:Addr) (ws:List V) (o3 o4 o5 o6 o7:Option V),σ=[some (.ref ma),some (.ref a),some (.ref l),o3,o4,o5,o6,o7]/\BLs mk.kinds mk.chans hd.name hd.boxes H C l ws (21*i)) (fD l0 ([]) none none none none (cZ none Z b0)) (λi σ C _ p=>by obtain⟨_,_,_,_,_,_,_,_,b⟩:=p;exact zD (b.sm _ _ ah)) ?_ ?_
 ·rintro i v σ H1 hv ⟨l,ws,o3,o4,o5,o6,o7,rfl,b1⟩
  obtain⟨kb,k,pv,hk,rfl,b7,bu⟩:=B8 ak hv;have hi:i<uk.length:=(cV hv).1;have Y:=cJ hk;have bz:=b1.len;refine(gK (jAA (zD (b1.sm _ _ b7)) Z (aK ⟨Z,(aK ⟨Z,(aW Z (aL λS1 bj=>?_))⟩)⟩)));refine(aQ (zD (b1.sm _ _ a3)) Z (eF (aK (aY (ag.same b1.sm _) g.wf (hU g Y) (λu H2 s2 hu=>bj _ _ (aL λS2 bi=>?_))))));have b2:=b1.keep s2;have kt:=Gf g (hU g Y);have rp:=tH g (hU g Y);refine(bQ (.inl (gR (zF b2.at_))) (bQ (aE Z) (λt1 aq=>⟨aE Z,λt2 ao=>?_⟩)));obtain⟨z3,I,a6⟩:=b2.ent (r:=.cond (cH 7 mk.kinds k.name) 0) (c:=4) (us:=[u,.int 0]) aq (aW hu (aW Z Z)) ao (Jl kt (Hs g Y) rp);refine(iA ws Z z3 (cL (by omega)) (bi _ _ (aL λS3 bh=>?_)));have U:=hu.tups a6 _;generalize a5:upd (upd (upd H2 t1 _) t2 _) l _=H3;have I:BLs mk.kinds mk.chans hd.name hd.boxes H H3 l (ws++[.ref t2]) (21*i+1):=by rw[<- a5];exact I
  have U:RelD H3 u (cH 7 mk.kinds k.name):=by rw[<- a5];exact U
  clear a5 a6 z3;generalize ws++[.ref t2]=J at I;have bx:=I.len;refine(dI (zD (I.sm _ _ ha)) Z (bU ⟨_,zD (I.sm _ _ aj)⟩ ?_));refine oA (xs:=ub) (λj ys C=>Same H3 C/\(∀w∈ys,EntAt mk.kinds mk.chans hd.name hd.boxes C w)/\ys.length<=j) (jAA (Same.refl _) (λ_ h=>nomatch h) (qD _)) (cL (by omega)) (λj ys C _ p=>zD ((I.sm.trans p.1) _ _ aj)) ?_ ?_
  ·rintro j y ys H4 hy hj o ⟨s4,z,O⟩
   obtain⟨b',pb,au,rfl,a4⟩:=mX am hy;have ar:=cJ au;refine(iX (zD ((I.sm.trans s4) _ _ a4)) Z Z Z Z ⟨hV Z Z,?_⟩);refine(bJ (bP Z (aJ (λc1=>?_) (λc1=>iK hj o (jAA s4 z (by omega))))));refine(aC (bQ (aE Z) (λt3 a2=>⟨aE Z,λt4 a1=>eT hj o ?_⟩)));have av:k.name≠pb.2:=λe=>by rw[e]at c1;simp at c1
   have e4:=M.ent (r:=.set pb.1 (cH 7 mk.kinds k.name)) (c:=4) (us:=[.str pb.1,u]) a2 (aW Z (aW (U.same s4 _) Z)) a1;exact(jAA (s4.trans e4.1) (Ls e4.1 z (eU e4.2 (Hg g ar kt av rp))) (by rw[bS,List.length_singleton];omega))
  rintro ys H4 o ⟨s4,z,O⟩ D4 bp;have a9:=zA bp (.lst ys);have a0:=s4.trans a9;refine(aI l D4 (aI J ys (cP (jAAA (a0 _ _ I.at_) aD (aB (by omega)) (λl5 af=>bh _ _ (aL λS4 bg=>?_))))));have b5:=I.cat a0 (λw hw=>(z w hw).tups (Same.tups a9)) (M:=10) (by omega) af;have ac:=U.same (a0.trans (zA af (.lst (J++ys)))) _;generalize upd (upd H4 D4 (.lst ys)) l5 (.lst (J++ys))=H5 at b5 ac⊢;generalize J++ys=an at b5⊢;have bw:=b5.len;refine(aQ (zD (b5.sm _ _ a3)) Z (bU ⟨_,zD (b5.sm _ _ ai)⟩ ?_));refine oA (xs:=uc) (λj ys C=>C=H5/\∃zs:List cR,ys=zs.map (λc=>V.str c.1)/\∀c∈zs,c∈mk.chans/\c.2.1=hd.name/\k.name≠c.2.2.2) ⟨Z,(cZ ([]) Z (λ_ h=>nomatch h))⟩ (cL (by omega)) (λj ys C _ p=>by rw[p.1];exact zD (b5.sm _ _ ai)) ?_ ?_
  ·rintro j y ys C hy hj o ⟨rfl,zs,rfl,G⟩
   obtain⟨b',c,hc,rfl,a4⟩:=rT al hy;refine(gK (jAA (zD (b5.sm _ _ a4)) Z (aK ⟨Z,(aK ⟨Z,(aK ⟨Z,(aK (jAAA Z Z (xW Z Z Z Z) ?_))⟩)⟩)⟩)));refine(dI (zD (b5.sm _ _ ha)) Z (bP Z (aJ (λc1=>?_) (λc1=>cG (iK hj o (bP Z G))))));refine(bJ (bP Z (aJ (λc2=>?_) (λc2=>iK hj o (bP Z G)))));refine(aC (eT hj o ⟨Z,(cZ (zs++[c]) (by rw[bZ];rfl) (λc' be=>?_))⟩));rcases dD be with h' | h'
   ·exact G c' h'
   ·rw[cD h']
    exact(jAA (cJ hc) (V.str.inj (qE c1)) (λe=>by rw[e]at c2;simp at c2))
  rintro ys H6 o ⟨rfl,zs,rfl,G⟩ D6 bo;refine bg _ _ ?_;have a8:=zA bo (.lst (zs.map λc=>V.str c.1));have b6:=b5.keep a8;have ab:=ac.same a8 _;have g6:upd H6 D6 (.lst (zs.map λc=>V.str c.1)) D6=some (.lst (zs.map λc=>V.str c.1)):=aD;generalize upd H6 D6 (.lst (zs.map λc=>V.str c.1))=H7 at b6 ab g6⊢;rw[aM]at o;refine(aC (fN ⟨_,zF g6⟩ ?_));refine xJ (xs:=zs.map λc=>V.str c.1) (λj ys C=>Same H7 C/\(∀w∈ys,EntAt mk.kinds mk.chans hd.name hd.boxes C w)/\ys.length<=j) (jAA (Same.refl _) (λ_ h=>nomatch h) (qD _)) (cL (by rw[aM];omega)) (λj ys C _ p=>zF (p.1 _ _ g6)) ?_ ?_
  ·rintro j y ys H8 hy hj o ⟨s8,z,O⟩
   rw[dA]at hy;obtain⟨c,hc,rfl⟩:=dH hy;obtain⟨bb,bd,bc⟩:=G c (cJ hc);refine⟨lR Z,oK (aC (bQ (aE Z) (λt3 a2=>⟨aE Z,λt4 a1=>eT hj o ?_⟩)))⟩;have e4:=M.ent (r:=.send c.1 (cH 7 mk.kinds k.name)) (c:=4) (us:=[.str c.1,u]) a2 (aW Z (aW (ab.same s8 _) Z)) a1;exact(jAA (s8.trans e4.1) (Ls e4.1 z (eU e4.2 (Jm g bb bd kt bc rp))) (by rw[bS,List.length_singleton];omega))
  ·rintro ys H8 ae ⟨s8,z,O⟩ D8 bn
   rw[aM]at ae O;have a7:=zA bn (.lst ys);have aa:=s8.trans a7;refine(aI l5 D8 (aI an ys (cP (jAAA (aa _ _ b6.at_) aD (aB (by omega)) (λl9 az=>?_)))));have b9:=b6.cat aa (λw hw=>(z w hw).tups (Same.tups a7)) (M:=10) (by omega) az;exact(eN l9 (aK (eU Z (b9.up (by omega)))))
 ·rintro σ H1 ⟨l,ws,o3,o4,o5,o6,o7,rfl,b1⟩
  exact bl _ _ (aC (q l ws _ (b1.up (by omega))))
def L8:Sp:=λvs H Q _=>∃(fv kv xv:V) (ks:List Kn) (cs:List cR) (h:Str) (bs:List (Str×Str)),vs=[fv,kv,xv]/\RelD H kv (iO ks)/\BIn ks cs bs/\(xv=.non\/∃b∈bs,xv=.str b.1)/\∀l ws H',BLs ks cs h bs H H' l ws 120->Q (.ref l) H'
structure CSt(ks:List Kn)(cs:List cR)(h:Str)(bs:List (Str×Str))(th la:Addr)(hd:D)(ya:List V)(rs:List fZ)(H0 H:Hp)(l:Addr)(ws:List V)(N:Nat):Prop where
 b:BLs ks cs h bs H0 H l ws N
 hh:RelD H (.ref th) hd
 ga:H la=some (.lst ya)
 hy:RelDs H ya (rs.map fL)
 ne:la≠l
theorem CSt.keep{cs:List cR}{bs:List (Str×Str)}{hd:D}(c:CSt ks cs h bs e f hd a rs j H l ws N)(s:Same H g):CSt ks cs h bs e f hd a rs j g l ws N:=⟨c.b.keep s,c.hh.same s _,s _ _ c.ga,c.hy.same s _,c.ne⟩
theorem CSt.ent {cs:List cR} {bs:List (Str×Str)} {hd:D} (c:CSt ks cs h bs j o hd f rs y H l ws N) (x:H t2=none) (p:RelDs H us r.as) (u:upd H t2 (.tup (.str r.hd::us)) a=none) (e:BadR ks cs h bs r cc) :
  upd (upd H t2 (.tup (.str r.hd::us))) a (.tup [.ref t2,.str (eL cc)]) l=some (.lst ws)/\CSt ks cs h bs j o hd f rs y (upd (upd (upd H t2 (.tup (.str r.hd::us))) a (.tup [.ref t2,.str (eL cc)])) l (.lst (ws++[.ref a]))) l (ws++[.ref a]) (N+1):=by
 obtain⟨z,b,g⟩:=c.b.ent x p u e;refine⟨z,b,c.hh.tups g _,?_,c.hy.tups g _,c.ne⟩;rw[cO c.ne];exact(M.ent (c:=cc) x p u).1 _ _ c.ga
def Ce{b e c:Addr}{ys:List V}{rs:List fZ}{hd:D}(g:H b=none)(l:RelDs H ys (rs.map fL))(o:RelD H (.ref c) hd)(f:upd H b (.tup ys) e=none):Same H (upd (upd H b (.tup ys)) e (.tup [.str (S "case"),.ref c,.ref b]))/\RelD (upd (upd H b (.tup ys)) e (.tup [.str (S "case"),.ref c,.ref b])) (.ref e) (mN hd rs):=by
 have j:=zA g (.tup ys);have h:=zA f (.tup [.str (S "case"),.ref c,.ref b]);have a:=j.trans h;exact⟨a,(gB aD (aW Z (aW (o.same a _) (aW (iP ys (h _ _ aD) (l.same a _)) Z))))⟩
def wH{d:D}(hd:RelD H (.ref a) d)(c:H b=none):Same H (upd H b (.tup [.str (S "get"),.ref a,.str f]))/\RelD (upd H b (.tup [.str (S "get"),.ref a,.str f])) (.ref b) (eR d f):=by
 have e:=zA c (.tup [.str (S "get"),.ref a,.str f]);exact⟨e,(fA aD (eM Z (hd.same e _) Z Z Z))⟩
def U7(c:RelDs H us (ps.map nJ))(a:ps≠[]):∃(q:Str×Str) (b:Addr),ps.getLast?=some q/\fG us (-1)=some (.ref b)/\H b=some (.tup [.str q.1,.str q.2]):=by
 rcases List.eq_nil_or_concat us with rfl |⟨as,v,rfl⟩
 ·exact absurd (List.length_eq_zero_iff.mp (by have:=c.length;rw[aM]at this;exact this.symm)) a
 rw[List.concat_eq_append]at *
 have e:=c.length;rw[bS,List.length_singleton,aM]at e;obtain⟨b,q,f,rfl,g⟩:=mX c (i:=as.length) (v:=v) (by rw[List.getElem?_append_right (qD _),Nat.sub_self];rfl);exact(eO q b (by rw[List.getLast?_eq_getElem?,<- e,Nat.add_sub_cancel];exact f) (Vv _ _) g)
def Xp(T:Tx K mg)(o:DefIs P w K mg base n "nought_term" qad (lA cH 6)):DefIs P w K mg base (n+1) "_law_cases" qbe L8:=by
 refine DefIs.of T.uB scl_cases (by walk_at"l") (λf e4 A outer s H vs Q E hr h=>?_);obtain⟨fv,kv,xv,ks,cs,h,bs,rfl,bn,g,hx,q⟩:=h;have nd:=scl_cases.nd;have h6:=g.few;obtain⟨ka,uk,rfl,cm,cp⟩:=id bn;have de:=cp.length;rw[aM]at de
 refine⟨_,(aF (aR 3 nd (fU pN))
   (aF (fM zI Z (eJ (K:=K) Z (pv 1)) (fI (K:=K) Z Z (aX (bK 4 nd) (aX (bK 5 nd) (aX (bK 6 nd) fE))))
   (aF (aT (PW.pt (iF (pR bY (pv 5) pS (nM _)) (iQ (pR lK (bV (dM (K:=K) Z) Z T.uS zH (v1 6)) pI (nM _))))) (aF (aR 7 nd (aH (pc pS (va 4 (pc (px K (px K (pv 6) pI) pI) (pc (pd o hr (va 1 (pc (px K (px K (pv 6) pI) pI) pN ss))) pN bL) ss)) aG)))
   (aF (pB (i:=8) ["_law_t","_law_kind"] [none,none] Z (by kernel_rfl) nd Z (by first |exact Or.inl Z |exact Or.inr rfl) (eJ (K:=K) Z (pv 6)) (λ_ _ _ _=>(fI (K:=K) (n:=2) Z Z (aX (dU 0) (aX (dU 1) fE)))) (λ_ _ _ _=>iH) (λ_ _ _ _=>(aH (va 0 (pc pS (pc (aH (pc pS (pc pI pN aG) aG)) pN sT) aG)))))
   (aF (cT (gM zG zK zJ gZ (pv 3) (pc (aH (pc (aH (pc pS (pc (aH (pc pS (va 7 (pc (hH (mY (K:=K) Z) Z T.u6 zN (pc (gY rK (pv 8) (gE pI) iU) pN ss)) pN bL)) aG)) pN sT) aG)) (pc pS pN aG) sT)) pN sT)))
   (aF (aT (pR mR (bV (dM (K:=K) Z) Z T.uS zH (v1 6)) pI (nM _)) (po (cT (gM zG zK zJ gZ (pv 3) (pc (aH (pc (aH (pc pS (pc (aH (pc pS (va 7 (pc (hH (mY (K:=K) Z) Z T.u6 zN (pc (aN mO (pv 8) (gY rK (pv 8) iU (gE pI))) pN eI)) pN bL)) aG)) pN sT) aG)) (pc pS pN aG) sT)) pN sT)))) pQ)
   (po (aT (pR Uk (pv 2) nX (nM _)) (po (cT (gM zG zK zJ gZ (pv 3) (pc (aH (pc (aH (pc pS (pc (aH (pc pS (va 7 (pc (hH (mY (K:=K) Z) Z T.u6 zN (pc (iT ["_law_t","_law_y","_law_e","_law_x"] [none,none,none,some 2] Z (by kernel_rfl) (oP (K:=K) Z (pv 8)) (λ_ _ _ _=>(fI (K:=K) (n:=3) Z Z (aX (dU 0) (aX (dU 1) (aX (dU 2) fE))))) (λ_ _ _ _=>iH) (λ_ _ _ _=>(aH (va 0 (va 3 (v1 2)))))) pN oB)) pN bL)) aG)) pN sT) aG)) (pc pS pN aG) sT)) pN sT)))) pQ)))))) pQ)
   (po (aT (PW.pt (iF (pR bY (pv 5) pS (nM _)) (iQ (pR lK (bV (dM (K:=K) Z) Z T.uS zH (v1 6)) pI (nM _))))) (aF (aR 9 nd (pd o hr (va 1 (v1 4))))
   (aF (aR 10 nd (aH (pc pS (va 4 (pc (aN (gX (K:=K) Z) (px K (pv 9) pI) (aH (pc (aH (pc pS (pc pI pN aG) aG)) pN sT))) pN eI)) aG)))
   (aF (aR 11 nd (aH (pc pS (va 4 (pc (gY (mW (K:=K) Z) (px K (pv 9) pI) iU (gE (yP zY pI))) pN ss)) aG)))
   (aF (aR 12 nd (aH (pc pS (va 4 (pc (aN (gX (K:=K) Z) (gY (mW (K:=K) Z) (px K (pv 9) pI) iU (gE (yP zY pI))) (aH (pc (aH (pc pS (pc pI pN aG) aG)) pN sT))) pN eI)) aG)))
   (aF (fM zI Z (eJ (K:=K) Z (pv 6)) (fI (K:=K) Z Z (aX (bK 13 nd) (aX (bK 14 nd) fE)))
   (aF (aT (pR bY (pv 14) pS (nM _)) (po (aR 3 nd (aN mO (pv 3) (fU (pc (aH (pc (aH (pc pS (pc (aH (pc pS (va 10 (v1 13)) aG)) pN sT) aG)) (pc pS pN aG) sT)) (pc (aH (pc (aH (pc pS (pc (aH (pc pS (va 11 (v1 13)) aG)) pN sT) aG)) (pc pS pN aG) sT)) pN sT) sT))))) pQ)
   (po (aT (PW.pt (iF (pR bY (pv 14) pS (nM _)) (iQ (pR mM (px K (px K (pv 6) (yP zY pI)) pI) pS (nM _))))) (po (cT (gM zG zK zJ gZ (pv 3) (pc (aH (pc (aH (pc pS (pc (aH (pc pS (va 12 (v1 13)) aG)) pN sT) aG)) (pc pS pN aG) sT)) pN sT)))) pQ))))
   (aF (cT (gM zG zK zJ gZ (pv 3) (pc (aH (pc (aH (pc pS (pc (aH (pc pS (va 9 (pc pS pN aG)) aG)) pN sT) aG)) (pc pS pN aG) sT)) pN sT)))
   (po (cT (gM zG zK zJ gZ (pv 3) (pc (aH (pc (aH (pc pS (v1 9) aG)) (pc pS pN aG) sT)) pN sT)))))))))) pQ))))
   (po (aS (pv 3))))),aL λR1 dt=>?_⟩
 refine⟨aE Z,λl0 dh=>dt _ _ (aL λR2 ds=>?_)⟩;have b0:BLs ks cs h bs H _ l0 [] 0:=BLs.nil (Same.refl _) dh;refine(fN ⟨_,zD (b0.sm _ _ cm)⟩ ?_);refine hJ (xs:=uk) (λi σ J=>∃(l:Addr) (ws:List V) (o4 o5 o6 o7 o8 o9 ak aj ai a2 a1:Option V),σ=[some fv,some (.ref ka),some xv,some (.ref l),o4,o5,o6,o7,o8,o9,ak,aj,ai,a2,a1]/\BLs ks cs h bs H J l ws (20*i)) (fD l0 ([]) none none none none (fD none none none none none none (cZ none Z b0))) (λi σ J _ p=>by obtain⟨_,_,_,_,_,_,_,_,_,_,_,_,_,_,b⟩:=p;exact zD (b.sm _ _ cm)) ?_ ?_
 ·rintro i v σ H1 hv ⟨l,ws,o4,o5,o6,o7,o8,o9,ak,aj,ai,a2,a1,rfl,b1⟩
  obtain⟨kb,k,pv,hk,rfl,di,d6⟩:=B8 cp hv;have hi:i<uk.length:=(cV hv).1;have x:=cJ hk;have h5:=g.wf.pts k x;obtain⟨pa,up,rfl,Y,aq⟩:=d6;have bl:=aq.length;rw[aM]at bl;refine(gK (jAA (zD (b1.sm _ _ di)) Z (aK ⟨Z,(aK ⟨Z,(aW Z (aL λS1 dr=>?_))⟩)⟩)))
  have aa:∀l ws J o7 o8,BLs ks cs h bs H J l ws (20*i+3)->S1 [some fv,some (.ref ka),some xv,some (.ref l),some (.str k.name),some (.str k.sort),some (.ref pa),o7,o8,o9,ak,aj,ai,a2,a1] J:=by
   intro l ws J o7 o8 b;have bf:=b.len;refine dr _ _ ?_;refine(dE Z Z (aJ (λc1=>?_) (λc1=>cG (aI l ws (aK (aK (aK (aK (aK (gH Z (b.up (by omega))))))))))));refine(aC (eO pa up Z (.inr (zD (b.sm _ _ Y))) (fQ Z (aJ (λc2=>?_) (λc2=>(aI l ws (aK (aK (aK (aK (aK (gH Z (b.up (by omega))))))))))))))
   have a4:k.rc=true:=by
    cases e:k.rc with
    |true=>rfl
    |false=>
     rw[tY e]at c1;exact absurd c1 (by walk_at"k")
   have ci:k.parts≠[]:=λe=>by
    rw[e,List.length_nil]at bl;have:=qE c2;omega
   obtain⟨du,e3⟩:=Dv g x a4;have e0:=iR (g.wf.nm k x);refine aL λS2 bx=>?_;refine(aC (eF (aK (aY (bn.same b.sm _) g.wf (hU g x) (λu H2 s2 hu=>bx _ _ (aL λS3 bw=>?_))))));have cg:=hu;rw[show cH (6+1) ks k.name=_ from du]at cg;obtain⟨ub,_,rfl,ce,_,_,rfl,rfl,_,_,rfl,rfl,_,_,rfl,⟨ue,es,rfl,cd,bq⟩,rfl⟩:=cg;have df:=bq.length;rw[aM]at df;have b2:=b.keep s2;refine(dI (zD ce) Z ⟨aE Z,λm1 dd=>⟨aE Z,λm2 dc=>?_⟩⟩);have n1:=zA dd (.tup [.str (S "num"),.int 1]);have n2:=zA dc (.tup [.ref m1]);refine dW ((n1.trans n2) _ _ cd) aD (aB (by show es.length+1<=_;omega)) λm3 H3 n3 g3=>⟨aE Z,λm4 db=>bw _ _ (aL λS4 bv=>?_)⟩;have n4:=zA db (.tup [.str (S "rec"),.str k.name,.ref m3]);have bd:=n3.trans n4;have a6:=n1.trans (n2.trans bd)
   have O:RelD (upd H3 m4 (.tup [.str (S "rec"),.str k.name,.ref m3])) (.ref m4) (cI k.name ((k.parts.map λp=>cH 6 ks p.2)++[aO 1])):=
    (cY aD Z Z Z Z (aW (gB (n4 _ _ g3) ((bq.same a6 _).append (aW (cY ((n2.trans bd) _ _ aD) Z Z Z Z Z) Z))) Z))
   have b4:=b2.keep a6;have bg:=hu.same a6 _;have ac:=a6 _ _ ce;have ab:=a6 _ _ cd;have ae:=bq.same a6 _;generalize a9:upd H3 m4 _=H4;have b4:BLs ks cs h bs H H4 l ws (20*i+3):=by rw[<- a9];exact b4
   have O:RelD H4 (.ref m4) (cI k.name ((k.parts.map λp=>cH 6 ks p.2)++[aO 1])):=by rw[<- a9];exact O
   have bg:RelD H4 (.ref ub) (cH 7 ks k.name):=by rw[<- a9];exact bg
   have ac:H4 ub=some (.tup [.str (S "rec"),.str k.name,.ref ue]):=by rw[<- a9];exact ac
   have ab:H4 ue=some (.tup es):=by rw[<- a9];exact ab
   have ae:RelDs H4 es (k.parts.map λp=>cH 6 ks p.2):=by rw[<- a9];exact ae
   clear a9 a6 bd n4 n1 n2 n3;refine(dI (zD ac) Z ⟨1,(bP Z (nA ab λm5 H5 n5 g5=>⟨aE Z,λm6 da=>bv _ _ (aL λS5 bu=>?_)⟩))⟩);rw[Dc]at g5;have n6:=zA da (.tup [.str (S "rec"),.str k.name,.ref m5]);have ba:=n5.trans n6
   have C:RelD (upd H5 m6 (.tup [.str (S "rec"),.str k.name,.ref m5])) (.ref m6) (cI k.name (k.parts.map λp=>cH 6 ks p.2).dropLast):=
    (cY aD Z Z Z Z (aW (gB (n6 _ _ g5) (ae.init.same ba _)) Z))
   generalize ah:upd H5 m6 _=H6;have bc:Same H4 H6:=by rw[<- ah];exact ba
   have C:RelD H6 (.ref m6) (cI k.name (k.parts.map λp=>cH 6 ks p.2).dropLast):=by rw[<- ah];exact C
   clear ah ba n6 n5 g5;refine(dI (zD (bc _ _ ac)) Z ⟨1,(bP Z (nA (bc _ _ ab) λm7 H7 n7 g7=>⟨aE Z,λm8 d9=>⟨aE Z,λm9 d8=>?_⟩⟩))⟩);rw[Dc]at g7;have n8:=zA d9 (.tup [.str (S "num"),.int 1]);have n9:=zA d8 (.tup [.ref m8]);refine dW ((n8.trans n9) _ _ g7) aD (aB (by show es.dropLast.length+1<=_;rw[List.length_dropLast];omega)) λcb H8 be cq=>⟨aE Z,λaf cj=>bu _ _ (aL λS6 dq=>?_)⟩;have au:=zA cj (.tup [.str (S "rec"),.str k.name,.ref cb]);have al:=n8.trans (n9.trans (be.trans au));have am:=bc.trans (n7.trans al)
   have a5:RelD (upd H8 af (.tup [.str (S "rec"),.str k.name,.ref cb])) (.ref af) (cI k.name ((k.parts.map λp=>cH 6 ks p.2).dropLast++[aO 1])):=
    (cY aD Z Z Z Z (aW (gB (au _ _ cq) ((ae.init.same am _).append (aW (cY ((n9.trans (be.trans au)) _ _ aD) Z Z Z Z Z) Z))) Z))
   generalize aw:upd H8 af _=H9;have bb:Same H4 H9:=by rw[<- aw];exact am
   have cx:Same H6 H9:=by rw[<- aw];exact n7.trans al
   have a5:RelD H9 (.ref af) (cI k.name ((k.parts.map λp=>cH 6 ks p.2).dropLast++[aO 1])):=by rw[<- aw];exact a5
   clear aw am al au be n9 n8 n7 cq g7;have O:=O.same bb _;have C:=C.same cx _;have b9:=b4.keep bb;have cf:=bg.same bb _;obtain⟨ql,qb,d4,dw,d5⟩:=U7 aq ci;refine(fN ⟨_,zD (b9.sm _ _ Y)⟩ ?_);refine hJ (xs:=up) (λj σ J=>∃(l:Addr) (ws:List V) (a2 a1:Option V),σ=[some fv,some (.ref ka),some xv,some (.ref l),some (.str k.name),some (.str k.sort),some (.ref pa),o7,o8,some (.ref ub),some (.ref m4),some (.ref m6),some (.ref af),a2,a1]/\BLs ks cs h bs H J l ws (20*i+3+3*j)/\∀a vs,H9 a=some (.tup vs)->J a=some (.tup vs)) (aI l ws (aK (eV b9 (λ_ _ e=>e)))) (λj σ J _ p=>by obtain⟨_,_,_,_,_,b,_⟩:=p;exact zD (b.sm _ _ Y)) ?_ ?_
   ·rintro j v σ HA hv ⟨l,ws,a2,a1,rfl,bA,tA⟩
    obtain⟨pb,pp,bi,rfl,av⟩:=mX aq hv;have hj:j<up.length:=(cV hv).1;have bp:=iR (g.wf.pnm k x pp (cJ bi));have cz:=bA.len;refine(iX (zD (bA.sm _ _ av)) Z Z Z Z (aL λU1 dm=>?_))
    have az:∀l ws J,BLs ks cs h bs H J l ws (20*i+3+3*j+2)->(∀a vs,H9 a=some (.tup vs)->J a=some (.tup vs))->U1 [some fv,some (.ref ka),some xv,some (.ref l),some (.str k.name),some (.str k.sort),some (.ref pa),o7,o8,some (.ref ub),some (.ref m4),some (.ref m6),some (.ref af),some (.str pp.1),some (.str pp.2)] J:=by
     intro l ws J bB tB;have dz:=bB.len;refine dm _ _ ?_;refine(dE Z Z (aJ (λc3=>?_) (λc3=>cG (aI l ws (aK (jAA Z (bB.up (by omega)) tB))))));refine⟨_,(bP Z (eZ (zD (bB.sm _ _ Y)) dw (eZ (zD (bB.sm _ _ d5)) Z (bP Z (aJ (λc4=>?_) (λc4=>(aI l ws (aK (jAA Z (bB.up (by omega)) tB)))))))))⟩;have d3:ql.2≠S "num":=λe=>by rw[e]at c4;simp at c4;exact c4 Z
     refine(aC (dY (.inl (gR (zF bB.at_))) (eV (aE Z) (λt1 I=>⟨aE Z,λt2 G=>⟨aE Z,λt3 z=>?_⟩⟩))));obtain⟨s1,a8⟩:=wH (f:=pp.1) (a5.tups tB _) I;obtain⟨zC,bC,tC⟩:=(bB.keep s1).ent (r:=.tell (eR (cI k.name ((k.parts.map λp=>cH 6 ks p.2).dropLast++[aO 1])) pp.1)) (c:=4) (us:=[.ref t1]) G (aW a8 Z) z (T7 g x a4 d4 d3 bp);exact(iA ws Z zC (cL (by omega)) (aV l (aK (eV (bC.up (by omega)) (λa vs e=>tC a vs (s1 _ _ (tB a vs e)))))))
    refine(dE Z Z (aJ (λc3=>?_) (λc3=>az _ _ _ (bA.up (by omega)) tA)));refine(bJ (bQ (aE Z) (λt1 I=>⟨aE Z,λt2 G=>⟨aE Z,λt3 z=>?_⟩⟩)));obtain⟨s1,a8⟩:=wH (f:=pp.1) (O.tups tA _) I;have e1:=M.ent (r:=.tell (eR (cI k.name ((k.parts.map λp=>cH 6 ks p.2)++[aO 1])) pp.1)) (c:=3) (us:=[.ref t1]) G (aW a8 Z) z;have sB:=s1.trans e1.1;generalize c0:upd (upd _ t2 _) t3 _=HB;have sB:Same HA HB:=by rw[<- c0];exact sB
    have eB:EntAt ks cs h bs HB (.ref t3):=(eU (by rw[<- c0];exact e1.2) (Pz g x a4 bp));clear c0 e1 a8 s1;refine(aC (bQ (aE Z) (λt4 a7=>⟨aE Z,λt5 bh=>⟨aE Z,λt6 d2=>⟨aE Z,λD hD=>?_⟩⟩⟩)));obtain⟨s2,dj⟩:=wH (f:=pp.1) ((C.tups tA _).same sB _) a7;have e2:=M.ent (r:=.tell (eR (cI k.name (k.parts.map λp:Str×Str=>cH 6 ks p.2).dropLast) pp.1)) (c:=3) (us:=[.ref t4]) bh (aW dj Z) d2;have sC:=s2.trans e2.1;have eC:EntAt ks cs h bs _ (.ref t6):=(eU e2.2 (Sx g x a4 ci bp));have sD:=zA hD (.lst [.ref t3,.ref t6]);have b8:=sB.trans (sC.trans sD);refine(aI l D (aV ws (cP (jAAA (b8 _ _ bA.at_) aD (aB (by show ws.length+2<=_;omega)) (λl2 cl=>?_)))))
    have bE:=bA.cat b8 (ys:=[.ref t3,.ref t6]) (M:=2) (λw hw=>by
     rcases gD hw with rfl |hw
     ·exact eB.tups (Same.tups (sC.trans sD))
     ·rw[cD hw]
      exact eC.tups (Same.tups sD)) (qD _) cl
    exact az _ _ _ bE λa vs e=>(zA cl (.lst (ws++[.ref t3,.ref t6]))) _ _ (b8 _ _ (tA a vs e))
   ·rintro σ HA ⟨l,ws,a2,a1,rfl,bA,tA⟩
    refine dq _ _ (aL λS7 dn=>?_);have cz:=bA.len;refine(bQ (.inl (gR (zF bA.at_))) (bQ (aE Z) (λt1 I=>⟨aE Z,λt2 G=>⟨aE Z,λt3 z=>?_⟩⟩)));obtain⟨s1,a8⟩:=wH (f:=S "far") (cf.tups tA _) I;obtain⟨zC,bC,tC⟩:=(bA.keep s1).ent (r:=.tell (eR (cH 7 ks k.name) (S "far"))) (c:=2) (us:=[.ref t1]) G (aW a8 Z) z (Py g x a4);refine(iA ws Z zC (cL (by omega)) (dn _ _ ?_));generalize bz:upd (upd (upd _ t2 _) t3 _) l _=HC;have bC:BLs ks cs h bs H HC l (ws++[.ref t3]) (20*i+3+3*up.length+1):=by rw[<- bz];exact bC
    have d0:RelD HC (.ref ub) (cH 7 ks k.name):=by rw[<- bz];exact((cf.tups tA _).same s1 _).tups tC _
    clear bz zC tC a8 s1;generalize ws++[V.ref t3]=cu at bC;have dy:=bC.len;refine(bQ (.inl (gR (zF bC.at_))) (bQ (aE Z) (λt4 a7=>⟨aE Z,λt5 bh=>?_⟩)));obtain⟨zE,bE,_⟩:=bC.ent (r:=.tell (cH 7 ks k.name)) (c:=4) (us:=[.ref ub]) a7 (aW d0 Z) bh (Jn (Gf g (hU g x)) (Hs g x) (tH g (hU g x)));exact(iA cu Z zE (cL (by omega)) (eN l (aK (aK (aK (aK (eU Z (bE.up (by omega)))))))))
  refine(dE Z Z (aJ (λc1=>?_) (λc1=>cG (aa _ _ _ _ _ (b1.up (by omega))))));refine(aC (eO pa up Z (.inr (zD (b1.sm _ _ Y))) (fQ Z (aJ (λc2=>?_) (λc2=>aa _ _ _ _ _ (b1.up (by omega)))))))
  have a4:k.rc=false:=by
   cases e:k.rc with
   |false=>rfl
   |true=>
    rw[M9 e]at c1;exact absurd c1 (by walk_at"k")
  have h2:1<up.length:=by have:=qE c2;omega
  obtain⟨p0,ps,an⟩:∃p ps,k.parts=p::ps:=by
   cases e:k.parts with
   |nil=>rw[e,List.length_nil]at bl;omega
   |cons p ps=>exact(aI p ps Z)
  have b6:=aq;rw[an]at b6;obtain⟨_,dx,dv,⟨pb,_,rfl,av,_,_,rfl,rfl,_,_,rfl,rfl,rfl⟩,_⟩:=b6;have a0:fG up 0=some (.ref pb):=by rw[dv];exact cM (j:=0) Z
  refine aL λS2 bx=>?_;refine(dI (zD (b1.sm _ _ Y)) a0 (eZ (zD (b1.sm _ _ av)) Z ?_));refine(dI (zD (b1.sm _ _ Y)) a0 (eZ (zD (b1.sm _ _ av)) Z (aK (gH Z (jAAA (bn.same b1.sm _) g.wf (Dj g x (by rw[an];simp)) (λu H2 s2 hu=>⟨aE Z,λth d1=>bx _ _ (aL λS3 bw=>?_)⟩))))));have b7:=zA d1 (.tup [.str (S "tag"),.str k.name,.str p0.1,u]);have b3:=b1.keep (s2.trans b7);have bo:RelD (upd H2 th (.tup [.str (S "tag"),.str k.name,.str p0.1,u])) (.ref th) (fX ks k p0):=(fA aD (eM Z Z Z Z (aW (hu.same b7 _) Z)));generalize c8:upd H2 th _=H3;have b3:BLs ks cs h bs H H3 l ws (20*i):=by rw[<- c8];exact b3
  have bo:RelD H3 (.ref th) (fX ks k p0):=by rw[<- c8];exact bo
  clear c8 hu b7;refine(fN ⟨_,zD (b3.sm _ _ Y)⟩ ?_);refine oA (xs:=up) (λj ys J=>Same H3 J/\RelDs J ys ((eK (S "far") (k.parts.take j)).map fL)) ⟨Same.refl _,Z⟩ (cL (by omega)) (λj ys J _ p=>zD ((b3.sm.trans p.1) _ _ Y)) ?_ ?_
  ·rintro j y ys H4 hy hj ao ⟨s4,a3⟩
   obtain⟨b',cw,ch,rfl,bt⟩:=mX aq hy;refine(iX (zD ((b3.sm.trans s4) _ _ bt)) Z Z Z Z ⟨hV Z Z,oK ?_⟩);refine(bQ (aE Z) (λt3 z=>⟨aE Z,λt4 a7=>eT hj ao ?_⟩));have q3:=zA z (.tup [.str (S "num"),.int 7]);have q4:=zA a7 (.tup [.str cw.1,.str (S "far"),.ref t3]);refine⟨s4.trans (q3.trans q4),?_⟩;rw[gA,ch];unfold eK;rw[bZ,bZ];exact(a3.same (q3.trans q4) _).append (aW (cY aD Z Z Z Z (aW (cY (q4 _ _ aD) Z Z Z Z Z) Z)) Z)
  rintro U H4 ao ⟨s4,a3⟩ la bm;rw[fH (by omega)]at a3;refine bw _ _ (aL λS4 bv=>?_);have qa:=zA bm (.lst U);have cy:la≠l:=λe=>by rw[e,(b3.keep s4).at_]at bm;cases bm
  have c5:CSt ks cs h bs th la (fX ks k p0) U (eK (S "far") k.parts) H (upd H4 la (.lst U)) l ws (20*i):=⟨b3.keep (s4.trans qa),bo.same (s4.trans qa) _,aD,a3.same qa _,cy⟩;generalize upd H4 la (.lst U)=H5 at c5⊢;have ck:=c5.hy.length;rw[aM,Ab]at ck;have bf:=c5.b.len;refine(aC (dY (.inl ⟨Z,_,zF c5.b.at_⟩) (bP Z (iP U (zF c5.ga) (λp1 bj=>⟨p1,(gH Z (.inl ⟨zF aD,λp2 ag=>⟨aE Z,λt1 I=>⟨aE Z,λt2 G=>⟨aE Z,λt3 z=>?_⟩⟩⟩⟩))⟩)))));rw[show bI U (some 1) none=U.drop 1 from xC U 1]at ag I G z⊢;have ay:=c5.keep (zA bj (.lst (U.drop 1)));obtain⟨s5,co⟩:=Ce (rs:=(eK (S "far") k.parts).drop 1) ag (by rw[List.map_drop];exact ay.hy.drop 1) ay.hh I;obtain⟨z6,c6⟩:=(ay.keep s5).ent (r:=.tell (mN (fX ks k p0) ((eK (S "far") k.parts).drop 1))) (cc:=5) (us:=[.ref t1]) G (aW co Z) z (Sz g x a4 an);refine(iA ws Z z6 (cL (by omega)) (bv _ _ (aL λS5 bu=>?_)));generalize ah:upd (upd (upd _ t2 _) t3 _) l _=H6;have c6:CSt ks cs h bs th la (fX ks k p0) U (eK (S "far") k.parts) H H6 l (ws++[.ref t3]) (20*i+1):=by rw[<- ah];exact c6
  clear ah z6 co s5 ay;generalize ws++[V.ref t3]=cv at c6
  have b5:∀ws J,CSt ks cs h bs th la (fX ks k p0) U (eK (S "far") k.parts) H J l ws (20*i+2)->S5 [some fv,some (.ref ka),some xv,some (.ref l),some (.str k.name),some (.str k.sort),some (.ref pa),some (.ref th),some (.ref la),o9,ak,aj,ai,a2,a1] J:=by
   intro ws J c;have bf:=c.b.len;refine bu _ _ ?_;rcases hx with rfl |⟨b,hb,rfl⟩
   ·exact(aC (lF (aJ (λc=>absurd c (by simp)) (λ_=>aa _ _ _ _ _ (c.b.up (by omega))))))
   refine(aC (lF (aJ (λ_=>?_) (λc=>absurd Z c))));refine(bQ (.inl (gR (zF c.b.at_))) (aC (fN ⟨_,zF c.ga⟩ ?_)));refine xJ (xs:=U) (λj ys c9=>Same J c9/\RelDs c9 ys ((eK b.1 (k.parts.take j)).map fL)) ⟨Same.refl _,Z⟩ (cL (by omega)) (λj ys c9 _ p=>zF (p.1 _ _ c.ga)) ?_ ?_
   ·rintro j y ys H4 hy hj ao ⟨s4,a3⟩
    obtain⟨d,hd,rd⟩:=c.hy.get hy;unfold eK at hd;rw[dA,dA]at hd;obtain⟨ar,dl,rfl⟩:=dH hd;obtain⟨pp,bi,rfl⟩:=dH dl;obtain⟨b',_,rfl,bt,_,_,rfl,rfl,_,_,rfl,rfl,ev,_,rfl,dk,rfl⟩:=rd;refine(gK (jAA (zD (s4 _ _ bt)) Z (aK ⟨Z,(aK ⟨Z,(aK (jAAA Z Z (Fi Z Z Z) (oK ?_)))⟩)⟩)));refine(bJ (bQ (aE Z) (λt4 a7=>eT hj ao ?_)));have q4:=zA a7 (.tup [.str pp.1,.str b.1,ev]);refine⟨s4.trans q4,?_⟩;rw[gA,bi];unfold eK;rw[bZ,bZ];exact(a3.same q4 _).append (aW (cY aD Z Z Z Z (aW (dk.same (s4.trans q4) _) Z)) Z)
   rintro yb H4 ao ⟨s4,a3⟩ lb dg;rw[fH (by omega)]at a3;have qb:=zA dg (.lst yb);refine(aV lb ⟨Z,.inl ⟨zF aD,λp2 ag=>⟨aE Z,λt1 I=>⟨aE Z,λt2 G=>⟨aE Z,λt3 z=>?_⟩⟩⟩⟩⟩);have ca:=c.keep (s4.trans qb);obtain⟨s7,br⟩:=Ce (rs:=eK b.1 k.parts) ag (a3.same qb _) ca.hh I;obtain⟨z7,c7⟩:=(ca.keep s7).ent (r:=.tell (mN (fX ks k p0) (eK b.1 k.parts))) (cc:=1) (us:=[.ref t1]) G (aW br Z) z (Pw g x a4 an hb);exact(iA ws Z z7 (cL (by omega)) (aa _ _ _ _ _ c7.b))
  refine(aC (eO pa up Z (.inr (zD (c6.b.sm _ _ Y))) (fQ Z (aJ (λc2=>?_) (λc2=>b5 _ _ ⟨c6.b.up (by omega),c6.hh,c6.ga,c6.hy,c6.ne⟩)))));have bf:=c6.b.len;refine(bQ (.inl ⟨Z,_,zF c6.b.at_⟩) (aC (eF (bP Z (iP U (zF c6.ga) (λp1 bj=>?_))))));rw[show bI U none (some 1)=U.take 1 from rG U 1]at⊢;have cr:=c6.keep (zA bj (.lst (U.take 1)));refine(aI la p1 (aI U (U.take 1) (cP (jAAA cr.ga aD (aB (by rw[List.length_take];omega)) (λp3 d7=>(aV p3 ⟨Z,.inl ⟨zF aD,λp2 ag=>⟨aE Z,λt1 I=>⟨aE Z,λt2 G=>⟨aE Z,λt3 z=>?_⟩⟩⟩⟩⟩))))));have ax:=cr.keep (zA d7 (.lst (U++U.take 1)));obtain⟨s7,br⟩:=Ce (rs:=eK (S "far") k.parts++(eK (S "far") k.parts).take 1) ag (by rw[bZ,List.map_take];exact ax.hy.append (ax.hy.take 1)) ax.hh I;obtain⟨z7,c7⟩:=(ax.keep s7).ent (r:=.tell (mN (fX ks k p0) (eK (S "far") k.parts++(eK (S "far") k.parts).take 1))) (cc:=1) (us:=[.ref t1]) G (aW br Z) z (Td g x a4 an);exact(iA cv Z z7 (cL (by omega)) (b5 _ _ c7))
 ·rintro σ H1 ⟨l,ws,o4,o5,o6,o7,o8,o9,ak,aj,ai,a2,a1,rfl,b1⟩
  exact ds _ _ (aC (q l ws _ (b1.up (by omega))))
def Ig:Sp:=λvs H Q _=>∃(f:Addr) (mv hv nv:V) (mk:Mak) (hd:Hand),vs=[.ref f,mv,hv,nv]/\(∃p q:Int,H f=some (.lst [.int p,.int q]))/\RelD H mv mk.d/\RelD H hv hd.d/\BIn mk.kinds mk.chans hd.boxes/\mk.chans.length<=10/\hd.boxes.length<=10/\∀v r c H',Fed f H H'->RelD H' v (eD r c)->BadR mk.kinds mk.chans hd.name hd.boxes r c->Q v H'
def xjg(T:Tx K mg)(o:DefIs P w K mg base n "_law_take" qab iW)(a0:DefIs P w K mg base n "nought_term" qad (lA cH 6))(a1:DefIs P w K mg base n "_law_wholes" qbf Mo)(a4:DefIs P w K mg base n "_law_cases" qbe L8):DefIs P w K mg base (n+1) "_law_bad_rows" qbg Ig:=by
 refine DefIs.of T.uD scl_bad_rows (by walk_at"l") (λf ez A outer s H vs Q E hr h=>?_);obtain⟨f',mv,hv,nv,mk,hd,rfl,⟨p0,q0,cq⟩,dy,cm,g,cu,cy,q⟩:=h;have nd:=scl_bad_rows.nd;obtain⟨a,bv,rv,rfl,cz,cw,_⟩:=mF cm
 refine⟨_,(aF (mT (pv 2) (fI (K:=K) Z Z (aX (bK 4 nd) (aX (bK 5 nd) (aX (bK 6 nd) fE)))))
   (aF (aR 7 nd (aH (pc pS (pc (pd o hr (va 0 (pc (aN rJ pI pI) pN eI))) pN bL) aG)))
   (aF (aR 8 nd (aH (pc pS (pc (aN eY (aN rJ pI pI) (pd o hr (va 0 (pc (aN rJ pI pI) pN eI)))) pN eI) aG)))
   (aF (aR 9 nd (fU (pc (aH (pc (aH (pc pS (v1 8) aG)) (pc pS pN aG) sT)) (pc (aH (pc (aH (pc pS (pc (aH (pc pS (pc pS (va 7 (v1 8)) aG) aG)) (pc pI pN aG) sT) aG)) (pc pS pN aG) sT)) pN sT) sT)))
   (aF (aR 9 nd (aN mO (pv 9) (fU (pc (aH (pc (aH (pc pS (pc (aH (pc pS (pc pS pN aG) aG)) pN sT) aG)) (pc pS pN aG) sT)) (pc (aH (pc (aH (pc pS (pc pS (v1 7) aG) aG)) (pc pS pN aG) sT)) (pc (aH (pc (aH (pc pS (pc pS (v1 7) aG) aG)) (pc pS pN aG) sT)) pN sT) sT) sT))))
   (aF (cT (gM zG zK zJ gZ (pv 9) (pc (aH (pc (aH (pc pS (pc pS (pc pS (pc pS pN aG) aG) aG) aG)) (pc pS pN aG) sT)) pN sT)))
   (aF (cT (gM zG zK zJ gZ (pv 9) (pc (aH (pc (aH (pc pS (pc (aH (pc pS (pc (aH (pc pS (pc pS (pc (aH pN) pN sT) aG) aG)) (pc pS pN aG) sT) aG)) pN sT) aG)) (pc pS pN aG) sT)) pN sT)))
   (aF (fM zI Z (eJ (K:=K) Z (px K (pv 1) pI)) (fI (K:=K) Z Z (aX (bK 10 nd) (aX (bK 11 nd) (aX (bK 12 nd) (aX (bK 13 nd) fE)))))
   (aF (aT (pR mM (pv 11) (pv 4) (nM _)) (po (cT (gM zG zK zJ gZ (pv 9) (pc (aH (pc (aH (pc pS (va 10 (pc (pd a0 hr (pc (px K (pv 1) pI) (v1 13) ss)) pN bL)) aG)) (pc pS pN aG) sT)) pN sT)))) pQ)
   (aF (aT (pR mM (pv 12) (pv 4) (nM _)) (po (fM zI Z (eJ (K:=K) Z (pv 5)) (fI (K:=K) Z Z (aX (bK 14 nd) (aX (bK 15 nd) fE)))
   (po (aT (pR bY (pv 15) (pv 13) (nM _)) (po (cT (gM zG zK zJ gZ (pv 9) (pc (aH (pc (aH (pc pS (pc pS (va 10 (v1 14)) aG) aG)) (pc pS pN aG) sT)) pN sT)))) pQ)))) pQ)
   (aF (aT (PW.pt (iF (pR bY (pv 11) (pv 4) (nM _)) (iQ (pR mM (pv 13) pS (nM _))))) (po (cT (gM zG zK zJ gZ (pv 9) (pc (aH (pc (aH (pc pS (va 10 (v1 7)) aG)) (pc pS pN aG) sT)) pN sT)))) pQ)
   (po (fM zI Z (eJ (K:=K) Z (pv 5)) (fI (K:=K) Z Z (aX (bK 14 nd) (aX (bK 15 nd) fE)))
   (po (aT (PW.pt (iF (pR bY (pv 12) (pv 4) (nM _)) (iQ (pR mM (pv 15) (pv 13) (nM _))))) (po (cT (gM zG zK zJ gZ (pv 9) (pc (aH (pc (aH (pc pS (pc pS (va 10 (v1 14)) aG) aG)) (pc pS pN aG) sT)) pN sT)))) pQ))))))))
   (aF (fM zI Z (eJ (K:=K) Z (pv 5)) (fI (K:=K) Z Z (aX (bK 14 nd) (aX (bK 15 nd) fE)))
   (po (aT (pR mM (pv 15) pS (nM _)) (aF (aR 9 nd (aN mO (pv 9) (fU (pc (aH (pc (aH (pc pS (va 14 (v1 7)) aG)) (pc pS pN aG) sT)) (pc (aH (pc (aH (pc pS (pc (aH (pc pS (v1 14) aG)) pN sT) aG)) (pc pS pN aG) sT)) pN sT) sT))))
   (po (cT (gM zG zK zJ gZ (pv 9) (pc (aH (pc (aH (pc pS (pc (aH (pc pS (v1 14) aG)) (pc pI pN aG) sT) aG)) (pc pS pN aG) sT)) pN sT))))) pQ)))
   (aF (aR 9 nd (aN mO (pv 9) (pd a1 hr (va 1 (v1 2)))))
   (aF (aR 14 nd nX)
   (aF (aT (pR lK (bV (dM (K:=K) Z) Z T.uS zH (v1 5)) pI (nM _)) (po (aR 14 nd (px K (px K (pv 5) (pd o hr (va 0 (pc (bV (dM (K:=K) Z) Z T.uS zH (v1 5)) pN bL)))) pI))) pQ)
   (aF (aR 9 nd (aN mO (pv 9) (pd a4 hr (va 0 (pc (px K (pv 1) pI) (v1 14) ss)))))
   (po (aS (cC K (pv 9) (pd o hr (va 0 (pc (bV (dM (K:=K) Z) Z T.uS zH (v1 9)) pN bL))))))))))))))))))),aL λR1 eo=>?_⟩
 refine(aC (gK (jAA (zD cz) Z (aK ⟨Z,(aK ⟨Z,(aW Z (eo _ _ (aL λR2 em=>?_)))⟩)⟩))));refine(aC (fJ (jAA (aA Z) (aA Z) (aA Z)) (aI f' p0 (aV q0 (aY cq (aA Z) (aA Z) (λr1 H1 di dh f1=>⟨aE Z,λon dw=>em _ _ (aL λR3 el=>?_)⟩))))));have cc:=zA dw (.tup [.str (S "num"),.int r1]);have F1:=f1.same cc;have c3:Nm r1:=⟨di,dh⟩;have J:RelD (upd H1 on (.tup [.str (S "num"),.int r1])) (.ref on) (aO r1):=(cY aD Z Z Z Z Z);generalize c6:upd H1 on _=H2;have F1:Fed f' H H2:=by rw[<- c6];exact F1
 have J:RelD H2 (.ref on) (aO r1):=by rw[<- c6];exact J
 clear c6 cc;obtain⟨p2,q2,bz⟩:=F1.2;refine(fJ (jAA (aA Z) (aA Z) (aA Z)) (aC (fJ (jAA (aA Z) (aA Z) (aA Z)) (aI f' p2 (aV q2 (aY bz (aA Z) (aA Z) (λr2 H3 et dg f3=>(fJ (aE Z) (λgr e5=>el _ _ (aL λR4 ek=>?_))))))))));have O:RelD (upd H3 gr (.tup [.str (S "num"),.int ((2:Int) ^ (32:Int).toNat+r2)])) (.ref gr) (aO (4294967296+r2)):=(cY aD Z Z Z (by rw[show(2:Int) ^ (32:Int).toNat=4294967296 by decide];rfl) Z);have bl:=zA e5 (.tup [.str (S "num"),.int ((2:Int) ^ (32:Int).toNat+r2)]);have F3:=(F1.trans f3).same bl;have au:=(J.tups (cK (aI p2 q2 bz) f3) _).same bl _;generalize b8:upd H3 gr _=H4;have F4:Fed f' H H4:=by rw[<- b8];exact F3
 have J:RelD H4 (.ref on) (aO r1):=by rw[<- b8];exact au
 have O:RelD H4 (.ref gr) (aO (4294967296+r2)):=by rw[<- b8];exact O
 clear b8 bl F3 au F1 f1 f3 bz;have d9:4294967296<=4294967296+r2:=by omega
 have c9:(10:Int) ^ (9:Int).toNat=1000000000:=by decide
 have d8:4294967296+r2<2 ^ 33:=by
  have:r2<1000000000:=by rw[<- c9];exact dg
  omega
 have t4:=cK (aI p0 q0 cq) F4;have hm:=dy.tups t4 _;have hh:=cm.tups t4 _;have ha:=t4 _ _ cz;have ec:=cw.tups t4 _;obtain⟨ma,kv,cv,ey,rfl,bu,cl,e9,_⟩:=gG hm;obtain⟨ca,uc,rfl,cr,d0⟩:=e9;obtain⟨ba,ub,rfl,a6,ax⟩:=ec;have dz:=d0.length;have e0:=ax.length;rw[aM]at dz e0;have I:=Sj c3;have a7:Kt mk.kinds 21 (bM hd.boxes) (aO r1) (.ok (S "num")):=Hx c3;refine(bQ (aE Z) (λt1 C=>⟨aE Z,λt2 z=>?_⟩));have e1:=M.ent (r:=.tell (aO (4294967296+r2))) (c:=4) (us:=[.ref gr]) C (aW O Z) z;generalize af:upd (upd _ t1 _) t2 _=H5;have s5:Same H4 H5:=by rw[<- af];exact e1.1
 have ay:EntAt mk.kinds mk.chans hd.name hd.boxes H5 (.ref t2):=(eU (by rw[<- af];exact e1.2) (Sy d9 d8));clear af e1;refine(aC (bQ (aE Z) (λt3 a9=>⟨aE Z,λt4 a8=>⟨aE Z,λt5 aq=>⟨aE Z,λl hl=>ek _ _ (aL λR5 ej=>?_)⟩⟩⟩)));have s6:=zA a9 (.tup [.str (S "op"),.str (S "+"),.ref on,.ref gr]);have ci:RelD (upd H5 t3 (.tup [.str (S "op"),.str (S "+"),.ref on,.ref gr])) (.ref t3) (iZ (S "+") (aO r1) (aO (4294967296+r2))):=(fA aD (eM Z Z Z (J.same (s5.trans s6) _) (aW (O.same (s5.trans s6) _) Z)));have e6:=M.ent (r:=.cond (iZ (S "+") (aO r1) (aO (4294967296+r2))) 0) (c:=4) (us:=[.ref t3,.int 0]) a8 (aW ci (aW Z Z)) aq;have sl:=zA hl (.lst [.ref t2,.ref t5]);have b2:=s6.trans e6.1;generalize d7:upd (upd (upd (upd _ t3 _) t4 _) t5 _) l _=H6
 have b6:BLs mk.kinds mk.chans hd.name hd.boxes H4 H6 l [.ref t2,.ref t5] 2:=by
  rw[<- d7];refine⟨s5.trans (b2.trans sl),pZ (s5.trans b2) hl,aD,λw hw=>?_,qD _⟩;rcases gD hw with rfl |hw
  ·exact ay.tups (Same.tups (b2.trans sl))
  ·rw[cD hw]
   exact EntAt.tups (eU e6.2 (Q7 c3 d9 d8)) (Same.tups sl)
 clear d7 sl b2 e6 ci s6 ay s5;generalize [V.ref t2,V.ref t5]=a5 at b6;refine(bQ (aE Z) (λt1 C=>⟨aE Z,λt2 z=>⟨aE Z,λt3 a9=>?_⟩⟩));have s1:=zA C (.tup [.str (S "box"),.str (S "far")]);have e1:=M.ent (r:=.tell (fB (S "far"))) (c:=2) (us:=[.ref t1]) z (aW (cY aD Z Z Z Z Z) Z) a9;generalize c5:upd (upd (upd _ t1 _) t2 _) t3 _=H7;have s7:Same H6 H7:=by rw[<- c5];exact s1.trans e1.1
 have db:EntAt mk.kinds mk.chans hd.name hd.boxes H7 (.ref t3):=(eU (by rw[<- c5];exact e1.2) (P8 g));clear c5 e1 s1;have bo:=b6.sm.trans s7;refine(bQ (aE Z) (λt4 a8=>⟨aE Z,λt5 aq=>?_⟩));have e1:=M.ent (r:=.send (S "far") (aO r1)) (c:=2) (us:=[.str (S "far"),.ref on]) a8 (aW Z (aW (J.same bo _) Z)) aq;generalize c4:upd (upd _ t4 _) t5 _=H8;have s8:Same H7 H8:=by rw[<- c4];exact e1.1
 have da:EntAt mk.kinds mk.chans hd.name hd.boxes H8 (.ref t5):=(eU (by rw[<- c4];exact e1.2) (T8 g I));clear c4 e1;have cd:=bo.trans s8;refine(bQ (aE Z) (λt6 br=>⟨aE Z,λt7 bq=>⟨aE Z,λD hD=>?_⟩⟩));have e1:=M.ent (r:=.set (S "far") (aO r1)) (c:=2) (us:=[.str (S "far"),.ref on]) br (aW Z (aW (J.same cd _) Z)) bq;have sD:=zA hD (.lst [.ref t3,.ref t5,.ref t7]);have bn:=s7.trans (s8.trans (e1.1.trans sD));refine(aI l D (aV a5 (cP (jAAA (bn _ _ b6.at_) aD (aB (by have:=b6.len;show a5.length+3<=_;omega)) (λl2 e3=>ej _ _ (aL λR6 ei=>?_))))))
 have b9:=b6.cat bn (ys:=[.ref t3,.ref t5,.ref t7]) (M:=3) (λw hw=>by
  simp only[List.mem_cons,List.not_mem_nil,or_false]at hw;rcases hw with rfl |rfl |rfl
  ·exact db.tups (Same.tups (s8.trans (e1.1.trans sD)))
  ·exact da.tups (Same.tups (e1.1.trans sD))
  ·exact EntAt.tups (eU e1.2 (Q8 g I)) (Same.tups sD)) (qD _) e3
 generalize d6:upd (upd _ D _) l2 _=H9;have b9:BLs mk.kinds mk.chans hd.name hd.boxes H4 H9 l2 (a5++[.ref t3,.ref t5,.ref t7]) 5:=by rw[<- d6];exact b9
 clear d6 sD bn e1 da db cd bo s8 s7;generalize a5++[V.ref t3,V.ref t5,V.ref t7]=bj at b9;clear b6;refine(aC (jAA (.inl (gR (zF b9.at_))) (aE Z) (λt1 C=>⟨aE Z,λt2 z=>?_⟩)));have ch:RelDs H9 [.str (S "mark"),.str (S "far"),.str (S "far")] (Row.take (S "mark") (S "far") (S "far")).as:=(aK (eM Z Z Z Z Z));obtain⟨z9,ag,_⟩:=b9.ent (r:=.take (S "mark") (S "far") (S "far")) (c:=2) C ch z (Ta g);refine(iA bj Z z9 (cL (by have:=b9.len;omega)) (ei _ _ (aL λR7 eh=>?_)));generalize bi:upd (upd (upd _ t1 _) t2 _) l2 _=dc;have ag:BLs mk.kinds mk.chans hd.name hd.boxes H4 dc l2 (bj++[.ref t2]) 6:=by rw[<- bi];exact ag
 clear bi z9 ch;generalize bj++[V.ref t2]=ah at ag;clear b9;refine(aC (jAA (.inl (gR (zF ag.at_))) (aE Z) (λt0 ds=>⟨aE Z,λt1 C=>⟨aE Z,λt2 z=>⟨aE Z,λt3 a9=>⟨aE Z,λt4 a8=>?_⟩⟩⟩⟩)));have s1:=zA ds (.tup []);have s2:=zA C (.tup [.str (S "rec"),.str (S "far"),.ref t0]);have bf:RelD (upd (upd dc t0 (.tup [])) t1 (.tup [.str (S "rec"),.str (S "far"),.ref t0])) (.ref t1) (cI (S "far") []):=(fA aD (eM Z Z Z (gB (s2 _ _ aD) Z) Z));obtain⟨s3,bg⟩:=wH (f:=S "far") bf z;have sA:=s1.trans (s2.trans s3);obtain⟨c7,ai,_⟩:=(ag.keep sA).ent (r:=.tell (eR (cI (S "far") []) (S "far"))) (c:=2) (us:=[.ref t2]) a9 (aW bg Z) a8 (Px g);refine(iA ah Z c7 (cL (by have:=ag.len;omega)) (eh _ _ (aL λR8 eg=>?_)));generalize bh:upd (upd (upd _ t3 _) t4 _) l2 _=er;have ai:BLs mk.kinds mk.chans hd.name hd.boxes H4 er l2 (ah++[.ref t4]) 7:=by rw[<- bh];exact ai
 clear bh c7 bg bf sA s1 s2 s3;have bc:ah++[V.ref t4]≠[]:=by simp
 generalize ah++[V.ref t4]=c8 at ai bc;clear ag;refine(aQ (zD (ai.sm _ _ bu)) Z (bU ⟨_,zD (ai.sm _ _ cr)⟩ ?_));refine hJ (xs:=uc) (λi σ G=>∃(ws:List V) (am al ak aj y x:Option V),σ=[some (.ref f'),some (.ref ma),some (.ref a),some nv,some (.str hd.name),some (.ref ba),some rv,some (.ref on),some (.ref gr),some (.ref l2),am,al,ak,aj,y,x]/\BLs mk.kinds mk.chans hd.name hd.boxes H4 G l2 ws (7+22*i)/\ws≠[]) (fD c8 none none none none none (dG none Z ai bc)) (λi σ G _ p=>by obtain⟨_,_,_,_,_,_,_,_,b,_⟩:=p;exact zD (b.sm _ _ cr)) ?_ ?_
 ·rintro i v σ HA hv ⟨ws,am,al,ak,aj,y,x,rfl,bA,bp⟩
  obtain⟨cb,c,hc,rfl,ea⟩:=rT d0 hv;have hi:i<uc.length:=(cV hv).1;have aw:=cJ hc;have ew:=bA.len;refine(gK (jAA (zD (bA.sm _ _ ea)) Z (aK ⟨Z,(aK ⟨Z,(aK ⟨Z,(aW Z (aL λS1 c0=>?_))⟩)⟩)⟩)))
  have be:∀ws G,BLs mk.kinds mk.chans hd.name hd.boxes H4 G l2 ws (7+22*i+1)->ws≠[]->S1 [some (.ref f'),some (.ref ma),some (.ref a),some nv,some (.str hd.name),some (.ref ba),some rv,some (.ref on),some (.ref gr),some (.ref l2),some (.str c.1),some (.str c.2.1),some (.str c.2.2.1),some (.str c.2.2.2),y,x] G:=by
   intro ws G bB b3;refine c0 _ _ (aL λS2 ee=>?_)
   have bd:∀ws G y x,BLs mk.kinds mk.chans hd.name hd.boxes H4 G l2 ws (7+22*i+11)->ws≠[]->S2 [some (.ref f'),some (.ref ma),some (.ref a),some nv,some (.str hd.name),some (.ref ba),some rv,some (.ref on),some (.ref gr),some (.ref l2),some (.str c.1),some (.str c.2.1),some (.str c.2.2.1),some (.str c.2.2.2),y,x] G:=by
    intro ws G y x bC an;refine ee _ _ (aL λS3 ed=>?_);have dq:=bC.len
    have ao:∀ws G,BLs mk.kinds mk.chans hd.name hd.boxes H4 G l2 ws (7+22*i+12)->ws≠[]->S3 [some (.ref f'),some (.ref ma),some (.ref a),some nv,some (.str hd.name),some (.ref ba),some rv,some (.ref on),some (.ref gr),some (.ref l2),some (.str c.1),some (.str c.2.1),some (.str c.2.2.1),some (.str c.2.2.2),y,x] G:=by
     intro ws G bD dj;refine ed _ _ ?_;refine(fN ⟨_,zD (bD.sm _ _ a6)⟩ ?_);refine hJ (xs:=ub) (λj σ G=>∃(ws:List V) (y x:Option V),σ=[some (.ref f'),some (.ref ma),some (.ref a),some nv,some (.str hd.name),some (.ref ba),some rv,some (.ref on),some (.ref gr),some (.ref l2),some (.str c.1),some (.str c.2.1),some (.str c.2.2.1),some (.str c.2.2.2),y,x]/\BLs mk.kinds mk.chans hd.name hd.boxes H4 G l2 ws (7+22*i+12+j)/\ws≠[]) (eN ws (eV bD dj)) (λj σ G _ p=>by obtain⟨_,_,_,_,b,_⟩:=p;exact zD (b.sm _ _ a6)) ?_ ?_
     ·rintro j v σ HE hv ⟨ws,y,x,rfl,Y,a3⟩
      obtain⟨b',pb,aa,rfl,ae⟩:=mX ax hv;have hj:j<ub.length:=(cV hv).1;have cg:=Y.len;refine(iX (zD (Y.sm _ _ ae)) Z Z Z Z ?_);refine(bJ (bP Z (aJ (λc1=>?_) (λc1=>cG (aV ws (bU (Y.up (by omega)) a3))))));refine(bJ (bP Z (aJ (λc2=>?_) (λc2=>(aV ws (bU (Y.up (by omega)) a3))))));have ac:c.2.2.1=hd.name:=V.str.inj (qE c1);have ab:pb.2≠c.2.2.2:=λe=>by rw[e]at c2;simp at c2
      refine(aC (dY (.inl (gR (zF Y.at_))) (eV (aE Z) (λt1 C=>⟨aE Z,λt2 z=>?_⟩))));have bt:RelDs HE [.str (S "mark"),.str c.1,.str pb.1] (Row.take (S "mark") c.1 pb.1).as:=(aK (eM Z Z Z Z Z));obtain⟨zE,bF,_⟩:=Y.ent (r:=.take (S "mark") c.1 pb.1) (c:=4) C bt z (Tc g aw (cJ aa) ac ab);exact(iA ws Z zE (cL (by omega)) (aK (bU (bF.up (by omega)) (by simp))))
     ·rintro σ HE ⟨ws,y,x,rfl,Y,a3⟩
      exact(eN ws (aK (aK (eV (Y.up (by omega)) a3))))
    refine(bJ (bP Z (aJ (λc1=>?_) (λc1=>cG (ao _ _ (bC.up (by omega)) an)))));refine(dE Z Z (aJ (λc2=>?_) (λc2=>ao _ _ (bC.up (by omega)) an)));have ac:c.2.1=hd.name:=V.str.inj (qE c1);have ab:S "num"≠c.2.2.2:=λe=>by rw[<- e]at c2;simp at c2;exact c2 Z
    refine(aC (dY (.inl (gR (zF bC.at_))) (eV (aE Z) (λt1 C=>⟨aE Z,λt2 z=>?_⟩))));have dt:RelDs G [.str c.1,.ref on] (Row.send c.1 (aO r1)).as:=(aW Z (aW (J.same bC.sm _) Z));obtain⟨zC,bF,_⟩:=bC.ent (r:=.send c.1 (aO r1)) (c:=4) C dt z (Jm g aw ac a7 ab I);exact(iA ws Z zC (cL (by omega)) (ao _ _ bF (by simp)))
   refine(bJ (bP Z (aJ (λc1=>?_) (λc1=>bd _ _ _ _ (bB.up (by omega)) b3))));have ac:c.2.2.1≠hd.name:=λe=>by rw[e]at c1;simp at c1
   refine(fN ⟨_,zD (bB.sm _ _ a6)⟩ ?_);refine hJ (xs:=ub) (λj σ G=>∃(ws:List V) (y x:Option V),σ=[some (.ref f'),some (.ref ma),some (.ref a),some nv,some (.str hd.name),some (.ref ba),some rv,some (.ref on),some (.ref gr),some (.ref l2),some (.str c.1),some (.str c.2.1),some (.str c.2.2.1),some (.str c.2.2.2),y,x]/\BLs mk.kinds mk.chans hd.name hd.boxes H4 G l2 ws (7+22*i+1+j)/\ws≠[]) (eN ws (eV bB b3)) (λj σ G _ p=>by obtain⟨_,_,_,_,b,_⟩:=p;exact zD (b.sm _ _ a6)) ?_ ?_
   ·rintro j v σ HE hv ⟨ws,y,x,rfl,Y,a3⟩
    obtain⟨b',pb,aa,rfl,ae⟩:=mX ax hv;have hj:j<ub.length:=(cV hv).1;have cg:=Y.len;refine(iX (zD (Y.sm _ _ ae)) Z Z Z Z ?_);refine(bJ (bP Z (aJ (λc2=>?_) (λc2=>(aV ws (bU (Y.up (by omega)) a3))))));refine(aC (dY (.inl (gR (zF Y.at_))) (eV (aE Z) (λt1 C=>⟨aE Z,λt2 z=>?_⟩))));have bt:RelDs HE [.str (S "mark"),.str c.1,.str pb.1] (Row.take (S "mark") c.1 pb.1).as:=(aK (eM Z Z Z Z Z));obtain⟨zE,bF,_⟩:=Y.ent (r:=.take (S "mark") c.1 pb.1) (c:=6) C bt z (Tb g aw (cJ aa) ac);exact(iA ws Z zE (cL (by omega)) (aK (bU (bF.up (by omega)) (by simp))))
   ·rintro σ HE ⟨ws,y,x,rfl,Y,a3⟩
    exact bd _ _ _ _ (Y.up (by omega)) a3
  refine(bJ (bP Z (aJ (λc1=>?_) (λc1=>be _ _ (bA.up (by omega)) bp))));have ac:c.2.1≠hd.name:=λe=>by rw[e]at c1;simp at c1
  refine(bQ (.inl (gR (zF bA.at_))) (dI (zD (bA.sm _ _ bu)) Z (eF (aK (aY (cl.same bA.sm _) g.wf (g.ckin c aw) (λu HB sB hu=>⟨aE Z,λt1 C=>⟨aE Z,λt2 z=>?_⟩⟩))))));have bB:=bA.keep sB;have du:RelDs HB [.str c.1,u] (Row.send c.1 (cH 7 mk.kinds c.2.2.2)).as:=(aW Z (aW hu Z));obtain⟨zB,bF,_⟩:=bB.ent (r:=.send c.1 (cH 7 mk.kinds c.2.2.2)) (c:=6) C du z (T9 g aw ac);exact(iA ws Z zB (cL (by omega)) (be _ _ bF (by simp)))
 rintro σ HA ⟨de,am,al,ak,aj,y,x,rfl,bA,bp⟩;refine eg _ _ (aL λR9 ef=>?_);refine(fN ⟨_,zD (bA.sm _ _ a6)⟩ ?_);refine hJ (xs:=ub) (λj σ G=>∃(l:Addr) (ws:List V) (y x:Option V),σ=[some (.ref f'),some (.ref ma),some (.ref a),some nv,some (.str hd.name),some (.ref ba),some rv,some (.ref on),some (.ref gr),some (.ref l),am,al,ak,aj,y,x]/\BLs mk.kinds mk.chans hd.name hd.boxes H4 G l ws (227+3*j)/\ws≠[]) (aI l2 de (aK (eV (bA.up (by omega)) bp))) (λj σ G _ p=>by obtain⟨_,_,_,_,_,b,_⟩:=p;exact zD (b.sm _ _ a6)) ?_ ?_
 ·rintro j v σ HE hv ⟨l,ws,y,x,rfl,Y,a3⟩
  obtain⟨b',pb,aa,rfl,ae⟩:=mX ax hv;have hj:j<ub.length:=(cV hv).1;have cg:=Y.len;have ar:=cJ aa;refine(iX (zD (Y.sm _ _ ae)) Z Z Z Z ?_);refine(dE Z Z (aJ (λc2=>?_) (λc2=>(aI l ws (aK (jAA Z (Y.up (by omega)) a3))))));have ab:pb.2≠S "num":=λe=>by rw[e]at c2;simp at c2;exact c2 Z
  refine aL λS1 c0=>?_;refine(bJ (bQ (aE Z) (λt1 C=>⟨aE Z,λt2 z=>?_⟩)));have e1:=M.ent (r:=.set pb.1 (aO r1)) (c:=4) (us:=[.str pb.1,.ref on]) C (aW Z (aW (J.same Y.sm _) Z)) z;generalize af:upd (upd _ t1 _) t2 _=H5;have s5:Same HE H5:=by rw[<- af];exact e1.1
  have ay:EntAt mk.kinds mk.chans hd.name hd.boxes H5 (.ref t2):=(eU (by rw[<- af];exact e1.2) (Hg g ar a7 (Ne.symm ab) I));clear af e1;refine(bQ (aE Z) (λt3 a9=>⟨aE Z,λt4 a8=>⟨aE Z,λt5 aq=>⟨aE Z,λD hD=>?_⟩⟩⟩));have s6:=zA a9 (.tup [.str (S "box"),.str pb.1]);have e2:=M.ent (r:=.tell (fB pb.1)) (c:=4) (us:=[.ref t3]) a8 (aW (cY aD Z Z Z Z Z) Z) aq;have sD:=zA hD (.lst [.ref t2,.ref t5]);have bm:=s5.trans (s6.trans (e2.1.trans sD));refine(aI l D (aV ws (cP (jAAA (bm _ _ Y.at_) aD (aB (by show ws.length+2<=_;omega)) (λl3 bx=>c0 _ _ ?_)))))
  have bF:=Y.cat bm (ys:=[.ref t2,.ref t5]) (M:=2) (λw hw=>by
   rcases gD hw with rfl |hw
   ·exact ay.tups (Same.tups (s6.trans (e2.1.trans sD)))
   ·rw[cD hw]
    exact EntAt.tups (eU e2.2 (Jn (Hh g ar) ab (Bo (g.bsh pb ar).1))) (Same.tups sD)) (qD _) bx
  generalize d5:upd (upd _ D _) l3 _=HF;have bF:BLs mk.kinds mk.chans hd.name hd.boxes H4 HF l3 (ws++[.ref t2,.ref t5]) (227+3*j+2):=by rw[<- d5];exact bF
  clear d5 bm sD e2 s6 ay s5;generalize ws++[V.ref t2,V.ref t5]=dd at bF;have eu:=bF.len;refine(bQ (.inl (gR (zF bF.at_))) (bQ (aE Z) (λt6 br=>⟨aE Z,λt7 bq=>⟨aE Z,λt8 dr=>?_⟩⟩)));have s7:=zA br (.tup [.str (S "box"),.str pb.1]);have dv:RelDs (upd HF t6 (.tup [.str (S "box"),.str pb.1])) [.ref t6,.int 0] (Row.cond (fB pb.1) 0).as:=(aW (cY aD Z Z Z Z Z) (aW Z Z));obtain⟨z7,bG,_⟩:=(bF.keep s7).ent (r:=.cond (fB pb.1) 0) (c:=4) bq dv dr (Jl (Hh g ar) ab (Bo (g.bsh pb ar).1));exact(iA dd Z z7 (cL (by omega)) (aK (aK (eV (bG.up (by omega)) (by simp)))))
 rintro σ HB ⟨l,b0,y,x,rfl,bB,b3⟩;refine ef _ _ (aL λf4 d4=>?_);have ev:=bB.len;have dx:=hm.same bB.sm _;have e4:=hh.same bB.sm _;refine(gC (aK (aI mk hd (eX dx e4 g cu cy (λlw az HC bW=>(aI l lw (aI b0 az (cP (jAAA (bW.sm _ _ bB.at_) bW.at_ (aB (by have:=bW.len;omega)) (λl3 bx=>d4 _ _ (aL λf2 d3=>?_)))))))))));have dn:=bW.len;have bC:=bB.cat bW.sm bW.all (M:=126) dn bx;have an:b0++az≠[]:=λe=>b3 (List.append_eq_nil_iff.mp e).1;generalize upd HC l3 (.lst (b0++az))=HD at bC⊢;generalize b0++az=U at bC an⊢;have dq:=bC.len;have b7:=F4.2;obtain⟨p4,q4,b7⟩:=b7;have b4:=bC.sm _ _ b7;have dm:l3≠f':=λe=>by have:=bC.fr;rw[e,b7]at this;cases this
 refine d3 _ _ (aL λeq d2=>?_)
 have cf:∀xv G,(xv=.non\/∃b∈hd.boxes,xv=.str b.1)->Fed f' HD G->eq [some (.ref f'),some (.ref ma),some (.ref a),some nv,some (.str hd.name),some (.ref ba),some rv,some (.ref on),some (.ref gr),some (.ref l3),am,al,ak,aj,some xv,x] G:=by
  intro xv G hx F;refine d2 _ _ (aL λf0 d1=>?_);have tF:=cK (aK b4) F;have hl:=F.1 _ _ bC.at_ dm;have e7:∀w∈U,EntAt mk.kinds mk.chans hd.name hd.boxes G w:=λw hw=>(bC.all w hw).tups tF;have cj:=tF _ _ (bC.sm _ _ bu);have ck:=(cl.same bC.sm _).tups tF _;have ep:Fed f' H G:=(F4.same bC.sm).trans F;refine(aC (dI (zD cj) Z (eF (aK (aI mk.kinds mk.chans (aI hd.name hd.boxes (aY ck g hx (λl5 a2 H5 b5=>(aI l3 l5 (aI U a2 (cP (jAAA (b5.sm _ _ hl) b5.at_ (aB (by have:=b5.len;omega)) (λl6 bw=>d1 _ _ ?_)))))))))))));have ex:=b5.len;obtain⟨pF,qF,co⟩:=F.2;have dl:l6≠f':=λe=>by rw[e,b5.sm _ _ co]at bw;cases bw
  have s6:=zA bw (.lst (U++a2));have b1:=b5.sm.trans s6
  have av:∀w∈U++a2,EntAt mk.kinds mk.chans hd.name hd.boxes (upd H5 l6 (.lst (U++a2))) w:=λw hw=>by
   rcases dD hw with hw |hw
   ·exact(e7 w hw).tups (Same.tups b1)
   ·exact(b5.all w hw).tups (Same.tups s6)
  have ce:U++a2≠[]:=λe=>an (List.append_eq_nil_iff.mp e).1;have bb:upd H5 l6 (.lst (U++a2)) l6=some (.lst (U++a2)):=aD;have dk:(U++a2).length<=600:=by rw[bS];omega
  generalize upd H5 l6 (.lst (U++a2))=H6 at b1 av bb⊢;generalize U++a2=a5 at av bb ce dk⊢;have cp:=b1 _ _ co;have pos:0<a5.length:=List.length_pos_iff.mpr ce;refine(gC (eO l6 a5 Z (.inl (zF bb)) (aI f' pF (aV qF (aY cp (by omega) (by omega) (λr H7 r0 r1 f7=>?_))))));obtain⟨k,rfl⟩:∃k:Nat,r=(k:Int):=⟨r.toNat,by omega⟩;have hk:k<a5.length:=by omega
  refine(aI l6 a5 (aK (cP (jAA (zF (f7.1 _ _ bb dl)) (cM (cF hk)) ?_))));obtain⟨df,c,e8,cx⟩:=(av _ (qY hk)).tups (cK (aK cp) f7);exact q _ df c H7 ((ep.same b1).trans f7) e8 cx
 refine(aC (eO ba ub Z (.inr (zD (bC.sm _ _ a6))) (fQ Z (aJ (λc1=>?_) (λc1=>cf _ _ (.inl Z) (Fed.refl b4))))));have es:0<ub.length:=by have:=qE c1;omega
 refine(gC (eO ba ub Z (.inr (zD (bC.sm _ _ a6))) (aV f' (aK (aY b4 (by omega) (by omega) (λr H7 r0 r1 f7=>?_))))));obtain⟨k,rfl⟩:∃k:Nat,r=(k:Int):=⟨r.toNat,by omega⟩;have hk:k<ub.length:=by omega
 obtain⟨b',pb,aa,eb,ae⟩:=mX ax (cF hk);have t7:=cK (aK b4) f7;refine(aI ba ub (aK (cP (jAA (zD (t7 _ _ (bC.sm _ _ a6))) (cM (cF hk)) ?_))));rw[eb];exact(eZ (zD (t7 _ _ (bC.sm _ _ ae))) Z (cf _ _ (.inr (cZ pb (cJ aa) Z)) f7))
structure FN(H:Hp)(f nb:Addr)(nms:List Str):Prop where
 fd:∃p q:Int,H f=some (.lst [.int p,.int q])
 nl:H nb=some (.lst (nms.map V.str))
 ok:iM nms
 fa:∀z∈nms,gS z
theorem FN.ne(g:FN H f b a):b≠f:=λe=>by
 obtain⟨p,q,h⟩:=g.fd;have c:=g.nl;rw[e,h]at c;have:=congrArg List.length (HO.lst.inj (qK c));rw[aM,g.ok.1]at this;cases this
def FN.same(g:FN H f b a)(s:Same H c):FN c f b a:=by
 obtain⟨p,q,h⟩:=g.fd;exact⟨(aI p q (s _ _ h)),s _ _ g.nl,g.ok,g.fa⟩
def FN.fed(g:FN H f b a)(s:Fed f H c):FN c f b a:=⟨s.2,s.1 _ _ g.nl g.ne,g.ok,g.fa⟩
theorem FN.name(g:FN H f b a)(i:Nat)(h:i<26):∃z,a[i]?=some z/\fG (a.map V.str) (i:Int)=some (.str z):=by
 have c:=g.ok.1;exact(cZ (a[i]'(by omega)) (cF _) (cM (by rw[dA,cF (by omega)];rfl)))
def Jb:Sp:=λvs H Q _=>∃(f nb:Addr) (kv:V) (ks:List Kn) (nms:List Str),vs=[.ref f,kv,.ref nb]/\FN H f nb nms/\RelD H kv (iO ks)/\KG nms ks/\∀v ks' c H',Fed f H H'->RelD H' v (.tup [iO ks',.str (eL c)])->BadK ks' c->Q v H'
def C9{p t:Addr}(e:H p=some (.tup us))(b:RelDs H us (ks.map Kn.d))(a:H t=none):RelD (upd H t (.tup [.ref p,.str (eL c)])) (.ref t) (.tup [iO ks,.str (eL c)]):=by
 have s:=zA a (.tup [.ref p,.str (eL c)]);exact(cY aD Z (iP us (s _ _ e) (b.same s _)) Z Z Z)
def Dx{ks more:List Kn}(h:RelDs H us (ks.map Kn.d))(a:RelDs H ws (more.map Kn.d)):RelDs H (us++ws) ((ks++more).map Kn.d):=by
 rw[bZ];exact h.append a
def xh5(T:Tx K mg)(e:DefIs P w K mg base n "_law_take" qab iW):DefIs P w K mg base (n+1) "_law_bad_kinds" qba Jb:=by
 refine DefIs.of T.kZ scl_bad_kinds (by walk_at"l") (λf br A outer s H vs Q E hr h=>?_);obtain⟨f',nb,kv,ks,a,rfl,g,b8,kg,q⟩:=h;have nd:=scl_bad_kinds.nd;have h4:=kg.k4;have ok:=g.ok;obtain⟨p0,q0,az⟩:=g.fd
 refine⟨_,(aF (aR 3 nd (pd e hr (va 0 (pc pI pN aG))))
   (aF (aT (PW.pt (iF (pR bY (pv 3) pI (nM _)) (iQ (pR lK (bV (dM (K:=K) Z) Z T.uS zH (v1 1)) pI (nM _))))) (po (aS (aH (pc (aN (gX (K:=K) Z) (pv 1) (aH (pc (aH (pc (px K (px K (pv 1) (pd e hr (va 0 (pc (bV (dM (K:=K) Z) Z T.uS zH (v1 1)) pN bL)))) pI) (pc pS (pc (aH pN) pN sT) aG) ss)) pN sT))) (pc pS pN aG) eI)))) pQ)
   (aF (aT (pR bY (pv 3) pI (nM _)) (po (aS (aH (pc (aN (gX (K:=K) Z) (pv 1) (aH (pc (aH (pc (cC K (pv 2) pI) (pc pS (pc (aH (pc (aH (pc (cC K (pv 2) pI) (pc pS pN aG) ss)) (pc (aH (pc (cC K (pv 2) pI) (pc pS pN aG) ss)) (pc (aH (pc (cC K (pv 2) pI) (pc pS pN aG) ss)) pN sT) sT) sT)) pN sT) aG) ss)) pN sT))) (pc pS pN aG) eI)))) pQ)
   (aF (aT (pR bY (pv 3) pI (nM _)) (po (aS (aH (pc (aN (gX (K:=K) Z) (pv 1) (aH (pc (aH (pc (cC K (pv 2) pI) (pc pS (pc (aH (pc (aH (pc (cC K (pv 2) pI) (pc pS pN aG) ss)) (pc (aH (pc (cC K (pv 2) pI) (pc (cC K (pv 2) pI) pN ss) ss)) pN sT) sT)) pN sT) aG) ss)) pN sT))) (pc pS pN aG) eI)))) pQ)
   (aF (aT (PW.pt (iF (pR bY (pv 3) pI (nM _)) (iQ (pR mR (bV (dM (K:=K) Z) Z T.uS zH (v1 1)) pI (nM _))))) (aF (aR 4 nd (aH (pc (cC K (pv 2) pI) (pc pS (pc (hH (mY (K:=K) Z) Z T.u6 zN (pc (iT ["_law_f"] [none] Z (by kernel_rfl) (oP (K:=K) Z (gY rK (pv 2) (gE pI) (gE pI))) (λ_ _ _ _=>(dU 0)) (λ_ _ _ _=>iH) (λ_ _ _ _=>(aH (va 0 (pc pS pN aG))))) pN oB)) pN bL) aG) ss)))
   (aF (aR 5 nd (aH (pc (cC K (pv 2) pI) (pc pS (pc (hH (mY (K:=K) Z) Z T.u6 zN (pc (iT ["_law_f","_law_names_here"] [none,some 2] Z (by kernel_rfl) (oP (K:=K) Z (gY rK (pv 2) (gE pI) (gE pI))) (λ_ _ _ _=>(dU 0)) (λ_ _ _ _=>iH) (λ_ _ _ _=>(aH (va 0 (pc (cC K (pv 1) pI) pN ss))))) pN oB)) pN bL) aG) ss)))
   (po (aS (aH (pc (aN (gX (K:=K) Z) (pv 1) (aH (va 4 (va 5 (pc (aH (pc (cC K (pv 2) pI) (pc pS (pc (aH (pc (aH (pc (cC K (pv 2) pI) (pc (cC K (pv 2) pI) pN ss) ss)) (pc (aH (pc (cC K (pv 2) pI) (pc (cC K (pv 2) pI) pN ss) ss)) pN sT) sT)) pN sT) aG) ss)) pN sT))))) (pc pS pN aG) eI)))))) pQ)
   (po (aS (aH (pc (aN (gX (K:=K) Z) (pv 1) (aH (pc (aH (pc (cC K (pv 2) pI) (pc pS (pc (aH (pc (aH (pc (cC K (pv 2) pI) (pc (cC K (pv 2) pI) pN ss) ss)) pN sT)) pN sT) aG) ss)) pN sT))) (pc pS pN aG) eI))))))))),aL λR1 bi=>?_⟩
 refine(eP f' p0 (aV q0 (aY az (aA Z) (aA Z) (λr H1 r0 r1 f1=>bi _ _ (aL λR2 bh=>?_)))));have g1:=g.fed f1;have ax:=b8.tups (cK (aK az) f1) _;obtain⟨ka,uk,rfl,G,a3⟩:=id ax;have b7:=a3.length;rw[aM]at b7;obtain⟨x4,n4,a4⟩:=g1.name 4 (aA Z);obtain⟨x5,n5,a5⟩:=g1.name 5 (aA Z);obtain⟨J,n6,a6⟩:=g1.name 6 (aA Z);obtain⟨x7,n7,a7⟩:=g1.name 7 (aA Z);obtain⟨x8,n8,a8⟩:=g1.name 8 (aA Z);obtain⟨x9,n9,a9⟩:=g1.name 9 (aA Z);have SN:∀{I},Same H1 I->SqL K I nb (a.map V.str):=λs=>zF (s _ _ g1.nl);have S0:=SN (Same.refl H1);have af:∀{v ae c I},Same H1 I->RelD I v (.tup [iO ae,.str (eL c)])->BadK ae c->Q v I:=λ{v ae c I} s rd b=>q v ae c I (f1.same s) rd b
 have aa:∀{tk:Addr} {k:Kn} {H2:Hp} {t2 p t3:Addr} {H3:Hp},Same H1 H2->RelD H2 (.ref tk) k.d->H2 t2=none->Same (upd H2 t2 (.tup [.ref tk])) H3->H3 p=some (.tup (uk++[.ref tk]))->H3 t3=none->∀{c},BadK (ks++[k]) c->Q (.ref t3) (upd H3 t3 (.tup [.ref p,.str (eL c)])):=by
  intro tk k H2 t2 p t3 H3 U hk h2 o hp h3 c b;have sA:=(zA h2 (.tup [.ref tk])).trans o;exact af (U.trans (sA.trans (zA h3 _))) (C9 hp (Dx (more:=[k]) (a3.same (U.trans sA) _) (aW (hk.same sA _) Z)) h3) b
 have a2:R2 [some (.ref f'),some (.ref ka),some (.ref nb),some (.int r),none,none] H1:=by
  refine bh _ _ (aL λR3 bg=>?_)
  have al:R3 [some (.ref f'),some (.ref ka),some (.ref nb),some (.int r),none,none] H1:=by
   refine bg _ _ (aL λR4 bf=>?_)
   have ak:R4 [some (.ref f'),some (.ref ka),some (.ref nb),some (.int r),none,none] H1:=by
    refine bf _ _ (aL λR5 be=>?_)
    have a1:R5 [some (.ref f'),some (.ref ka),some (.ref nb),some (.int r),none,none] H1:=by
     refine be _ _ ?_;refine(dI S0 a6 (aQ S0 a8 (aQ S0 a7 ⟨aE Z,λt1 C=>⟨aE Z,λt2 a0=>⟨aE Z,λt3 x=>⟨aE Z,λt4 l=>?_⟩⟩⟩⟩)));have M:=zA C (.tup [.str x8,.str x7]);have U:=zA a0 (.tup [.ref t1]);have o:=zA x (.tup [.str J,.str (S "rec"),.ref t2]);have u:=zA l (.tup [.ref t3]);refine dW ((M.trans (U.trans (o.trans u))) _ _ G) aD (aB (by show uk.length+1<=_;omega)) λp H3 s5 g5=>⟨aE Z,λt5 O=>?_⟩;exact aa (c:=2) (M.trans (U.trans o)) (k:=⟨J,true,[(x8,x7)]⟩) (fA aD (eM Z Z Z (gB (o _ _ aD) (aW (cY ((U.trans o) _ _ aD) Z Z Z Z Z) Z)) Z)) l s5 g5 O (Te ok kg n6 n8 n7)
    refine(dE Z Z (aJ (λc1=>?_) (λc1=>cG a1)));refine(aC (eO ka uk Z (.inr (zD G)) (fQ Z (aJ (λc2=>?_) (λc2=>a1)))));have h3:uk.length<4:=by have:=qE c2;omega
    have ag:bI (a.map V.str) (some 8) (some 12)=((a.drop 8).take 4).map V.str:=by
     unfold bI;rw[aM,ok.1,show HT.sIx 26 26 (some 12)=12 from Z,show HT.sIx 26 0 (some 8)=8 from Z,List.map_take,List.map_drop]
    have l4:((a.drop 8).take 4).length=4:=by rw[List.length_take,List.length_drop,ok.1];decide
    refine aL λS1 bd=>?_;refine(aQ S0 a5 (aC ⟨8,(lF (gB S0 (λls b6=>(bU ⟨_,zF aD⟩ ?_))))⟩));rw[ag];have sl:=zA b6 (.lst (((a.drop 8).take 4).map V.str));have gl:upd H1 ls (.lst (((a.drop 8).take 4).map V.str)) ls=some (.lst (((a.drop 8).take 4).map V.str)):=aD;generalize upd H1 ls (.lst (((a.drop 8).take 4).map V.str))=H2 at sl gl⊢;refine xJ (xs:=((a.drop 8).take 4).map V.str) (λj ys I=>Same H2 I/\RelDs I ys ((((a.drop 8).take 4).take j).map λz=>nJ (z,S "num"))) ⟨Same.refl _,Z⟩ (cL (by rw[aM,l4];decide)) (λj ys I _ p=>zF (p.1 _ _ gl)) ?_ ?_
    ·rintro j y ys I hy hj an ⟨sm,am⟩
     rw[dA]at hy;obtain⟨z,hz,rfl⟩:=dH hy;refine⟨lR Z,oK (bQ (aE Z) (λt ht=>eT hj an ?_))⟩;have st:=zA ht (.tup [.str z,.str (S "num")]);refine⟨sm.trans st,?_⟩;rw[gA,hz,bZ];exact(am.same st _).append (aW (cY aD Z Z Z Z Z) Z)
    rintro y1 H3 bo ⟨o,aw⟩ D1 bl;rw[aM,l4,fH (by rw[l4];exact qD _)]at aw;refine(aV D1 ⟨Z,.inl ⟨zF aD,λp1 b4=>⟨aE Z,λk5 bb=>bd _ _ (aL λS2 bc=>?_)⟩⟩⟩);have u1:=zA bl (.lst y1);have u2:=zA b4 (.tup y1);have u3:=zA bb (.tup [.str x5,.str (S "rec"),.ref p1]);have aj:RelD (upd (upd (upd H3 D1 (.lst y1)) p1 (.tup y1)) k5 (.tup [.str x5,.str (S "rec"),.ref p1])) (.ref k5) (Kn.d ⟨x5,true,four a (S "num")⟩):=(fA aD (eM Z Z Z (iP y1 (u3 _ _ aD) (by unfold four;rw[List.map_map];exact aw.same (u1.trans (u2.trans u3)) _)) Z));generalize aq:upd (upd (upd H3 D1 (.lst y1)) p1 (.tup y1)) k5 _=H4;have u:Same H1 H4:=by rw[<- aq];exact sl.trans (o.trans (u1.trans (u2.trans u3)))
    have aj:RelD H4 (.ref k5) (Kn.d ⟨x5,true,four a (S "num")⟩):=by rw[<- aq];exact aj
    clear aq u1 u2 u3;refine(aQ (SN u) a6 (aC ⟨8,(lF (gB (SN u) (λlt b5=>(bU ⟨_,zF aD⟩ ?_))))⟩));rw[ag];have ah:=zA b5 (.lst (((a.drop 8).take 4).map V.str));have b0:upd H4 lt (.lst (((a.drop 8).take 4).map V.str)) lt=some (.lst (((a.drop 8).take 4).map V.str)):=aD;generalize upd H4 lt (.lst (((a.drop 8).take 4).map V.str))=H5 at ah b0⊢;refine xJ (xs:=((a.drop 8).take 4).map V.str) (λj ys I=>Same H5 I/\RelDs I ys ((((a.drop 8).take 4).take j).map λz=>nJ (z,x5))) ⟨Same.refl _,Z⟩ (cL (by rw[aM,l4];decide)) (λj ys I _ p=>zF (p.1 _ _ b0)) ?_ ?_
    ·rintro j y ys I hy hj an ⟨sm,am⟩
     rw[dA]at hy;obtain⟨z,hz,rfl⟩:=dH hy;refine⟨lR Z,oK (dI (SN (u.trans (ah.trans sm))) a5 ⟨aE Z,λt ht=>eT hj an ?_⟩)⟩;have st:=zA ht (.tup [.str z,.str x5]);refine⟨sm.trans st,?_⟩;rw[gA,hz,bZ];exact(am.same st _).append (aW (cY aD Z Z Z Z Z) Z)
    rintro y2 H6 bn ⟨s6,av⟩ D2 bj;rw[aM,l4,fH (by rw[l4];exact qD _)]at av;refine(aV D2 ⟨Z,.inl ⟨zF aD,λp2 b3=>⟨aE Z,λk6 ba=>bc _ _ ?_⟩⟩⟩);have u1:=zA bj (.lst y2);have u2:=zA b3 (.tup y2);have u3:=zA ba (.tup [.str J,.str (S "rec"),.ref p2]);have ai:RelD (upd (upd (upd H6 D2 (.lst y2)) p2 (.tup y2)) k6 (.tup [.str J,.str (S "rec"),.ref p2])) (.ref k6) (Kn.d ⟨J,true,four a x5⟩):=(fA aD (eM Z Z Z (iP y2 (u3 _ _ aD) (by unfold four;rw[List.map_map];exact av.same (u1.trans (u2.trans u3)) _)) Z));generalize ao:upd (upd (upd H6 D2 (.lst y2)) p2 (.tup y2)) k6 _=H7;have au:Same H4 H7:=by rw[<- ao];exact ah.trans (s6.trans (u1.trans (u2.trans u3)))
    have ai:RelD H7 (.ref k6) (Kn.d ⟨J,true,four a x5⟩):=by rw[<- ao];exact ai
    clear ao u1 u2 u3;have s7:=u.trans au;refine(bJ (dI (SN s7) a4 (aQ (SN s7) a8 (aQ (SN s7) a6 ⟨aE Z,λt1 C=>?_⟩))));have v1:=zA C (.tup [.str x8,.str J]);refine(aQ (SN (s7.trans v1)) a9 (aQ (SN (s7.trans v1)) a6 ⟨aE Z,λt2 a0=>⟨aE Z,λt3 x=>⟨aE Z,λt4 l=>⟨aE Z,λt5 O=>?_⟩⟩⟩⟩));have v2:=zA a0 (.tup [.str x9,.str J]);have v3:=zA x (.tup [.ref t1,.ref t2]);have v4:=zA l (.tup [.str x4,.str (S "rec"),.ref t3]);have v5:=zA O (.tup [.ref k5,.ref k6,.ref t4]);have ar:=v1.trans (v2.trans (v3.trans (v4.trans v5)));refine dW ((s7.trans ar) _ _ G) aD (aB (by show uk.length+3<=_;omega)) λp H8 v6 g6=>⟨aE Z,λt6 Y=>?_⟩;have v7:=zA Y (.tup [.ref p,.str (eL 8)]);have ab:=ar.trans v6;exact af (c:=8) (s7.trans (ab.trans v7)) (C9 (c:=8) g6 (Dx (more:=[⟨x5,true,four a (S "num")⟩,⟨J,true,four a x5⟩,⟨x4,true,[(x8,J),(x9,J)]⟩]) (a3.same (s7.trans ab) _) (aK (eM (aj.same (au.trans ab) _) (ai.same ab _) Z (fA ((v5.trans v6) _ _ aD) (eM Z Z Z (cY ((v4.trans (v5.trans v6)) _ _ aD) Z (cY ((v2.trans (v3.trans (v4.trans (v5.trans v6)))) _ _ aD) Z Z Z Z Z) Z (cY ((v3.trans (v4.trans (v5.trans v6))) _ _ aD) Z Z Z Z Z) Z) Z)) Z))) Y) (Q9 ok kg (by omega) n5 n6 n4 n8 n9)
   refine(dE Z Z (aJ (λc1=>?_) (λc1=>ak)));refine(dI S0 a6 (aQ S0 a8 ⟨aE Z,λt1 C=>?_⟩));have M:=zA C (.tup [.str x8,.str (S "num")]);refine(aQ (SN M) a9 (aQ (SN M) a6 ⟨aE Z,λt2 a0=>⟨aE Z,λt3 x=>⟨aE Z,λt4 l=>⟨aE Z,λt5 O=>?_⟩⟩⟩⟩));have U:=zA a0 (.tup [.str x9,.str J]);have o:=zA x (.tup [.ref t1,.ref t2]);have u:=zA l (.tup [.str J,.str (S "alt"),.ref t3]);have s5:=zA O (.tup [.ref t4]);refine dW ((M.trans (U.trans (o.trans (u.trans s5)))) _ _ G) aD (aB (by show uk.length+1<=_;omega)) λp H3 s6 g6=>⟨aE Z,λt6 Y=>?_⟩;exact aa (c:=2) (M.trans (U.trans (o.trans u))) (k:=⟨J,false,[(x8,S "num"),(x9,J)]⟩) (fA aD (eM Z Z Z (cY (u _ _ aD) Z (cY ((U.trans (o.trans u)) _ _ aD) Z Z Z Z Z) Z (cY ((o.trans u) _ _ aD) Z Z Z Z Z) Z) Z)) O s6 g6 Y (Tf ok kg n6 n8 n9)
  refine(dE Z Z (aJ (λc1=>?_) (λc1=>al)));refine(dI S0 a6 (aQ S0 a8 ⟨aE Z,λt1 C=>?_⟩));have M:=zA C (.tup [.str x8,.str (S "num")]);refine(aQ (SN M) a9 ⟨aE Z,λt2 a0=>?_⟩);have U:=zA a0 (.tup [.str x9,.str (S "num")]);refine(aQ (SN (M.trans U)) a8 ⟨aE Z,λt3 x=>⟨aE Z,λt4 l=>⟨aE Z,λt5 O=>⟨aE Z,λt6 Y=>?_⟩⟩⟩⟩);have o:=zA x (.tup [.str x8,.str (S "num")]);have u:=zA l (.tup [.ref t1,.ref t2,.ref t3]);have s5:=zA O (.tup [.str J,.str (S "rec"),.ref t4]);have s6:=zA Y (.tup [.ref t5]);refine dW ((M.trans (U.trans (o.trans (u.trans (s5.trans s6))))) _ _ G) aD (aB (by show uk.length+1<=_;omega)) λp H3 s7 g7=>⟨aE Z,λt7 b1=>?_⟩;exact aa (c:=1) (M.trans (U.trans (o.trans (u.trans s5)))) (k:=⟨J,true,[(x8,S "num"),(x9,S "num"),(x8,S "num")]⟩) (fA aD (eM Z Z Z (fA (s5 _ _ aD) (eM (cY ((U.trans (o.trans (u.trans s5))) _ _ aD) Z Z Z Z Z) (cY ((o.trans (u.trans s5)) _ _ aD) Z Z Z Z Z) Z (cY ((u.trans s5) _ _ aD) Z Z Z Z Z) Z)) Z)) Y s7 g7 b1 (Qa ok kg n6 n8 n9)
 refine(dE Z Z (aJ (λc1=>?_) (λc1=>cG a2)));refine(aC (eO ka uk Z (.inr (zD G)) (fQ Z (aJ (λc2=>?_) (λc2=>a2)))));have bm:0<uk.length:=by have:=qE c2;omega
 obtain⟨p1,q1,ay⟩:=f1.2;refine(gC (eP ka uk (eV (.inr (zD G)) (aI f' p1 (aV q1 (aY ay (by omega) (by omega) (λr2 H2 bq bp f2=>?_)))))));obtain⟨j,rfl⟩:∃j:Nat,r2=(j:Int):=⟨r2.toNat,by omega⟩;have hj:j<uk.length:=by omega
 have t2:=cK (aK ay) f2;obtain⟨kb,k,pv,hk,ek,b9,_⟩:=B8 a3 (cF hj);refine(aI ka uk (aK (cP (jAA (zD (t2 _ _ G)) (cM (cF hj)) ?_))));rw[ek];refine(eZ (zD (t2 _ _ b9)) Z ⟨aE Z,λt0 b2=>⟨aE Z,λt1 C=>⟨aE Z,λt3 x=>?_⟩⟩⟩);have s0:=zA b2 (.tup []);have M:=zA C (.tup [.str k.name,.str (S "rec"),.ref t0]);have o:=zA x (.tup [.ref t1]);refine dW ((s0.trans (M.trans o)) _ _ (t2 _ _ G)) aD (aB (by show uk.length+1<=_;omega)) λp H3 u g4=>⟨aE Z,λt4 l=>?_⟩;have ac:=o.trans u;have s5:=zA l (.tup [.ref p,.str (eL 1)]);exact q _ (ks++[⟨k.name,true,[]⟩]) 1 _ ((f1.trans f2).same (s0.trans (M.trans (ac.trans s5)))) (C9 (c:=1) g4 (Dx (more:=[⟨k.name,true,[]⟩]) ((a3.tups t2 _).same (s0.trans (M.trans ac)) _) (aW (fA (ac _ _ aD) (eM Z Z Z (gB ((M.trans ac) _ _ aD) Z) Z)) Z)) l) (Qb kg (cJ hk))
def Ja:Sp:=λvs H Q _=>∃(f nb:Addr) (mv:V) (mk:Mak) (nms:List Str),vs=[.ref f,mv,.ref nb]/\FN H f nb nms/\RelD H mv mk.d/\mk.hands≠[]/\mk.hands.length<=10/\mk.chans.length<=10/\∀v c H',Fed f H H'->RelD H' v (.tup ((mk.chans++[c]).map fK))->sX nms mk c->Q v H'
def Jc:Sp:=λvs H Q _=>∃(f:Addr) (mv:V) (mk:Mak),vs=[.ref f,mv]/\(∃p q:Int,H f=some (.lst [.int p,.int q]))/\RelD H mv mk.d/\mk.hands≠[]/\mk.hands.length<=10/\mk.chans≠[]/\mk.chans.length<=10/\∀v mk' H',Fed f H H'->RelD H' v mk'.d->yH mk mk'->Q v H'
def Di{us:List V}{hs:List Hand}(j:RelDs H us (hs.map Hand.d)){i:Nat}(hi:i<us.length):∃(b:Addr) (h:Hand) (c a:V),hs[i]?=some h/\us[i]?=some (.ref b)/\H b=some (.tup [.str h.name,c,a])/\RelD H c (lG h.boxes)/\RelD H a (.tup (h.rows.map Row.d)):=by
 obtain⟨d,hd,rd⟩:=j.get (cF hi);rw[dA]at hd;obtain⟨h,f,rfl⟩:=dH hd;obtain⟨b,c,a,e,g,o,l⟩:=mF rd;exact(aI b h (eO c a f (by rw[cF hi,e]) (jAA g o l)))
def xf8(T:Tx K mg)(u:DefIs P w K mg base n "_law_take" qab iW):DefIs P w K mg base (n+1) "_law_bad_channels" qbb Ja:=by
 refine DefIs.of T.k8 scl_bad_channels (by walk_at"l") (λf az A outer s H vs Q E hr h=>?_);obtain⟨f',nb,mv,mk,a0,rfl,g,hm,ac,ar,au,q⟩:=h;have nd:=scl_bad_channels.nd;have ok:=g.ok;obtain⟨p0,q0,a4⟩:=g.fd;obtain⟨ma,kv,cv,ax,rfl,O,ay,ak,ah⟩:=gG hm;obtain⟨ca,uc,rfl,al,a6⟩:=ak;obtain⟨ha,uh,rfl,a2,a5⟩:=ah;have af:=a6.length;have ae:=a5.length;rw[aM]at af ae;have aq:=List.length_pos_iff.mpr ac
 refine⟨_,(aF (aR 3 nd (px K (px K (px K (pv 1) pI) (pd u hr (va 0 (pc (bV (dM (K:=K) Z) Z T.uS zH (pc (px K (pv 1) pI) pN ss)) pN bL)))) pI))
   (aF (aR 4 nd (fU (pc (aH (pc (cC K (pv 2) pI) (pc (cC K (pv 2) pI) (va 3 (pc pS pN aG)) ss) ss)) (pc (aH (pc (cC K (pv 2) pI) (va 3 (pc (cC K (pv 2) pI) (pc pS pN aG) ss)) ss)) (pc (aH (pc (cC K (pv 2) pI) (va 3 (va 3 (pc (cC K (pv 2) pI) pN ss))) ss)) pN sT) sT) sT)))
   (po (aS (aN (gX (K:=K) Z) (px K (pv 1) pI) (aH (pc (cC K (pv 4) (pd u hr (va 0 (pc pI pN aG)))) pN ss))))))),aL λR1 ao=>?_⟩
 refine(aQ (zD O) Z (dI (zD O) Z (eO ha uh Z (.inr (zD a2)) (aI f' p0 (aV q0 (aY a4 (by omega) (by omega) (λr H1 r0 r1 f1=>?_)))))));obtain⟨j,rfl⟩:∃j:Nat,r=(j:Int):=⟨r.toNat,by omega⟩;have t1:=cK (aK a4) f1;have g1:=g.fed f1;obtain⟨hb,h,_,_,hj,uj,ai,_,_⟩:=Di a5 (i:=j) (by omega);refine(aI ha uh (aK (cP (jAA (zD (t1 _ _ a2)) (cM uj) (eZ (zD (t1 _ _ ai)) Z (ao _ _ (aL λR2 an=>?_)))))));obtain⟨b,M,Y⟩:=g1.name 17 (aA Z);obtain⟨x,n7,a7⟩:=g1.name 7 (aA Z);have SN:∀{H'},Same H1 H'->SqL K H' nb (a0.map V.str):=λs=>zF (s _ _ g1.nl);have S0:=SN (Same.refl H1);refine(aQ S0 Y (aQ S0 a7 (bQ (aE Z) (λt2 ab=>?_))));have J:=zA ab (.tup [.str b,.str x,.str h.name,.str (S "num")]);refine(aQ (SN J) Y (dI (SN J) a7 ⟨aE Z,λC aa=>?_⟩));have s3:=zA aa (.tup [.str b,.str h.name,.str x,.str (S "num")]);refine(aQ (SN (J.trans s3)) Y (aC (dI (SN (J.trans s3)) a7 ⟨aE Z,λG a9=>⟨aE Z,λl hl=>an _ _ ?_⟩⟩)));have s4:=zA a9 (.tup [.str b,.str h.name,.str h.name,.str x]);have sl:=zA hl (.lst [.ref t2,.ref C,.ref G]);have h2:=(s3.trans (s4.trans sl)) _ _ (aD (H:=H1) (a:=t2) (o:=.tup [.str b,.str x,.str h.name,.str (S "num")]));have h3:=(s4.trans sl) _ _ (aD (H:=upd H1 t2 (.tup [.str b,.str x,.str h.name,.str (S "num")])) (a:=C) (o:=.tup [.str b,.str h.name,.str x,.str (S "num")]))
 have h4:=sl _ _ (aD (H:=upd (upd H1 t2 (.tup [.str b,.str x,.str h.name,.str (S "num")])) C (.tup [.str b,.str h.name,.str x,.str (S "num")])) (a:=G) (o:=.tup [.str b,.str h.name,.str h.name,.str x]));have U:h.name∈mk.hands.map Hand.name:=qP (cJ hj);generalize y:upd (upd (upd (upd H1 t2 _) C _) G _) l _=H5;have z:Same H1 H5:=by rw[<- y];exact J.trans (s3.trans (s4.trans sl))
 have h2:H5 t2=some (.tup [.str b,.str x,.str h.name,.str (S "num")]):=by rw[<- y];exact h2
 have h3:H5 C=some (.tup [.str b,.str h.name,.str x,.str (S "num")]):=by rw[<- y];exact h3
 have h4:H5 G=some (.tup [.str b,.str h.name,.str h.name,.str x]):=by rw[<- y];exact h4
 have ag:H5 l=some (.lst [.ref t2,.ref C,.ref G]):=by rw[<- y];exact aD
 have lf:l≠f':=λe=>by
  obtain⟨p1,q1,aj⟩:=g1.fd;have:=(J.trans (s3.trans s4)) _ _ aj;rw[<- e,hl]at this;cases this
 clear y sl s4 s3 J;obtain⟨p5,q5,a3⟩:=(g1.same z).fd;have a1:=z _ _ (t1 _ _ O);refine(aQ (zD a1) Z (aC (eP f' p5 (aV q5 (aY a3 (aA Z) (aA Z) (λr2 H6 aw av f6=>?_))))));obtain⟨i,rfl⟩:∃i:Nat,r2=(i:Int):=⟨r2.toNat,by omega⟩
 obtain⟨tc,c,am,hc,hb⟩:∃(tc:Addr) (c:cR),[V.ref t2,V.ref C,V.ref G][i]?=some (.ref tc)/\H5 tc=some (.tup [.str c.1,.str c.2.1,.str c.2.2.1,.str c.2.2.2])/\sX a0 mk c:=by
  have:i=0\/i=1\/i=2:=by omega
  rcases this with rfl |rfl |rfl
  ·exact(aI t2 (b,x,h.name,S "num") (aZ h2 M (eO x h.name n7 U (.inl Z))))
  ·exact(aI C (b,h.name,x,S "num") (aZ h3 M (eO x h.name n7 U (.inr (.inl Z)))))
  ·exact(aI G (b,h.name,h.name,x) (aZ h4 M (eO x h.name n7 U (.inr (.inr Z)))))
 have t6:=cK (aK a3) f6;refine(eZ (zF (f6.1 _ _ ag lf)) (cM am) ⟨aE Z,λt7 a8=>?_⟩);have s7:=zA a8 (.tup [.ref tc]);refine dW (s7 _ _ (t6 _ _ (z _ _ (t1 _ _ al)))) aD (aB (by show uc.length+1<=_;omega)) λp H8 s8 g8=>?_;have I:=s7.trans s8;refine q _ c H8 (((f1.same z).trans f6).same I) (gB g8 ?_) hb;rw[bZ];exact((((a6.tups t1 _).same z _).tups t6 _).same I _).append (aW (fA (I _ _ (t6 _ _ hc)) (eM Z Z Z Z (aW Z Z))) Z)
def xh4(T:Tx K mg)(a:DefIs P w K mg base n "_law_take" qab iW):DefIs P w K mg base (n+1) "_law_bad_names" qbc Jc:=by
 refine DefIs.of T.k9 scl_bad_names (by walk_at"l") (λf az A outer s H vs Q E hr h=>?_);obtain⟨f',mv,mk,rfl,⟨p0,q0,I⟩,hm,a8,aq,cne,ar,q⟩:=h;have nd:=scl_bad_names.nd;obtain⟨ma,kv,cv,ax,rfl,l,a3,aj,ab⟩:=gG hm;obtain⟨ca,U,rfl,a5,O⟩:=aj;obtain⟨ha,uh,rfl,C,M⟩:=ab;have aa:=O.length;have a9:=M.length;rw[aM]at aa a9;have ao:=List.length_pos_iff.mpr a8;have au:=List.length_pos_iff.mpr cne
 refine⟨_,(aF (aT (PW.pt (iF (pR mR (bV (dM (K:=K) Z) Z T.uS zH (pc (px K (pv 1) pI) pN ss)) pI (nM _)) (iQ (pR bY (pd a hr (va 0 (pc pI pN aG))) pI (nM _))))) (aF (aR 2 nd (px K (px K (px K (pv 1) pI) (pd a hr (va 0 (pc (bV (dM (K:=K) Z) Z T.uS zH (pc (px K (pv 1) pI) pN ss)) pN bL)))) pI))
   (po (aS (aH (pc (px K (pv 1) pI) (pc (px K (pv 1) pI) (pc (aN (gX (K:=K) Z) (px K (pv 1) pI) (aH (pc (aH (va 2 (pc (aH pN) (pc (aH (pc (aH (pc pS pN aG)) pN sT)) pN sT) sT))) pN sT))) pN eI) ss) ss))))) pQ)
   (aF (aR 3 nd (gY (mW (K:=K) Z) (px K (pv 1) pI) iU (gE pI)))
   (aF (aR 2 nd (px K (pv 3) (pd a hr (va 0 (pc (bV (dM (K:=K) Z) Z T.uS zH (v1 3)) pN bL)))))
   (po (aS (aH (pc (px K (pv 1) pI) (pc (aN (gX (K:=K) Z) (pv 3) (aH (pc (aH (pc (px K (pv 2) pI) (pc (px K (pv 2) pI) (pc (px K (pv 2) pI) (pc (px K (pv 2) pI) pN ss) ss) ss) ss)) pN sT))) (pc (px K (pv 1) pI) pN ss) eI) ss))))))),aL λR1 an=>?_⟩
 have a2:∀H',Fed f' H H'->R1 [some (.ref f'),some (.ref ma),none,none] H':=by
  intro H1 f1;have Y:=cK (aK I) f1;refine an _ _ (aL λR2 am=>?_);refine(aQ (zD (Y _ _ l)) Z ⟨5,Z,nA (Y _ _ a5) λsm H2 s2 g2=>am _ _ (aL λR3 al=>?_)⟩);rw[show bI U none (some 5)=U.take 5 from rG U 5]at g2;have ay:(U.take 5).length=min 5 U.length:=List.length_take;obtain⟨p1,q1,G⟩:=f1.2;have a4:=s2 _ _ G;refine(bJ (gV sm Z (.inr (zD g2)) (aI f' p1 (aV q1 (aY a4 (by omega) (by omega) (λr H3 r0 r1 f3=>?_))))));obtain⟨j,rfl⟩:∃j:Nat,r=(j:Int):=⟨r.toNat,by omega⟩;have t3:=cK (aK a4) f3;have g:∀b vs,H b=some (.tup vs)->H3 b=some (.tup vs):=λb vs e=>t3 _ _ (s2 _ _ (Y _ _ e));obtain⟨b,o,ho,ub,hb⟩:=rT (O.take 5 |> λz=>by rw[<- List.map_take]at z;exact z) (i:=j) (v:=(U.take 5)[j]'(by omega)) (cF _);refine(eZ (zD (t3 _ _ g2)) (cM (by rw[cF (by omega),ub])) (al _ _ ?_));have J:=g _ _ hb;refine(aQ (zD (g _ _ l)) Z (dI (zD J) Z (aQ (zD J) Z (aQ (zD J) Z (aQ (zD J) Z ⟨aE Z,λt4 a7=>⟨aE Z,λt5 a6=>?_⟩⟩)))));have u4:=zA a7 (.tup [.str o.1,.str o.2.2.1,.str o.2.1,.str o.2.2.2]);have u5:=zA a6 (.tup [.ref t4]);refine dW ((u4.trans u5) _ _ (t3 _ _ g2)) aD (aB (by show(U.take 5).length+1<=_;omega)) λp H6 s6 g6=>?_;have a1:=u4.trans (u5.trans s6);refine(aQ (zD (a1 _ _ (g _ _ l))) Z ⟨aE Z,λt7 a0=>?_⟩);have u7:=zA a0 (.tup [kv,.ref p,.ref ha]);have x:=a1.trans u7
  refine q _ ⟨mk.kinds,mk.chans.take 5++[(o.1,o.2.2.1,o.2.1,o.2.2.2)],mk.hands⟩ _ ((((f1.same s2).trans f3).same x)) (fA aD (eM ((a3.tups g _).same x _) (gB (u7 _ _ g6) ?_) Z (iP uh (x _ _ (g _ _ C)) ((M.tups g _).same x _)) Z)) (.inr (cZ o (cJ ho) Z));rw[bZ,List.map_take];exact(((O.tups g _).same x _).take 5).append (aW (fA ((u5.trans (s6.trans u7)) _ _ aD) (eM Z Z Z Z (aW Z Z))) Z)
 refine(aQ (zD l) Z (eO ha uh Z (.inr (zD C)) (fQ Z (aJ (λc1=>?_) (λc1=>cG (a2 _ (Fed.refl I)))))));refine(aC (aP f' p0 q0 (gH Z (jAAA I (aA Z) (aA Z) (λr H1 r0 r1 f1=>(bP Z (aJ (λc2=>?_) (λc2=>a2 _ f1))))))));have Y:=cK (aK I) f1;obtain⟨p1,q1,G⟩:=f1.2;refine aL λS1 ak=>?_;refine(aQ (zD (Y _ _ l)) Z (dI (zD (Y _ _ l)) Z (eO ha uh Z (.inr (zD (Y _ _ C))) (aI f' p1 (aV q1 (aY G (by omega) (by omega) (λr2 H2 aw av f2=>?_)))))));obtain⟨j,rfl⟩:∃j:Nat,r2=(j:Int):=⟨r2.toNat,by omega⟩;have t2:=cK (aK G) f2;have c:∀b vs,H b=some (.tup vs)->H2 b=some (.tup vs):=λb vs e=>t2 _ _ (Y _ _ e);obtain⟨hb,h,_,_,hj,uj,ac,_,_⟩:=Di M (i:=j) (by omega);refine(aI ha uh (aK (cP (jAA (zD (c _ _ C)) (cM uj) (eZ (zD (c _ _ ac)) Z (ak _ _ ?_))))));have y:=c _ _ l;refine(aQ (zD y) Z (aQ (zD y) Z (aQ (zD y) Z (bQ (aE Z) (λe1 ai=>⟨aE Z,λe2 ah=>⟨aE Z,λe3 ag=>⟨aE Z,λe4 af=>⟨aE Z,λe5 ae=>?_⟩⟩⟩⟩)))));have v1:=zA ai (.tup []);have v2:=zA ah (.tup [.str (S "end")]);have v3:=zA ag (.tup [.ref e2]);have v4:=zA af (.tup [.str h.name,.ref e1,.ref e3]);have v5:=zA ae (.tup [.ref e4]);refine dW ((v1.trans (v2.trans (v3.trans (v4.trans v5)))) _ _ (c _ _ C)) aD (aB (by show uh.length+1<=_;omega)) λp H6 s6 g6=>⟨aE Z,λt7 a0=>?_⟩;have v7:=zA a0 (.tup [kv,.ref ca,.ref p]);have u:=v1.trans (v2.trans (v3.trans (v4.trans (v5.trans (s6.trans v7)))))
 refine q _ ⟨mk.kinds,mk.chans,mk.hands++[⟨h.name,[],[.fin]⟩]⟩ _ ((f1.trans f2).same u) (fA aD (eM ((a3.tups c _).same u _) (iP U (u _ _ (c _ _ a5)) ((O.tups c _).same u _)) Z (gB (v7 _ _ g6) ?_) Z)) (.inl (cZ h.name (qP (cJ hj)) Z));rw[bZ];exact((M.tups c _).same u _).append (aW (fA ((v5.trans (s6.trans v7)) _ _ aD) (eM Z (gB ((v2.trans (v3.trans (v4.trans (v5.trans (s6.trans v7))))) _ _ aD) Z) Z (gB ((v4.trans (v5.trans (s6.trans v7))) _ _ aD) (aW (gB ((v3.trans (v4.trans (v5.trans (s6.trans v7)))) _ _ aD) (aW Z Z)) Z)) Z)) Z)
def J7:Sp:=λvs H Q _=>∃(f:Addr) (hv:V) (h:Hand) (fm:Int),vs=[.ref f,hv,.int fm]/\(∃p q:Int,H f=some (.lst [.int p,.int q]))/\RelD H hv h.d/\h.boxes.length<=10/\h.rows.length<=40/\(∀H',Fed f H H'->Q .non H')/\∀v h' H',Fed f H H'->RelD H' v h'.d->sY h h'->Q v H'
def Wq(h:r.hd=S "take"):cU r≠none:=by
 cases r with
 |take _ _ _=>exact λh=>nomatch h
 |set _ _=>exact absurd h (show ¬S "set"=S "take" by walk_at"k")
 |send _ _=>exact absurd h (show ¬S "send"=S "take" by walk_at"k")
 |tell _=>exact absurd h (show ¬S "tell"=S "take" by walk_at"k")
 |go _=>exact absurd h (show ¬S "go"=S "take" by walk_at"k")
 |cond _ _=>exact absurd h (show ¬S "if"=S "take" by walk_at"k")
 |fin=>exact absurd h (show ¬S "end"=S "take" by walk_at"k")
def xh6(T:Tx K mg)(c:DefIs P w K mg base n "_law_take" qab iW):DefIs P w K mg base (n+1) "_law_bad_boxes" qbd J7:=by
 refine DefIs.of T.uA scl_bad_boxes (by walk_at"l") (λf au A outer s H vs Q E hr h=>?_);obtain⟨f',hv,h,fm,rfl,⟨p0,q0,g⟩,hh,ao,an,qN,q⟩:=h;have nd:=scl_bad_boxes.nd;obtain⟨a,bv,rv,rfl,ha,ai,ac⟩:=mF hh;obtain⟨ba,C,rfl,a4,a0⟩:=ai;obtain⟨ra,ur,rfl,O,Y⟩:=ac;have ah:=a0.length;have ag:=Y.length;rw[aM]at ah ag
 refine⟨_,(aF (mT (pv 1) (fI (K:=K) Z Z (aX (bK 3 nd) (aX (bK 4 nd) (aX (bK 5 nd) fE)))))
   (aF (aT (PW.pt (iF (pR bY (pv 2) pI (nM _)) (iQ (pR lK (bV (dM (K:=K) Z) Z T.uS zH (v1 4)) pI (nM _))))) (aF (aR 6 nd (gY (mW (K:=K) Z) (pv 4) iU (gE pI)))
   (po (aS (aH (va 3 (pc (aN (gX (K:=K) Z) (pv 6) (aH (pc (aH (pc (px K (px K (pv 6) (pd c hr (va 0 (pc (bV (dM (K:=K) Z) Z T.uS zH (v1 6)) pN bL)))) pI) (pc pS pN aG) ss)) pN sT))) (v1 5) eI)))))) pQ)
   (aF (pB (i:=7) ["_law_row"] [none] Z (by kernel_rfl) nd Z (by first |exact Or.inl Z |exact Or.inr rfl) (eJ (K:=K) Z (pv 5)) (λ_ _ _ _=>(dU 0)) (λ_ _ _ _=>(pW (pR bY (px K (pv 0) pI) pS (nM _)))) (λ_ _ _ _=>(pv 0)))
   (aF (aT (PW.pt (iF (pR bY (pv 2) pI (nM _)) (iQ (pR lK (bV (dM (K:=K) Z) Z T.uS zH (v1 7)) pI (nM _))))) (aF (aR 8 nd (cC K (pv 7) (pd c hr (va 0 (pc (bV (dM (K:=K) Z) Z T.uS zH (v1 7)) pN bL)))))
   (po (aS (aH (va 3 (va 4 (pc (aN (gX (K:=K) Z) (aH (v1 8)) (pv 5)) pN eI))))))) pQ)
   (po (aS nX)))))),aL λR1 am=>?_⟩
 refine(aC (gK (jAA (zD ha) Z (aK ⟨Z,(aK ⟨Z,(aW Z (am _ _ (aL λR2 al=>?_)))⟩)⟩))))
 have next:R2 [some (.ref f'),some (.ref a),some (.int fm),some (.str h.name),some (.ref ba),some (.ref ra),none,none,none] H:=by
  refine al _ _ (aL λR3 ak=>?_);refine(fN ⟨_,zD O⟩ ?_);refine oA (xs:=ur) (λj ys H'=>H'=H/\∀w∈ys,∃r∈h.rows,RelD H w r.d/\cU r≠none) ⟨Z,λ_ h=>nomatch h⟩ (cL (by omega)) (λj ys H' _ p=>by rw[p.1];exact zD O) ?_ ?_
  ·rintro j y ys H' hy hj a3 ⟨rfl,M⟩
   obtain⟨d,hd,rd⟩:=Y.get hy;rw[dA]at hd;obtain⟨r,hr,rfl⟩:=dH hd;obtain⟨b,us,rfl,hb,_⟩:=tI rd;refine⟨lR Z,?_⟩;refine(aQ (zD hb) (cM (j:=0) Z) (bP Z (aJ (λc1=>?_) (λc1=>iK hj a3 ⟨Z,M⟩))));refine(aC (eT hj a3 ⟨Z,λw hw=>?_⟩));rcases dD hw with hw |hw
   ·exact M w hw
   ·rw[cD hw]
    exact(dG r (cJ hr) rd (Wq (V.str.inj (qE c1))))
  rintro x H2 a3 ⟨rfl,M⟩ lt U;refine ak _ _ (aL λR4 aj=>?_);have l:=zA U (.lst x);have g1:upd H2 lt (.lst x) lt=some (.lst x):=aD;have a8:lt≠f':=λe=>by rw[e,g]at U;cases U
  generalize upd H2 lt (.lst x)=H1 at l g1⊢;have f1:Fed f' H2 H1:=(Fed.refl g).same l;have a1:R4 [some (.ref f'),some (.ref a),some (.int fm),some (.str h.name),some (.ref ba),some (.ref ra),none,some (.ref lt),none] H1:=aj _ _ (qN _ f1);refine(dE Z Z (aJ (λc1=>?_) (λc1=>cG a1)));refine(aC (eO lt x Z (.inl (zF g1)) (fQ Z (aJ (λc2=>?_) (λc2=>a1)))));have a7:0<x.length:=by have:=qE c2;omega
  refine aL λS1 a5=>?_;refine(gC (eO lt x Z (.inl (zF g1)) (aV f' (aK (aY (l _ _ g) (by omega) (by omega) (λr H3 r0 r1 f3=>?_))))));obtain⟨j,rfl⟩:∃j:Nat,r=(j:Int):=⟨r.toNat,by omega⟩;have hj:j<x.length:=by omega
  have I:=cK (aK (l _ _ g)) f3;obtain⟨a6,ae,rd,af⟩:=M _ (qY hj);obtain⟨rb,aq,ar,_⟩:=tI rd;refine(aI lt x (aK (cP (jAA (zF (f3.1 _ _ g1 a8)) (cM (cF hj)) (a5 _ _ ?_)))));refine(bJ (bQ (aE Z) (λt4 a2=>?_)));have s4:=zA a2 (.tup [x[j]]);refine(aC (dW aD (s4 _ _ (I _ _ (l _ _ O))) (aB (by show 1+ur.length<=_;omega)) λp H5 s5 g5=>⟨aE Z,λt6 aa=>?_⟩));have s6:=zA aa (.tup [.str h.name,.ref ba,.ref p]);have u:=s4.trans (s5.trans s6);exact q _ ⟨h.name,h.boxes,a6::h.rows⟩ _ ((f1.trans f3).same u) (fA aD (eM Z (iP C (u _ _ (I _ _ (l _ _ a4))) (((a0.same l _).tups I _).same u _)) Z (gB (s6 _ _ g5) (aW (((rd.same l _).tups I _).same u _) (((Y.same l _).tups I _).same u _))) Z)) (.inr (dG a6 ae af Z))
 refine(dE Z Z (aJ (λc1=>?_) (λc1=>cG next)));refine(aC (eO ba C Z (.inr (zD a4)) (fQ Z (aJ (λc2=>?_) (λc2=>next)))));have a7:0<C.length:=by have:=qE c2;omega
 refine aL λS1 a5=>?_;refine⟨_,(bP Z (nA a4 λsm H1 l g1=>a5 _ _ ?_))⟩;rw[show bI C none (some 4)=C.take 4 from rG C 4]at g1;have U:(C.take 4).length=min 4 C.length:=List.length_take;have f1:Fed f' H H1:=(Fed.refl g).same l;refine(aC (gC (gV sm Z (.inr (zD g1)) (aV f' (aK (aY (l _ _ g) (by omega) (by omega) (λr H3 r0 r1 f3=>?_)))))));obtain⟨j,rfl⟩:∃j:Nat,r=(j:Int):=⟨r.toNat,by omega⟩;have I:=cK (aK (l _ _ g)) f3;have J:∀b vs,H b=some (.tup vs)->H3 b=some (.tup vs):=λb vs e=>I _ _ (l _ _ e);obtain⟨b,o,ho,eb,hb⟩:=mX (a0.take 4 |> λz=>by rw[<- List.map_take]at z;exact z) (i:=j) (v:=(C.take 4)[j]'(by omega)) (cF _);refine(eZ (zD (I _ _ g1)) (cM (by rw[cF (by omega),eb])) (eZ (zD (J _ _ hb)) Z ⟨aE Z,λt4 a2=>⟨aE Z,λt5 ab=>?_⟩⟩));have u4:=zA a2 (.tup [.str o.1,.str (S "num")]);have u5:=zA ab (.tup [.ref t4]);refine dW ((u4.trans u5) _ _ (I _ _ g1)) aD (aB (by show(C.take 4).length+1<=_;omega)) λp H6 s6 g6=>(bQ (aE Z) (λt7 a9=>?_));have u7:=zA a9 (.tup [.str h.name,.ref p,.ref ra]);have G:=u4.trans (u5.trans (s6.trans u7));refine q _ ⟨h.name,h.boxes.take 4++[(o.1,S "num")],h.rows⟩ _ ((f1.trans f3).same G) (fA aD (eM Z (gB (u7 _ _ g6) ?_) Z (iP ur (G _ _ (J _ _ O)) ((Y.tups J _).same G _)) Z)) (.inl (cZ o (cJ ho) Z));rw[bZ,List.map_take];exact(((a0.tups J _).same G _).take 4).append (aW (cY ((u5.trans (s6.trans u7)) _ _ aD) Z Z Z Z Z) Z)
def hD(h:Hand)(c:Nat):D:=.tup [h.d,.str (eL c)]
def xQ:Sp:=λvs H Q _=>∃(f nb:Addr) (mv:V) (mk:Mak) (nms:List Str) (k j:Nat) (h:Hand),vs=[.ref f,mv,.int k,.int j,.ref nb]/\FN H f nb nms/\RelD H mv mk.d/\mk.hands[k]?=some h/\j<=3/\h.boxes.length<=10/\h.rows.length<=40/\mk.chans.length<=10/\(j=2->BIn mk.kinds mk.chans h.boxes)/\(j=3->h.rows≠[])/\∀v h' c H',Fed f H H'->RelD H' v (hD h' c)->On nms mk h j h' c->Q v H'
def vU(h1:H t1=none)(hb:RelD H (.ref ba) (lG h.boxes))(hr:RelD H (.ref ra) (.tup (h.rows.map Row.d)))(h2:upd H t1 (.tup [.str h.name,.ref ba,.ref ra]) t2=none):Same H (upd (upd H t1 (.tup [.str h.name,.ref ba,.ref ra])) t2 (.tup [.ref t1,.str (eL c)]))/\RelD (upd (upd H t1 (.tup [.str h.name,.ref ba,.ref ra])) t2 (.tup [.ref t1,.str (eL c)])) (.ref t2) (hD h c):=by
 have s1:=zA h1 (.tup [.str h.name,.ref ba,.ref ra]);have s2:=zA h2 (.tup [.ref t1,.str (eL c)]);have s12:=s1.trans s2;exact⟨s12,(cY aD rfl (fA (s2 _ _ aD) (eM rfl (hb.same s12 _) rfl (hr.same s12 _) rfl)) rfl rfl rfl)⟩
theorem Jy(rs:List Row)(r:Row)(a:Nat):(rs.take a++r::rs.drop a).map Row.d=((rs.map Row.d).take a++[r.d])++(rs.map Row.d).drop a:=by
 rw[bZ,List.map_cons,List.map_take,List.map_drop,List.append_assoc];rfl
def xf7(T:Tx K mg)(a:DefIs P w K mg base n "_law_take" qab iW)(u:DefIs P w K mg base n "_law_bad_boxes" qbd J7)(y:DefIs P w K mg base n "_law_bad_rows" qbg Ig):DefIs P w K mg base (n+1) "_law_spoiled_hand" qbh xQ:=by
 refine DefIs.of T.uE scl_spoiled_hand (by walk_at"l") (λf di A outer s H vs Q E hr h=>?_);obtain⟨I,nb,mv,mk,au,k,j,h,rfl,g,hm,hk,dc,ao,bm,br,cy,b3,q⟩:=h;have nd:=scl_spoiled_hand.nd;have ok:=g.ok;obtain⟨p0,q0,G⟩:=g.fd;obtain⟨ma,kv,cv,d9,rfl,b4,db,dd,cg⟩:=gG hm;obtain⟨ha,uh,rfl,b5,bx⟩:=cg;have ce:=bx.length;rw[aM]at ce;have da:=(cV hk).1;obtain⟨hb,h0,bv,rv,bn,uk,bp,ai,ab⟩:=Di bx (i:=k) (by omega);rw[hk]at bn;cases bn;have bo:RelD H (.ref hb) h.d:=(fA bp (eM Z ai Z ab Z));obtain⟨ba,ub,rfl,bu,b8⟩:=id ai;obtain⟨ra,J,rfl,O,a3⟩:=id ab;have cf:=b8.length;have cd:=a3.length;rw[aM]at cf cd
 refine⟨_,(aF (mT (px K (px K (pv 1) pI) (pv 2)) (fI (K:=K) Z Z (aX (bK 5 nd) (aX (bK 6 nd) (aX (bK 7 nd) fE)))))
   (aF (aT (pR bY (pv 3) pI (nM _)) (aF (aR 8 nd (pd u hr (va 0 (pc (px K (px K (pv 1) pI) (pv 2)) (pc (pd a hr (va 0 (pc pI pN aG))) pN bL) ss))))
   (aF (aT (pR wC (pv 8) nX (nM _)) (po (aR 8 nd (aH (va 5 (pc (aN (gX (K:=K) Z) (aH (pc (aH (pc (cC K (pv 4) pI) (pc pS pN aG) ss)) (pc (aH (pc (cC K (pv 4) pI) (pc pS pN aG) ss)) pN sT) sT)) (gY (mW (K:=K) Z) (pv 6) (gE pI) iU)) (v1 7) eI))))) pQ)
   (po (aS (aH (va 8 (pc pS pN aG))))))) pQ)
   (aF (aT (pR bY (pv 3) pI (nM _)) (po (aS (aH (pc (aH (va 5 (pc (aN (gX (K:=K) Z) (gY (mW (K:=K) Z) (pv 6) iU (gE pI)) (aH (pc (aH (pc (cC K (pv 4) pI) (pc (cC K (pv 4) pI) pN ss) ss)) pN sT))) (v1 7) eI))) (pc pS pN aG) sT)))) pQ)
   (aF (aT (pR bY (pv 3) pI (nM _)) (aF (mT (pd y hr (va 0 (va 1 (pc (px K (px K (pv 1) pI) (pv 2)) (v1 4) ss)))) (fI (K:=K) Z Z (aX (bK 9 nd) (aX (bK 10 nd) fE))))
   (aF (aR 11 nd (pd a hr (va 0 (pc (bV (X2 Z) Z T.uU PyProof.Rows.boot_max (pc pI (pc (bV (dM (K:=K) Z) Z T.uS zH (v1 7)) pN bL) aG)) pN bL))))
   (po (aS (aH (pc (aH (va 5 (va 6 (pc (aN (gX (K:=K) Z) (aN (gX (K:=K) Z) (gY (mW (K:=K) Z) (pv 7) iU (gE (pv 11))) (aH (v1 9))) (gY (mW (K:=K) Z) (pv 7) (gE (pv 11)) iU)) pN eI)))) (v1 10) sT)))))) pQ)
   (aF (aR 12 nd (aN eY pI (pd a hr (va 0 (pc (aN rJ pI pI) pN eI)))))
   (aF (aR 13 nd (pd a hr (va 0 (pc pI pN aG))))
   (aF (aT (pR bY (pv 13) pI (nM _)) (po (aS (aH (pc (aH (va 5 (va 6 (pc (aH pN) pN sT)))) (pc pS pN aG) sT)))) pQ)
   (aF (aT (pR mR (pv 13) pI (nM _)) (aF (aR 14 nd (cC K (fU (pc (aH (pc pS (v1 12) aG)) (pc (aH (pc pS (pc (aH (pc pS (pc pI pN aG) aG)) pN sT) aG)) (pc (aH (pc pS (pc (aH (pc pS (pc pI pN aG) aG)) (pc pI pN aG) sT) aG)) pN sT) sT) sT)) (aN pU (pv 13) pI)))
   (po (aS (aH (pc (aH (va 5 (va 6 (pc (aN (gX (K:=K) Z) (gY (mW (K:=K) Z) (pv 7) iU (gE (yP zY pI))) (aH (v1 14))) pN eI)))) (pc pS pN aG) sT))))) pQ)
   (aF (aR 9 nd (cC K (fU (pc (aH (pc pS (pc (aH (pc pS (pc (pd a hr (va 0 (pc pI pN aG))) pN bL) aG)) (v1 12) sT) aG)) (pc (aH (pc pS (v1 12) aG)) pN sT) sT)) (hH Dp Z T.uQ PyProof.Rows.boot_int (pc (rO bY (pv 13) pI (nM _)) pN Mp))))
   (aF (aR 11 nd (pd a hr (va 0 (pc (bV (dM (K:=K) Z) Z T.uS zH (v1 7)) pN bL))))
   (po (aS (aH (pc (aH (va 5 (va 6 (pc (aN (gX (K:=K) Z) (aN (gX (K:=K) Z) (gY (mW (K:=K) Z) (pv 7) iU (gE (pv 11))) (aH (v1 9))) (gY (mW (K:=K) Z) (pv 7) (gE (pv 11)) iU)) pN eI)))) (pc pS pN aG) sT)))))))))))))),aL λR1 cx=>?_⟩
 refine(aQ (zD b4) Z (eP ha uh (eU Z (jAAA Z (zD b5) (cM uk) (gK (jAA (zD bp) Z (aK ⟨Z,(aK ⟨Z,(aW Z (cx _ _ (aL λR2 cw=>?_)))⟩)⟩)))))))
 have az:j≠0->R2 [some (.ref I),some (.ref ma),some (.int k),some (.int j),some (.ref nb),some (.str h.name),some (.ref ba),some (.ref ra),none,none,none,none,none,none,none] H:=by
  intro j0;refine cw _ _ (aL λR3 cu=>?_)
  have ay:j≠1->R3 [some (.ref I),some (.ref ma),some (.int k),some (.int j),some (.ref nb),some (.str h.name),some (.ref ba),some (.ref ra),none,none,none,none,none,none,none] H:=by
   intro j1;refine cu _ _ (aL λR4 cr=>?_)
   have ax:j≠2->R4 [some (.ref I),some (.ref ma),some (.int k),some (.int j),some (.ref nb),some (.str h.name),some (.ref ba),some (.ref ra),none,none,none,none,none,none,none] H:=by
    intro j2;have j3:j=3:=by omega
    subst j3;have b3:=b3 Z;have d3:=List.length_pos_iff.mpr b3;refine cr _ _ (aL λR5 cq=>?_);refine(aC (fJ (jAA (aA Z) (aA Z) (aA Z)) (aI I p0 (aV q0 (aY G (aA Z) (aA Z) (λr1 H1 d7 c6 f1=>(fO (cq _ _ (aL λR6 cp=>?_)))))))));have bc:(10:Int) ^ (9:Int).toNat=1000000000:=by decide
    have d6:r1<1000000000:=by
     rw[<- bc];exact c6
    obtain⟨p,c0,Y,U⟩:∃p:Nat,24+r1=(p:Int)/\24<=p/\p<2 ^ 31:=(dG ((24+r1).toNat) (by omega) (by omega) (by omega));rw[show(λi j:Int=>V.int (i+j)) 24 r1=V.int (p:Int) from congrArg V.int c0];obtain⟨p1,q1,al⟩:=f1.2;refine(eP I p1 (aV q1 (aY al (aA Z) (aA Z) (λfm H2 dg df f2=>cp _ _ (aL λR7 co=>?_)))));have F2:=f1.trans f2;have t2:=cK (aK G) F2;obtain⟨p2,q2,ch⟩:=F2.2;have bl:=t2 _ _ O;have d2:=ab.tups t2 _;have an:=ai.tups t2 _;have bw:=a3.tups t2 _
    have aw:fm≠0->R7 [some (.ref I),some (.ref ma),some (.int k),some (.int (3:Nat)),some (.ref nb),some (.str h.name),some (.ref ba),some (.ref ra),none,none,none,none,some (.int p),some (.int fm),none] H2:=by
     intro de;refine co _ _ (aL λR8 cm=>?_)
     have av:R8 [some (.ref I),some (.ref ma),some (.int k),some (.int (3:Nat)),some (.ref nb),some (.str h.name),some (.ref ba),some (.ref ra),none,none,none,none,some (.int p),some (.int fm),none] H2:=by
      refine cm _ _ (aL λR9 cl=>?_)
      have am:∀(rb:Addr) (r:Row) (H3:Hp),Fed I H H3->RelD H3 (.ref rb) r.d->(r=.go p\/∃b:Int,Nm b/\r=.cond (aO b) p)->R9 [some (.ref I),some (.ref ma),some (.int k),some (.int (3:Nat)),some (.ref nb),some (.str h.name),some (.ref ba),some (.ref ra),none,some (.ref rb),none,none,some (.int p),some (.int fm),none] H3:=by
       intro rb r H3 F3 b1 ae;refine cl _ _ (aL λdj bz=>?_);have t3:=cK (aK G) F3;obtain⟨p3,q3,bq⟩:=F3.2;refine(bJ (eO ra J Z (.inr (zD (t3 _ _ O))) (aI I p3 (aV q3 (aY bq (by omega) (by omega) (λr2 H4 c5 c4 f4=>bz _ _ ?_))))));obtain⟨o,rfl⟩:∃i:Nat,r2=(i:Int):=⟨r2.toNat,by omega⟩;have F4:=F3.trans f4;have t4:=cK (aK G) F4;have bj:=b1.tups (cK (aK bq) f4) _;refine(bJ (eF (bP Z (nA (t4 _ _ O) λz1 H5 s5 g5=>(bQ (aE Z) (λz2 aa=>?_))))));rw[show bI J none (some (o:Int))=J.take o from rG J o]at g5;have z:=zA aa (.tup [.ref rb]);refine dW (z _ _ g5) aD (aB (by rw[List.length_take];show _+1<=_;omega)) λz3 H6 s6 g6=>?_;have b9:=s5.trans (z.trans s6);refine(eF (bP Z ?_));dsimp only[wW];refine nA (b9 _ _ (t4 _ _ O)) λz5 H7 s7 g7=>?_;rw[show bI J (some (o:Int)) none=J.drop o from xC J o]at g7;refine dW (s7 _ _ g6) g7 (aB (by rw[bS,List.length_take,List.length_drop];show _+1+_<=_;omega)) λz6 H8 s8 g8=>⟨aE Z,λbe C=>⟨aE Z,λbd M=>?_⟩⟩;have a5:=b9.trans (s7.trans s8)
       have ac:RelD H8 (.ref z6) (.tup ((h.rows.take o++r::h.rows.drop o).map Row.d)):=⟨z6,_,Z,g8,by
        rw[Jy];exact((((a3.tups t4 _).same a5 _).take o).append (us:=[.ref rb]) (es:=[r.d]) (aW (bj.same a5 _) Z)).append (((a3.tups t4 _).same a5 _).drop o)⟩
       obtain⟨u9,rd⟩:=vU (h:=⟨h.name,h.boxes,h.rows.take o++r::h.rows.drop o⟩) (c:=7) C ((ai.tups t4 _).same a5 _) ac M;exact q _ _ 7 _ (F4.same (a5.trans u9)) rd (.inr (.inr (.inr (cP (dG p Y U (.inr (.inr (eO r o (by omega) ae Z))))))))
      refine(eP I p2 (aV q2 (aY ch (aA Z) (aA Z) (λb H3 b0 b2 f3=>⟨aE Z,λe1 ah=>(bQ (aE Z) (λe2 ag=>(bQ (aE Z) (λe3 af=>⟨aE Z,λl hl=>?_⟩))))⟩))));have u1:=zA ah (.tup [.str (S "num"),.int b]);have z:=zA ag (.tup [.str (S "if"),.ref e1,.int p]);have u3:=zA af (.tup [.str (S "go"),.int p]);have ul:=zA hl (.lst [.ref e2,.ref e3]);have F3:=(F2.trans f3).same (u1.trans (z.trans (u3.trans ul)));by_cases e7:fm=7
      ·subst e7
       refine(bQ Z (.inr (gH Z (eZ (zF aD) (show fG _ ((1:Nat):Int)=_ from cM Z) ?_))));exact am e3 (.go p) _ F3 (cY (ul _ _ aD) Z Z Z Z Z) (.inl Z)
      ·have ed:decide (V.int fm=V.int 7)=false:=cW λh=>e7 (V.int.inj h)
       refine(bQ Z (.inr (gH Z (aV l (aV 0 (aY (by rw[ed];rfl) (zF aD) (show fG _ ((0:Nat):Int)=_ from cM Z) ?_))))));exact am e2 (.cond (aO b) p) _ F3 (fA ((u3.trans ul) _ _ aD) (eM Z (cY ((z.trans (u3.trans ul)) _ _ aD) Z Z Z Z Z) Z Z Z)) (.inr (cZ b ⟨b0,by omega⟩ Z))
     refine(aC (fQ Z (aJ (λc2=>?_) (λc2=>av))));refine aL λS1 a2=>?_
     have a9:∀(rb:Addr) (r:Row) (H3:Hp),Same H2 H3->RelD H3 (.ref rb) r.d->(r=.go p\/r=.tell (aO 3)\/r=.cond (aO 0) 0)->S1 [some (.ref I),some (.ref ma),some (.int k),some (.int (3:Nat)),some (.ref nb),some (.str h.name),some (.ref ba),some (.ref ra),none,none,none,none,some (.int p),some (.int fm),some (.ref rb)] H3:=by
      intro rb r H3 s3 b1 ae;refine a2 _ _ ?_;refine(gC ⟨1,(bP Z (nA (s3 _ _ bl) λz1 H4 s4 g4=>(bQ (aE Z) (λz2 aa=>?_))))⟩);rw[Dc]at g4;have z:=zA aa (.tup [.ref rb]);refine dW (z _ _ g4) aD (aB (by rw[List.length_dropLast];show _+1<=_;omega)) λz3 H5 s5 g5=>⟨aE Z,λbe C=>⟨aE Z,λbd M=>?_⟩⟩;have a0:=s4.trans (z.trans s5);have aq:=s3.trans a0
      have ac:RelD H5 (.ref z3) (.tup ((h.rows.dropLast++[r]).map Row.d)):=⟨z3,_,Z,g5,by
       rw[bZ,List.map_dropLast];exact(bw.same aq _).init.append (aW (b1.same a0 _) Z)⟩
      obtain⟨u9,rd⟩:=vU (h:=⟨h.name,h.boxes,h.rows.dropLast++[r]⟩) (c:=7) C (an.same aq _) ac M;exact q _ _ 7 _ (F2.same (aq.trans u9)) rd (.inr (.inr (.inr (cP (dG p Y U (.inr (.inl (cZ r ae Z))))))))
     refine(bQ (aE Z) (λe1 ah=>⟨aE Z,λe2 ag=>⟨aE Z,λe3 af=>⟨aE Z,λe4 ci=>⟨aE Z,λe5 b7=>⟨aE Z,λl hl=>?_⟩⟩⟩⟩⟩));have u1:=zA ah (.tup [.str (S "go"),.int p]);have z:=zA ag (.tup [.str (S "num"),.int 3]);have u3:=zA af (.tup [.str (S "tell"),.ref e2]);have u4:=zA ci (.tup [.str (S "num"),.int 0]);have u5:=zA b7 (.tup [.str (S "if"),.ref e4,.int 0]);have ul:=zA hl (.lst [.ref e1,.ref e3,.ref e5]);have sA:=u1.trans (z.trans (u3.trans (u4.trans (u5.trans ul))));have cz:fm=1\/fm=2\/fm=3:=by have:=qE c2;omega
     rcases cz with rfl |rfl |rfl
     ·refine(aC (fO (eZ (zF aD) (show fG _ ((0:Nat):Int)=_ from cM Z) ?_)))
      exact a9 e1 (.go p) _ sA (cY ((z.trans (u3.trans (u4.trans (u5.trans ul)))) _ _ aD) Z Z Z Z Z) (.inl Z)
     ·refine(aC (fO (eZ (zF aD) (show fG _ ((1:Nat):Int)=_ from cM Z) ?_)))
      exact a9 e3 (.tell (aO 3)) _ sA (cY ((u4.trans (u5.trans ul)) _ _ aD) Z Z Z (cY ((u3.trans (u4.trans (u5.trans ul))) _ _ aD) Z Z Z Z Z) Z) (.inr (.inl Z))
     ·refine(aC (fO (eZ (zF aD) (show fG _ ((2:Nat):Int)=_ from cM Z) ?_)))
      exact a9 e5 (.cond (aO 0) 0) _ sA (fA (ul _ _ aD) (eM Z (cY ((u5.trans ul) _ _ aD) Z Z Z Z Z) Z Z Z)) (.inr (.inr Z))
    refine(dE Z Z (aJ (λc1=>?_) (λc1=>aw λe=>c1 (by rw[e];rfl))));refine(aC (bQ (aE Z) (λe0 cj=>⟨aE Z,λt1 C=>⟨aE Z,λt3 cc=>?_⟩⟩)));have u0:=zA cj (.tup []);obtain⟨u7,rd⟩:=vU (h:=⟨h.name,h.boxes,[]⟩) (c:=7) C (an.same u0 _) (gB aD Z) cc;exact q _ _ 7 _ (F2.same (u0.trans u7)) rd (.inr (.inr (.inr (cP (dG p Y U (.inl Z))))))
   refine(dE Z Z (aJ (λc1=>?_) (λc1=>ax λe=>c1 (by rw[e];rfl))));have e2:j=2:=by have:=qE c1;injection this;omega
   subst e2;refine aL λS1 a2=>?_;refine(aC (dI (zD b4) Z (eP ha uh (aK (cP (jAA (zD b5) (cM uk) (aC (aV I (aK (aI mk h (aY (aK G) hm bo (jAAA (cy Z) br ao (λv r c H1 f1 hv bt=>?_)))))))))))));obtain⟨e,_,rfl,he,bf,_,rfl,bi,_,_,rfl,rfl,rfl⟩:=hv;refine(iX (zD he) Z Z Z Z (a2 _ _ (aL λS2 aj=>?_)));have t1:=cK (aK G) f1;obtain⟨p1,q1,al⟩:=f1.2
   obtain⟨mx,d0,c9,d8⟩:∃mx:Int,(if (J.length:Int) > 1 then (J.length:Int) else 1)=mx/\0<mx/\mx<=40:=by
    split
    ·exact⟨_,(eV (by omega) (by omega))⟩
    ·exact⟨_,(eV (by omega) (by omega))⟩
   refine(bJ (eO ra J Z (.inr (zD (t1 _ _ O))) (eU Z ?_)));rw[d0];refine(aI I p1 (aV q1 (aY al c9 (by omega) (λr2 H2 c5 c4 f2=>aj _ _ ?_))));obtain⟨o,rfl⟩:∃i:Nat,r2=(i:Int):=⟨r2.toNat,by omega⟩;have t2:=cK (aK al) f2;have a8:∀b vs,H b=some (.tup vs)->H2 b=some (.tup vs):=λb vs e=>t2 _ _ (t1 _ _ e);obtain⟨d5,d4,dh,_⟩:=tI bi;have bh:=bi.tups t2 _;refine(bJ (eF (bP Z (nA (a8 _ _ O) λz1 H3 s3 g3=>(bQ (aE Z) (λz2 aa=>?_))))));rw[show bI J none (some (o:Int))=J.take o from rG J o]at g3;have z:=zA aa (.tup [bf]);refine dW (z _ _ g3) aD (aB (by rw[List.length_take];show _+1<=_;omega)) λz3 H4 s4 g4=>?_;have bb:=s3.trans (z.trans s4);refine(eF (bP Z ?_));dsimp only[wW];refine nA (bb _ _ (a8 _ _ O)) λz5 H5 s5 g5=>?_;rw[show bI J (some (o:Int)) none=J.drop o from xC J o]at g5;refine dW (s5 _ _ g4) g5 (aB (by rw[bS,List.length_take,List.length_drop];show _+1+_<=_;omega)) λz6 H6 s6 g6=>⟨aE Z,λbe C=>(bQ (aE Z) (λbd M=>?_))⟩;have a6:=bb.trans (s5.trans s6)
   have ae:RelD H6 (.ref z6) (.tup ((h.rows.take o++r::h.rows.drop o).map Row.d)):=⟨z6,_,Z,g6,by
    rw[Jy];exact((((a3.tups a8 _).same a6 _).take o).append (us:=[bf]) (es:=[r.d]) (aW (bh.same a6 _) Z)).append (((a3.tups a8 _).same a6 _).drop o)⟩
   obtain⟨u7,rd⟩:=vU (h:=⟨h.name,h.boxes,h.rows.take o++r::h.rows.drop o⟩) (c:=c) C ((ai.tups a8 _).same a6 _) ae M;exact q _ _ c _ ((f1.trans f2).same (a6.trans u7)) rd (.inr (.inr (.inl ⟨Z,r,(cZ o bt Z)⟩)))
  refine(dE Z Z (aJ (λc1=>?_) (λc1=>ay λe=>c1 (by rw[e];rfl))));have e1:j=1:=by have:=qE c1;injection this;omega
  subst e1;obtain⟨ak,c7,d1⟩:=g.name 24 (aA Z);obtain⟨x7,n7,a7⟩:=g.name 7 (aA Z);refine(eF (bP Z (nA bu λz1 H1 s1 g1=>?_)));rw[show bI ub none (some 4)=ub.take 4 from rG ub 4]at g1;have SN:SqL K H1 nb (au.map V.str):=zF (s1 _ _ g.nl);refine(aQ SN d1 (aQ SN a7 ⟨aE Z,λt1 C=>⟨aE Z,λt2 M=>?_⟩⟩));have u1:=zA C (.tup [.str ak,.str x7]);have z:=zA M (.tup [.ref t1]);refine dW ((u1.trans z) _ _ g1) aD (aB (by rw[List.length_take];show _+1<=_;omega)) λz3 H3 s3 g3=>(bQ (aE Z) (λt4 cb=>⟨aE Z,λt5 ca=>?_⟩));have a1:=s1.trans (u1.trans (z.trans s3))
  have ck:RelD H3 (.ref z3) (lG (h.boxes.take 4++[(ak,x7)])):=⟨z3,_,Z,g3,by
   rw[bZ,List.map_take];exact((b8.same a1 _).take 4).append (aW (cY ((z.trans s3) _ _ aD) Z Z Z Z Z) Z)⟩
  obtain⟨u7,rd⟩:=vU (h:=⟨h.name,h.boxes.take 4++[(ak,x7)],h.rows⟩) (c:=2) cb ck (ab.same a1 _) ca;exact q _ _ 2 _ ((Fed.refl G).same (a1.trans u7)) rd (.inr (.inl (cP (eO ak x7 c7 n7 Z))))
 refine(dE Z Z (aJ (λc1=>?_) (λc1=>az λe=>c1 (by rw[e];rfl))));have e0:j=0:=by have:=qE c1;injection this;omega
 subst e0;refine aL λS1 a2=>?_
 have bg:∀v h' H',Fed I H H'->RelD H' v h'.d->(sY h h'\/∃x,au[23]?=some x/\h'=⟨h.name,(x,S "num")::(x,S "num")::h.boxes.drop 2,h.rows⟩)->∀t,H' t=none->Q (.ref t) (upd H' t (.tup [v,.str (eL 1)])):=λv h' H' F hv hb t ht=>by
  have st:=zA ht (.tup [v,.str (eL 1)]);exact q _ h' 1 _ (F.same st) (cY aD Z (hv.same st _) Z Z Z) (.inl (cP hb))
 refine(dI (zD b4) Z (eP ha uh (aK (cP (jAA (zD b5) (cM uk) (eP I p0 (aV q0 (aY G (aA Z) (aA Z) (λr H1 r0 r1 f1=>?_)))))))));have t1:=cK (aK G) f1;refine(aV I (aI h r (eX f1.2 (bo.tups t1 _) ao bm (λH2 f2=>a2 _ _ (aL λS2 aj=>?_)) (λv h' H2 f2 hv hb=>a2 _ _ (aL λS2 aj=>?_)))))
 ·have t2:∀b vs,H b=some (.tup vs)->H2 b=some (.tup vs):=λb vs e=>cK f1.2 f2 _ _ (t1 _ _ e)
  have F2:=f1.trans f2;have g2:=g.fed F2;obtain⟨a4,c8,c3⟩:=g2.name 23 (aA Z);have SN:∀{H'},Same H2 H'->SqL K H' nb (au.map V.str):=λs=>zF (s _ _ g2.nl);refine(aC (lF (aJ (λ_=>?_) (λc=>absurd (cS Z) c))));refine(dI (SN (Same.refl _)) c3 ⟨aE Z,λe1 ah=>?_⟩);have u1:=zA ah (.tup [.str a4,.str (S "num")]);refine(aQ (SN u1) c3 ⟨aE Z,λe2 ag=>⟨aE Z,λe3 af=>?_⟩⟩);have z:=zA ag (.tup [.str a4,.str (S "num")]);have u3:=zA af (.tup [.ref e1,.ref e2]);have a1:=u1.trans (z.trans u3);refine⟨_,(bP Z ?_)⟩;dsimp only[wW];refine nA (a1 _ _ (t2 _ _ bu)) λz1 H3 s3 g3=>?_;rw[show bI ub (some 2) none=ub.drop 2 from xC ub 2]at g3;refine dW (s3 _ _ aD) g3 (aB (by show 2+_<=_;rw[List.length_drop];omega)) λz4 H4 s4 g4=>(bQ (aE Z) (λe5 b7=>aj _ _ ?_));have u5:=zA b7 (.tup [.str h.name,.ref z4,.ref ra]);have a0:=s3.trans (s4.trans u5);have ar:=a1.trans a0;refine(bQ (aE Z) (λe6 b6=>?_));exact bg _ ⟨h.name,(a4,S "num")::(a4,S "num")::h.boxes.drop 2,h.rows⟩ _ (F2.same ar) (fA aD (eM Z (cY (u5 _ _ g4) Z (cY ((z.trans (u3.trans a0)) _ _ aD) Z Z Z Z Z) Z (cY ((u3.trans a0) _ _ aD) Z Z Z Z Z) (by rw[List.map_drop];exact((b8.tups t2 _).same ar _).drop 2)) Z ((ab.tups t2 _).same ar _) Z)) (.inr (cZ a4 c8 Z)) e6 b6
 ·obtain⟨vb,_,rfl,_⟩:=id hv
  refine(aC (lF (aJ (λc=>absurd (qE c) (λh=>nomatch h)) (λ_=>aj _ _ ?_))));exact(bQ (aE Z) (λe6 b6=>bg _ h' _ (f1.trans f2) hv (.inl hb) e6 b6))
def mD(mk:Mak)(c:Nat):D:=.tup [mk.d,.str (eL c)]
structure Spld(nms:List Str)(mk:Mak)(t slot:Nat)(mk':Mak)(c:Nat):Prop where
 lk:nQ mk' (some c)
 w:Wm (t+1) mk'
 g:Gd nms mk' slot
 hl:mk.hands.length<=mk'.hands.length
 c1:1<=c
 c8:c<=8
def Gr:Sp:=λvs H Q _=>∃(f nb:Addr) (mv:V) (mk:Mak) (nms:List Str) (slot t:Nat),vs=[.ref f,mv,.int slot,.ref nb]/\FN H f nb nms/\RelD H mv mk.d/\Gd nms mk (slot+1)/\Wm t mk/\t<=1/\slot<3+4*mk.hands.length/\∀v mk' c H',Fed f H H'->RelD H' v (mD mk' c)->Spld nms mk t slot mk' c->Q v H'
def xk0(T:Tx K mg)(x:DefIs P w K mg base n "_law_bad_kinds" qba Jb)(p:DefIs P w K mg base n "_law_bad_names" qbc Jc)(o:DefIs P w K mg base n "_law_bad_channels" qbb Ja)(l:DefIs P w K mg base n "_law_spoiled_hand" qbh xQ):DefIs P w K mg base (n+1) "_law_spoiled" qbi Gr:=by
 refine DefIs.of T.uF scl_spoiled (by walk_at"l") (λf b2 A outer s H vs Q E hr h=>?_);obtain⟨f',nb,mv,mk,a4,a,t,rfl,fn,hm,g,J,ht,az,q⟩:=h;have nd:=scl_spoiled.nd;have ok:=fn.ok;have b0:=J.hl;have b1:=J.cl;obtain⟨p0,q0,a0⟩:=fn.fd;obtain⟨ma,kv,cv,ab,rfl,G,a8,ag,a9⟩:=gG hm
 refine⟨_,(aF (aT (pR bY (pv 2) pI (nM _)) (aF (mT (pd x hr (va 0 (pc (px K (pv 1) pI) (v1 3) ss))) (fI (K:=K) Z Z (aX (bK 4 nd) (aX (bK 5 nd) fE))))
   (po (aS (aH (pc (aH (va 4 (pc (px K (pv 1) pI) (pc (px K (pv 1) pI) pN ss) ss))) (v1 5) sT))))) pQ)
   (aF (aT (pR bY (pv 2) pI (nM _)) (po (aS (aH (pc (pd p hr (va 0 (v1 1))) (pc pS pN aG) bL)))) pQ)
   (aF (aT (pR bY (pv 2) pI (nM _)) (po (aS (aH (pc (aH (pc (px K (pv 1) pI) (pc (pd o hr (va 0 (va 1 (v1 3)))) (pc (px K (pv 1) pI) pN ss) bL) ss)) (pc pS pN aG) sT)))) pQ)
   (aF (aR 6 nd (aN pX (aN pU (pv 2) pI) pI))
   (aF (mT (pd l hr (va 0 (va 1 (va 6 (pc (aN iV (aN pU (pv 2) pI) pI) (v1 3) eI))))) (fI (K:=K) Z Z (aX (bK 7 nd) (aX (bK 5 nd) fE))))
   (po (aS (aH (pc (aH (pc (px K (pv 1) pI) (pc (px K (pv 1) pI) (pc (aN (gX (K:=K) Z) (aN (gX (K:=K) Z) (gY (mW (K:=K) Z) (px K (pv 1) pI) iU (gE (pv 6))) (aH (v1 7))) (gY (mW (K:=K) Z) (px K (pv 1) pI) (gE (aN eY (pv 6) pI)) iU)) pN eI) ss) ss)) (v1 5) sT))))))))),aL λR1 ay=>?_⟩
 have a7:a≠0->R1 [some (.ref f'),some (.ref ma),some (.int a),some (.ref nb),none,none,none,none] H:=by
  intro s0;refine ay _ _ (aL λR2 ax=>?_)
  have a6:a≠1->R2 [some (.ref f'),some (.ref ma),some (.int a),some (.ref nb),none,none,none,none] H:=by
   intro s1;refine ax _ _ (aL λR3 aw=>?_)
   have a5:a≠2->R3 [some (.ref f'),some (.ref ma),some (.int a),some (.ref nb),none,none,none,none] H:=by
    intro s2;refine aw _ _ (aL λR4 av=>?_);obtain⟨k,j,rfl,hj⟩:∃k j:Nat,a=3+4*k+j/\j<=3:=⟨(a-3) / 4,(cZ ((a-3)%4) (by omega) (by omega))⟩;have hk:k<mk.hands.length:=by omega
    obtain⟨ha,uh,rfl,aq,ai⟩:=a9;have ao:=ai.length;rw[aM]at ao;have O:=cF hk;have a1:=qY hk;have aa:=J.hs _ a1;have kg:=g.g0 (by omega);have cg:=g.g2 (by omega);have ek:(λi j:Int=>V.int (i / j)) (((3+4*k+j:Nat):Int)-3) 4=V.int (k:Int):=congrArg V.int (by omega);have ej:(λi j:Int=>V.int (i%j)) (((3+4*k+j:Nat):Int)-3) 4=V.int (j:Int):=congrArg V.int (by omega);refine(aC (fO (fJ ⟨aA Z,aA Z⟩ ?_)));rw[ek];refine av _ _ (aL λR5 au=>?_);refine(aC (gC (fO (fJ (show(0:Int)<4 by decide) ?_))));rw[ej];refine(eP f' nb ⟨_,(aP mk a4 k (aV j (aY fn hm O (jAAA hj (by have:=aa.b;omega) (by have:=aa.r;omega) (jAAA (by omega) (λe=>BIn.of ok fn.fa kg cg J a1 (g.h1 k _ O (by omega))) (λe=>?_) (λv h' c H1 Y hv an=>?_))))))⟩)
    ·obtain⟨_,hl,_⟩:=(g.h3 k _ O (by omega)).1.rw.last
     intro e2;rw[e2]at hl;cases hl
    obtain⟨e,_,rfl,he,ac,_,rfl,af,_,_,rfl,rfl,rfl⟩:=hv;refine(iX (zD he) Z Z Z Z (au _ _ ?_));have z:=cK (aK a0) Y;have C:=z _ _ G;have a2:=z _ _ aq;obtain⟨hn,I,c8,h1,h2,h3⟩:=sp3 ok fn.fa g J O an;refine(aQ (zD C) Z (aQ (zD C) Z (aQ (zD C) Z (eF ⟨Z,nA a2 λz1 H2 s2 g2=>(bQ (aE Z) (λz2 am=>?_))⟩))));rw[show bI uh none (some (k:Int))=uh.take k from rG uh k]at g2;have M:=zA am (.tup [ac]);refine dW (M _ _ g2) aD (aB (by rw[List.length_take];show _+1<=_;omega)) λz3 H3 s3 g3=>?_;have a3:=s2.trans (M.trans s3);refine(aQ (zD (a3 _ _ C)) Z (aC (fQ Z ?_)));dsimp only[wW];refine nA (a3 _ _ a2) λz5 H5 s5 g5=>?_;rw[show bI uh (some ((k:Int)+1)) none=uh.drop (k+1) from xC uh (k+1)]at g5;refine dW (s5 _ _ g3) g5 (aB (by rw[bS,List.length_take,List.length_drop];show _+1+_<=_;omega)) λz6 H6 s6 g6=>⟨aE Z,λe1 U=>(bQ (aE Z) (λe2 y=>?_))⟩;have aj:=a3.trans (s5.trans s6);have u7:=zA U (.tup [kv,cv,.ref z6]);have u8:=zA y (.tup [.ref e1,.str (eL c)]);have u:=aj.trans (u7.trans u8)
    have em:(mk.hands.take k++h'::mk.hands.drop (k+1)).map Hand.d=((mk.hands.map Hand.d).take k++[h'.d])++(mk.hands.map Hand.d).drop (k+1):=by
     rw[bZ,List.map_cons,List.map_take,List.map_drop,List.append_assoc];rfl
    have ah:=(ai.tups z _).same u _
    exact q _ ⟨mk.kinds,mk.chans,mk.hands.take k++h'::mk.hands.drop (k+1)⟩ c _ (Y.same u) ⟨e2,_,Z,aD,_,_,Z,⟨e1,_,Z,u8 _ _ aD,_,_,Z,(a8.tups z _).same u _,_,_,Z,(ag.tups z _).same u _,_,_,Z,⟨z6,_,Z,(u7.trans u8) _ _ g6,by
     show RelDs _ _ ((mk.hands.take k++h'::mk.hands.drop (k+1)).map Hand.d);rw[em];exact((ah.take k).append (us:=[ac]) (es:=[h'.d]) (aW (af.same u _) Z)).append (ah.drop (k+1))⟩,Z⟩,_,_,Z,Z,Z⟩ ⟨h1,h2,h3,by show _<=(mk.hands.take k++h'::mk.hands.drop (k+1)).length;rw[Nc O];exact qD _,I,c8⟩
   refine(dE Z Z (aJ (λI=>?_) (λI=>a5 λe=>I (by rw[e];rfl))));have e2:a=2:=by have:=qE I;injection this;omega
   subst e2;refine(aQ (zD G) Z (gC ⟨f',(aV nb (aI mk a4 (eX fn hm J.hne (by omega) (by omega) (λv c H1 Y hv hb=>?_))))⟩));have z:=cK (aK a0) Y;obtain⟨h1,h2,h3⟩:=sp2 ok g J hb;refine(aQ (zD (z _ _ G)) Z ⟨aE Z,λe1 U=>⟨aE Z,λe2 y=>?_⟩⟩);have u1:=zA U (.tup [kv,v,ab]);have M:=zA y (.tup [.ref e1,.str (eL 2)]);have u:=u1.trans M;exact q _ ⟨mk.kinds,mk.chans++[c],mk.hands⟩ 2 _ (Y.same u) (cY aD Z (fA (M _ _ aD) (eM ((a8.tups z _).same u _) (hv.same u _) Z ((a9.tups z _).same u _) Z)) Z Z Z) ⟨h1,h2,h3,qD _,aA Z,aA Z⟩
  refine(dE Z Z (aJ (λI=>?_) (λI=>a6 λe=>I (by rw[e];rfl))));have e1:a=1:=by have:=qE I;injection this;omega
  subst e1;refine(bJ (aV f' ⟨mk,(aY (aK a0) hm J.hne (jAAA (by omega) J.cne (by omega) (λv ak H1 Y hv hb=>⟨aE Z,λe2 y=>?_⟩)))⟩));have M:=zA y (.tup [v,.str (eL 1)]);obtain⟨h1,h2,h3⟩:=sp1 g J hb;refine q _ ak 1 _ (Y.same M) (cY aD Z (hv.same M _) Z Z Z) ⟨h1,h2,h3,?_,aA Z,aA Z⟩;rcases hb with⟨_,_,rfl⟩ |⟨_,_,rfl⟩
  ·show _<=(mk.hands++[_]).length
   rw[bS];omega
  ·exact qD _
 refine(dE Z Z (aJ (λI=>?_) (λI=>a7 λe=>I (by rw[e];rfl))));have e0:a=0:=by have:=qE I;injection this;omega
 subst e0;refine aL λS1 ar=>?_;refine(dI (zD G) Z (eP f' nb ⟨_,(aI mk.kinds a4 (aY fn a8 (g.g0 (aA Z)) (λv al c H1 Y hv hb=>?_)))⟩));obtain⟨e,_,rfl,he,kv',_,rfl,ae,_,_,rfl,rfl,rfl⟩:=hv;refine(iX (zD he) Z Z Z Z (ar _ _ ?_));have z:=cK (aK a0) Y;obtain⟨h1,h2,h3⟩:=sp0 g J hb;refine(dI (zD (z _ _ G)) Z (aQ (zD (z _ _ G)) Z ⟨aE Z,λe1 U=>(bQ (aE Z) (λe2 y=>?_))⟩));have u1:=zA U (.tup [kv',cv,ab]);have M:=zA y (.tup [.ref e1,.str (eL c)]);have u:=u1.trans M;exact q _ ⟨al,mk.chans,mk.hands⟩ c _ (Y.same u) (cY aD Z (fA (M _ _ aD) (eM (ae.same u _) ((ag.tups z _).same u _) Z ((a9.tups z _).same u _) Z)) Z Z Z) ⟨h1,h2,h3,qD _,hb.c8.1,hb.c8.2⟩
def tK(c:Nat):List V:=[.bl (decide (c=1)),.bl (decide (c=2)),.bl (decide (c=3)),.bl (decide (c=4)),.bl (decide (c=5)),.bl (decide (c=6)),.bl (decide (c=7)),.bl (decide (c=8)),.bl (decide (c=9)),.bl (decide (c=0))]
def Vo{c i:Nat}(f:1<=c)(e:c<=8)(h:(tK c)[i]?=some z):z=.bl (decide (c=i+1)):=by
 match i with
 |0=>cases h;rfl
 |1=>cases h;rfl
 |2=>cases h;rfl
 |3=>cases h;rfl
 |4=>cases h;rfl
 |5=>cases h;rfl
 |6=>cases h;rfl
 |7=>cases h;rfl
 |8=>cases h;rfl
 |9=>
  cases h;have b:decide (c=0)=false:=cW (by omega);have a:decide (c=9+1)=false:=cW (by omega);rw[b,a]
 |i+10=>cases h
def Vt{i:Nat}{u:V}(h:(wordL.map V.str)[i]?=some u):u=.str (eL (i+1)):=by
 rw[dA]at h;obtain⟨z,hz,rfl⟩:=dH h;unfold eL;rw[Nat.add_sub_cancel,List.getD_eq_getElem?_getD,hz];rfl
def Lh(K:Fg)(hv:Value):Sp:=λvs H Q _=>∃(x:Addr) (c:Nat),hv=.ref x/\vs=[.ref x]/\1<=c/\c<=8/\H x=some (excF x (cAt K c) none .none)/\∀l H',Same H H'->H' l=some (.lst [.str (eL c)])->Q (.ref l) H'
def Im:Sp:=λvs H Q _=>∃(mv:V) (mk:Mak) (c:Nat),vs=[mv]/\RelD H mv mk.d/\MakB mk/\nQ mk (some c)/\1<=c/\c<=8/\∀l H',Same H H'->H' l=some (.lst [.str (eL c),.bl true])->Q (.ref l) H'
theorem only(a:Addr):∀u,RelV (.ref a) u->u=Value.ref a:=λ_ h=>h
def xjd(T:Tx K mg):DefH P w K mg base (n+1) "_law_words_of" ["_law_e"] (Lh K):=by
 refine DefH.of T.uG scl_words_of (λhv vs H Q E h=>?_) (λhv f aa A outer s H vs Q E hr hh h=>?_)
 ·obtain⟨_,_,_,rfl,_⟩:=h
  rfl
 obtain⟨x,c,rfl,rfl,h1,h8,o,q⟩:=h;have nd:=scl_words_of.nd;have r:c<10:=by omega
 have M:=T.xt.cl c r;have b:∀j,j<10->PySem.W.kitOne K (.ref (cAt K c)) (.ref (cAt K j))=some (decide (c=j)):=λj hj=>T.xt.kit c j r hj
 refine⟨_,(aF (aR 1 nd (fU (pc (bV (oE (K:=K) Z) Z T.uR PyProof.Rows.boot_isinstance (va 0 (pc (oM T.vC) pN mK))) (pc (bV (oE (K:=K) Z) Z T.uR PyProof.Rows.boot_isinstance (va 0 (pc (oM T.vD) pN mK))) (pc (bV (oE (K:=K) Z) Z T.uR PyProof.Rows.boot_isinstance (va 0 (pc (oM T.vE) pN mK))) (pc (bV (oE (K:=K) Z) Z T.uR PyProof.Rows.boot_isinstance (va 0 (pc (oM T.vF) pN mK))) pN bL) bL) bL) bL)))
   (aF (aR 1 nd (aN mO (pv 1) (fU (pc (bV (oE (K:=K) Z) Z T.uR PyProof.Rows.boot_isinstance (va 0 (pc (oM T.vG) pN mK))) (pc (bV (oE (K:=K) Z) Z T.uR PyProof.Rows.boot_isinstance (va 0 (pc (oM T.vH) pN mK))) (pc (bV (oE (K:=K) Z) Z T.uR PyProof.Rows.boot_isinstance (va 0 (pc (oM T.vI) pN mK))) (pc (bV (oE (K:=K) Z) Z T.uR PyProof.Rows.boot_isinstance (va 0 (pc (oM T.vJ) pN mK))) pN bL) bL) bL) bL))))
   (aF (aR 1 nd (aN mO (pv 1) (fU (pc (bV (oE (K:=K) Z) Z T.uR PyProof.Rows.boot_isinstance (va 0 (pc (oM T.vK) pN mK))) (pc (bV (oE (K:=K) Z) Z T.uR PyProof.Rows.boot_isinstance (va 0 (pc (oM T.vB) pN mK))) pN bL) bL))))
   (aF (aR 2 nd (fU (Ll [Str.ofString "twice",Str.ofString "name",Str.ofString "count",Str.ofString "wrong",Str.ofString "lacks",Str.ofString "own",Str.ofString "falls",Str.ofString "big",Str.ofString "fit",Str.ofString "text"] Z)))
   (po (aS (W9 (Cp:=Hd x) ["_law_word","_law_is_it"] [none,none] (λ_ _ _ _=>by exact hh) (by kernel_rfl) (Vn (x:=x) Z T.vA (va 2 (v1 1))) (λ_ _ _ _=>(Vl (K:=K) (x:=x) (n:=2) Z (by exact hh) (aX (dU 0) (aX (dU 1) fE)))) (λ_ _ _ _=>(pW (S8 (pv 1)))) (λ_ _ _ _=>(pv 0))))))))),aL λR1 a9=>?_⟩
 refine(aC (aP x (cAt K c) none (aV (.none) (aK (eX (only _) o (λ_ z=>nomatch z) M (b 1 (aA Z)) ?_)))));refine(aC (aP x (cAt K c) none (aV (.none) (aK (eX (only _) o (λ_ z=>nomatch z) M (b 2 (aA Z)) ?_)))));refine(aC (aP x (cAt K c) none (aV (.none) (aK (eX (only _) o (λ_ z=>nomatch z) M (b 3 (aA Z)) ?_)))));refine(aC (aP x (cAt K c) none (aV (.none) (aK (eX (only _) o (λ_ z=>nomatch z) M (b 4 (aA Z)) ?_)))));refine⟨aE Z,λU a5=>a9 _ _ (aL λR2 a8=>?_)⟩;have s1:=zA a5 (.lst [.bl (decide (c=1)),.bl (decide (c=2)),.bl (decide (c=3)),.bl (decide (c=4))]);have g1:upd H U (.lst [.bl (decide (c=1)),.bl (decide (c=2)),.bl (decide (c=3)),.bl (decide (c=4))]) U=some (.lst [.bl (decide (c=1)),.bl (decide (c=2)),.bl (decide (c=3)),.bl (decide (c=4))]):=aD;generalize upd H U (.lst [.bl (decide (c=1)),.bl (decide (c=2)),.bl (decide (c=3)),.bl (decide (c=4))])=H1 at s1 g1⊢;have l:=s1 _ _ o;refine(bJ (aP x (cAt K c) none (aV (.none) (aK (eX (only _) l (λ_ z=>nomatch z) M (b 5 (aA Z)) ?_)))));refine(aC (aP x (cAt K c) none (aV (.none) (aK (eX (only _) l (λ_ z=>nomatch z) M (b 6 (aA Z)) ?_)))));refine(aC (aP x (cAt K c) none (aV (.none) (aK (eX (only _) l (λ_ z=>nomatch z) M (b 7 (aA Z)) ?_)))));refine(aC (aP x (cAt K c) none (aV (.none) (aK (eX (only _) l (λ_ z=>nomatch z) M (b 8 (aA Z)) ?_)))));refine⟨aE Z,λl2 a4=>?_⟩
 have s2:=zA a4 (.lst [.bl (decide (c=5)),.bl (decide (c=6)),.bl (decide (c=7)),.bl (decide (c=8))]);refine(aI U l2 (aK (cP (jAAA (s2 _ _ g1) aD (aB (by show 8<=4000000;decide)) (λO a3=>a8 _ _ (aL λR3 a7=>?_))))));have s3:=s2.trans (zA a3 (.lst ([.bl (decide (c=1)),.bl (decide (c=2)),.bl (decide (c=3)),.bl (decide (c=4))]++[.bl (decide (c=5)),.bl (decide (c=6)),.bl (decide (c=7)),.bl (decide (c=8))])));have g3:upd (upd H1 l2 (.lst [.bl (decide (c=5)),.bl (decide (c=6)),.bl (decide (c=7)),.bl (decide (c=8))])) O (.lst ([.bl (decide (c=1)),.bl (decide (c=2)),.bl (decide (c=3)),.bl (decide (c=4))]++[.bl (decide (c=5)),.bl (decide (c=6)),.bl (decide (c=7)),.bl (decide (c=8))])) O=some (.lst ((tK c).take 8)):=aD;generalize upd (upd H1 l2 _) O _=H3 at s3 g3⊢;have G:=s1.trans s3;have I:=G _ _ o;refine(bJ (aP x (cAt K c) none (aV (.none) (aK (eX (only _) I (λ_ z=>nomatch z) M (b 9 (aA Z)) ?_)))));refine(aC (aP x (cAt K c) none (aV (.none) (aK (eX (only _) I (λ_ z=>nomatch z) M (b 0 (aA Z)) ?_)))));refine⟨aE Z,λl4 a2=>?_⟩;have s4:=zA a2 (.lst [.bl (decide (c=9)),.bl (decide (c=0))]);refine(aI O l4 (aK (cP (jAAA (s4 _ _ g3) aD (aB (by show 10<=4000000;decide)) (λJ a1=>a7 _ _ (aL λR4 a6=>?_))))));have s5:=s4.trans (zA a1 (.lst ((tK c).take 8++[.bl (decide (c=9)),.bl (decide (c=0))])))
 have g5:upd (upd H3 l4 (.lst [.bl (decide (c=9)),.bl (decide (c=0))])) J (.lst ((tK c).take 8++[.bl (decide (c=9)),.bl (decide (c=0))])) J=some (.lst (tK c)):=aD;generalize upd (upd H3 l4 _) J _=H5 at s5 g5⊢;refine⟨(by show 10<=sizeLine;decide),λl6 a0=>a6 _ _ ?_⟩;rw[show([Str.ofString "twice",Str.ofString "name",Str.ofString "count",Str.ofString "wrong",Str.ofString "lacks",Str.ofString "own",Str.ofString "falls",Str.ofString "big",Str.ofString "fit",Str.ofString "text"]:List Str)=wordL from Z];have s6:=zA a0 (.lst (wordL.map V.str));have g6:upd H5 l6 (.lst (wordL.map V.str)) l6=some (.lst (wordL.map V.str)):=aD;have C:=s6 _ _ g5;have g:=G.trans (s5.trans s6);generalize upd H5 l6 (.lst (wordL.map V.str))=H6 at g6 C g⊢;refine(aC (eP l6 J (aZ ⟨_,zF g6⟩ ⟨_,zF C⟩ ?_)));refine X4 (xs:=wordL.map V.str) (zs:=tK c) Z (λi ys Y=>Same H6 Y/\ys=if c<=i then [V.str (eL c)] else []) ⟨Same.refl _,by rw[if_neg (by omega)]⟩ (cL (aA Z)) (λi ys Y _ p=>(jAA (zF (p.1 _ _ g6)) (zF (p.1 _ _ C)) (aK (p.1 _ _ (g _ _ o))))) ?_ ?_
 ·rintro i u z ys Y p hu hz hi y ⟨sm,rfl⟩ hp
  have sp:=zA hp (.tup [u,z]);have a:=sm.trans sp;obtain rfl:=Vo h1 h8 hz;obtain rfl:=Vt hu;refine(gB (zD aD) (eV (aK (a _ _ (g _ _ o))) (aK (gR (bU Z ⟨hV Z Z,?_⟩)))));refine(eF ⟨Z,?_⟩);by_cases e:c=i+1
  ·rw[cS e]at a⊢
   refine nB (aC (eT hi y ⟨a,?_⟩));rw[if_neg (by omega),if_pos (by omega),e];rfl
  ·rw[cW e]at a⊢
   refine cG (iK hi y ⟨a,?_⟩);by_cases e2:c<=i
   ·rw[if_pos e2,if_pos (by omega)]
   ·rw[if_neg e2,if_neg (by omega)]
 ·rintro ys Y y ⟨sm,rfl⟩ D hD
  rw[if_pos (show c<=(wordL.map V.str).length by show c<=10;omega)];exact q D _ (g.trans (sm.trans (zA hD _))) aD
def xk1(T:Tx K u)(g:DefXs P w K u base n "look" ["make"] (Bf K))(a:DefH P w K u base n "_law_words_of" ["_law_e"] (Lh K)):DefIs P w K u base (n+1) "_law_refused" qbj Im:=by
 refine DefIs.of T.uH scl_refused (by walk_at"l") (λf a0 A outer s H vs Q E Y h=>?_);obtain⟨U,mk,c,rfl,hm,mb,lk,h1,h8,q⟩:=h;have nd:=scl_refused.nd
 refine⟨_,(aF (aR 1 nd nX)
   (aF (Y4 (i:=2) Z Z nd Z Z T.vL T.xt2.obj (λpn Es=>(po (cT (cN g Y (v1 0))))) (λe=>(po (aR 1 nd (aN mO (Wa a (Y.q.mark _) Z (v1 2)) (fU (pc (bV (oE (K:=K) Z) Z T.uR PyProof.Rows.boot_isinstance (va 2 (pc (Rr T.uN Tg) pN mK))) pN bL)))))))
   (po (aS (pv 1))))),?_⟩
 refine(cZ (λv d J p=>J=[some U,some .non,none]/\Same H p/\Rz K p v d c) ?_ ?_)
 ·exact(eP U mk ⟨_,(dS hm mb lk (λe=>nomatch e) (λc' e v d p o r=>by cases e;exact(eV o r)))⟩)
 ·rintro x C d c2 J H1 ⟨rfl,s1,x',ex,rfl,y⟩ j
  cases ex;have b:c<10:=by omega
  rw[y]at j;obtain⟨rfl,-⟩:=Vy (qK j);clear j;refine(jAA (T.xt.cl c b) (T.xt2.mro c b) ?_);have M:=T.xt.cl c b;refine(eP x c (cP (jAAA h1 h8 y (λl p o hl=>(aC (aP x (cAt K c) none (aV (.none) (aK (aY (λ_ h=>h) (o _ _ y) (λ_ z=>nomatch z) (jAAA M (T.xt.kV c b) (aE Z) (λl2 I=>?_)))))))))));have O:=zA I (.lst [.bl true]);refine(aI l l2 (aK (cP (jAAA (O _ _ hl) aD (aE Z) (λl3 G=>(aC (q l3 _ (s1.trans (o.trans (O.trans (zA G _)))) aD)))))))
def spLaw(K:Fg):Sp:=λvs H Q _=>∃(a:Addr) (ns:List Int),vs=[.ref a]/\SqL K H a (ns.map V.int)/\ns.length<=63/\∀H',Q (.bl true) H'
def Gq:Sp:=λvs H Q _=>∃(mv:V) (mk:Mak),vs=[mv]/\RelD H mv mk.d/\MakB mk/\nQ mk none/\∀H',Same H H'->Q (.bl true) H'
def Us(g:MakG mk)(w:MkW c mk)(s:Nat):Gd c mk s:=by
 have a:∀{i:Nat} {h},mk.hands[i]?=some h->h∈mk.hands:=λh=>cJ h
 have f:∀h∈mk.hands,BG c mk.kinds h:=λh b=>by
  have q:=g.hok h b;exact⟨q.nd,q.few,(w.hb h b).bx,q.kin,q.rw.nd⟩
 exact⟨λ_=>⟨g.wf,g.fit,w.k4,w.kn,w.kp⟩,λ_=>⟨w.hn,g.hfew⟩,λ_=>⟨w.c5,w.cn,g.ckin,g.ends⟩,λi h b _=>f h (a b),λi h b _=>⟨λr e=>⟨_,(g.hok h (a b)).rw.ok r e⟩,(w.hb h (a b)).mr⟩,λi h b _=>⟨g.hok h (a b),(w.hb h (a b)).r10⟩⟩
def Xh(D:DefXs P w K b base n "look" ["make"] (Bf K)):DefIs P w K b base n "look" ["make"] Gq:=D.calm λvs H Q E h=>by
 obtain⟨a,mk,rfl,g,mb,f,q⟩:=h;exact(aP a mk none (dS g mb f (λ_=>q) (λc e=>nomatch e)))
def Sl(T:Tx K mg)(c:DefIs P w K mg base n "_law_feed" qam (A0 K))(b:DefIs P w K mg base n "_law_take" qab iW)(o:DefIs P w K mg base n "_law_names" qa6 Le)(x:DefIs P w K mg base n "_law_make" qax (C2 K))(j:DefIs P w K mg base n "_law_spoiled" qbi Gr)(g:DefIs P w K mg base n "_law_refused" qbj Im)(J:DefIs P w K mg base n "look" ["make"] Gq):DefIs P w K mg base (n+1) "law" ["_law_script"] (spLaw K):=by
 refine DefIs.of T.uI sc_law (by walk_at"l") (λf cf A outer s H vs Q E C h=>?_);obtain⟨a,ns,rfl,hS,a1,k⟩:=h;have nd:=sc_law.nd;have hu:=hW C;have am:=Rq C;have hg:=(Prod.mk.inj C.hd).2
 refine⟨_,(aF (aR 1 nd (pd o C (pc (pd b C (pc (pd c C (va 0 (pc pI pN aG))) (pc (aN rJ pI pI) pN eI) bL)) (pc pI pN aG) bL)))
   (aF (aR 2 nd (pd x C (va 0 (pc pI (v1 1) aG))))
   (aF (aR 3 nd (pd c C (va 0 (pc pI pN aG))))
   (aF (aR 4 nd (cC K (fU (pc pI (pc pI (pc pI (pc (aN eY pI (pd b C (va 3 (pc (aN nW pI (bV (dM (K:=K) Z) Z T.uS zH (pc (px K (pv 2) pI) pN ss))) pN eI)))) (pc (aN eY pI (aN nW pI (pd b C (va 3 (pc (bV (dM (K:=K) Z) Z T.uS zH (pc (px K (pv 2) pI) pN ss)) pN bL))))) pN eI) eI) aG) aG) aG)) (pd b C (va 3 (pc pI pN aG)))))
   (aF (mT (pd j C (pc (pd c C (va 0 (pc pI pN aG))) (va 2 (va 4 (v1 1))) bL)) (fI (K:=K) Z Z (aX (bK 5 nd) (aX (bK 6 nd) fE))))
   (aF (aR 7 nd (bV (My hg am) Z T.uX PyProof.Rows.boot_repr (pc (aH (va 2 (v1 5))) pN sT)))
   (aF (aT (PW.pt (Pm (pR Ul (pd J C (v1 2)) rF (nM _)) (S9 (pR (So (Nat.lt_of_succ_lt hu)) (pd g C (v1 5)) (fU (va 6 (pc rF pN aG))) (nM _))))) (po (aS rF)) pQ)
   (po (aS (C6 (rO (Sm (Nat.lt_of_succ_lt hu)) (pd g C (v1 5)) (fU (va 6 (pc rF pN aG))) (nM _)) (C6 (rO Sn (pd J C (v1 2)) rF (nM _)) (Ia (rO bY (bV (My hg am) Z T.uX PyProof.Rows.boot_repr (pc (aH (va 2 (v1 5))) pN sT)) (pv 7) (nM _)))))))))))))),aL λR1 bu=>?_⟩
 refine(aC (aP a ns 1 (aY hS a1 (aA Z) (λr p q0 nr=>?_))));have sr:=zA nr (.lst [.int p,.int q0]);refine(fJ ⟨aA Z,aA Z⟩ (aI r p (aV q0 (aY aD (aA Z) (aA Z) (λt1 H1 bz bx f1=>?_)))));have s1:Same H H1:=Fed.back nr sr f1;refine(gH Z (λnb H2 ai s2 cd hb aq b1=>bu _ _ (aL λR2 bt=>?_)));have ag:=s1.trans s2;refine(aC (eP a nb (aP ns 2 ai (aY (ag.seq hS) a1 ⟨hb,NmsR.of aq,λz hz=>(b1 z hz).1⟩ (λmv mk H3 s3 ar a0 mw=>bt _ _ (aL λR3 br=>?_))))));have af:=ag.trans s3;have bj:=s3 _ _ hb;refine(aC (aP a ns 8 (aY (af.seq hS) a1 (aA Z) (λr2 p2 q2 a4=>br _ _ (aL λR4 bq=>?_)))));have U:=zA a4 (.lst [.int p2,.int q2]);have a8:upd H3 r2 (.lst [.int p2,.int q2]) r2=some (.lst [.int p2,.int q2]):=aD;generalize ce:upd H3 r2 (.lst [.int p2,.int q2])=H4 at U a8⊢;have bc:=ar.same U _;obtain⟨ma,kv,cv,ca,rfl,au,cb,cc,bg⟩:=gG bc;obtain⟨ha,uh,rfl,ay,bm⟩:=bg;have bd:=bm.length;rw[aM]at bd;have ax:=a0.hfew;have bw:=List.length_pos_iff.mpr mw.ne;refine(dI (zD au) Z (eO ha uh Z (.inr (zD ay)) (fJ (.inl ⟨aA Z,aA Z⟩) (aI r2 p2 (aV q2 (aY a8 (by omega) (by omega) (λo1 H5 c9 c7 f5=>(fO ?_))))))));obtain⟨one,rfl⟩:∃i:Nat,o1=(i:Int):=⟨o1.toNat,by omega⟩;obtain⟨p5,q5,bi⟩:=f5.2;have t5:=cK (aK a8) f5;refine(dI (zD (t5 _ _ au)) Z (eO ha uh Z (.inr (zD (t5 _ _ ay))) (aI r2 p5 (aV q5 (aY bi (by omega) (by omega) (λo2 H6 c6 c4 f6=>(fJ (.inl ⟨aA Z,aA Z⟩) (fJ (aE Z) (λsl a7=>?_)))))))))
 obtain⟨two,rfl⟩:∃i:Nat,o2=(i:Int):=⟨o2.toNat,by omega⟩;have a9:=zA a7 (.lst [.int 0,.int 1,.int 2,.int (3+(one:Int)),.int (5+4*(two:Int))]);have c0:Same H3 H6:=Fed.back a4 U (f5.trans f6);obtain⟨p6,q6,b0⟩:=f6.2;have bb:sl≠r2:=λe=>by rw[e,b0]at a7;cases a7
 have bh:upd H6 sl (.lst [.int 0,.int 1,.int 2,.int (3+(one:Int)),.int (5+4*(two:Int))]) sl=some (.lst [.int 0,.int 1,.int 2,.int (3+(one:Int)),.int (5+4*(two:Int))]):=aD;refine(eP r2 p6 (aV q6 (aY (a9 _ _ b0) (aA Z) (aA Z) (λo3 H8 c3 c2 f8=>?_))));obtain⟨ix,rfl⟩:∃i:Nat,o3=(i:Int):=⟨o3.toNat,by omega⟩
 obtain⟨G,a6,ao⟩:∃G:Nat,[V.int 0,V.int 1,V.int 2,V.int (3+(one:Int)),V.int (5+4*(two:Int))][ix]?=some (.int (G:Int))/\G<3+4*mk.hands.length:=by
  have:ix=0\/ix=1\/ix=2\/ix=3\/ix=4:=by omega
  rcases this with rfl |rfl |rfl |rfl |rfl
  ·exact(cZ 0 Z (by omega))
  ·exact(cZ 1 Z (by omega))
  ·exact(cZ 2 Z (by omega))
  ·exact(cZ (3+one) (by show some (V.int (3+(one:Int)))=_;exact congrArg (λz=>some (V.int z)) (by omega)) (by omega))
  ·exact(cZ (5+4*two) (by show some (V.int (5+4*(two:Int)))=_;exact congrArg (λz=>some (V.int z)) (by omega)) (by omega))
 refine(eZ (zF (f8.1 _ _ bh bb)) (cM a6) (bq _ _ (aL λR5 bp=>?_)));have a3:Same H3 H8:=Fed.back a4 U (((f5.trans f6).same a9).trans f8);have b7:=af.trans a3;have av:=ar.same a3 _;have gd:=Us a0 mw;have wm:Wm 0 mk:=Vs a0 mw.ne (λe=>by have:=mw.c1;rw[e]at this;simp at this) mw.c5 λh hh=>(mw.hb h hh).r10;refine(aC (aP a ns 9 (aY (b7.seq hS) a1 (aA Z) (λr3 p3 q3 ah=>?_))));have O:=zA ah (.lst [.int p3,.int q3]);have az:upd H8 r3 (.lst [.int p3,.int q3]) r3=some (.lst [.int p3,.int q3]):=aD;generalize upd H8 r3 (.lst [.int p3,.int q3])=H9 at O az⊢;refine(gC ⟨r3,(aV nb (aI mk ai (aI G 0 (aY ⟨(aK az),O _ _ (a3 _ _ bj),aq,λz hz=>(b1 z hz).2⟩ (av.same O _) (gd _) (jAAA wm (aA Z) ao (λv y c1 b3 bv hv sp1=>?_))))))⟩);have aa:Same H8 b3:=Fed.back ah O bv;obtain⟨e,_,rfl,he,a5,_,rfl,aw,_,_,rfl,rfl,rfl⟩:=hv;refine(iX (zD he) Z Z Z Z (bp _ _ (aL λR6 bo=>?_)));have a2:=av.same aa _;have b9:=Ha (aA Z) wm;have b8:=Ha (aA Z) sp1.w
 have Y:Rp 149 4300000 (.tup [mk.d,y.d]):=(Rp.tup (A:=148) (B:=2100000) (N:=2) (ds:=[mk.d,y.d]) (λd hd=>by
  simp only[List.mem_cons,List.not_mem_nil,or_false]at hd;rcases hd with rfl |rfl
  ·exact b9
  ·exact b8) (qD _)).mono (aA Z) (aA Z)
 have hz:eS (.tup [mk.d,y.d])<=sizeLine:=qC Y.sz (aA Z);have M:D.deep (.tup [mk.d,y.d])<=150:=qC Y.dp (aA Z);refine(aC (bQ (aE Z) (λt1 an=>?_)));have u1:=zA an (.tup [.ref ma,a5]);refine(aI (.ref t1) ([mk.d,y.d]) (dS (cY aD Z (a2.same u1 _) Z (aw.same u1 _) Z) M Y.ok hz (bo _ _ (aL λR7 bn=>?_))));have I:=a2.same u1 _;have u:=aw.same u1 _;generalize upd b3 t1 (.tup [.ref ma,a5])=ck at I u⊢;clear u1 an;have aj:=sp1.w.mb (aA Z);have ak:=wm.mb (aA Z);have al:=Xi a0
 have b2:lS [V.str (eL c1),V.bl true] [V.str (eL c1),V.bl true]=true:=by
  show(lC (V.str (eL c1)) (V.str (eL c1)) && (lC (V.bl true) (V.bl true) && true))=true;unfold lC;simp
 refine(eF ⟨mk,(aY I ak al (λcj ae=>(gR (lF (yN Z ?_)))))⟩);refine(eF (aI y c1 (eX (u.same ae _) aj sp1.lk sp1.c1 sp1.c8 (λl ci b6 hl=>(bQ (aE Z) (λl2 bf=>?_))))));have u2:=zA bf (.lst [.str (eL c1),.bl true]);refine(aI l l2 (aK (jAA Z Z (jAAA (zF (u2 _ _ hl)) (zF aD) Z (bP Z (yN (by rw[b2];rfl) (bn _ _ ?_)))))));have ac:=ae.trans (b6.trans u2);refine(eF (aI y c1 (eX (u.same ac _) aj sp1.lk sp1.c1 sp1.c8 (λl3 ch b5 be=>(bQ (aE Z) (λl4 ax=>?_))))));have u4:=zA ax (.lst [.str (eL c1),.bl true]);refine(aI l3 l4 (aK (jAA Z Z (jAAA (zF (u4 _ _ be)) (zF aD) Z (bP Z (B6 b2 ?_))))));have ab:=ac.trans (b5.trans u4);refine(eF ⟨mk,(aY (I.same ab _) ak al (λcg b4=>(gR (lF (nB ?_)))))⟩);have sE:=ab.trans b4;refine(aC (bQ (aE Z) (λt2 ba=>?_)));have u5:=zA ba (.tup [.ref ma,a5]);refine(aI (.ref t2) ([mk.d,y.d]) (dS (cY aD Z ((I.same sE _).same u5 _) Z ((u.same sE _).same u5 _) Z) M Y.ok hz (bQ Z ?_)));rw[cS Z];exact k _
def law_is(T:Tx K b):DefIs P w K b base 100 "law" ["_law_script"] (spLaw K):=by
 have take:∀k,DefIs P w K b base (k+1) "_law_take" qab iW:=λk=>Wz T;have size:DefIs P w K b base 28 "_law_size" qaf (tP 6):=(L7 T 6 (by omega)).mono (by omega);have g:DefIs P w K b base 30 "_law_parts" qau Cy:=Xt T (take 28) (size.mono (by omega));have f:∀k,DefIs P w K b base (k+2) "_law_any_kind" qak yQ:=λk=>xjh T (take k);have a:DefIs P w K b base 40 "nought_term" qad (lA cH 6):=(N8 T 6).mono (by omega);have num:DefIs P w K b base 40 "_law_number" qat C1:=Yg (n:=39) T (take 38);have e:DefIs P w K b base 41 "_law_new_term" qan A1:=xje (n:=40) T (take 39) num a;have y:DefIs P w K b base 42 "_law_deal" qav Bz:=Ww (n:=41) T (take 40) e;have p:DefIs P w K b base 43 "_law_rows" qaw Bg:=Wy (n:=42) T (take 41) (e.mono (by omega)) y;have l:DefIs P w K b base 44 "_law_hands" qay (Cv K):=Xq (n:=43) T (Dr T) (Xo (n:=42) T (take 41) (f 40)) p;have make:DefIs P w K b base 45 "_law_make" qax (C2 K):=Wx (n:=44) T (Dr T) (take 43) ((Xr T (take 29) g).mono (by omega)) (xjf (n:=43) T (take 42) (f 41)) l;have sort:∀k,DefIs P w K b base (k+1) "sort_of" qac rQ:=λk=>Ao T;have M:=G9 (P:=P) (w:=w) (base:=base) T 22 100 (by omega);have nk:=O8 (n:=71) T (λks=>Kt ks 22) (λks env d r Y U O=>wA Y 22 env d r U O) M (E5 T);have there:∀k,DefXs P w K b base (k+2) "need_there" qad (Ae K):=λk=>xh7 (n:=k+1) T (sort k);have x:=xk8 (n:=72) T nk (O2 T) (xk6 (n:=71) T (xib (n:=70) T (M1 T))) (E5 T)
 have o:=xia (P:=P) (w:=w) (base:=base) (n:=72) T (Yf (n:=71) T (xk4 T));have h:=xjl (n:=73) T (Ap T) (there 71) x o;have j:=xgw (n:=73) T (Ya (n:=72) T (M1 T)) (there 71);have c:=xh9 (P:=P) (w:=w) (base:=base) (n:=73) T (xh8 (n:=72) T (Ap T)) (xhk (n:=72) T (Ye T));have look:=Uh (n:=74) T c (Ap T) j h;have u:=xk1 (n:=75) T look (xjd T);have C:=Yh (n:=40) T a;have J:=Xp (n:=40) T a;have z:=xjg (n:=41) T (take 40) (a.mono (by omega)) C J;have I:=xf7 (n:=42) T (take 41) (xh6 (n:=41) T (take 40)) z;have G:=xk0 (n:=43) T (xh5 (n:=42) T (take 41)) (xh4 (n:=42) T (take 41)) (xf8 (n:=42) T (take 41)) I;exact Sl (n:=99) T (Dr T) (take 98) (Xs T) (make.mono (by omega)) (G.mono (by omega)) (u.mono (by omega)) ((Xh look).mono (by omega))
end
end K28
end
end
namespace PySem.W.Fast
def tw18441405381301994492:0=0:=Z
def tw10871150610764416599:0=0:=Z
def tw4391211223457635476:0=0:=Z
def tw17650196390302036434:0=0:=Z
def tw7369807109599032733:0=0:=Z
def tw2666997384617608952:0=0:=Z
def tw14684863845785254696:0=0:=Z
def tw13527038647467913658:0=0:=Z
def tw17611774624337642683:0=0:=Z
def tw190887869018784937:0=0:=Z
def tw3098312118124270121:0=0:=Z
def tw493037439805583667:0=0:=Z
def tw2813459142886673280:0=0:=Z
def tw2333586898501221336:0=0:=Z
def tw5102462414585271756:0=0:=Z
def tw14931883113022898843:0=0:=Z
def tw127704206268471445:0=0:=Z
def tw8017414628431669171:0=0:=Z
def tw14981434547633136098:0=0:=Z
def tw10904454379303433071:0=0:=Z
def tw6090234846920538105:0=0:=Z
def tw1805586195553619494:0=0:=Z
def tw9366687398179039643:0=0:=Z
def tw11124239065620016130:0=0:=Z
def tw6007909809925360747:0=0:=Z
def tw2681612080636076486:0=0:=Z
def tw2012781592111913424:0=0:=Z
def tw1150263126464541777:0=0:=Z
def tw2915115233909876137:0=0:=Z
def tw11444847691435666448:0=0:=Z
def tw7996396941996278714:0=0:=Z
def tw6100731850017717148:0=0:=Z
def tw15799803926458414082:0=0:=Z
def tw8385710210654533961:0=0:=Z
def tw16181613499122026311:0=0:=Z
def tw17481170553731628650:0=0:=Z
def tw759584915066866070:0=0:=Z
def tw3745351843530489609:0=0:=Z
def tw10619375331155491721:0=0:=Z
def tw6323403384091377009:0=0:=Z
def tw4108277567611267166:0=0:=Z
def tw776183177616063111:0=0:=Z
def tw7290116713004588061:0=0:=Z
def tw2070260146974552497:0=0:=Z
def tw10737087292443853676:0=0:=Z
def tw2914105826458849558:0=0:=Z
def tw4672565238073000126:0=0:=Z
def tw17726453577761182667:0=0:=Z
def tw8416951459364079326:0=0:=Z
def tw13244249222286462068:0=0:=Z
def tw535945893314961264:0=0:=Z
def tw12211500501084181752:0=0:=Z
def tw10657908159500807135:0=0:=Z
def tw1541923247821950067:0=0:=Z
def tw1909064176828223842:0=0:=Z
def tw16610515760697589925:0=0:=Z
def tw5711332383915596877:0=0:=Z
def tw3124313911858558179:0=0:=Z
def tw6597881034658314077:0=0:=Z
def tw931444169146820658:0=0:=Z
def tw4050607075025332532:0=0:=Z
def tw1356723175662862479:0=0:=Z
def tw3038745961481855830:0=0:=Z
def tw3076100942129167946:0=0:=Z
def tw2688130848039220261:0=0:=Z
def tw15824526581866127454:0=0:=Z
def tw17872797899374173593:0=0:=Z
def tw8897118395517304260:0=0:=Z
def tw14295215153023326620:0=0:=Z
def tw7657195534568109341:0=0:=Z
def tw12107513186222271195:0=0:=Z
def tw2966901266735767837:0=0:=Z
def tw3373123379557758912:0=0:=Z
def tw10086096907910778087:0=0:=Z
def tw1326135325434321125:0=0:=Z
def tw9918407028676473541:0=0:=Z
def tw8614077702977202289:0=0:=Z
def tw1319281458410769963:0=0:=Z
def tw941048553286728735:0=0:=Z
def tw14282172462748186347:0=0:=Z
def tw8388143834551475541:0=0:=Z
def tw1361838592293007785:0=0:=Z
def tw16522349287138970801:0=0:=Z
def tw13102211778764864161:0=0:=Z
def tw2058381895564052939:0=0:=Z
def tw3885481152809060243:0=0:=Z
def tw15232782601948255435:0=0:=Z
def tw5801687494389228145:0=0:=Z
def tw5271117318725709998:0=0:=Z
def tw1093931636454765967:0=0:=Z
def tw14291444518883641806:0=0:=Z
def tw2150638689840192961:0=0:=Z
def tw1526763943666018279:0=0:=Z
def tw4335941647003480256:0=0:=Z
def tw12983983016669294815:0=0:=Z
def tw10949856009367352002:0=0:=Z
def tw16313070682163580372:0=0:=Z
def tw13884194992743341062:0=0:=Z
def tw10819054044716468474:0=0:=Z
def tw14972992333558321494:0=0:=Z
def tw12696415463203825933:0=0:=Z
def tw6111874934067836151:0=0:=Z
def tw11820907287704121991:0=0:=Z
def tw12579004952645379479:0=0:=Z
def tw12958029096365121219:0=0:=Z
def tw3203489634019605877:0=0:=Z
def tw12699353978857597711:0=0:=Z
def tw5925408659579591715:0=0:=Z
def tw11039713149431084076:0=0:=Z
def tw7035698854811194222:0=0:=Z
def tw2507536156770007192:0=0:=Z
def tw16741238822970789008:0=0:=Z
def tw6108718890275509602:0=0:=Z
def tw1526115337294017171:0=0:=Z
def tw13145430915074388642:0=0:=Z
def tw17205477154634960617:0=0:=Z
def tw16991323869202737098:0=0:=Z
def tw4558225404656761995:0=0:=Z
def tw14818674504755780032:0=0:=Z
def tw12108511077874458042:0=0:=Z
def tw13394351062174576418:0=0:=Z
def tw15635684761561327357:0=0:=Z
def tw17856416891999512371:0=0:=Z
def tw4178529497720876057:0=0:=Z
def tw3516972021659368662:0=0:=Z
def tw4673182534625259432:0=0:=Z
def tw6135444208358723538:0=0:=Z
def tw1139493464533718882:0=0:=Z
def tw11453185568419096686:0=0:=Z
def tw831043115071998571:0=0:=Z
def tw17532892154541980764:0=0:=Z
def tw2705293559953828264:0=0:=Z
def tw16577791983493670999:0=0:=Z
def tw17680735996700079040:0=0:=Z
def tw9244926307197730557:0=0:=Z
def tw14419963372586458208:0=0:=Z
def tw9297855578629038652:0=0:=Z
def tw8551953961544797287:0=0:=Z
def tw5562086579067944200:0=0:=Z
def tw4925481325888051548:0=0:=Z
def tw15111634123694212641:0=0:=Z
def tw5271088200960400368:0=0:=Z
def tw17491411624420789571:0=0:=Z
def tw14757148946621886406:0=0:=Z
def tw16006499456867863323:0=0:=Z
def tw14912973770320356070:0=0:=Z
def tw2725372704611550038:0=0:=Z
def tw17600497642000663771:0=0:=Z
def tw12506616376947023659:0=0:=Z
def tw7285309897561690385:0=0:=Z
def tw618840716200815146:0=0:=Z
def tw9772023990824113954:0=0:=Z
def tw16443708373400263487:0=0:=Z
def tw13556360875477650285:0=0:=Z
def tw9179212728792622275:0=0:=Z
def tw1619874494088548109:0=0:=Z
def tw10778009016341313435:0=0:=Z
def tw4174053444707546688:0=0:=Z
def tw3724775534963906753:0=0:=Z
def tw2073931789827689103:0=0:=Z
def tw908866111743909769:0=0:=Z
def tw13839306292975335719:0=0:=Z
def tw4506759979496297235:0=0:=Z
def tw7450178815026906879:0=0:=Z
def tw14434228358302673611:0=0:=Z
def tw16836425670791769851:0=0:=Z
def tw3729053667665585429:0=0:=Z
def tw5427360565382318807:0=0:=Z
def tw2638430096016219842:0=0:=Z
def tw9111046575703387970:0=0:=Z
def tw7612141596623860393:0=0:=Z
def tw16157600432367296504:0=0:=Z
def tw6675685836149543059:0=0:=Z
def tw9850873954723264856:0=0:=Z
def tw8317892659018264061:0=0:=Z
def tw3856965895869672963:0=0:=Z
def tw3694961802218528713:0=0:=Z
def tw10807738932529007452:0=0:=Z
def tw2843009288546306726:0=0:=Z
def tw13738837412957238001:0=0:=Z
def tw15276209499677079770:0=0:=Z
def tw5021591595366796386:0=0:=Z
def tw2920738100586364971:0=0:=Z
def tw17016391960326937420:0=0:=Z
def tw644542019307362892:0=0:=Z
def tw1172743862562165794:0=0:=Z
def tw17209841419868817554:0=0:=Z
def tw4917501555006492599:0=0:=Z
def tw2325311564436041351:0=0:=Z
def tw9726182100323620306:0=0:=Z
def tw5647341129771635139:0=0:=Z
def tw16673419737656444185:0=0:=Z
def tw6496379710536873581:0=0:=Z
def tw4715375737021090014:0=0:=Z
def tw8326637484113574634:0=0:=Z
def tw13871858416922735972:0=0:=Z
def tw1177932847970553519:0=0:=Z
def tw12463686132864284170:0=0:=Z
def tw7164977788921288004:0=0:=Z
def tw11802599662101697878:0=0:=Z
def tw2893297443287326724:0=0:=Z
def tw6611159053395002934:0=0:=Z
def tw5381775180617880666:0=0:=Z
def tw11298390556523497838:0=0:=Z
def tw12437783980530916313:0=0:=Z
def tw253225062337543812:0=0:=Z
def tw17261962234276385906:0=0:=Z
def tw4292606015373291476:0=0:=Z
def tw17457443876594470235:0=0:=Z
def tw5506603976465128689:0=0:=Z
def tw6498951751106078790:0=0:=Z
def tw13785621976719085747:0=0:=Z
def tw17895501698256369113:0=0:=Z
def tw6581143633418888175:0=0:=Z
def tw6737506435085665268:0=0:=Z
def tw944880853655758184:0=0:=Z
def tw10329607427085920002:0=0:=Z
def tw2231681520357450321:0=0:=Z
def tw10724000962577732466:0=0:=Z
def tw5836578658876919845:0=0:=Z
def tw11429551860878890540:0=0:=Z
def tw16984947671581478388:0=0:=Z
def tw11718823680401414827:0=0:=Z
def tw6164615379578829624:0=0:=Z
def tw1846216923365371979:0=0:=Z
def tw14427615654115057585:0=0:=Z
def tw3728317819971035026:0=0:=Z
def tw3466247385792265059:0=0:=Z
def tw9673993839523008931:0=0:=Z
def tw865101531069514511:0=0:=Z
def tw14110995600230478041:0=0:=Z
def tw6834637495849726486:0=0:=Z
def tw12910847568974888412:0=0:=Z
def tw12020399990698648832:0=0:=Z
def tw13497995181213273613:0=0:=Z
def tw284665523285901756:0=0:=Z
def tw16399387844154571169:0=0:=Z
def tw15627158382759707581:0=0:=Z
def tw16801228036705752612:0=0:=Z
def tw4459129597704132823:0=0:=Z
def tw4667390325551799886:0=0:=Z
def tw3308298901145744288:0=0:=Z
def tw8276240123007571983:0=0:=Z
def tw10771865719109846583:0=0:=Z
def tw16003097298736910774:0=0:=Z
def tw465575554432955228:0=0:=Z
def tw2253263187743827761:0=0:=Z
def tw10818025289331185420:0=0:=Z
def tw17206700879244323059:0=0:=Z
def tw7186272571054413266:0=0:=Z
def tw1838261198773015145:0=0:=Z
def tw2536119717556303415:0=0:=Z
def tw9723235082758449897:0=0:=Z
def tw389521255467341717:0=0:=Z
def tw2278308453010226467:0=0:=Z
def tw10001123477663133381:0=0:=Z
def tw7089463611107292475:0=0:=Z
def tw6909226452714878221:0=0:=Z
def tw16623517969166590294:0=0:=Z
def tw18252061433787213934:0=0:=Z
def tw413304531005071108:0=0:=Z
def tw11781086277274385159:0=0:=Z
def tw12854687755161919282:0=0:=Z
def tw2359874294545863291:0=0:=Z
def tw13352531806341788738:0=0:=Z
def tw10112831917500515444:0=0:=Z
def tw9204837935950736141:0=0:=Z
def tw8929961275297820370:0=0:=Z
def tw8771341605698559054:0=0:=Z
def tw10013420148652038978:0=0:=Z
def tw17658755170921389733:0=0:=Z
def tw5047928226201774180:0=0:=Z
def tw3353171361202687945:0=0:=Z
def tw17873331122746843347:0=0:=Z
def tw15011169849405653820:0=0:=Z
def tw12224979134325847479:0=0:=Z
def tw4776647489374024985:0=0:=Z
def tw12082874717693802959:0=0:=Z
def tw14680665684881959589:0=0:=Z
def tw2664636083633250238:0=0:=Z
def tw175977005929823676:0=0:=Z
def tw18375235164350761341:0=0:=Z
def tw15832306826584857489:0=0:=Z
def tw3419621430201394139:0=0:=Z
def tw17966664283570393713:0=0:=Z
def tw8975165909768710018:0=0:=Z
def tw9533202300229064481:0=0:=Z
def tw8052880331297564043:0=0:=Z
def tw15548389920957374245:0=0:=Z
def tw15095692053749249652:0=0:=Z
def tw2272557349555109292:0=0:=Z
def tw5866541862599697475:0=0:=Z
def tw2853992221248103066:0=0:=Z
def tw6691649347077120701:0=0:=Z
def tw15027796594961810244:0=0:=Z
def tw11614590126883636609:0=0:=Z
def tw1702463790278592457:0=0:=Z
def tw3919366604843455108:0=0:=Z
def tw8096844541714518263:0=0:=Z
def tw14993452982225913594:0=0:=Z
def tw4489832895639919327:0=0:=Z
def tw12966185530197509944:0=0:=Z
def tw5931298533016529602:0=0:=Z
def tw4732370947655541737:0=0:=Z
def tw13066655707874869284:0=0:=Z
def tw17889043087681162868:0=0:=Z
def tw16246768935022971888:0=0:=Z
def tw6691252888451045669:0=0:=Z
def tw8433705646609151958:0=0:=Z
def tw17447035336033807837:0=0:=Z
def tw228916770742033204:0=0:=Z
def tw12749844032398442124:0=0:=Z
def tw8934891825657316189:0=0:=Z
def tw69646562328923954:0=0:=Z
end PySem.W.Fast
open PySem PySem.W PyProof.Rows
set_option maxRecDepth 100000 in
set_option maxHeartbeats 0 in
theorem PySem.Challenge.cw_swapstride_k28_whole_one_fault_each_holds : PySem.Challenge.rw_swapstride_k28_whole_one_fault_each.Holds := by
 w_on;o_law;k_head;(case hw=>w_witness2)
 k_fill
 refine L2.walk_of (l:=PySem.Challenge.rw_swapstride_k28_whole_one_fault_each) (n:=63) (k:=100) (x:="_law_script") (CX:=λ_=>L2.CX0) (sp:=λ_=>K28.spLaw _) rfl (by decide) rfl ⟨rfl,by decide,by decide⟩ (λw h Y=>PySem.W.kIn_of Y) ?F (λ_ _ a ns hl _ hS=>⟨a,ns,rfl,hS,hl,λ_=>rfl⟩) λ_ _ _ _ _ z=>z
 case F=>
  intro w mg fa h KX G hmg
  have jA:L2.DefTx (L2.KOf KX) mg "look_kinds" K28.s_look_kinds ["kinds"]:=by
   walk_at"d"
  have jB:L2.DefTx (L2.KOf KX) mg "look_names" K28.s_look_names L2.qae:=by
   walk_at"d"
  have jC:L2.DefTx (L2.KOf KX) mg "need_once" K28.s_need_once L2.qah:=by
   walk_at"d"
  have jD:L2.DefTx (L2.KOf KX) mg "looked_size" K28.s_looked_size L2.qae:=by
   walk_at"d"
  have jE:L2.DefTx (L2.KOf KX) mg "size_by" K28.s_size_by L2.qae:=by
   walk_at"d"
  have jF:L2.DefTx (L2.KOf KX) mg "sort_of" K28.s_sort_of L2.qac:=by
   walk_at"d"
  have jG:L2.DefTx (L2.KOf KX) mg "parts_of" K28.s_parts_of L2.qac:=by
   walk_at"d"
  have jH:L2.DefTx (L2.KOf KX) mg "need_there" K28.s_need_there L2.qad:=by
   walk_at"d"
  have jI:L2.DefTx (L2.KOf KX) mg "ways_of" K28.s_ways_of ["rows"]:=by
   walk_at"d"
  have jJ:L2.DefTx (L2.KOf KX) mg "row_ways" K28.s_row_ways ["row","k"]:=by
   walk_at"d"
  have jK:L2.DefTx (L2.KOf KX) mg "hand_of" K28.s_hand_of L2.qao:=by
   walk_at"d"
  have jL:L2.DefTx (L2.KOf KX) mg "channel_of" K28.s_channel_of L2.qap:=by
   walk_at"d"
  have jM:L2.DefTx (L2.KOf KX) mg "named" K28.s_named L2.qaq:=by
   walk_at"d"
  have jN:L2.DefTx (L2.KOf KX) mg "kind_of" K28.s_kind_of L2.qaa:=by
   walk_at"d"
  have jO:L2.DefTx (L2.KOf KX) mg "num_kind" K28.s_num_kind ["n"]:=by
   walk_at"d"
  have jP:L2.DefTx (L2.KOf KX) mg "box_kind" K28.s_box_kind L2.qal:=by
   walk_at"d"
  have jQ:L2.DefTx (L2.KOf KX) mg "op_kind" K28.s_op_kind L2.qaa:=by
   walk_at"d"
  have jR:L2.DefTx (L2.KOf KX) mg "rec_kind" K28.s_rec_kind L2.qaa:=by
   walk_at"d"
  have jS:L2.DefTx (L2.KOf KX) mg "get_kind" K28.s_get_kind L2.qaa:=by
   walk_at"d"
  have jT:L2.DefTx (L2.KOf KX) mg "tag_kind" K28.s_tag_kind L2.qaa:=by
   walk_at"d"
  have jU:L2.DefTx (L2.KOf KX) mg "case_kind" K28.s_case_kind L2.qaa:=by
   walk_at"d"
  have jV:L2.DefTx (L2.KOf KX) mg "arm_kind" K28.s_arm_kind L2.qaz:=by
   walk_at"d"
  have jW:L2.DefTx (L2.KOf KX) mg "if_kind" K28.s_if_kind L2.qaa:=by
   walk_at"d"
  have jX:L2.DefTx (L2.KOf KX) mg "need_kind" K28.s_need_kind L2.qag:=by
   walk_at"d"
  have jY:L2.DefTx (L2.KOf KX) mg "need_same" K28.s_need_same L2.qai:=by
   walk_at"d"
  have jZ:L2.DefTx (L2.KOf KX) mg "need_sort" K28.s_need_sort L2.qar:=by
   walk_at"d"
  have j7:L2.DefTx (L2.KOf KX) mg "kind_of_sort" K28.s_kind_of_sort L2.qas:=by
   walk_at"d"
  have j8:L2.DefTx (L2.KOf KX) mg "part_kind" K28.s_part_kind L2.qaj:=by
   walk_at"d"
  have j9:L2.DefTx (L2.KOf KX) mg "need_tags" K28.s_need_tags L2.qa0:=by
   walk_at"d"
  have kA:L2.DefTx (L2.KOf KX) mg "with_box" K28.s_with_box L2.qa1:=by
   walk_at"d"
  have kB:L2.DefTx (L2.KOf KX) mg "nought_term" K28.s_nought_term L2.qad:=by
   walk_at"d"
  have kC:L2.DefTx (L2.KOf KX) mg "look" K28.s_look ["make"]:=by
   walk_at"d"
  have kD:L2.DefTx (L2.KOf KX) mg "look_channel" K28.s_look_channel L2.qa2:=by
   walk_at"d"
  have kE:L2.DefTx (L2.KOf KX) mg "look_hand" K28.s_look_hand L2.qa3:=by
   walk_at"d"
  have kF:L2.DefTx (L2.KOf KX) mg "look_row" K28.s_look_row L2.qa4:=by
   walk_at"d"
  have kG:L2.DefTx (L2.KOf KX) mg "own_kind" K28.s_own_kind L2.qa5:=by
   walk_at"d"
  have kH:L2.DefTx (L2.KOf KX) mg "look_falls" K28.s_look_falls ["h","rows"]:=by
   walk_at"d"
  have kI:L2.DefTx (L2.KOf KX) mg "_law_feed" K28.sl_feed L2.qam:=by
   walk_at"d"
  have kJ:L2.DefTx (L2.KOf KX) mg "_law_take" K28.sl_take L2.qab:=by
   walk_at"d"
  have kK:L2.DefTx (L2.KOf KX) mg "_law_names" K28.sl_names L2.qa6:=by
   walk_at"d"
  have kL:L2.DefTx (L2.KOf KX) mg "_law_number" K28.sl_number L2.qat:=by
   walk_at"d"
  have kM:L2.DefTx (L2.KOf KX) mg "_law_sort_of" K28.sl_sort_of L2.qaf:=by
   walk_at"d"
  have kN:L2.DefTx (L2.KOf KX) mg "_law_size" K28.sl_size L2.qaf:=by
   walk_at"d"
  have kO:L2.DefTx (L2.KOf KX) mg "_law_parts" K28.sl_parts L2.qau:=by
   walk_at"d"
  have kP:L2.DefTx (L2.KOf KX) mg "_law_kinds" K28.sl_kinds L2.qa7:=by
   walk_at"d"
  have kQ:L2.DefTx (L2.KOf KX) mg "_law_new_term" K28.sl_new_term L2.qan:=by
   walk_at"d"
  have kR:L2.DefTx (L2.KOf KX) mg "_law_any_kind" K28.sl_any_kind L2.qak:=by
   walk_at"d"
  have kS:L2.DefTx (L2.KOf KX) mg "_law_channels" K28.sl_channels L2.qa8:=by
   walk_at"d"
  have kT:L2.DefTx (L2.KOf KX) mg "_law_boxes" K28.sl_boxes L2.qa9:=by
   walk_at"d"
  have kU:L2.DefTx (L2.KOf KX) mg "_law_deal" K28.sl_deal L2.qav:=by
   walk_at"d"
  have kW:L2.DefTx (L2.KOf KX) mg "_law_rows" K28.sl_rows L2.qaw:=by
   walk_at"d"
  have kX:L2.DefTx (L2.KOf KX) mg "_law_make" K28.sl_make L2.qax:=by
   walk_at"d"
  have kY:L2.DefTx (L2.KOf KX) mg "_law_hands" K28.sl_hands L2.qay:=by
   walk_at"d"
  have kZ:L2.DefTx (L2.KOf KX) mg "_law_bad_kinds" K28.sl_bad_kinds L2.qba:=by
   walk_at"d"
  have k8:L2.DefTx (L2.KOf KX) mg "_law_bad_channels" K28.sl_bad_channels L2.qbb:=by
   walk_at"d"
  have k9:L2.DefTx (L2.KOf KX) mg "_law_bad_names" K28.sl_bad_names L2.qbc:=by
   walk_at"d"
  have uA:L2.DefTx (L2.KOf KX) mg "_law_bad_boxes" K28.sl_bad_boxes L2.qbd:=by
   walk_at"d"
  have uB:L2.DefTx (L2.KOf KX) mg "_law_cases" K28.sl_cases L2.qbe:=by
   walk_at"d"
  have uC:L2.DefTx (L2.KOf KX) mg "_law_wholes" K28.sl_wholes L2.qbf:=by
   walk_at"d"
  have uD:L2.DefTx (L2.KOf KX) mg "_law_bad_rows" K28.sl_bad_rows L2.qbg:=by
   walk_at"d"
  have uE:L2.DefTx (L2.KOf KX) mg "_law_spoiled_hand" K28.sl_spoiled_hand L2.qbh:=by
   walk_at"d"
  have uF:L2.DefTx (L2.KOf KX) mg "_law_spoiled" K28.sl_spoiled L2.qbi:=by
   walk_at"d"
  have uG:L2.DefTx (L2.KOf KX) mg "_law_words_of" K28.sl_words_of ["_law_e"]:=by
   walk_at"d"
  have uH:L2.DefTx (L2.KOf KX) mg "_law_refused" K28.sl_refused L2.qbj:=by
   walk_at"d"
  have uI:L2.DefTx (L2.KOf KX) mg "law" K28.s_law ["_law_script"]:=by
   walk_at"d"
  have uJ:∃t,mg "GREATEST_SIZE"=some (.int 30 t):=by
   refine' L2.gint_mk KX G ?a
   (case a=>k_is)
  have uK:∃t,mg "WIDE"=some (.int 4294967296 t):=by
   refine' L2.gint_mk KX G ?a
   (case a=>k_is)
  have uL:∃t,mg "FROM"=some (.int 1 t):=by
   refine' L2.gint_mk KX G ?a
   (case a=>k_is)
  have uM:∃t,mg "TO"=some (.int 2 t):=by
   refine' L2.gint_mk KX G ?a
   (case a=>k_is)
  have uN:mg "ValueError"=none:=by
   refine' PySem.W.mg_none_of KX G ?a
   (case a=>k_is)
  have uO:mg "dict"=none:=by
   refine' PySem.W.mg_none_of KX G ?a
   (case a=>k_is)
  have uP:mg "enumerate"=none:=by
   refine' PySem.W.mg_none_of KX G ?a
   (case a=>k_is)
  have uQ:mg "int"=none:=by
   refine' PySem.W.mg_none_of KX G ?a
   (case a=>k_is)
  have uR:mg "isinstance"=none:=by
   refine' PySem.W.mg_none_of KX G ?a
   (case a=>k_is)
  have uS:mg "len"=none:=by
   refine' PySem.W.mg_none_of KX G ?a
   (case a=>k_is)
  have uT:mg "list"=none:=by
   refine' PySem.W.mg_none_of KX G ?a
   (case a=>k_is)
  have uU:mg "max"=none:=by
   refine' PySem.W.mg_none_of KX G ?a
   (case a=>k_is)
  have uV:mg "min"=none:=by
   refine' PySem.W.mg_none_of KX G ?a
   (case a=>k_is)
  have uW:mg "range"=none:=by
   refine' PySem.W.mg_none_of KX G ?a
   (case a=>k_is)
  have uX:mg "repr"=none:=by
   refine' PySem.W.mg_none_of KX G ?a
   (case a=>k_is)
  have uY:mg "set"=none:=by
   refine' PySem.W.mg_none_of KX G ?a
   (case a=>k_is)
  have uZ:mg "sum"=none:=by
   refine' PySem.W.mg_none_of KX G ?a
   (case a=>k_is)
  have u6:mg "tuple"=none:=by
   refine' PySem.W.mg_none_of KX G ?a
   (case a=>k_is)
  have vA:mg "zip"=none:=by
   refine' PySem.W.mg_none_of KX G ?a
   (case a=>k_is)
  have vB:mg "BadText"=some (.ref (L2.cAt (L2.KOf KX) 0)):=by
   refine' PySem.W.mg_of KX G ?a
   (case a=>kernel_rfl)
  have vC:mg "Twice"=some (.ref (L2.cAt (L2.KOf KX) 1)):=by
   refine' PySem.W.mg_of KX G ?a
   (case a=>kernel_rfl)
  have vD:mg "NoName"=some (.ref (L2.cAt (L2.KOf KX) 2)):=by
   refine' PySem.W.mg_of KX G ?a
   (case a=>kernel_rfl)
  have vE:mg "NoCount"=some (.ref (L2.cAt (L2.KOf KX) 3)):=by
   refine' PySem.W.mg_of KX G ?a
   (case a=>kernel_rfl)
  have vF:mg "WrongKind"=some (.ref (L2.cAt (L2.KOf KX) 4)):=by
   refine' PySem.W.mg_of KX G ?a
   (case a=>kernel_rfl)
  have vG:mg "Lacks"=some (.ref (L2.cAt (L2.KOf KX) 5)):=by
   refine' PySem.W.mg_of KX G ?a
   (case a=>kernel_rfl)
  have vH:mg "NotOwn"=some (.ref (L2.cAt (L2.KOf KX) 6)):=by
   refine' PySem.W.mg_of KX G ?a
   (case a=>kernel_rfl)
  have vI:mg "Falls"=some (.ref (L2.cAt (L2.KOf KX) 7)):=by
   refine' PySem.W.mg_of KX G ?a
   (case a=>kernel_rfl)
  have vJ:mg "TooBig"=some (.ref (L2.cAt (L2.KOf KX) 8)):=by
   refine' PySem.W.mg_of KX G ?a
   (case a=>kernel_rfl)
  have vK:mg "NoFit"=some (.ref (L2.cAt (L2.KOf KX) 9)):=by
   refine' PySem.W.mg_of KX G ?a
   (case a=>kernel_rfl)
  have vL:mg "SwapError"=some (.ref (L2.ad (L2.KOf KX) "SwapError")):=by
   refine' PySem.W.mg_of KX G ?a
   (case a=>kernel_rfl)
  have xt2:L2.XTab2D (L2.KOf KX):=by
   refine' L2.xtab2D_of ?a
   (case a=>kernel_rfl)
  have xt:L2.XTabD (L2.KOf KX):=by
   refine' L2.xtabD_of ?a
   (case a=>kernel_rfl)
  have it:L2.InitTx (L2.KOf KX) "BadText.__init__" (L2.ad (L2.KOf KX) "BadText") K28.s_init ["self","at"]:=by
   dsimp only[L2.KOf];refine' L2.init_mk ?a ?i ?n ?l ?c ?k ?b
   (case a=>k_is);(case i=>k_is);(case n=>k_is);(case l=>k_is);(case c=>k_is);(case k=>k_is)
   (case b=>exact λ_ _ _ _ _ _ us hl=>match us,hl with |[_,_],_=>rfl)
  have T:K28.Tx (L2.KOf KX) mg:=⟨jA,jB,jC,jD,jE,jF,jG,jH,jI,jJ,jK,jL,jM,jN,jO,jP,jQ,jR,jS,jT,jU,jV,jW,jX,jY,jZ,j7,j8,j9,kA,kB,kC,kD,kE,kF,kG,kH,kI,kJ,kK,kL,kM,kN,kO,kP,kQ,kR,kS,kT,kU,kW,kX,kY,kZ,k8,k9,uA,uB,uC,uD,uE,uF,uG,uH,uI,uJ,uK,uL,uM,uN,uO,uP,uQ,uR,uS,uT,uU,uV,uW,uX,uY,uZ,u6,vA,vB,vC,vD,vE,vF,vG,vH,vI,vJ,vK,vL,xt2,xt,it⟩;exact L2.law_top uI hmg λbase=>K28.law_is T
