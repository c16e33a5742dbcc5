import PyProof.Rows.All
import Wide.All
import OpenK.AllK
import Wide.FinOn
import Lean
import PyProof.EqAt
import PyProof.EqKinds
import PyProof.TupleCall
import PyProof.ZipIter
import PyProof.ListNew
import PyProof.TupleIter
import PyProof.WalksMore
import KE.KIntText
import PyProof.Rows.EqBoolInt
import PyProof.Rows.ZipGen
import PyProof.ExcInit
import PyProof.InstStoreFacts
import PyProof.ExcArgsOwn
import PyProof.ExcAttrAll.ValueError
import PyProof.ExcBaseAll.ValueError
import PyProof.EnumMake
import PyProof.Rows.EnumRows
import PySem.Str
import PyProof.StrLawsTight
import PyProof.StrLawsIdx
import PyProof.StrLawsIn
import PyProof.StationsW
import PyProof.RulesAs
import PyProof.NsDelKeeps
import PyProof.AutoSeq1
import PyProof.Rows.SetFrom
import KE.KDictSum
import PyProof.Rows.SortWalk
import PyProof.NeKinds
import KE.KDictList
import KE.KRevIter
import PyProof.ConsumeWalk
import PyProof.AttrMissHeap
import KE.KItemsList
import KE.KEqDict
import KE.KSortTup
import PyProof.Rows.SortStr
import PyProof.DictWalks
import KE.KPairComp
import PySem.Challenge.RW_swapstride_k84_whole_told_ways_written_a
set_option Elab.async false
set_option linter.all false
set_option maxRecDepth 100000
set_option maxHeartbeats 4000000
noncomputable section
open PySem
def zD:=@PySem.F.plainAttrs_list
def zE:=@PySem.boot_len
def zF:=@PassesOwn.never
def zG:=@PySem.F.type_list_append
def zH:=@PySem.F.slot_list_append
def zJ:=@List.mem_append_right
def zK:=@PyProof.Rows.boot_tuple
def zL:=@PyProof.Rows.boot_dict
def zM:=@PyProof.Rows.boot_list
def zN:=@PySem.mem_of_lookup
def zO:=@Int.emod_lt_of_pos
def zR:=@List.mem_append_left
def zT:=@Nat.lt_of_le_of_lt
def zX:=@wpAny_bind
def zY:=@Nat.le_trans
def zZ:=@Nat.le_refl
def z6:=@of_decide_eq_true
def z7:=@wpAny_pure
def z8:=@Heap.lt_size
def z9:=@Heap.get?_push_size
def qA:=@Bool.false_ne_true
def qB:=@Option.some.inj
def qE:=@Nat.ne_of_lt
def qF:=@Nat.lt_of_lt_of_le
def qG:=@List.mem_cons_of_mem
def qH:=@List.mem_map_of_mem
def qJ:=@Nat.lt_irrefl
def qM:=@Nat.le_succ
def qN:=@wpAny_field
def qO:=@wpAny_holding
def qR:=@Nat.zero_le
def qW:=@wpAny_typeOf
def qY:=@wpAny_setField
end
abbrev Fg:=PySem.W.Frag
local macro_rules|`(tactic|omega)=>`(tactic|lia)
local macro_rules | `(tactic| walk_at"o")=>`(tactic| first |exact Or.inl rfl |exact Or.inr rfl)
local macro_rules | `(tactic| walk_at"q")=>`(tactic| exact⟨rfl,rfl,rfl,by decide +kernel,rfl,by decide +kernel,by decide +kernel⟩)
local macro_rules | `(tactic| walk_at"k")=>`(tactic| decide +kernel)
local macro_rules | `(tactic| walk_at"c")=>`(tactic| ((case a=>k_is);(case l=>k_is);(case c=>k_is);(case k=>k_is)))
set_option hygiene false in
local macro_rules | `(tactic| walk_at"d")=>`(tactic| (dsimp only[L2.KOf];refine' L2.deftx_mk KX G ?a ?l ?c ?k ?b;(case a=>k_is);(case l=>k_is);(case c=>k_is);(case k=>k_is);(case b=>(intro _ _ _ _ _ _ us hl;first |(obtain⟨_,rfl⟩:=L2.ln1 hl;rfl) |(obtain⟨_,_,rfl⟩:=L2.ln2 hl;rfl) |(obtain⟨_,_,_,rfl⟩:=L2.ln3 hl;rfl) |(obtain⟨_,_,_,_,rfl⟩:=L2.ln4 hl;rfl) |(obtain⟨_,_,_,_,_,rfl⟩:=L2.ln5 hl;rfl) |(obtain⟨_,_,_,_,_,_,rfl⟩:=L2.ln6 hl;rfl) |(obtain⟨_,_,_,_,_,_,_,rfl⟩:=L2.ln7 hl;rfl)))))
set_option hygiene false in
local macro_rules | `(tactic| walk_at"i")=>`(tactic| first |intro f cdv A outer s H vs Q E hr h |intro vs H Q E h)
local macro_rules | `(tactic| walk_at"s")=>`(tactic| first |(show 2 ≤ PySem.sizeLine;decide) |(show 3 ≤ PySem.sizeLine;decide) |(show 1 ≤ PySem.sizeLine;decide) |(show 0 ≤ PySem.sizeLine;decide) |(show 4 ≤ PySem.sizeLine;decide) |(show 5 ≤ PySem.sizeLine;decide) |(show 6 ≤ PySem.sizeLine;decide) |(show 8 ≤ PySem.sizeLine;decide))
theorem bV{α:Type _}{l:List α}{i:Nat}(h:i<l.length):l[i]?=some l[i]:=List.getElem?_eq_getElem h
def fL{α β:Type _}{f:α→β}{x:Option α}{b:β}(h:x.map f=some b):∃a,x=some a∧f a=b:=Option.map_eq_some_iff.mp h
theorem aR{α β:Type _}{as:List α}(f:α→β):(as.map f).length=as.length:=List.length_map f
theorem dA{α β:Type _}{f:α→β}{l:List α}{i:Nat}:(l.map f)[i]?=l[i]?.map f:=List.getElem?_map
def dC{α:Type _}{l:List α}{i:Nat}{a:α}(h:l[i]?=some a):∃h:i<l.length,l[i]=a:=List.getElem?_eq_some_iff.mp h
theorem cZ{α:Type _}{l:List α}{i:Nat}{a:α}(e:l[i]?=some a):a∈l:=List.mem_of_getElem? e
theorem dR{α:Type _}{i:Nat}{l:List α}(h:l.length ≤ i):l.take i=l:=List.take_of_length_le h
def eA{α:Type _}{a:α}{s t:List α}(h:a∈s++t):a∈s∨a∈t:=List.mem_append.mp h
theorem eG{α:Type _}{a b:α}(h:a∈[b]):a=b:=List.mem_singleton.mp h
theorem cM{p:Prop}[Decidable p](h:p):decide p=true:=decide_eq_true h
theorem eI{p:Prop}[Decidable p](h:¬p):decide p=false:=decide_eq_false h
local macro_rules | `(tactic| walk_at"l")=>`(tactic| (intro vs H Q E h;(repeat (rcases h with⟨_,h⟩)) <;> (subst_vars;rfl)))
local macro_rules | `(tactic| walk_at"rd1")=>`(tactic| first
 |refine⟨_,rfl,?_⟩
 |refine⟨_,_,rfl,rfl,?_⟩
 |refine⟨_,_,_,_,rfl,rfl,(by assumption),(by first |rfl |assumption),?_⟩
 |refine⟨_,_,rfl,.inl (by assumption),?_⟩
 |refine⟨_,_,rfl,.inr (by assumption),?_⟩
 |refine⟨rfl,?_⟩
 |refine M.iteKF (by walk_at"k") ?_
 |refine M.iteKT (by walk_at"k") ?_)
local macro_rules | `(tactic| walk_at"rd")=>`(tactic| repeat walk_at"rd1")
local macro_rules | `(tactic| walk_at"rd1")=>`(tactic| first
 |refine⟨_,rfl,?_⟩
 |refine⟨_,_,rfl,rfl,?_⟩
 |refine⟨_,_,_,_,rfl,rfl,(by assumption),(by first |rfl |assumption),?_⟩
 |refine⟨_,_,rfl,.inl (by assumption),?_⟩
 |refine⟨_,_,rfl,.inr (by assumption),?_⟩
 |refine⟨_,_,_,_,_,rfl,(λu hu'=>hu'),(by assumption),rfl,?_⟩
 |refine⟨_,_,rfl,.inr (by assumption),rfl,(by walk_at"k"),?_⟩
 |refine⟨rfl,?_⟩
 |refine M.iteKF (by walk_at"k") ?_
 |refine M.iteKT (by walk_at"k") ?_
 |refine L2.iteT ?_
 |refine L2.iteF ?_
 |refine M.iteBF (by assumption) ?_
 |refine M.iteBT (by assumption) ?_)
local macro_rules | `(tactic| walk_at"rd1")=>`(tactic| first
 |refine⟨_,rfl,?_⟩
 |refine⟨_,_,rfl,rfl,?_⟩
 |refine⟨_,_,_,_,rfl,rfl,(by assumption),(by first |rfl |assumption),?_⟩
 |refine⟨_,_,rfl,.inl (by assumption),?_⟩
 |refine⟨(by first |exact .inr ⟨by decide,by decide⟩ |exact .inl ⟨by decide,by decide⟩ |exact⟨by decide,by decide,by decide⟩ |exact⟨by decide,by decide⟩ |exact⟨by assumption,by assumption⟩ |(show(0:Int)<_;first |decide |assumption)),?_⟩
 |refine⟨rfl,?_⟩)
section
open PySem
theorem aT{h:Heap}{a:Addr}{u:Obj}(o:Obj)(e:h.get? a=some u):(h.push o).get? a=some u:=Heap.get?_push_of_some o e
theorem bK{α:Type _}{as bs:List α}:(as++bs).length=as.length+bs.length:=List.length_append
theorem fH{α:Type _}{l:List α}{i:Nat}:l.take (i+1)=l.take i++l[i]?.toList:=List.take_add_one
def cE{α:Type _}{a b:α}{l:List α}(h:a∈b::l):a=b∨a∈l:=List.mem_cons.mp h
def fX{α β:Type _}{b:β}{f:α→β}{l:List α}(h:b∈l.map f):∃a,a∈l∧f a=b:=List.mem_map.mp h
theorem dG{α β:Type _}{f:α→β}{as bs:List α}:(as++bs).map f=as.map f++bs.map f:=List.map_append
end
namespace L2
def ln1{α:Type}{l:List α}(h:l.length=1):∃a,l=[a]:=match l,h with |[a],_=>⟨a,rfl⟩
def ln2{α:Type}{l:List α}(h:l.length=2):∃a b,l=[a,b]:=match l,h with |[a,b],_=>⟨a,b,rfl⟩
def ln3{α:Type}{l:List α}(h:l.length=3):∃a b c,l=[a,b,c]:=match l,h with |[a,b,c],_=>⟨a,b,c,rfl⟩
def ln4{α:Type}{l:List α}(h:l.length=4):∃a b c d,l=[a,b,c,d]:=match l,h with |[a,b,c,d],_=>⟨a,b,c,d,rfl⟩
def ln5{α:Type}{l:List α}(h:l.length=5):∃a b c d e,l=[a,b,c,d,e]:=match l,h with |[a,b,c,d,e],_=>⟨a,b,c,d,e,rfl⟩
def ln6{α:Type}{l:List α}(h:l.length=6):∃a b c d e f,l=[a,b,c,d,e,f]:=match l,h with |[a,b,c,d,e,f],_=>⟨a,b,c,d,e,f,rfl⟩
def ln7{α:Type}{l:List α}(h:l.length=7):∃a b c d e f g,l=[a,b,c,d,e,f,g]:=match l,h with |[a,b,c,d,e,f,g],_=>⟨a,b,c,d,e,f,g,rfl⟩
end L2
section
theorem Z{α:Sort _}{a:α}:a=a:=rfl
def Xj{n:Nat}(h:Nat.ble n 8=true):n<=PySem.sizeLine:=zY (Nat.le_of_ble_eq_true h) (by decide)
def Xk{p:Prop}[Decidable p](h:decide p=true):p:=z6 h
end
section
def Xg{A:Prop}(h:∀G:Prop,(A->G)->G):A:=h A id
section
universe y1 y2 y3 y4 y5 y6
variable {a:Type y1}{b:Type y2}{c:Type y3}{d:Type y4}{e:Type y5}{f:Type y6}{u:a}{v:b}{w:c}{x:d}{y:e}{z:f}
variable {z0 z1 z2 z3:Type _}{Z0:z0}{Z1:z1}{Z2:z2}{Z3:z3}
variable {p0 q0 r0 s0 t0 P0 Q0 R0 S0 T0 i0 j0 I0 J0 F0:Prop}
variable {p1 q1 r1 s1 t1 P1 Q1 R1 S1 T1 i1 j1 I1 J1 F1:a->Prop}
variable {p2 q2 r2 s2 t2 P2 Q2 R2 S2 T2 i2 j2 I2 J2 F2:a->b->Prop}
variable {p3 q3 r3 s3 t3 P3 Q3 R3 S3 T3 i3 j3 I3 J3 F3:a->b->c->Prop}
variable {p4 q4 r4 s4 t4 P4 Q4 R4 S4 T4 i4 j4 I4 J4 F4:a->b->c->d->Prop}
variable {p5 q5 r5 s5 t5 P5 Q5 R5 S5 T5 i5 j5 I5 J5 F5:a->b->c->d->e->Prop}
variable {p6 q6 r6 s6 t6 P6 Q6 R6 S6 T6 i6 j6 I6 J6 F6:a->b->c->d->e->f->Prop}
def jAA(H0:p0)(H1:q0)(h:F0):p0/\q0/\F0:=⟨H0,H1,h⟩
theorem jAAA(H0:p0)(H1:q0)(H2:r0)(h:F0):p0/\q0/\r0/\F0:=⟨H0,H1,H2,h⟩
def fM(H0:p0)(H1:q0)(H2:r0)(H3:s0)(h:F0):p0/\q0/\r0/\s0/\F0:=⟨H0,H1,H2,H3,h⟩
def oI{D0:a->z0}(H0:p0)(H1:q0)(H2:r0)(h:F1 u):p0/\q0/\r0/\∃m,(D0 u=D0 m)/\F1 m:=⟨H0,H1,H2,u,rfl,h⟩
def jAEA(H0:p0)(u:a)(H1:p1 u)(h:F1 u):p0/\∃m,p1 m/\F1 m:=⟨H0,u,H1,h⟩
def eS(H0:p0)(h:F1 u):p0/\∃m,(some (some u)=some (some m))/\F1 m:=⟨H0,u,rfl,h⟩
def lF{D0:a->z0}(H0:p0)(h:F1 u):p0/\∃m,(D0 u=D0 m)/\F1 m:=⟨H0,u,rfl,h⟩
theorem bL(u:a)(H0:p1 u)(h:F1 u):∃m,p1 m/\F1 m:=⟨u,H0,h⟩
def bH(u:a)(H0:p1 u)(H1:q1 u)(h:F1 u):∃m,p1 m/\q1 m/\F1 m:=⟨u,H0,H1,h⟩
def mZ(u:a)(H0:p1 u)(H1:q1 u)(H2:r1 u)(H3:s1 u)(H4:t1 u)(h:F1 u):∃m,p1 m/\q1 m/\r1 m/\s1 m/\t1 m/\F1 m:=⟨u,H0,H1,H2,H3,H4,h⟩
def bG(u:a)(v:b)(h:F2 u v):∃m,∃n,F2 m n:=⟨u,v,h⟩
def cX(u:a)(v:b)(H0:p2 u v)(h:F2 u v):∃m,∃n,p2 m n/\F2 m n:=⟨u,v,H0,h⟩
def dW(u:a)(v:b)(H0:p2 u v)(H1:q2 u v)(H2:r2 u v)(h:F2 u v):∃m,∃n,p2 m n/\q2 m n/\r2 m n/\F2 m n:=⟨u,v,H0,H1,H2,h⟩
def lZ(u:a)(v:b)(w:c)(H0:p3 u v w)(H1:q3 u v w)(h:F3 u v w):∃m,∃n,∃o,p3 m n o/\q3 m n o/\F3 m n o:=⟨u,v,w,H0,H1,h⟩
def eW(u:a)(v:b)(w:c)(H0:p3 u v w)(H1:q3 u v w)(H2:r3 u v w)(H3:s3 u v w)(h:F3 u v w):∃m,∃n,∃o,p3 m n o/\q3 m n o/\r3 m n o/\s3 m n o/\F3 m n o:=⟨u,v,w,H0,H1,H2,H3,h⟩
def fQ(u:a)(v:b)(w:c)(x:d)(H0:p4 u v w x)(H1:q4 u v w x)(H2:r4 u v w x)(H3:s4 u v w x)(h:F4 u v w x):∃m,∃n,∃o,∃k,p4 m n o k/\q4 m n o k/\r4 m n o k/\s4 m n o k/\F4 m n o k:=⟨u,v,w,x,H0,H1,H2,H3,h⟩
def nK(u:a)(v:b)(H0:p2 u v)(H1:q2 u v)(H2:r2 u v)(H3:s2 u v)(H4:t2 u v)(h:F2 u v):∃m,∃n,(Z0=Z0)/\p2 m n/\q2 m n/\r2 m n/\s2 m n/\t2 m n/\F2 m n:=⟨u,v,rfl,H0,H1,H2,H3,H4,h⟩
def cO(u:a)(v:b)(h:F3 u v w):∃m,∃n,∃o,F3 m n o:=⟨u,v,w,h⟩
def rB(u:a)(H0:p1 u)(H1:q1 u)(H2:r1 u)(h:F1 u):∃m,(Z0=Z0)/\p1 m/\q1 m/\r1 m/\F1 m:=⟨u,rfl,H0,H1,H2,h⟩
def iM(u:a)(H0:p1 u)(H1:q1 u)(H2:r1 u)(H3:s1 u)(H4:t1 u)(h:F1 u):∃m,(Z0=Z0)/\p1 m/\q1 m/\r1 m/\s1 m/\t1 m/\F1 m:=⟨u,rfl,H0,H1,H2,H3,H4,h⟩
def oO(u:a)(H0:p1 u)(H1:q1 u)(H2:r1 u)(H3:s1 u)(H4:t1 u)(H5:P1 u)(h:F1 u):∃m,(Z0=Z0)/\p1 m/\q1 m/\r1 m/\s1 m/\t1 m/\P1 m/\F1 m:=⟨u,rfl,H0,H1,H2,H3,H4,H5,h⟩
def iB(u:a)(h:F3 u v w):∃m,∃n,∃o,F3 m n o:=⟨u,v,w,h⟩
theorem bB(H0:p0)(h:F0):(Z0=Z0)/\p0/\F0:=⟨rfl,H0,h⟩
def aV(H0:p0)(H1:q0)(h:F0):(Z0=Z0)/\p0/\q0/\F0:=⟨rfl,H0,H1,h⟩
theorem fN(H0:p0)(H1:q0)(H2:r0)(h:F0):(Z0=Z0)/\p0/\q0/\r0/\F0:=⟨rfl,H0,H1,H2,h⟩
def mE(H0:p0)(u:a)(H1:p1 u)(H2:q1 u)(h:F1 u):(Z0=Z0)/\p0/\(Z1=Z1)/\∃m,p1 m/\q1 m/\F1 m:=⟨rfl,H0,rfl,u,H1,H2,h⟩
def nL(H0:p0)(u:a)(v:b)(w:c)(H1:p3 u v w)(H2:q3 u v w)(H3:r3 u v w)(h:F3 u v w):(Z0=Z0)/\p0/\(Z1=Z1)/\∃m,∃n,∃o,p3 m n o/\q3 m n o/\r3 m n o/\F3 m n o:=⟨rfl,H0,rfl,u,v,w,H1,H2,H3,h⟩
theorem lN{D0:a->z0}{D1:b->z1}(H0:p0)(H1:p2 u v)(h:F2 u v):(Z0=Z0)/\(Z1=Z1)/\p0/\∃m,∃n,(D0 u=D0 m)/\(D1 v=D1 n)/\p2 m n/\F2 m n:=⟨rfl,rfl,H0,u,v,rfl,rfl,H1,h⟩
theorem dZ(h:F1 u):(Z0=Z0)/\∃m,F1 m:=⟨rfl,u,h⟩
def bA(H0:p1 u)(h:F1 u):∃m,p1 m/\F1 m:=⟨u,H0,h⟩
def lV(H0:p1 u)(H1:q1 u)(H2:r1 u)(h:F1 u):∃m,p1 m/\q1 m/\r1 m/\F1 m:=⟨u,H0,H1,H2,h⟩
def dY(v:b)(h:F2 u v):∃m,∃n,F2 m n:=⟨u,v,h⟩
theorem cT{D0:a->z0}(v:b)(H0:p2 u v)(h:F2 u v):∃m,∃n,(D0 u=D0 m)/\p2 m n/\F2 m n:=⟨u,v,rfl,H0,h⟩
def sS{D0:a->z0}(v:b)(H0:p3 u v w)(H1:q3 u v w)(H2:r3 u v w)(h:F3 u v w):∃m,∃n,∃o,(D0 u=D0 m)/\p3 m n o/\q3 m n o/\r3 m n o/\F3 m n o:=⟨u,v,w,rfl,H0,H1,H2,h⟩
def aE(h:F1 u):∃m,(some (some u)=some (some m))/\F1 m:=⟨u,rfl,h⟩
def cJ(H0:p1 u)(h:F1 u):∃m,(some (some u)=some (some m))/\p1 m/\F1 m:=⟨u,rfl,H0,h⟩
def bE(H0:p1 u)(H1:p2 u v)(h:F2 u v):∃m,(some (some u)=some (some m))/\p1 m/\∃n,p2 m n/\F2 m n:=⟨u,rfl,H0,v,H1,h⟩
def oA(v:b)(h:F2 u v):∃m,(some (some u)=some (some m))/\∃n,F2 m n:=⟨u,rfl,v,h⟩
def oJ(v:b)(H0:p2 u v)(H1:q2 u v)(h:F2 u v):∃m,(some (some u)=some (some m))/\∃n,p2 m n/\q2 m n/\F2 m n:=⟨u,rfl,v,H0,H1,h⟩
theorem eM(v:b)(w:c)(x:d)(h:F4 u v w x):∃m,(some (some u)=some (some m))/\∃n,∃o,∃k,F4 m n o k:=⟨u,rfl,v,w,x,h⟩
def gC(v:b)(w:c)(x:d)(H0:p4 u v w x)(H1:q4 u v w x)(H2:r4 u v w x)(h:F4 u v w x):∃m,(some (some u)=some (some m))/\∃n,∃o,∃k,p4 m n o k/\q4 m n o k/\r4 m n o k/\F4 m n o k:=⟨u,rfl,v,w,x,H0,H1,H2,h⟩
def dO(v:b)(w:c)(x:d)(y:e)(H0:p5 u v w x y)(H1:q5 u v w x y)(H2:r5 u v w x y)(H3:s5 u v w x y)(h:F5 u v w x y):∃m,(some (some u)=some (some m))/\∃n,∃o,∃k,∃l,p5 m n o k l/\q5 m n o k l/\r5 m n o k l/\s5 m n o k l/\F5 m n o k l:=⟨u,rfl,v,w,x,y,H0,H1,H2,H3,h⟩
theorem dB(v:b)(h:F3 u v w):∃m,(some (some u)=some (some m))/\∃n,∃o,F3 m n o:=⟨u,rfl,v,w,h⟩
def mI(v:b)(H0:p3 u v w)(H1:q3 u v w)(H2:r3 u v w)(H3:s3 u v w)(h:F3 u v w):∃m,(some (some u)=some (some m))/\∃n,∃o,p3 m n o/\q3 m n o/\r3 m n o/\s3 m n o/\F3 m n o:=⟨u,rfl,v,w,H0,H1,H2,H3,h⟩
def mW(h:F2 u v):∃m,(some (some u)=some (some m))/\∃n,F2 m n:=⟨u,rfl,v,h⟩
def dS(h:F2 u v):∃m,(some (some u)=some (some m))/\∃n,(some (some v)=some (some n))/\F2 m n:=⟨u,rfl,v,rfl,h⟩
def fS(w:c)(x:d)(h:F4 u v w x):∃m,(some (some u)=some (some m))/\∃n,(some (some v)=some (some n))/\∃o,∃k,F4 m n o k:=⟨u,rfl,v,rfl,w,x,h⟩
def nQ(w:c)(x:d)(y:e)(z:f)(h:F6 u v w x y z):∃m,(some (some u)=some (some m))/\∃n,(some (some v)=some (some n))/\∃o,∃k,∃l,∃g,F6 m n o k l g:=⟨u,rfl,v,rfl,w,x,y,z,h⟩
def nC{D0:b->z0}(h:F2 u v):∃m,(some (some u)=some (some m))/\∃n,(D0 v=D0 n)/\F2 m n:=⟨u,rfl,v,rfl,h⟩
def oU{D0:b->z0}{C0:c->a}(H0:p4 (C0 w) v w x)(h:F4 (C0 w) v w x):∃m,(some (some (C0 w))=some (some m))/\∃n,(D0 v=D0 n)/\∃o,∃k,(m=C0 o)/\p4 m n o k/\F4 m n o k:=⟨(C0 w),rfl,v,rfl,w,x,rfl,H0,h⟩
def lO{C0:b->a}(x:d)(H0:p6 (C0 v) v w x y z)(H1:q6 (C0 v) v w x y z)(H2:r6 (C0 v) v w x y z)(H3:s6 (C0 v) v w x y z)(h:F6 (C0 v) v w x y z):∃m,(some (some (C0 v))=some (some m))/\∃n,∃o,∃k,∃l,∃g,(m=C0 n)/\p6 m n o k l g/\q6 m n o k l g/\r6 m n o k l g/\s6 m n o k l g/\F6 m n o k l g:=⟨(C0 v),rfl,v,w,x,y,z,rfl,H0,H1,H2,H3,h⟩
def eE(h:F5 u v w x y):∃m,(some (some u)=some (some m))/\∃n,∃o,∃k,∃l,F5 m n o k l:=⟨u,rfl,v,w,x,y,h⟩
def eD{C0:b->a}(h:F5 (C0 v) v w x y):∃m,(some (some (C0 v))=some (some m))/\∃n,∃o,∃k,∃l,(m=C0 n)/\F5 m n o k l:=⟨(C0 v),rfl,v,w,x,y,rfl,h⟩
def bF{C0:b->a}{D0:d->z0}(H0:p5 (C0 v) v w x y)(H1:q5 (C0 v) v w x y)(h:F5 (C0 v) v w x y):∃m,(some (some (C0 v))=some (some m))/\∃n,∃o,∃k,∃l,(m=C0 n)/\(D0 x=D0 k)/\p5 m n o k l/\q5 m n o k l/\F5 m n o k l:=⟨(C0 v),rfl,v,w,x,y,rfl,rfl,H0,H1,h⟩
def mL{C0:b->a}{D0:d->z0}(H0:p5 (C0 v) v w x y)(H1:q5 (C0 v) v w x y)(H2:r5 (C0 v) v w x y)(h:F5 (C0 v) v w x y):∃m,(some (some (C0 v))=some (some m))/\∃n,∃o,∃k,∃l,(m=C0 n)/\(D0 x=D0 k)/\p5 m n o k l/\q5 m n o k l/\r5 m n o k l/\F5 m n o k l:=⟨(C0 v),rfl,v,w,x,y,rfl,rfl,H0,H1,H2,h⟩
def nN{C0:b->a}(H0:p2 (C0 v) v)(h:F2 (C0 v) v):∃m,(some (some (C0 v))=some (some m))/\∃n,(m=C0 n)/\p2 m n/\F2 m n:=⟨(C0 v),rfl,v,rfl,H0,h⟩
theorem aM{D0:a->z0}(h:F1 u):∃m,(D0 u=D0 m)/\F1 m:=⟨u,rfl,h⟩
def eB{D0:a->z0}(H0:p1 u)(h:F1 u):∃m,(D0 u=D0 m)/\p1 m/\F1 m:=⟨u,rfl,H0,h⟩
theorem bU(h:F2 u v):∃m,∃n,F2 m n:=⟨u,v,h⟩
def nO{D0:a->z0}{D1:b->z1}(w:c)(x:d)(H0:p4 u v w x)(H1:q4 u v w x)(H2:r4 u v w x)(h:F4 u v w x):∃m,∃n,∃o,∃k,(D0 u=D0 m)/\(D1 v=D1 n)/\p4 m n o k/\q4 m n o k/\r4 m n o k/\F4 m n o k:=⟨u,v,w,x,rfl,rfl,H0,H1,H2,h⟩
def pT{D0:a->z0}(h:F2 u v):∃m,∃n,(D0 u=D0 m)/\F2 m n:=⟨u,v,rfl,h⟩
def bT{D0:a->b->z0}(H0:p2 u v)(h:F2 u v):∃m,∃n,(D0 u v=D0 m n)/\p2 m n/\F2 m n:=⟨u,v,rfl,H0,h⟩
theorem gA{D0:a->z0}(H0:p2 u v)(H1:q2 u v)(h:F2 u v):∃m,∃n,(D0 u=D0 m)/\p2 m n/\q2 m n/\F2 m n:=⟨u,v,rfl,H0,H1,h⟩
def iR{D0:a->z0}(H0:p2 u v)(H1:p4 u v w x)(H2:q4 u v w x)(y:e)(H3:p6 u v w x y z)(H4:q6 u v w x y z)(h:F6 u v w x y z):∃m,∃n,(D0 u=D0 m)/\p2 m n/\∃o,∃k,p4 m n o k/\q4 m n o k/\∃l,∃g,p6 m n o k l g/\q6 m n o k l g/\F6 m n o k l g:=⟨u,v,rfl,H0,w,x,H1,H2,y,z,H3,H4,h⟩
def fR{D0:a->z0}(H0:p2 u v)(H1:p4 u v w x)(H2:q4 u v w x)(H3:p6 u v w x y z)(H4:q6 u v w x y z)(h:F6 u v w x y z):∃m,∃n,(D0 u=D0 m)/\p2 m n/\∃o,∃k,p4 m n o k/\q4 m n o k/\∃l,∃g,p6 m n o k l g/\q6 m n o k l g/\F6 m n o k l g:=⟨u,v,rfl,H0,w,x,H1,H2,y,z,H3,H4,h⟩
def eC{D0:a->z0}{D1:b->z1}(h:F2 u v):∃m,∃n,(D0 u=D0 m)/\(D1 v=D1 n)/\F2 m n:=⟨u,v,rfl,rfl,h⟩
def eZ{D0:a->z0}{D1:b->z1}(H0:p2 u v)(h:F2 u v):∃m,∃n,(D0 u=D0 m)/\(D1 v=D1 n)/\p2 m n/\F2 m n:=⟨u,v,rfl,rfl,H0,h⟩
def hU{D0:a->z0}{D1:b->z1}(H0:p4 u v w x)(H1:q4 u v w x)(H2:r4 u v w x)(h:F4 u v w x):∃m,∃n,∃o,∃k,(D0 u=D0 m)/\(D1 v=D1 n)/\p4 m n o k/\q4 m n o k/\r4 m n o k/\F4 m n o k:=⟨u,v,w,x,rfl,rfl,H0,H1,H2,h⟩
def nR{D0:a->z0}{D1:c->z1}(H0:p4 u v w x)(H1:q4 u v w x)(h:F4 u v w x):∃m,∃n,∃o,∃k,(D0 u=D0 m)/\(D1 w=D1 o)/\p4 m n o k/\q4 m n o k/\F4 m n o k:=⟨u,v,w,x,rfl,rfl,H0,H1,h⟩
end
end
section
namespace L2
open PySem PySem.Spec PyProof.Rows
abbrev aK:=Sum Int Str
def pU:aK->Value->Bool
 |.inl k,v=>Value.isInt k v
 |.inr x,v=>Value.isStrOf x v
def Cd(w:World):aK->Int
 |.inl k=>hashInt k
 |.inr x=>hashStr w x
theorem mK:∀{k:aK} {v:Value},pU k v=true->(∃i t,k=Sum.inl i/\v=Value.int i t)\/(∃x t,k=Sum.inr x/\v=Value.str x t)
 |.inl i,v,h=>by
  obtain⟨t,e⟩:=Value.isInt_shape (k:=i) (v:=v) h;exact .inl ⟨i,t,Z,e⟩
 |.inr x,v,h=>by
  obtain⟨t,e⟩:=Value.isStrOf_shape (x:=x) (v:=v) h;exact .inr ⟨x,t,Z,e⟩
def Sg(i:Int)(t:Tok):pU (.inl i) (.int i t)=true:=by simp[pU,Value.isInt]
def Sh(x:Str)(t:Tok):pU (.inr x) (.str x t)=true:=by simp[pU,Value.isStrOf]
theorem M3(a b:Int):decide ((Sum.inl a:aK)=Sum.inl b)=(a == b):=by
 by_cases e:a=b
 ·subst e;simp
 ·have h:¬(Sum.inl a:aK)=Sum.inl b:=λq=>e (Sum.inl.inj q)
  rw[eI h];exact(beq_eq_false_iff_ne.mpr e).symm
theorem M6(a b:Str):decide ((Sum.inr a:aK)=Sum.inr b)=decide (a=b):=by
 by_cases e:a=b
 ·subst e;simp
 ·have h:¬(Sum.inr a:aK)=Sum.inr b:=λq=>e (Sum.inr.inj q)
  rw[eI h,eI e]
theorem M4(a:Int)(b:Str):decide ((Sum.inl a:aK)=Sum.inr b)=false:=eI (λq=>nomatch q)
theorem M5(a:Str)(b:Int):decide ((Sum.inr a:aK)=Sum.inl b)=false:=eI (λq=>nomatch q)
def eX(prog:Program)(w:World):PySem.KeyKind prog w aK where
 is:=pU
 hash:=Cd w
 inj:=λv a b ha hb=>by
  rcases mK ha with⟨i,t,rfl,rfl⟩ |⟨x,t,rfl,rfl⟩
  ·rcases mK hb with⟨j,u,rfl,e⟩ |⟨y,u,rfl,e⟩
   ·injection e with e1 _;rw[e1]
   ·exact nomatch e
  ·rcases mK hb with⟨j,u,rfl,e⟩ |⟨y,u,rfl,e⟩
   ·exact nomatch e
   ·injection e with e1 _;rw[e1]
 byValue:=λk v h=>by
  rcases mK h with⟨i,t,rfl,rfl⟩ |⟨x,t,rfl,rfl⟩ <;> rfl
 pyHash:=λhv h=>by
  rcases mK hv with⟨i,t,rfl,rfl⟩ |⟨x,t,rfl,rfl⟩
  ·exact wpAny_pyHash_int h
  ·exact wpAny_pyHash_str h
 eqBool:=λhu hv h=>by
  rcases mK hu with⟨i,t,rfl,rfl⟩ |⟨x,t,rfl,rfl⟩
  ·rcases mK hv with⟨j,u,rfl,rfl⟩ |⟨y,u,rfl,rfl⟩
   ·rw[M3]at h;exact wpAny_eqBool_int h
   ·rw[M4]at h;exact SeqAt.EqAt.int_str i t y u _ _ _ _ h
  ·rcases mK hv with⟨j,u,rfl,rfl⟩ |⟨y,u,rfl,rfl⟩
   ·rw[M5]at h;exact SeqAt.EqAt.str_int x t j u _ _ _ _ h
   ·rw[M6]at h;exact wpAny_eqBool_str h
 «strs»:=λk x t v h=>by
  rcases mK h with⟨i,u,rfl,e⟩ |⟨y,u,rfl,e⟩
  ·exact nomatch e
  ·injection e with e1 _
   subst e1;cases v <;> rfl
def Va(prog:Program)(w:World)(i:Int)(t:Tok):(eX prog w).is (.inl i) (.int i t)=true:=Sg i t
def Vb(prog:Program)(w:World)(x:Str)(t:Tok):(eX prog w).is (.inr x) (.str x t)=true:=Sh x t
inductive V where
 |non |bl (b:Bool) |int (i:Int) |str (x:Str) |byt (b:Array UInt8) |flt (b:UInt64) |ref (a:Addr) |ty (n:String)
 deriving DecidableEq
def RelV:V->Value->Prop
 |.non,u=>u=Value.none
 |.bl b,u=>u=Value.bool b
 |.int i,u=>∃t,u=Value.int i t
 |.str x,u=>∃t,u=Value.str x t
 |.byt b,u=>∃t,u=Value.bytes b t
 |.flt b,u=>∃t,u=Value.float b t
 |.ref a,u=>u=Value.ref a
 |.ty n,u=>u=Value.type n
abbrev Vals:List V->List Value->Prop:=Paired RelV
theorem Vals.length{xs:List V}{us:List Value}(r:Vals xs us):xs.length=us.length:=Paired.length r
theorem Vals.get:∀{xs:List V} {us:List Value} {i:Nat} {x:V},Vals xs us->xs[i]?=some x->∃u,us[i]?=some u/\RelV x u
 |_,_,_,_,.nil,e=>by simp at e
 |_,_,0,_,.cons r _,e=>by simp at e;subst e;exact⟨_,Z,r⟩
 |_,_,i+1,x,.cons _ t,e=>by
  obtain⟨u,h1,h2⟩:=Vals.get (i:=i) (x:=x) t (by simpa using e);exact⟨u,by simpa using h1,h2⟩
theorem Vals.set{x:V}{u:Value}(r:RelV x u):∀{xs:List V} {us:List Value} (i:Nat),Vals xs us->Vals (xs.set i x) (us.set i u)
 |_,_,_,.nil=>.nil
 |_,_,0,.cons _ t=>.cons r t
 |_,_,i+1,.cons q t=>.cons q (Vals.set r i t)
theorem Vals.append:∀{xs ys:List V} {us ws:List Value},Vals xs us->Vals ys ws->Vals (xs++ys) (us++ws)
 |_,_,_,_,.nil,s=>s
 |_,_,_,_,.cons r t,s=>.cons r (Vals.append t s)
theorem Vals.take:∀{xs:List V} {us:List Value} (n:Nat),Vals xs us->Vals (xs.take n) (us.take n)
 |_,_,0,_=>.nil
 |_,_,_+1,.nil=>.nil
 |_,_,n+1,.cons r t=>.cons r (Vals.take n t)
theorem Vals.drop:∀{xs:List V} {us:List Value} (n:Nat),Vals xs us->Vals (xs.drop n) (us.drop n)
 |_,_,0,r=>r
 |_,_,_+1,.nil=>.nil
 |_,_,n+1,.cons _ t=>Vals.drop n t
def RelO:Option V->Option Value->Prop
 |some v,some u=>RelV v u
 |none,none=>True
 |_,_=>False
def KV{κ:Type}:List (κ×V)->List (κ×Value)->Prop:=Paired λ(p:κ×V) (q:κ×Value)=>p.1=q.1/\RelV p.2 q.2
def kV:aK->V
 |.inl i=>.int i
 |.inr x=>.str x
inductive HO where
 |lst (xs:List V)
 |tup (xs:List V)
 |dK (kvs:List (aK×V)) |dT (kvs:List (List aK×V))
 |set (S:Int->Bool) (n:Nat)
 |ins (C dx:Addr) (fs:List (Str×V))
 |own (x:Addr)
 |xd (fs:List (Str×V))
 |met (f x:Addr)
 |rng (lo hi:Int)
 |frz (o:Obj) (u:HO)
 |tbl (ps:Array Value)
 |ext (φ:Heap->Prop)
abbrev Hp:=Addr->Option HO
def upd(H:Hp)(a:Addr)(o:HO):Hp:=λb=>if b=a then some o else H b
theorem aC{H:Hp}{a:Addr}{o:HO}:upd H a o a=some o:=by unfold upd;rw[if_pos Z]
theorem aG{H:Hp}{a b:Addr}{o:HO}(h:b≠a):upd H a o b=H b:=by unfold upd;rw[if_neg h]
theorem Lh{H:Hp}{a b:Addr}{o u:HO}(h:H a=some o)(h':H b=some u)(d:o≠u):a≠b:=by
 intro e;subst e;rw[h]at h';exact d (qB h')
theorem bN{H:Hp}{a b:Addr}{o:HO}(h:H a=some o)(h':H b=none):a≠b:=by
 intro e;subst e;rw[h]at h';cases h'
section
variable (P:Program)(w:World)
def ObjOk(H:Hp)(h:Heap)(a:Addr):HO->Prop
 |.lst xs=>xs.length<=sizeLine/\∃(its:List Value) (n:Nat),Vals xs its/\h.get? a=some {cls:=.type "list",data:=.seq its.toArray n}
 |.tup xs=>xs.length<=sizeLine/\∃its:List Value,Vals xs its/\∃o,h.get? a=some o/\o.cls=.type "tuple"/\∃n,o.data=.seq its.toArray n/\o.dict=none
 |.dK kvs=>kvs.length<=sizeLine/\(a == sysModules)=false/\∃vs,KV kvs vs/\h.DictOf (eX P w) a vs
 | .dT kvs=>kvs.length<=sizeLine/\(a == sysModules)=false/\∃xs:List (List aK×Addr×Value),
   Paired (λ(p:List aK×V) (q:List aK×Addr×Value)=>p.1=q.1/\H q.2.1=some (.tup (p.1.map kV))/\RelV p.2 q.2.2) kvs xs ∧
   ∃o es ep,h.get? a=some o/\o.ExactDict/\o.data=.dict es ep/\es.toList=xs.map (entryOfKey (tupleKind (eX P w)))/\(xs.map (·.1)).Nodup
 |.set S n=>h.SetOf (intKind P w) a S n
 | .ins C dx fs=>H dx=some (.own a)/\fs.length<=1000/\dx≠a/\h.get? a=some (PySem.W.instObj C dx) ∧
   ∃mA,h.Ns1 dx mA/\(∀f,RelO (fs.lookup f) (mA f))/\PySem.Within mA (fs.map (·.1))
 |.own _=>∃o,h.get? a=some o
 |.xd fs=>∃mA,h.Ns1 a mA/\∀f,RelO (fs.lookup f) (mA f)
 |.rng lo hi=>∃t u v,h.get? a=some {cls:=.type "range",data:=.fields #[.int lo t,.int hi u,.int 1 v]}
 |.frz o u=>h.get? a=some o/\ObjOk H h a u
 |.tbl ps=>h.get? a=some {cls:=.none,data:=.fields ps}
 |.met f x=>h.get? a=some (PySem.W.methodObj (.ref f) (.ref x))
 |.ext φ=>φ h/\(∃o,h.get? a=some o)/\∀h1 h2:Heap,φ h1->(∀o,h1.get? a=some o->h2.get? a=some o)->φ h2
def HOk(H:Hp)(h:Heap):Prop:=∀a o,H a=some o->ObjOk P w H h a o
end
section
variable {P:Program}{w:World}{H H':Hp}{h h':Heap}{a:Addr}{o:HO}
theorem ObjOk.lt(x:ObjOk P w H h a o):a<h.objs.size:=by
 cases o with
 |lst xs=>obtain⟨_,_,_,_,e⟩:=x;exact z8 e
 |tup xs=>obtain⟨_,_,_,_,e,_⟩:=x;exact z8 e
 |dK kvs=>obtain⟨_,_,_,_,o,_,_,e,_⟩:=x;exact z8 e
 |dT kvs=>obtain⟨_,_,_,_,o,_,_,e,_⟩:=x;exact z8 e
 |set S n=>obtain⟨o,_,_,_,e,_⟩:=x;exact z8 e
 |ins C dx fs=>obtain⟨_,_,_,e,_⟩:=x;exact z8 e
 |own y=>obtain⟨_,e⟩:=x;exact z8 e
 |xd fs=>obtain⟨_,⟨_,_,_,e,_⟩,_⟩:=x;exact z8 e
 |rng lo hi=>obtain⟨_,_,_,e⟩:=x;exact z8 e
 |frz ob u=>obtain⟨e,_⟩:=x;exact z8 e
 |tbl ps=>exact z8 (show h.get? a=some _ from x)
 |met f y=>exact z8 (show h.get? a=some _ from x)
 |ext φ=>obtain⟨_,⟨_,e⟩,_⟩:=x;exact z8 e
theorem Paired.mapP{α β:Type}{F G:α->β->Prop}:∀{n:List α} {j:List β},Paired F n j->(∀a b,F a b->G a b)->Paired G n j
 |_,_,.nil,_=>.nil
 |_,_,.cons r t,f=>.cons (f _ _ r) (Paired.mapP t f)
def ObjOk.stay (x:ObjOk P w H h a o) (k:∀b u,(b=a\/H b=some (.own a))->h.get? b=some u->h'.get? b=some u)
  (ho:∀b,H b=some (.own a)->H' b=some (.own a)) (ht:∀b xs,H b=some (.tup xs)->H' b=some (.tup xs)):ObjOk P w H' h' a o:=by
 induction o with
 |lst xs=>obtain⟨z,its,n,r,e⟩:=x;exact⟨z,its,n,r,k _ _ (.inl rfl) e⟩
 |tup xs=>obtain⟨z,its,r,ob,e,c⟩:=x;exact⟨z,its,r,ob,k _ _ (.inl rfl) e,c⟩
 |dK kvs=>obtain⟨z,y,vs,r,ob,es,ep,e,c⟩:=x;exact⟨z,y,vs,r,ob,es,ep,k _ _ (.inl rfl) e,c⟩
 |dT kvs=>
  obtain⟨z,y,xs,r,ob,es,ep,e,c⟩:=x;exact⟨z,y,xs,Paired.mapP r λp q z=>⟨z.1,ht _ _ z.2.1,z.2.2⟩,ob,es,ep,k _ _ (.inl rfl) e,c⟩
 |set S n=>obtain⟨ob,es,ep,t,e,c⟩:=x;exact⟨ob,es,ep,t,k _ _ (.inl rfl) e,c⟩
 |ins C dx fs=>
  obtain⟨d,z,ne,e,mA,⟨od,es,ep,e2,c⟩,r⟩:=x;exact⟨ho _ d,z,ne,k _ _ (.inl rfl) e,mA,⟨od,es,ep,k _ _ (.inr d) e2,c⟩,r⟩
 |own y=>obtain⟨ob,e⟩:=x;exact⟨ob,k _ _ (.inl rfl) e⟩
 |xd fs=>obtain⟨mA,⟨od,es,ep,e,c⟩,r⟩:=x;exact⟨mA,⟨od,es,ep,k _ _ (.inl rfl) e,c⟩,r⟩
 |rng lo hi=>obtain⟨t,u,v,e⟩:=x;exact⟨t,u,v,k _ _ (.inl rfl) e⟩
 |frz ob u ih=>obtain⟨e,q⟩:=x;exact⟨k _ _ (.inl rfl) e,ih q⟩
 |tbl ps=>
  have e:h.get? a=some {cls:=.none,data:=.fields ps}:=x;show h'.get? a=some {cls:=.none,data:=.fields ps};exact k a _ (.inl rfl) e
 |met f y=>
  have e:h.get? a=some (PySem.W.methodObj (.ref f) (.ref y)):=x;show h'.get? a=some (PySem.W.methodObj (.ref f) (.ref y));exact k a _ (.inl rfl) e
 |ext φ=>obtain⟨p,⟨o,e⟩,st⟩:=x;exact⟨st _ _ p λo q=>k _ _ (.inl rfl) q,⟨o,k _ _ (.inl rfl) e⟩,st⟩
theorem HOk.lt(x:HOk P w H h)(e:H a=some o):a<h.objs.size:=(x a o e).lt
def HOk.fresh(x:HOk P w H h)(e:h.objs.size<=a):H a=none:=by
 cases q:H a with
 |none=>rfl
 |some u=>exact absurd (qF (x.lt q) e) (qJ _)
theorem HOk.kept(x:HOk P w H h)(k:∀b u,h.get? b=some u->h'.get? b=some u):HOk P w H h':=λa o e=>
 (x a o e).stay (λb u _ q=>k b u q) (λ_ q=>q) λ_ _ q=>q
def HOk.laid(x:HOk P w H h)(k:∀b u,h.get? b=some u->h'.get? b=some u)(hp:h.objs.size<=a)(new:ObjOk P w (upd H a o) h' a o):HOk P w (upd H a o) h':=λb u e=>by
 have hn:=x.fresh hp;by_cases hb:b=a
 ·subst hb;rw[aC]at e;cases e;exact new
 ·rw[aG hb]at e
  exact(x b u e).stay (λc v _ q=>k c v q) (λc q=>by rw[aG (bN q hn)];exact q) λc xs q=>by rw[aG (bN q hn)];exact q
end
def Rd(H:Hp)(a:Addr)(u:HO):Prop:=H a=some u\/∃o,H a=some (.frz o u)
theorem Rd.ok{P:Program}{w:World}{H:Hp}{h:Heap}{a:Addr}{u:HO}(r:Rd H a u)(x:HOk P w H h):ObjOk P w H h a u:=by
 rcases r with r |⟨o,r⟩
 ·exact x a u r
 ·obtain⟨_,q⟩:=x a _ r
  exact q
def pH:Option HO->Prop
 |some (.lst _)=>True
 |some (.dK _)=>True
 |some (.dT _)=>True
 |some (.set _ _)=>True
 |some (.ins _ _ _)=>True
 |some (.ext _)=>True
 |_=>False
section
variable {P:Program}{w:World}{H:Hp}{h h':Heap}{x e:Addr}{o':HO}
def HOk.write (ok:HOk P w H h) (mu:pH (H x)) (he:e=x\/H e=some (.own x)) (k:∀b u,b≠e->h.get? b=some u->h'.get? b=some u) (heo:∃u,h'.get? e=some u)
  (new:ObjOk P w (upd H x o') h' x o'):HOk P w (upd H x o') h':=λb u q=>by
 have nown:∀c y,H c=some (.own y)->c≠x:=λc y r z=>by subst z;rw[r]at mu;exact mu
 have ntup:∀c xs,H c=some (.tup xs)->c≠x:=λc xs r z=>by subst z;rw[r]at mu;exact mu
 by_cases hb:b=x
 ·subst hb;rw[aC]at q;cases q;exact new
 ·rw[aG hb]at q
  by_cases hbe:b=e
  ·have q':H b=some (.own x):=by
    rcases he with z |z
    ·exact absurd (hbe.trans z) hb
    ·rw[hbe];exact z
   rw[q]at q';cases q';obtain⟨v,hv⟩:=heo;exact⟨v,by rw[hbe];exact hv⟩
  ·refine(ok b u q).stay (λc v hc r=>k c v ?_ r) (λc r=>by rw[aG (nown c b r)];exact r) λc xs r=>by rw[aG (ntup c xs r)];exact r
   rcases hc with rfl |hc
   ·exact hbe
   ·rintro rfl
    rcases he with z |z
    ·exact nown c b hc z
    ·rw[hc]at z;cases z;exact hb rfl
end
structure Un(fs ex:List Addr)(H H':Hp)(h h':Heap):Prop where
 keep:∀b o,h.get? b=some o->H b=none->b ∉fs->b ∉ex->h'.get? b=some o
 slot:∀b o,h.get? b=some o->H b=none->b∈fs->b ∉ex->∃sl,h'.get? b=some {o with slots:=sl}
 free:∀b o,h.get? b=some o->H b=none->b ∉ex->H' b=none
 there:∀b o,h.get? b=some o->b ∉ex->∃o',h'.get? b=some o'
 tups:∀b xs,H b=some (.tup xs)->H' b=some (.tup xs)
 frzs:∀b o u,H b=some (.frz o u)->H' b=some (.frz o u)
 tbls:∀b ps,H b=some (.tbl ps)->∃more,H' b=some (.tbl (ps++more))
section
variable {fs fs' ex ex':List Addr}{H H1 H2:Hp}{h h1 h2 h':Heap}{a x e:Addr}{o:HO}
theorem Un.any(u:Un fs ex H H1 h h1){b:Addr}{ob:Obj}(q:h.get? b=some ob)(n:H b=none)(j:b ∉ex):∃sl,h1.get? b=some {ob with slots:=sl}:=by
 by_cases y:b∈fs
 ·exact u.slot b ob q n y j
 ·exact⟨ob.slots,u.keep b ob q n y j⟩
theorem Un.kept(k:∀b u,h.get? b=some u->h'.get? b=some u):Un fs ex H H h h':=
 ⟨λb ob q _ _ _=>k b ob q,λb ob q _ _ _=>⟨ob.slots,k b ob q⟩,λ_ _ _ n _=>n,λb ob q _=>⟨ob,k b ob q⟩,λ_ _ q=>q,λ_ _ _ q=>q,λ_ ps q=>⟨#[],by rw[q];simp⟩⟩
def Un.refl:Un fs ex H H h h:=Un.kept λ_ _ q=>q
def Un.laid(k:∀b u,h.get? b=some u->h'.get? b=some u)(j:h.objs.size<=a)(hn:H a=none):Un fs ex H (upd H a o) h h' where
 keep:=λb u q _ _ _=>k b u q
 slot:=λb u q _ _ _=>⟨u.slots,k b u q⟩
 free:=λb u q n _=>by rw[aG (qE (qF (z8 q) j))];exact n
 there:=λb u q _=>⟨u,k b u q⟩
 tups:=λb xs q=>by rw[aG (bN q hn)];exact q
 frzs:=λb u xs q=>by rw[aG (bN q hn)];exact q
 tbls:=λb ps q=>⟨#[],by rw[aG (bN q hn),q];simp⟩
def Un.write(y:pH (H x))(U:e=x\/H e=some (.own x))(k:∀b u,b≠e->h.get? b=some u->h'.get? b=some u)(J:∃u,h'.get? e=some u):Un fs ex H (upd H x o) h h':=by
 have M:∀b,H b=none->b≠x:=λb n z=>by subst z;rw[n]at y;exact y
 have O:∀b,H b=none->b≠e:=λb n z=>by
  subst z;rcases U with r |r
  ·exact M b n r
  ·rw[n]at r;cases r
 have I:∀b u,H b=some u->¬pH (some u)->b≠x:=λb u q nm z=>by subst z;rw[q]at y;exact nm y
 refine⟨λb u q n _ _=>k b u (O b n) q,λb u q n _ _=>⟨u.slots,k b u (O b n) q⟩,λb u q n _=>by rw[aG (M b n)];exact n,λb u q _=>?_,
  λb xs q=>by rw[aG (I b _ q λz=>z)];exact q,λb u xs q=>by rw[aG (I b _ q λz=>z)];exact q,λb ps q=>⟨#[],by rw[aG (I b _ q λz=>z),q];simp⟩⟩
 by_cases j:b=e
 ·subst j;exact J
 ·exact⟨u,k b u j q⟩
end
def xJ(h:Heap)(H:Hp):List Addr:=(List.range h.objs.size).filter λa=>(H a).isSome
def eR(h:Heap)(H:Hp):Heap:=PySem.W.hideAll h (xJ h H)
def Se(h:Heap)(H:Hp):(eR h H).objs.size=h.objs.size:=PySem.W.hideAll_size _ _
def Pt{h:Heap}{H:Hp}{b:Addr}{o:Obj}(e:h.get? b=some o)(n:H b=none):(eR h H).get? b=some o:=
 PySem.W.hideAll_get _ e λj=>by
  have q:(H b).isSome=true:=(List.mem_filter.mp j).2;rw[n]at q;simp at q
def P8{h:Heap}{H:Hp}{b:Addr}{o:Obj}(e:(eR h H).get? b=some o):h.get? b=some o/\H b=none:=by
 have j:h.get? b=some o:=PySem.W.of_hideAll (xJ h H) e;refine⟨j,?_⟩
 cases q:H b with
 |none=>rfl
 |some x=>
  have n:b∈xJ h H:=List.mem_filter.mpr ⟨List.mem_range.mpr (z8 j),by simp[q]⟩;have z:(eR h H).get? b=none:=PySem.W.hideAll_none (xJ h H) n;rw[z]at e;cases e
structure Mod(K:Fg)(mg:Str->Option Value)(base:Heap):Prop where
 kin:K.In base
 glob:base.Ns mainGlobals mg
 blt:∃mb,base.Ns builtinsNs mb/\∀x:Str,x≠"__name__"->mb x=bootBuiltins x
 nolimit:base.NoLimit
structure Cx where
 prog:Program
 w:World
 K:Fg
 mg:Str->Option Value
 base:Heap
 A:Around
 N:List Str
 s₀:Shared
 H₀:Hp
 env:Env
 outer:List Env
 stack:List Env
 ex:List Addr
 fn:Str->Bool
 calm:Bool
 pn:List (Addr×Obj)
 xe:Value->Shared->Prop
def dE(l:List Env):List Addr:=l.filterMap (·.frame)
abbrev Cx.fs(X:Cx):List Addr:=dE X.outer
def Ct(sc:Scope)(x:Str):Prop:=sc.names.lookup x=some .local\/sc.names.lookup x=some .cell\/sc.names.lookup x=some .free
def tW(sc:Scope)(x:Str):Prop:=sc.names.lookup x=some .local\/sc.names.lookup x=some .cell
def Cz(env:Env)(h:Heap)(m:Str->Option Value)(x:Str)(u:Value):Prop:=
 (env.kindOf x=some .local/\m x=some u)\/((env.kindOf x=some .cell\/env.kindOf x=some .free)/\∃c,env.cells.lookup x=some c/\h.IsCell c (some u))
structure Cx.Ok(X:Cx):Prop where
 mod:Mod X.K X.mg X.base
 kind:X.env.scope.kind=.function
 glob:X.env.globals=mainGlobals
 blt:X.env.builtins=builtinsNs
 above:X.s₀.heap.objs.size<=X.env.locals
 inj:∀x y c,X.env.cells.lookup x=some c->X.env.cells.lookup y=some c->x=y
 has:∀x,(X.env.kindOf x=some .cell\/X.env.kindOf x=some .free)->∃c,X.env.cells.lookup x=some c
 cab:∀x c,X.fn x=true->X.env.cells.lookup x=some c->X.s₀.heap.objs.size<=c
 hd:X.calm=true->X.A.handled=none
 frames:X.A.frames=some X.stack
 stk:X.stack=X.outer\/(X.stack=X.env::X.outer/\X.env.frame=some X.env.locals)
 exf:∀b∈X.ex,b≠X.env.locals/\∀x c,X.env.cells.lookup x=some c->c≠b
 bs:∀b o,X.base.get? b=some o->X.s₀.heap.get? b=some o/\X.H₀ b=none
 bsz:X.base.objs.size<=X.s₀.heap.objs.size
 noex:∀b o,X.base.get? b=some o->b ∉X.ex
 exfs:∀b∈X.ex,b ∉X.fs
 funs:X.s₀.heap.FunFrames X.base X.outer
 frf:∀b∈X.fs,X.H₀ b=none
structure Inv(X:Cx)(pins:List (Addr×Obj))(σ:List (Option V))(H:Hp)(s:Shared):Prop where
 ok:X.Ok
 os:s.os=X.s₀.os
 bare:AllBare s.gens
 base:Un X.fs X.ex X.H₀ H X.s₀.heap s.heap
 loc:∃m,s.heap.Ns X.env.locals m/\∀(i:Nat) (x:Str) (v:V),X.N[i]?=some x->σ[i]?=some (some v)->Ct X.env.scope x->∃u,RelV v u/\Cz X.env s.heap m x u
 cell:∀x c,X.env.cells.lookup x=some c->∃v,s.heap.IsCell c v
 free:H X.env.locals=none
 freeC:∀x c,X.env.cells.lookup x=some c->H c=none
 pin:∀p∈X.pn++pins,s.heap.get? p.1=some p.2/\H p.1=none/\p.1≠X.env.locals/\p.1 ∉X.fs/\∀v,p.2.data≠.cell v
 hok:HOk X.prog X.w H s.heap
 len:σ.length=X.N.length
section
variable {X:Cx}{pins:List (Addr×Obj)}{σ:List (Option V)}{H H':Hp}{s:Shared}{h':Heap}
def Cx.Ok.nofr(ok:X.Ok){b:Addr}{o:Obj}(e:X.base.get? b=some o):b ∉X.fs:=λj=>by
 have:=(ok.funs.mem j).1;rw[e]at this;cases this
theorem Inv.bs(I:Inv X pins σ H s):∀b o,X.base.get? b=some o->s.heap.get? b=some o/\H b=none:=λb o e=>
 ⟨I.base.keep b o (I.ok.bs b o e).1 (I.ok.bs b o e).2 (I.ok.nofr e) (I.ok.noex b o e),I.base.free b o (I.ok.bs b o e).1 (I.ok.bs b o e).2 (I.ok.noex b o e)⟩
def Inv.bk(I:Inv X pins σ H s):∀b o,X.base.get? b=some o->s.heap.get? b=some o:=λb o e=>(I.bs b o e).1
theorem Inv.mod(I:Inv X pins σ H s):Mod X.K X.mg X.base:=I.ok.mod
def Inv.kIn(I:Inv X pins σ H s):X.K.In s.heap:=I.ok.mod.kin.keeps I.bk
theorem Inv.lt(I:Inv X pins σ H s):X.env.locals<s.heap.objs.size:=let ⟨_,hn,_⟩:=I.loc;hn.lt
def Inv.sz(I:Inv X pins σ H s):X.s₀.heap.objs.size<=s.heap.objs.size:=zY I.ok.above (Nat.le_of_lt I.lt)
def Inv.nofs(I:Inv X pins σ H s){a:Addr}(h:s.heap.objs.size<=a):a ∉X.fs:=λn=>by
 obtain⟨_,o,j,_⟩:=I.ok.funs.mem n;exact absurd (qF (z8 j) (zY I.sz h)) (qJ _)
def Inv.cne(I:Inv X pins σ H s):∀x c,X.env.cells.lookup x=some c->c≠X.env.locals:=λx c e z=>by
 obtain⟨v,o,y,hd⟩:=I.cell x c e;obtain⟨m,⟨o',es,ep,j,n,_⟩,_⟩:=I.loc;rw[z,j]at y;cases y;rw[n]at hd;cases hd
theorem Inv.funs(I:Inv X pins σ H s):s.heap.FunFrames X.base X.outer:=by
 have all:∀(l:List Env),(∀b∈dE l,b∈X.fs)->X.s₀.heap.FunFrames X.base l->s.heap.FunFrames X.base l:=by
  intro l
  induction l with
  |nil=>intro _ _;trivial
  |cons env r J=>
   intro hs U;obtain⟨Y,⟨L,o,j,hn,O,hd⟩,M⟩:=U;have y:L∈X.fs:=hs L (by unfold dE;rw[List.filterMap_cons,j];exact List.mem_cons_self);obtain⟨sl,e⟩:=I.base.slot L o O (I.ok.frf L y) y λz=>I.ok.exfs L z y;exact⟨Y,⟨L,_,j,hn,e,hd⟩,J (λb n=>hs b (by unfold dE;rw[List.filterMap_cons,j];exact qG _ n)) M⟩
 exact all X.outer (λ_ n=>n) I.ok.funs
theorem Inv.stack(I:Inv X pins σ H s):s.heap.FunFrames X.base X.stack:=by
 rcases I.ok.stk with e |⟨e,hf⟩
 ·rw[e];exact I.funs
 ·rw[e]
  obtain⟨m,hn,_⟩:=I.loc;refine .cons (by rw[I.ok.kind];decide) hf hn ?_ I.funs;exact Heap.get?_none_of_le (zY I.ok.bsz I.ok.above)
def Inv.stkSub(I:Inv X pins σ H s):∀b∈dE X.stack,b∈X.env.locals::X.fs:=λb j=>by
 rcases I.ok.stk with e |⟨e,n⟩
 ·rw[e]at j;exact qG _ j
 ·rw[e]at j
  unfold dE at j;rw[List.filterMap_cons,n]at j;exact j
theorem Inv.stkFree(I:Inv X pins σ H s):∀b∈dE X.stack,H b=none:=λb j=>by
 rcases cE (I.stkSub b j) with e |j
 ·rw[e];exact I.free
 ·obtain⟨_,o,n,_⟩:=I.ok.funs.mem j
  exact I.base.free b o n (I.ok.frf b j) λz=>I.ok.exfs b z j
def Inv.step {g':Array GenState} {t':Nat} {d':Drawn} {ch:List Addr} (I:Inv X pins σ H s)
  (hch:∀b∈ch,(b∈X.ex\/X.s₀.heap.objs.size<=b)/\b≠X.env.locals/\(∀x c,X.env.cells.lookup x=some c->c≠b)/\∀p∈X.pn++pins,p.1≠b)
  (keep:∀b o,b≠X.env.locals->b ∉X.fs->b ∉ch->s.heap.get? b=some o->H b=none->h'.get? b=some o)
  (slot:∀b o,b≠X.env.locals->b∈X.fs->b ∉ch->s.heap.get? b=some o->H b=none->∃sl,h'.get? b=some {o with slots:=sl}) (free:∀b o,b ∉ch->s.heap.get? b=some o->H b=none->H' b=none)
  (there:∀b o,b ∉ch->s.heap.get? b=some o->∃o',h'.get? b=some o')
  (tups:∀b xs,H b=some (.tup xs)->H' b=some (.tup xs)) (frzs:∀b o u,H b=some (.frz o u)->H' b=some (.frz o u)) (tbls:∀b ps,H b=some (.tbl ps)->∃more,H' b=some (.tbl (ps++more)))
  (ns:∀m,s.heap.Ns X.env.locals m->h'.Ns X.env.locals m) (hok:HOk X.prog X.w H' h') (hg:AllBare g') :
  Inv X pins σ H' {s with heap:=h',gens:=g',drawn:=d',toks:=t'}:=by
 have neL:∀b o,X.s₀.heap.get? b=some o->b≠X.env.locals:=λb o e=>qE (qF (z8 e) I.ok.above)
 have neC:∀b o,X.s₀.heap.get? b=some o->b ∉X.ex->b ∉ch:=λb o e hx hb=>by
  rcases(hch b hb).1 with z |z
  ·exact hx z
  ·exact absurd (qF (z8 e) z) (qJ _)
 have cellK:∀x c,X.env.cells.lookup x=some c->∀v,s.heap.IsCell c v->h'.IsCell c v:=λx c e v ⟨o,ho,hd⟩=>by
  have nch:c ∉ch:=λz=>(hch c z).2.2.1 x c e rfl;by_cases hc:c∈X.fs
  ·obtain⟨sl,q⟩:=slot c o (I.cne x c e) hc nch ho (I.freeC x c e)
   exact⟨_,q,hd⟩
  ·exact⟨o,keep c o (I.cne x c e) hc nch ho (I.freeC x c e),hd⟩
 refine⟨I.ok,I.os,hg,⟨λb o e n hb hx=>?_,λb o e n hb hx=>?_,λb o e n hx=>?_,λb o e hx=>?_,λb xs e=>tups b xs (I.base.tups b xs e),λb o xs e=>frzs b o xs (I.base.frzs b o xs e),λb ps e=>?_⟩,?_,λx c e=>?_,?_,λx c e=>?_,λp hp=>?_,hok,I.len⟩
 ·exact keep b o (neL b o e) hb (neC b o e hx) (I.base.keep b o e n hb hx) (I.base.free b o e n hx)
 ·obtain⟨sl,e1⟩:=I.base.slot b o e n hb hx
  obtain⟨sl',e2⟩:=slot b _ (neL b o e) hb (neC b o e hx) e1 (I.base.free b o e n hx);exact⟨sl',e2⟩
 ·obtain⟨o',e1⟩:=I.base.there b o e hx
  exact free b o' (neC b o e hx) e1 (I.base.free b o e n hx)
 ·obtain⟨o',e1⟩:=I.base.there b o e hx
  exact there b o' (neC b o e hx) e1
 ·obtain⟨m1,e1⟩:=I.base.tbls b ps e
  obtain⟨m2,e2⟩:=tbls b _ e1;exact⟨m1++m2,by rw[e2,Array.append_assoc]⟩
 ·obtain⟨m,hn,hl⟩:=I.loc
  refine⟨m,ns m hn,λi x v e1 e2 e3=>?_⟩;obtain⟨u,r,l⟩:=hl i x v e1 e2 e3;refine⟨u,r,?_⟩;rcases l with l |⟨k,c,e,z⟩
  ·exact .inl l
  ·exact .inr ⟨k,c,e,cellK x c e _ z⟩
 ·obtain⟨v,z⟩:=I.cell x c e
  exact⟨v,cellK x c e v z⟩
 ·obtain⟨m,⟨o,_,_,ho,_⟩,_⟩:=I.loc
  exact free _ o (λz=>(hch _ z).2.1 rfl) ho I.free
 ·obtain⟨v,o,ho,hd⟩:=I.cell x c e
  exact free c o (λz=>(hch c z).2.2.1 x c e rfl) ho (I.freeC x c e)
 ·obtain⟨e,n,ne,nf,d⟩:=I.pin p hp
  have nch:p.1 ∉ch:=λz=>(hch p.1 z).2.2.2 p hp rfl;exact⟨keep p.1 p.2 ne nf nch e n,free p.1 p.2 nch e n,ne,nf,d⟩
def Inv.un{t':Nat}(I:Inv X pins σ H s)(u:Un X.fs [] H H' s.heap h')(hok:HOk X.prog X.w H' h'):Inv X pins σ H' {s with heap:=h',toks:=t'}:=by
 obtain⟨m,⟨o,es,ep,ho,r⟩,_⟩:=id I.loc;obtain⟨sl,hL⟩:=u.any ho I.free (by simp)
 exact I.step (g':=s.gens) (d':=s.drawn) (ch:=[]) (λ_ z=>nomatch z) (λb o _ hb _ e n=>u.keep b o e n hb (by simp)) (λb o _ hb _ e n=>u.slot b o e n hb (by simp)) (λb o _ e n=>u.free b o e n (by simp)) (λb o _ e=>u.there b o e (by simp)) u.tups u.frzs u.tbls (λm' hm=>by
  obtain⟨o',es',ep',ho',r'⟩:=hm;rw[ho]at ho';cases ho';exact⟨_,es',ep',hL,r'⟩) hok I.bare
def Inv.call {g':Array GenState} {t':Nat} {d':Drawn} {ch:List Addr} (I:Inv X pins σ H s) (u:Un (dE X.stack) ch H H' s.heap h') (hok:HOk X.prog X.w H' h') (hg:AllBare g')
  (hch:∀b∈ch,(b∈X.ex\/X.s₀.heap.objs.size<=b)/\b≠X.env.locals/\(∀x c,X.env.cells.lookup x=some c->c≠b)/\∀p∈X.pn++pins,p.1≠b) :
  Inv X pins σ H' {s with heap:=h',gens:=g',drawn:=d',toks:=t'}:=by
 obtain⟨m,⟨o,es,ep,ho,r⟩,_⟩:=id I.loc;obtain⟨sl,hL⟩:=u.any ho I.free λz=>(hch _ z).2.1 rfl
 exact I.step (ch:=ch) hch (λb o hL hb hc e n=>u.keep b o e n (λz=>(cE (I.stkSub b z)).elim hL hb) hc) (λb o _ _ hc e n=>u.any e n hc) (λb o hc e n=>u.free b o e n hc) (λb o hc e=>u.there b o e hc) u.tups u.frzs u.tbls (λm' hm=>by
  obtain⟨o',es',ep',ho',r'⟩:=hm;rw[ho]at ho';cases ho';exact⟨_,es',ep',hL,r'⟩) hok hg
def Inv.turned {t':Nat} {it:Addr} (I:Inv X pins σ H s) (k:∀b o,b≠it->s.heap.get? b=some o->h'.get? b=some o) (hn:H it=none) (hL:it≠X.env.locals)
  (h1:it∈X.ex\/X.s₀.heap.objs.size<=it) (h2:∀x c,X.env.cells.lookup x=some c->c≠it) (h3:∀p∈X.pn++pins,p.1≠it):Inv X pins σ H {s with heap:=h',toks:=t'}:=by
 have nit:∀b u,H b=some u->b≠it:=λb u e z=>by rw[z,hn]at e;cases e
 refine I.step (g':=s.gens) (d':=s.drawn) (ch:=[it]) (λb hb=>?_) (λb o _ _ hc e _=>k b o (λz=>hc (by simp[z])) e) (λb o _ _ hc e _=>⟨o.slots,k b o (λz=>hc (by simp[z])) e⟩) (λ_ _ _ _ n=>n)
  (λb o hc e=>⟨o,k b o (λz=>hc (by simp[z])) e⟩) (λ_ _ e=>e) (λ_ _ _ e=>e) (λb ps e=>⟨#[],by rw[e];simp⟩) (λm hm=>?_) (λb u e=>?_) I.bare
 ·have e:b=it:=by simpa using hb
  subst e;exact⟨h1,hL,h2,h3⟩
 ·obtain⟨o,es,ep,ho,r⟩:=hm
  exact⟨o,es,ep,k _ o (Ne.symm hL) ho,r⟩
 ·refine(I.hok b u e).stay (λc v hc q=>k c v ?_ q) (λ_ q=>q) λ_ _ q=>q
  rcases hc with z |z
  ·rw[z];exact nit b u e
  ·exact nit c _ z
theorem Inv.tok(I:Inv X pins σ H s)(t:Nat):Inv X pins σ H {s with toks:=t}:=I.un (h':=s.heap) (t':=t) Un.refl I.hok
theorem Inv.kept{t':Nat}(I:Inv X pins σ H s)(k:∀b u,s.heap.get? b=some u->h'.get? b=some u):Inv X pins σ H {s with heap:=h',toks:=t'}:=I.un (Un.kept k) (I.hok.kept k)
theorem Inv.laid {a:Addr} {o:HO} {t':Nat} (I:Inv X pins σ H s) (k:∀b u,s.heap.get? b=some u->h'.get? b=some u) (hp:s.heap.objs.size<=a) (new:ObjOk X.prog X.w (upd H a o) h' a o) :
  Inv X pins σ (upd H a o) {s with heap:=h',toks:=t'}:=I.un (Un.laid k hp (I.hok.fresh hp)) (I.hok.laid k hp new)
theorem Inv.write {x e:Addr} {o:HO} {t':Nat} (I:Inv X pins σ H s) (mu:pH (H x)) (he:e=x\/H e=some (.own x)) (k:∀b u,b≠e->s.heap.get? b=some u->h'.get? b=some u) (heo:∃u,h'.get? e=some u)
  (new:ObjOk X.prog X.w (upd H x o) h' x o):Inv X pins σ (upd H x o) {s with heap:=h',toks:=t'}:=I.un (Un.write mu he k heo) (I.hok.write mu he k heo new)
def Inv.weak{σ':List (Option V)}(I:Inv X pins σ H s)(hl:σ'.length=σ.length)(w:∀(i:Nat) v,σ'[i]?=some (some v)->σ[i]?=some (some v)):Inv X pins σ' H s:=
 ⟨I.ok,I.os,I.bare,I.base,let ⟨m,hn,hl'⟩:=I.loc;⟨m,hn,λi x v e1 e2 e3=>hl' i x v e1 (w i v e2) e3⟩,I.cell,I.free,I.freeC,I.pin,I.hok,hl.trans I.len⟩
def Inv.pins_of{j:List (Addr×Obj)}(I:Inv X pins σ H s)(h:∀p∈j,s.heap.get? p.1=some p.2/\H p.1=none/\p.1≠X.env.locals/\p.1 ∉X.fs/\∀v,p.2.data≠.cell v):Inv X j σ H s:=
 ⟨I.ok,I.os,I.bare,I.base,I.loc,I.cell,I.free,I.freeC,λp n=>(eA n).elim (λz=>I.pin p (zR _ z)) (h p),I.hok,I.len⟩
def Gr{N:List Str}(n:N.Nodup){i j:Nat}{x:Str}(a:N[i]?=some x)(b:N[j]?=some x):i=j:=by
 obtain⟨h1,z⟩:=dC a;obtain⟨h2,y⟩:=dC b;exact(List.getElem_inj n).mp (z.trans y.symm)
def Ie {M:Model} {A:Around} {E:Value->Shared->Prop} {i:Nat} {x:Str} {v:V} {u:Value} {Q:Unit->Shared->Prop} (I:Inv X pins σ H s) (hN:X.N.Nodup) (hi:X.N[i]?=some x) (hx:tW X.env.scope x) (r:RelV v u)
  (h:∀s',Inv X pins (σ.set i (some v)) H s'->(∃a,Heap.SameBut a s.heap s'.heap/\(a=X.env.locals\/X.env.cells.lookup x=some a))->Q () s') (hf:X.fn x=true\/X.env.scope.names.lookup x=some .local:=by first |exact .inl rfl |exact .inr rfl |assumption):wpAny M A (storeName X.env x u) Q E s:=by
 obtain⟨m,hn,hl⟩:=id I.loc;have hcls:(X.env.scope.kind == .class || (X.env.scope.kind == .module && X.env.locals != X.env.globals))=false:=by rw[I.ok.kind];rfl
 have hiσ:i<σ.length:=by rw[I.len];exact(dC hi).1
 have cne:=I.cne
 have tracked:∀{a:Addr} {h':Heap},(∃o,s.heap.get? a=some o/\H a=none)->Heap.SameBut a s.heap h'->HOk X.prog X.w H h':=λ{a h'} ha hs b ob e=>by
  obtain⟨_,_,hfree⟩:=ha;refine(I.hok b ob e).stay (λc w' hc q=>(hs.2 c ?_).trans q) (λ_ q=>q) λ_ _ q=>q;rintro rfl;rcases hc with rfl |hc
  ·rw[hfree]at e;cases e
  ·rw[hfree]at hc;cases hc
 rcases hx with hk |hk
 ·refine wpAny_storeName_local hk hn (λh' hn' hs=>?_) hcls
  obtain⟨oL,_,_,hoL,_⟩:=id hn;refine h _ ⟨I.ok,I.os,I.bare,⟨λb o e n hb hx=>?_,λb o e n hb hx=>?_,I.base.free,λb o e hx=>?_,I.base.tups,I.base.frzs,I.base.tbls⟩,⟨_,hn',λj y v' e1 e2 e3=>?_⟩,λy c e=>?_,I.free,I.freeC,λp hp=>?_,tracked ⟨oL,hoL,I.free⟩ hs,by simpa using I.len⟩ ⟨_,hs,.inl rfl⟩
  ·exact(hs.2 b (qE (qF (z8 e) I.ok.above))).trans (I.base.keep b o e n hb hx)
  ·obtain⟨sl,e1⟩:=I.base.slot b o e n hb hx
   exact⟨sl,(hs.2 b (qE (qF (z8 e) I.ok.above))).trans e1⟩
  ·obtain⟨o',e1⟩:=I.base.there b o e hx
   exact⟨o',(hs.2 b (qE (qF (z8 e) I.ok.above))).trans e1⟩
  ·by_cases hj:j=i
   ·subst hj
    rw[hi]at e1;cases e1;rw[List.getElem?_set_self hiσ]at e2;cases e2;exact⟨u,r,.inl ⟨hk,by simp⟩⟩
   ·rw[List.getElem?_set_ne (Ne.symm hj)]at e2
    obtain⟨u',r',q⟩:=hl j y v' e1 e2 e3;refine⟨u',r',?_⟩;rcases q with⟨k,e⟩ |⟨k,c,e,z⟩
    ·refine .inl ⟨k,?_⟩
     have:y≠x:=λe=>hj (Gr hN e1 (e ▸ hi));simp[this,e]
    ·exact .inr ⟨k,c,e,z.sameBut hs (cne y c e)⟩
  ·obtain⟨w',z⟩:=I.cell y c e
   exact⟨w',z.sameBut hs (cne y c e)⟩
  ·obtain⟨e,n,ne,nf,d⟩:=I.pin p hp
   exact⟨(hs.2 p.1 ne).trans e,n,ne,nf,d⟩
 ·have hfn:X.fn x=true:=by
   rcases hf with z |z
   ·exact z
   ·rw[z]at hk;cases hk
  obtain⟨c,hc⟩:=I.ok.has x (.inl hk);obtain⟨w',z⟩:=I.cell x c hc;refine wpAny_storeName_cell I.ok.kind hk hc z (λh' hc' hs=>?_);obtain⟨oc,hoc,hocd⟩:=id z;refine h {s with heap:=h'} ⟨I.ok,I.os,I.bare,⟨λb o e n hb hx=>?_,λb o e n hb hx=>?_,I.base.free,λb o e hx=>?_,I.base.tups,I.base.frzs,I.base.tbls⟩,⟨m,hn.sameBut hs (Ne.symm (cne x c hc)),λj y v' e1 e2 e3=>?_⟩,λy c' e=>?_,I.free,I.freeC,λp hp=>?_,tracked ⟨oc,hoc,I.freeC x c hc⟩ hs,by simpa using I.len⟩ ⟨c,hs,.inr hc⟩
  ·exact(hs.2 b (qE (qF (z8 e) (I.ok.cab x c hfn hc)))).trans (I.base.keep b o e n hb hx)
  ·obtain⟨sl,e1⟩:=I.base.slot b o e n hb hx
   exact⟨sl,(hs.2 b (qE (qF (z8 e) (I.ok.cab x c hfn hc)))).trans e1⟩
  ·obtain⟨o',e1⟩:=I.base.there b o e hx
   exact⟨o',(hs.2 b (qE (qF (z8 e) (I.ok.cab x c hfn hc)))).trans e1⟩
  ·by_cases hj:j=i
   ·subst hj
    rw[hi]at e1;cases e1;rw[List.getElem?_set_self hiσ]at e2;cases e2;exact⟨u,r,.inr ⟨.inl hk,c,hc,hc'⟩⟩
   ·rw[List.getElem?_set_ne (Ne.symm hj)]at e2
    obtain⟨u',r',q⟩:=hl j y v' e1 e2 e3;refine⟨u',r',?_⟩;rcases q with q |⟨k,c',e,z'⟩
    ·exact .inl q
    ·refine .inr ⟨k,c',e,z'.sameBut hs ?_⟩
     rintro rfl;exact hj (Gr hN e1 (I.ok.inj _ _ _ e hc ▸ hi))
  ·by_cases hcc:c'=c
   ·subst hcc;exact⟨_,hc'⟩
   ·obtain⟨w2,z2⟩:=I.cell y c' e
    exact⟨w2,z2.sameBut hs hcc⟩
  ·obtain⟨e,n,ne,nf,d⟩:=I.pin p hp
   refine⟨(hs.2 p.1 ?_).trans e,n,ne,nf,d⟩;intro q;rw[q,hoc]at e;have q':oc=p.2:=qB e;exact d w' (by rw[<- q'];exact hocd)
def Gg {M:Model} {A:Around} {E:Value->Shared->Prop} {i:Nat} {x:Str} {v:V} {u:Value} {Q:Unit->Shared->Prop} (I:Inv X pins σ H s) (y:X.N.Nodup) (hi:X.N[i]?=some x) (j:tW X.env.scope x) (r:RelV v u)
  (h:∀s',Inv X pins (σ.set i (some v)) H s'->Q () s') (n:X.fn x=true\/X.env.scope.names.lookup x=some .local:=by first |exact .inl rfl |exact .inr rfl |assumption):wpAny M A (storeName X.env x u) Q E s:=
 Ie I y hi j r (λs' z _=>h s' z) n
def Inv.call' {s':Shared} {ch:List Addr} (I:Inv X pins σ H s) (ho:s'.os=s.os) (u:Un (dE X.stack) ch H H' s.heap s'.heap) (hok:HOk X.prog X.w H' s'.heap) (hg:AllBare s'.gens)
  (hch:∀b∈ch,(b∈X.ex\/X.s₀.heap.objs.size<=b)/\b≠X.env.locals/\(∀x c,X.env.cells.lookup x=some c->c≠b)/\∀p∈X.pn++pins,p.1≠b):Inv X pins σ H' s':=by
 obtain⟨h',g',d',t',o'⟩:=s';have e:o'=s.os:=ho;subst e;exact I.call (g':=g') (t':=t') (d':=d') u hok hg hch
end
abbrev XK:=Value->Option Addr->Hp->Prop
abbrev St:=List (Option V)
abbrev VK:=V->Hp->Prop
abbrev TE:=St->Hp->VK->Prop
abbrev TT:=St->Hp->(Bool->Hp->Prop)->Prop
abbrev TA:=St->Hp->(List V->Hp->Prop)->Prop
structure Ends where
 nx:St->Hp->Prop
 rt:VK
 bk:St->Hp->Prop:=λ_ _=>False
 ct:St->Hp->Prop:=λ_ _=>False
abbrev TS:=Ends->St->Hp->Prop
def EP(X:Cx)(pins:List (Addr×Obj))(σ:St)(Q:VK)(u:Value)(s':Shared):Prop:=∃v H',Inv X pins σ H' s'/\RelV v u/\Q v H'
def TP(X:Cx)(pins:List (Addr×Obj))(σ:St)(Q:Bool->Hp->Prop)(b:Bool)(s':Shared):Prop:=∃H',Inv X pins σ H' s'/\Q b H'
def AP(X:Cx)(pins:List (Addr×Obj))(σ:St)(Q:List V->Hp->Prop)(us:List Value)(s':Shared):Prop:=∃vs H',Inv X pins σ H' s'/\Vals vs us/\Q vs H'
def SP(X:Cx)(pins:List (Addr×Obj))(D:Ends)(f:Flow)(s':Shared):Prop:=
 match f with
 |.next=>∃σ' H',Inv X pins σ' H' s'/\D.nx σ' H'
 |.brk=>∃σ' H',Inv X pins σ' H' s'/\D.bk σ' H'
 |.cont=>∃σ' H',Inv X pins σ' H' s'/\D.ct σ' H'
 |.ret u=>∃v σ' H',Inv X pins σ' H' s'/\RelV v u/\D.rt v H'
def PE(X:Cx)(e:Expr)(t:TE):Prop:=
 ∀(pins:List (Addr×Obj)) (s:Shared) (σ:St) (H:Hp) (Q:VK),Inv X pins σ H s->t σ H Q->wpAny (model X.prog X.w) X.A (eval e X.env) (EP X pins σ Q) X.xe s
def PT(X:Cx)(e:Expr)(t:TT):Prop:=
 ∀(pins:List (Addr×Obj)) (s:Shared) (σ:St) (H:Hp) (Q:Bool->Hp->Prop),Inv X pins σ H s->t σ H Q->wpAny (model X.prog X.w) X.A (isTrue e X.env (eval e X.env)) (TP X pins σ Q) X.xe s
def PW(X:Cx)(e:Expr)(t:TT):Prop:=
 ∀(whole:Sem Value) (pins:List (Addr×Obj)) (s:Shared) (σ:St) (H:Hp) (Q:Bool->Hp->Prop),Inv X pins σ H s->t σ H Q->wpAny (model X.prog X.w) X.A (isTrue e X.env whole) (TP X pins σ Q) X.xe s
def PW.pt{X:Cx}{e:Expr}{t:TT}(h:PW X e t):PT X e t:=h _
def PA(X:Cx)(es:List Expr)(t:TA):Prop:=
 ∀(pos:Pos) (pins:List (Addr×Obj)) (s:Shared) (σ:St) (H:Hp) (Q:List V->Hp->Prop),Inv X pins σ H s->t σ H Q->wpAny (model X.prog X.w) X.A (spliced (backTo pos (starEach es X.env))) (AP X pins σ Q) X.xe s
def PS(X:Cx)(st:Stmt)(t:TS):Prop:=
 ∀(pins:List (Addr×Obj)) (s:Shared) (σ:St) (H:Hp) (D:Ends),Inv X pins σ H s->t D σ H->wpAny (model X.prog X.w) X.A (exec st X.env) (SP X pins D) X.xe s
def PSs(X:Cx)(st:List Stmt)(t:TS):Prop:=
 ∀(pins:List (Addr×Obj)) (s:Shared) (σ:St) (H:Hp) (D:Ends),Inv X pins σ H s->t D σ H->wpAny (model X.prog X.w) X.A (execs st X.env) (SP X pins D) X.xe s
def aN{α:Type}{t:Sem α}{Q Q':α->Shared->Prop}{M:Model}{A:Around}{E:Value->Shared->Prop}{s:Shared}(h:wpAny M A t Q E s)(hQ:∀a s,Q a s->Q' a s):wpAny M A t Q' E s:=wpAny_mono h hQ λ_ _ x=>x
section
variable {X:Cx}
def fA(i:Nat):TE:=λσ H Q=>∃v,σ[i]?=some (some v)/\Q v H
def tC(v:V):TE:=λ_ H Q=>Q v H
def Mp{i:Nat}{x:Str}{pos:Pos}(U:X.N[i]?=some x)(J:Ct X.env.scope x)(hd:(x == ("__debug__":Str))=false:=by decide)(y:(x == ("__classdict__":Str))=false:=by decide):PE X (.Name x pos) (fA i):=by
 intro pins s σ H Q I h;obtain⟨v,e,h⟩:=h;obtain⟨m,hn,O⟩:=I.loc;obtain⟨u,r,l⟩:=O i x v U e J;have fin:EP X pins σ Q u s:=⟨v,H,I,r,h⟩;rcases l with⟨n,M⟩ |⟨n,c,z,j⟩
 ·exact wpAny_Name (wpAny_loadName_local I.ok.kind n hn M fin) hd
 ·rcases n with n |n
  ·exact wpAny_Name (wpAny_loadName_cell I.ok.kind n z j fin) hd
  ·exact wpAny_Name (wpAny_loadName_free I.ok.kind n z j fin y) hd
def aB{i j pos}:PE X (.Constant (.int i) j pos) (tC (.int i)):=λ_ _ _ H _ I h=>wpAny_Constant_int ⟨.int i,H,I.tok _,⟨_,Z⟩,h⟩
def iS{b j pos}:PE X (.Constant (.bool b) j pos) (tC (.bl b)):=λ_ _ _ H _ I h=>Constant_bool ⟨.bl b,H,I,Z,h⟩
def yB{j pos}:PE X (.Constant .none j pos) (tC .non):=λ_ _ _ H _ I h=>Constant_none ⟨.non,H,I,Z,h⟩
def pS{x j pos}:PE X (.Constant (.str x) j pos) (tC (.str x)):=λ_ _ _ H _ I h=>Calls.Constant_str ⟨.str x,H,I.tok _,⟨_,Z⟩,h⟩
def Gl(X:Cx)(x:Str):Prop:=X.env.kindOf x=some .globalImplicit
def oK {E:Value->Shared->Prop} {pins:List (Addr×Obj)} {s:Shared} {σ:St} {H:Hp} {x:Str} {u:Value} {pos:Pos} {Q:Value->Shared->Prop} (I:Inv X pins σ H s) (n:Gl X x) (j:X.mg x=some u) (h:Q u s)
  (hd:(x == ("__debug__":Str))=false:=by decide):wpAny (model X.prog X.w) X.A (eval (.Name x pos) X.env) Q E s:=
 Calls.Name_function_global I.ok.kind n (Calls.loadGlobal_global (by rw[I.ok.glob];exact I.mod.glob.keeps I.bk) j h) hd
def oB {E:Value->Shared->Prop} {pins:List (Addr×Obj)} {s:Shared} {σ:St} {H:Hp} {x:Str} {u:Value} {pos:Pos} {Q:Value->Shared->Prop} (I:Inv X pins σ H s) (y:Gl X x) (n:X.mg x=none) (j:bootBuiltins x=some u) (h:Q u s)
  (hn:x≠"__name__":=by decide) (hd:(x == ("__debug__":Str))=false:=by decide):wpAny (model X.prog X.w) X.A (eval (.Name x pos) X.env) Q E s:=by
 obtain⟨mb,h1,h2⟩:=I.mod.blt;exact Calls.Name_function_global I.ok.kind y (Calls.loadGlobal_builtin (by rw[I.ok.glob];exact I.mod.glob.keeps I.bk) n (by rw[I.ok.blt];exact h1.keeps I.bk) ((h2 x hn).trans j) h) hd
def yV{x:Str}{v:V}{u:Value}{pos:Pos}(hg:Gl X x)(hm:X.mg x=some u)(r:RelV v u)(hd:(x == ("__debug__":Str))=false:=by decide):PE X (.Name x pos) (tC v):=
 λ_ _ _ H _ I h=>oK I hg hm ⟨v,H,I,r,h⟩ hd
def Pc{x:Str}{v:V}{u:Value}{pos:Pos}(y:Gl X x)(n:X.mg x=none)(j:bootBuiltins x=some u)(r:RelV v u)(hn:x≠"__name__":=by decide)(hd:(x == ("__debug__":Str))=false:=by decide):PE X (.Name x pos) (tC v):=
 λ_ _ _ H _ I h=>oB I y n j ⟨v,H,I,r,h⟩ hn hd
variable {a b:Expr}{ta tb:TE}{pos:Pos}
def PC(X:Cx)(op:CmpOp)(a b:Expr)(t:TE):Prop:=
 ∀(pins:List (Addr×Obj)) (s:Shared) (σ:St) (H:Hp) (Q:VK),Inv X pins σ H s->t σ H Q->
  wpAny (model X.prog X.w) X.A (eval a X.env) (λv s₁=>wpAny (model X.prog X.w) X.A (eval b X.env) (λu s₂=>wpAny (model X.prog X.w) X.A (compareOp op v u) (EP X pins σ Q) X.xe s₂) X.xe s₁) X.xe s
def tB(t:TE):TT:=λσ H Q=>t σ H λx H1=>∃c,x=.bl c/\Q c H1
def E1{op:CmpOp}{t:TE}(h:PC X op a b t)(h1:behindInMarks op b=false:=by first |exact nobehind _ (by decide) (by decide) |rfl):PE X (.Compare a [op] [b] pos) t:=λpins s σ H Q I j=>wpAny_Compare1 (h pins s σ H Q I j) h1
def fO{e:Expr}{t:TE}(h:PE X e t)(he:∀whole,isTrue e X.env whole=(do let v <- whole;standAt e.pos;holding [v] (truthy v)):=by intro _;rfl):PT X e (tB t):=by
 intro pins s σ H Q I hw;refine isTrue_plain (aN (h pins s σ H _ I hw) λv s1 ⟨x,H1,I1,r1,q1⟩=>?_) (he _);obtain⟨d,rfl,q⟩:=q1;cases r1;exact wpAny_truthy_bool ⟨H1,I1,q⟩
variable {tA tB':TT}{rest:List Expr}
def By(t u:TT):TT:=λσ H Q=>t σ H λc H1=>if c=true then u σ H1 Q else Q false H1
def Xa(t u:TT):TT:=λσ H Q=>t σ H λc H1=>if c=true then Q true H1 else u σ H1 Q
def Br(t:TT):TT:=λσ H Q=>t σ H λc H1=>Q (!c) H1
def Fb(j:PT X a tA):PW X (.BoolOp .And [a] pos) tA:=by
 intro n pins s σ H Q I h;refine isTrue_and (aN (j pins s σ H Q I h) λc y e=>?_)
 cases c with
 |true=>exact isTrue_and_nil e
 |false=>exact e
def oF(j:PT X a tA):PW X (.BoolOp .Or [a] pos) tA:=by
 intro n pins s σ H Q I h;refine isTrue_or (aN (j pins s σ H Q I h) λc y e=>?_)
 cases c with
 |false=>exact isTrue_or_nil e
 |true=>exact e
def E3(M:PT X a tA)(J:PW X (.BoolOp .And (b::rest) pos) tB'):PW X (.BoolOp .And (a::b::rest) pos) (By tA tB'):=by
 intro y pins s σ H Q I h;refine isTrue_and (aN (M pins s σ H _ I h) λc z ⟨H1,n,j⟩=>?_)
 cases c with
 |true=>exact J y pins z σ H1 Q n j
 |false=>exact⟨H1,n,j⟩
def iT(M:PT X a tA)(J:PW X (.BoolOp .Or (b::rest) pos) tB'):PW X (.BoolOp .Or (a::b::rest) pos) (Xa tA tB'):=by
 intro y pins s σ H Q I h;refine isTrue_or (aN (M pins s σ H _ I h) λc z ⟨H1,n,j⟩=>?_)
 cases c with
 |true=>exact⟨H1,n,j⟩
 |false=>exact J y pins z σ H1 Q n j
def mB(j:PT X a tA):PT X (.UnaryOp .Not a pos) (Br tA):=by
 intro pins s σ H Q I h;exact isTrue_not (j pins s σ H (λc H1=>Q (!c) H1) I h)
def Mc(ta tb:TE):TE:=λσ H Q=>ta σ H λx H1=>∃c,x=.bl c/\if c=true then tb σ H1 Q else Q (.bl false) H1
def Bq(ta tb:TE):TE:=λσ H Q=>ta σ H λx H1=>∃c,x=.bl c/\if c=true then Q (.bl true) H1 else tb σ H1 Q
def iG{op}{t:TE}(h:PE X a t):PE X (.BoolOp op [a] pos) t:=λpins s σ H Q I j=>BoolOp_one (h pins s σ H Q I j)
def iV(M:PE X a ta)(J:PE X (.BoolOp .And (b::rest) pos) tb):PE X (.BoolOp .And (a::b::rest) pos) (Mc ta tb):=by
 intro pins s σ H Q I h;refine BoolOp_and (aN (M pins s σ H _ I h) λv y ⟨x,H1,n,z,j⟩=>?_);obtain⟨c,rfl,j⟩:=j;cases z;refine wpAny_truthy_bool ?_
 cases c with
 |true=>exact J pins y σ H1 Q n j
 |false=>exact⟨.bl false,H1,n,Z,j⟩
def Df(M:PE X a ta)(J:PE X (.BoolOp .Or (b::rest) pos) tb):PE X (.BoolOp .Or (a::b::rest) pos) (Bq ta tb):=by
 intro pins s σ H Q I h;refine BoolOp_or (aN (M pins s σ H _ I h) λv y ⟨x,H1,n,z,j⟩=>?_);obtain⟨c,rfl,j⟩:=j;cases z;refine wpAny_truthy_bool ?_
 cases c with
 |false=>exact J pins y σ H1 Q n j
 |true=>exact⟨.bl true,H1,n,Z,j⟩
def Xb(t:TT)(ta tb:TE):TE:=λσ H Q=>t σ H λc H1=>if c=true then ta σ H1 Q else tb σ H1 Q
def Qj{c:Expr}(z:PT X c tA)(M:PE X a ta)(J:PE X b tb):PE X (.IfExp c a b pos) (Xb tA ta tb):=by
 intro pins s σ H Q I h;refine wpAny_IfExp (aN (z pins s σ H _ I h) λd j ⟨H1,y,n⟩=>?_)
 cases d with
 |true=>exact M pins j σ H1 Q y n
 |false=>exact J pins j σ H1 Q y n
end
def SqL(K:Fg)(H:Hp)(a:Addr)(xs:List V):Prop:=
 Rd H a (.lst xs) ∨
  ∃(o:Obj) (its:Array Value) (n:Nat),K.lookup a=some o/\o.cls=.type "list"/\o.dict=none/\o.data=.seq its n/\its.size<=sizeLine/\Vals xs its.toList
def SqT(K:Fg)(H:Hp)(a:Addr)(xs:List V):Prop:=
 Rd H a (.tup xs) ∨
  ∃(o:Obj) (its:Array Value) (n:Nat),K.lookup a=some o/\o.cls=.type "tuple"/\o.data=.seq its n/\its.size<=sizeLine/\Vals xs its.toList
def Cs:Value->Option V
 |.none=>some .non
 |.bool b=>some (.bl b)
 |.int i _=>some (.int i)
 |.str x _=>some (.str x)
 |.bytes b _=>some (.byt b)
 |.float b _=>some (.flt b)
 |.ref a=>some (.ref a)
 |.type n=>some (.ty n)
 |_=>none
def RelV.abs{x:V}{u:Value}(r:RelV x u):Cs u=some x:=by
 cases x with
 |non=>cases r;rfl
 |bl _=>cases r;rfl
 |int _=>obtain⟨t,rfl⟩:=r;rfl
 |str _=>obtain⟨t,rfl⟩:=r;rfl
 |byt _=>obtain⟨t,rfl⟩:=r;rfl
 |flt _=>obtain⟨t,rfl⟩:=r;rfl
 |ref _=>cases r;rfl
 |ty _=>cases r;rfl
theorem RelV.inj{x y:V}{u:Value}(r:RelV x u)(q:RelV y u):x=y:=qB (r.abs.symm.trans q.abs)
theorem Vals.hd{x:V}{xs:List V}{us:List Value}(h:Vals (x::xs) us):∃u r,us=u::r/\RelV x u/\Vals xs r:=by
 cases h with
 |cons r t=>exact⟨_,_,Z,r,t⟩
def Vals.z0{us:List Value}(h:Vals [] us):us=[]:=by
 cases h;rfl
theorem Vals.inj:∀{xs ys:List V} {us:List Value},Vals xs us->Vals ys us->xs=ys
 |[],ys,us,h,h'=>by
  cases h.z0
  cases h' with
  |nil=>rfl
 |x::xs,ys,us,h,h'=>by
  obtain⟨u,r,rfl,a,t⟩:=h.hd
  cases h' with
  |cons j t'=>rw[a.inj j,Vals.inj t t']
section
variable {X:Cx}{pins:List (Addr×Obj)}{σ:St}{H:Hp}{s:Shared}{a:Addr}{xs ys:List V}
def SqL.of{K:Fg}(h:H a=some (.lst xs)):SqL K H a xs:=.inl (.inl h)
noncomputable def zC:=@SqL.of
def SqT.of{K:Fg}(h:H a=some (.tup xs)):SqT K H a xs:=.inl (.inl h)
noncomputable def zB:=@SqT.of
def Inv.list(I:Inv X pins σ H s)(h:SqL X.K H a xs):∃its:List Value,Vals xs its/\PlainL s.heap a its.toArray/\xs.length<=sizeLine:=by
 rcases h with h |⟨o,its,n,j,y,hd,hs,hz,r⟩
 ·obtain⟨z,its,n,r,e⟩:=h.ok I.hok
  exact⟨its,r,⟨_,n,e,Z,Z,Z⟩,z⟩
 ·refine⟨its.toList,r,⟨o,n,I.kIn a o j,y,hd,by simpa using hs⟩,?_⟩
  have e:=r.length;simp only[Array.length_toList]at e;omega
def Inv.tuple(I:Inv X pins σ H s)(h:SqT X.K H a xs):∃its:List Value,Vals xs its/\IsTup s.heap a its.toArray/\xs.length<=sizeLine:=by
 rcases h with h |⟨o,its,n,j,y,hs,hz,r⟩
 ·obtain⟨z,its,r,o,e,c,n,d,_⟩:=h.ok I.hok
  exact⟨its,r,⟨o,e,c,n,d⟩,z⟩
 ·refine⟨its.toList,r,⟨o,I.kIn a o j,y,n,by simpa using hs⟩,?_⟩
  have e:=r.length;simp only[Array.length_toList]at e;omega
theorem Inv.list_inj(I:Inv X pins σ H s)(h:SqL X.K H a xs)(h':SqL X.K H a ys):xs=ys:=by
 obtain⟨its,r,⟨o,n,e,_,_,d⟩,_⟩:=I.list h;obtain⟨its',y,⟨o',J,j,_,_,d'⟩,_⟩:=I.list h';rw[e]at j;cases j;rw[d]at d';injection d' with z _;have:its=its':=by simpa using congrArg Array.toList z
 subst this;exact r.inj y
theorem Inv.tuple_inj(I:Inv X pins σ H s)(h:SqT X.K H a xs)(h':SqT X.K H a ys):xs=ys:=by
 obtain⟨its,r,⟨o,e,_,n,d⟩,_⟩:=I.tuple h;obtain⟨its',y,⟨o',j,_,J,d'⟩,_⟩:=I.tuple h';rw[e]at j;cases j;rw[d]at d';injection d' with z _;have:its=its':=by simpa using congrArg Array.toList z
 subst this;exact r.inj y
end
abbrev Cx.wish(X:Cx)(E:Value->Shared->Prop):Cx:={X with xe:=E}
abbrev Cx.nox(X:Cx):Cx:=X.wish λ_ _=>False
theorem Cx.Ok.wish{X:Cx}(ok:X.Ok)(E:Value->Shared->Prop):(X.wish E).Ok:=
 ⟨ok.mod,ok.kind,ok.glob,ok.blt,ok.above,ok.inj,ok.has,ok.cab,ok.hd,ok.frames,ok.stk,ok.exf,ok.bs,ok.bsz,ok.noex,ok.exfs,ok.funs,ok.frf⟩
def Cx.Ok.unwish{X:Cx}{E:Value->Shared->Prop}(ok:(X.wish E).Ok):X.Ok:=
 ⟨ok.mod,ok.kind,ok.glob,ok.blt,ok.above,ok.inj,ok.has,ok.cab,ok.hd,ok.frames,ok.stk,ok.exf,ok.bs,ok.bsz,ok.noex,ok.exfs,ok.funs,ok.frf⟩
section
variable {X:Cx}{pins:List (Addr×Obj)}{σ:St}{H:Hp}{s:Shared}{E:Value->Shared->Prop}
theorem Inv.wish(I:Inv X pins σ H s)(E:Value->Shared->Prop):Inv (X.wish E) pins σ H s:=⟨I.ok.wish E,I.os,I.bare,I.base,I.loc,I.cell,I.free,I.freeC,I.pin,I.hok,I.len⟩
theorem Inv.unwish(I:Inv (X.wish E) pins σ H s):Inv X pins σ H s:=⟨I.ok.unwish,I.os,I.bare,I.base,I.loc,I.cell,I.free,I.freeC,I.pin,I.hok,I.len⟩
theorem SP.unwish{D:Ends}{f:Flow}{s':Shared}(h:SP (X.wish E) pins D f s'):SP X pins D f s':=by
 cases f with
 |next=>obtain⟨j,H',I,q⟩:=h;exact⟨j,H',I.unwish,q⟩
 |brk=>obtain⟨j,H',I,q⟩:=h;exact⟨j,H',I.unwish,q⟩
 |cont=>obtain⟨j,H',I,q⟩:=h;exact⟨j,H',I.unwish,q⟩
 |ret u=>obtain⟨v,j,H',I,r,q⟩:=h;exact⟨v,j,H',I.unwish,r,q⟩
theorem PSs.nox{st:List Stmt}{t:TS}(h:PSs X.nox st t):PSs X st t:=λpins s σ H D I j=>
 wpAny_mono (h pins s σ H D (I.wish _) j) (λ_ _ q=>q.unwish) λ_ _ z=>False.elim z
end
section
variable {X:Cx}{st:Stmt}{rest:List Stmt}{t u:TS}{e:Expr}{te:TE}{pos:Pos}
def Mf:TS:=λD σ H=>D.nx σ H
def oW(t u:TS):TS:=λD σ H=>t {D with nx:=u D} σ H
def pQ:PSs X [] Mf:=λ_ _ σ H _ I h=>wpAny_execs_nil ⟨σ,H,I,h⟩
def aF(h1:PS X st t)(h2:PSs X rest u):PSs X (st::rest) (oW t u):=by
 intro pins s σ H D I h;refine wpAny_execs_cons (aN (h1 pins s σ H {D with nx:=u D} I h) λf n q=>?_)
 cases f with
 |next=>
  obtain⟨j,H',y,q⟩:=q;exact h2 pins n j H' D y q
 |ret v=>exact q
 |brk=>exact q
 |cont=>exact q
def aH(h1:PS X st t):PSs X [st] t:=by
 intro pins s σ H D I h;refine wpAny_execs_cons (aN (h1 pins s σ H D I h) λf j q=>?_)
 cases f with
 |next=>exact wpAny_execs_nil q
 |ret v=>exact q
 |brk=>exact q
 |cont=>exact q
def Inv.quiet{pins:List (Addr×Obj)}{σ:St}{H:Hp}{s:Shared}(I:Inv X pins σ H s):interactive X.env=false:=by simp[interactive,I.ok.kind]
def Dq(te:TE):TS:=λD σ H=>te σ H λ_ H1=>D.nx σ H1
def cI(n:PE X e te)(hs:swapsWith e none pos.line X.env=pure false:=by rfl):PS X (.Expr e pos) (Dq te):=by
 intro pins s σ H D I h;exact wpAny_Expr_any (aN (n pins s σ H _ I h) λv z ⟨x,H1,y,J,j⟩=>⟨σ,H1,y,j⟩) I.quiet hs
def Bp(te:TE):TS:=λD σ H=>te σ H D.rt
def aO(y:PE X e te):PS X (.Return (some e) pos) (Bp te):=by
 intro pins s σ H D I h;exact wpAny_Return_some (aN (y pins s σ H _ I h) λv J ⟨x,H1,z,j,n⟩=>⟨x,σ,H1,z,j,n⟩)
def Bt(c:TT)(t u:TS):TS:=λD σ H=>c σ H λb H1=>if b=true then t D σ H1 else u D σ H1
def bM{c:Expr}{a b:List Stmt}{tc:TT}(z:PT X c tc)(M:PSs X a t)(J:PSs X b u):PS X (.If c a b pos) (Bt tc t u):=by
 intro pins s σ H D I h;refine wpAny_If (aN (z pins s σ H _ I h) λd j ⟨H1,y,n⟩=>?_)
 cases d with
 |true=>exact M pins j σ H1 D y n
 |false=>exact J pins j σ H1 D y n
def Nb:TS:=λ_ _ _=>False
def Ry:PS X st Nb:=λ_ _ _ _ _ _ h=>h.elim
end
abbrev TG:=V->St->Hp->(St->Hp->Prop)->Prop
abbrev nX:=List V->St->Hp->(St->Hp->Prop)->Prop
def PG(X:Cx)(target:Expr)(t:TG):Prop:=
 ∀(pins:List (Addr×Obj)) (s:Shared) (σ:St) (H:Hp) (v:V) (u:Value) (Q:St->Hp->Prop),Inv X pins σ H s->RelV v u->t v σ H Q->
  wpAny (model X.prog X.w) X.A (assign target X.env u) (λ_ s'=>∃σ' H',Inv X pins σ' H' s'/\Q σ' H') X.xe s
def tT(X:Cx)(ts:List Expr)(t:nX):Prop:=
 ∀(pins:List (Addr×Obj)) (s:Shared) (σ:St) (H:Hp) (vs:List V) (us:List Value) (Q:St->Hp->Prop),Inv X pins σ H s->Vals vs us->t vs σ H Q->
  wpAny (model X.prog X.w) X.A (assignInOrder ((assignEach ts X.env).map (·.2)) us) (λ_ s'=>∃σ' H',Inv X pins σ' H' s'/\Q σ' H') X.xe s
abbrev pF:=V->V->V->Hp->(Hp->Prop)->Prop
def tR(X:Cx)(t:pF):Prop:=
 ∀(pins:List (Addr×Obj)) (s:Shared) (σ:St) (H:Hp) (o i v:V) (ov iv u:Value) (Q:Hp->Prop),Inv X pins σ H s->RelV o ov->RelV i iv->RelV v u->t o i v H Q->
  wpAny (model X.prog X.w) X.A (setItem ov iv u) (λ_ s'=>∃H',Inv X pins σ H' s'/\Q H') X.xe s
section
variable {X:Cx}{pos:Pos}
def lX(i:Nat):TG:=λv σ H Q=>Q (σ.set i (some v)) H
def bS{i:Nat}{x:Str}(y:X.N.Nodup)(hi:X.N[i]?=some x)(j:tW X.env.scope x)(n:X.fn x=true\/X.env.scope.names.lookup x=some .local:=by first |exact .inl rfl |exact .inr rfl |assumption):PG X (.Name x pos) (lX i):=by
 intro pins s σ H v u Q I r h;exact wpAny_assign_Name (Gg I y hi j r (λs' z=>⟨_,H,z,h⟩) n)
def Cj:nX:=λvs σ H Q=>vs=[]/\Q σ H
def L6(t:TG)(u:nX):nX:=λvs σ H Q=>∃v r,vs=v::r/\t v σ H λσ' H'=>u r σ' H' Q
def iI:tT X [] Cj:=by
 intro pins s σ H vs us Q I r h;obtain⟨e,h⟩:=h;subst e;cases r;exact assignInOrder_nil ⟨σ,H,I,h⟩
def dN {e:Expr} {es:List Expr} {t:TG} {u:nX} (h1:PG X e t) (h2:tT X es u)
  (hs:(assignEach (e::es) X.env).map (·.2)=assign e X.env::(assignEach es X.env).map (·.2):=by rfl):tT X (e::es) (L6 t u):=by
 intro pins s σ H vs us Q I r h;obtain⟨v,O,J,h⟩:=h;subst J
 cases r with
 |cons r y=>
  rw[hs];refine assignInOrder_cons (aN (h1 pins s σ H _ _ _ I r h) λ_ n ⟨j,H1,M,z⟩=>?_);exact h2 pins n j H1 _ _ Q M y z
def tN(K:Fg)(n:Nat)(t:nX):TG:=λv σ H Q=>∃a xs,v=.ref a/\SqT K H a xs/\xs.length=n/\t xs σ H Q
def oE {es:List Expr} {k:Nat} {t:nX} {n:Nat} (Y:X.calm=true) (h:tT X es t)
  (hn:(assignEach es X.env).length=n:=by rfl) (y:(assignEach es X.env).findIdx? (·.1)=none:=by rfl):PG X (.Tuple es k pos) (tN X.K n t):=by
 intro pins s σ H v u Q I r j;obtain⟨a,xs,e1,O,U,j⟩:=j;subst e1;cases r;obtain⟨its,z,M,hz⟩:=I.tuple O;refine assign_Tuple_tuple (I.ok.hd Y) M (by simp[hn,<- U,z.length]) y λh' J=>?_;have I1:Inv X pins σ H {s with heap:=h'}:=I.kept (t':=s.toks) λb o e=>J b o (qE (z8 e)) e;exact h pins _ σ H xs _ Q I1 (by simpa using z) j
def Ci(to ti:TE)(t:pF):TG:=λv σ H Q=>to σ H λo H1=>ti σ H1 λi H2=>t o i v H2 λH3=>Q σ H3
def E2 {o i:Expr} {to z:TE} {t:pF} (ho:PE X o to) (hi:PE X i z) (hs:tR X t)
  (ha:∀v,assign (.Subscript o i pos) X.env v=(do
   let j <- holding [v] (eval o X.env)
   let n <- holding [v,j] (eval i X.env)
   standAt pos
   holding [v,j,n] (setItem j n v)
   release [v,j,n] []):=by intro _;rfl):PG X (.Subscript o i pos) (Ci to z t):=by
 intro pins s σ H v u Q I r h;rw[ha];refine zX (qO (aN (ho pins s σ H _ I h) λj M ⟨x,H1,I1,U,q1⟩=>?_));refine zX (qO (aN (hi pins M σ H1 _ I1 q1) λn J ⟨y,H2,I2,O,q2⟩=>?_));refine zX (wpAny_standAt (zX (qO (aN (hs pins J σ H2 x y v j n u _ I2 U O r q2) λ_ s3 ⟨H3,I3,Y⟩=>?_))));exact wpAny_release ⟨σ,H3,I3,Y⟩
def oX(te:TE)(g:TG):TS:=λD σ H=>te σ H λx H1=>g x σ H1 D.nx
def vP {tg e:Expr} {te:TE} {g:TG} (M:PE X e te) (J:PG X tg g) (hs:swapsWithSole [tg] e pos.line X.env=pure false:=by rfl) (z:swappedStores [tg] e X.env=pure none:=by rfl)
  (h1:(assignEach [tg] X.env).map (·.2)=[assign tg X.env]:=by rfl):PS X (.Assign [tg] e pos) (oX te g):=by
 intro pins s σ H D I h;refine wpAny_Assign_stores (aN (M pins s σ H _ I h) λv j ⟨x,H1,O,n,y⟩=>?_) hs z;rw[h1];exact aN (J pins j σ H1 x v _ O n y) λ_ U q=>q
def bI {i:Nat} {x:Str} {e:Expr} {te:TE} {pos':Pos} (hN:X.N.Nodup) (hi:X.N[i]?=some x) (hx:tW X.env.scope x) (he:PE X e te) (hs:swapsWith e (some (.Name x pos')) pos.line X.env=pure false:=by rfl) (hf:X.fn x=true\/X.env.scope.names.lookup x=some .local:=by first |exact .inl rfl |exact .inr rfl |assumption) :
  PS X (.Assign [.Name x pos'] e pos) (oX te (lX i)):=by
 intro pins s σ H D I h;refine wpAny_Assign_Name (aN (he pins s σ H _ I h) λv s1 ⟨y,H1,I1,r1,q1⟩=>?_) hs;exact Gg I1 hN hi hx r1 (λs2 I2=>⟨_,H1,I2,q1⟩) hf
end
section
variable {X:Cx}{pos:Pos}
def Eb(c:TT)(tb:TS):TS:=λD σ H=>∃W:Nat->St->Hp->Prop,(∃m,W m σ H)/\∀m σ H,W m σ H->
 c σ H λb H1=>if b=true then ∃N:St->Hp->Prop,(∀σ' H',N σ' H'->∃m',m'<m/\W m' σ' H')/\tb {D with nx:=N,ct:=N,bk:=D.nx} σ H1 else D.nx σ H1
def G2{c:Expr}{j:List Stmt}{tc:TT}{tb:TS}(hp:PassesOwn (model X.prog X.w) X.A X.env X.xe)(hc:PT X c tc)(hb:PSs X j tb):PS X (.While c j [] pos) (Eb tc tb):=by
 intro pins s σ H D I h;obtain⟨W,⟨m0,w0⟩,z⟩:=h;refine wpAny_While (codeAny_whileLoop (λn s'=>∃σ' H',Inv X pins σ' H' s'/\W n σ' H') ?_ m0 ⟨σ,H,I,w0⟩);rintro n s1 ⟨M,H1,I1,w1⟩;refine wpAny_passesOwn hp (aN (hc pins s1 M H1 _ I1 (z n M H1 w1)) λb s2 ⟨H2,I2,U⟩=>?_)
 cases b with
 | true=>
  obtain⟨N,hN,U⟩:=U;rw[if_pos Z];refine wpAny_passesOwn hp (aN (hb pins s2 M H2 _ I2 U) λf s3 O=>?_)
  cases f with
  |next=>
   obtain⟨y,J,I3,n3⟩:=O;obtain⟨m',hm,Y⟩:=hN y J n3;exact⟨m',hm,y,J,I3,Y⟩
  |cont=>
   obtain⟨y,J,I3,n3⟩:=O;obtain⟨m',hm,Y⟩:=hN y J n3;exact⟨m',hm,y,J,I3,Y⟩
  |brk=>exact O
  |ret v=>exact O
 |false=>
  rw[if_neg qA];exact wpAny_execs_nil ⟨M,H2,I2,U⟩
end
structure It where
 go:Nat->Hp->Prop
 yld:Nat->Hp->V->Hp->Prop
 stop:Nat->Hp->Prop
def FpOk(X:Cx)(pins:List (Addr×Obj))(H:Hp)(b:Addr):Prop:=
 H b=none/\b≠X.env.locals/\b ∉X.fs/\(b∈X.ex\/X.s₀.heap.objs.size<=b)/\(∀x c,X.env.cells.lookup x=some c->c≠b)/\∀p∈X.pn++pins,p.1≠b
def Inv.fpOk{X:Cx}{pins:List (Addr×Obj)}{σ:St}{H H':Hp}{s:Shared}{b:Addr}(I:Inv X pins σ H s)(j:s.heap.objs.size<=b)(hn:H' b=none):FpOk X pins H' b:=by
 refine⟨hn,Nat.ne_of_gt (qF I.lt j),I.nofs j,.inr (zY I.sz j),λx c e z=>?_,λp n z=>?_⟩
 ·obtain⟨v,q⟩:=I.cell x c e
  exact absurd (qF q.lt (by rw[z];exact j)) (qJ _)
 ·exact absurd (qF (z8 (I.pin p n).1) (by rw[z];exact j)) (qJ _)
structure Turn(P:Program)(w:World)(K:Fg)(tg:Expr)(J:It)(fp:List Addr)(it:Addr)(tn:Nat->Heap->Prop)(Cp:Cx->Prop:=λX=>X.calm=true):Prop where
 mem:it∈fp
 obj:∀i h,tn i h->∀b∈fp,∃o,h.get? b=some o/\∀v,o.data≠.cell v
 keep:∀i h h',tn i h->(∀b∈fp,∀o,h.get? b=some o->h'.get? b=some o)->tn i h'
 item:∀(X:Cx),X.prog=P->X.w=w->X.K=K->Cp X->∀(i:Nat) (pins:List (Addr×Obj)) (s:Shared) (σ:St) (H:Hp) (E:Value->Shared->Prop),Inv X pins σ H s->(∀b∈fp,FpOk X pins H b)->tn i s.heap->J.go i H->
  wpAny (model P w) X.A (pyNext (.ref it)) (λr s1=>∃u,r=some u ∧
   wpAny (model P w) X.A (letOwnedTupleGo tg (.ref it) u) (λ_ s2=>∃x H',Inv X pins σ H' s2/\RelV x u/\J.yld i H x H'/\tn (i+1) s2.heap/\∀b∈fp,H' b=none) E s1) E s
 done:∀(X:Cx),X.prog=P->X.w=w->X.K=K->Cp X->∀(i:Nat) (pins:List (Addr×Obj)) (s:Shared) (σ:St) (H:Hp) (E:Value->Shared->Prop),Inv X pins σ H s->(∀b∈fp,FpOk X pins H b)->tn i s.heap->J.stop i H->
  wpAny (model P w) X.A (pyNext (.ref it)) (λr s1=>r=none/\Inv X pins σ H s1) E s
 self:∀(A:Around) (i:Nat) (s:Shared) (Q:Value->Shared->Prop) (E:Value->Shared->Prop),tn i s.heap->Q (.ref it) s->wpAny (model P w) A (pyIter (.ref it)) Q E s
abbrev TI:=St->Hp->(It->Hp->Prop)->Prop
def tS(Cp:Cx->Prop)(X:Cx)(pins:List (Addr×Obj))(σ:St)(tg:Expr)(R:It->Hp->Prop)(itv:Value)(s2:Shared):Prop:=
 ∃(it:Addr) (fp:List Addr) (tn:Nat->Heap->Prop) (J:It) (H':Hp),itv=.ref it/\Inv X pins σ H' s2/\Turn X.prog X.w X.K tg J fp it tn Cp/\tn 0 s2.heap/\(∀b∈fp,FpOk X pins H' b)/\R J H'
def Cw(X:Cx)(pins:List (Addr×Obj))(σ:St)(tg:Expr)(R:It->Hp->Prop)(itv:Value)(s2:Shared):Prop:=
 ∃(it:Addr) (fp:List Addr) (tn:Nat->Heap->Prop) (J:It) (H':Hp),itv=.ref it/\Inv X pins σ H' s2/\Turn X.prog X.w X.K tg J fp it tn/\tn 0 s2.heap/\(∀b∈fp,FpOk X pins H' b)/\R J H'
def PI(X:Cx)(tg iter:Expr)(wi:TI):Prop:=
 ∀(pins:List (Addr×Obj)) (s:Shared) (σ:St) (H:Hp) (R:It->Hp->Prop),Inv X pins σ H s->wi σ H R->
  wpAny (model X.prog X.w) X.A (eval iter X.env) (λv s1=>wpAny (model X.prog X.w) X.A (pyIter v) (Cw X pins σ tg R) X.xe s1) X.xe s
def rR  {M:Model} {A:Around} {E:Value->Shared->Prop} {s:Shared} {tg:Expr} {it:Addr} {u:Value} {o:Obj} {n:String} {vs:Array Value} {Q:Unit->Shared->Prop} (ho:s.heap.get? it=some o) (hc:o.cls=.type n) (hd:o.data=.fields vs)
    (hn:["enumerate","zip","dict_itemiterator","dict_reverseitemiterator","odict_iterator","itertools.zip_longest","itertools.pairwise"].contains n=false) (hQ:Q () s):wpAny M A (letOwnedTupleGo tg (.ref it) u) Q E s:=by
  unfold letOwnedTupleGo
  cases tg <;> first
    |exact z7 hQ
    |(cases u <;> first
        |exact z7 hQ
        | (refine zX (wpAny_load ho ?_)
           rw[hc,hd];show wpAny M A (if (["enumerate","zip","dict_itemiterator","dict_reverseitemiterator","odict_iterator","itertools.zip_longest","itertools.pairwise"].contains n && vs[0]? == some (rawInt _))=true then _ else _) Q E s;rw[if_neg (by intro h;rw[hn,Bool.false_and]at h;cases h)];exact z7 hQ))
def pP(K:Fg)(a:Addr):It:=
 ⟨λi H=>∃xs x,SqL K H a xs/\xs[i]?=some x,λi H x H'=>H'=H/\∀xs,SqL K H a xs->xs[i]?=some x,λi H=>∃xs,SqL K H a xs/\xs.length<=i⟩
def pM(K:Fg)(a:Addr):It:=
 ⟨λi H=>∃xs x,SqT K H a xs/\xs[i]?=some x,λi H x H'=>H'=H/\∀xs,SqT K H a xs->xs[i]?=some x,λi H=>∃xs,SqT K H a xs/\xs.length<=i⟩
def pO(lo:Int)(n:Nat):It:=⟨λi _=>i<n,λi H x H'=>H'=H/\x=.int (lo+i),λi _=>n<=i⟩
def Uj{P:Program}{w:World}{K:Fg}{tg:Expr}(a it:Addr):Turn P w K tg (pP K a) [it] it (λi h=>h.IsListIter it a i) where
 mem:=by simp
 obj:=λi h st b j=>by
  have e:b=it:=by simpa using j
  subst e;obtain⟨o,e,c,d⟩:=st;exact⟨o,e,λv z=>by rw[d]at z;cases z⟩
 keep:=λi h h' st k=>st.at λo e=>k it (by simp) o e
 item:=by
  intro X Y O hK hc i pins s σ H E I y st U;subst Y O hK;obtain⟨xs,x,n,M⟩:=U;obtain⟨its,J,p,hz⟩:=I.list n;obtain⟨u,hu,ru⟩:=J.get M;obtain⟨f0,f1,f2,f3,f4,f5⟩:=y it (by simp);refine wpAny_pyNext_list_item st p.isList (x:=u) (by simpa using hu) λh' st' sb=>?_;have I1:Inv X pins σ H {s with heap:=h'}:=I.turned (t':=s.toks) (λb o j e=>(sb.2 b j).trans e) f0 f1 f3 f4 f5;obtain⟨o,e,c,d⟩:=id st';exact⟨u,Z,rR (s:={s with heap:=h'}) e c d (by decide) ⟨x,H,I1,ru,⟨Z,λys hy=>by rw[I.list_inj hy n];exact M⟩,st',λb j=>(y b j).1⟩⟩
 done:=by
  intro X Y O hK hc i pins s σ H E I y st U;subst Y O hK;obtain⟨xs,n,M⟩:=U;obtain⟨its,J,p,hz⟩:=I.list n;obtain⟨f0,f1,f2,f3,f4,f5⟩:=y it (by simp);have hl:=J.length;exact wpAny_pyNext_list_end (I.ok.hd hc) st p.isList (by simp;omega) λh' eb=>⟨Z,I.turned (t':=s.toks) (λb o j e=>eb b o j e) f0 f1 f3 f4 f5⟩
 self:=λ_ _ _ _ _ st h=>wpAny_pyIter_listiter st h
def Uz{P:Program}{w:World}{K:Fg}{tg:Expr}(a it:Addr):Turn P w K tg (pM K a) [it] it (λi h=>h.IsTupleIter it a i) where
 mem:=by simp
 obj:=λi h st b j=>by
  have e:b=it:=by simpa using j
  subst e;obtain⟨o,e,c,d⟩:=st;exact⟨o,e,λv z=>by rw[d]at z;cases z⟩
 keep:=λi h h' st k=>st.at λo e=>k it (by simp) o e
 item:=by
  intro X Y O hK hc i pins s σ H E I y st U;subst Y O hK;obtain⟨xs,x,n,M⟩:=U;obtain⟨its,J,p,hz⟩:=I.tuple n;obtain⟨u,hu,ru⟩:=J.get M;obtain⟨f0,f1,f2,f3,f4,f5⟩:=y it (by simp);refine wpAny_pyNext_tuple_item st (show s.heap.IsTuple a its.toArray from p) (x:=u) (by simpa using hu) λh' st' sb=>?_;have I1:Inv X pins σ H {s with heap:=h'}:=I.turned (t':=s.toks) (λb o j e=>(sb.2 b j).trans e) f0 f1 f3 f4 f5;obtain⟨o,e,c,d⟩:=id st';exact⟨u,Z,rR (s:={s with heap:=h'}) e c d (by decide) ⟨x,H,I1,ru,⟨Z,λys hy=>by rw[I.tuple_inj hy n];exact M⟩,st',λb j=>(y b j).1⟩⟩
 done:=by
  intro X Y O hK hc i pins s σ H E I y st U;subst Y O hK;obtain⟨xs,n,M⟩:=U;obtain⟨its,J,p,hz⟩:=I.tuple n;obtain⟨f0,f1,f2,f3,f4,f5⟩:=y it (by simp);have hl:=J.length;exact wpAny_pyNext_tuple_end (I.ok.hd hc) st (show s.heap.IsTuple a its.toArray from p) (by simp;omega) λh' eb=>⟨Z,I.turned (t':=s.toks) (λb o j e=>eb b o j e) f0 f1 f3 f4 f5⟩
 self:=λ_ _ _ _ _ st h=>wpAny_pyIter_tupleiter st h
def Uy{P:Program}{w:World}{K:Fg}{tg:Expr}(it:Addr)(lo:Int)(n:Nat):Turn P w K tg (pO lo n) [it] it (λi h=>IsRangeIter h it (lo+(i:Nat)*1) ((n:Int)-(i:Nat)) 1) where
 mem:=by simp
 obj:=λi h st b j=>by
  have e:b=it:=by simpa using j
  subst e
  exact⟨_,st,λv z=>by
   have z':Data.fields _=Data.cell v:=z;cases z'⟩
 keep:=λi h h' st k=>k it (by simp) _ st
 item:=by
  intro X U J Y O i pins s σ H E I y st M;subst U J Y;obtain⟨f0,f1,f2,f3,f4,f5⟩:=y it (by simp);have W:=Walks.range (prog:=X.prog) (w:=X.w) (I.ok.hd O) it lo 1 n;refine W.item i s _ _ M st λv h' tk hv st' kk=>?_;obtain⟨t,rfl⟩:=hv;have I1:Inv X pins σ H {s with heap:=h',toks:=tk}:=I.turned (λb o j e=>kk b o (by simpa using j) e) f0 f1 f3 f4 f5;refine⟨_,Z,rR (s:={s with heap:=h',toks:=tk}) (n:="range_iterator") st' Z Z (by decide) ⟨.int (lo+i),H,I1,⟨t,?_⟩,⟨Z,Z⟩,st',λb j=>(y b j).1⟩⟩;rw[Int.mul_one]
 done:=by
  intro X U J Y O i pins s σ H E I y st M;subst U J Y;obtain⟨f0,f1,f2,f3,f4,f5⟩:=y it (by simp);exact wpAny_pyNext_range_end (I.ok.hd O) st (by have:n<=i:=M;omega) λh' eb=>⟨Z,I.turned (t':=s.toks) (λb o j e=>eb b o j e) f0 f1 f3 f4 f5⟩
 self:=λ_ _ _ _ _ st h=>wpAny_pyIter_rangeiter st h
section
variable {X:Cx}{tg:Expr}
def Lc(K:Fg)(tl:TE):TI:=λσ H R=>tl σ H λx H1=>∃a,x=.ref a/\(∃xs,SqL K H1 a xs)/\R (pP K a) H1
def Cf(K:Fg)(tl:TE):TI:=λσ H R=>tl σ H λx H1=>∃a,x=.ref a/\(∃xs,SqT K H1 a xs)/\R (pM K a) H1
def mG{l:Expr}{tl:TE}(M:PE X l tl):PI X tg l (Lc X.K tl):=by
 intro pins s σ H R I h;refine aN (M pins s σ H _ I h) λv j ⟨x,H1,n,y,z⟩=>?_;obtain⟨a,e,⟨xs,J⟩,q⟩:=z;subst e;cases y;obtain⟨its,U,p,hz⟩:=n.list J;refine wpAny_pyIter_list p.isList ?_;refine⟨j.heap.objs.size,[j.heap.objs.size],_,_,H1,Z,n.kept (t':=j.toks) λb o e=>aT _ e,Uj a _,⟨_,z9 _ Z,Z,Z⟩,λb O=>?_,q⟩;have e:b=j.heap.objs.size:=by simpa using O
 subst e;exact n.fpOk (zZ _) (n.hok.fresh (zZ _))
def iW{l:Expr}{tl:TE}(M:PE X l tl):PI X tg l (Cf X.K tl):=by
 intro pins s σ H R I h;refine aN (M pins s σ H _ I h) λv j ⟨x,H1,n,y,z⟩=>?_;obtain⟨a,e,⟨xs,J⟩,q⟩:=z;subst e;cases y;obtain⟨its,U,p,hz⟩:=n.tuple J;refine wpAny_pyIter_tuple (show j.heap.IsTuple a its.toArray from p) ?_;refine⟨j.heap.objs.size,[j.heap.objs.size],_,_,H1,Z,n.kept (t':=j.toks) λb o e=>aT _ e,Uz a _,⟨_,z9 _ Z,Z,Z⟩,λb O=>?_,q⟩;have e:b=j.heap.objs.size:=by simpa using O
 subst e;exact n.fpOk (zZ _) (n.hok.fresh (zZ _))
def Qw {pins:List (Addr×Obj)} {σ:St} {H:Hp} {s:Shared} {R:It->Hp->Prop} {E:Value->Shared->Prop} {lo hi:Int} {t u v:Tok} {tk:Nat} (I:Inv X pins σ H s) (h1:-(2 ^ 62)<=lo) (h2:lo<2 ^ 62) (h3:-(2 ^ 62)<=hi) (h4:hi<2 ^ 62)
  (q:R (pO lo (hi-lo).toNat) H):wpAny (model X.prog X.w) X.A (pyIter (.ref s.heap.objs.size)) (Cw X pins σ tg R) E {s with heap:=s.heap.push {cls:=.type "range",data:=.fields #[.int lo t,.int hi u,.int 1 v]},toks:=tk}:=by
 refine wpAny_pyIter_range (IsRange.new ..) (small_one h1 h2 h3 h4) ?_;have I1:Inv X pins σ H {s with heap:=s.heap.push {cls:=.type "range",data:=.fields #[.int lo t,.int hi u,.int 1 v]},toks:=tk}:=I.kept λb o e=>aT _ e
 refine⟨(s.heap.push {cls:=.type "range",data:=.fields #[.int lo t,.int hi u,.int 1 v]}).objs.size,[(s.heap.push {cls:=.type "range",data:=.fields #[.int lo t,.int hi u,.int 1 v]}).objs.size],_,_,H,rfl,
  I1.kept (t':=tk) λb o e=>aT _ e,Uy _ lo (hi-lo).toNat,?_,λb hb=>?_,q⟩
 ·have e1:lo+((0:Nat):Int)*1=lo:=by simp
  have e2:(((hi-lo).toNat:Nat):Int)-((0:Nat):Int)=Builtin.Range.rangeSize lo hi 1:=by rw[rangeSize_one];split <;> omega
  show IsRangeIter _ _ (lo+((0:Nat):Int)*1) ((((hi-lo).toNat:Nat):Int)-((0:Nat):Int)) 1;rw[e1,e2];exact z9 _ rfl
 ·have e:b=(s.heap.push {cls:=.type "range",data:=.fields #[.int lo t,.int hi u,.int 1 v]}).objs.size:=by simpa using hb
  subst e;exact I1.fpOk (zZ _) (I1.hok.fresh (zZ _))
def Ld(ta:TA):TI:=λσ H R=>ta σ H λvs H1=>∃j:Int,vs=[.int j]/\-(2 ^ 62)<=j/\j<2 ^ 62/\R (pO 0 j.toNat) H1
def oR{a:Expr}{ta:TA}{p pos:Pos}(O:Gl X "range")(M:X.mg "range"=none)(U:PA X [a] ta)(hs:starEach [a] X.env=[(false,eval a X.env)]:=by rfl):PI X tg (.Call (.Name "range" p) [a] [] pos) (Ld ta):=by
 intro pins s σ H R I h;refine Call_ (oB I O M boot_range (PyProof.Rows.callWith_type1 (aN (U pos pins s σ H _ I h) λus s1 ⟨vs,H1,Y,z,n⟩=>?_) hs Z));obtain⟨j,e,n,J,q⟩:=n;subst e
 cases z with
 |cons r y=>
  cases y;obtain⟨t,rfl⟩:=r;exact call_range_1 (Qw Y (by omega) (by omega) n J (by simpa using q))
def Bu(wi:TI)(g:TG)(tb:TS):TS:=λD σ H=>wi σ H λJ H1=>∃W:Nat->Nat->St->Hp->Prop,(∃m,W 0 m σ H1)/\∀i m σ H,W i m σ H->
 (J.stop i H/\D.nx σ H)\/(J.go i H/\∃N:St->Hp->Prop,(∀σ' H',N σ' H'->∃m',m'<m/\W (i+1) m' σ' H')/\∀x H',J.yld i H x H'->g x σ H' λσ2 H2=>tb {D with nx:=N,ct:=N,bk:=D.nx} σ2 H2)
def sC(fp:List Addr)(h:Heap):List (Addr×Obj):=fp.filterMap λb=>(h.get? b).map λo=>(b,o)
def xA{j:List Addr}{h:Heap}{b:Addr}{o:Obj}(n:b∈j)(e:h.get? b=some o):(b,o)∈sC j h:=List.mem_filterMap.mpr ⟨b,n,by rw[e];rfl⟩
def Tf{j:List Addr}{h:Heap}{p:Addr×Obj}(n:p∈sC j h):p.1∈j/\h.get? p.1=some p.2:=by
 obtain⟨b,y,e⟩:=List.mem_filterMap.mp n
 cases q:h.get? b with
 |none=>rw[q]at e;cases e
 |some o=>
  rw[q]at e;have z:(b,o)=p:=qB e;subst z;exact⟨y,q⟩
def Inv.pinned{pins:List (Addr×Obj)}{σ:St}{H:Hp}{s:Shared}{j:List Addr}(I:Inv X pins σ H s)(O:∀b∈j,FpOk X pins H b)(M:∀b∈j,∃o,s.heap.get? b=some o/\∀v,o.data≠.cell v):Inv X (pins++sC j s.heap) σ H s:=
 I.pins_of λp J=>(eA J).elim (λz=>I.pin p (zJ _ z)) λz=>by
  obtain⟨n,e⟩:=Tf z;obtain⟨f0,Y,U,_⟩:=O p.1 n;obtain⟨o,y,d⟩:=M p.1 n;rw[e]at y;cases y;exact⟨e,f0,Y,U,d⟩
def Inv.unpinned{pins pl:List (Addr×Obj)}{σ:St}{H:Hp}{s:Shared}(I:Inv X (pins++pl) σ H s):Inv X pins σ H s:=I.pins_of λp j=>I.pin p (zJ _ (zR _ j))
def gX {z:Expr} {a0:List Stmt} {wi:TI} {g:TG} {tb:TS} {pos:Pos} (hp:PassesOwn (model X.prog X.w) X.A X.env X.xe) (hc:X.calm=true) (hi:PI X tg z wi) (hg:PG X tg g) (M:PSs X a0 tb)
  (hs:∀x,foldedSetIterable z X.env x=pure x:=by intro _;rfl):PS X (.For tg z a0 [] pos) (Bu wi g tb):=by
 intro pins s σ H D I h;refine wpAny_For (aN (hi pins s σ H _ I h) λv s1 h1=>aN h1 λa9 s2 h2=>?_) hs;obtain⟨it,fp,tn,J,H2,e,I2,T,a6,f2,W,⟨m0,w0⟩,a2⟩:=h2;subst e;have y:∀{H':Hp},(∀b∈fp,H' b=none)->∀b∈fp,FpOk X pins H' b:=λhn b M=>⟨hn b M,(f2 b M).2⟩;refine codeAny_forLoop_any (λn s'=>∃i σ' H',Inv X pins σ' H' s'/\tn i s'.heap/\(∀b∈fp,H' b=none)/\W i n σ' H') ?_ m0 ⟨0,σ,H2,I2,a6,λb M=>(f2 b M).1,w0⟩;rintro n s3 ⟨i,σ3,H3,I3,a4,a5,w3⟩;rcases a2 i n σ3 H3 w3 with⟨a3,qn⟩ |⟨go,N,hN,step⟩
 ·refine wpAny_passesOwn hp (aN (T.done X Z Z Z hc i pins s3 σ3 H3 X.xe I3 (y a5) a4 a3) λr s4 ⟨hr,I4⟩=>?_)
  subst hr;exact wpAny_execs_nil ⟨σ3,H3,I4,qn⟩
 ·refine wpAny_passesOwn hp (aN (T.item X Z Z Z hc i pins s3 σ3 H3 X.xe I3 (y a5) a4 go) λr s4 ⟨u,hr,h4⟩=>?_)
  subst hr;refine wpAny_passesOwn hp (aN h4 λ_ s5 ⟨x,H5,I5,r5,y5,a1,a7⟩=>?_);have a8:=I5.pinned (y a7) (T.obj _ _ a1);refine wpAny_passesOwn hp (aN (hg _ s5 σ3 H5 x u _ a8 r5 (step x H5 y5)) λ_ s6 ⟨σ6,H6,I6,q6⟩=>?_);refine wpAny_passesOwn hp (aN (M _ s6 σ6 H6 _ I6 q6) λf s7 q7=>?_)
  have O:∀{j:St} {Y:Hp},Inv X (pins++sC fp s5.heap) j Y s7->N j Y->∃m,m<n/\∃i σ' H',Inv X pins σ' H' s7/\tn i s7.heap/\(∀b∈fp,H' b=none)/\W i m σ' H':=λ{j Y} U n7=>by
   obtain⟨m',hm,w7⟩:=hN j Y n7;refine⟨m',hm,i+1,j,Y,U.unpinned,T.keep _ _ _ a1 λb M o e=>(U.pin (b,o) (zJ _ (zJ _ (xA M e)))).1,λb M=>?_,w7⟩;obtain⟨o,e,d⟩:=T.obj _ _ a1 b M;exact(U.pin (b,o) (zJ _ (zJ _ (xA M e)))).2.1
  cases f with
  |next=>obtain⟨j,Y,U,n7⟩:=q7;exact O U n7
  |cont=>obtain⟨j,Y,U,n7⟩:=q7;exact O U n7
  |brk=>obtain⟨j,Y,U,q7⟩:=q7;exact⟨j,Y,U.unpinned,q7⟩
  |ret v=>obtain⟨x7,j,Y,U,r7,q7⟩:=q7;exact⟨x7,j,Y,U.unpinned,r7,q7⟩
end
def Ag {K:Fg} {a:Addr} {xs:List V} {g:TG} {tb:TS} {D:Ends} {σ:St} {H:Hp} (Pv:Nat->St->Hp->Prop) (h0:Pv 0 σ H) (hl:∀i σ H,i<=xs.length->Pv i σ H->SqL K H a xs)
  (hs:∀i x σ H,xs[i]?=some x->Pv i σ H->g x σ H λσ2 H2=>tb {D with nx:=Pv (i+1),ct:=Pv (i+1),bk:=D.nx} σ2 H2) (hd:∀σ H,Pv xs.length σ H->D.nx σ H) :
  ∃W:Nat->Nat->St->Hp->Prop,(∃m,W 0 m σ H)/\∀i m σ H,W i m σ H->
   ((pP K a).stop i H/\D.nx σ H)\/((pP K a).go i H/\∃N:St->Hp->Prop,(∀σ' H',N σ' H'->∃m',m'<m/\W (i+1) m' σ' H')/\∀x H',(pP K a).yld i H x H'->g x σ H' λσ2 H2=>tb {D with nx:=N,ct:=N,bk:=D.nx} σ2 H2):=by
 refine⟨λi m σ H=>m=xs.length-i/\i<=xs.length/\Pv i σ H,⟨xs.length,by simp,qR _,h0⟩,?_⟩;rintro i m σ H ⟨rfl,hi,p⟩;have q:=hl i σ H hi p;by_cases hlt:i<xs.length
 ·refine .inr ⟨⟨xs,xs[i],q,by simp[hlt]⟩,Pv (i+1),λσ' H' p'=>⟨xs.length-(i+1),by omega,rfl,hlt,p'⟩,λx H' y=>?_⟩
  obtain⟨e,y⟩:=y;subst e;exact hs i x σ _ (y xs q) p
 ·have e:i=xs.length:=by omega
  subst e;exact .inl ⟨⟨xs,q,zZ _⟩,hd σ H p⟩
def zS {K:Fg} {a:Addr} {xs:List V} {g:TG} {tb:TS} {D:Ends} {σ:St} {H:Hp} (j:Nat->St->Hp->Prop) (h0:j 0 σ H) (O:∀i σ H,i<=xs.length->j i σ H->SqT K H a xs)
  (hs:∀i x σ H,xs[i]?=some x->j i σ H->g x σ H λz H2=>tb {D with nx:=j (i+1),ct:=j (i+1),bk:=D.nx} z H2) (hd:∀σ H,j xs.length σ H->D.nx σ H) :
  ∃W:Nat->Nat->St->Hp->Prop,(∃m,W 0 m σ H)/\∀i m σ H,W i m σ H->
   ((pM K a).stop i H/\D.nx σ H)\/((pM K a).go i H/\∃N:St->Hp->Prop,(∀I H',N I H'->∃J,J<m/\W (i+1) J I H')/\∀x H',(pM K a).yld i H x H'->g x σ H' λz H2=>tb {D with nx:=N,ct:=N,bk:=D.nx} z H2):=by
 refine⟨λi m σ H=>m=xs.length-i/\i<=xs.length/\j i σ H,⟨xs.length,by simp,qR _,h0⟩,?_⟩;rintro i m σ H ⟨rfl,hi,p⟩;have q:=O i σ H hi p;by_cases n:i<xs.length
 ·refine .inr ⟨⟨xs,xs[i],q,by simp[n]⟩,j (i+1),λI H' M=>⟨xs.length-(i+1),by omega,Z,n,M⟩,λx H' y=>?_⟩
  obtain⟨e,y⟩:=y;subst e;exact hs i x σ _ (y xs q) p
 ·have e:i=xs.length:=by omega
  subst e;exact .inl ⟨⟨xs,q,zZ _⟩,hd σ H p⟩
def wU {lo:Int} {n:Nat} {g:TG} {tb:TS} {D:Ends} {σ:St} {H:Hp} (z:Nat->St->Hp->Prop) (h0:z 0 σ H)
  (hs:∀i σ H,i<n->z i σ H->g (.int (lo+i)) σ H λI H2=>tb {D with nx:=z (i+1),ct:=z (i+1),bk:=D.nx} I H2) (hd:∀σ H,z n σ H->D.nx σ H) :
  ∃W:Nat->Nat->St->Hp->Prop,(∃m,W 0 m σ H)/\∀i m σ H,W i m σ H->
   ((pO lo n).stop i H/\D.nx σ H)\/((pO lo n).go i H/\∃N:St->Hp->Prop,(∀J H',N J H'->∃M,M<m/\W (i+1) M J H')/\∀x H',(pO lo n).yld i H x H'->g x σ H' λI H2=>tb {D with nx:=N,ct:=N,bk:=D.nx} I H2):=by
 refine⟨λi m σ H=>m=n-i/\i<=n/\z i σ H,⟨n,by simp,qR _,h0⟩,?_⟩;rintro i m σ H ⟨rfl,hi,p⟩;by_cases j:i<n
 ·refine .inr ⟨j,z (i+1),λJ H' O=>⟨n-(i+1),by omega,Z,j,O⟩,λx H' y=>?_⟩
  obtain⟨e,y⟩:=y;subst e y;exact hs i σ _ j p
 ·have e:i=n:=by omega
  subst e;exact .inl ⟨zZ _,hd σ H p⟩
def Rm {c:TT} {tb:TS} {D:Ends} {σ:St} {H:Hp} (Pv:St->Hp->Prop) (μ:St->Hp->Nat) (h0:Pv σ H)
  (hs:∀σ H,Pv σ H->c σ H λb H1=>if b=true then tb {D with nx:=λσ' H'=>Pv σ' H'/\μ σ' H'<μ σ H,ct:=λσ' H'=>Pv σ' H'/\μ σ' H'<μ σ H,bk:=D.nx} σ H1 else D.nx σ H1)
  (mono:∀σ H Q Q',(∀b H1,Q b H1->Q' b H1)->c σ H Q->c σ H Q'):Eb c tb D σ H:=by
 refine⟨λm σ H=>m=μ σ H/\Pv σ H,⟨_,rfl,h0⟩,?_⟩;rintro m σ H ⟨rfl,p⟩;refine mono σ H _ _ (λb H1 q=>?_) (hs σ H p)
 cases b with
 |true=>exact⟨_,λσ' H' ⟨p',l⟩=>⟨_,l,rfl,p'⟩,q⟩
 |false=>exact q
abbrev R2:=V->V->Hp->VK->Prop
def cS(X:Cx)(f:Value->Value->Sem Value)(r:R2):Prop:=
 ∀(pins:List (Addr×Obj)) (s:Shared) (σ:St) (H:Hp) (x y:V) (v u:Value) (Q:VK),Inv X pins σ H s->RelV x v->RelV y u->r x y H Q->
  wpAny (model X.prog X.w) X.A (f v u) (EP X pins σ Q) X.xe s
def Cu(X:Cx)(f:Value->Sem Value)(r:V->Hp->VK->Prop):Prop:=
 ∀(pins:List (Addr×Obj)) (s:Shared) (σ:St) (H:Hp) (x:V) (v:Value) (Q:VK),Inv X pins σ H s->RelV x v->r x H Q->
  wpAny (model X.prog X.w) X.A (f v) (EP X pins σ Q) X.xe s
def CallR(X:Cx)(f:Value)(r:List V->Hp->VK->Prop):Prop:=
 ∀(pins:List (Addr×Obj)) (s:Shared) (σ:St) (H:Hp) (xs:List V) (us:List Value) (Q:VK),Inv X pins σ H s->Vals xs us->r xs H Q->
  wpAny (model X.prog X.w) X.A (call f us) (EP X pins σ Q) X.xe s
def xK(r:R2)(ta tb:TE):TE:=λσ H Q=>ta σ H λx H1=>tb σ H1 λy H2=>r x y H2 Q
def X8(r:V->Hp->VK->Prop)(ta:TE):TE:=λσ H Q=>ta σ H λx H1=>r x H1 Q
def rI(C:Int->Int->Prop)(g:Int->Int->V):R2:=λx y H Q=>∃i j,x=.int i/\y=.int j/\C i j/\Q (g i j) H
def nU(g:Int->Int->V):R2:=λx y H Q=>∃i j,x=.int i/\y=.int j/\Q (g i j) H
def rU(g:Int->V):V->Hp->VK->Prop:=λx H Q=>∃i,x=.int i/\Q (g i) H
section
variable {X:Cx}{a b c:Expr}{ta tb tc:TE}{pos:Pos}
def pE (ha:PE X a ta) (hb:PE X b tb) {pins:List (Addr×Obj)} {s:Shared} {σ:St} {H:Hp} {R:V->V->Hp->Prop} (I:Inv X pins σ H s)
  (h:ta σ H λx H1=>tb σ H1 λy H2=>R x y H2) {Q:Value->Shared->Prop} {f:Value->Value->Sem Value}
  (hf:∀v u j x y H2,Inv X pins σ H2 j->RelV x v->RelV y u->R x y H2->wpAny (model X.prog X.w) X.A (f v u) Q X.xe j) :
  wpAny (model X.prog X.w) X.A (eval a X.env) (λv z=>wpAny (model X.prog X.w) X.A (eval b X.env) (λu n=>wpAny (model X.prog X.w) X.A (f v u) Q X.xe n) X.xe z) X.xe s:=by
 refine aN (ha pins s σ H _ I h) λv J ⟨x,H1,I1,O,Y⟩=>?_;refine aN (hb pins J σ H1 _ I1 Y) λu j ⟨y,H2,I2,M,U⟩=>?_;exact hf v u j x y H2 I2 O M U
def aU{op:Operator}{r:R2}(J:cS X (binaryOp op) r)(O:PE X a ta)(M:PE X b tb):PE X (.BinOp a op b pos) (xK r ta tb):=by
 intro pins s σ H Q I h;exact wpAny_BinOp (pE O M I h λv u j x y H2 U z n q=>J pins j σ H2 x y v u Q U z n q)
def xV{op:UnaryOp}{r:V->Hp->VK->Prop}(z:Cu X (unaryOp op) r)(J:PE X a ta):PE X (.UnaryOp op a pos) (X8 r ta):=by
 intro pins s σ H Q I h;exact UnaryOp_ (aN (J pins s σ H _ I h) λv j ⟨x,H1,M,n,y⟩=>z pins j σ H1 x v Q M n y)
def xM {f:Value->Value->Sem Value} {C:Int->Int->Prop} {g:Int->Int->Int}
  (n:∀(i j:Int) (t u:Tok) (s:Shared) (Q:Value->Shared->Prop) (E:Value->Shared->Prop),C i j->Q (.int (g i j) s.toks) {s with toks:=s.toks+1}->wpAny (model X.prog X.w) X.A (f (.int i t) (.int j u)) Q E s) :
  cS X f (rI C λi j=>.int (g i j)):=by
 intro pins s σ H x y v u Q I J z h;obtain⟨i,j,rfl,rfl,M,q⟩:=h;obtain⟨t,rfl⟩:=J;obtain⟨t',rfl⟩:=z;exact n i j t t' s _ _ M ⟨.int (g i j),H,I.tok _,⟨_,Z⟩,q⟩
def tI {f:Value->Value->Sem Value} {g:Int->Int->Int}
  (n:∀(i j:Int) (t u:Tok) (s:Shared) (Q:Value->Shared->Prop) (E:Value->Shared->Prop),Q (.int (g i j) s.toks) {s with toks:=s.toks+1}->wpAny (model X.prog X.w) X.A (f (.int i t) (.int j u)) Q E s) :
  cS X f (nU λi j=>.int (g i j)):=by
 intro pins s σ H x y v u Q I J z h;obtain⟨i,j,rfl,rfl,q⟩:=h;obtain⟨t,rfl⟩:=J;obtain⟨t',rfl⟩:=z;exact n i j t t' s _ _ ⟨.int (g i j),H,I.tok _,⟨_,Z⟩,q⟩
def mN {f:Value->Value->Sem Value} {g:Int->Int->Bool}
  (n:∀(i j:Int) (t u:Tok) (s:Shared) (Q:Value->Shared->Prop) (E:Value->Shared->Prop),Q (.bool (g i j)) s->wpAny (model X.prog X.w) X.A (f (.int i t) (.int j u)) Q E s) :
  cS X f (nU λi j=>.bl (g i j)):=by
 intro pins s σ H x y v u Q I J z h;obtain⟨i,j,rfl,rfl,q⟩:=h;obtain⟨t,rfl⟩:=J;obtain⟨t',rfl⟩:=z;exact n i j t t' s _ _ ⟨.bl (g i j),H,I,Z,q⟩
def D5(i j:Int):Prop:=0<=j/\j<=1000000/\i.natAbs<2 ^ 64
def CMul(i j:Int):Prop:=(-(2 ^ 64)<i/\i<2 ^ 64)\/(-(2 ^ 64)<j/\j<2 ^ 64)
theorem CMul.ok{i j:Int}(h:CMul i j):IntMulOk i j:=by
 rcases h with⟨h1,h2⟩ |⟨h1,h2⟩
 ·exact .of_left (intBits_le_64 h1 h2)
 ·exact .of_right (intBits_le_64 h1 h2)
def gO:cS X (binaryOp .Add) (nU λi j=>.int (i+j)):=tI λ_ _ _ _ _ _ _ q=>add_int q
def oC:cS X (binaryOp .Sub) (nU λi j=>.int (i-j)):=tI λ_ _ _ _ _ _ _ q=>sub_int q
def mY:cS X (binaryOp .Mult) (rI CMul λi j=>.int (i*j)):=xM λ_ _ _ _ _ _ _ n q=>mul_int q n.ok
def lI:cS X (binaryOp .Mod) (rI (λ_ j=>0<j) λi j=>.int (i%j)):=xM λi j _ _ _ _ _ hc q=>by
 have h1:(0:Int)<j:=hc;exact mod_int' (by omega) (by rw[Int.fmod_eq_emod_of_nonneg i (by omega)];exact q)
def yA:cS X (binaryOp .Pow) (rI D5 λi j=>.int (i ^ j.toNat)):=xM λ_ _ _ _ _ _ _ n q=>pow_int_small n.1 n.2.1 n.2.2 q
def X7 {f:Value->Sem Value} {g:Int->Int}
  (j:∀(i:Int) (t:Tok) (s:Shared) (Q:Value->Shared->Prop) (E:Value->Shared->Prop),Q (.int (g i) s.toks) {s with toks:=s.toks+1}->wpAny (model X.prog X.w) X.A (f (.int i t)) Q E s) :
  Cu X f (rU λi=>.int (g i)):=by
 intro pins s σ H x v Q I n h;obtain⟨i,rfl,q⟩:=h;obtain⟨t,rfl⟩:=n;exact j i t s _ _ ⟨.int (g i),H,I.tok _,⟨_,Z⟩,q⟩
def yM:Cu X (unaryOp .USub) (rU λi=>.int (-i)):=X7 λ_ _ _ _ _ q=>neg_int q
end
def tG:V->V->Bool
 |.non,.non=>true |.non,.int _=>true |.int _,.non=>true |.non,.bl _=>true |.bl _,.non=>true |.non,.str _=>true |.str _,.non=>true
 |.int _,.int _=>true |.bl _,.bl _=>true |.str _,.str _=>true |.byt _,.byt _=>true
 |.int _,.str _=>true |.str _,.int _=>true |.bl _,.str _=>true |.str _,.bl _=>true
 |_,_=>false
def Xd:R2:=λx y H Q=>tG x y=true/\Q (.bl (decide (x=y))) H
def Xc:R2:=λx y H Q=>tG x y=true/\Q (.bl (!decide (x=y))) H
def Ew{i j:Int}:decide (V.int i=V.int j)=(i == j):=by
 rw[Bool.eq_iff_iff];simp
def Ef{i j:Bool}:decide (V.bl i=V.bl j)=(i == j):=by
 rw[Bool.eq_iff_iff];simp
def Ex{i j:Str}:decide (V.str i=V.str j)=(i == j):=by
 rw[Bool.eq_iff_iff];simp
def Eu{i j:Array UInt8}:decide (V.byt i=V.byt j)=(i.toList == j.toList):=by
 rw[Bool.eq_iff_iff];cases i;cases j;simp
section
variable {X:Cx}{a b c:Expr}{ta tb tc:TE}{pos:Pos}
def cN{pins:List (Addr×Obj)}{σ:St}{H:Hp}{s:Shared}{Q:VK}{k k':Bool}(I:Inv X pins σ H s)(q:Q (.bl k) H)(e:k=k'):EP X pins σ Q (.bool k') s:=by
 subst e;exact⟨.bl k,H,I,Z,q⟩
def bQ:cS X (compareOp .Eq) Xd:=by
 intro pins s σ H x y v u Q I z n h;obtain⟨hs,q⟩:=h
 cases x with
 |non=>
  cases z
  cases y with
  |non=>cases n;exact PySem.EqNone.eq_none_none (cN I q (by simp))
  |bl j=>cases n;exact PySem.EqNone.eq_none_bool (cN I q (by simp))
  |int j=>obtain⟨t',rfl⟩:=n;exact PySem.EqNone.eq_none_int (cN I q (by simp))
  |str j=>obtain⟨t',rfl⟩:=n;exact PySem.EqNone.eq_none_str (cN I q (by simp))
  |_=>exact absurd (show false=true from hs) qA
 |bl i=>
  cases z
  cases y with
  |non=>cases n;exact PySem.EqNone.eq_bool_none (cN I q (by simp))
  |bl j=>cases n;exact eq_bool (cN I q Ef)
  |str j=>obtain⟨t',rfl⟩:=n;exact PySem.EqMixed.eq_bool_str (cN I q (by simp))
  |_=>exact absurd (show false=true from hs) qA
 |int i=>
  obtain⟨t,rfl⟩:=z
  cases y with
  |non=>cases n;exact PySem.EqNone.eq_int_none (cN I q (by simp))
  |int j=>obtain⟨t',rfl⟩:=n;exact eq_int (cN I q Ew)
  |str j=>obtain⟨t',rfl⟩:=n;exact PySem.EqMixed.eq_int_str (cN I q (by simp))
  |_=>exact absurd (show false=true from hs) qA
 |str i=>
  obtain⟨t,rfl⟩:=z
  cases y with
  |non=>cases n;exact PySem.EqNone.eq_str_none (cN I q (by simp))
  |bl j=>cases n;exact PySem.EqMixed.eq_str_bool (cN I q (by simp))
  |int j=>obtain⟨t',rfl⟩:=n;exact PySem.EqMixed.eq_str_int (cN I q (by simp))
  |str j=>obtain⟨t',rfl⟩:=n;exact eq_str (cN I q Ex)
  |_=>exact absurd (show false=true from hs) qA
 |byt i=>
  obtain⟨t,rfl⟩:=z
  cases y with
  |byt j=>obtain⟨t',rfl⟩:=n;exact PySem.W.eq_bytes (cN I q Eu)
  |_=>exact absurd (show false=true from hs) qA
 |_=>cases y <;> exact absurd (show false=true from hs) qA
def pX:cS X (compareOp .NotEq) Xc:=by
 intro pins s σ H x y v u Q I z n h;obtain⟨hs,q⟩:=h
 cases x with
 |non=>
  cases z
  cases y with
  |non=>cases n;exact PySem.EqNone.ne_none_none (cN I q (by simp))
  |bl j=>cases n;exact PySem.EqNone.ne_none_bool (cN I q (by simp))
  |int j=>obtain⟨t',rfl⟩:=n;exact PySem.EqNone.ne_none_int (cN I q (by simp))
  |str j=>obtain⟨t',rfl⟩:=n;exact PySem.EqNone.ne_none_str (cN I q (by simp))
  |_=>exact absurd (show false=true from hs) qA
 |bl i=>
  cases z
  cases y with
  |non=>cases n;exact PySem.EqNone.ne_bool_none (cN I q (by simp))
  |bl j=>cases n;exact ne_bool (cN I q (congrArg not Ef))
  |str j=>obtain⟨t',rfl⟩:=n;exact PySem.EqMixed.ne_bool_str (cN I q (by simp))
  |_=>exact absurd (show false=true from hs) qA
 |int i=>
  obtain⟨t,rfl⟩:=z
  cases y with
  |non=>cases n;exact PySem.EqNone.ne_int_none (cN I q (by simp))
  |int j=>obtain⟨t',rfl⟩:=n;exact ne_int (cN I q (congrArg not Ew))
  |str j=>obtain⟨t',rfl⟩:=n;exact PySem.EqMixed.ne_int_str (cN I q (by simp))
  |_=>exact absurd (show false=true from hs) qA
 |str i=>
  obtain⟨t,rfl⟩:=z
  cases y with
  |non=>cases n;exact PySem.EqNone.ne_str_none (cN I q (by simp))
  |bl j=>cases n;exact PySem.EqMixed.ne_str_bool (cN I q (by simp))
  |int j=>obtain⟨t',rfl⟩:=n;exact PySem.EqMixed.ne_str_int (cN I q (by simp))
  |str j=>obtain⟨t',rfl⟩:=n;exact ne_str (cN I q (congrArg not Ex))
  |_=>exact absurd (show false=true from hs) qA
 |byt i=>
  obtain⟨t,rfl⟩:=z
  cases y with
  |byt j=>obtain⟨t',rfl⟩:=n;exact PySem.W.ne_bytes (cN I q (congrArg not Eu))
  |_=>exact absurd (show false=true from hs) qA
 |_=>cases y <;> exact absurd (show false=true from hs) qA
def xU:cS X (compareOp .Lt) (nU λi j=>.bl (decide (i<j))):=mN λ_ _ _ _ _ _ _ q=>lt_int q
def pW:cS X (compareOp .LtE) (nU λi j=>.bl (decide (i<=j))):=mN λ_ _ _ _ _ _ _ q=>le_int q
def rX:cS X (compareOp .Gt) (nU λi j=>.bl (decide (j<i))):=mN λ_ _ _ _ _ _ _ q=>gt_int q
def vJ:cS X (compareOp .GtE) (nU λi j=>.bl (decide (j<=i))):=mN λ_ _ _ _ _ _ _ q=>ge_int q
def Sv:cS X (compareOp .In) (λx y H Q=>∃i j,x=.str i/\y=.str j/\Q (.bl (!(Builtin.Str.occurrences j i 0 j.length 1).isEmpty)) H):=by
 intro pins s σ H x y v u Q I rx ry h;obtain⟨i,j,rfl,rfl,q⟩:=h;obtain⟨t,rfl⟩:=rx;obtain⟨t',rfl⟩:=ry;exact in_str (cN I q rfl)
def Mh:cS X (compareOp .Is) (λx y H Q=>y=.non/\Q (.bl (decide (x=.non))) H):=by
 intro pins s σ H x y v u Q I rx ry h;obtain⟨rfl,q⟩:=h;cases ry;refine is_none_gen (cN I q ?_)
 cases x <;> first
  |(cases rx;rfl)
  |(obtain⟨t,rfl⟩:=rx;rfl)
def Pa:cS X (compareOp .IsNot) (λx y H Q=>y=.non/\Q (.bl (!decide (x=.non))) H):=by
 intro pins s σ H x y v u Q I j n h;obtain⟨rfl,q⟩:=h;cases n;refine isnot_none_gen (cN I q ?_)
 cases x <;> first
  |(cases j;rfl)
  |(obtain⟨t,rfl⟩:=j;rfl)
def nM(b:Expr){op:CmpOp}(h:op≠.In:=by decide)(h2:op≠.NotIn:=by decide):behindInMarks op b=false:=by
 have n:(op == CmpOp.In)=false:=by cases op <;> first |rfl |exact absurd Z h
 have j:(op == CmpOp.NotIn)=false:=by cases op <;> first |rfl |exact absurd Z h2
 cases b <;> simp[behindInMarks,n,j]
def dI{op:CmpOp}{r:R2}(ho:cS X (compareOp op) r)(ha:PE X a ta)(hb:PE X b tb)(hm:behindInMarks op b=false):PE X (.Compare a [op] [b] pos) (xK r ta tb):=by
 intro pins s σ H Q I h;exact wpAny_Compare1 (pE ha hb I h λv u s2 x y H2 I2 rx ry q=>ho pins s2 σ H2 x y v u Q I2 rx ry q) hm
def Ll(t:TE):TT:=λσ H Q=>t σ H λx H'=>∃k,x=.bl k/\Q k H'
def pR{op:CmpOp}{r:R2}(ho:cS X (compareOp op) r)(ha:PE X a ta)(hb:PE X b tb)(hm:behindInMarks op b=false):PT X (.Compare a [op] [b] pos) (Ll (xK r ta tb)):=by
 intro pins s σ H Q I h
 refine wpAny_isTrue_Compare1 (aN (ha pins s σ H _ I h) λv n ⟨x,H1,I1,O,q1⟩=>aN (hb pins n σ H1 _ I1 q1) λu j ⟨y,H2,I2,M,Y⟩=>
  aN (ho pins j σ H2 x y v u _ I2 O M Y) λc s3 ⟨z,H3,I3,J,k,e,U⟩=>?_) hm
 subst e;cases J;exact wpAny_truthy_bool ⟨H3,I3,U⟩
def O7(r r':R2)(ta tb tc:TE):TE:=λσ H Q=>ta σ H λx H1=>tb σ H1 λy H2=>r x y H2 λz H3=>∃k,z=.bl k ∧
 (if k=true then tc σ H3 λw' H4=>r' y w' H4 Q else Q (.bl false) H3)
def Fx {op j:CmpOp} {r M:R2} (ho:cS X (compareOp op) r) (n:cS X (compareOp j) M) (ha:PE X a ta) (hb:PE X b tb) (hc:PE X c tc)
  (hm:lastMarks [op,j] [b,c]=false:=by with_unfolding_all rfl):PE X (.Compare a [op,j] [b,c] pos) (O7 r M ta tb tc):=by
 intro pins s σ H Q I h
 refine Compare_chain (aN (ha pins s σ H _ I h) λv s1 ⟨x,H1,I1,r1,q1⟩=>chain_link (aN (hb pins s1 σ H1 _ I1 q1) λu s2 ⟨y,H2,I2,J,q2⟩=>
  aN (ho pins s2 σ H2 x y v u _ I2 r1 J q2) λd s3 ⟨z,Y,U,r3,k,e,O⟩=>?_)) hm
 subst e;cases r3;refine wpAny_truthy_bool ?_
 cases k with
 |false=>exact ite_ff ⟨.bl false,Y,U,Z,O⟩
 |true=>exact ite_tt (chain_last (aN (hc pins s3 σ Y _ U O) λw' s4 ⟨z',H4,I4,r4,q4⟩=>n pins s4 σ H4 y z' u w' Q I4 J r4 q4))
def pY:(sizeLine:Nat)<2 ^ 63:=by rw[sizeLine_eq];decide
def fT:cS X (binaryOp .Add) (λx y H Q=>∃i j,x=.str i/\y=.str j/\i.length+j.length<=sizeLine/\Q (.str (i++j)) H):=by
 intro pins s σ H x y v u Q I z n h;obtain⟨i,j,rfl,rfl,hz,q⟩:=h;obtain⟨t,rfl⟩:=z;obtain⟨t',rfl⟩:=n;exact add_str (λt' tk=>⟨.str (i++j),H,I.tok _,⟨_,Z⟩,q⟩) hz
def lG{x:V}{us:List Value}(r:Vals [x] us):∃u,us=[u]/\RelV x u:=by
 cases r with
 |cons n j=>cases j;exact⟨_,Z,n⟩
def Lo{x y:V}{us:List Value}(r:Vals [x,y] us):∃u j,us=[u,j]/\RelV x u/\RelV y j:=by
 cases r with
 |cons J I=>
  cases I with
  |cons z n=>cases n;exact⟨_,_,Z,J,z⟩
def Rn(y:X.calm=true):CallR X (.builtin "max") (λxs H Q=>∃i j,xs=[.int i,.int j]/\Q (.int (if j > i then j else i)) H):=by
 intro pins s σ H xs us Q I r h;obtain⟨i,j,rfl,q⟩:=h;obtain⟨u,z,rfl,⟨t,rfl⟩,⟨t',rfl⟩⟩:=Lo r;refine max_two_ints (I.ok.hd y) λh' tk k=>⟨_,H,I.kept k,?_,q⟩;by_cases n:j > i
 ·rw[if_pos n,if_pos n];exact⟨_,Z⟩
 ·rw[if_neg n,if_neg n];exact⟨_,Z⟩
def call_str_int:CallR X (.type "str") (λxs H Q=>∃i,xs=[.int i]/\i.natAbs.log2<1920/\Q (.str (toString i)) H):=by
 intro pins s σ H xs us Q I r h;obtain⟨i,rfl,hz,q⟩:=h;obtain⟨u,rfl,t,rfl⟩:=lG r;exact PySem.P.str_of_int hz ⟨.str _,H,I.tok _,⟨_,Z⟩,q⟩
end
structure ObjM(h:Heap)(x dx C:Addr)(mA:Str->Option Value):Prop where
 obj:h.get? x=some (PySem.W.instObj C dx)
 ns:h.Ns1 dx mA
 ne:dx≠x
def Sk{h:Heap}{dx:Addr}{mA:Str->Option Value}(n:h.Ns1 dx mA):∃od,h.get? dx=some od/\∀name,PySem.W.lookIn name od=some (mA name):=by
 obtain⟨o,es,ep,J,hd,O,_,M⟩:=n;refine⟨o,J,λname=>?_⟩;have e:=M name;unfold nsFind findBy at e;rw[<- Array.find?_toList]at e;unfold PySem.W.lookIn;rw[hd];dsimp only;split
 ·rename_i y q
  rw[q]at e;exact congrArg some e
 ·rename_i q
  rw[q]at e
  have a:es.toList.any (·.refKey)=false:=by
   rw[List.any_eq_false];intro y I;obtain⟨z,t,j⟩:=O y (Array.mem_toList_iff.mp I);simp[DictEntry.refKey,j]
  have U:¬es.toList.any (·.refKey)=true:=by rw[a];exact qA
  rw[if_neg U];exact congrArg some e
def ObjM.look{h:Heap}{x dx C:Addr}{mA:Str->Option Value}(I:ObjM h x dx C mA):∃od,PySem.W.InstAt h x (PySem.W.instObj C dx) C (some od)/\∀name,PySem.W.lookIn name od=some (mA name):=
 let ⟨od,j,n⟩:=Sk I.ns
 ⟨od,⟨I.obj,Z,Z,j⟩,n⟩
section
variable {prog:Program}{w:World}{A:Around}{E:Value->Shared->Prop}{s:Shared}{K:Fg}{x dx C f:Addr}{mA:Str->Option Value}{name:Str}{v:Value}
def Nq {j:Bool} {Q:Value->Shared->Prop} (X:K.In s.heap) (I:ObjM s.heap x dx C mA) (O:PySem.W.plainGet K C name=true) (M:PySem.W.hasDictIn K C=true)
  (U:PySem.W.findIn K (.ref C) name=some none) (y:mA name=some v) (n:PySem.W.handedIn v=true) (h:Q v {s with toks:=s.toks+1}) :
  wpAny (model prog w) A (getAttr (.ref x) name j) Q E s:=by
 obtain⟨od,J,z⟩:=I.look;exact PySem.W.get_value X J (PySem.W.plainGet_of O).1 (PySem.W.findObj_own M U Z (by rw[z,y])) n h
def Oo {ns:List Str} {Q:Unit->Shared->Prop} (X:K.In s.heap) (I:ObjM s.heap x dx C mA)
  (hs:PySem.W.findIn K (.ref C) "__setattr__"=some (some (.builtin "object.__setattr__"))) (hp:PySem.W.plainOver K C=true) (ht:PySem.W.takerIn K C name=some none) (hh:PySem.W.hasDictIn K C=true)
  (hw:PySem.Within mA ns) (hsz:ns.length<=sizeLine)
  (h:∀h',ObjM h' x dx C (λy=>if y=name then some v else mA y)->Heap.SameBut dx s.heap h'->Q () {s with heap:=h',toks:=s.toks+2}) :
  wpAny (model prog w) A (setAttr (.ref x) name v) Q E s:=by
 obtain⟨od,J,hl⟩:=I.look;refine PySem.W.set_plain X J hs (PySem.W.osa_open (s:={s with toks:=s.toks+1}) (r:=none) X J hp ht λb=>?_);obtain⟨cd,hc,O⟩:=PySem.W.any_some hh;have Y:s.heap.get? x=some ⟨.ref C,some dx,.plain,#[]⟩:=I.obj;refine zX (z7 (zX (zX (wpAny_loadPart Y (zX (PySem.W.Looks.here (s:={s with toks:=s.toks+1}) (PySem.W.looks_clsIn X hc) ?_))))));rw[O];refine z7 (a:=some dx) (zX (z7 (zX ?_)));refine wpAny_nsSet1 (s:={s with toks:=s.toks+1}) I.ns λh' n j=>?_;obtain⟨oD,a0,a1,z,M,U⟩:=n.count (PySem.Within.cons name v hw);refine zX (wpAny_lookBehind z (by rw[M];exact pastItsLine_dict (zY U (by rw[List.length_cons];omega))) ?_);exact z7 (h _ ⟨(j.2 _ (Ne.symm I.ne)).trans I.obj,n,I.ne⟩ j)
def Py {R:Result->Shared->Prop} {vs:List Value} {kw:List (Str×Value)} (X:K.In s.heap) (hm:PySem.W.makesIn K C=true)
  (hi:PySem.W.findIn K (.ref C) "__init__"=some (some (.ref f))) (hf:PySem.W.typeIn K (.ref f)=some (.type "function"))
  (h:codeAny (model prog w) (A.under (.builtin "type.__call__" ⟨.ref C::vs,kw⟩)) (.call (.ref f) ⟨.ref (s.heap.objs.size+1)::vs,kw⟩) (PySem.W.InitBack (s.heap.objs.size+1) R)
   {s with heap:=(s.heap.push PySem.W.emptyDict).push (PySem.W.instObj C s.heap.objs.size)}) :
  codeAny (model prog w) A (.call (.ref C) ⟨vs,kw⟩) R s:=by
 obtain⟨hh,g,d,t,os⟩:=s;exact PySem.W.make_core (PySem.W.makes_of X hm) (PySem.W.looks_findIn X hi) (λself=>PySem.W.bind_fn X self hf) (.inl rfl) h
end
def cB(f:Str)(v:V):List (Str×V)->List (Str×V)
 |[]=>[(f,v)]
 |(g,x)::r=>if g=f then (g,v)::r else (g,x)::cB f v r
theorem Jc(f g:Str)(v:V):∀fs:List (Str×V),(cB f v fs).lookup g=if g=f then some v else fs.lookup g
 | []=>by
  show List.lookup g [(f,v)]=_;by_cases h:g=f
  ·have j:(g == f)=true:=beq_iff_eq.mpr h
   simp only[List.lookup,j,if_pos h]
  ·have j:(g == f)=false:=beq_eq_false_iff_ne.mpr h
   simp only[List.lookup,j,if_neg h]
 | (k,x)::r=>by
  have y:=Jc f g v r;rw[show cB f v ((k,x)::r)=(if k=f then (k,v)::r else (k,x)::cB f v r) from Z];by_cases n:k=f
  ·rw[if_pos n]
   by_cases h:g=k
   ·have j:(g == k)=true:=beq_iff_eq.mpr h
    simp only[List.lookup,j,if_pos (h.trans n)]
   ·have j:(g == k)=false:=beq_eq_false_iff_ne.mpr h
    simp only[List.lookup,j,if_neg (λe:g=f=>h (e.trans n.symm))]
  ·rw[if_neg n]
   by_cases h:g=k
   ·have j:(g == k)=true:=beq_iff_eq.mpr h
    simp only[List.lookup,j,if_neg (λe:g=f=>n (h.symm.trans e))]
   ·have j:(g == k)=false:=beq_eq_false_iff_ne.mpr h
    simp only[List.lookup,j];exact y
theorem Ak(f:Str)(v:V):∀fs:List (Str×V),f∈(cB f v fs).map (·.1)/\∀g,g∈fs.map (·.1)->g∈(cB f v fs).map (·.1)
 |[]=>⟨by simp[cB],λg h=>by simp at h⟩
 | (k,x)::r=>by
  obtain⟨y,n⟩:=Ak f v r;rw[show cB f v ((k,x)::r)=(if k=f then (k,v)::r else (k,x)::cB f v r) from Z];by_cases j:k=f
  ·rw[if_pos j]
   subst j;exact⟨by simp,λg h=>by simpa using h⟩
  ·rw[if_neg j]
   refine⟨?_,λg h=>?_⟩
   ·rw[List.map_cons]
    exact qG _ y
   ·rw[List.map_cons]at h⊢
    rcases cE h with e |e
    ·exact List.mem_cons.mpr (.inl e)
    ·exact qG _ (n g e)
theorem Ja(f:Str)(v:V):∀fs:List (Str×V),(cB f v fs).length<=fs.length+1
 |[]=>by simp[cB]
 |(k,x)::r=>by
  have n:=Ja f v r;rw[show cB f v ((k,x)::r)=(if k=f then (k,v)::r else (k,x)::cB f v r) from Z];by_cases j:k=f
  ·rw[if_pos j,List.length_cons,List.length_cons];omega
  ·rw[if_neg j,List.length_cons,List.length_cons];omega
theorem RelO.some_of{v:V}{o:Option Value}(r:RelO (some v) o):∃u,o=some u/\RelV v u:=by
 cases o with
 |none=>exact(show False from r).elim
 |some u=>exact⟨u,Z,r⟩
def Sd{v:V}{u:Value}(r:RelV v u):PySem.W.handedIn u=true:=by
 cases v with
 |non=>cases (show u=Value.none from r);rfl
 |bl b=>cases (show u=Value.bool b from r);rfl
 |int i=>obtain⟨t,e⟩:=(show ∃t,u=Value.int i t from r);cases e;rfl
 |str x=>obtain⟨t,e⟩:=(show ∃t,u=Value.str x t from r);cases e;rfl
 |byt b=>obtain⟨t,e⟩:=(show ∃t,u=Value.bytes b t from r);cases e;rfl
 |flt b=>obtain⟨t,e⟩:=(show ∃t,u=Value.float b t from r);cases e;rfl
 |ref a=>cases (show u=Value.ref a from r);rfl
 |ty n=>cases (show u=Value.type n from r);rfl
section
variable {P:Program}{w:World}{H H':Hp}{h h':Heap}{a C dx:Addr}{fs fs':List (Str×V)}
def zU(j:HOk P w H h)(e:H a=some (.ins C dx fs)):∃mA,ObjM h a dx C mA/\(∀f,RelO (fs.lookup f) (mA f))/\PySem.Within mA (fs.map (·.1))/\fs.length<=1000/\H dx=some (.own a):=by
 obtain⟨d,z,ne,ob,mA,n,r,q⟩:=(show ObjOk P w H h a (.ins C dx fs) from j a _ e);exact⟨mA,⟨ob,n,ne⟩,r,q,z,d⟩
end
structure Cls(K:Fg)(C:Addr):Prop where
 pg:PySem.W.plainGet K C Str.empty=true
 hd:PySem.W.hasDictIn K C=true
 po:PySem.W.plainOver K C=true
 sa:PySem.W.findIn K (.ref C) "__setattr__"=some (some (.builtin "object.__setattr__"))
theorem Cls.get{K:Fg}{C:Addr}(c:Cls K C)(f:Str):PySem.W.plainGet K C f=true:=c.pg
def NoAttr(K:Fg)(C:Addr)(f:Str):Prop:=PySem.W.findIn K (.ref C) f=some none
def NoAttr.taker{K:Fg}{C:Addr}{f:Str}(n:NoAttr K C f):PySem.W.takerIn K C f=some none:=by
 unfold PySem.W.takerIn;rw[show PySem.W.findIn K (.ref C) f=some none from n];rfl
section
variable {X:Cx}{pins:List (Addr×Obj)}{σ:St}{H:Hp}{s:Shared}{a C dx:Addr}{fs:List (Str×V)}{f:Str}{v:V}{A:Around}{E:Value->Shared->Prop}
def U2 {b:Bool} {Q:Value->Shared->Prop} (I:Inv X pins σ H s) (e:H a=some (.ins C dx fs)) (c:Cls X.K C) (n:NoAttr X.K C f) (l:fs.lookup f=some v)
  (h:∀u s',Inv X pins σ H s'->RelV v u->Q u s'):wpAny (model X.prog X.w) A (getAttr (.ref a) f b) Q E s:=by
 obtain⟨mA,O,r,_,_,_⟩:=zU I.hok e;obtain⟨u,y,j⟩:=RelO.some_of (v:=v) (o:=mA f) (by rw[<- l];exact r f);exact Nq I.kIn O (c.get f) c.hd n y (Sd j) (h u _ (I.tok _) j)
def Uq {y:V} {u:Value} {Q:Unit->Shared->Prop} (I:Inv X pins σ H s) (e:H a=some (.ins C dx fs)) (c:Cls X.K C) (n:NoAttr X.K C f) (hl:fs.length<1000) (Y:RelV y u)
  (h:∀s',Inv X pins σ (upd H a (.ins C dx (cB f y fs))) s'->Q () s'):wpAny (model X.prog X.w) A (setAttr (.ref a) f u) Q E s:=by
 obtain⟨mA,O,r,J,_,M⟩:=zU I.hok e;have hz:(fs.map (·.1)).length<=sizeLine:=by rw[aR,sizeLine_eq];omega
 refine Oo I.kIn O c.sa c.po n.taker c.hd J hz λh' j U=>h _ ?_;have hd:∃o,h'.get? dx=some o:=let ⟨o,_,_,e',_⟩:=j.ns;⟨o,e'⟩;refine I.write (x:=a) (e:=dx) (by rw[e];exact True.intro) (.inr M) (λb q hb z=>(U.2 b hb).trans z) hd ?_;refine⟨by rw[aG O.ne];exact M,?_,O.ne,j.obj,_,j.ns,λg=>?_,λg hg=>?_⟩
 ·have:=Ja f y fs;omega
 ·show RelO ((cB f y fs).lookup g) (if g=f then some u else mA g)
  rw[Jc];by_cases q:g=f
  ·rw[if_pos q,if_pos q];exact Y
  ·rw[if_neg q,if_neg q];exact r g
 ·by_cases q:g=f
  ·rw[q];exact(Ak f y fs).1
  ·refine(Ak f y fs).2 g (J g λz=>hg ?_)
   show(if g=f then some u else mA g)=none;rw[if_neg q];exact z
def Inv.made (I:Inv X pins σ H s):Inv X pins σ (upd (upd H s.heap.objs.size (.own (s.heap.objs.size+1))) (s.heap.objs.size+1) (.ins C s.heap.objs.size []))
  {s with heap:=(s.heap.push PySem.W.emptyDict).push (PySem.W.instObj C s.heap.objs.size)}:=by
 have e1:(s.heap.push PySem.W.emptyDict).get? s.heap.objs.size=some PySem.W.emptyDict:=z9 s.heap rfl
 have e2:((s.heap.push PySem.W.emptyDict).push (PySem.W.instObj C s.heap.objs.size)).get? (s.heap.objs.size+1)=some (PySem.W.instObj C s.heap.objs.size):=by
  have:=z9 (s.heap.push PySem.W.emptyDict) (o:=PySem.W.instObj C s.heap.objs.size) rfl
  rwa[Heap.size_push]at this
 have e3:(s.heap.push PySem.W.emptyDict).Ns s.heap.objs.size (λ_=>none):=⟨PySem.W.emptyDict,#[],_,e1,rfl,(λe he=>absurd he (by simp)),λ_=>rfl⟩;have I1:=I.laid (a:=s.heap.objs.size) (o:=.own (s.heap.objs.size+1)) (h':=s.heap.push PySem.W.emptyDict) (t':=s.toks) (λb u q=>aT _ q) (zZ _) ⟨_,e1⟩;refine I1.laid (a:=s.heap.objs.size+1) (o:=.ins C s.heap.objs.size []) (t':=s.toks) (λb u q=>aT _ q) (Nat.le_of_eq (Heap.size_push _ _)) ?_;have ne:s.heap.objs.size≠s.heap.objs.size+1:=qE (Nat.lt_succ_self _);refine⟨by rw[aG ne,aC],qR _,ne,e2,λ_=>none,(Heap.Ns1.of_empty e3).at λo q=>aT _ q,λ_=>True.intro,λy hy=>absurd rfl hy⟩
def Nl {prog:Program} {w:World} {env:Env} {e:Expr} {f:Str} {pos:Pos} {s:Shared} {Q:Value->Shared->Prop} (hb:attributeBase e f env (eval e env)=eval e env)
  (h:wpAny (model prog w) A (eval e env) (λo s₁=>wpAny (model prog w) A (getAttr o f true) Q E s₁) E s):wpAny (model prog w) A (eval (.Attribute e f pos) env) Q E s:=
 Attribute_any_ h (by rw[arm_eval_Attribute,hb])
end
def Bv(K:Fg)(ta:TE)(f:Str):TE:=λσ H Q=>ta σ H λx H1=>∃a C dx fs v,x=.ref a/\H1 a=some (.ins C dx fs)/\Cls K C/\NoAttr K C f/\fs.lookup f=some v/\Q v H1
def Bz(K:Fg)(ta tv:TE)(f:Str):TS:=λD σ H=>tv σ H λy H1=>ta σ H1 λx H2=>∃a C dx fs,x=.ref a/\H2 a=some (.ins C dx fs)/\Cls K C/\NoAttr K C f/\fs.length<1000 ∧
 D.nx σ (upd H2 a (.ins C dx (cB f y fs)))
section
variable {X:Cx}{o e value:Expr}{f:Str}{pos pos' tpos:Pos}{ta tv:TE}
def lJ(z:PE X e ta)(J:attributeBase e f X.env (eval e X.env)=eval e X.env):PE X (.Attribute e f pos) (Bv X.K ta f):=by
 intro pins s σ H Q I h;refine Nl J (aN (z pins s σ H _ I h) λu s1 ⟨x,H1,U,j,a,C,dx,fs,v,ex,M,c,n,l,q⟩=>?_);subst ex;obtain rfl:u=Value.ref a:=j;exact U2 U M c n l λY s2 O y=>⟨v,H1,O,y,q⟩
def vQ(Y:PE X o ta)(U:PE X value tv)(hs:swapsWith value (some (.Attribute o f pos')) pos.line X.env=pure false):PS X (.Assign [.Attribute o f pos'] value pos) (Bz X.K ta tv f):=by
 intro pins s σ H D I h;refine plainObj_wpAny_Assign_Attribute (aN (U pins s σ H _ I h) λu j ⟨y,H1,I1,z,q⟩=>aN (Y pins j σ H1 _ I1 q) λO s2 ⟨x,H2,I2,J,a,C,dx,fs,ex,ea,c,n,l,M⟩=>?_) hs;subst ex;obtain rfl:O=Value.ref a:=J;exact Uq I2 ea c n l z λs3 I3=>⟨σ,_,I3,M⟩
end
section
variable {X:Cx}{pins:List (Addr×Obj)}{σ:St}{H:Hp}{s:Shared}{A:Around}{E:Value->Shared->Prop}{Q:Value->Shared->Prop}{c:Value}{b:Bool}
inductive TyOf(K:Fg)(H:Hp):V->Value->Prop where
 |non:TyOf K H .non (.type "NoneType")
 |bl (x:Bool):TyOf K H (.bl x) (.type "bool")
 |int (i:Int):TyOf K H (.int i) (.type "int")
 |str (x:Str):TyOf K H (.str x) (.type "str")
 |flt (x:UInt64):TyOf K H (.flt x) (.type "float")
 |lst {a:Addr} {xs:List V} (e:H a=some (.lst xs)):TyOf K H (.ref a) (.type "list")
 |frz {a:Addr} {o:Obj} {xs:List V} (e:H a=some (.frz o (.lst xs))):TyOf K H (.ref a) (.type "list")
 |tup {a:Addr} {xs:List V} (e:H a=some (.tup xs)):TyOf K H (.ref a) (.type "tuple")
 |dK {a:Addr} {kvs:List (aK×V)} (e:H a=some (.dK kvs)):TyOf K H (.ref a) (.type "dict")
 |dT {a:Addr} {kvs:List (List aK×V)} (e:H a=some (.dT kvs)):TyOf K H (.ref a) (.type "dict")
 | ins {a C dx:Addr} {fs:List (Str×V)} (e:H a=some (.ins C dx fs)) (cl:Cls K C) (ha:PySem.W.findIn K (.ref C) "__class__"=some (some (.builtin "object.__class__")))
   (hn:PySem.W.specialIn K (.builtin "object.__class__") "__get__"=some (some (.builtin "getset_descriptor.__get__"))) (htk:PySem.W.takesIn K (.builtin "object.__class__")=some true)
   (hm:PySem.W.mroIn K C (.type "object")=some true):TyOf K H (.ref a) (.ref C)
def Sf {x:V} {u t:Value} (I:Inv X pins σ H s) (rx:RelV x u) (ty:TyOf X.K H x t) (e:PySem.W.kitOne X.K t c=some b) (h:∀tk,Q (.bool b) {s with toks:=tk}) :
  wpAny (model X.prog X.w) A (call (.builtin "isinstance") [u,c]) Q E s:=by
 cases ty with
 |non=>cases (show u=Value.none from rx);exact PySem.W.kia_one PySem.W.kitx_none I.kIn True.intro e (λz=>nomatch z) h
 |bl y=>cases (show u=Value.bool y from rx);exact PySem.W.kia_one PySem.W.kitx_bool I.kIn True.intro e (λz=>nomatch z) h
 |int i=>obtain⟨t,q⟩:=(show ∃t,u=Value.int i t from rx);cases q;exact PySem.W.kia_one PySem.W.kitx_int I.kIn True.intro e (λz=>nomatch z) h
 |str y=>obtain⟨t,q⟩:=(show ∃t,u=Value.str y t from rx);cases q;exact PySem.W.kia_one PySem.W.kitx_str I.kIn True.intro e (λz=>nomatch z) h
 |flt y=>obtain⟨t,q⟩:=(show ∃t,u=Value.float y t from rx);cases q;exact PySem.W.kia_one PySem.W.kitx_float I.kIn True.intro e (λz=>nomatch z) h
 |@lst a xs ea=>
  cases (show u=Value.ref a from rx);obtain⟨_,_,n,_,h1⟩:=(show ObjOk X.prog X.w H s.heap a (.lst xs) from I.hok a _ ea);exact PySem.W.kia_one PySem.W.kitx_list I.kIn ⟨_,h1,rfl⟩ e (λz=>nomatch z) h
 |@frz a ob xs ea=>
  cases (show u=Value.ref a from rx);obtain⟨_,_,_,n,_,h1⟩:=(show ObjOk X.prog X.w H s.heap a (.frz ob (.lst xs)) from I.hok a _ ea);exact PySem.W.kia_one PySem.W.kitx_list I.kIn ⟨_,h1,rfl⟩ e (λz=>nomatch z) h
 |@tup a xs ea=>
  cases (show u=Value.ref a from rx);obtain⟨_,_,_,p⟩:=(show ObjOk X.prog X.w H s.heap a (.tup xs) from I.hok a _ ea);obtain⟨o,h1,h2,_⟩:=p;exact PySem.W.kia_one PySem.W.kitx_tuple I.kIn ⟨o,h1,h2⟩ e (λz=>nomatch z) h
 |@dK a kvs ea=>
  cases (show u=Value.ref a from rx);obtain⟨_,_,vs,_,p⟩:=(show ObjOk X.prog X.w H s.heap a (.dK kvs) from I.hok a _ ea);obtain⟨o,es,ep,h1,h2,_⟩:=p;exact PySem.W.kia_one PySem.W.kitx_dict I.kIn ⟨o,h1,h2.1⟩ e (λz=>nomatch z) h
 |@dT a kvs ea=>
  cases (show u=Value.ref a from rx);obtain⟨_,_,xs,_,o,es,ep,h1,h2,_⟩:=(show ObjOk X.prog X.w H s.heap a (.dT kvs) from I.hok a _ ea);exact PySem.W.kia_one PySem.W.kitx_dict I.kIn ⟨o,h1,h2.1⟩ e (λz=>nomatch z) h
 |@ins a C dx fs ea cl ha hn htk hm=>
  cases (show u=Value.ref a from rx);obtain⟨mA,O,_⟩:=zU I.hok ea;obtain⟨od,J,_⟩:=O.look;exact PySem.W.kia_one (PySem.W.kitx_own (cl.get _) cl.hd ha hn htk hm) I.kIn J e (λz=>nomatch z) h
end
structure Room(k:Nat)(A:Around):Prop where
 hd:(A.handled,A.guards)=(none,some [])
 dp:A.depth+3*k+5<recursionLimit
 un:A.units+16*k+200<cLine
def Room.mono{j k:Nat}{A:Around}(r:Room k A)(h:j<=k):Room j A:=⟨r.hd,by have:=r.dp;omega,by have:=r.un;omega⟩
theorem Room.deeper{k:Nat}{A:Around}(r:Room (k+1) A)(env:Env):Room k (A.deeper env):=
 ⟨r.hd,by have:=r.dp;show A.depth+1+3*k+5<_;omega,by have:=r.un;show A.units+3+16*k+200<_;omega⟩
theorem Im{A:Around}{C:Addr}{us:List Value}{kw:List (Str×Value)}:(A.under (.builtin "type.__call__" ⟨.ref C::us,kw⟩)).depth=A.depth+1:=by
 first |rfl |simp[Around.under,Code.weight,Code.isCreation,Code.isGuard,Code.isCaller,Code.frames,Code.isFrame,guardIds]
theorem Io{A:Around}{C:Addr}{us:List Value}{kw:List (Str×Value)}:(A.under (.builtin "type.__call__" ⟨.ref C::us,kw⟩)).units=A.units+1:=by
 first |rfl |simp[Around.under,Code.cUnits,Code.frames,Code.isFrame]
theorem V9{A:Around}{C:Addr}{us:List Value}{kw:List (Str×Value)}:(A.under (.builtin "type.__call__" ⟨.ref C::us,kw⟩)).guards=A.guards:=by
 first |rfl |(cases h:A.guards <;> simp[Around.under,Code.guards,Code.isGuard,guardIds,pushGuards,h])
def Room.make{k:Nat}{A:Around}(r:Room (k+1) A)(C:Addr)(us:List Value)(kw:List (Str×Value)):Room k (A.under (.builtin "type.__call__" ⟨.ref C::us,kw⟩)):=
 ⟨by show(A.handled,_)=_;rw[V9];exact r.hd,by have:=r.dp;rw[Im];omega,by have:=r.un;rw[Io];omega⟩
theorem Room.depth{k:Nat}{A:Around}(r:Room k A):A.depth<recursionLimit:=by have:=r.dp;omega
theorem Room.units{k:Nat}{A:Around}(r:Room k A):A.units+64<cLine:=by have:=r.un;omega
def lB:TA:=λ_ H Q=>Q [] H
def rY(ta:TE)(tr:TA):TA:=λσ H Q=>ta σ H λx H1=>tr σ H1 λxs H2=>Q (x::xs) H2
section
variable {X:Cx}{e:Expr}{es:List Expr}{te:TE}{t:TA}{pos:Pos}
def pN:PA X [] lB:=λ_ _ _ _ H Q I h=>Calls.spliced_nil ⟨[],H,I,.nil,h⟩
def pc(O:PE X e te)(M:PA X es t)(hs:starEach (e::es) X.env=(false,eval e X.env)::starEach es X.env:=by rfl):PA X (e::es) (rY te t):=by
 intro pos pins s σ H Q I h;rw[hs];show wpAny _ _ (spliced ((false,eval e X.env)::backTo pos (starEach es X.env))) _ _ s;refine Calls.spliced_cons (aN (O pins s σ H _ I h) λu j ⟨x,H1,Y,y,J⟩=>?_);exact aN (M pos pins j σ H1 _ Y J) λus s2 ⟨xs,H2,U,n,z⟩=>⟨x::xs,H2,U,.cons y n,z⟩
def Bo(t:TA):TE:=λσ H Q=>t σ H λxs H1=>xs.length<=sizeLine/\∀p,H1 p=none->Q (.ref p) (upd H1 p (.tup xs))
def Bs(t:TA):TE:=λσ H Q=>t σ H λxs H1=>xs.length<=sizeLine/\∀p,H1 p=none->Q (.ref p) (upd H1 p (.lst xs))
def cG{x1}(h:PA X es t):PE X (.Tuple es x1 pos) (Bo t):=by
 intro pins s σ H Q I y;refine wpAny_Tuple_spliced (aN (h pos pins s σ H _ I y) λus j ⟨xs,H1,n,r,z,q⟩=>⟨by rw[<- r.length];exact z,?_⟩);have J:H1 j.heap.objs.size=none:=n.hok.fresh (zZ _);refine⟨.ref j.heap.objs.size,upd H1 j.heap.objs.size (.tup xs),n.laid (t':=j.toks) (λb u e=>aT _ e) (zZ _) ?_,Z,q _ J⟩;exact⟨z,us,r,⟨_,z9 _ Z,Z,_,Z,Z⟩⟩
def cA(h:PA X es t):PE X (.List es pos) (Bs t):=by
 intro pins s σ H Q I y;refine wpAny_List_spliced (aN (h pos pins s σ H _ I y) λus j ⟨xs,H1,n,r,z,q⟩=>⟨by rw[<- r.length];exact z,?_⟩);have J:H1 j.heap.objs.size=none:=n.hok.fresh (zZ _);refine⟨.ref j.heap.objs.size,upd H1 j.heap.objs.size (.lst xs),n.laid (t':=j.toks) (λb u e=>aT _ e) (zZ _) ?_,Z,q _ J⟩;exact⟨z,us,0,r,z9 _ Z⟩
end
abbrev Sp:=List V->Hp->VK->XK->Prop
abbrev fW:=List Env->Hp->Shared->XK->Value->Shared->Prop
structure Env0(P:Program)(w:World)(K:Fg)(mg:Str->Option Value)(base:Heap)(A:Around)(outer:List Env)(s:Shared)(H:Hp):Prop where
 frames:A.frames=some outer
 mod:Mod K mg base
 bs:∀b o,base.get? b=some o->s.heap.get? b=some o/\H b=none
 bsz:base.objs.size<=s.heap.objs.size
 funs:s.heap.FunFrames base outer
 frf:∀b∈dE outer,H b=none
 hok:HOk P w H s.heap
 bare:AllBare s.gens
def CE(outer:List Env)(P:Program)(w:World)(H:Hp)(s:Shared)(Q:VK)(u:Value)(s':Shared):Prop:=
 ∃v H',s'.os=s.os/\AllBare s'.gens/\Un (dE outer) [] H H' s.heap s'.heap/\HOk P w H' s'.heap/\RelV v u/\Q v H'
def CR(CX:fW)(outer:List Env)(P:Program)(w:World)(H:Hp)(s:Shared)(Q:VK)(E:XK)(r:Result)(s':Shared):Prop:=
 match r with
 |.ok (.ret u)=>CE outer P w H s Q u s'
 |.ok _=>False
 |.error e=>CX outer H s E e s'
structure FnOk(P:Program)(w:World)(K:Fg)(mg:Str->Option Value)(base:Heap)(CX:fW)(k:Nat)(f:Addr)(fd:FuncData)(ps:List Str)(sp:Sp):Prop where
 len:∀vs H Q E,sp vs H Q E->vs.length=ps.length
 run:∀(A:Around) (outer:List Env) (s:Shared) (H:Hp) (args:Args) (us:List Value) (vs:List V) (Q:VK) (E:XK),Room k A->Env0 P w K mg base A outer s H->BindsTo s fd args (ps.zip us)->Vals vs us->sp vs H Q E->
  codeAny (model P w) A (.call (.ref f) args) (CR CX outer P w H s Q E) s
theorem FnOk.mono {P:Program} {w:World} {K:Fg} {mg:Str->Option Value} {base:Heap} {CX:fW} {j k:Nat} {f:Addr} {fd:FuncData} {ps:List Str} {sp:Sp} (F:FnOk P w K mg base CX j f fd ps sp) (h:j<=k) :
  FnOk P w K mg base CX k f fd ps sp:=⟨F.len,λA outer s H args us vs Q E n=>F.run A outer s H args us vs Q E (n.mono h)⟩
theorem FnOk.imp {P:Program} {w:World} {K:Fg} {mg:Str->Option Value} {base:Heap} {CX:fW} {k:Nat} {f:Addr} {fd:FuncData} {ps:List Str} {sp sp':Sp} (F:FnOk P w K mg base CX k f fd ps sp)
  (h:∀vs H Q E,sp' vs H Q E->sp vs H Q E):FnOk P w K mg base CX k f fd ps sp':=
 ⟨λvs H Q E q=>F.len vs H Q E (h _ _ _ _ q),λA outer s H args us vs Q E hr he hb hv hs=>F.run A outer s H args us vs Q E hr he hb hv (h _ _ _ _ hs)⟩
def Env0.make {P:Program} {w:World} {K:Fg} {mg:Str->Option Value} {base:Heap} {A:Around} {outer:List Env} {s:Shared} {H:Hp} (e:Env0 P w K mg base A outer s H) (C:Addr) (us:List Value) (kw:List (Str×Value)) :
  Env0 P w K mg base (A.under (.builtin "type.__call__" ⟨.ref C::us,kw⟩)) outer s H:=⟨by first |exact e.frames |(simpa[Around.under,Code.envs,Code.isFrame,pushEnvs] using e.frames),e.mod,e.bs,e.bsz,e.funs,e.frf,e.hok,e.bare⟩
section
variable {X:Cx}{pins:List (Addr×Obj)}{σ:St}{H:Hp}{s s':Shared}
def Inv.env0(I:Inv X pins σ H s):Env0 X.prog X.w X.K X.mg X.base X.A X.stack s H:=
 ⟨I.ok.frames,I.ok.mod,I.bs,zY I.ok.bsz I.sz,I.stack,I.stkFree,I.hok,I.bare⟩
def Inv.after{Q:VK}{u:Value}(I:Inv X pins σ H s)(h:CE X.stack X.prog X.w H s Q u s'):EP X pins σ Q u s':=by
 obtain⟨v,H',os,bare,un,hok,r,q⟩:=h;obtain⟨hh,g,d,t,os'⟩:=s';obtain rfl:os'=s.os:=os;exact⟨v,H',I.call (h':=hh) (g':=g) (d':=d) (t':=t) (ch:=[]) un hok bare (λb z=>absurd z (by simp)),r,q⟩
end
def xT(sp:Sp)(dvs:List V)(E:XK)(t:TA):TE:=λσ H Q=>t σ H λvs H1=>sp (vs++dvs) H1 Q E
def Dr(C:Addr)(sp:Sp)(dvs:List V)(E:XK)(t:TA):TE:=λσ H Q=>t σ H λvs H1=>∀x dx,H1 x=none->H1 dx=none->dx≠x->
 sp (.ref x::(vs++dvs)) (upd (upd H1 dx (.own x)) x (.ins C dx [])) (λv H2=>v=.non/\Q (.ref x) H2) E
def Binds(K:Fg)(fd:FuncData)(ps:List Str)(ds:List Value):Prop:=
 ∀(s:Shared) (us:List Value),K.In s.heap->(us++ds).length=ps.length->BindsTo s fd ⟨us,[]⟩ (ps.zip (us++ds))
def Binds.all{K:Fg}{fd:FuncData}{ps:List Str}(h:∀us:List Value,us.length=ps.length->bindArgs fd ⟨us,[]⟩=pure (ps.zip us)):Binds K fd ps []:=λs us _ hl=>by
 rw[List.append_nil]at hl⊢;exact .of_eq (h us hl)
def rZ(CX:fW)(X:Cx)(E:XK):Prop:=∀(pins:List (Addr×Obj)) (σ:St) (H:Hp) (s:Shared) (e:Value) (s':Shared),Inv X pins σ H s->CX X.stack H s E e s'->X.xe e s'
section
variable {X:Cx}{CX:fW}{k:Nat}{f C:Addr}{fd:FuncData}{ps:List Str}{sp:Sp}{dvs:List V}{ds:List Value}{E:XK}{x m:Str}{p pos apos:Pos}{e o:Expr}{es:List Expr}{ta:TE}{t:TA}
def My {pins:List (Addr×Obj)} {σ:St} {H:Hp} {s:Shared} {Q:VK} {us:List Value} {vs:List V} (F:FnOk X.prog X.w X.K X.mg X.base CX k f fd ps sp) (hr:Room k X.A) (hb:Binds X.K fd ps ds) (hd:Vals dvs ds) (hx:rZ CX X E)
  (I:Inv X pins σ H s) (r:Vals vs us) (h:sp (vs++dvs) H Q E):wpAny (model X.prog X.w) X.A (call (.ref f) us) (EP X pins σ Q) X.xe s:=by
 have r2:Vals (vs++dvs) (us++ds):=r.append hd;have hl:(us++ds).length=ps.length:=by rw[<- r2.length];exact F.len _ _ _ _ h
 refine wpAny_call (codeAny_mono (F.run X.A X.stack s H ⟨us,[]⟩ (us++ds) (vs++dvs) Q E hr I.env0 (hb s us I.kIn hl) r2 h) λr s' hq=>?_)
 cases r with
 |error e=>exact hx pins σ H s e s' I hq
 |ok fl=>
  cases fl with
  |ret u=>exact I.after hq
  |next=>exact False.elim hq
  |brk=>exact False.elim hq
  |cont=>exact False.elim hq
def Pd (F:FnOk X.prog X.w X.K X.mg X.base CX k f fd ps sp) (J:Room k X.A) (U:Gl X x) (M:X.mg x=some (.ref f)) (O:PySem.W.keepIn X.K (.ref f)=true) (hb:Binds X.K fd ps ds) (hd:Vals dvs ds) (z:rZ CX X E)
  (ha:PA X (e::es) t) (n:(x == ("__debug__":Str))=false:=by decide) (Y:starEach (e::es) X.env=(false,eval e X.env)::starEach es X.env:=by rfl) (j:(backTo pos (starEach es X.env)).any (·.1)=false:=by rfl) :
  PE X (.Call (.Name x p) (e::es) [] pos) (xT sp dvs E t):=by
 intro pins s σ H Q I h;refine wpAny_Call_Name_kw (oK I U M ?_ n);refine PySem.W.callWith_K (h₀:=X.base) I.ok.mod.kin O (aN (ha pos pins s σ H _ I h) λus s1 ⟨vs,H1,y,r,q⟩=>⟨y.kIn,?_⟩) Y j;exact My F J hb hd z y r q
structure Mk(K:Fg)(C f:Addr):Prop where
 makes:PySem.W.makesIn K C=true
 init:PySem.W.findIn K (.ref C) "__init__"=some (some (.ref f))
 fn:PySem.W.isFn K (.ref f)=true
 kp:PySem.W.keepIn K (.ref C)=true
def Qz {pins:List (Addr×Obj)} {σ:St} {H:Hp} {s:Shared} {Q:VK} {us:List Value} {vs:List V} (M:Mk X.K C f) (F:FnOk X.prog X.w X.K X.mg X.base CX k f fd ps sp) (Y:Room (k+1) X.A) (hb:Binds X.K fd ps ds) (hd:Vals dvs ds)
  (U:rZ CX X E) (I:Inv X pins σ H s) (r:Vals vs us)
  (h:∀x dx,H x=none->H dx=none->dx≠x->sp (.ref x::(vs++dvs)) (upd (upd H dx (.own x)) x (.ins C dx [])) (λv H2=>v=.non/\Q (.ref x) H2) E) :
  wpAny (model X.prog X.w) X.A (call (.ref C) us) (EP X pins σ Q) X.xe s:=by
 have z:=h (s.heap.objs.size+1) s.heap.objs.size (I.hok.fresh (qM _)) (I.hok.fresh (zZ _)) (qE (Nat.lt_succ_self _));have n:=Inv.made (C:=C) I;have y:Vals (V.ref (s.heap.objs.size+1)::(vs++dvs)) (Value.ref (s.heap.objs.size+1)::(us++ds)):=.cons Z (r.append hd)
 have hl:(Value.ref (s.heap.objs.size+1)::us++ds).length=ps.length:=by
  have e:=y.length;rw[F.len _ _ _ _ z]at e;exact e.symm
 refine wpAny_call (Py (f:=f) I.kIn M.makes M.init (beq_iff_eq.mp M.fn) (codeAny_mono (F.run _ X.stack _ _ ⟨Value.ref (s.heap.objs.size+1)::us,[]⟩ (Value.ref (s.heap.objs.size+1)::(us++ds)) _ _ E (Y.make C us [])
  (n.env0.make C us []) (hb _ (Value.ref (s.heap.objs.size+1)::us) n.kIn hl) y z) λr s' j=>?_))
 cases r with
 |error e=>exact U pins σ _ _ e s' n j
 | ok fl=>
  cases fl with
  |ret u=>
   obtain⟨v,H',I3,J,ev,O⟩:=n.after j;subst ev;exact⟨J,⟨V.ref (s.heap.objs.size+1),H',I3,Z,O⟩⟩
  |next=>exact False.elim j
  |brk=>exact False.elim j
  |cont=>exact False.elim j
def Ql (M:Mk X.K C f) (F:FnOk X.prog X.w X.K X.mg X.base CX k f fd ps sp) (y:Room (k+1) X.A) (J:Gl X x) (z:X.mg x=some (.ref C)) (O:Binds X.K fd ps ds) (hd:Vals dvs ds) (n:rZ CX X E)
  (j:(x == ("__debug__":Str))=false:=by decide):PE X (.Call (.Name x p) [] [] pos) (Dr C sp dvs E lB):=by
 intro pins s σ H Q I h;refine wpAny_Call_Name_kw (oK I J z ?_ j);exact PySem.W.callWith_K0 I.kIn M.kp (Qz (us:=[]) M F y O hd n I .nil h)
end
structure FnScope(N P:List Str)(sc:Scope):Prop where
 kind:sc.kind=.function
 co:sc.isCoroutine=false
 gen:sc.isGenerator=false
 nd:N.Nodup
 pre:N.take P.length=P
 par:∀x∈P,sc.names.lookup x=some .local\/sc.names.lookup x=some .cell
 nofree:∀y∈sc.names,y.2≠.free
theorem Gz{j:Str->Option NameKind}{x:Str}:∀{binds:List (Str×Value)} {m:Str->Option Value},(∀v,(x,v) ∉binds)->bindL j binds m x=m x
 |[],_,_=>Z
 | (n,v)::r,m,h=>by
  unfold bindL;rw[Gz λw y=>h w (qG _ y)];split
  ·have:x≠n:=by rintro rfl;exact h v List.mem_cons_self
   simp[this]
  ·rfl
theorem Gx{j:Str->Option NameKind}{x:Str}:∀{binds:List (Str×Value)} {m:Str->Option Value},(∀v,(x,v) ∉binds)->bindC j binds m x=m x
 |[],_,_=>Z
 | (n,v)::r,m,h=>by
  unfold bindC;rw[Gx λw y=>h w (qG _ y)];split
  ·rfl
  ·have:x≠n:=by rintro rfl;exact h v List.mem_cons_self
   simp[this]
theorem Gy {j:Str->Option NameKind} {x:Str} {v:Value}:∀{P:List Str} {vs:List Value} {i:Nat} {m:Str->Option Value},P.Nodup->P[i]?=some x->vs[i]?=some v->j x=some .local->
  bindL j (P.zip vs) m x=some v
 |[],_,_,_,_,h,_,_=>by simp at h
 |_::_,[],_,_,_,_,h,_=>by simp at h
 |p::P,w::vs,0,m,nd,h1,h2,n=>by
  simp at h1 h2;subst h1;subst h2;show bindL j ((p,w)::P.zip vs) m p=_;unfold bindL;rw[Gz λv y=>(List.nodup_cons.mp nd).1 (List.of_mem_zip y).1,if_pos n];simp
 |p::P,w::vs,i+1,m,nd,h1,h2,n=>by
  show bindL j ((p,w)::P.zip vs) m x=_;unfold bindL;exact Gy (i:=i) (List.nodup_cons.mp nd).2 (by simpa using h1) (by simpa using h2) n
theorem Gw {j:Str->Option NameKind} {x:Str} {v:Value}:∀{P:List Str} {vs:List Value} {i:Nat} {m:Str->Option Value},P.Nodup->P[i]?=some x->vs[i]?=some v->j x≠some .local->
  bindC j (P.zip vs) m x=some v
 |[],_,_,_,_,h,_,_=>by simp at h
 |_::_,[],_,_,_,_,h,_=>by simp at h
 |p::P,w::vs,0,m,nd,h1,h2,n=>by
  simp at h1 h2;subst h1;subst h2;show bindC j ((p,w)::P.zip vs) m p=_;unfold bindC;rw[Gx λv y=>(List.nodup_cons.mp nd).1 (List.of_mem_zip y).1,if_neg n];simp
 |p::P,w::vs,i+1,m,nd,h1,h2,n=>by
  show bindC j ((p,w)::P.zip vs) m x=_;unfold bindC;exact Gw (i:=i) (List.nodup_cons.mp nd).2 (by simpa using h1) (by simpa using h2) n
def eP(N:List Str)(vs:List V):St:=vs.map some++List.replicate (N.length-vs.length) none
def cP(CX:fW)(P:Program)(w:World)(K:Fg)(mg:Str->Option Value)(base:Heap)(N:List Str)(qual:Str)(scope:Scope)(f:Addr)(cd:Value)(A:Around)(outer:List Env)(s:Shared)(H:Hp)(E:XK):Cx where
 prog:=P
 w:=w
 K:=K
 mg:=mg
 base:=base
 A:=A.deeper (envOfC qual scope s.heap.objs.size f cd)
 N:=N
 s₀:=s
 H₀:=H
 env:=envOfC qual scope s.heap.objs.size f cd
 outer:=outer
 stack:=envOfC qual scope s.heap.objs.size f cd::outer
 ex:=[]
 calm:=true
 fn:=λ_=>true
 pn:=[]
 xe:=λe s'=>wpAny (model P w) (A.deeper (envOfC qual scope s.heap.objs.size f cd)) (leaving (envOfC qual scope s.heap.objs.size f cd) e) (λ_ s''=>CX outer H s E e s'') (λe' s''=>CX outer H s E e' s'') s'
def Fp{j:Scope}{n:Nat}{x:Str}(h:j.names.lookup x=some .cell):∃c,(cellsFrom n j.names []).lookup x=some c:=by
 have q:=PySem.W.cellsFrom_some j.names n [] (.inl h);exact Option.isSome_iff_exists.mp q
def Hd {CX:fW} {P:Program} {w:World} {K:Fg} {mg:Str->Option Value} {base:Heap} {N ps:List Str} {I:Str} {j:Scope} {f:Addr} {cd:Value} {A:Around} {outer:List Env} {s s1:Shared} {H:Hp} {E:XK} {us:List Value} {vs:List V}
  (S:FnScope N ps j) (hd:A.handled=none) (J:Env0 P w K mg base A outer s H) (hl:vs.length=ps.length) (r:Vals vs us)
  (x:InCallC s s.heap.objs.size (bindL (envOfC I j s.heap.objs.size f cd).kindOf (ps.zip us) λ_=>none) (cellsFrom (s.heap.objs.size+1) j.names []) (bindC (envOfC I j s.heap.objs.size f cd).kindOf (ps.zip us) λ_=>none) s1) :
  Inv (cP CX P w K mg base N I j f cd A outer s H E) [] (eP N vs) H s1:=by
 have a0:ps.length<=N.length:=by have:=congrArg List.length S.pre;rw[List.length_take]at this;omega
 obtain⟨h1,tk,rfl,hk⟩:=x.done;have M:∀b:Addr,b ∉(cP CX P w K mg base N I j f cd A outer s H E).ex:=λb z=>absurd (show b∈([]:List Addr) from z) (by simp)
 refine⟨⟨J.mod,S.kind,Z,Z,zZ _,λy z c h1 h2=>?_,λy O=>?_,λy c _ h=>?_,λ_=>hd,Around.frames_deeper J.frames,.inr ⟨Z,Z⟩,λb z=>absurd z (M b),J.bs,J.bsz,λb _ _=>M b,λb z=>absurd z (M b),J.funs,J.frf⟩,
  Z,J.bare,Un.kept hk,⟨_,x.toInCall.ns,λi y v h1 h2 h3=>?_⟩,λy c h=>⟨_,x.cell y c h⟩,J.hok.fresh (zZ _),λy c h=>?_,λp Y=>absurd (show p∈([]:List (Addr×Obj)) from Y) (by simp),J.hok.kept hk,?_⟩
 ·exact name_of_addr x.apart (zN h1) (zN h2)
 ·have O:j.names.lookup y=some .cell\/j.names.lookup y=some .free:=O
  rcases O with O |O
  ·exact Fp O
  ·exact absurd Z (S.nofree _ (zN O))
 ·exact Nat.le_of_lt (x.above y c (zN h))
 ·have hi:i<vs.length:=by
   unfold eP at h2;by_cases hi:i<vs.length
   ·exact hi
   ·rw[List.getElem?_append_right (by simpa using hi)]at h2
    rw[List.getElem?_replicate]at h2;split at h2 <;> cases h2
  have ha:vs[i]?=some v:=by
   unfold eP at h2;rw[List.getElem?_append_left (by simpa using hi),dA]at h2
   cases e:vs[i]? with
   |none=>rw[e]at h2;cases h2
   |some a=>rw[e]at h2;cases h2;rfl
  obtain⟨u,hu,rv⟩:=r.get ha
  have Y:ps[i]?=some y:=by
   rw[<- S.pre,List.getElem?_take_of_lt (by omega)];exact h1
  have U:ps.Nodup:=by rw[<- S.pre];exact S.nd.sublist (List.take_sublist _ _)
  refine⟨u,rv,?_⟩;rcases S.par y (cZ Y) with k |k
  ·exact .inl ⟨k,Gy U Y hu k⟩
  ·obtain⟨c,e⟩:=Fp (n:=s.heap.objs.size+1) k
   refine .inr ⟨.inl k,c,e,?_⟩;have q:=x.cell y c e;rw[Gw U Y hu (by show j.names.lookup y≠_;rw[k];decide)]at q;exact q
 ·exact J.hok.fresh (Nat.le_of_lt (x.above y c (zN h)))
 ·unfold eP
  show _=N.length;rw[bK,aR,List.length_replicate];omega
def Dc {CX:fW} {P:Program} {w:World} {K:Fg} {mg:Str->Option Value} {base:Heap} {k:Nat} {f:Addr} {name qual:Str} {params:Arguments} {body:List Stmt} {scope:Scope} {dV kV doc pm cdv ct oc:Value} {an od:Option Addr}
  {osl:Array (Option Value)} {N ps:List Str} {sp:Sp} (lk:K.lookup f=some ⟨oc,od,.func (PySem.W.fnOf name qual params body scope dV kV doc pm an cdv ct),osl⟩) (hcd:PySem.W.codeIn K cdv qual=true) (S:FnScope N ps scope)
  (len:∀vs H Q E,sp vs H Q E->vs.length=ps.length)
  (hbody:∀(A:Around) (outer:List Env) (s:Shared) (H:Hp) (vs:List V) (Q:VK) (E:XK),Room k (A.deeper (envOfC qual scope s.heap.objs.size f cdv))->sp vs H Q E->
   ∃t,PSs (cP CX P w K mg base N qual scope f cdv A outer s H E) body t/\t {nx:=λ_ H'=>Q .non H',rt:=Q} (eP N vs) H) :
  FnOk P w K mg base CX (k+1) f (PySem.W.fnOf name qual params body scope dV kV doc pm an cdv ct) ps sp:=by
 refine⟨len,λA outer s H args us vs Q E hr e0 hb r hsp=>?_⟩;have hl:=len _ _ _ _ hsp;have KX:K.In s.heap:=e0.mod.kin.keeps λb o e=>(e0.bs b o e).1;have lim:s.heap.NoLimit:=e0.mod.nolimit.keeps λb o e=>(e0.bs b o e).1
 have hkind:∀y∈ps.zip us,scope.names.lookup y.1=some .local\/(scope.names.lookup y.1=some .cell/\((cellsFrom (s.heap.objs.size+1) scope.names []).lookup y.1).isSome=true):=λ⟨n,v⟩ hy=>by
  rcases S.par n (List.of_mem_zip hy).1 with q |q
  ·exact .inl q
  ·exact .inr ⟨q,PySem.W.cellsFrom_some _ _ _ (.inl q)⟩
 refine codeAny_call_function hr.depth (KX _ _ lk) rfl S.co S.gen rfl (PySem.W.codeRec_of KX hcd) (hb _ _ _ _ ?_);refine wpAny_newFunctionEnv_cells S.kind hkind λenv he s1 x=>?_;subst he;refine⟨lim.keeps x.toInCall.keep,codeAny_func ?_⟩;obtain⟨t,ht,hq⟩:=hbody A outer s H vs Q E (hr.deeper _) hsp;have I:Inv (cP CX P w K mg base N qual scope f cdv A outer s H E) [] (eP N vs) H s1:=Hd S (Prod.mk.inj hr.hd).1 e0 hl r x;refine wpAny_mono (ht [] s1 (eP N vs) H _ I hq) (λfl s' hs=>?_) λe s' hs=>hs
 have fin:∀{σ':St} {H':Hp} {v:V} {u:Value},Inv (cP CX P w K mg base N qual scope f cdv A outer s H E) [] σ' H' s'->RelV v u->Q v H'->CE outer P w H s Q u s':=
  λ{σ' H' v u} J rv q=>⟨v,H',J.os,J.bare,J.base,J.hok,rv,q⟩
 cases fl with
 |ret u=>
  obtain⟨v,σ',H',J,rv,q⟩:=hs;exact fin J rv q
 |next=>
  obtain⟨σ',H',J,q⟩:=hs;exact fin (v:=V.non) (u:=Value.none) J rfl q
 |brk=>
  obtain⟨_,_,_,q⟩:=hs;exact False.elim q
 |cont=>
  obtain⟨_,_,_,q⟩:=hs;exact False.elim q
section
variable {X:Cx}{x:Str}{p pos:Pos}{e:Expr}{es:List Expr}{t:TA}{id T:String}{r:List V->Hp->VK->Prop}
def Jy(r:List V->Hp->VK->Prop)(t:TA):TE:=λσ H Q=>t σ H λvs H1=>r vs H1 Q
def bP (hc:CallR X (.builtin id) r) (hg:Gl X x) (hm:X.mg x=none) (hv:bootBuiltins x=some (.builtin id)) (ha:PA X (e::es) t) (hn:x≠"__name__":=by decide) (hdb:(x == ("__debug__":Str))=false:=by decide)
  (he:starEach (e::es) X.env=(false,eval e X.env)::starEach es X.env:=by rfl) (hpl:(backTo pos (starEach es X.env)).any (·.1)=false:=by rfl):PE X (.Call (.Name x p) (e::es) [] pos) (Jy r t):=by
 intro pins s σ H Q I h;refine wpAny_Call_Name_kw (oB I hg hm hv ?_ hn hdb);exact PyProof.Rows.callWith_builtin1 (aN (ha pos pins s σ H _ I h) λus s1 ⟨vs,H1,I1,r1,q1⟩=>hc pins s1 σ H1 vs us Q I1 r1 q1) he hpl
def iQ (hc:CallR X (.type T) r) (hg:Gl X x) (hm:X.mg x=none) (hv:bootBuiltins x=some (.type T)) (ha:PA X (e::es) t) (hn:x≠"__name__":=by decide) (hdb:(x == ("__debug__":Str))=false:=by decide)
  (he:starEach (e::es) X.env=(false,eval e X.env)::starEach es X.env:=by rfl) (hpl:(backTo pos (starEach es X.env)).any (·.1)=false:=by rfl):PE X (.Call (.Name x p) (e::es) [] pos) (Jy r t):=by
 intro pins s σ H Q I h;refine wpAny_Call_Name_kw (oB I hg hm hv ?_ hn hdb);exact PyProof.Rows.callWith_type1 (aN (ha pos pins s σ H _ I h) λus s1 ⟨vs,H1,I1,r1,q1⟩=>hc pins s1 σ H1 vs us Q I1 r1 q1) he hpl
end
end L2
namespace HT
open PySem PyProof.Rows
section
variable {prog:Program}{w:World}{A:Around}{E:Value->Shared->Prop}{s:Shared}
def cat_tup {t b:Addr} {vs ws:List Value} {Q:Value->Shared->Prop} (ht:IsTup s.heap t vs.toArray) (hb:IsTup s.heap b ws.toArray) (hv:vs≠[])
  (h1:ws=[]->Q (.ref t) s) (h2:ws≠[]->Q (.ref s.heap.objs.size) {s with heap:=s.heap.push {cls:=.type "tuple",data:=.seq (vs++ws).toArray}})
  (hsz:vs.length+ws.length<=sizeLine):wpAny (model prog w) A (binaryOp .Add (.ref t) (.ref b)) Q E s:=by
 obtain⟨⟨cls,dd,data,sl⟩,ho,hc,n,hd⟩:=id ht;obtain⟨⟨cls2,dd2,data2,sl2⟩,ho2,hc2,n2,hd2⟩:=id hb;simp only at hc hd hc2 hd2;subst hc hd hc2 hd2;have e:vs.toArray++ws.toArray=(vs++ws).toArray:=by simp
 by_cases hw:ws=[]
 ·exact concat_meets ⟨_,ho,rfl⟩ ⟨_,ho2,rfl⟩ noFill_tuple_add seq_tuple_add PySem.F.slot_tuple_add PySem.F.entry_tuple_add (PySem.F.args_tuple_add_2 _ _)
   (tuple_addW1 t b vs.toArray ws.toArray n n2 dd dd2 sl sl2 (by simpa using hv) (by simp[hw])) ⟨ho,ho2,h1 hw⟩
 ·refine concat_meets ⟨_,ho,rfl⟩ ⟨_,ho2,rfl⟩ noFill_tuple_add seq_tuple_add PySem.F.slot_tuple_add PySem.F.entry_tuple_add (PySem.F.args_tuple_add_2 _ _)
   (tuple_addW2 t b vs.toArray ws.toArray n n2 dd dd2 sl sl2 (by simpa using hv) (by simpa using hw) (by rw[List.size_toArray,List.size_toArray];exact hsz)) ⟨ho,ho2,?_⟩
  rw[e];exact h2 hw
def sIx(n d:Nat):Option Int->Nat
 |none=>d
 |some v=>if v<0 then (v+(n:Int)).toNat else min v.toNat n
theorem sIx_none(n d:Nat):sIx n d none=d:=Z
theorem sIx_nat(n d k:Nat):sIx n d (some (k:Int))=min k n:=by
 show(if (k:Int)<0 then ((k:Int)+(n:Int)).toNat else min (k:Int).toNat n)=min k n;rw[if_neg (by omega),Int.toNat_natCast]
def Mz(n d:Nat)(hd:d<=n)(o:Option Int):sIx n d o<=n:=by
 cases o with
 |none=>exact hd
 |some v=>
  show(if v<0 then (v+(n:Int)).toNat else min v.toNat n)<=n;by_cases j:v<0
  ·rw[if_pos j];omega
  ·rw[if_neg j];exact Nat.min_le_right _ _
def El(v:Int)(n d:Nat):(if v<0 then max (v+(n:Int)) 0 else min v (n:Int))=((sIx n d (some v):Nat):Int):=by
 show(if v<0 then max (v+(n:Int)) 0 else min v (n:Int))=(((if v<0 then (v+(n:Int)).toNat else min v.toNat n):Nat):Int);by_cases j:v<0
 ·simp only[if_pos j];omega
 ·simp only[if_neg j];omega
theorem To(lo hi:Option Int)(n:Nat):Builtin.Slice.sliceAdjust lo hi 1 (n:Int)=(((sIx n 0 lo:Nat):Int),((sIx n n hi:Nat):Int)):=by
 have h1:¬((1:Int)<0):=by omega
 unfold Builtin.Slice.sliceAdjust;simp only[h1,if_false];refine Prod.ext ?_ ?_
 ·cases lo with
  |none=>rfl
  |some v=>exact El v n 0
 ·cases hi with
  |none=>rfl
  |some v=>exact El v n n
theorem V3(i j:Nat):Builtin.Slice.slicePlaces (i:Int) (j:Int) 1=j-i:=by
 unfold Builtin.Slice.slicePlaces;have h1:(1:Int) > 0:=by omega
 simp only[h1,if_true,Int.ediv_one];split <;> omega
def Iq{v:Value}{o:Option Int}{Q:Option Int->Shared->Prop}(p:IsPart v o)(h:Q o s):wpAny (model prog w) A (Builtin.Slice.slicePartIndex v) Q E s:=by
 cases p with
 |none=>exact slicePart_none h
 |int i t=>exact slicePart_int h
def X4 {sl:Addr} {I z:Value} {lo hi:Option Int} {n:Nat} {Q:Int×Int×Nat->Shared->Prop} (hs:s.heap.IsSliceOf sl I z .none) (pl:IsPart I lo) (J:IsPart z hi)
  (h:Q (((sIx n 0 lo:Nat):Int),1,sIx n n hi-sIx n 0 lo) s):wpAny (model prog w) A (Builtin.Slice.sliceApplied (.ref sl) (pure (n:Int))) Q E s:=by
 obtain⟨O,j,M,y⟩:=id hs;unfold Builtin.Slice.sliceApplied Builtin.Slice.sliceFields;refine zX (zX (qN j y (x:=I) Z (zX (qN j y (x:=z) Z (zX (qN j y (x:=.none) Z (z7 ?_)))))));refine zX (slicePart_none ?_);show wpAny _ _ (if ((1:Int) == 0)=true then _ else _) _ _ s;rw[if_neg (by decide)];refine zX (Iq pl (zX (Iq J (zX (z7 ?_)))));show wpAny _ _ (match Builtin.Slice.sliceAdjust lo hi 1 (n:Int) with |(lo,hi)=>pure (lo,(1:Int),Builtin.Slice.slicePlaces lo hi 1)) _ _ s;rw[To lo hi n];show wpAny _ _ (pure (((sIx n 0 lo:Nat):Int),(1:Int),Builtin.Slice.slicePlaces ((sIx n 0 lo:Nat):Int) ((sIx n n hi:Nat):Int) 1)) _ _ s;rw[V3];exact z7 h
theorem Rv(xs:Array Value)(i k:Nat):((List.range k).filterMap λ(m:Nat)=>xs[((i:Int)+(m:Int)*1).toNat]?).toArray=((xs.toList.drop i).take k).toArray:=by
 have e:(λ(m:Nat)=>xs[((i:Int)+(m:Int)*1).toNat]?)=λm=>xs[i+m]?:=by
  funext m
  have:((i:Int)+(m:Int)*1).toNat=i+m:=by omega
  rw[this]
 rw[e];have:=pick_run xs i k;rw[List.filterMap_map]at this;have j:((λx=>xs[x]?) ∘ λx=>i+x)=λm=>xs[i+m]?:=Z;rw[j]at this;rw[this]
def getItem_tuple_cut {t sl:Addr} {items:Array Value} {O M:Value} {lo hi:Option Int} {Q:Value->Shared->Prop} (n:IsTup s.heap t items) (hs:s.heap.IsSliceOf sl O M .none) (pl:IsPart O lo) (U:IsPart M hi)
  (hw:¬(sIx items.size 0 lo=0/\sIx items.size items.size hi=items.size))
  (h:Q (.ref s.heap.objs.size) {s with heap:=s.heap.push {cls:=.type "tuple",data:=.seq ((items.toList.drop (sIx items.size 0 lo)).take (sIx items.size items.size hi-sIx items.size 0 lo)).toArray}})
  (hsz:items.size<=sizeLine):wpAny (model prog w) A (getItem (.ref t) (.ref sl)) Q E s:=by
 have j:sizeOk (.seq ((items.toList.drop (sIx items.size 0 lo)).take (sIx items.size items.size hi-sIx items.size 0 lo)).toArray):=by
  show((items.toList.drop (sIx items.size 0 lo)).take (sIx items.size items.size hi-sIx items.size 0 lo)).toArray.size<=sizeLine;rw[List.size_toArray,List.length_take,List.length_drop,Array.length_toList];omega
 have hj:sIx items.size items.size hi<=items.size:=Mz _ _ (zZ _) hi;obtain⟨Y,y,I,a0⟩:=id hs;have J:s.TypeIs (.ref sl) "slice":=⟨Y,y,I⟩;unfold getItem
 try with_reducible refine qO ?_
 first |refine zX (z7 ?_) |skip
 refine zX (wpAny_sequenceKey n.typeIs (by decide) ?_)
 refine zX (wpAny_callSpecial?_slot (name:=Str.ofString "__getitem__") n.typeIs PyProof.Rows.slot_tuple_getitem
  (wpAny_call_entry PyProof.Rows.slot_tuple_getitem n.typeIs entry_tuple_getitem ?_ (args_tuple_getitem _ _)))
 show wpAny _ _ (Builtin.Tuple.tupleItemsOf (.ref t) >>= _) _ _ s;refine zX (tupleItemsOf_ n ?_);refine zX (qW J ?_);rw[if_pos (by decide)];refine zX (X4 hs pl U ?_)
 have z:¬((((sIx items.size 0 lo:Nat):Int) == 0 && (1:Int) == 1 && (sIx items.size items.size hi-sIx items.size 0 lo) == items.size)=true):=by
  intro q;rw[Bool.and_eq_true,Bool.and_eq_true]at q;have q1:((sIx items.size 0 lo:Nat):Int)=0:=eq_of_beq q.1.1;have q2:sIx items.size items.size hi-sIx items.size 0 lo=items.size:=eq_of_beq q.2;exact hw ⟨by omega,by omega⟩
 show wpAny _ _ (if (((sIx items.size 0 lo:Nat):Int) == 0 && (1:Int) == 1 && (sIx items.size items.size hi-sIx items.size 0 lo) == items.size)=true then _ else _) _ _ s;rw[if_neg z,Rv]
 first
  |exact zX (m:=Builtin.Tuple.tupleExact _) (wpAny_newObj_type (z7 ⟨_,Z,z7 h⟩) j)
  |exact zX (m:=Builtin.Tuple.tupleExact _) (wpAny_newObj_type (zX (z7 (z7 ⟨_,rfl,z7 h⟩))) j)
  |exact zX (zX (m:=Builtin.Tuple.tupleExact _) (wpAny_newObj_type (z7 (z7 ⟨_,rfl,z7 h⟩)) j))
  |exact zX (zX (m:=Builtin.Tuple.tupleExact _) (wpAny_newObj_type (z7 ⟨_,rfl,z7 h⟩) j))
end
end HT
namespace L2
open PySem PySem.Spec PyProof.Rows
abbrev TO:=St->Hp->(Option Int->Hp->Prop)->Prop
def PO(X:Cx)(e:Option Expr)(t:TO):Prop:=
 ∀(pins:List (Addr×Obj)) (s:Shared) (σ:St) (H:Hp) (Q:Option Int->Hp->Prop),Inv X pins σ H s->t σ H Q->
  wpAny (model X.prog X.w) X.A (evalPart e X.env) (λu s'=>∃o H',Inv X pins σ H' s'/\IsPart u o/\Q o H') X.xe s
def Ow:TO:=λ_ H Q=>Q none H
def Mg(t:TE):TO:=λσ H Q=>t σ H λx H1=>∃i,x=.int i/\Q (some i) H1
section
variable {X:Cx}{e:Expr}{te:TE}{lo hi:Option Expr}{tl th:TO}{pos p2:Pos}
def iJ:PO X none Ow:=by
 intro pins s σ H Q I h;rw[evalPart_none];exact z7 ⟨none,H,I,.none,h⟩
def iK(h:PE X e te):PO X (some e) (Mg te):=by
 intro pins s σ H Q I y;rw[evalPart_some];refine aN (h pins s σ H _ I y) λu J ⟨x,H1,z,j,n⟩=>?_;obtain⟨i,rfl,q⟩:=n;obtain⟨t,rfl⟩:=j;exact⟨some i,H1,z,.int i t,q⟩
def xO(X:Cx)(r:V->Option Int->Option Int->Hp->VK->Prop):Prop:=
 ∀(pins:List (Addr×Obj)) (s:Shared) (σ:St) (H:Hp) (x:V) (v vl vu:Value) (lo hi:Option Int) (sl:Addr) (Q:VK),Inv X pins σ H s->RelV x v->s.heap.IsSliceOf sl vl vu .none->IsPart vl lo->IsPart vu hi->r x lo hi H Q->
  ∃T id,typeLookup (.type T) "__getitem__"=pure (some (.builtin id))/\s.TypeIs v T/\wpAny (model X.prog X.w) X.A (getItem v (.ref sl)) (EP X pins σ Q) X.xe s
def X9(r:V->Option Int->Option Int->Hp->VK->Prop)(te:TE)(tl th:TO):TE:=λσ H Q=>te σ H λx H1=>tl σ H1 λl H2=>th σ H2 λu H3=>r x l u H3 Q
def iN{r:V->Option Int->Option Int->Hp->VK->Prop}(hr:xO X r)(he:PE X e te)(hl:PO X lo tl)(hu:PO X hi th):PE X (.Subscript e (.Slice lo hi none p2) pos) (X9 r te tl th):=by
 intro pins s σ H Q I h;refine Subscript_ (aN (he pins s σ H _ I h) λv s1 ⟨x,H1,I1,r1,q1⟩=>?_);refine wpAny_Slice (aN (hl pins s1 σ H1 _ I1 q1) λvl s2 ⟨l,H2,I2,pl,q2⟩=>aN (hu pins s2 σ H2 _ I2 q2) λvu s3 ⟨u,H3,I3,pu,q3⟩=>?_);rw[evalPart_none];refine z7 ?_;have I4:Inv X pins σ H3 {s3 with heap:=s3.heap.push {cls:=.type "slice",data:=.fields #[vl,vu,.none]}}:=I3.kept (t':=s3.toks) λb ob q=>aT _ q;obtain⟨T,id,hT,ht,hg⟩:=hr pins {s3 with heap:=s3.heap.push {cls:=.type "slice",data:=.fields #[vl,vu,.none]}} σ H3 x v vl vu l u s3.heap.objs.size Q I4 r1 (Heap.IsSliceOf.new ..) pl pu q3;show wpAny (model X.prog X.w) X.A (subscriptTail e (.Slice lo hi none p2) v (.ref s3.heap.objs.size)) (EP X pins σ Q) X.xe {s3 with heap:=s3.heap.push {cls:=.type "slice",data:=.fields #[vl,vu,.none]}};exact tail_any (ops:=[.ref s3.heap.objs.size,v]) ht hT hg (by with_unfolding_all rfl)
def bY(xs:List V)(lo hi:Option Int):List V:=(xs.drop (HT.sIx xs.length 0 lo)).take (HT.sIx xs.length xs.length hi-HT.sIx xs.length 0 lo)
def Jj(xs:List V)(lo hi:Option Int):(bY xs lo hi).length<=xs.length:=by
 unfold bY;rw[List.length_take,List.length_drop];omega
def C1(K:Fg):V->Option Int->Option Int->Hp->VK->Prop:=λx lo hi H Q=>∃a xs,x=.ref a/\SqT K H a xs ∧
 ¬(HT.sIx xs.length 0 lo=0/\HT.sIx xs.length xs.length hi=xs.length)/\∀p,H p=none->Q (.ref p) (upd H p (.tup (bY xs lo hi)))
def yF:xO X (C1 X.K):=by
 intro pins s σ H x v U O lo hi sl Q I y hs pl z h;obtain⟨a,xs,rfl,J,M,q⟩:=h;cases y;obtain⟨its,r,n,hz⟩:=I.tuple J;have j:its.toArray.size=xs.length:=by rw[List.size_toArray];exact r.length.symm
 refine⟨"tuple",_,PyProof.Rows.slot_tuple_getitem.lookup,n.typeIs,?_⟩;refine HT.getItem_tuple_cut n hs pl z (by rw[j];exact M) ?_ (by rw[j];exact hz);rw[j];refine⟨.ref s.heap.objs.size,_,I.laid (t':=s.toks) (o:=.tup (bY xs lo hi)) (λb ob q=>aT _ q) (zZ _) ?_,Z,q _ (I.hok.fresh (zZ _))⟩;exact⟨zY (Jj xs lo hi) hz,_,(r.drop (HT.sIx xs.length 0 lo)).take (HT.sIx xs.length xs.length hi-HT.sIx xs.length 0 lo),_,z9 _ Z,Z,_,Z,Z⟩
def Dg(K:Fg):R2:=λx y H Q=>∃a b xs ys,x=.ref a/\y=.ref b/\SqT K H a xs/\SqT K H b ys/\xs≠[]/\xs.length+ys.length<=sizeLine ∧
 (ys=[]->Q (.ref a) H)/\(ys≠[]->∀p,H p=none->Q (.ref p) (upd H p (.tup (xs++ys))))
def Vals.nil_iff{xs:List V}{us:List Value}(r:Vals xs us):us=[] ↔ xs=[]:=by
 cases r with
 |nil=>simp
 |cons _ _=>simp
def Fi:cS X (binaryOp .Add) (Dg X.K):=by
 intro pins s σ H x y v u Q I O M h;obtain⟨a,b,xs,ys,rfl,rfl,ha,hb,hx,hz,Y,U⟩:=h;cases O;cases M;obtain⟨its,n,p1,_⟩:=I.tuple ha;obtain⟨J,j,p2,_⟩:=I.tuple hb;refine HT.cat_tup p1 p2 (λz=>hx (n.nil_iff.mp z)) (λz=>⟨.ref a,H,I,Z,Y (j.nil_iff.mp z)⟩) (λz=>?_) (by rw[<- n.length,<- j.length];exact hz);refine⟨.ref s.heap.objs.size,_,I.laid (t':=s.toks) (o:=.tup (xs++ys)) (λb ob q=>aT _ q) (zZ _) ?_,Z,U (λw=>z (j.nil_iff.mpr w)) _ (I.hok.fresh (zZ _))⟩;exact⟨by rw[bK];exact hz,_,n.append j,_,z9 _ Z,Z,_,Z,Z⟩
end
def mO(n:Nat)(i:Int):Option Nat:=if 0<=i then (if i<n then some i.toNat else none) else if -(n:Int)<=i then some (i+n).toNat else none
def cV{α:Type}(xs:List α)(i:Int):Option α:=(mO xs.length i).bind λj=>xs[j]?
def Eo{n:Nat}{i:Int}{j:Nat}(h:mO n i=some j):seqIndex? i n=some j/\j<n/\-(n:Int)<=i/\i<n:=by
 unfold mO at h;by_cases h0:0<=i
 ·rw[if_pos h0]at h
  by_cases h1:i<n
  ·rw[if_pos h1]at h
   have e:i.toNat=j:=qB h;exact⟨by rw[seqIndex_of h0 h1,e],by omega,by omega,h1⟩
  ·rw[if_neg h1]at h;cases h
 ·rw[if_neg h0]at h
  by_cases h1:-(n:Int)<=i
  ·rw[if_pos h1]at h
   have e:(i+n).toNat=j:=qB h;exact⟨by rw[seqIndex_neg (by omega) h1,e],by omega,h1,by omega⟩
  ·rw[if_neg h1]at h;cases h
def sJ{α:Type}{xs:List α}{i:Int}{v:α}(h:cV xs i=some v):∃j,seqIndex? i xs.length=some j/\xs[j]?=some v/\j<xs.length/\-(xs.length:Int)<=i/\i<xs.length:=by
 unfold cV at h
 cases e:mO xs.length i with
 |none=>rw[e]at h;cases h
 |some j=>
  rw[e]at h;obtain⟨h1,h2,y,n⟩:=Eo e;exact⟨j,h1,h,h2,y,n⟩
def eQ{α:Type}{xs:List α}{j:Nat}{v:α}(h:xs[j]?=some v):cV xs (j:Int)=some v:=by
 have n:j<xs.length:=(dC h).1
 have e:mO xs.length (j:Int)=some j:=by
  unfold mO;rw[if_pos (by omega),if_pos (by omega)];simp
 unfold cV;rw[e];exact h
def Qm{α:Type}(xs:List α)(v:α):cV (xs++[v]) (-1)=some v:=by
 have j:(xs++[v]).length=xs.length+1:=by simp
 have e:mO (xs++[v]).length (-1)=some xs.length:=by
  unfold mO;rw[j,if_neg (by decide),if_pos (by omega)];congr 1;omega
 unfold cV;rw[e];show(xs++[v])[xs.length]?=some v;simp
def Nj(b:Expr):Prop:=∀o i,subscripted b false o i=operate [o,i] (getItem o i)
def tX(X:Cx)(r:R2):Prop:=
 ∀(value slice:Expr) (pins:List (Addr×Obj)) (s:Shared) (σ:St) (H:Hp) (x y:V) (v u:Value) (Q:VK),Inv X pins σ H s->RelV x v->RelV y u->r x y H Q->
  subscripted slice false v u=operate [v,u] (getItem v u)->wpAny (model X.prog X.w) X.A (subscriptTail value slice v u) (EP X pins σ Q) X.xe s
def nY(X:Cx)(id:String)(r:V->List V->Hp->VK->Prop):Prop:=
 ∀(pins:List (Addr×Obj)) (s:Shared) (σ:St) (H:Hp) (x:V) (xs:List V) (v:Value) (us:List Value) (Q:VK),Inv X pins σ H s->RelV x v->Vals xs us->r x xs H Q->
  wpAny (model X.prog X.w) X.A (call (.builtin id) (v::us)) (EP X pins σ Q) X.xe s
section
variable {X:Cx}{a b:Expr}{ta tb:TE}{pos:Pos}
def aL{r:R2}(hr:tX X r)(ha:PE X a ta)(hb:PE X b tb)(hs:Nj b):PE X (.Subscript a b pos) (xK r ta tb):=by
 intro pins s σ H Q I h;exact Subscript_ (pE ha hb I h λv u s2 x y H2 I2 rx ry q=>hr a b pins s2 σ H2 x y v u Q I2 rx ry q (hs _ _))
def C7(K:Fg):R2:=λx y H Q=>∃p xs i v,x=.ref p/\y=.int i/\SqL K H p xs/\cV xs i=some v/\Q v H
def tH(K:Fg):R2:=λx y H Q=>∃p xs i v,x=.ref p/\y=.int i/\SqT K H p xs/\cV xs i=some v/\Q v H
def C6:R2:=λx y H Q=>∃z i c,x=.str z/\y=.int i/\z.length<=sizeLine/\cV z.cps.toList i=some c/\Q (.str ⟨#[c]⟩) H
def iL:tX X (C7 X.K):=by
 intro value n pins s σ H x y v u Q I Y U h hs;obtain⟨p,xs,i,z,rfl,rfl,hq,he,q⟩:=h;cases Y;obtain⟨t,rfl⟩:=U;obtain⟨its,r,pl,hz⟩:=I.list hq;obtain⟨j,h1,h2,h3,h4,h5⟩:=sJ he;obtain⟨w,O,J⟩:=r.get h2;have hl:=r.length;have hn:=pY;have fin:EP X pins σ Q w s:=⟨z,H,I,J,q⟩;by_cases h0:0<=i
 ·have M:i.toNat=j:=by
   rw[seqIndex_of h0 h5]at h1;exact qB h1
  exact item_listR pl.isList h0 (by omega) (by rw[M];simpa using O) fin hs
 ·have M:(i+(its.toArray.size:Int)).toNat=j:=by
   rw[seqIndex_neg (by omega) h4]at h1;rw[List.size_toArray,<- hl];exact qB h1
  exact subscriptTail_builtinR (x:=w) pl.isList.typeIs slot_list_getitem.lookup
   (wpAny_getItem_list_neg (Q:=λr s'=>r=w/\EP X pins σ Q r s') pl.isList (by omega) (by rw[List.size_toArray] <;> omega) (by omega) (by rw[M];simpa using O) ⟨Z,fin⟩) hs
def bO:tX X (tH X.K):=by
 intro value n pins s σ H x y v u Q I O M h hs;obtain⟨p,xs,i,z,rfl,rfl,U,he,q⟩:=h;cases O;obtain⟨t,rfl⟩:=M;obtain⟨its,r,pl,hz⟩:=I.tuple U;obtain⟨j,h1,h2,h3,h4,h5⟩:=sJ he;obtain⟨w,ew,J⟩:=r.get h2;have Y:=r.length;have hn:=pY;have fin:EP X pins σ Q w s:=⟨z,H,I,J,q⟩
 exact subscriptTail_builtinR (x:=w) pl.typeIs slot_tuple_getitem.lookup
  (getItem_tuple (j:=j) (Q:=λr s'=>r=w/\EP X pins σ Q r s') pl (by omega) (by omega) (by rw[List.size_toArray,<- Y];exact h1) (by simpa using ew) ⟨Z,fin⟩) hs
def xX:tX X C6:=by
 intro value n pins s σ H x y v u Q I M J h hs;obtain⟨z,i,c,rfl,rfl,hz,U,q⟩:=h;obtain⟨t,rfl⟩:=M;obtain⟨t',rfl⟩:=J;obtain⟨j,h1,h2,h3,h4,Y⟩:=sJ U;have O:z.cps.toList.length=z.length:=by simp[Str.length]
 rw[O]at h1 h4 Y;have hn:=pY
 exact tail_any (typeIs_str s z t) slot_str_getitem.lookup (getItem_str (c:=c) (by
  have e1:decide (i < -(2 ^ 63:Int))=false:=eI (by omega);have e2:decide (i ≥ 2 ^ 63)=false:=eI (by omega);rw[e1,e2,Bool.or_false]) (by rw[h1];simpa using h2) ⟨.str ⟨#[c]⟩,H,I.tok _,⟨_,Z⟩,q⟩) hs
def U5(its:List Value)(n j:Nat)(u:Value):Obj.mapSeq (·.setIfInBounds j u) {cls:=.type "list",data:=.seq its.toArray n}={cls:=.type "list",data:=.seq (its.set j u).toArray n}:=by
 simp[Obj.mapSeq]
theorem Inv.lst {pins:List (Addr×Obj)} {σ:St} {H:Hp} {s:Shared} {p:Addr} {xs:List V} (I:Inv X pins σ H s) (h:H p=some (.lst xs)) :
  ∃(its:List Value) (n:Nat),Vals xs its/\s.heap.get? p=some {cls:=.type "list",data:=.seq its.toArray n}/\xs.length<=sizeLine:=by
 obtain⟨z,its,n,r,e⟩:=I.hok p _ h;exact⟨its,n,r,e,z⟩
def Inv.lstUpd {pins:List (Addr×Obj)} {σ:St} {H:Hp} {s:Shared} {p:Addr} {xs ys:List V} {its its':List Value} {n n':Nat} {f:Obj->Obj} (I:Inv X pins σ H s) (h:H p=some (.lst xs))
  (ho:s.heap.get? p=some {cls:=.type "list",data:=.seq its.toArray n}) (hf:f {cls:=.type "list",data:=.seq its.toArray n}={cls:=.type "list",data:=.seq its'.toArray n'}) (r:Vals ys its') (hz:ys.length<=sizeLine) (t:Nat) :
  Inv X pins σ (upd H p (.lst ys)) {s with heap:=s.heap.update p f,toks:=t}:=by
 have e:(s.heap.update p f).get? p=some {cls:=.type "list",data:=.seq its'.toArray n'}:=by
  rw[Heap.get?_update_self f ho (by rw[hf] <;> rfl),hf]
 refine I.write (x:=p) (e:=p) (by rw[h];trivial) (.inl rfl) (λb u hb q=>(Heap.get?_update_other _ _ (Ne.symm hb)).trans q) ⟨_,e⟩ ?_;exact⟨hz,its',n',r,e⟩
def M8:V->V->V->Hp->(Hp->Prop)->Prop:=λo i v H Q=>∃p xs k j,o=.ref p/\i=.int k/\H p=some (.lst xs)/\mO xs.length k=some j/\Q (upd H p (.lst (xs.set j v)))
def Gb:tR X M8:=by
 intro pins s σ H o i v ov iv u Q I ro ri rv h;obtain⟨p,xs,k,j,rfl,rfl,M,hj,q⟩:=h;cases ro;obtain⟨t,rfl⟩:=ri;obtain⟨its,n,r,y,hz⟩:=I.lst M;obtain⟨h1,h2,U,O⟩:=Eo hj;have z:=r.length;have hn:=pY
 have Y:Inv X pins σ (upd H p (.lst (xs.set j v))) {s with heap:=s.heap.update p (Obj.mapSeq (·.setIfInBounds j u))}:=
  I.lstUpd M y (U5 its n j u) (r.set rv j) (by rw[List.length_set];exact hz) s.toks
 by_cases h0:0<=k
 ·have J:k.toNat=j:=by
   rw[seqIndex_of h0 O]at h1;exact qB h1
  exact PySem.W.ki_setAt y h0 (by omega) (by rw[List.size_toArray,<- z];exact O) (by rw[J];exact⟨_,Y,q⟩)
 ·have J:(k+(its.toArray.size:Int)).toNat=j:=by
   rw[seqIndex_neg (by omega) U]at h1;rw[List.size_toArray,<- z];exact qB h1
  exact PySem.W.ki_setBack y (by omega) (by rw[List.size_toArray,<- z];exact U) (by omega) (by rw[J];exact⟨_,Y,q⟩)
def W9(lo hi:Option Int)(n:Nat):(sliceBounds lo hi none n).1=((HT.sIx n 0 lo:Nat):Int)/\(sliceBounds lo hi none n).2.1=((HT.sIx n n hi:Nat):Int)/\(sliceBounds lo hi none n).2.2=1:=by
 refine⟨?_,?_,Z⟩
 ·cases lo with
  |none=>simp[sliceBounds,HT.sIx]
  |some i=>
   simp only[sliceBounds,HT.sIx,Option.getD_none,show(1:Int) > 0 by decide,if_true];by_cases h:i<0
   ·simp only[h,if_true] <;> omega
   ·simp only[h,if_false] <;> omega
 ·cases hi with
  |none=>simp[sliceBounds,HT.sIx]
  |some i=>
   simp only[sliceBounds,HT.sIx,Option.getD_none,show(1:Int) > 0 by decide,if_true];by_cases h:i<0
   ·simp only[h,if_true] <;> omega
   ·simp only[h,if_false] <;> omega
theorem Wo(its:List Value)(lo hi:Option Int):slicePick its.toArray lo hi none=((its.drop (HT.sIx its.length 0 lo)).take (HT.sIx its.length its.length hi-HT.sIx its.length 0 lo)).toArray:=by
 obtain⟨h1,h2,j⟩:=W9 lo hi its.toArray.size;unfold slicePick;rw[h1,h2,j];simp only[sliceRange_one,pick_run,List.size_toArray] <;> rfl
def C3(K:Fg):V->Option Int->Option Int->Hp->VK->Prop:=λx lo hi H Q=>∃a xs,x=.ref a/\SqL K H a xs/\∀p,H p=none->Q (.ref p) (upd H p (.lst (bY xs lo hi)))
def nG:xO X (C3 X.K):=by
 intro pins s σ H x v O M lo hi sl Q I y hs pl z h;obtain⟨a,xs,rfl,J,q⟩:=h;cases y;obtain⟨its,r,n,hz⟩:=I.list J;have j:=r.length;refine⟨"list",_,slot_list_getitem.lookup,n.isList.typeIs,?_⟩;refine wpAny_getItem_list_slice n.isList hs pl z .none (by simp) ?_ (by rw[List.size_toArray] <;> omega);rw[Wo,<- j];refine⟨.ref s.heap.objs.size,_,I.laid (t':=s.toks) (o:=.lst (bY xs lo hi)) (λb ob q=>aT _ q) (zZ _) ?_,Z,q _ (I.hok.fresh (zZ _))⟩;exact⟨zY (Jj xs lo hi) hz,_,0,(r.drop (HT.sIx xs.length 0 lo)).take (HT.sIx xs.length xs.length hi-HT.sIx xs.length 0 lo),z9 _ Z⟩
def mV:V->Bool
 |.non=>true
 |.bl _=>true
 |.int _=>true
 |.str _=>true
 |_=>false
def nV:V->V->Bool
 |.non,.non=>true
 |.bl a,.bl b=>a == b
 |.bl a,.int b=>(if a then 1 else 0) == b
 |.int a,.bl b=>a == (if b then 1 else 0)
 |.int a,.int b=>a == b
 |.str a,.str b=>a == b
 |_,_=>false
def Lr{A:Around}{s:Shared}{y x:V}{u v:Value}(n:RelV y u)(j:RelV x v)(I:mV y=true)(z:mV x=true):SeqAt.EqAt A s u v (nV y x):=by
 cases y with
 |non=>
  cases n
  cases x with
  |non=>cases j;exact SeqAt.EqAt.same _
  |bl b=>cases j;exact SeqAt.EqAt.none_bool b
  |int b=>obtain⟨t,rfl⟩:=j;exact SeqAt.EqAt.none_int b t
  |str b=>obtain⟨t,rfl⟩:=j;exact SeqAt.EqAt.none_str b t
  |_=>exact absurd (show false=true from z) qA
 |bl a=>
  cases n
  cases x with
  |non=>cases j;exact SeqAt.EqAt.bool_none a
  |bl b=>cases j;exact SeqAt.EqAt.bool_bool a b
  |int b=>obtain⟨t,rfl⟩:=j;exact SeqAt.EqAt.bool_int a b t
  |str b=>obtain⟨t,rfl⟩:=j;exact SeqAt.EqAt.bool_str a b t
  |_=>exact absurd (show false=true from z) qA
 |int a=>
  obtain⟨t',rfl⟩:=n
  cases x with
  |non=>cases j;exact SeqAt.EqAt.int_none a t'
  |bl b=>cases j;exact SeqAt.EqAt.int_bool a t' b
  |int b=>obtain⟨t,rfl⟩:=j;exact SeqAt.EqAt.int_int a t' b t
  |str b=>obtain⟨t,rfl⟩:=j;exact SeqAt.EqAt.int_str a t' b t
  |_=>exact absurd (show false=true from z) qA
 |str a=>
  obtain⟨t',rfl⟩:=n
  cases x with
  |non=>cases j;exact SeqAt.EqAt.str_none a t'
  |bl b=>cases j;exact SeqAt.EqAt.str_bool a t' b
  |int b=>obtain⟨t,rfl⟩:=j;exact SeqAt.EqAt.str_int a t' b t
  |str b=>obtain⟨t,rfl⟩:=j;exact SeqAt.EqAt.str_str a t' b t
  |_=>exact absurd (show false=true from z) qA
 |_=>exact absurd (show false=true from I) qA
def gG(x:V)(u:Value):Bool:=match u with
 |.none=>nV .non x
 |.bool b=>nV (.bl b) x
 |.int i _=>nV (.int i) x
 |.str z _=>nV (.str z) x
 |_=>false
theorem Eh{x y:V}{u:Value}(r:RelV y u)(f:mV y=true):gG x u=nV y x:=by
 cases y with
 |non=>cases r;rfl
 |bl b=>cases r;rfl
 |int i=>obtain⟨t,rfl⟩:=r;rfl
 |str z=>obtain⟨t,rfl⟩:=r;rfl
 |_=>exact absurd (show false=true from f) qA
theorem sI{x:V}:∀{xs:List V} {us:List Value},Vals xs us->xs.all mV=true->us.any (gG x)=xs.any λy=>nV y x
 |_,_,.nil,_=>Z
 |y::xs,u::us,.cons r t,f=>by
  rw[List.all_cons,Bool.and_eq_true]at f;rw[List.any_cons,List.any_cons,Eh r f.1,sI t f.2]
theorem sP{A:Around}{s:Shared}{x:V}{v:Value}(n:RelV x v)(z:mV x=true):∀{xs:List V} {us:List Value},Vals xs us->xs.all mV=true->∀u∈us,SeqAt.EqAt A s u v (gG x u)
 |_,_,.nil,_=>λu j=>by cases j
 |y::xs,u::us,.cons r t,f=>λI j=>by
  rw[List.all_cons,Bool.and_eq_true]at f;rcases cE j with rfl |j
  ·rw[Eh r f.1];exact Lr r n f.1 z
  ·exact sP n z t f.2 I j
def lP(x:V)(xs:List V):Bool:=xs.any λy=>nV y x
def L0(K:Fg)(neg:Bool):R2:=λx y H Q=>∃p xs,y=.ref p/\(SqL K H p xs\/SqT K H p xs)/\mV x=true/\xs.all mV=true/\Q (.bl (if neg then !lP x xs else lP x xs)) H
def An:cS X (compareOp .In) (L0 X.K false):=by
 intro pins s σ H x y v u Q I z M h;obtain⟨p,xs,rfl,j,J,fs,q⟩:=h;cases M;rcases j with j |j
 ·obtain⟨its,r,pl,hz⟩:=I.list j
  refine SeqAt.in_listAt (gG x) pl.isList (λw n=>sP z J r fs w (by simpa using n)) ⟨.bl _,H,I,Z,?_⟩;rw[show its.toArray.any (gG x)=its.any (gG x) by simp,sI r fs];exact q
 ·obtain⟨its,r,pl,hz⟩:=I.tuple j
  refine SeqAt.in_tupleAt (gG x) pl (λw n=>sP z J r fs w (by simpa using n)) ⟨.bl _,H,I,Z,?_⟩;rw[show its.toArray.any (gG x)=its.any (gG x) by simp,sI r fs];exact q
def W3:cS X (compareOp .NotIn) (L0 X.K true):=by
 intro pins s σ H x y v u Q I z M h;obtain⟨p,xs,rfl,j,J,fs,q⟩:=h;cases M;rcases j with j |j
 ·obtain⟨its,r,pl,hz⟩:=I.list j
  refine SeqAt.notIn_listAt (gG x) pl.isList (λw n=>sP z J r fs w (by simpa using n)) ⟨.bl _,H,I,Z,?_⟩;rw[show its.toArray.any (gG x)=its.any (gG x) by simp,sI r fs];exact q
 ·obtain⟨its,r,pl,hz⟩:=I.tuple j
  refine SeqAt.notIn_tupleAt (gG x) pl (λw n=>sP z J r fs w (by simpa using n)) ⟨.bl _,H,I,Z,?_⟩;rw[show its.toArray.any (gG x)=its.any (gG x) by simp,sI r fs];exact q
def dH:CallR X (.builtin "len") (λxs H Q=>∃p ys,xs=[.ref p]/\(SqL X.K H p ys\/SqT X.K H p ys)/\Q (.int ys.length) H):=by
 intro pins s σ H xs us Q I r h;obtain⟨p,ys,rfl,n,q⟩:=h;obtain⟨u,rfl,z⟩:=lG r;cases z;have hn:=pY;rcases n with n |n
 ·obtain⟨its,y,pl,hz⟩:=I.list n
  have j:=y.length;exact Calls.call_len_list pl.isList (by simp only[List.size_toArray] <;> omega) ⟨.int ys.length,H,I.tok _,⟨s.toks+1,by rw[List.size_toArray,j]⟩,q⟩
 ·obtain⟨its,y,pl,hz⟩:=I.tuple n
  have j:=y.length;exact len_tuple pl (by simp only[List.size_toArray] <;> omega) ⟨.int ys.length,H,I.tok _,⟨s.toks+1,by rw[List.size_toArray,j]⟩,q⟩
def Bd:CallR X (.builtin "len") (λxs H Q=>∃z,xs=[.str z]/\z.length<=sizeLine/\Q (.int z.length) H):=by
 intro pins s σ H xs us Q I r h;obtain⟨z,rfl,hz,q⟩:=h;obtain⟨u,rfl,t,rfl⟩:=lG r;have hn:=pY;exact len_str (by omega) ⟨.int z.length,H,I.tok _,⟨_,Z⟩,q⟩
def CallR.or{f:Value}{r j:List V->Hp->VK->Prop}(h:CallR X f r)(h':CallR X f j):CallR X f (λxs H Q=>r xs H Q\/j xs H Q):=by
 intro pins s σ H xs us Q I rs q;rcases q with q |q
 ·exact h pins s σ H xs us Q I rs q
 ·exact h' pins s σ H xs us Q I rs q
def nP:CallR X (.type "tuple") (λxs H Q=>∃p ys,xs=[.ref p]/\((SqL X.K H p ys/\∀l,H l=none->Q (.ref l) (upd H l (.tup ys)))\/(SqT X.K H p ys/\Q (.ref p) H))):=by
 intro pins s σ H xs us Q I r h;obtain⟨p,ys,rfl,h⟩:=h;obtain⟨u,rfl,J⟩:=lG r;cases J;rcases h with⟨n,q⟩ |⟨n,q⟩
 ·obtain⟨its,j,pl,hz⟩:=I.list n
  have y:=j.length;refine call_tuple_list pl.isList (λh' kp=>?_) (by simp only[List.size_toArray] <;> omega);have z:Inv X pins σ H {s with heap:=h'}:=I.kept (t':=s.toks) kp
  have M:Inv X pins σ (upd H h'.objs.size (.tup ys)) {s with heap:=h'.push {cls:=.type "tuple",data:=.seq its.toArray}}:=
   z.laid (t':=s.toks) (λb o e=>aT _ e) (zZ _) (show ObjOk X.prog X.w _ _ _ (.tup ys) from⟨hz,its,j,_,z9 _ Z,Z,_,Z,Z⟩)
  exact⟨.ref h'.objs.size,_,M,Z,q _ (z.hok.fresh (zZ _))⟩
 ·obtain⟨its,j,pl,hz⟩:=I.tuple n
  exact call_tuple_same pl ⟨.ref p,H,I,Z,q⟩
def Bm(K:Fg)(T:String)(x:V)(H:Hp):Prop:=match x with
 |.str _=>T="str"
 |.int _=>T="int"
 | .ref p=>(T="list"/\∃xs,SqL K H p xs)\/(T="tuple"/\∃o,K.lookup p=some o/\o.cls=.type "tuple"/\o.dict=none) ∨
   (T="dict"/\((∃kvs,H p=some (.dK kvs))\/∃kvs,H p=some (.dT kvs)))\/(T="set"/\∃S n,H p=some (.set S n))
 |_=>False
def Ec {pins:List (Addr×Obj)} {σ:St} {H:Hp} {s:Shared} {T:String} {x:V} {v:Value} (I:Inv X pins σ H s) (r:RelV x v) (y:Bm X.K T x H) :
  s.TypeIs v T/\∀a,v=.ref a->∃ob,s.heap.get? a=some ob/\ob.dict=none:=by
 cases x with
 |str z=>
  obtain⟨t,rfl⟩:=r;cases (show T="str" from y);exact⟨typeIs_str s z t,λ_ e=>nomatch e⟩
 |int i=>
  obtain⟨t,rfl⟩:=r;cases (show T="int" from y);exact⟨typeIs_int s i t,λ_ e=>nomatch e⟩
 | ref p=>
  cases r;rcases y with⟨rfl,xs,M⟩ |⟨rfl,o,j,O,hd⟩ |⟨rfl,j⟩ |⟨rfl,S,n,j⟩
  ·obtain⟨its,_,pl,_⟩:=I.list M
   refine⟨pl.isList.typeIs,λa e=>?_⟩;cases e;obtain⟨o,n,e,c,hd,_⟩:=pl;exact⟨o,e,hd⟩
  ·refine⟨⟨o,I.kIn p o j,O⟩,λa e=>?_⟩
   cases e;exact⟨o,I.kIn _ o j,hd⟩
  ·have z:∃o,s.heap.get? p=some o/\o.ExactDict:=by
    rcases j with⟨kvs,j⟩ |⟨kvs,j⟩
    ·obtain⟨_,_,_,_,o,_,_,e,ex,_⟩:=I.hok p _ j
     exact⟨o,e,ex⟩
    ·obtain⟨_,_,_,_,o,_,_,e,ex,_⟩:=I.hok p _ j
     exact⟨o,e,ex⟩
   obtain⟨o,e,ex⟩:=z;refine⟨⟨o,e,ex.1⟩,λa J=>?_⟩;cases J;exact⟨o,e,ex.2.1⟩
  ·obtain⟨o,_,_,_,e,ex,_⟩:=I.hok p _ j
   refine⟨⟨o,e,ex.1⟩,λa J=>?_⟩;cases J;exact⟨o,e,ex.2.1⟩
 |_=>exact False.elim y
def Bw(K:Fg)(T:String)(r:V->List V->Hp->VK->Prop)(to:TE):TE:=λσ H Q=>to σ H λx H1=>Bm K T x H1/\r x [] H1 Q
def Jz(K:Fg)(T:String)(r:V->List V->Hp->VK->Prop)(to:TE)(t:TA):TE:=λσ H Q=>to σ H λx H1=>Bm K T x H1/\t σ H1 λxs H2=>r x xs H2 Q
variable {o e:Expr}{es:List Expr}{to:TE}{t:TA}{name:Str}{apos cpos:Pos}{T id:String}{r:V->List V->Hp->VK->Prop}
def Dy (pa:PlainAttrs T) (y:Slot T name id) (z:typeOf (.builtin id)=pure (.type "method_descriptor")) (hm:nY X id r) (ho:PE X o to)
  (n:attributeBase o name X.env (eval o X.env)=eval o X.env:=by rfl) (j:(apos.endLine == cpos.line)=true:=by rfl):PE X (.Call (.Attribute o name apos) [] [] cpos) (Bw X.K T r to):=by
 intro pins s σ H Q I h;refine wpAny_Call_method0_late n j (aN (ho pins s σ H _ I h) λv U ⟨x,H1,M,J,O,Y⟩=>?_);obtain⟨h1,h2⟩:=Ec M J O;exact⟨T,id,pa,y,z,h1,h2,Calls.callWith_builtin Z (PySem.evalArgs_none (hm pins U σ H1 x [] v [] Q M J .nil Y))⟩
def dJ (pa:PlainAttrs T) (z:Slot T name id) (M:typeOf (.builtin id)=pure (.type "method_descriptor")) (hm:nY X id r) (ho:PE X o to) (ha:PA X (e::es) t)
  (y:attributeBase o name X.env (eval o X.env)=eval o X.env:=by rfl)
  (J:((backTo cpos (starEach (e::es) X.env)).all (λx=>!x.1) && (backToKw cpos (keywordEach [] X.env)).all (λx=>x.1.isSome)
   && decide ((e::es).length+([]:List Keyword).length+(if ([]:List Keyword).isEmpty then 0 else 1)<30))=true:=by rfl)
  (n:(apos.endLine == cpos.line)=true:=by rfl) (hs:starEach (e::es) X.env=(false,eval e X.env)::starEach es X.env:=by rfl) (j:(backTo cpos (starEach es X.env)).any (·.1)=false:=by rfl) :
  PE X (.Call (.Attribute o name apos) (e::es) [] cpos) (Jz X.K T r to t):=by
 intro pins s σ H Q I h;refine wpAny_Call_method_late y J n Z (aN (ho pins s σ H _ I h) λv s1 ⟨x,H1,Y,O,ty,q1⟩=>?_);obtain⟨h1,h2⟩:=Ec Y O ty;refine⟨T,id,pa,z,M,h1,h2,?_⟩;have U:=ha cpos pins s1 σ H1 _ Y q1;rw[hs]at U⊢;refine Calls.callWith_builtin (by show(false || (backTo cpos (starEach es X.env)).any (·.1))=false;rw[j] <;> rfl) (Calls.evalArgs_plain ?_);exact aN U λus s2 ⟨vs,H2,I2,r2,q2⟩=>hm pins s2 σ H2 x vs v us Q I2 O r2 q2
end
def Cy(X:Cx)(id:String)(r:V->List V->Hp->VK->Prop):Prop:=
 ∀(pins:List (Addr×Obj)) (s:Shared) (σ:St) (H:Hp) (x:V) (xs:List V) (v:Value) (us:List Value) (Q:VK),Inv X pins σ H s->RelV x v->Vals xs us->r x xs H Q->
  wpAny (model X.prog X.w) X.A (call (.builtin id) (v::us)) (EP X pins σ Q) X.xe s
theorem Vals.one:∀{x:V} {us:List Value},Vals [x] us->∃u,us=[u]/\RelV x u
 |_,_,h=>by
  obtain⟨u,r,rfl,a,t⟩:=h.hd;cases t.z0;exact⟨u,Z,a⟩
theorem Vals.two:∀{x y:V} {us:List Value},Vals [x,y] us->∃u v,us=[u,v]/\RelV x u/\RelV y v
 |_,_,_,h=>by
  obtain⟨u,r,rfl,a,t⟩:=h.hd;obtain⟨v,q,rfl,b,t⟩:=t.hd;cases t.z0;exact⟨u,v,Z,a,b⟩
theorem Vals.zero:∀{us:List Value},Vals [] us->us=[]
 |_,.nil=>Z
theorem Vals.dropLast{xs:List V}{us:List Value}(h:Vals xs us):Vals xs.dropLast us.dropLast:=by
 induction h with
 |nil=>exact .nil
 |cons r t j=>
  cases t with
  |nil=>exact .nil
  |cons q t'=>exact .cons r j
theorem Tz{α:Type}(l:List α):l.eraseIdx (l.length-1)=l.dropLast:=by
 induction l with
 |nil=>rfl
 | cons a r j=>
  cases r with
  |nil=>rfl
  | cons b r=>
   have e:(a::b::r).length-1=((b::r).length-1)+1:=by
    have h1:(a::b::r).length=r.length+2:=Z;have h2:(b::r).length=r.length+1:=Z;omega
   rw[e,List.eraseIdx_cons_succ,j]
   all_goals rfl
section
variable {X:Cx}{pins:List (Addr×Obj)}{σ:St}{H:Hp}{s:Shared}{l b:Addr}{xs ys zs:List V}
def Inv.lset {its its':List Value} {n:Nat} {f:Array Value->Array Value} {t':Nat} (I:Inv X pins σ H s) (M:H l=some (.lst xs))
  (e:s.heap.get? l=some {cls:=.type "list",data:=.seq its.toArray n}) (z:f its.toArray=its'.toArray) (j:Vals ys its') (hz:ys.length<=sizeLine) :
  Inv X pins σ (upd H l (.lst ys)) {s with heap:=s.heap.update l (Obj.mapSeq f),toks:=t'}:=by
 have q:=PySem.IsL.update e f;rw[z]at q;refine I.write (x:=l) (e:=l) (by rw[M];exact trivial) (.inl Z) (λO u J y=>(Heap.get?_update_other s.heap (Obj.mapSeq f) (Ne.symm J)).trans y) ⟨_,q⟩ ?_;exact⟨hz,its',_,j,q⟩
def Inv.lnew {its:List Value} {t':Nat} (I:Inv X pins σ H s) (j:Vals ys its) (hz:ys.length<=sizeLine) :
  Inv X pins σ (upd H s.heap.objs.size (.lst ys)) {s with heap:=s.heap.push {cls:=.type "list",data:=.seq its.toArray},toks:=t'}:=
 I.laid (λ_ _ q=>aT _ q) (zZ _) ⟨hz,its,0,j,z9 _ Z⟩
theorem Inv.fresh(I:Inv X pins σ H s):H s.heap.objs.size=none:=I.hok.fresh (zZ _)
def Inv.lstM(I:Inv X pins σ H s)(j:H l=some (.lst xs)):xs.length<=sizeLine/\∃(its:List Value) (n:Nat),Vals xs its/\xs.length=its.length/\s.heap.get? l=some {cls:=.type "list",data:=.seq its.toArray n}:=by
 obtain⟨z,its,n,r,e⟩:=I.hok l _ j;exact⟨z,its,n,r,r.length,e⟩
theorem Q9{n:Nat}(h:n<=sizeLine):Builtin.List.listTooLong n=false:=by
 unfold Builtin.List.listTooLong;exact eI (by omega)
end
section
variable {X:Cx}
def Oe:V->List V->Hp->VK->Prop:=λx vs H Q=>∃l xs y,x=.ref l/\vs=[y]/\H l=some (.lst xs)/\xs.length<sizeLine/\Q .non (upd H l (.lst (xs++[y])))
def oQ:Cy X "list.append" Oe:=by
 intro pins s σ H x vs v us Q I J M h;obtain⟨l,xs,y,rfl,rfl,j,hz,q⟩:=h;cases J;obtain⟨u,rfl,O⟩:=M.one;obtain⟨z,its,n,r,U,e⟩:=I.lstM j;refine call_meets F.slot_list_append ⟨_,e,Z⟩ F.entry_list_append (F.args_list_append_2 _ _) (PySem.list_append l its.toArray n u (by rw[List.size_toArray];omega)) ⟨e,?_⟩;refine⟨.non,_,I.lset (its':=its++[u]) j e (by simp) (r.append (.cons O .nil)) ?_,Z,q⟩;rw[bK,List.length_singleton];omega
def Of:V->List V->Hp->VK->Prop:=λx vs H Q=>∃l b xs zs,x=.ref l/\vs=[.ref b]/\H l=some (.lst xs)/\H b=some (.lst zs)/\xs.length+zs.length<=sizeLine/\Q .non (upd H l (.lst (xs++zs)))
def Sn:Cy X "list.extend" Of:=by
 intro pins s σ H x vs v us Q I M O h;obtain⟨l,b,xs,zs,rfl,rfl,J,hB,hz,q⟩:=h;cases M;obtain⟨u,rfl,U⟩:=O.one;cases U;obtain⟨z,its,n,r,hl,e⟩:=I.lstM J;obtain⟨z2,j,n2,Y,a0,e2⟩:=I.lstM hB;have hsz:its.toArray.size+j.toArray.size<=sizeLine:=by rw[List.size_toArray,List.size_toArray];omega
 have y:¬(!its.toArray.isEmpty && Builtin.List.listTooLong (its.toArray.size+j.toArray.size))=true:=by
  rw[Q9 hsz,Bool.and_false];exact qA
 refine call_meets F.slot_list_extend ⟨_,e,Z⟩ F.entry_list_extend (F.args_list_extend_2 _ _)
  (AutoSeq1.list_extend_list_list_0 l its.toArray n b j.toArray n2 y (by rw[List.size_toArray];omega) (by omega)) ⟨e,e2,?_⟩
 refine⟨.non,_,I.lset (its':=its++j) J e (by simp) (r.append Y) ?_,Z,q⟩;rw[bK];omega
def C4:V->List V->Hp->VK->Prop:=λx vs H Q=>∃l xs y,x=.ref l/\vs=[]/\H l=some (.lst xs)/\xs[xs.length-1]?=some y/\Q y (upd H l (.lst xs.dropLast))
def Dx:Cy X "list.pop" C4:=by
 intro pins s σ H x vs v us Q I O U h;obtain⟨l,xs,y,rfl,rfl,M,hy,q⟩:=h;cases O;have J:=U.zero;subst J;obtain⟨z,its,n,r,hl,e⟩:=I.lstM M;obtain⟨u,hu,Y⟩:=r.get hy
 have j:its.toArray[its.toArray.size-1]?=some u:=by
  show its.toArray[its.length-1]?=some u;rw[<- Array.getElem?_toList,<- hl];exact hu
 refine call_meets F.slot_list_pop ⟨_,e,Z⟩ F.entry_list_pop (F.args_list_pop_1 _) (MeetsSeq.list_pop_last l its.toArray n u j (by rw[List.size_toArray];omega)) ⟨e,?_⟩;refine⟨y,_,I.lset (its':=its.dropLast) M e ?_ r.dropLast ?_,Y,q⟩
 ·show its.toArray.eraseIdxIfInBounds (its.toArray.size-1)=its.dropLast.toArray
  rw[List.size_toArray,List.eraseIdxIfInBounds_toArray,Tz]
 ·rw[List.length_dropLast]
  omega
def C9:R2:=λx y H Q=>∃l b xs zs,x=.ref l/\y=.ref b/\H l=some (.lst xs)/\H b=some (.lst zs)/\xs.length+zs.length<=sizeLine/\∀p,H p=none->Q (.ref p) (upd H p (.lst (xs++zs)))
def eK:cS X (binaryOp .Add) C9:=by
 intro pins s σ H x y v u Q I M J h;obtain⟨l,b,xs,zs,rfl,rfl,Y,hB,hz,q⟩:=h;cases M;cases J;obtain⟨z,its,n,r,hl,e⟩:=I.lstM Y;obtain⟨z2,j,n2,O,U,e2⟩:=I.lstM hB;refine PySem.P.add_list e e2 ?_ (by rw[List.size_toArray,List.size_toArray];omega);have ea:its.toArray++j.toArray=(its++j).toArray:=by simp
 rw[ea];exact⟨.ref _,_,I.lnew (t':=s.toks) (r.append O) (by rw[bK];omega),Z,q _ I.fresh⟩
end
end L2
namespace Att
open PySem PySem.W PySem.Calls PyProof.Rows
def X1{P:Params}{h:Heap}:∀(ns:List Int) (vs:List Value),WellAll P h vs (ns.map WData.int)->IntsAre vs ns:=by
 intro ns
 induction ns with
 |nil=>
  intro vs w;rw[List.map_nil]at w;cases w;exact .nil
 | cons n ns j=>
  intro vs w;rw[List.map_cons]at w
  cases w with
  |cons a b=>
   cases a;exact .cons _ _ (j _ b)
def T8 {l:OpenLaw} {n:Nat} (hn:l.most=some n) {P:Params} {h:Heap} {args:List WData} {j:List Value}
  (y:l.row.toRowW.claim.pre args=true) (O:WellAll P h j args) :
  ∃a vs ns,j=[Value.ref a]/\args=[WData.list (ns.map WData.int)]/\h.get? a=some {cls:=.type "list",data:=.seq vs.toArray}/\IntsAre vs ns/\ns.length<=n:=by
 have U:WShape.hasAll [] args [.list .int]=true:=(pre_splitW y).1;have Y:l.pre.holds [] {args:=args}=true:=(pre_splitW y).2;obtain⟨d,r,rfl,h1,h2⟩:=hasAllW_cons U;obtain rfl:=hasAllW_nil h2;obtain⟨xs,rfl,h3⟩:=hasW_list h1;obtain⟨ns,rfl⟩:=items_int h3
 have z:ns.length<=n:=by
  unfold OpenLaw.pre at Y
  have M:(WTm.not (.lt (.lit (.int (n:Int))) (.len (.arg 0)))).holds [] {args:=[.list (ns.map .int)]}=true:=by
   have M:=(holds_andW Y).1;rw[hn]at M;exact M
  have J:=condW_of M (w_not (w_lt w_lit (w_len_list (w_arg Z))));rw[aR]at J;refine Nat.le_of_not_lt λq=>?_;have q':(n:Int)<((ns.length:Nat):Int):=by omega
  first
   |(rw[cM q']at J;exact absurd J (by decide))
   |(simp at J;omega)
 cases O with
 |cons w1 w2=>
  cases w2
  cases w1 with
  |list ho I=>exact⟨_,_,ns,Z,Z,ho,X1 ns _ I,z⟩
def Sy(l:OpenLaw)(args:List WData):l.row.toRowW.claim.post args (.bool true) args=true:=
 postW_of (r:=l.row.toRowW) (X:=(true == true))
  (show WShape.has [] (.bool true) .bool=true by first |rfl |decide |simp[WShape.has,WShape.arms,WShape.armsAll])
  (show(WTm.eq .res (.lit (.bool true))).value [] {args:=args,res:=some (.bool true),after:=args}=some (.bool (true == true)) from w_eq_bool (w_res Z) w_lit) Z
def attach_call {l:OpenLaw} {n:Nat} {q:Program} {loose:List Str} {XP:(Str->Option Value)->Heap->Prop} {YP:World->Heap->Prop} {d:DefRec}
  (hn:l.most=some n) (hdf:d.params.defaults=[])
  (call:∀(w:World) (s₀ s₁:Shared) (mg mb:Str->Option Value) (fa:Addr) (o:Obj) (pm cd doc:Value) (a:Addr) (vs:List Value) (ns:List Int),
   Ground q loose [] XP w s₀ mg mb s₁.heap->YP w s₁.heap->
   s₁.heap.get? fa=some o->o.data=.func (docDef d.name d.params d.body d.scope pm cd doc)->s₁.heap.CodeRec cd d.name->mg d.name=some (.ref fa)->
   s₁.heap.get? a=some {cls:=.type "list",data:=.seq vs.toArray}->IntsAre vs ns->ns.length<=n->s₁.gens=#[]->
   codeAny (model l.prog w) callerA (.call (.ref fa) ⟨[.ref a],[]⟩) (λr s'=>r=.ok (.ret (.bool true))/\OldK s₁.heap s'.heap/\s'.os=s₁.os/\AllBare s'.gens) s₁) :
  WalkO q loose XP YP l.row.toRowW d [] (λf vs=>PySem.call f vs):=by
 intro w s₀ s₁ mg mb G Y fa o pm cd doc dV kV ho hd hcd hD hmg hg args vals as hpre hlay hrd hwl hlo;obtain rfl:dV=.none:=Dflts.none hD hdf;obtain rfl:kV=.none:=Dflts.noKw hD;obtain⟨a,vs,ns,rfl,rfl,hobj,hints,hlen⟩:=T8 hn hpre hwl;refine enter_call (codeAny_mono (call w s₀ s₁ mg mb fa o pm cd doc a vs ns G Y ho (fd_plain hd) hcd hmg hobj hints hlen hg) λr s' hq=>?_);obtain⟨rfl,h2,h3,h4⟩:=hq;exact⟨.inl ⟨.bool true,.bool true,[],rfl,λ_=>rfl,.bool true,Sy l _,λ_=>⟨List.Pairwise.nil,λ_ hm=>(nomatch hm)⟩⟩,h2,h3,h4⟩
end Att
namespace L2
open PySem PySem.Spec PyProof.Rows
theorem Ii:∀{vs:List Value} {ns:List Int},IntsAre vs ns->Vals (ns.map V.int) vs
 |_,_,.nil=>.nil
 |_,_,.cons n t h=>.cons ⟨t,Z⟩ (Ii h)
def pG(H:Hp):Prop:=∀b,H b=none\/∃o xs,H b=some (.frz o (.lst xs))
def Pw {P:Program} {w:World} {K:Fg} {mg mb:Str->Option Value} {CX:fW} {k:Nat} {fa a:Addr} {fd:FuncData} {x:Str} {sp:Sp} {s₁:Shared} {vs:List Value} {ns:List Int}
  (KX:K.In s₁.heap) (hns:s₁.heap.Ns mainGlobals mg) (hb:s₁.heap.Ns builtinsNs mb) (hbb:∀x:Str,x≠"__name__"->mb x=bootBuiltins x) (hlim:s₁.heap.NoLimit) (hg:s₁.gens=#[])
  (ha:s₁.heap.get? a=some {cls:=.type "list",data:=.seq vs.toArray}) (hi:IntsAre vs ns) (hl:ns.length<=sizeLine) (hr:Room k callerA)
  (F:∀base:Heap,K.In base->base.Ns mainGlobals mg->FnOk P w K mg base CX k fa fd [x] sp) (hbind:∀(s:Shared) (u:Value),BindsTo s fd ⟨[u],[]⟩ [(x,u)])
  (hsp:∀H:Hp,pG H->SqL K H a (ns.map V.int)->sp [.ref a] H (λv _=>v=.bl true) λ_ _ _=>False)
  (hCX:∀H e s',CX [] H s₁ (λ_ _ _=>False) e s'->False) :
  codeAny (model P w) callerA (.call (.ref fa) ⟨[.ref a],[]⟩) (λr s'=>r=.ok (.ret (.bool true))/\OldK s₁.heap s'.heap/\s'.os=s₁.os/\AllBare s'.gens) s₁:=by
 have rv:=Ii hi;have lenV:=hi.length
 have core:∀H:Hp,pG H->SqL K H a (ns.map V.int)->HOk P w H s₁.heap->(∀b,H b≠none->b=a)->(H a≠none->K.lookup a=none)->
   codeAny (model P w) callerA (.call (.ref fa) ⟨[.ref a],[]⟩) (λr s'=>r=.ok (.ret (.bool true))/\OldK s₁.heap s'.heap/\s'.os=s₁.os/\AllBare s'.gens) s₁:=by
  intro H hO hS hok hA hK;have base_of:∀{b:Addr} {o:Obj},s₁.heap.get? b=some o->H b=none->(eR s₁.heap H).get? b=some o:=λe n=>Pt e n
  have noA:∀{b:Addr} {o:Obj} {es:Array DictEntry} {ep:Nat},s₁.heap.get? b=some o->o.data=.dict es ep->H b=none:=λ{b o es ep} e d=>by
   cases q:H b with
   |none=>rfl
   |some u=>
    have e':b=a:=hA b (by rw[q];simp);subst e';rw[ha]at e;cases e;have d':Data.seq vs.toArray _=Data.dict es ep:=d;cases d'
  have nsK:∀{b:Addr} {m:Str->Option Value},s₁.heap.Ns b m->(eR s₁.heap H).Ns b m:=λ{b m} ⟨o,es,ep,e,d,r⟩=>⟨o,es,ep,base_of e (noA e d),d,r⟩
  have hKb:K.In (eR s₁.heap H):=λb o e=>base_of (KX b o e) (by
   cases q:H b with
   |none=>rfl
   |some u=>
    have e':b=a:=hA b (by rw[q];simp);subst e';rw[hK (by rw[q];simp)]at e;cases e)
  have hM:Mod K mg (eR s₁.heap H):=⟨hKb,nsK hns,⟨mb,nsK hb,hbb⟩,let ⟨mc,h1,h2⟩:=hlim;⟨mc,nsK h1,h2⟩⟩;have e0:Env0 P w K mg (eR s₁.heap H) callerA [] s₁ H:=⟨rfl,hM,λb o e=>P8 e,Nat.le_of_eq (Se _ _),trivial,λb hb=>absurd (show b∈([]:List Addr) from hb) (by simp),hok,.of_eq hg⟩;refine codeAny_mono ((F _ hKb (nsK hns)).run callerA [] s₁ H ⟨[.ref a],[]⟩ [.ref a] [.ref a] _ _ hr e0 (hbind s₁ (.ref a)) (.cons rfl .nil) (hsp H hO hS)) λr s' h=>?_
  cases r with
  |error e=>exact(hCX H e s' h).elim
  | ok fl=>
   cases fl with
   |next=>exact False.elim h
   |brk=>exact False.elim h
   |cont=>exact False.elim h
   | ret u=>
    obtain⟨v,H',os,bare,un,hok',r',q⟩:=h;have q':v=.bl true:=q;subst q';obtain rfl:u=Value.bool true:=r';refine⟨rfl,OldK.of_keep λb o e=>?_,os,bare⟩
    cases q:H b with
    |none=>exact un.keep b o e q (by intro z;exact absurd (show b∈([]:List Addr) from z) (by simp)) (by simp)
    | some u=>
     rcases hO b with z |⟨ob,xs,z⟩
     ·rw[q]at z;cases z
     ·have z2:=un.frzs b ob _ z
      obtain⟨e1,_⟩:=hok b _ z;obtain⟨e2,_⟩:=hok' b _ z2;rw[e]at e1;cases e1;exact e2
 cases hk:K.lookup a with
 |some o=>
  have e:=KX a o hk;rw[ha]at e;cases e;refine core (λ_=>none) (λ_=>.inl rfl) (.inr ⟨_,vs.toArray,_,hk,rfl,rfl,rfl,by rw[List.size_toArray,lenV];exact hl,by simpa using rv⟩) (λb u z=>by have z':(none:Option HO)=some u:=z;cases z') (λb z=>absurd rfl z) λz=>absurd rfl z
 | none=>
  refine core (λb=>if b=a then some (.frz {cls:=.type "list",data:=.seq vs.toArray} (.lst (ns.map V.int))) else none) (λb=>?_) (.inl (.inr ⟨{cls:=.type "list",data:=.seq vs.toArray},if_pos rfl⟩)) (λb u z=>?_) (λb z=>?_) λ_=>hk
  ·by_cases hb:b=a
   ·exact .inr ⟨_,_,if_pos hb⟩
   ·exact .inl (if_neg hb)
  ·by_cases hb:b=a
   ·have z':=(if_pos hb).symm.trans z
    cases z';subst hb;exact⟨ha,by rw[aR];exact hl,vs,_,rv,ha⟩
   ·have z':=(if_neg hb).symm.trans z
    cases z'
  ·by_cases hb:b=a
   ·exact hb
   ·exact absurd (if_neg hb) z
abbrev KOf{K:Fg}{h:Heap}(_:K.In h):Fg:=K
def walk_of {l:PySem.W.OpenLaw} {n k:Nat} {q:Program} {loose:List Str} {XP:(Str->Option Value)->Heap->Prop} {YP:World->Heap->Prop} {d:DefRec} {K:Params->Fg} {CX:World->fW} {sp:World->Sp} {x:Str}
  (hn:l.most=some n) (hn2:n<=sizeLine) (hdf:d.params.defaults=[]) (hr:Room k callerA)
  (hY:∀(w:World) (h:Heap),YP w h->(K w.params).In h)
  (F:∀(w:World) (mg:Str->Option Value) (fa:Addr) (h:Heap),(K w.params).In h->h.Ns mainGlobals mg->mg d.name=some (.ref fa)->
   ∃fd:FuncData,(∀(s:Shared) (u:Value),BindsTo s fd ⟨[u],[]⟩ [(x,u)]) ∧
    ∀base:Heap,(K w.params).In base->base.Ns mainGlobals mg->FnOk l.prog w (K w.params) mg base (CX w) k fa fd [x] (sp w))
  (hsp:∀(w:World) (H:Hp) (a:Addr) (ns:List Int),ns.length<=n->pG H->SqL (K w.params) H a (ns.map V.int)->sp w [.ref a] H (λv _=>v=.bl true) λ_ _ _=>False)
  (hCX:∀(w:World) (H:Hp) (s:Shared) (e:Value) (s':Shared),CX w [] H s (λ_ _ _=>False) e s'->False) :
  PySem.W.WalkO q loose XP YP l.row.toRowW d [] (λf vs=>PySem.call f vs):=by
 refine Att.attach_call hn hdf λw s₀ s₁ mg mb fa o pm cd doc a vs ns G Y ho hd hcd hmg hobj hints hlen hg=>?_;have KX:=hY w _ Y;obtain⟨fd,hb,hF⟩:=F w mg fa _ KX G.T.g hmg;exact Pw KX G.T.g G.T.b G.T.builtins G.T.nolimit hg hobj hints (zY hlen hn2) hr hF hb (λH hO hS=>hsp w H a ns hlen hO hS) λH e s'=>hCX w H s₁ e s'
def oG(s:Stmt):Arguments:=match s with
 |.FunctionDef _ a _ _ _ _ _ _ _ _=>a
 |_=>{posonlyargs:=[],args:=[],vararg:=none,kwonlyargs:=[],kw_defaults:=[],kwarg:=none,defaults:=[]}
def iO(s:Stmt):List Stmt:=match s with
 |.FunctionDef _ _ b _ _ _ _ _ _ _=>b
 |_=>[]
def aY(s:Stmt):Scope:=match s with
 |.FunctionDef _ _ _ _ _ _ sc _ _ _=>sc
 |_=>{kind:=.function,names:=[],isGenerator:=false,isCoroutine:=false}
abbrev CX0:fW:=λ_ _ _ _ _ _=>False
abbrev E0:XK:=λ_ _ _=>False
def De{X:Cx}:rZ CX0 X E0:=λ_ _ _ _ _ _ _ h=>h.elim
structure Fun(K:Fg)(x qual:Str)(st:Stmt)(f:Addr)(fd:FuncData):Prop where
 ex:∃(oc:Value) (od:Option Addr) (kV doc pm:Value) (an:Option Addr) (cdv ct:Value) (osl:Array (Option Value)),
  fd=PySem.W.fnOf x qual (oG st) (iO st) (aY st) .none kV doc pm an cdv ct/\K.lookup f=some ⟨oc,od,.func fd,osl⟩/\PySem.W.codeIn K cdv qual=true
 kp:PySem.W.keepIn K (.ref f)=true
section
variable {P:Program}{w:World}{K:Fg}{mg:Str->Option Value}{base:Heap}
theorem Fun.ok {x qual:Str} {st:Stmt} {f:Addr} {fd:FuncData} {N ps:List Str} {k:Nat} {sp:Sp} (F:Fun K x qual st f fd) (S:FnScope N ps (aY st)) (len:∀vs H Q E,sp vs H Q E->vs.length=ps.length)
  (hbody:∀(cdv:Value) (A:Around) (outer:List Env) (s:Shared) (H:Hp) (vs:List V) (Q:VK) (E:XK),Room k (A.deeper (envOfC qual (aY st) s.heap.objs.size f cdv))->sp vs H Q E->
   ∃t,PSs (cP CX0 P w K mg base N qual (aY st) f cdv A outer s H E).nox (iO st) t/\t {nx:=λ_ H'=>Q .non H',rt:=Q} (eP N vs) H):FnOk P w K mg base CX0 (k+1) f fd ps sp:=by
 obtain⟨oc,od,kV,doc,pm,an,cdv,ct,osl,rfl,lk,hcd⟩:=F.ex;refine Dc lk hcd S len λA outer s H vs Q E hr hsp=>?_;obtain⟨t,h,q⟩:=hbody cdv A outer s H vs Q E hr hsp;exact⟨t,h.nox,q⟩
def Ei {x j:Str} {st:Stmt} {f:Addr} {M:Value} {od J:Option Addr} {z:Array (Option Value)} {kV y I n ct:Value} (l:K.lookup f=some ⟨M,od,.func (PySem.W.fnOf x j (oG st) (iO st) (aY st) .none kV y I J n ct),z⟩)
  (c:PySem.W.codeIn K n j=true) (k:PySem.W.keepIn K (.ref f)=true):Fun K x j st f (PySem.W.fnOf x j (oG st) (iO st) (aY st) .none kV y I J n ct):=⟨⟨M,od,kV,y,I,J,n,ct,z,Z,l,c⟩,k⟩
end
def lD{A:Around}{k:Nat}(j:Room k A):A.units+1<cLine:=zT (Nat.add_le_add_left (by decide:1<=64) _) j.units
section
variable {X:Cx}
def pv (i:Nat) {x:Str} {pos:Pos} (y:X.N[i]?=some x:=by rfl) (n:Ct X.env.scope x:=by first |exact Or.inl rfl |exact Or.inr (Or.inl rfl) |exact Or.inr (Or.inr rfl)) (hd:(x == ("__debug__":Str))=false:=by decide)
  (j:(x == ("__classdict__":Str))=false:=by decide):PE X (.Name x pos) (fA i):=Mp y n hd j
end
def iteF{A B:Prop}(h:B):if false=true then A else B:=by
 rw[if_neg qA];exact h
def iteT{A B:Prop}(h:A):if true=true then A else B:=by
 rw[if_pos Z];exact h
def bC{c A B:Prop}[Decidable c](h1:c->A)(h2:¬c->B):if c then A else B:=by
 by_cases h:c
 ·rw[if_pos h]
  exact h1 h
 ·rw[if_neg h]
  exact h2 h
def Same(H H':Hp):Prop:=∀b o,H b=some o->H' b=some o
def Same.refl(H:Hp):Same H H:=λ_ _ h=>h
theorem Same.trans{H H1 H2:Hp}(a:Same H H1)(b:Same H1 H2):Same H H2:=λc o h=>b c o (a c o h)
def Same.seq{K:Fg}{H H':Hp}{a:Addr}{xs:List V}(e:Same H H')(h:SqL K H a xs):SqL K H' a xs:=by
 rcases h with(h |⟨o,h⟩) |h
 ·exact .inl (.inl (e _ _ h))
 ·exact .inl (.inr ⟨o,e _ _ h⟩)
 ·exact .inr h
def D2(x:Str):It:=⟨λi _=>i<x.cps.size,λi H v H'=>H'=H/\∃c,x.cps[i]?=some c/\v=.str ⟨#[c]⟩,λi _=>i=x.cps.size⟩
def Rk {P:Program} {w:World} {K:Fg} {y:Str} {py:Pos} (it:Addr) (x:Str) (t:Tok) {j:String}
  (W:∀A:Around,A.handled=none->Walks P w A it [it] [it] x.cps.size (SignAt x) (λi h=>h.IsStrIter it j x t i))
  (S:∀(A:Around) (i:Nat) (s:Shared) (Q:Value->Shared->Prop) (E:Value->Shared->Prop),s.heap.IsStrIter it j x t i->Q (.ref it) s->wpAny (model P w) A (pyIter (.ref it)) Q E s) :
  Turn P w K (.Name y py) (D2 x) [it] it (λi h=>h.IsStrIter it j x t i) where
 mem:=by simp
 obj:=λi h st b f=>by
  have e:b=it:=by simpa using f
  subst e;obtain⟨o,e,c,d⟩:=st;exact⟨o,e,λv z=>by rw[d]at z;cases z⟩
 keep:=λi h h' st k=>let ⟨o,ho,r⟩:=st;⟨o,k it (by simp) o ho,r⟩
 item:=by
  intro X C m J p i a s σ H E I g st n;subst C m J;obtain⟨f0,Y,f2,U,O,M⟩:=g it (by simp);refine(W X.A (I.ok.hd p)).item i s _ _ n st λv h' tk hv st' l=>?_;obtain⟨c,u,e,rfl⟩:=hv;have I1:Inv X a σ H {s with heap:=h',toks:=tk}:=I.turned (λb o f e=>l b o (by simpa using f) e) f0 Y U O M;exact⟨_,Z,z7 ⟨.str ⟨#[c]⟩,H,I1,⟨u,Z⟩,⟨Z,c,e,Z⟩,st',λb f=>(g b f).1⟩⟩
 done:=by
  intro X C m J p i a s σ H E I g st n;subst C m J;obtain⟨f0,Y,f2,U,O,M⟩:=g it (by simp);have e:i=x.cps.size:=n;subst e;exact(W X.A (I.ok.hd p)).done s _ _ st λh' tk l=>⟨Z,I.turned (λb o f e=>l b o (by simpa using f) e) f0 Y U O M⟩
 self:=λA i s Q E st h=>S A i s Q E st h
section
variable {X:Cx}
def Cg(tl:TE):TI:=λσ H R=>tl σ H λv H1=>∃x,v=.str x/\R (D2 x) H1
def Mq{l:Expr}{m:TE}{y:Str}{n:Pos}(C:PE X l m):PI X (.Name y n) l (Cg m):=by
 intro c s σ H R I h;refine aN (C c s σ H _ I h) λv a ⟨z,M,j,r,u⟩=>?_;obtain⟨x,rfl,q⟩:=u;obtain⟨t,rfl⟩:=r
 have fin:∀(o:Obj) (f:String),(∀A:Around,A.handled=none->Walks X.prog X.w A a.heap.objs.size [a.heap.objs.size] [a.heap.objs.size] x.cps.size (SignAt x) (λi h=>h.IsStrIter a.heap.objs.size f x t i))->
   (∀(A:Around) (i:Nat) (s:Shared) (Q:Value->Shared->Prop) (E:Value->Shared->Prop),s.heap.IsStrIter a.heap.objs.size f x t i->Q (.ref a.heap.objs.size) s->wpAny (model X.prog X.w) A (pyIter (.ref a.heap.objs.size)) Q E s)->
   (a.heap.push o).IsStrIter a.heap.objs.size f x t 0->Cw X c σ (.Name y n) R (.ref a.heap.objs.size) {a with heap:=a.heap.push o}:=λo f W S st=>by
  refine⟨a.heap.objs.size,[a.heap.objs.size],_,_,M,Z,j.kept (t':=a.toks) λb o e=>aT _ e,Rk a.heap.objs.size x t W S,st,λb J=>?_,q⟩;have e:b=a.heap.objs.size:=by simpa using J
  subst e;exact j.fpOk (zZ _) (j.hok.fresh (zZ _))
 cases p:x.cps.all (· < 128)
 ·exact wpAny_pyIter_wide p (fin _ "str_iterator" (λA g=>Walks.strWide g _ x t) (λ_ _ _ _ _ st h=>wpAny_pyIter_striter_wide st h) ⟨_,z9 _ Z,Z,Z⟩)
 ·exact wpAny_pyIter_ascii p (fin _ "str_ascii_iterator" (λA g=>Walks.strAscii g _ x t) (λ_ _ _ _ _ st h=>wpAny_pyIter_striter_ascii st h) ⟨_,z9 _ Z,Z,Z⟩)
end
def cL(env:Env):List (Str×NameKind)->List (Str×Addr)->List (Str×Addr)
 |[],cs=>cs
 |(n,k)::r,cs=>cL env r (if k == .free then match env.cells.lookup n with |some a=>(n,a)::cs |none=>cs else cs)
theorem Hb{env:Env}{x:Str}{c:Addr}:∀{ns:List (Str×NameKind)} {cs:List (Str×Addr)},(∀p∈cs,env.cells.lookup p.1=some p.2)->(cL env ns cs).lookup x=some c->env.cells.lookup x=some c
 |[],cs,h,e=>by
  unfold cL at e;exact h (x,c) (zN e)
 | (n,k)::r,cs,h,e=>by
  unfold cL at e;refine Hb (ns:=r) ?_ e;intro p b;split at b
  ·split at b
   ·rename_i a f
    rcases cE b with rfl |b
    ·exact f
    ·exact h p b
   ·exact h p b
  ·exact h p b
theorem Jw{x:Str}:∀{cs:List (Str×Addr)},(∃c,(x,c)∈cs)->∃c,cs.lookup x=some c
 |[],⟨_,h⟩=>nomatch h
 | (n,a)::r,⟨c,h⟩=>by
  rw[List.lookup_cons]
  cases e:x == n with
  |true=>exact⟨a,Z⟩
  | false=>
   rcases cE h with h |h
   ·cases h
    rw[beq_self_eq_true]at e;cases e
   ·exact Jw ⟨c,h⟩
theorem Fq{env:Env}{x:Str}:∀{ns:List (Str×NameKind)} {cs:List (Str×Addr)},((∃c,(x,c)∈cs)\/((x,NameKind.free)∈ns/\∃c,env.cells.lookup x=some c))->∃c,(x,c)∈cL env ns cs
 |[],cs,h=>by
  unfold cL;rcases h with h |⟨h,_⟩
  ·exact h
  ·cases h
 | (n,k)::r,cs,h=>by
  unfold cL;refine Fq (ns:=r) ?_;rcases h with⟨c,h⟩ |⟨h,c,a⟩
  ·refine .inl ⟨c,?_⟩
   split
   ·split
    ·exact qG _ h
    ·exact h
   ·exact h
  ·rcases cE h with h |h
   ·cases h
    refine .inl ⟨c,?_⟩;rw[if_pos (by decide),a];exact List.mem_cons_self
   ·exact .inr ⟨h,c,a⟩
def Jt{a:Scope}{env:Env}(h:∀p∈a.names,p.2=NameKind.free->∃c,env.cells.lookup p.1=some c):closureFor a env=pure (cL env a.names []):=by
 have go:∀(ns:List (Str×NameKind)) (cs:List (Str×Addr)),(∀p∈ns,p.2=NameKind.free->∃c,env.cells.lookup p.1=some c)->
   (forIn ns cs λ(x:Str×NameKind) (r:List (Str×Addr))=>(if (x.2 == NameKind.free)=true then do
     let y <- cellOf env x.1
     pure (ForInStep.yield ((x.1,y)::r)) else pure (ForInStep.yield r):Sem (ForInStep (List (Str×Addr)))))=(pure (cL env ns cs):Sem (List (Str×Addr))):=by
  intro ns
  induction ns with
  |nil=>intro cs _;rfl
  | cons p r f=>
   intro cs e;obtain⟨n,k⟩:=p;rw[List.forIn_cons];unfold cL;by_cases g:k=NameKind.free
   ·subst g
    obtain⟨c,j⟩:=e (n,.free) List.mem_cons_self Z;have m:cellOf env n=pure c:=by unfold cellOf;rw[j]
    simp only[beq_self_eq_true,if_true,m,j,pure_bind];exact f _ λq b=>e q (qG _ b)
   ·have l:(k == NameKind.free)=false:=by simpa using g
    simp only[l,Bool.false_eq_true,if_false,pure_bind];exact f _ λq b=>e q (qG _ b)
 unfold closureFor;have:=go a.names [] h;simp only[bind_pure_comp,id_map']at this⊢;rw[this];rfl
theorem xI {env:Env} {x:Str} {k':NameKind}:∀{ns:List (Str×NameKind)},
  (ns.map λ(n,k)=>if (k == NameKind.free && env.scope.kind == .function && env.kindOf n == some .cell) then (n,NameKind.cell) else (n,k)).lookup x=some k'->
  ∃k,ns.lookup x=some k/\(k'=k\/(k=.free/\k'=.cell))
 |[],h=>by simp at h
 | (n,k)::r,h=>by
  have h':List.lookup x ((if (k == NameKind.free && env.scope.kind == .function && env.kindOf n == some .cell)=true then (n,NameKind.cell) else (n,k))::(r.map λ(n,k)=>if (k == NameKind.free && env.scope.kind == .function && env.kindOf n == some .cell) then (n,NameKind.cell) else (n,k)))=some k':=h;rw[List.lookup_cons];by_cases a:(k == NameKind.free && env.scope.kind == .function && env.kindOf n == some .cell)=true
  ·rw[if_pos a,List.lookup_cons]at h'
   cases e:x == n with
   |true=>
    rw[e]at h';cases h';refine⟨k,Z,.inr ⟨?_,Z⟩⟩;rw[Bool.and_eq_true,Bool.and_eq_true]at a;exact eq_of_beq a.1.1
   |false=>
    rw[e]at h';exact xI h'
  ·rw[if_neg a,List.lookup_cons]at h'
   cases e:x == n with
   |true=>
    rw[e]at h';cases h';exact⟨_,Z,.inl Z⟩
   |false=>
    rw[e]at h';exact xI h'
theorem Bi {env:Env} {x:Str} {k:NameKind}:∀{ns:List (Str×NameKind)},ns.lookup x=some k->
  ∃k',(ns.map λ(n,k)=>if (k == NameKind.free && env.scope.kind == .function && env.kindOf n == some .cell) then (n,NameKind.cell) else (n,k)).lookup x=some k'/\(k'=k\/(k=.free/\k'=.cell))
 |[],h=>by simp at h
 | (n,b)::r,h=>by
  show ∃k',List.lookup x ((if (b == NameKind.free && env.scope.kind == .function && env.kindOf n == some .cell)=true then (n,NameKind.cell) else (n,b))::(r.map λ(n,k)=>if (k == NameKind.free && env.scope.kind == .function && env.kindOf n == some .cell) then (n,NameKind.cell) else (n,k)))=some k'/\_;rw[List.lookup_cons]at h;by_cases a:(b == NameKind.free && env.scope.kind == .function && env.kindOf n == some .cell)=true
  ·rw[if_pos a,List.lookup_cons]
   cases e:x == n with
   |true=>
    rw[e]at h;cases h;refine⟨_,Z,.inr ⟨?_,Z⟩⟩;rw[Bool.and_eq_true,Bool.and_eq_true]at a;exact eq_of_beq a.1.1
   |false=>
    rw[e]at h;exact Bi h
  ·rw[if_neg a,List.lookup_cons]
   cases e:x == n with
   |true=>
    rw[e]at h;cases h;exact⟨_,Z,.inl Z⟩
   |false=>
    rw[e]at h;exact Bi h
abbrev fV:=List (Option Nat)
def bR(ix:fV)(σ:St):St:=ix.map λo=>(o.bind λj=>σ[j]?).join
def vK(N N':List Str)(sc sc':Scope)(ix:fV):Bool:=
 (ix.length == N'.length) && (sc'.kind == .function) &&
 (sc'.names.all λp=>p.2 != .cell && (p.2 != .local || sc'.names.lookup p.1 == some .local) && (p.2 != .free || (sc.names.lookup p.1 == some .cell || sc.names.lookup p.1 == some .free))) &&
 (List.range ix.length).all λk=>match ix[k]? with
  |some (some j)=>match N'[k]? with
   |some x=>N[j]? == some x && sc'.names.lookup x == some .free
   |none=>false
  |_=>true
structure CapOk(N N':List Str)(sc sc':Scope)(ix:fV):Prop where
 len:ix.length=N'.length
 kind:sc'.kind=.function
 nocell:∀p∈sc'.names,p.2≠.cell
 loc:∀p∈sc'.names,p.2=.local->sc'.names.lookup p.1=some .local
 fre:∀p∈sc'.names,p.2=.free->sc.names.lookup p.1=some .cell\/sc.names.lookup p.1=some .free
 cap:∀(k j:Nat),ix[k]?=some (some j)->∃x,N'[k]?=some x/\N[j]?=some x/\sc'.names.lookup x=some .free
def Fo{N l:List Str}{m a:Scope}{ix:fV}(h:vK N l m a ix=true):CapOk N l m a ix:=by
 unfold vK at h;simp only[Bool.and_eq_true,List.all_eq_true,beq_iff_eq]at h;obtain⟨⟨⟨y,w⟩,f⟩,u⟩:=h;refine⟨y,w,λp b=>?_,λp b o=>?_,λp b r=>?_,λk j n=>?_⟩
 ·have:=(f p b).1.1
  simpa using this
 ·have:=(f p b).1.2
  rw[o]at this;simpa using this
 ·have:=(f p b).2
  rw[r]at this;simpa using this
 ·have c:k<ix.length:=(dC n).1
  have:=u k (List.mem_range.mpr c);rw[n]at this;simp only at this
  cases e:l[k]? with
  |none=>rw[e]at this;simp at this
  |some x=>
   rw[e]at this;simp only[Bool.and_eq_true,beq_iff_eq]at this;exact⟨x,Z,this.1,this.2⟩
abbrev Cx.comp(X:Cx)(sc:Scope)(N':List Str)(C:Addr)(s₀:Shared)(H₀:Hp)(ex:List Addr):Cx:=
 {X with N:=N',s₀:=s₀,H₀:=H₀,env:=compEnvC sc (cL X.env sc.names []) C X.env,outer:=X.stack,stack:=X.stack,ex:=ex,fn:=λ_=>false,pn:=[],xe:=λ_ _=>False}
def mS(σ σ':St):Prop:=σ.length=σ'.length/\∀(i:Nat) v,σ[i]?=some (some v)->σ'[i]?=some (some v)
def wG{σ:St}{i:Nat}{v:Option V}(h:σ[i]?=some none):mS σ (σ.set i v):=by
 refine⟨by simp,λj w e=>?_⟩;by_cases a:i=j
 ·subst a;rw[h]at e;cases e
 ·rw[List.getElem?_set_ne a];exact e
def PTs(X:Cx)(ifs:List Expr)(t:TT):Prop:=
 ∀(pins:List (Addr×Obj)) (s:Shared) (σ:St) (H:Hp) (Q:Bool->Hp->Prop),Inv X pins σ H s->t σ H Q->
  wpAny (model X.prog X.w) X.A (forIn ifs true λc r=>if r=true then do let ok <- isTrue c X.env (eval c X.env);pure (ForInStep.yield ok) else pure (ForInStep.yield r)) (TP X pins σ Q) X.xe s
def dP:TT:=λ_ H Q=>Q true H
def eN{X:Cx}:PTs X [] dP:=λ_ _ _ H _ I h=>wpAny_tests_nil ⟨H,I,h⟩
def Od{X:Cx}{c:Expr}{t:TT}(h:PT X c t):PTs X [c] t:=λa s σ H Q I b=>wpAny_tests_one (h a s σ H Q I b)
def gW(J:It)(ix:fV)(g:TG)(tt:TT)(te:TE)(σ:St)(H1:Hp)(Q:VK):Prop:=∃W:Nat->Nat->List V->Hp->Prop,(∃m,W 0 m [] H1)/\∀i m ys H,W i m ys H->
 (J.stop i H/\∀D,H D=none->Q (.ref D) (upd H D (.lst ys))) ∨
 (J.go i H/\ys.length<sizeLine/\∀x H',J.yld i H x H'->g x (bR ix σ) H' λσ2 H2=>mS (bR ix σ) σ2/\tt σ2 H2 λb H3=>
  if b=true then te σ2 H3 λy H4=>∃m',m'<m/\W (i+1) m' (ys++[y]) H4 else ∃m',m'<m/\W (i+1) m' ys H3)
def Dp(ix:fV)(wi:TI)(g:TG)(tt:TT)(te:TE):TE:=λσ H Q=>wi σ H λJ H1=>gW J ix g tt te σ H1 Q
def HOk.track{P:Program}{w:World}{H:Hp}{h:Heap}{a:Addr}{o:HO}(x:HOk P w H h)(hn:H a=none)(new:ObjOk P w (upd H a o) h a o):HOk P w (upd H a o) h:=λb u e=>by
 by_cases f:b=a
 ·subst f;rw[aC]at e;cases e;exact new
 ·rw[aG f]at e
  exact(x b u e).stay (λc v _ q=>q) (λc q=>by rw[aG (bN q hn)];exact q) λc xs q=>by rw[aG (bN q hn)];exact q
theorem X6 {prog:Program} {w:World} {A:Around} {R:Result->Shared->Prop} {s:Shared} {o a j:Expr} {l:List Expr} {b:Scope} {pos:Pos} {it acc:Value} {env:Env} (I:Nat->Shared->Prop)
  (p:∀ n s,I n s->wpAny (model prog w) A (pyNext it) (λr z=>match r with
   |none=>R (.ok .next) z
   | some v=>wpAny (model prog w) A (letOwnedTupleGo a it v) (λ_ u=>wpAny (model prog w) A (assign a env v) (λ_ O=>
     wpAny (model prog w) A (forIn l true λc r=>if r=true then do let ok <- isTrue c env (eval c env);pure (ForInStep.yield ok) else pure (ForInStep.yield r)) (λok y=>
      if ok=true then wpAny (model prog w) A (eval o env) (λx M=>
       wpAny (model prog w) A (call (.builtin "list.append") [acc,x]) (λ_ J=>∃m,m<n/\I m J) (notedBy (model prog w) A env λe f=>R (.error e) f) M) (notedBy (model prog w) A env λe f=>R (.error e) f) y
      else ∃m,m<n/\I m y) (notedBy (model prog w) A env λe f=>R (.error e) f) O) (notedBy (model prog w) A env λe f=>R (.error e) f) u) (notedBy (model prog w) A env λe f=>R (.error e) f) z) (notedBy (model prog w) A env λe f=>R (.error e) f) s)
  (n:Nat) (h:I n s) :
  codeAny (model prog w) A (.compLoop (.ListComp o [⟨a,j,l,0⟩] b pos) 0 it acc env) R s:=by
 refine codeAny_loop Z I (λn s hI=>?_) n h;show wpAny _ A ((compTurn (.ListComp o [⟨a,j,l,0⟩] b pos) 0 it acc env).onRaise (λx=>do noteFrame x env;theTreesLotGoes x)) _ _ s;refine wpAny_noted ?_;rw[compTurn_list];refine zX (wpAny_standAt (zX (wpAny_mono (p n s hI) (λr z h₁=>?_) λ_ _ h'=>h')))
 cases r with
 |none=>exact z7 h₁
 | some v=>
  refine zX (wpAny_mono h₁ (λ_ u C=>?_) λ_ _ h'=>h');refine zX (wpAny_mono C (λ_ O h₂=>zX (wpAny_mono h₂ (λok y U=>?_) λ_ _ h'=>h')) λ_ _ h'=>h')
  cases ok with
  |false=>exact z7 ⟨Z,U⟩
  |true=>
   exact zX (zX (wpAny_mono U (λx M h₄=>zX (wpAny_mono h₄ (λ_ J Y=>z7 (z7 ⟨Z,Y⟩)) λ_ _ h'=>h')) λ_ _ h'=>h'))
section
variable {X:Cx}
def sE{M:Model}{A:Around}{α:Type}{t:Sem α}{Q:α->Shared->Prop}{E:Value->Shared->Prop}{s:Shared}(h:wpAny M A t Q (λ_ _=>False) s):wpAny M A t Q E s:=wpAny_mono h (λ_ _ q=>q) λ_ _ z=>z.elim
def Vo {Cp:Cx->Prop} {Er:Addr->Shared->Hp->List Addr->Value->Shared->Prop} {elt tg iter:Expr} {ifs:List Expr} {sc:Scope} {pos:Pos} {N':List Str} {ix:fV} {g:TG} {tt:TT} {te:TE} {pins:List (Addr×Obj)} {σ:St} {s:Shared} {Q:VK} {RR:Value->Addr->Result->Shared->Prop} {E:Value->Shared->Prop}
  {itv:Value} (hc:∀C s₀ H₀ ex,Cp (X.comp sc N' C s₀ H₀ ex)) (ok:CapOk X.N N' X.env.scope sc ix)
  (hg:∀C s₀ H₀ ex,PG (X.comp sc N' C s₀ H₀ ex) tg g) (ht:∀C s₀ H₀ ex,PTs (X.comp sc N' C s₀ H₀ ex) ifs tt) (he:∀C s₀ H₀ ex,PE ((X.comp sc N' C s₀ H₀ ex).wish (Er C s₀ H₀ ex)) elt te)
  (hi:tS Cp X pins σ tg (λJ H1=>gW J ix g tt te σ H1 Q) itv s)
  (fin:∀(D C:Addr) (s':Shared) (H':Hp) (m:Str->Option Value),Inv X pins σ H' s'->Q (.ref D) H'->s'.heap.Ns C m->H' C=none->C≠X.env.locals->X.s₀.heap.objs.size<=C->(∀x c,X.env.cells.lookup x=some c->c≠C)->(∀p∈X.pn++pins,p.1≠C)->
   RR (.ref D) C (.ok .next) s')
  (bad:∀(D C:Addr) (H2:Hp) (fp:List Addr) (e:Value) (s':Shared),Inv X pins σ H2 s->(∀b∈fp,FpOk X pins H2 b)->s.heap.objs.size<=C->Er C s H2 fp e s'->notedBy (model X.prog X.w) X.A (compEnvC sc (cL X.env sc.names []) C X.env) (λe s'=>RR (.ref D) C (.error e) s') e s') :
  wpAny (model X.prog X.w) X.A (newList []) (λacc s₃=>wpAny (model X.prog X.w) X.A (newFunctionEnv sc X.env.globals (cL X.env sc.names []) [] X.env.qual none .none (some X.env)) (λcenv s₄=>
   codeAny (model X.prog X.w) X.A (.compStart (.ListComp elt [⟨tg,iter,ifs,0⟩] sc pos) 0 itv acc {cenv with scope:=relabel sc X.env}) (RR acc cenv.locals) s₄) E s₃) E s:=by
 obtain⟨it,fp,tn,J,H2,rfl,I2,T,st2,f2,W,⟨m0,w0⟩,turn⟩:=hi;refine wpAny_newObj_type (wpAny_newFunctionEnv ok.nocell (by intro y hy;simp at hy) (λh₁ hns₁ hsb₁=>?_) ok.kind);dsimp only at hns₁ hsb₁⊢;generalize hHD:s.heap.push {cls:=.type "list",dict:=none,data:=.seq ([]:List Value).toArray}=hD at hns₁ hsb₁⊢;have hCs:hD.objs.size=s.heap.objs.size+1:=by rw[<- hHD,Heap.size_push]
 have upC:s.heap.objs.size<hD.objs.size:=by rw[hCs];exact Nat.lt_succ_self _
 have hDC:s.heap.objs.size≠hD.objs.size:=by rw[hCs];exact qE (Nat.lt_succ_self _)
 have below:∀b o,s.heap.get? b=some o->b≠hD.objs.size/\b≠s.heap.objs.size:=λb o e=>by
  have:=z8 e;exact⟨qE (by rw[hCs];exact Nat.lt_succ_of_lt this),qE this⟩
 have old:∀b o,s.heap.get? b=some o->h₁.get? b=some o:=λb o e=>hsb₁.extBut b o (below b o e).1 (aT _ (hHD ▸ aT _ e));have hacc:h₁.get? s.heap.objs.size=some {cls:=.type "list",data:=.seq ([]:List Value).toArray 0}:=hsb₁.extBut _ _ hDC (aT _ (hHD ▸ z9 _ rfl));have fpo:∀b∈fp,b<s.heap.objs.size:=λb hb=>let ⟨o,e,_⟩:=T.obj _ _ st2 b hb;z8 e;have cellX:∀x c,(cL X.env sc.names []).lookup x=some c->X.env.cells.lookup x=some c:=λx c e=>Hb (λp hp=>absurd hp (by simp)) e;have cellLt:∀x c,X.env.cells.lookup x=some c->c<s.heap.objs.size:=λx c e=>let ⟨v,z⟩:=I2.cell x c e;z.lt
 have hasC:∀x,(x,NameKind.free)∈sc.names->∃c,(cL X.env sc.names []).lookup x=some c:=λx hx=>by
  have h1:=I2.ok.has x (ok.fre (x,.free) hx rfl);exact Jw (Fq (.inr ⟨hx,h1⟩))
 have okX:(X.comp sc N' hD.objs.size s H2 fp).Ok:=by
  refine⟨I2.ok.mod,ok.kind,I2.ok.glob,I2.ok.blt,?_,?_,?_,?_,I2.ok.hd,I2.ok.frames,.inl rfl,?_,I2.bs,zY I2.ok.bsz I2.sz,?_,?_,I2.stack,I2.stkFree⟩
  ·exact Nat.le_of_lt upC
  ·intro x y c h1 h2
   exact I2.ok.inj x y c (cellX x c h1) (cellX y c h2)
  ·intro x hx
   have hx':(relabel sc X.env).names.lookup x=some .cell\/(relabel sc X.env).names.lookup x=some .free:=hx
   have:∃k,sc.names.lookup x=some k/\(k=.free\/k=.cell):=by
    rcases hx' with h |h
    ·obtain⟨k,e,z⟩:=xI h
     rcases z with z |⟨z,_⟩
     ·exact⟨k,e,.inr z.symm⟩
     ·exact⟨k,e,.inl z⟩
    ·obtain⟨k,e,z⟩:=xI h
     rcases z with z |⟨_,z⟩
     ·exact⟨k,e,.inl z.symm⟩
     ·cases z
   obtain⟨k,e,z⟩:=this;rcases z with rfl |rfl
   ·exact hasC x (zN e)
   ·exact absurd rfl (ok.nocell _ (zN e))
  ·intro x c h _
   cases h
  ·intro b hb
   refine⟨?_,λx c e=>(f2 b hb).2.2.2.2.1 x c (cellX x c e)⟩;exact qE (by rw[hCs];exact Nat.lt_succ_of_lt (fpo b hb))
  ·intro b o e hb
   rcases(f2 b hb).2.2.2.1 with z |z
   ·exact I2.ok.noex b o e z
   ·exact absurd (qF (z8 (I2.ok.bs b o e).1) z) (qJ _)
  ·intro b hb z
   rcases cE (I2.stkSub b z) with z |z
   ·exact(f2 b hb).2.1 z
   ·exact(f2 b hb).2.2.1 z
 have hnD:H2 s.heap.objs.size=none:=I2.hok.fresh (zZ _);have hnC:H2 hD.objs.size=none:=I2.hok.fresh (Nat.le_of_lt upC)
 have nofsD:∀a,s.heap.objs.size<=a->a ∉dE X.stack:=λa ha z=>by
  rcases cE (I2.stkSub a z) with z |z
  ·exact absurd (qF I2.lt ha) (by rw[z];exact qJ _)
  ·exact I2.nofs ha z
 have eP:Inv (X.comp sc N' hD.objs.size s H2 fp) [(s.heap.objs.size,{cls:=.type "list",data:=.seq ([]:List Value).toArray 0})] (bR ix σ) H2 {s with heap:=h₁,toks:=s.toks+([]:List (Str×Value)).length}:=by
  refine⟨okX,rfl,I2.bare,Un.kept old,⟨_,hns₁,?_⟩,λx c e=>?_,hnC,λx c e=>I2.freeC x c (cellX x c e),λp hp=>?_,I2.hok.kept old,?_⟩
  ·intro i x v hN hv hvis
   have hl:i<ix.length:=by rw[ok.len];exact(dC hN).1
   have hv':(ix.map λo=>(o.bind λj=>σ[j]?).join)[i]?=some (some v):=hv;rw[dA,bV hl]at hv';have hv'':((ix[i].bind λj=>σ[j]?).join)=some v:=qB hv'
   cases ej:ix[i] with
   |none=>rw[ej]at hv'';cases hv''
   | some j=>
    rw[ej]at hv''
    have hσ:σ[j]?=some (some v):=by
     have z:(σ[j]?).join=some v:=hv''
     cases q:σ[j]? with
     |none=>rw[q]at z;cases z
     |some o=>rw[q]at z;exact congrArg some z
    obtain⟨x',e1,e2,e3⟩:=ok.cap i j (by rw[bV hl,ej]);rw[show N'[i]?=some x from hN]at e1;cases e1;have hk:=ok.fre (x,.free) (zN e3) rfl;obtain⟨m,hm,hl'⟩:=I2.loc;obtain⟨u,ru,lk⟩:=hl' j x v e2 hσ (hk.elim (λz=>.inr (.inl z)) λz=>.inr (.inr z));refine⟨u,ru,.inr ⟨?_,?_⟩⟩
    ·show(relabel sc X.env).names.lookup x=some .cell\/(relabel sc X.env).names.lookup x=some .free
     obtain⟨k',q1,q2⟩:=Bi (env:=X.env) e3;rcases q2 with q2 |⟨_,q2⟩
     ·exact .inr (q1.trans (congrArg some q2))
     ·exact .inl (q1.trans (congrArg some q2))
    ·obtain⟨c,hc'⟩:=hasC x (zN e3)
     refine⟨c,hc',?_⟩;rcases lk with⟨z,_⟩ |⟨_,c',ec,⟨o,ho,hd⟩⟩
     ·have z':X.env.scope.names.lookup x=some .local:=z
      rcases hk with hk |hk
      ·rw[z']at hk;cases hk
      ·rw[z']at hk;cases hk
     ·rw[cellX x c hc']at ec
      cases ec;exact⟨o,old _ _ ho,hd⟩
  ·obtain⟨v,o,ho,hd⟩:=I2.cell x c (cellX x c e)
   exact⟨v,o,old _ _ ho,hd⟩
  ·have e:p=(s.heap.objs.size,{cls:=.type "list",data:=.seq ([]:List Value).toArray 0}):=by simpa using hp
   subst e;exact⟨hacc,hnD,hDC,nofsD _ (zZ _),λv z=>by cases z⟩
  ·show(ix.map _).length=N'.length
   rw[aR];exact ok.len
 have st1:tn 0 h₁:=T.keep _ _ _ st2 λb hb o e=>old b o e
 have loop:∀s₃:Shared,s₃={s with heap:=h₁,toks:=s.toks+([]:List (Str×Value)).length}->
   codeAny (model X.prog X.w) X.A (.compLoop (.ListComp elt [⟨tg,iter,ifs,0⟩] sc pos) 0 (.ref it) (.ref s.heap.objs.size) (compEnvC sc (cL X.env sc.names []) hD.objs.size X.env))
    (RR (.ref s.heap.objs.size) hD.objs.size) s₃:=by
  rintro s₃ rfl
  have fpI:∀{H':Hp} {o:Obj},(∀b∈fp,H' b=none)->∀b∈fp,FpOk (X.comp sc N' hD.objs.size s H2 fp) [(s.heap.objs.size,o)] H' b:=λ{H' o} hn b hb=>by
   have hlt:=fpo b hb;refine⟨hn b hb,(okX.exf b hb).1,okX.exfs b hb,.inl hb,(okX.exf b hb).2,λp hp=>?_⟩;have e:p=(s.heap.objs.size,o):=by simpa using hp
   subst e;exact Nat.ne_of_gt hlt
  refine X6 (λn s'=>∃i ys its k H',Inv (X.comp sc N' hD.objs.size s H2 fp) [(s.heap.objs.size,{cls:=.type "list",data:=.seq its.toArray k})] (bR ix σ) H' s'/\Vals ys its/\ys.length<=sizeLine/\tn i s'.heap/\(∀b∈fp,H' b=none)/\W i n ys H')
   ?_ m0 ⟨0,[],[],0,H2,eP,.nil,qR _,st1,λb hb=>(f2 b hb).1,w0⟩
  rintro n s4 ⟨i,ys,its,k,H4,I4,r4,z4,st4,fr4,w4⟩;rcases turn i n ys H4 w4 with⟨stop,q⟩ |⟨go,hz,step⟩
  ·refine sE (aN (T.done (X.comp sc N' hD.objs.size s H2 fp) rfl rfl rfl (hc _ _ _ _) i _ s4 _ H4 (λ_ _=>False) I4 (fpI fr4) st4 stop) λr s5 ⟨hr,I5⟩=>?_)
   subst hr;show RR (.ref s.heap.objs.size) hD.objs.size (.ok .next) s5;obtain⟨pD,nD,_,_,_⟩:=I5.pin (s.heap.objs.size,{cls:=.type "list",data:=.seq its.toArray k}) (by simp);obtain⟨m5,hm5,_⟩:=I5.loc;have okD:HOk X.prog X.w (upd H4 s.heap.objs.size (.lst ys)) s5.heap:=I5.hok.track nD ⟨z4,its,k,r4,pD⟩
   have un:Un (dE X.stack) fp H2 (upd H4 s.heap.objs.size (.lst ys)) s.heap s5.heap:=by
    have B:Un (dE X.stack) fp H2 H4 s.heap s5.heap:=I5.base;have ne:∀b u,H2 b=some u->b≠s.heap.objs.size:=λb u e=>bN e hnD;refine⟨B.keep,B.slot,λb o e n hb=>?_,B.there,λb xs e=>?_,λb o u e=>?_,λb ps e=>?_⟩
    ·rw[aG (below b o e).2];exact B.free b o e n hb
    ·rw[aG (ne b _ e)];exact B.tups b xs e
    ·rw[aG (ne b _ e)];exact B.frzs b o u e
    ·rw[aG (ne b _ e)];exact B.tbls b ps e
   have IX:Inv X pins σ (upd H4 s.heap.objs.size (.lst ys)) s5:=I2.call' (ch:=fp) I5.os un okD I5.bare λb hb=>⟨(f2 b hb).2.2.2.1,(f2 b hb).2.1,(f2 b hb).2.2.2.2.1,(f2 b hb).2.2.2.2.2⟩;refine fin _ _ s5 _ m5 IX (q _ nD) hm5 ?_ (Nat.ne_of_gt (Nat.lt_trans I2.lt upC)) (Nat.le_of_lt (zT I2.sz upC)) (λx c e=>qE (Nat.lt_trans (cellLt x c e) upC)) (λp hp=>qE (Nat.lt_trans (z8 (I2.pin p hp).1) upC));rw[aG (Ne.symm hDC)];exact I5.free
  ·refine sE (aN (T.item (X.comp sc N' hD.objs.size s H2 fp) rfl rfl rfl (hc _ _ _ _) i _ s4 _ H4 (λ_ _=>False) I4 (fpI fr4) st4 go) λr s5 ⟨u,hr,h5⟩=>?_)
   subst hr;refine sE (aN h5 λ_ s6 ⟨x,H6,I6,r6,y6,st6,fr6⟩=>?_);have I6':=I6.pinned (fpI fr6) (T.obj _ _ st6);refine sE (aN (hg _ _ _ _ _ s6 _ H6 x u _ I6' r6 (step x H6 y6)) λ_ s7 ⟨σ7,H7,I7,x7,q7⟩=>?_);refine sE (aN (ht _ _ _ _ _ s7 σ7 H7 _ I7 q7) λb s8 ⟨H8,I8,q8⟩=>?_)
   have back:∀{s9:Shared} {H9:Hp},Inv (X.comp sc N' hD.objs.size s H2 fp) ([(s.heap.objs.size,{cls:=.type "list",data:=.seq its.toArray k})]++sC fp s6.heap) σ7 H9 s9->
     Inv (X.comp sc N' hD.objs.size s H2 fp) [(s.heap.objs.size,{cls:=.type "list",data:=.seq its.toArray k})] (bR ix σ) H9 s9/\tn (i+1) s9.heap/\(∀b∈fp,H9 b=none):=λ{s9 H9} J9=>by
    refine⟨(J9.unpinned).weak x7.1 x7.2,T.keep _ _ _ st6 λb hb o e=>(J9.pin (b,o) (zJ _ (zJ _ (xA hb e)))).1,λb hb=>?_⟩;obtain⟨o,e,d⟩:=T.obj _ _ st6 b hb;exact(J9.pin (b,o) (zJ _ (zJ _ (xA hb e)))).2.1
   cases b with
   |false=>
    rw[if_neg qA]at q8⊢;obtain⟨m',hm,w8⟩:=q8;obtain⟨J8,st8,fr8⟩:=back I8;exact⟨m',hm,i+1,ys,its,k,H8,J8,r4,z4,st8,fr8,w8⟩
   | true=>
    rw[if_pos rfl]at q8⊢;refine wpAny_mono (he _ _ _ _ _ s8 σ7 H8 _ (I8.wish _) q8) (λy s9 ⟨v9,H9,I9',r9,q9⟩=>?_) (λe s9 hx=>bad _ _ H2 fp e s9 I2 f2 (Nat.le_of_lt upC) hx);have I9:=I9'.unwish;obtain⟨m',hm,w9⟩:=q9;obtain⟨J9,st9,fr9⟩:=back I9;obtain⟨pD,nD,neC,nf,_⟩:=J9.pin (s.heap.objs.size,{cls:=.type "list",data:=.seq its.toArray k}) (by simp);have hlen:=r4.length;refine call_meets F.slot_list_append ⟨_,pD,rfl⟩ F.entry_list_append (F.args_list_append_2 _ _) (PySem.list_append s.heap.objs.size its.toArray k y (by rw[List.size_toArray];omega)) ⟨pD,?_⟩;have q:=PySem.IsL.update pD (·.push y);have ep:its.toArray.push y=(its++[y]).toArray:=by simp
    dsimp only at q;rw[ep]at q;obtain⟨k',q⟩:∃k',(s9.heap.update s.heap.objs.size (Obj.mapSeq (·.push y))).get? s.heap.objs.size=some {cls:=.type "list",data:=.seq (its++[y]).toArray k'}:=⟨_,q⟩;have J0:Inv (X.comp sc N' hD.objs.size s H2 fp) [] (bR ix σ) H9 s9:=J9.pins_of λp hp=>absurd hp (by simp)
    have J1:Inv (X.comp sc N' hD.objs.size s H2 fp) [] (bR ix σ) H9 {s9 with heap:=s9.heap.update s.heap.objs.size (Obj.mapSeq (·.push y))}:=
     J0.turned (it:=s.heap.objs.size) (t':=s9.toks) (λb o hb e=>(Heap.get?_update_other _ _ (Ne.symm hb)).trans e) nD neC (.inr (zZ _)) (λx c e=>qE (cellLt x c (cellX x c e))) λp hp=>absurd hp (by simp)
    refine⟨m',hm,i+1,ys++[v9],its++[y],k',H9,J1.pins_of λp hp=>?_,r4.append (.cons r9 .nil),?_,T.keep _ _ _ st9 λb hb o e=>(Heap.get?_update_other _ _ ?_).trans e,fr9,w9⟩
    ·have e:p=_:=eG hp
     subst e;exact⟨q,nD,neC,nf,λv z=>by cases z⟩
    ·rw[bK,List.length_singleton];omega
    ·exact Nat.ne_of_gt (fpo b hb)
 exact codeAny_compStart_list (loop _ rfl) (T.self _ 0 _ _ _ st1 (loop _ rfl))
def Ji {Cp:Cx->Prop} {l o h:Expr} {j:List Expr} {b:Scope} {pos:Pos} {n:List Str} {ix:fV} {g:TG} {tt:TT} {te:TE} {a:List (Addr×Obj)} {σ:St} {s:Shared} {Q:VK} {RR:Value->Addr->Result->Shared->Prop} {E:Value->Shared->Prop}
  {f:Value} (Y:∀C s₀ H₀ ex,Cp (X.comp b n C s₀ H₀ ex)) (ok:CapOk X.N n X.env.scope b ix)
  (O:∀C s₀ H₀ ex,PG (X.comp b n C s₀ H₀ ex) o g) (M:∀C s₀ H₀ ex,PTs (X.comp b n C s₀ H₀ ex) j tt) (U:∀C s₀ H₀ ex,PE (X.comp b n C s₀ H₀ ex) l te)
  (hi:tS Cp X a σ o (λJ H1=>gW J ix g tt te σ H1 Q) f s)
  (fin:∀(D C:Addr) (r:Shared) (u:Hp) (m:Str->Option Value),Inv X a σ u r->Q (.ref D) u->r.heap.Ns C m->u C=none->C≠X.env.locals->X.s₀.heap.objs.size<=C->(∀x c,X.env.cells.lookup x=some c->c≠C)->(∀p∈X.pn++a,p.1≠C)->
   RR (.ref D) C (.ok .next) r) :
  wpAny (model X.prog X.w) X.A (newList []) (λacc I=>wpAny (model X.prog X.w) X.A (newFunctionEnv b X.env.globals (cL X.env b.names []) [] X.env.qual none .none (some X.env)) (λe y=>
   codeAny (model X.prog X.w) X.A (.compStart (.ListComp l [⟨o,h,j,0⟩] b pos) 0 f acc {e with scope:=relabel b X.env}) (RR acc e.locals) y) E I) E s:=
 Vo (Er:=λ_ _ _ _ _ _=>False) Y ok O M U hi fin λ_ _ _ _ _ _ _ _ _ z=>z.elim
def Inv.letGo {pins:List (Addr×Obj)} {σ:St} {H:Hp} {s:Shared} {C:Addr} {h':Heap} (I:Inv X pins σ H s) (hs:Heap.SameBut C s.heap h') (h0:H C=none) (h1:C≠X.env.locals) (h2:X.s₀.heap.objs.size<=C) (h3:∀x c,X.env.cells.lookup x=some c->c≠C)
  (h4:∀p∈X.pn++pins,p.1≠C):Inv X pins σ H {s with heap:=h'}:=I.turned (t':=s.toks) (λb o hb e=>(hs.2 b hb).trans e) h0 h1 (.inr h2) h3 h4
def iP {elt tg iter:Expr} {ifs:List Expr} {sc:Scope} {pos:Pos} (N':List Str) (ix:fV) {wi:TI} {g:TG} {tt:TT} {te:TE} (hc:X.calm=true) (hok:vK X.N N' X.env.scope sc ix=true)
  (hi:PI X tg iter wi) (hg:∀C s₀ H₀ ex,PG (X.comp sc N' C s₀ H₀ ex) tg g) (ht:∀C s₀ H₀ ex,PTs (X.comp sc N' C s₀ H₀ ex) ifs tt) (he:∀C s₀ H₀ ex,PE (X.comp sc N' C s₀ H₀ ex) elt te)
  (hs:∀x,foldedSetIterable iter X.env x=pure x:=by intro _;rfl):PE X (.ListComp elt [⟨tg,iter,ifs,0⟩] sc pos) (Dp ix wi g tt te):=by
 intro pins s σ H Q I h;have ok:=Fo hok;rw[eval_ListComp];refine wpAny_comprehension_free (use:=none) rfl hs (Jt λp hp hk=>I.ok.has p.1 (ok.fre p hp hk)) ok.kind ok.loc (aN (hi pins s σ H _ I h) λv s1 h1=>aN h1 λitv s2 h2=>?_);refine Ji (Cp:=λX=>X.calm=true) (RR:=λacc C=>compPost (model X.prog X.w) X.A X.xe none (EP X pins σ Q) acc C) (λ_ _ _ _=>hc) ok hg ht he h2 ?_;intro D C s' H' m I' q hm h0 h1 h2 h3 h4;exact⟨m,hm,λh' hsb=>⟨.ref D,H',I'.letGo hsb h0 h1 h2 h3 h4,rfl,q⟩⟩
def mJ {elt tg iter:Expr} {ifs:List Expr} {sc:Scope} {pos spos py:Pos} {i:Nat} {y:Str} (N':List Str) (ix:fV) {wi:TI} {g:TG} {tt:TT} {te:TE} (hc:X.calm=true) (hok:vK X.N N' X.env.scope sc ix=true)
  (hN:X.N.Nodup) (hy:X.N[i]?=some y) (hx:tW X.env.scope y)
  (hi:PI X tg iter wi) (hg:∀C s₀ H₀ ex,PG (X.comp sc N' C s₀ H₀ ex) tg g) (ht:∀C s₀ H₀ ex,PTs (X.comp sc N' C s₀ H₀ ex) ifs tt) (he:∀C s₀ H₀ ex,PE (X.comp sc N' C s₀ H₀ ex) elt te)
  (hs:∀x,foldedSetIterable iter X.env x=pure x:=by intro _;rfl) (hsw:swapsWith (.ListComp elt [⟨tg,iter,ifs,0⟩] sc pos) (some (.Name y py)) spos.line X.env=pure true:=by rfl)
  (hf:X.fn y=true\/X.env.scope.names.lookup y=some .local:=by first |exact .inl rfl |exact .inr rfl |assumption) :
  PS X (.Assign [.Name y py] (.ListComp elt [⟨tg,iter,ifs,0⟩] sc pos) spos) (oX (Dp ix wi g tt te) (lX i)):=by
 intro pins s σ H D I h;have ok:=Fo hok;rw[exec_Assign_Name_used _ _ _ _ hsw];refine zX (wpAny_standAt (zX ?_));show wpAny _ X.A (do let _ <- comprehension (.ListComp elt [⟨tg,iter,ifs,0⟩] sc pos) sc X.env _ (newList []) false (eval iter X.env) (some (assign (.Name y py) X.env))) _ _ s
 refine zX (wpAny_mono (wpAny_comprehension_free (use:=some (assign (.Name y py) X.env)) (Q:=λ_ s'=>SP X pins D .next s') rfl hs (Jt λp hp hk=>I.ok.has p.1 (ok.fre p hp hk)) ok.kind ok.loc
  (aN (hi pins s σ H _ I h) λv s1 h1=>aN h1 λitv s2 h2=>?_)) (λ_ s' hq=>z7 (z7 hq)) λ_ _ e=>e)
 refine Ji (Cp:=λX=>X.calm=true) (Q:=λx H1=>lX i x σ H1 D.nx) (RR:=λacc C=>compPost (model X.prog X.w) X.A X.xe (some (assign (.Name y py) X.env)) (λ_ s'=>SP X pins D .next s') acc C) (λ_ _ _ _=>hc) ok hg ht he h2 ?_;intro Dl C s' H' m I' q hm h0 h1 h2 h3 h4;refine wpAny_assign_Name (Ie I' hN hy hx (v:=.ref Dl) rfl (λs3 I3 sb=>?_) hf);obtain⟨a,hsb,ha⟩:=sb
 have hne:C≠a:=by
  rcases ha with e |e
  ·rw[e];exact h1
  ·exact Ne.symm (h3 y a e)
 exact⟨m,hm.sameBut hsb hne,λh' hs'=>⟨_,H',I3.letGo hs' h0 h1 h2 h3 h4,q⟩⟩
end
section
variable {ix:fV}{tt:TT}{te:TE}{g:TG}{σ:St}{H:Hp}{Q:VK}
def tU(Pv:Nat->List V->Hp->Prop)(n i:Nat)(ys:List V):VK:=λy H2=>∃m',m'<n-i/\m'=n-(i+1)/\i+1<=n/\(ys++[y]).length=i+1/\Pv (i+1) (ys++[y]) H2
def hZ{a:Nat->List V->Hp->Prop}{n i:Nat}{ys:List V}{y:V}{b:Hp}(hi:i<n)(c:ys.length=i)(h:a (i+1) (ys++[y]) b):tU a n i ys y b:=
 ⟨n-(i+1),by omega,Z,hi,by rw[bK,List.length_singleton,c],h⟩
def Au {lo:Int} {n j:Nat} (Pv:Nat->List V->Hp->Prop) (hj:(bR ix σ)[j]?=some none) (h0:Pv 0 [] H) (hn:n<sizeLine)
  (hs:∀i ys H,i<n->ys.length=i->Pv i ys H->te ((bR ix σ).set j (some (.int (lo+i)))) H (tU Pv n i ys))
  (hd:∀ys H,ys.length=n->Pv n ys H->∀D,H D=none->Q (.ref D) (upd H D (.lst ys))):gW (pO lo n) ix (lX j) dP te σ H Q:=by
 refine⟨λi m ys H=>m=n-i/\i<=n/\ys.length=i/\Pv i ys H,⟨n,by simp,qR _,rfl,h0⟩,?_⟩;rintro i m ys H ⟨rfl,hi,hl,p⟩;by_cases hlt:i<n
 ·refine .inr ⟨hlt,by omega,λx H' y=>?_⟩
  obtain⟨e,y⟩:=y;subst e y;refine⟨wG hj,?_⟩;unfold dP;dsimp only;rw[if_pos rfl];exact hs i ys _ hlt hl p
 ·have e:i=n:=by omega
  subst e;exact .inl ⟨zZ _,hd ys H hl p⟩
def Qo {x:Str} {j:Nat} (Pv:Nat->List V->Hp->Prop) (hj:(bR ix σ)[j]?=some none) (h0:Pv 0 [] H) (hn:x.cps.size<sizeLine)
  (hs:∀i c ys H,x.cps[i]?=some c->ys.length=i->Pv i ys H->te ((bR ix σ).set j (some (.str ⟨#[c]⟩))) H (tU Pv x.cps.size i ys))
  (hd:∀ys H,ys.length=x.cps.size->Pv x.cps.size ys H->∀D,H D=none->Q (.ref D) (upd H D (.lst ys))):gW (D2 x) ix (lX j) dP te σ H Q:=by
 refine⟨λi m ys H=>m=x.cps.size-i/\i<=x.cps.size/\ys.length=i/\Pv i ys H,⟨x.cps.size,by simp,qR _,rfl,h0⟩,?_⟩;rintro i m ys H ⟨rfl,hi,hl,p⟩;by_cases hlt:i<x.cps.size
 ·refine .inr ⟨hlt,by omega,λv H' y=>?_⟩
  obtain⟨e,c,hc,ev⟩:=y;subst e ev;refine⟨wG hj,?_⟩;unfold dP;dsimp only;rw[if_pos rfl];exact hs i c ys _ hc hl p
 ·have e:i=x.cps.size:=by omega
  subst e;exact .inl ⟨rfl,hd ys H hl p⟩
def sR {K:Fg} {a:Addr} {xs:List V} {j:Nat} (Pv:Nat->List V->Hp->Prop) (hj:(bR ix σ)[j]?=some none) (h0:Pv 0 [] H) (hn:xs.length<sizeLine) (hl':∀i ys H,i<=xs.length->Pv i ys H->SqL K H a xs)
  (hs:∀i x ys H,xs[i]?=some x->ys.length=i->Pv i ys H->te ((bR ix σ).set j (some x)) H (tU Pv xs.length i ys))
  (hd:∀ys H,ys.length=xs.length->Pv xs.length ys H->∀D,H D=none->Q (.ref D) (upd H D (.lst ys))):gW (pP K a) ix (lX j) dP te σ H Q:=by
 refine⟨λi m ys H=>m=xs.length-i/\i<=xs.length/\ys.length=i/\Pv i ys H,⟨xs.length,by simp,qR _,rfl,h0⟩,?_⟩;rintro i m ys H ⟨rfl,hi,hl,p⟩;have q:=hl' i ys H hi p;by_cases hlt:i<xs.length
 ·refine .inr ⟨⟨xs,xs[i],q,by simp[hlt]⟩,by omega,λv H' y=>?_⟩
  obtain⟨e,y⟩:=y;subst e;refine⟨wG hj,?_⟩;unfold dP;dsimp only;rw[if_pos rfl];exact hs i v ys _ (y xs q) hl p
 ·have e:i=xs.length:=by omega
  subst e;exact .inl ⟨⟨xs,q,zZ _⟩,hd ys H hl p⟩
def wI {K:Fg} {a:Addr} {xs:List V} {j:Nat} (b:Nat->List V->Hp->Prop) (l:(bR ix σ)[j]?=some none) (h0:b 0 [] H) (hn:xs.length<sizeLine) (f:∀i ys H,i<=xs.length->b i ys H->SqT K H a xs)
  (hs:∀i x ys H,xs[i]?=some x->ys.length=i->b i ys H->te ((bR ix σ).set j (some x)) H (tU b xs.length i ys))
  (hd:∀ys H,ys.length=xs.length->b xs.length ys H->∀D,H D=none->Q (.ref D) (upd H D (.lst ys))):gW (pM K a) ix (lX j) dP te σ H Q:=by
 refine⟨λi m ys H=>m=xs.length-i/\i<=xs.length/\ys.length=i/\b i ys H,⟨xs.length,by simp,qR _,Z,h0⟩,?_⟩;rintro i m ys H ⟨rfl,hi,h,p⟩;have q:=f i ys H hi p;by_cases c:i<xs.length
 ·refine .inr ⟨⟨xs,xs[i],q,by simp[c]⟩,by omega,λv n y=>?_⟩
  obtain⟨e,y⟩:=y;subst e;refine⟨wG l,?_⟩;unfold dP;dsimp only;rw[if_pos Z];exact hs i v ys _ (y xs q) h p
 ·have e:i=xs.length:=by omega
  subst e;exact .inl ⟨⟨xs,q,zZ _⟩,hd ys H h p⟩
end
section
variable {X:Cx}
def D6(i j:Int):Prop:=0<j/\j<2 ^ 64
def A9:cS X (binaryOp .FloorDiv) (rI D6 λi j=>.int (i / j)):=xM λi j _ _ _ _ _ a q=>by
 have f:(0:Int)<j:=a.1;have e:j<2 ^ 64:=a.2;refine floordiv_int (by omega) (by rw[Int.fdiv_eq_ediv_of_nonneg i (by omega)];exact q) (.inl (PyProof.noPylong_of_log2 ?_));have b:j.natAbs<2 ^ 64:=by omega
 have h0:j.natAbs≠0:=by omega
 have c:j.natAbs.log2<64:=(Nat.log2_lt h0).mpr b;omega
theorem Uv{ys:List Str}:∀{us:List Value},Vals (ys.map V.str) us->StrsAre us ys:=by
 induction ys with
 |nil=>intro us r;rw[List.map_nil]at r;cases r;exact .nil
 | cons n ns c=>
  intro us r;rw[List.map_cons]at r
  cases r with
  |cons b a=>
   obtain⟨t,e⟩:=b;subst e;exact .cons n t (c a)
def Dh(K:Fg):V->List V->Hp->VK->Prop:=λx vs H Q=>∃(sep:Str) (p:Addr) (ys:List Str),x=.str sep/\vs=[.ref p]/\SqL K H p (ys.map V.str)/\(ys.map (·.length)).sum+ys.length*sep.length<=16777216/\Q (.str (Txt.join sep ys)) H
def gZ:nY X "str.join" (Dh X.K):=by
 intro a s σ H x vs v us Q I c e h;obtain⟨b,p,ys,rfl,rfl,g,hz,q⟩:=h;obtain⟨t,rfl⟩:=c;obtain⟨u,rfl,f⟩:=e.one;cases f;obtain⟨its,r,pl,_⟩:=I.list g;exact join_list pl.isList (by simpa using Uv r) hz λt' k=>⟨.str _,H,I.tok k,⟨t',Z⟩,q⟩
def C2:V->Option Int->Option Int->Hp->VK->Prop:=λx lo hi H Q=>∃z:Str,x=.str z/\z.length<=sizeLine/\Q (.str (Txt.slice z lo hi)) H
def O4:xO X C2:=by
 intro f s σ H x v J C y hi sl Q I w hs pl r h;obtain⟨z,rfl,hz,q⟩:=h;obtain⟨t,rfl⟩:=w;refine⟨"str",_,F.slot_str_getitem.lookup,typeIs_str _ _ _,?_⟩
 have m:∀(o:Str),o=Txt.slice z y hi->o.length<=sizeLine/\∀t' k,EP X f σ Q (.str o t') {s with toks:=k}:=λo e=>by
  subst e;exact⟨zY (Txt.slice_le z _ _) hz,λt' k=>⟨.str _,H,I.tok k,⟨t',Z⟩,q⟩⟩
 obtain⟨g,a,c,b⟩:=hs
 cases pl with
 |none=>
  cases r with
  |none=>exact wpAny_getItem_str_slice (l:=none) (u:=none) (st:=none) ⟨g,a,c,b⟩ Z (post_val_or_str (m _ Z))
  |int j n=>exact wpAny_getItem_str_slice (l:=none) (u:=some (j,n)) (st:=none) ⟨g,a,c,b⟩ Z (post_val_or_str (m _ Z))
 |int i p=>
  cases r with
  |none=>exact wpAny_getItem_str_slice (l:=some (i,p)) (u:=none) (st:=none) ⟨g,a,c,b⟩ Z (post_val_or_str (m _ Z))
  |int j n=>exact wpAny_getItem_str_slice (l:=some (i,p)) (u:=some (j,n)) (st:=none) ⟨g,a,c,b⟩ Z (post_val_or_str (m _ Z))
def Qn(C:X.calm=true):CallR X (.builtin "all") (λxs H Q=>∃(p:Addr) (bs:List Bool),xs=[.ref p]/\SqL X.K H p (bs.map V.bl)/\Q (.bl (bs.all id)) H):=by
 intro a s σ H xs us Q I r h;obtain⟨p,bs,rfl,z,q⟩:=h;obtain⟨u,rfl,g⟩:=lG r;cases g;obtain⟨its,n,pl,hz⟩:=I.list z;have c:=n.length;rw[aR]at c;have j:p<s.heap.objs.size:=by obtain⟨_,e,_⟩:=pl.isList;exact z8 e
 refine call_all_walk (wpAny_pyIter_list pl.isList ?_);refine⟨s.heap.objs.size,_,_,_,_,_,λi=>bs.getD i true,Z,Walks.list (A:=X.A.in1) (I.ok.hd C) s.heap.objs.size p (qE j) its.toArray,⟨⟨_,z9 _ Z,Z,Z⟩,pl.isList.push _⟩,?_,?_⟩
 ·intro i v s' Q' E' y m
  have f:its[i]?=some v:=by simpa using y
  have hi:i<bs.length:=by
   have:=(dC f).1;omega
  obtain⟨u',e,g⟩:=n.get (i:=i) (x:=V.bl bs[i]) (by rw[dA,bV hi] <;> rfl);rw[f]at e;cases e;cases g;dsimp only at m;rw[List.getD_eq_getElem?_getD,bV hi]at m;exact wpAny_truthy_bool m
 ·intro h' tk w
  have I1:Inv X a σ H {s with heap:=s.heap.push {cls:=.type "list_iterator",data:=.fields #[.ref p,.int 0 0]}}:=I.kept (t':=s.toks) λb o e=>aT _ e;obtain⟨Y,U,f2,O,M,J⟩:=I.fpOk (b:=s.heap.objs.size) (zZ _) (I.hok.fresh (zZ _));have I2:Inv X a σ H {s with heap:=h',toks:=tk}:=I1.turned (λb o l e=>w b o (by simpa using l) e) Y U O M J;refine⟨.bl _,H,I2,Z,?_⟩
  have e:(List.range its.toArray.size).all (λi=>bs.getD i true)=bs.all id:=by
   rw[List.size_toArray,<- c];rw[Bool.eq_iff_iff];simp only[List.all_eq_true,List.mem_range,id];constructor
   ·intro h b l
    obtain⟨i,hi,e⟩:=List.mem_iff_getElem.mp l;have:=h i hi;rw[List.getD_eq_getElem?_getD,bV hi]at this;rw[<- e];exact this
   ·intro h i hi
    rw[List.getD_eq_getElem?_getD,bV hi];exact h _ (List.getElem_mem hi)
  rw[e];exact q
def gU:CallR X (.builtin "isinstance") (λxs H Q=>∃x y c t b,xs=[x,y]/\(∀u,RelV y u->u=c)/\TyOf X.K H x t/\PySem.W.kitOne X.K t c=some b/\Q (.bl b) H):=by
 intro a s σ H xs us Q I r h;obtain⟨x,y,c,t,b,rfl,l,f,e,q⟩:=h;obtain⟨u,v,rfl,j,g⟩:=r.two;obtain rfl:=l v g;exact Sf I j f e λtk=>⟨.bl b,H,I.tok tk,Z,q⟩
end
def SameBut(a:Addr)(H H':Hp):Prop:=∀b o,H b=some o->b≠a->H' b=some o
def SameBut.refl(a:Addr)(H:Hp):SameBut a H H:=λ_ _ h _=>h
theorem SameBut.trans{a:Addr}{H f c:Hp}(h:SameBut a H f)(k:SameBut a f c):SameBut a H c:=λb o e n=>k b o (h b o e n) n
theorem SameBut.upd(a:Addr)(H:Hp)(o:HO):SameBut a H (upd H a o):=λb u e n=>by rw[aG n];exact e
def Same.but{a:Addr}{H c:Hp}(h:Same H c):SameBut a H c:=λb o e _=>h b o e
def Same.new{H:Hp}{p:Addr}(h:H p=none)(o:HO):Same H (upd H p o):=λb u q=>by rw[aG (bN q h)];exact q
noncomputable def zA:=@Same.new
def hJ{H a:Hp}{p:Addr}(h:Same H a)(n:a p=none):H p=none:=by
 cases e:H p with
 |none=>rfl
 |some o=>rw[h p o e]at n;cases n
structure DefTx(K:Fg)(mg:Str->Option Value)(x:Str)(st:Stmt)(ps:List Str):Prop where
 ex:∃(f:Addr) (fd:FuncData),Fun K x x st f fd/\mg x=some (.ref f)/\∀us:List Value,us.length=ps.length->bindArgs fd ⟨us,[]⟩=pure (ps.zip us)
structure DefIs(P:Program)(w:World)(K:Fg)(mg:Str->Option Value)(base:Heap)(n:Nat)(x:Str)(ps:List Str)(sp:Sp):Prop where
 ex:∃(f:Addr) (fd:FuncData),FnOk P w K mg base CX0 n f fd ps sp/\Binds K fd ps []/\PySem.W.keepIn K (.ref f)=true/\mg x=some (.ref f)/\∃oc od osl,K.lookup f=some ⟨oc,od,.func fd,osl⟩
def vN{K:Fg}{x:Str}{st:Stmt}{f:Addr}{c:FuncData}(F:Fun K x x st f c):∃b od a,K.lookup f=some ⟨b,od,.func c,a⟩:=by
 obtain⟨b,od,kV,g,j,o,h,ct,a,_,l,_⟩:=F.ex;exact⟨b,od,a,l⟩
section
variable {P:Program}{w:World}{K:Fg}{mg:Str->Option Value}{base:Heap}{n m:Nat}{x:Str}{ps N:List Str}{sp:Sp}{st:Stmt}
theorem DefIs.mono(D:DefIs P w K a base n x ps sp)(h:n<=m):DefIs P w K a base m x ps sp:=by
 obtain⟨f,b,F,r⟩:=D.ex;exact⟨f,b,F.mono h,r⟩
theorem DefIs.imp{a:Sp}(D:DefIs P w K b base n x ps sp)(h:∀vs H Q E,a vs H Q E->sp vs H Q E):DefIs P w K b base n x ps a:=by
 obtain⟨f,c,F,r⟩:=D.ex;exact⟨f,c,F.imp h,r⟩
def DefIs.of (T:DefTx K g x st ps) (S:FnScope N ps (aY st)) (len:∀vs H Q E,sp vs H Q E->vs.length=ps.length)
  (c:∀(f:Addr) (a:Value) (A:Around) (outer:List Env) (s:Shared) (H:Hp) (vs:List V) (Q:VK) (E:XK),Room n (A.deeper (envOfC x (aY st) s.heap.objs.size f a))->sp vs H Q E->
   ∃t,PSs (cP CX0 P w K g base N x (aY st) f a A outer s H E).nox (iO st) t/\t {nx:=λ_ o=>Q .non o,rt:=Q} (eP N vs) H):DefIs P w K g base (n+1) x ps sp:=by
 obtain⟨f,l,F,m,b⟩:=T.ex;exact⟨f,l,F.ok S len (λa A outer s H vs Q E j h=>c f a A outer s H vs Q E j h),Binds.all b,F.kp,m,vN F⟩
theorem DefIs.none(T:DefTx K a x st ps)(no:∀vs H Q E,¬sp vs H Q E):DefIs P w K a base n x ps sp:=by
 obtain⟨f,c,F,m,b⟩:=T.ex;exact⟨f,c,⟨λvs H Q E h=>absurd h (no vs H Q E),λA outer s H args us vs Q E _ _ _ _ h=>absurd h (no vs H Q E)⟩,Binds.all b,F.kp,m,vN F⟩
end
section
variable {X:Cx}{n:Nat}{x:Str}{ps:List Str}{sp:Sp}{e:Expr}{es:List Expr}{p pos:Pos}{t:TA}
def pd (D:DefIs X.prog X.w X.K X.mg X.base n x ps sp) (g:Room n X.A) (l:PA X (e::es) t) (h:Gl X x:=by rfl) (c:(x == ("__debug__":Str))=false:=by decide)
  (j:starEach (e::es) X.env=(false,eval e X.env)::starEach es X.env:=by rfl) (a:(backTo pos (starEach es X.env)).any (·.1)=false:=by rfl):PE X (.Call (.Name x p) (e::es) [] pos) (xT sp [] E0 t):=by
 obtain⟨f,o,F,b,k,m,_⟩:=D.ex;exact Pd F g h m k b .nil De l c j a
def sF{i:Int}(hm:∃t,X.mg x=some (.int i t))(hg:Gl X x:=by rfl)(hd:(x == ("__debug__":Str))=false:=by decide):PE X (.Name x pos) (tC (.int i)):=by
 obtain⟨t,h⟩:=hm;exact yV hg h ⟨t,rfl⟩ hd
def F7{z:Str}(a:∃t,X.mg x=some (.str z t))(b:Gl X x:=by rfl)(hd:(x == ("__debug__":Str))=false:=by decide):PE X (.Name x pos) (tC (.str z)):=by
 obtain⟨t,h⟩:=a;exact yV b h ⟨t,Z⟩ hd
def sG{a:Addr}(b:X.mg x=some (.ref a))(c:Gl X x:=by rfl)(hd:(x == ("__debug__":Str))=false:=by decide):PE X (.Name x pos) (tC (.ref a)):=yV c b Z hd
def gP{T:String}(b:X.mg x=none)(a:bootBuiltins x=some (.type T))(c:Gl X x:=by rfl)(hn:x≠"__name__":=by decide)(hd:(x == ("__debug__":Str))=false:=by decide):PE X (.Name x pos) (tC (.ty T)):=Pc c b a Z hn hd
end
def Fed(a:Addr)(H H':Hp):Prop:=SameBut a H H'/\∃p q:Int,H' a=some (.lst [.int p,.int q])
theorem Fed.trans{a:Addr}{H c b:Hp}(h:Fed a H c)(k:Fed a c b):Fed a H b:=⟨h.1.trans k.1,k.2⟩
def Fed.of{a:Addr}{H:Hp}{p q:Int}:Fed a H (upd H a (.lst [.int p,.int q])):=⟨SameBut.upd a H _,p,q,aC⟩
theorem Fed.refl{a:Addr}{H:Hp}{p q:Int}(h:H a=some (.lst [.int p,.int q])):Fed a H H:=⟨SameBut.refl a H,p,q,h⟩
def Fed.new{a D:Addr}{H b:Hp}(h:Fed a H b)(n:b D=none)(o:HO):Fed a H (upd b D o):=by
 obtain⟨s,p,q,e⟩:=h;exact⟨s.trans (zA n o).but,p,q,zA n o _ _ e⟩
theorem Fed.same{a:Addr}{H c b:Hp}(h:Fed a H c)(s:Same c b):Fed a H b:=by
 obtain⟨k,p,q,e⟩:=h;exact⟨k.trans s.but,p,q,s _ _ e⟩
def Fed.back{a:Addr}{H H0 H':Hp}(n:H a=none)(s:Same H H0)(h:Fed a H0 H'):Same H H':=λb o e=>h.1 b o (s b o e) (bN e n)
def deftx_mk {K:Fg} {h:Heap} {y:Str->Option Value} (X:K.In h) (G:h.Ns mainGlobals y) {x:Str} {st:Stmt} {ps:List Str} {f:Addr} {z:Value} {od r:Option Addr} {u:Array (Option Value)} {kV j o g ct:Value}
  (a:PySem.W.nsIn K mainGlobals x=some (some (.ref f))) (l:K.lookup f=some ⟨z,od,.func (PySem.W.fnOf x x (oG st) (iO st) (aY st) .none kV j o r g ct),u⟩)
  (c:PySem.W.codeIn K g x=true) (k:PySem.W.keepIn K (.ref f)=true)
  (b:∀(kV j o:Value) (r:Option Addr) (g ct:Value) (us:List Value),us.length=ps.length->bindArgs (PySem.W.fnOf x x (oG st) (iO st) (aY st) .none kV j o r g ct) ⟨us,[]⟩=pure (ps.zip us)):DefTx K y x st ps:=by
 have F:=Ei (st:=st) l c k;exact⟨f,_,F,PySem.W.mg_of X G a,b kV j o r g ct⟩
def law_top {P:Program} {w:World} {K:Fg} {mg:Str->Option Value} {n:Nat} {x y:Str} {st:Stmt} {sp:Sp} {fa:Addr} (T:DefTx K mg x st [y]) (hmg:mg x=some (.ref fa)) (D:∀base,DefIs P w K mg base n x [y] sp) :
  ∃fd:FuncData,(∀(s:Shared) (u:Value),BindsTo s fd ⟨[u],[]⟩ [(y,u)])/\∀base:Heap,K.In base->base.Ns mainGlobals mg->FnOk P w K mg base CX0 n fa fd [y] sp:=by
 obtain⟨f,fd,F,m,b⟩:=T.ex;rw[hmg]at m;cases m;refine⟨fd,λs u=>.of_eq (b [u] rfl),λbase _ _=>?_⟩;obtain⟨f',fd',G,_,_,m',oc,od,osl,l⟩:=(D base).ex;rw[hmg]at m';cases m';obtain⟨oc2,od2,osl2,l2⟩:=vN F;rw[l]at l2;cases l2;exact G
def gint_mk{K:Fg}{h:Heap}{b:Str->Option Value}(X:K.In h)(G:h.Ns mainGlobals b){x:Str}{i:Int}{t:Tok}(a:PySem.W.nsIn K mainGlobals x=some (some (.int i t))):∃t,b x=some (.int i t):=⟨t,PySem.W.mg_of X G a⟩
def gstr_mk{K:Fg}{h:Heap}{b:Str->Option Value}(X:K.In h)(G:h.Ns mainGlobals b){x:Str}{i:Str}{t:Tok}(a:PySem.W.nsIn K mainGlobals x=some (some (.str i t))):∃t,b x=some (.str i t):=⟨t,PySem.W.mg_of X G a⟩
def gtup_mk {K:Fg} {h:Heap} {c:Str->Option Value} (X:K.In h) (G:h.Ns mainGlobals c) {x:Str} {p:Addr} {od:Option Addr} {its:Array Value} {n:Nat} {b:Array (Option Value)} {xs:List V}
  (a:PySem.W.nsIn K mainGlobals x=some (some (.ref p))) (l:K.lookup p=some ⟨.type "tuple",od,.seq its n,b⟩) (z:its.size<=sizeLine) (r:Vals xs its.toList):∃a,c x=some (.ref a)/\∀H,SqT K H a xs:=
 ⟨p,PySem.W.mg_of X G a,λ_=>.inr ⟨_,its,n,l,Z,Z,z,r⟩⟩
end L2
end
section
namespace Zt
open PySem
section
variable {prog:Program}{w:World}{A:Around}{E:Value->Shared->Prop}{s:Shared}
def wV {it l:Addr} {i:Nat} {items} {x:Value} {Q:Value->Shared->Prop} (a:s.heap.IsTupleIter it l i)
  (g:s.heap.IsTuple l items) (f:items[i]?=some x)
  (j:∀h',h'.IsTupleIter it l (i+1)->Heap.SameBut it s.heap h'->Q x {s with heap:=h'}) :
  wpAny (model prog w) A (Builtin.SmallTypes.nextOf (.ref it)) Q E s:=by
 obtain⟨o,b,h,hd⟩:=id a;obtain⟨m,c,_,p,e⟩:=g;unfold Builtin.SmallTypes.nextOf
 refine zX (wpAny_callSpecial?_slot (name:=Str.ofString "__next__") a.typeIs F.slot_tuple_iterator_next
  (wpAny_call_entry F.slot_tuple_iterator_next a.typeIs F.entry_tuple_iterator_next ?_ (F.args_tuple_iterator_next_1 _)))
 show wpAny _ _ (field (.ref it) 0 >>= _) _ _ s;refine zX (qN b hd (x:=.ref l) Z ?_);show wpAny _ _ (if (Value.ref l == Value.none)=true then _ else _) _ _ s;rw[if_neg (show ¬((Value.ref l == Value.none)=true) from qA)];show wpAny _ _ (field (.ref it) 1 >>= _) _ _ s;refine zX (qN b hd (x:=.int i 0) Z ?_);show wpAny _ _ (seqItems? (.ref l) >>= _) _ _ s;refine zX (wpAny_seqItems c e ?_);simp only[Int.toNat_natCast,f];refine zX (qY b hd (by simp) (z7 ⟨x,Z,z7 (j _ ?_ (Heap.SameBut.update ..))⟩))
 exact⟨_,Heap.get?_update_self _ b (Obj.isFreed_of_fields (Obj.data_mapFields hd _)),(Obj.cls_mapFields ..).trans h,by
  rw[Obj.data_mapFields hd];simp[rawInt]⟩
def Q8 {it l:Addr} {i:Nat} {items} {Q:Value->Shared->Prop} (h:A.handled=none)
  (b:s.heap.IsTupleIter it l i) (p:s.heap.IsTuple l items) (j:items[i]?=none)
  (r:∀h' e,Heap.ExtBut it s.heap h'->(∃o,h'.get? e=some o/\o.cls=.type "StopIteration")->E (.ref e) {s with heap:=h'}) :
  wpAny (model prog w) A (Builtin.SmallTypes.nextOf (.ref it)) Q E s:=by
 obtain⟨o,f,C,hd⟩:=id b;obtain⟨u,c,_,y,g⟩:=p;unfold Builtin.SmallTypes.nextOf
 refine zX (wpAny_callSpecial?_slot (name:=Str.ofString "__next__") b.typeIs F.slot_tuple_iterator_next
  (wpAny_call_entry F.slot_tuple_iterator_next b.typeIs F.entry_tuple_iterator_next ?_ (F.args_tuple_iterator_next_1 _)))
 show wpAny _ _ (field (.ref it) 0 >>= _) _ _ s;refine zX (qN f hd (x:=.ref l) Z ?_);show wpAny _ _ (if (Value.ref l == Value.none)=true then _ else _) _ _ s;rw[if_neg (show ¬((Value.ref l == Value.none)=true) from qA)];show wpAny _ _ (field (.ref it) 1 >>= _) _ _ s;refine zX (qN f hd (x:=.int i 0) Z ?_);show wpAny _ _ (seqItems? (.ref l) >>= _) _ _ s;refine zX (wpAny_seqItems c g ?_);simp only[Int.toNat_natCast,j];refine zX (wpAny_rule (zX (qY f hd (by simp) ?_)));show wpAny _ _ (newExc (.type "StopIteration") [] >>= _) _ _ _;refine zX ?_;simp only[newExc,newTuple];refine zX (wpAny_newObj_type ?_ (by size_fits));refine zX (m:=firstArgMember _ _) (wpAny_of_eq (a:=Value.none) (by first |rfl |(simp only[firstArgMember];rfl)) ?_);refine wpAny_newObj_type ?_ (by size_fits);simp only[raiseNew];refine zX (wpAny_handled ?_)
 first |rw[show A.in1.handled=none from h] |rw[h]
 refine zX (z7 (wpAny_throw ?_));exact r _ _ (((Heap.SameBut.update ..).extBut.push _).push _) ⟨_,z9 _ Z,Z⟩
abbrev mX(h:Heap)(z TI TO:Addr)(f0 f1:Value):Prop:=
 h.get? z=some {cls:=.type "zip",dict:=none,data:=.fields #[f0,f1,.bool false,.ref TI,.ref TO],slots:=#[]}
def vA(h:Heap)(z TI TO:Addr):Prop:=mX h z TI TO .none (.bool false)\/∃(T:Addr) (b:Bool) (o:Obj),mX h z TI TO (rawInt T) (.bool b)/\h.get? T=some o/\T≠z
structure Zs(h:Heap)(z TI TO i1 i2 l1 l2:Addr)(xs ys:Array Value)(k:Nat):Prop where
 zip:vA h z TI TO
 ti:IsPair h TI (.ref i1) (.ref i2)
 to:∃a b,IsPair h TO a b
 it1:h.IsTupleIter i1 l1 k
 it2:h.IsTupleIter i2 l2 k
 t1:h.IsTuple l1 xs
 t2:h.IsTuple l2 ys
structure Nx(prog:Program)(w:World)(it l:Addr)(xs:Array Value)(P:Heap->Nat->Prop):Prop where
 item:∀{A:Around} {E:Value->Shared->Prop} {s:Shared} {Q:Value->Shared->Prop} {i:Nat} {x:Value},P s.heap i->xs[i]?=some x->(∀h',P h' (i+1)->Heap.SameBut it s.heap h'->Q x {s with heap:=h'})->wpAny (model prog w) A (Builtin.SmallTypes.nextOf (.ref it)) Q E s
 last:∀{A:Around} {E:Value->Shared->Prop} {s:Shared} {Q:Value->Shared->Prop} {i:Nat},A.handled=none->P s.heap i->xs[i]?=none->(∀h' e,Heap.ExtBut it s.heap h'->(∃o,h'.get? e=some o/\o.cls=.type "StopIteration")->E (.ref e) {s with heap:=h'})->wpAny (model prog w) A (Builtin.SmallTypes.nextOf (.ref it)) Q E s
 kept:∀{h h':Heap} {i:Nat},P h i->(∀o,h.get? it=some o->h'.get? it=some o)->(∀o,h.get? l=some o->h'.get? l=some o)->P h' i
 there:∀{h:Heap} {i:Nat},P h i->∃o,h.get? it=some o
def Nx.ext{it l a:Addr}{xs:Array Value}{P:Heap->Nat->Prop}(N:Nx prog w it l xs P){h h':Heap}{i:Nat}(p:P h i)(e:Heap.ExtBut a h h')(c:it≠a)(b:l≠a):P h' i:=N.kept p (λo q=>e _ _ c q) λo q=>e _ _ b q
structure Zg(P1:Heap->Nat->Prop)(h:Heap)(z TI TO i1 i2 l2:Addr)(ys:Array Value)(k:Nat):Prop where
 zip:vA h z TI TO
 ti:IsPair h TI (.ref i1) (.ref i2)
 to:∃a b,IsPair h TO a b
 p1:P1 h k
 it2:h.IsTupleIter i2 l2 k
 t2:h.IsTuple l2 ys
def Lv {P1:Heap->Nat->Prop} {z TI TO i1 C l1 l2:Addr} {k1 k2:Nat} {xs ys:Array Value} {x y a b:Value} {Q:Value->Shared->Prop} (D:ZipApart z TI TO i1 C l1 l2)
  (hz:IsZip s.heap z TI TO .none) (a8:IsPair s.heap TI (.ref i1) (.ref C)) (a7:IsPair s.heap TO a b)
  (N1:Nx prog w i1 l1 xs P1) (h1:P1 s.heap k1) (h2:s.heap.IsTupleIter C l2 k2) (a5:s.heap.IsTuple l2 ys) (hx:xs[k1]?=some x) (hy:ys[k2]?=some y)
  (hQ:∀h',IsZip h' z TI TO (rawInt s.heap.objs.size)->IsPair h' TO x y->P1 h' (k1+1)->h'.IsTupleIter C l2 (k2+1)->IsPair h' s.heap.objs.size x y->h'.objs.size=s.heap.objs.size+1->
   (∀c o,c≠z->c≠TO->c≠i1->c≠C->s.heap.get? c=some o->h'.get? c=some o)->Q (.ref s.heap.objs.size) {s with heap:=h'}) :
  wpAny (model prog w) A (Builtin.«zip.__next__» ⟨[.ref z],[]⟩) (λfin s'=>∃v,fin=.done (.ret v)/\Q v s') E s:=by
 show wpAny _ _ (field (.ref z) 2 >>= _) _ _ _;refine zX (qN hz Z (x:=.bool false) Z ?_);show wpAny _ _ (field (.ref z) 3 >>= _) _ _ _;refine zX (qN hz Z (x:=.ref TI) Z ?_);refine zX (wpAny_seqItems a8 Z ?_);show wpAny _ _ (Builtin.SmallTypes.ownedTupleIsFree (.ref z) >>= _) _ _ _;refine zX ?_;unfold Builtin.SmallTypes.ownedTupleIsFree;refine zX (qN hz Z (x:=.none) Z (z7 ?_));simp only[if_true];refine zX (wpAny_rule ?_);refine zX (qN hz Z (x:=.ref TO) Z ?_);refine zX (wpAny_setField_rec hz (by simp) λh₁ U l=>?_)
 replace U:IsZip h₁ z TI TO .ellipsis:=U
 refine zX ?_;simp only[List.zipIdx_cons,List.zipIdx_nil,List.forIn_cons,List.forIn_nil];refine zX (zX (wpAny_onRaise ?_));show wpAny _ _ (Builtin.SmallTypes.nextOf (.ref i1) >>= _) _ _ _;refine zX (N1.item (N1.ext h1 l.extBut D.i1z D.l1z) hx λh₂ ac j=>z7 ?_);have M:IsPair h₂ TO a b:=j.extBut _ _ D.TOi1 (l.extBut _ _ D.TOz a7);refine zX (wpAny_seqItems M Z ?_);refine zX (wpAny_updateSeq_pair M λh₃ r h=>?_)
 replace r:IsPair h₃ TO x b:=r
 refine zX (wpAny_letGo (z7 ?_));refine zX (zX (wpAny_onRaise ?_));show wpAny _ _ (Builtin.SmallTypes.nextOf (.ref C) >>= _) _ _ _
 refine zX (wV (((h2.extBut l.extBut D.i2z).extBut j.extBut D.i12.symm).extBut h.extBut D.TOi2.symm)
  (((a5.extBut l.extBut D.l2z).extBut j.extBut D.l2i1).extBut h.extBut D.l2TO) hy λh₄ aa p=>z7 ?_)
 have J:IsPair h₄ TO x b:=p.extBut _ _ D.TOi2 r;refine zX (wpAny_seqItems J Z ?_);refine zX (wpAny_updateSeq_pair J λf g m=>?_)
 replace g:IsPair f TO x y:=g
 refine zX (wpAny_letGo (z7 (z7 ?_)));refine zX (wpAny_seqItems g Z ?_);refine zX (wpAny_newTuple ?_);have hsz:f.objs.size=s.heap.objs.size:=by rw[m.1,p.1,h.1,j.1,l.1]
 have a1:IsZip f z TI TO .ellipsis:=m.extBut _ _ D.TOz.symm (p.extBut _ _ D.i2z.symm (h.extBut _ _ D.TOz.symm (j.extBut _ _ D.i1z.symm U)))
 have a6:∀c o,c≠z->c≠TO->c≠i1->c≠C->s.heap.get? c=some o->f.get? c=some o:=λc o c1 c2 c3 c4 e=>
  m.extBut _ _ c2 (p.extBut _ _ c4 (h.extBut _ _ c2 (j.extBut _ _ c3 (l.extBut _ _ c1 e))))
 have ab:P1 f (k1+1):=N1.ext (N1.ext (N1.ext ac h.extBut D.TOi1.symm D.l1TO) p.extBut D.i12 D.l1i2) m.extBut D.TOi1.symm D.l1TO;have a9:f.IsTupleIter C l2 (k2+1):=aa.extBut m.extBut D.TOi2.symm;have I:z<f.objs.size:=z8 a1;show wpAny _ _ (Builtin.SmallTypes.ownedTupleHandOut (.ref z) (.ref f.objs.size) >>= _) _ _ _;refine zX ?_;unfold Builtin.SmallTypes.ownedTupleHandOut;have a4:IsZip (f.push {cls:=.type "tuple",data:=.seq #[x,y]}) z TI TO .ellipsis:=aT _ a1;refine zX (wpAny_setField_rec a4 (by simp) λh₇ O a0=>?_)
 replace O:IsZip h₇ z TI TO (rawInt f.objs.size):=O
 refine wpAny_setField_rec O (by simp) λh₈ u Y=>?_
 replace u:IsZip h₈ z TI TO (rawInt f.objs.size):=u
 have up:∀c o,c≠z->f.get? c=some o->h₈.get? c=some o:=λc o c1 e=>Y.extBut _ _ c1 (a0.extBut _ _ c1 (aT _ e));have a3:IsPair h₈ f.objs.size x y:=Y.extBut _ _ (Nat.ne_of_gt I) (a0.extBut _ _ (Nat.ne_of_gt I) (z9 _ Z));have a2:h₈.objs.size=f.objs.size+1:=by rw[Y.1,a0.1,Heap.size_push]
 rw[hsz]at u a3 a2;refine z7 ⟨_,Z,?_⟩;show Q (.ref f.objs.size) _;rw[hsz];exact hQ h₈ u (up _ _ D.TOz g) (N1.kept ab (λo e=>up _ o D.i1z e) λo e=>up _ o D.l1z e) (a9.at λo e=>up _ o D.i2z e) a3 a2 λc o c1 c2 c3 c4 e=>up c o c1 (a6 c o c1 c2 c3 c4 e)
def D7{a:Addr}{o:Obj}{Q:Option Obj->Shared->Prop}(b:s.heap.get? a=some o)(h:Q (some o) s):wpAny (model prog w) A (loadIfAlive a) Q E s:=by
 intro Γ p c;unfold loadIfAlive
 first
  |(rw[Sem.wp_loadIfAlive,b];exact h)
  |(simp only[Sem.wp_loadIfAlive,b];exact h)
def Lu {Y:Heap->Nat->Prop} {z TI TO J j l1 l2 T:Addr} {M k2:Nat} {xs ys:Array Value} {x y:Value} {bb:Bool} {oT:Obj} {Q:Value->Shared->Prop} (D:ZipApart z TI TO J j l1 l2)
  (hz:mX s.heap z TI TO (rawInt T) (.bool bb)) (hT:s.heap.get? T=some oT) (a1:IsPair s.heap TI (.ref J) (.ref j))
  (I:Nx prog w J l1 xs Y) (h1:Y s.heap M) (h2:s.heap.IsTupleIter j l2 k2) (O:s.heap.IsTuple l2 ys) (hx:xs[M]?=some x) (hy:ys[k2]?=some y)
  (hQ:∀h',mX h' z TI TO (rawInt T) (.bool true)->Y h' (M+1)->h'.IsTupleIter j l2 (k2+1)->IsPair h' s.heap.objs.size x y->h'.objs.size=s.heap.objs.size+1->
   (∀c o,c≠z->c≠J->c≠j->s.heap.get? c=some o->h'.get? c=some o)->Q (.ref s.heap.objs.size) {s with heap:=h'}) :
  wpAny (model prog w) A (Builtin.«zip.__next__» ⟨[.ref z],[]⟩) (λfin s'=>∃v,fin=.done (.ret v)/\Q v s') E s:=by
 show wpAny _ _ (field (.ref z) 2 >>= _) _ _ _;refine zX (qN hz Z (x:=.bool false) Z ?_);show wpAny _ _ (field (.ref z) 3 >>= _) _ _ _;refine zX (qN hz Z (x:=.ref TI) Z ?_);refine zX (wpAny_seqItems a1 Z ?_);show wpAny _ _ (Builtin.SmallTypes.ownedTupleIsFree (.ref z) >>= _) _ _ _;refine zX ?_;unfold Builtin.SmallTypes.ownedTupleIsFree;refine zX (qN hz Z (x:=rawInt T) Z ?_);show wpAny _ _ (loadIfAlive ((T:Int).toNat) >>= _) _ _ _;rw[Int.toNat_natCast];refine zX (D7 hT ?_);simp only[Option.isNone_some,Bool.false_eq_true,if_false];refine zX (qN hz Z (x:=.bool bb) Z ?_)
 cases bb with
 | true=>
  have gz:mX s.heap z TI TO (rawInt T) (.bool true):=hz;have g1:=h1;have g2:=h2;have C:=O;have u:s.heap.objs.size=s.heap.objs.size:=Z;have gk:∀c o,c≠z->s.heap.get? c=some o->s.heap.get? c=some o:=λ_ _ _ e=>e;simp only[bne_self_eq_false,Bool.false_eq_true,if_false];refine z7 ?_;simp only[Bool.false_eq_true,if_false,List.forIn_toArray,List.forIn_cons,List.forIn_nil];refine zX (zX (zX (qO ?_)));show wpAny _ _ (Builtin.SmallTypes.nextOf (.ref J) >>= _) _ _ _;refine zX (I.item g1 hx λh₂ r a=>z7 (z7 ?_));refine zX (zX (qO ?_));show wpAny _ _ (Builtin.SmallTypes.nextOf (.ref j) >>= _) _ _ _;refine zX (wV (g2.extBut a.extBut D.i12.symm) (C.extBut a.extBut D.l2i1) hy λf m b=>z7 (z7 ?_));refine z7 ?_;refine zX (wpAny_newTuple ?_ (by walk_at"s"));have hsz:f.objs.size=s.heap.objs.size:=(b.1.trans a.1).trans u;have l:mX f z TI TO (rawInt T) (.bool true):=b.extBut _ _ D.i2z.symm (a.extBut _ _ D.i1z.symm gz);have p:Y f (M+1):=I.ext r b.extBut D.i12 D.l1i2;refine z7 ⟨_,Z,?_⟩;show Q (.ref f.objs.size) _;have U:IsPair (f.push {cls:=.type "tuple",data:=.seq #[x,y]}) f.objs.size x y:=z9 _ Z;have g:(f.push {cls:=.type "tuple",data:=.seq #[x,y]}).objs.size=f.objs.size+1:=Heap.size_push ..;rw[hsz]at U g⊢
  exact hQ _ (aT _ l) (I.kept p (λo e=>aT _ e) λo e=>aT _ e) (m.at λo e=>aT _ e) U g λc o c1 c2 c3 e=>
   aT _ (b.extBut _ _ c3 (a.extBut _ _ c2 (gk c o c1 e)))
 | false=>
  rw[if_pos (by rfl)];refine zX (wpAny_setField_rec hz (by simp) λh₁ a0 h=>?_);have gz:mX h₁ z TI TO (rawInt T) (.bool true):=a0;have g1:=I.ext h1 h.extBut D.i1z D.l1z;have g2:=h2.extBut h.extBut D.i2z;have C:=O.extBut h.extBut D.l2z;have u:h₁.objs.size=s.heap.objs.size:=h.1;have gk:∀c o,c≠z->s.heap.get? c=some o->h₁.get? c=some o:=λc o n e=>h.extBut _ _ n e;refine z7 ?_;simp only[Bool.false_eq_true,if_false,List.forIn_toArray,List.forIn_cons,List.forIn_nil];refine zX (zX (zX (qO ?_)));show wpAny _ _ (Builtin.SmallTypes.nextOf (.ref J) >>= _) _ _ _;refine zX (I.item g1 hx λh₂ r a=>z7 (z7 ?_));refine zX (zX (qO ?_));show wpAny _ _ (Builtin.SmallTypes.nextOf (.ref j) >>= _) _ _ _;refine zX (wV (g2.extBut a.extBut D.i12.symm) (C.extBut a.extBut D.l2i1) hy λf m b=>z7 (z7 ?_));refine z7 ?_;refine zX (wpAny_newTuple ?_ (by walk_at"s"));have hsz:f.objs.size=s.heap.objs.size:=(b.1.trans a.1).trans u;have l:mX f z TI TO (rawInt T) (.bool true):=b.extBut _ _ D.i2z.symm (a.extBut _ _ D.i1z.symm gz);have p:Y f (M+1):=I.ext r b.extBut D.i12 D.l1i2;refine z7 ⟨_,Z,?_⟩;show Q (.ref f.objs.size) _;have U:IsPair (f.push {cls:=.type "tuple",data:=.seq #[x,y]}) f.objs.size x y:=z9 _ Z;have g:(f.push {cls:=.type "tuple",data:=.seq #[x,y]}).objs.size=f.objs.size+1:=Heap.size_push ..;rw[hsz]at U g⊢
  exact hQ _ (aT _ l) (I.kept p (λo e=>aT _ e) λo e=>aT _ e) (m.at λo e=>aT _ e) U g λc o c1 c2 c3 e=>
   aT _ (b.extBut _ _ c3 (a.extBut _ _ c2 (gk c o c1 e)))
def L7 {P1:Heap->Nat->Prop} {z TI TO j i2 l1 l2:Addr} {k:Nat} {xs ys:Array Value} {Q:Fin->Shared->Prop} (U:A.handled=none) (D:ZipApart z TI TO j i2 l1 l2) (M:Nx prog w j l1 xs P1) (S:Zg P1 s.heap z TI TO j i2 l2 ys k) (O:xs[k]?=none)
  (hE:∀h' e,(∀c o,c≠z->c≠j->s.heap.get? c=some o->h'.get? c=some o)->(∃o,h'.get? e=some o/\o.cls=.type "StopIteration")->E (.ref e) {s with heap:=h'}) :
  wpAny (model prog w) A (Builtin.«zip.__next__» ⟨[.ref z],[]⟩) Q E s:=by
 obtain⟨hz,C,⟨a,b,a2⟩,h1,h2,a0⟩:=S;rcases hz with hz |⟨T,bb,oT,hz,hT,a1⟩
 ·show wpAny _ _ (field (.ref z) 2 >>= _) _ _ _
  refine zX (qN hz Z (x:=.bool false) Z ?_);show wpAny _ _ (field (.ref z) 3 >>= _) _ _ _;refine zX (qN hz Z (x:=.ref TI) Z ?_);refine zX (wpAny_seqItems C Z ?_);show wpAny _ _ (Builtin.SmallTypes.ownedTupleIsFree (.ref z) >>= _) _ _ _;refine zX ?_;unfold Builtin.SmallTypes.ownedTupleIsFree;refine zX (qN hz Z (x:=.none) Z (z7 ?_));simp only[if_true];refine zX (wpAny_rule ?_);refine zX (qN hz Z (x:=.ref TO) Z ?_);refine zX (wpAny_setField_rec hz (by simp) λh₁ h g=>?_)
  replace h:IsZip h₁ z TI TO .ellipsis:=h
  refine zX ?_;simp only[List.zipIdx_cons,List.zipIdx_nil,List.forIn_cons,List.forIn_nil];refine zX (zX (wpAny_onRaise ?_));show wpAny _ _ (Builtin.SmallTypes.nextOf (.ref j) >>= _) _ _ _;refine zX (M.last U (M.ext h1 g.extBut D.i1z D.l1z) O λm e f u=>?_);obtain⟨oe,l,y⟩:=u;have p:IsZip m z TI TO .ellipsis:=f _ _ D.i1z.symm h;have Y:e≠z:=λx=>by subst x;rw[p]at l;cases l;simp at y
  refine wpAny_setField_rec p (by simp) λh₃ _ r=>hE h₃ e (λc o J I x=>r.extBut _ _ J (f _ _ I (g.extBut _ _ J x))) ⟨oe,r.extBut _ _ Y l,y⟩
 ·show wpAny _ _ (field (.ref z) 2 >>= _) _ _ _
  refine zX (qN hz Z (x:=.bool false) Z ?_);show wpAny _ _ (field (.ref z) 3 >>= _) _ _ _;refine zX (qN hz Z (x:=.ref TI) Z ?_);refine zX (wpAny_seqItems C Z ?_);show wpAny _ _ (Builtin.SmallTypes.ownedTupleIsFree (.ref z) >>= _) _ _ _;refine zX ?_;unfold Builtin.SmallTypes.ownedTupleIsFree;refine zX (qN hz Z (x:=rawInt T) Z ?_);show wpAny _ _ (loadIfAlive ((T:Int).toNat) >>= _) _ _ _;rw[Int.toNat_natCast];refine zX (D7 hT ?_);simp only[Option.isNone_some,Bool.false_eq_true,if_false];refine zX (qN hz Z (x:=.bool bb) Z ?_)
  cases bb with
  |true=>
   simp only[bne_self_eq_false,Bool.false_eq_true,if_false];refine z7 ?_;simp only[Bool.false_eq_true,if_false,List.forIn_toArray,List.forIn_cons,List.forIn_nil];refine zX (zX (zX (qO ?_)));show wpAny _ _ (Builtin.SmallTypes.nextOf (.ref j) >>= _) _ _ _;exact zX (M.last U h1 O λm e f u=>hE m e (λc o J I x=>f _ _ I x) u)
  |false=>
   rw[if_pos (by rfl)];refine zX (wpAny_setField_rec hz (by simp) λh₁ h g=>?_);refine z7 ?_;simp only[Bool.false_eq_true,if_false,List.forIn_toArray,List.forIn_cons,List.forIn_nil];refine zX (zX (zX (qO ?_)));show wpAny _ _ (Builtin.SmallTypes.nextOf (.ref j) >>= _) _ _ _;exact zX (M.last U (M.ext h1 g.extBut D.i1z D.l1z) O λm e f u=>hE m e (λc o J I x=>f _ _ I (g.extBut _ _ J x)) u)
def L8 {P1:Heap->Nat->Prop} {z TI TO j m J l:Addr} {k:Nat} {xs ys:Array Value} {x y:Value} {Q:Option Value->Shared->Prop} (D:ZipApart z TI TO j m J l) (aa:J<s.heap.objs.size/\l<s.heap.objs.size) (N1:Nx prog w j J xs P1) (S:Zg P1 s.heap z TI TO j m l ys k)
  (p:J≠TO/\l≠TO) (hx:xs[k]?=some x) (hy:ys[k]?=some y)
  (hQ:∀h',Zg P1 h' z TI TO j m l ys (k+1)->IsPair h' s.heap.objs.size x y->h'.objs.size=s.heap.objs.size+1->
   (∀c o,c≠z->c≠TO->c≠j->c≠m->s.heap.get? c=some o->h'.get? c=some o)->Q (some (.ref s.heap.objs.size)) {s with heap:=h'}) :
  wpAny (model prog w) A (pyNext (.ref z)) Q E s:=by
 have⟨hz,g,⟨a,b,I⟩,h1,h2,f⟩:=S
 have M:s.TypeIs (.ref z) "zip":=by
  rcases hz with hz |⟨T,bb,oT,hz,_⟩ <;> exact⟨_,hz,Z⟩
 have a0:z<s.heap.objs.size:=by
  rcases hz with hz |⟨T,bb,oT,hz,_⟩ <;> exact z8 hz
 unfold pyNext;rcases hz with hz |⟨T,bb,oT,hz,C,r⟩
 ·refine zX (wpAny_attempt (wpAny_callSpecial?_slot (name:=Str.ofString "__next__") M F.slot_zip_next
   (wpAny_call_entry F.slot_zip_next M F.entry_zip_next
    (Lv D hz g I N1 h1 h2 f hx hy λh' a1 a2 Y U O a6 h=>z7 (hQ h' ?_ O a6 h)) (F.args_zip_next_1 _))))
  refine⟨.inr ⟨_,_,_,a1,O,Nat.ne_of_gt a0⟩,h _ _ D.TIz D.TITO D.TIi1 D.TIi2 g,⟨_,_,a2⟩,Y,U,f.at λo e=>h _ o D.l2z p.2 D.l2i1 D.l2i2 e⟩
 ·refine zX (wpAny_attempt (wpAny_callSpecial?_slot (name:=Str.ofString "__next__") M F.slot_zip_next
   (wpAny_call_entry F.slot_zip_next M F.entry_zip_next
    (Lu D hz C g N1 h1 h2 f hx hy λh' a1 Y U O a6 h=>z7 (hQ h' ?_ O a6 λc o c1 _ c3 c4 e=>h c o c1 c3 c4 e)) (F.args_zip_next_1 _))))
  have a8:∃o,h'.get? T=some o:=by
   by_cases e1:T=j
   ·subst e1;exact N1.there Y
   ·by_cases e2:T=m
    ·subst e2;obtain⟨o,e,_⟩:=U;exact⟨o,e⟩
    ·exact⟨_,h _ _ r e1 e2 C⟩
  obtain⟨a9,u⟩:=a8;refine⟨.inr ⟨_,_,_,a1,u,r⟩,h _ _ D.TIz D.TIi1 D.TIi2 g,⟨_,_,h _ _ D.TOz D.TOi1 D.TOi2 I⟩,Y,U,f.at λo e=>h _ o D.l2z D.l2i1 D.l2i2 e⟩
def Ck {l:Heap->Nat->Prop} {z TI TO a h g f:Addr} {k:Nat} {xs ys:Array Value} {Q:Option Value->Shared->Prop} (u:A.handled=none) (D:ZipApart z TI TO a h g f) (I:Nx prog w a g xs l) (S:Zg l s.heap z TI TO a h f ys k) (m:xs[k]?=none)
  (C:∀h',(∀c o,c≠z->c≠a->s.heap.get? c=some o->h'.get? c=some o)->Q none {s with heap:=h'}):wpAny (model prog w) A (pyNext (.ref z)) Q E s:=by
 have j:s.TypeIs (.ref z) "zip":=by
  rcases S.zip with hz |⟨T,M,J,hz,_⟩ <;> exact⟨_,hz,Z⟩
 unfold pyNext
 refine zX (wpAny_attempt (wpAny_callSpecial?_slot (name:=Str.ofString "__next__") j F.slot_zip_next
  (wpAny_call_entry F.slot_zip_next j F.entry_zip_next (L7 u D I S m λh' e r x=>?_) (F.args_zip_next_1 _))))
 obtain⟨o,p,y⟩:=x;refine zX (wpAny_isInstance (T:="StopIteration") (b:=true) ⟨o,p,y⟩ isSubtype_stop ?_);exact z7 (C _ r)
def L1{it l:Addr}{xs:Array Value}(f:l≠it):Nx prog w it l xs λh k=>h.IsTupleIter it l k/\h.IsTuple l xs where
 item:=λp c j=>wV p.1 p.2 c λh' a s=>j h' ⟨a,p.2.extBut s.extBut f⟩ s
 last:=λg p c m=>Q8 g p.1 p.2 c m
 kept:=λp a b=>⟨p.1.at a,p.2.at b⟩
 there:=λp=>by obtain⟨o,e,_⟩:=p.1;exact⟨o,e⟩
def Vi {z TI TO g f b a:Addr} {k:Nat} {xs ys:Array Value} {x y:Value} {Q:Option Value->Shared->Prop} (D:ZipApart z TI TO g f b a) (h:b<s.heap.objs.size/\a<s.heap.objs.size) (S:Zs s.heap z TI TO g f b a xs ys k)
  (e:b≠TO/\a≠TO) (l:xs[k]?=some x) (j:ys[k]?=some y)
  (m:∀h',Zs h' z TI TO g f b a xs ys (k+1)->IsPair h' s.heap.objs.size x y->h'.objs.size=s.heap.objs.size+1->
   (∀c o,c≠z->c≠TO->c≠g->c≠f->s.heap.get? c=some o->h'.get? c=some o)->Q (some (.ref s.heap.objs.size)) {s with heap:=h'}) :
  wpAny (model prog w) A (pyNext (.ref z)) Q E s:=L8 D h (L1 D.l1i1) ⟨S.zip,S.ti,S.to,⟨S.it1,S.t1⟩,S.it2,S.t2⟩ e l j λh' Z u r p=>m h' ⟨Z.zip,Z.ti,Z.to,Z.p1.1,Z.it2,Z.p1.2,Z.t2⟩ u r p
def V4 {z TI TO a f e b:Addr} {k:Nat} {xs ys:Array Value} {Q:Option Value->Shared->Prop} (h:A.handled=none) (D:ZipApart z TI TO a f e b) (S:Zs s.heap z TI TO a f e b xs ys k) (g:xs[k]?=none)
  (j:∀h',(∀c o,c≠z->c≠a->s.heap.get? c=some o->h'.get? c=some o)->Q none {s with heap:=h'}):wpAny (model prog w) A (pyNext (.ref z)) Q E s:=Ck h D (L1 D.l1i1) ⟨S.zip,S.ti,S.to,⟨S.it1,S.t1⟩,S.it2,S.t2⟩ g j
end
structure Got(h:Heap)(B:Nat)(bad:List Addr)(acc:Array Value)(xs ys:Array Value)(i:Nat)(Ts:List Addr):Prop where
 acc:acc.toList=Ts.map Value.ref
 len:Ts.length=i
 nodup:Ts.Nodup
 lt:∀T∈Ts,B<=T/\T<h.objs.size/\T ∉bad
 pair:∀(j:Nat) T x y,Ts[j]?=some T->xs[j]?=some x->ys[j]?=some y->IsPair h T x y
def Got.keep{h h':Heap}{B:Nat}{bad:List Addr}{acc xs ys:Array Value}{i:Nat}{Ts:List Addr}(g:Got h B bad acc xs ys i Ts)(hs:h.objs.size<=h'.objs.size)(k:∀b o,b ∉bad->h.get? b=some o->h'.get? b=some o):Got h' B bad acc xs ys i Ts:=
 ⟨g.acc,g.len,g.nodup,λT a=>⟨(g.lt T a).1,qF (g.lt T a).2.1 hs,(g.lt T a).2.2⟩,λj T x y c f e=>k _ _ (g.lt T (cZ c)).2.2 (g.pair j T x y c f e)⟩
def Got.more {h:Heap} {B:Nat} {bad:List Addr} {acc xs ys:Array Value} {i:Nat} {Ts:List Addr} {T:Addr} {x y:Value} (g:Got h B bad acc xs ys i Ts) (J:B<=T/\T<h.objs.size/\T ∉bad) (hn:T ∉Ts) (p:IsPair h T x y) (r:xs[i]?=some x) (o:ys[i]?=some y) :
  Got h B bad (acc.push (.ref T)) xs ys (i+1) (Ts++[T]) where
 acc:=by rw[Array.toList_push,g.acc,dG];rfl
 len:=by rw[bK,g.len];rfl
 nodup:=List.nodup_append.mpr ⟨g.nodup,by simp,λa I b C=>by rw[eG C];rintro rfl;exact hn I⟩
 lt:=λU e=>by
  rcases eA e with e |e
  ·exact g.lt U e
  ·rw[eG e];exact J
 pair:=λj U a b c m l=>by
  by_cases u:j<Ts.length
  ·rw[List.getElem?_append_left u]at c
   exact g.pair j U a b c m l
  ·have M:=g.len
   rw[List.getElem?_append_right (by omega)]at c
   have:j-Ts.length=0:=by
    by_cases h0:j-Ts.length=0
    ·exact h0
    ·rw[List.getElem?_eq_none (by simp;omega)]at c;cases c
   have f:j=i:=by omega
   subst f;rw[this]at c;simp at c;subst c;rw[r]at m;rw[o]at l;cases m;cases l;exact p
section
variable {prog:Program}{w:World}{A:Around}{R:Result->Shared->Prop}{S z TI TO i1 i2 l1 l2:Addr}{xs ys:Array Value}{n B:Nat}
def Zs.keep{h h':Heap}{k:Nat}(Z:Zs h z TI TO C y x u xs ys k)(e:∀b o,b≠S->h.get? b=some o->h'.get? b=some o)(hS:z≠S/\TI≠S/\TO≠S/\C≠S/\y≠S/\x≠S/\u≠S)(r:∃o,h'.get? S=some o):Zs h' z TI TO C y x u xs ys k:=by
 obtain⟨hz,p,⟨a,b,m⟩,h1,h2,l,j⟩:=Z;obtain⟨g,s2,Y,U,O,M,J⟩:=hS;refine⟨?_,e _ _ s2 p,⟨a,b,e _ _ Y m⟩,h1.at λo q=>e _ o U q,h2.at λo q=>e _ o O q,l.at λo q=>e _ o M q,j.at λo q=>e _ o J q⟩;rcases hz with hz |⟨T,I,oT,hz,hT,c⟩
 ·exact .inl (e _ _ g hz)
 ·by_cases f:T=S
  ·obtain⟨o,ho⟩:=r
   exact .inr ⟨T,I,o,e _ _ g hz,by rw[f];exact ho,c⟩
  ·exact .inr ⟨T,I,oT,e _ _ g hz,e _ _ f hT,c⟩
theorem loop (hh:A.handled=none) (D:ZipApart z TI TO u r l1 l2) (ab:l1≠TO/\l2≠TO) (O:z≠S/\TI≠S/\TO≠S/\u≠S/\r≠S/\l1≠S/\l2≠S) (ai:xs.size=n) (ah:ys.size=n) (hn:n<=sizeLine) (res:Value) :
  ∀(k i:Nat) (s:Shared) (acc:Array Value) (c:Nat) (Ts:List Addr),n-i=k->i<=n->B<=s.heap.objs.size->Zs s.heap z TI TO u r l1 l2 xs ys i->s.heap.get? S=some {cls:=.type "list",dict:=none,data:=.seq acc c,slots:=#[]}->
  Got s.heap B [S,z,TO,u,r] acc xs ys i Ts->
  (∀h' h c' U,(∀b o,b ∉ [S,z,TO,u,r]->s.heap.get? b=some o->h'.get? b=some o)->h'.get? S=some {cls:=.type "list",dict:=none,data:=.seq h c',slots:=#[]}->Got h' B [S,z,TO,u,r] h xs ys n U->R (.ok (.ret res)) {s with heap:=h'})->
  codeAny (model prog w) A (.builtin "list.extend.loop" ⟨[.ref S,.ref z,res],[]⟩) R s:=by
 intro k
 induction k with
 | zero=>
  intro i s acc c Ts hk hi hB l C f hR;have ac:i=n:=by omega
  subst ac;refine codeAny_builtin F.entry_extend_loop ?_;rw[Around.under_plainId F.plain_extend_loop _];show wpAny _ A.in1 (pyNext (.ref z) >>= _) _ _ s;have a7:s.heap.objs.size<=s.heap.objs.size:=zZ _;refine zX (V4 (A:=A.in1) hh D l (by rw[Array.getElem?_eq_none];omega) λh' hm=>?_);have m:∀b o,b ∉ [S,z,TO,u,r]->s.heap.get? b=some o->h'.get? b=some o:=λb o g e=>hm b o (λq=>g (by simp[q])) (λq=>g (by simp[q])) e
  have hsz:∀T∈Ts,T<h'.objs.size:=λT I=>by
   obtain⟨j,hj⟩:=List.getElem?_of_mem I;have al:j<Ts.length:=(dC hj).1;have hl:=f.len;have p:=f.pair j T xs[j] ys[j] hj (by simp[show j<xs.size by omega]) (by simp[show j<ys.size by omega]);exact z8 (m _ _ (f.lt T I).2.2 p)
  exact z7 (hR h' acc c Ts m (hm S _ O.1.symm O.2.2.2.1.symm C) ⟨f.acc,f.len,f.nodup,λT I=>⟨(f.lt T I).1,hsz T I,(f.lt T I).2.2⟩,λj T x y e1 e2 e3=>m _ _ (f.lt T (cZ e1)).2.2 (f.pair j T x y e1 e2 e3)⟩)
 | succ k ih=>
  intro i s acc c Ts hk hi hB l C f hR;have a7:i<n:=by omega
  refine codeAny_builtin F.entry_extend_loop ?_;rw[Around.under_plainId F.plain_extend_loop _];show wpAny _ A.in1 (pyNext (.ref z) >>= _) _ _ s;have a5:l1<s.heap.objs.size:=by obtain⟨o,e,_⟩:=l.t1;exact z8 e
  have a0:l2<s.heap.objs.size:=by obtain⟨o,e,_⟩:=l.t2;exact z8 e
  refine zX (Vi (A:=A.in1) (x:=xs[i]) (y:=ys[i]) D ⟨a5,a0⟩ l ab (by simp[show i<xs.size by omega]) (by simp[show i<ys.size by omega]) λh' Z' p hsz hm=>?_);have m:∀b o,b ∉ [S,z,TO,u,r]->s.heap.get? b=some o->h'.get? b=some o:=λb o g e=>hm b o (λq=>g (by simp[q])) (λq=>g (by simp[q])) (λq=>g (by simp[q])) (λq=>g (by simp[q])) e;have aa:=hm S _ O.1.symm O.2.2.1.symm O.2.2.2.1.symm O.2.2.2.2.1.symm C;have ag:S<s.heap.objs.size:=z8 C
  have nb:s.heap.objs.size ∉ [S,z,TO,u,r]:=by
   obtain⟨hz,am,⟨a,b,ae⟩,h1,h2,ak,aj⟩:=l
   have a1:z<s.heap.objs.size:=by
    rcases hz with hz |⟨T,bb,oT,hz,_⟩ <;> exact z8 hz
   have a2:TO<s.heap.objs.size:=z8 ae;have a3:u<s.heap.objs.size:=by obtain⟨o,e,_⟩:=h1;exact z8 e
   have a4:r<s.heap.objs.size:=by obtain⟨o,e,_⟩:=h2;exact z8 e
   intro g;simp only[List.mem_cons,List.not_mem_nil,or_false]at g;rcases g with e |e |e |e |e
   ·exact Nat.ne_of_gt ag e
   ·exact Nat.ne_of_gt a1 e
   ·exact Nat.ne_of_gt a2 e
   ·exact Nat.ne_of_gt a3 e
   ·exact Nat.ne_of_gt a4 e
  have nT:s.heap.objs.size ∉Ts:=λI=>qJ _ (f.lt _ I).2.1;have g':=(f.keep (h':=h') (by omega) m).more (T:=s.heap.objs.size) (x:=xs[i]) (y:=ys[i]) ⟨hB,(by rw[hsz];exact Nat.lt_succ_self _),nb⟩ nT p (by simp[show i<xs.size by omega]) (by simp[show i<ys.size by omega]);show wpAny _ A.in1 (updateSeq S (·.push (.ref s.heap.objs.size)) >>= _) _ _ _;refine zX ?_
  have a8:acc.size=i:=by
   have:=congrArg List.length f.acc;rw[Array.length_toList,aR,f.len]at this;exact this
  have J:∀b o,b≠S->h'.get? b=some o->(h'.update S (Obj.mapSeq (·.push (.ref s.heap.objs.size)))).get? b=some o:=λb o g e=>(Heap.get?_update_other _ _ (Ne.symm g)).trans e;have Y:=Heap.get?_update_self (Obj.mapSeq (·.push (.ref s.heap.objs.size))) aa Z
  refine wpAny_updateSeq aa Z (z7 ⟨plainId_quiet F.plain_extend_loop _,ih (i+1) _ (acc.push (.ref s.heap.objs.size)) _ (Ts++[s.heap.objs.size]) (by omega) a7 ?_ (Z'.keep J O ⟨_,Y⟩) Y (g'.keep ?_ λb o g e=>J b o (λq=>g (by simp[q])) e) λaf h c' U a6 a9 M=>?_⟩)
   (by rw[a8];omega) (by show(acc.push _).size<=sizeLine+1;rw[Array.size_push,a8];omega)
  ·show B<=(h'.update S _).objs.size
   rw[(Heap.SameBut.update ..).1];omega
  ·show h'.objs.size<=(h'.update S _).objs.size
   rw[(Heap.SameBut.update ..).1];exact zZ _
  ·exact hR af h c' U (λb o g e=>a6 b o g (J b o (λq=>g (by simp[q])) (m b o g e))) a9 M
end
def V0:typeLookup (.type "zip") "__len__"=pure none:=by rw[typeLookup_type,builtinLookup_eq_fast];kernel_rfl
def Vs:typeLookup (.type "zip") "__length_hint__"=pure none:=by rw[typeLookup_type,builtinLookup_eq_fast];kernel_rfl
section
variable {prog:Program}{w:World}{A:Around}{R:Result->Shared->Prop}{s:Shared}{S z TI TO i1 i2 l1 l2:Addr}{xs ys:Array Value}{n B:Nat}
theorem oZ (hh:A.handled=none) (D:ZipApart z TI TO Y U l1 l2) (a2:l1≠TO/\l2≠TO) (hS:z≠S/\TI≠S/\TO≠S/\Y≠S/\U≠S/\l1≠S/\l2≠S) (a1:xs.size=n) (a0:ys.size=n) (hn:n<=sizeLine) (res:Value) (c₀:Nat) (hB:B<=s.heap.objs.size)
  (r:Zs s.heap z TI TO Y U l1 l2 xs ys 0) (M:s.heap.get? S=some {cls:=.type "list",data:=.seq #[] c₀})
  (hR:∀h' a m l,(∀b o,b ∉ [S,z,TO,Y,U]->s.heap.get? b=some o->h'.get? b=some o)->h'.get? S=some {cls:=.type "list",dict:=none,data:=.seq a m,slots:=#[]}->Got h' B [S,z,TO,Y,U] a xs ys n l->R (.ok (.ret res)) {s with heap:=h'}) :
  wpAny (model prog w) A.in1 (Builtin.List.listExtendWith (.ref S) (.ref z) res)
   (λfin O=>match fin with |.done f=>R (.ok f) O |.again m=>m.quiet=true/\codeAny (model prog w) A m R O) (λe O=>R (.error e) O) s:=by
 have c:s.TypeIs (.ref z) "zip":=by
  rcases r.zip with hz |⟨T,bb,oT,hz,_⟩ <;> exact⟨_,hz,Z⟩
 unfold Builtin.List.listExtendWith;refine zX (qW c ?_);have h1:Builtin.List.listSameRef (.ref S) (.ref z)=false:=by simp[Builtin.List.listSameRef,hS.1.symm]
 have h2:(Value.type "zip" == Value.type "list")=false:=by decide
 have h3:(Value.type "zip" == Value.type "tuple")=false:=by decide
 simp only[h1,h2,h3,Bool.or_false,Bool.false_eq_true,if_false]
 have g:∀(Q:Value->Shared->Prop) (E:Value->Shared->Prop),Q (.ref z) s->wpAny (model prog w) A.in1 (pyIter (.ref z)) Q E s:=λQ E h=>by
  refine wpAny_pyIter_slot c F.slot_zip_iter (wpAny_call_entry F.slot_zip_iter c F.entry_zip_iter ?_ (F.args_zip_iter_1 _));show wpAny _ _ (ret (.ref z)) _ _ s;exact z7 ⟨_,Z,"zip",_,c,F.slot_zip_next.lookup,h⟩
 refine zX (g _ _ ?_);refine zX (qO ?_);unfold Builtin.List.listLengthHint;refine zX (wpAny_specialOf c V0 ?_);show wpAny _ A.in1 (specialOf (Value.ref z) (Str.ofString "__length_hint__") >>= _) _ _ _;refine zX (wpAny_specialOf c Vs ?_);refine z7 ?_
 show wpAny _ A.in1 (rule "list.extend.makes-room" >>= λ_=>Builtin.List.listTouch (.ref S) >>= λ_=>
  again (.builtin "list.extend.loop" ⟨[.ref S,.ref z,res],[]⟩)) _ _ _
 refine zX (wpAny_rule ?_);refine zX ?_;show wpAny _ A.in1 (updateSeq S (·.push .none) >>= λ_=>updateSeq S (·.pop)) _ _ _;refine zX (wpAny_updateSeq M Z ?_);have J:=Heap.get?_update_self (Obj.mapSeq (·.push Value.none)) M Z;refine wpAny_updateSeq (hz:=by seq_fits) J Z ?_;have I:=Heap.get?_update_self (Obj.mapSeq (·.pop)) J Z
 have p:∀b o,b≠S->s.heap.get? b=some o->((s.heap.update S (Obj.mapSeq (·.push Value.none))).update S (Obj.mapSeq (·.pop))).get? b=some o:=
  λb o u e=>(Heap.get?_update_other _ _ (Ne.symm u)).trans ((Heap.get?_update_other _ _ (Ne.symm u)).trans e)
 refine z7 ⟨plainId_quiet F.plain_extend_loop _,loop (B:=B) hh D a2 hS a1 a0 hn res n 0 _ _ _ [] (by omega) (qR _) ?_ (r.keep p hS ⟨_,I⟩) I ⟨Z,Z,List.nodup_nil,λT c=>(nomatch c),λj T x y e=>by simp at e⟩ λh' a m l hm a3 C=>?_⟩
 ·show B<=((s.heap.update S _).update S _).objs.size
  rw[(Heap.SameBut.update ..).1,(Heap.SameBut.update ..).1];exact hB
 ·exact hR h' a m l (λb o u e=>hm b o u (p b o (λq=>u (by simp[q])) e)) a3 C
def init (hh:A.handled=none) (D:ZipApart z TI TO u r C y) (O:C≠TO/\y≠TO) (Y:z≠S/\TI≠S/\TO≠S/\u≠S/\r≠S/\C≠S/\y≠S) (J:xs.size=n) (I:ys.size=n) (hn:n<=sizeLine) (hB:B<=s.heap.objs.size)
  (M:Zs s.heap z TI TO u r C y xs ys 0) (c:s.heap.get? S=some {cls:=.type "list",data:=.seq #[]})
  (hR:∀h' a h g,(∀b o,b ∉ [S,z,TO,u,r]->s.heap.get? b=some o->h'.get? b=some o)->h'.get? S=some {cls:=.type "list",dict:=none,data:=.seq a h,slots:=#[]}->Got h' B [S,z,TO,u,r] a xs ys n g->R (.ok (.ret .none)) {s with heap:=h'}) :
  wpAny (model prog w) A.in1 (Builtin.«list.__init__» ⟨[.ref S,.ref z],[]⟩)
   (λfin p=>match fin with |.done f=>R (.ok f) p |.again h=>h.quiet=true/\codeAny (model prog w) A h R p) (λe p=>R (.error e) p) s:=by
 show wpAny _ A.in1 (do let old <- Builtin.List.listItems (.ref S);Builtin.List.listUpdate (.ref S) (λ_=>#[]);letGo old.toList.reverse;Builtin.List.listExtendWith (.ref S) (.ref z) .none) _ _ s;refine zX ?_;unfold Builtin.List.listItems;refine zX (wpAny_seqItems c Z (z7 ?_));show wpAny _ A.in1 (updateSeq S (λ_=>#[]) >>= λ_=>letGo (#[]:Array Value).toList.reverse >>= λ_=>Builtin.List.listExtendWith (.ref S) (.ref z) .none) _ _ s;refine zX (wpAny_updateSeq c Z ?_);have m:=Heap.get?_update_self (Obj.mapSeq (λ_=>(#[]:Array Value))) c Z
 have j:∀b o,b≠S->s.heap.get? b=some o->(s.heap.update S (Obj.mapSeq (λ_=>(#[]:Array Value)))).get? b=some o:=
  λb o x e=>(Heap.get?_update_other _ _ (Ne.symm x)).trans e
 refine zX (wpAny_letGo ?_);refine oZ (B:=B) hh D O Y J I hn .none _ ?_ (M.keep j Y ⟨_,m⟩) m λh' a h g hm U l=>?_
 ·show B<=(s.heap.update S _).objs.size
  rw[(Heap.SameBut.update ..).1];exact hB
 ·exact hR h' a h g (λb o x e=>hm b o x (j b o (λq=>x (by simp[q])) e)) U l
end
section
variable {prog:Program}{w:World}{A:Around}{E:Value->Shared->Prop}{s:Shared}{z TI TO i1 i2 l1 l2:Addr}{xs ys:Array Value}{n B:Nat}
def call_list {Q:Value->Shared->Prop} (hh:A.handled=none) (D:ZipApart z TI TO i1 i2 l1 l2) (hlT:l1≠TO/\l2≠TO) (hxn:xs.size=n) (hyn:ys.size=n) (hn:n<=sizeLine) (hB:B<=s.heap.objs.size) (hst:Zs s.heap z TI TO i1 i2 l1 l2 xs ys 0)
  (hQ:∀h' acc' c' Ts',(∀b o,b ∉ [z,TO,i1,i2]->s.heap.get? b=some o->h'.get? b=some o)->h'.get? s.heap.objs.size=some {cls:=.type "list",dict:=none,data:=.seq acc' c',slots:=#[]}->Got h' B [s.heap.objs.size,z,TO,i1,i2] acc' xs ys n Ts'->Q (.ref s.heap.objs.size) {s with heap:=h'}) :
  wpAny (model prog w) A (call (.type "list") [.ref z]) Q E s:=by
 have hlt:∀b o,s.heap.get? b=some o->b≠s.heap.objs.size:=λb o e=>qE (z8 e)
 have hS:z≠s.heap.objs.size/\TI≠s.heap.objs.size/\TO≠s.heap.objs.size/\i1≠s.heap.objs.size/\i2≠s.heap.objs.size/\l1≠s.heap.objs.size/\l2≠s.heap.objs.size:=by
  obtain⟨hz,hTI,⟨a,b,hTO⟩,h1,h2,hl1,hl2⟩:=hst;refine⟨?_,hlt _ _ hTI,hlt _ _ hTO,?_,?_,?_,?_⟩
  ·rcases hz with hz |⟨T,bb,oT,hz,_⟩ <;> exact hlt _ _ hz
  ·obtain⟨o,e,_⟩:=h1;exact hlt _ _ e
  ·obtain⟨o,e,_⟩:=h2;exact hlt _ _ e
  ·obtain⟨o,e,_⟩:=hl1;exact hlt _ _ e
  ·obtain⟨o,e,_⟩:=hl2;exact hlt _ _ e
 refine callType_codes (Q₁:=λobj s₁=>obj=.ref s.heap.objs.size/\s₁={s with heap:=s.heap.push {cls:=.type "list",data:=.seq #[]}}) F.called_list (F.typeCall_list_1 _) F.entry_list_init
  (code_list_new _ ⟨rfl,rfl⟩) λobj s₁ h₁=>?_
 obtain⟨rfl,rfl⟩:=h₁;have hSo:(s.heap.push {cls:=.type "list",data:=.seq #[]}).get? s.heap.objs.size=some {cls:=.type "list",data:=.seq #[]}:=z9 _ rfl;refine⟨⟨_,hSo,rfl⟩,F.args_list_init_2 _ _,init (A:=A.in1) (B:=B) hh D hlT hS hxn hyn hn ?_ (hst.keep (S:=s.heap.objs.size) (λb o _ e=>aT _ e) hS ⟨_,hSo⟩) hSo λh' acc' c' Ts' hm hS' hacc=>?_⟩
 ·show B<=(s.heap.push _).objs.size
  rw[Heap.size_push];exact Nat.le_succ_of_le hB
 ·exact⟨rfl,hQ h' acc' c' Ts' (λb o hb e=>hm b o (λq=>by
   rcases cE q with q |q
   ·exact hlt _ _ e q
   ·exact hb q) (aT _ e)) hS' hacc⟩
end
abbrev vF(h:Heap)(l1:Addr):Heap:=h.push {cls:=.type "tuple_iterator",data:=.fields #[.ref l1,.int 0 0]}
abbrev vE(h:Heap)(l1 l2:Addr):Heap:=(vF h l1).push {cls:=.type "tuple_iterator",data:=.fields #[.ref l2,.int 0 0]}
abbrev vD(h:Heap)(l1 l2:Addr):Heap:=(vE h l1 l2).push {cls:=.type "tuple",data:=.seq #[.ref h.objs.size,.ref (vF h l1).objs.size]}
abbrev vC(h:Heap)(l1 l2:Addr):Heap:=(vD h l1 l2).push {cls:=.type "tuple",data:=.seq #[.none,.none]}
abbrev mU(h:Heap)(l1 l2:Addr):Heap:=(vC h l1 l2).push {cls:=.type "zip",data:=.fields #[.none,.bool false,.bool false,.ref (vE h l1 l2).objs.size,.ref (vD h l1 l2).objs.size]}
def Sm (a b:Addr) (xs ys:Array Value) :
  Meets (Builtin.«zip.__new__» ⟨[.type "zip",.ref a,.ref b],[]⟩) (λ_ R s=>s.heap.IsTuple a xs/\s.heap.IsTuple b ys ∧
   R (.ok (.ret (.ref (vC s.heap a b).objs.size))) {s with heap:=mU s.heap a b}):=
 .of_wp λprog w A R s h=>by
  obtain⟨o,g,d,tk,l⟩:=s;obtain⟨e,c,h⟩:=h;have m:=sub_zip;have j:Heap.IsTuple (Shared.heap ⟨o,g,d,tk,l⟩) a xs:=e;have f:Heap.IsTuple (Shared.heap ⟨o.push {cls:=.type "tuple_iterator",data:=.fields #[.ref a,.int 0 0]},g,d,tk,l⟩) b ys:=Heap.IsTuple.push c _
  wp_walk using wpAny_pyIter_tuple j,wpAny_pyIter_tuple f
  exact⟨_,Z,h⟩
section
variable {prog:Program}{w:World}{A:Around}{E:Value->Shared->Prop}{s:Shared}
def call_zip {l1 l2:Addr} {xs ys:Array Value} {Q:Value->Shared->Prop} (hl1:s.heap.IsTuple l1 xs) (hl2:s.heap.IsTuple l2 ys)
  (h:∀h',Zs h' (s.heap.objs.size+4) (s.heap.objs.size+2) (s.heap.objs.size+3) s.heap.objs.size (s.heap.objs.size+1) l1 l2 xs ys 0->h'.objs.size=s.heap.objs.size+5->
   (∀c o,s.heap.get? c=some o->h'.get? c=some o)->Q (.ref (s.heap.objs.size+4)) {s with heap:=h'}) :
  wpAny (model prog w) A (call (.type "zip") [.ref l1,.ref l2]) Q E s:=by
 refine callType_new F.called_zip (by decide) (F.typeCall_zip_2 _ _) (F.newCall_zip_2 _ _) (λobj=>F.args_object_init_3 obj _ _) F.entry_zip_new
  (Sm l1 l2 xs ys) ⟨hl1,hl2,?_⟩
 have z1:(vF s.heap l1).objs.size=s.heap.objs.size+1:=Heap.size_push ..;have z2:(vE s.heap l1 l2).objs.size=s.heap.objs.size+2:=by rw[Heap.size_push,z1]
 have z3:(vD s.heap l1 l2).objs.size=s.heap.objs.size+3:=by rw[Heap.size_push,z2]
 have z4:(vC s.heap l1 l2).objs.size=s.heap.objs.size+4:=by rw[Heap.size_push,z3]
 have z5:(mU s.heap l1 l2).objs.size=s.heap.objs.size+5:=by rw[Heap.size_push,z4]
 have g5:(mU s.heap l1 l2).get? (vC s.heap l1 l2).objs.size=some _:=z9 _ rfl;have g4:(mU s.heap l1 l2).get? (vD s.heap l1 l2).objs.size=some _:=aT _ (z9 _ rfl);have g3:(mU s.heap l1 l2).get? (vE s.heap l1 l2).objs.size=some _:=aT _ (aT _ (z9 _ rfl));have g2:(mU s.heap l1 l2).get? (vF s.heap l1).objs.size=some _:=aT _ (aT _ (aT _ (z9 _ rfl)));have g1:(mU s.heap l1 l2).get? s.heap.objs.size=some _:=aT _ (aT _ (aT _ (aT _ (z9 _ rfl))));have kp:∀c o,s.heap.get? c=some o->(mU s.heap l1 l2).get? c=some o:=λc o e=>aT _ (aT _ (aT _ (aT _ (aT _ e))));show _/\_;rw[z2,z3,z4]at g5;rw[z1,z2]at g3;rw[z3]at g4;rw[z1]at g2;rw[z4];exact⟨⟨_,g5,rfl⟩,h _ ⟨.inl g5,g3,⟨_,_,g4⟩,⟨_,g1,rfl,rfl⟩,⟨_,g2,rfl,rfl⟩,hl1.at λo e=>kp _ o e,hl2.at λo e=>kp _ o e⟩ z5 kp⟩
end
end Zt
end
section
namespace L2
open PySem PySem.Spec PyProof.Rows
abbrev TJ:=St->Hp->Str->VK->Prop
def PJ(X:Cx)(es:List Expr)(t:TJ):Prop:=
 ∀(pins:List (Addr×Obj)) (s:Shared) (σ:St) (H:Hp) (out:Str) (Q:VK),Inv X pins σ H s->t σ H out Q->wpAny (model X.prog X.w) X.A (joinParts out (evalEach es X.env)) (EP X pins σ Q) X.xe s
def tK:TJ:=λ_ H out Q=>out.length<=sizeLine/\Q (.str out) H
def tL(x:Str)(t:TJ):TJ:=λσ H out Q=>(out++x).length<=sizeLine/\t σ H (out++x) Q
def Ce(te:TE)(t:TJ):TJ:=λσ H out Q=>te σ H λv H1=>∃x,v=.str x/\x.length<=sizeLine/\(out++x).length<=sizeLine/\t σ H1 (out++x) Q
def tM(te:TE)(t:TJ):TJ:=λσ H out Q=>te σ H λv H1=>∃i:Int,v=.int i/\i.natAbs.log2<1920/\(out++Str.ofString (toString i)).length<=sizeLine/\t σ H1 (out++Str.ofString (toString i)) Q
section
variable {X:Cx}{e e1 e2:Expr}{es:List Expr}{te:TE}{t:TJ}{pos:Pos}
def vO:PJ X [] tK:=λ_ _ _ H out _ I h=>joinParts_nilE (joinParts_nil ⟨.str out,H,I.tok _,⟨_,Z⟩,h.2⟩ h.1)
def lH{x:Str}{j}(h:PJ X es t):PJ X (.Constant (.str x) j pos::es) (tL x t):=by
 intro c s σ H out Q I f;refine joinParts_consE (joinParts_cons (aN (pS (X:=X) c s σ H (λv o=>v=.str x/\o=H) I ⟨Z,Z⟩) λv g ⟨z,p,n,r,m,l⟩=>?_));subst m l;obtain⟨t',rfl⟩:=r;exact⟨f.1,h c g σ _ _ Q n f.2⟩
def pZ(m:PE X e f)(h:PJ X es t):PJ X (.FormattedValue e (-1) none pos::es) (Ce f t):=by
 intro c s σ H out Q I j;refine joinParts_consE (joinParts_cons (FormattedValue_plain (aN (m c s σ H _ I j) λv p ⟨z,o,n,r,x,e,hz,l,q⟩=>?_)));subst e;obtain⟨t',rfl⟩:=r;exact formatField_str (λg tk=>⟨l,h c _ σ o _ Q (n.tok tk) q⟩) hz
def Mr(l:PE X e f)(h:PJ X es t):PJ X (.FormattedValue e (-1) none pos::es) (tM f t):=by
 intro c s σ H out Q I g;refine joinParts_consE (joinParts_cons (FormattedValue_plain (aN (l c s σ H _ I g) λv o ⟨z,n,m,r,i,e,hz,j,q⟩=>?_)));subst e;obtain⟨t',rfl⟩:=r;exact formatField_int_small hz ⟨j,h c _ σ n _ Q (m.tok _) q⟩
def wA(h:PJ X (j::g::es) t):PE X (.JoinedStr (j::g::es) pos) (λσ H Q=>t σ H Str.empty Q):=λc s σ H Q I f=>JoinedStr_many (h c s σ H _ Q I f)
end
section
variable {X:Cx}
theorem Iu:∀{l:List (Str×Tok)} {ys:List Str},l.map (·.1)=ys->Vals (ys.map V.str) (strValues l)
 |[],ys,h=>by subst h;exact .nil
 |(x,t)::l,ys,h=>by
  subst h;exact .cons ⟨t,Z⟩ (Iu Z)
def Mu:V->List V->Hp->VK->Prop:=λx vs H Q=>∃z y:Str,x=.str z/\vs=[.str y]/\(y.length == 0)=false/\z.length+2<=sizeLine/\∀p,H p=none->Q (.ref p) (upd H p (.lst ((Txt.split z y).map V.str)))
def Hz{z y:Str}(h:z.length+2<=sizeLine):(Builtin.Str.partsBetween z (Builtin.Str.occurrences z y 0 z.length (z.length+1)) y.length).length<=sizeLine:=by
 rw[StrLaws.partsBetween_eq]
 have pl:∀(f:List Nat) (a:Nat),(StrLaws.partsFrom z y.length a f).length=f.length+1:=by
  intro f
  induction f with
  |nil=>intro a;rfl
  |cons c r g=>intro a;show(StrLaws.partsFrom z y.length (c+y.length) r).length+1=_;rw[g];rfl
 rw[pl];have:=StrLaws.occ_length_le_len z y 0 z.length (z.length+1);omega
def T9{z y:Str}(h:z.length+2<=sizeLine):(Txt.split z y).length<=sizeLine:=by
 unfold Txt.split;split
 ·show 1<=sizeLine;omega
 ·split
  ·show 1<=sizeLine;omega
  ·exact Hz h
def A8:nY X "str.split" Mu:=by
 intro c s σ H x xs v us Q I m n h;obtain⟨z,y,rfl,rfl,j,hz,q⟩:=h;obtain⟨t,rfl⟩:=m;obtain⟨u,rfl,p⟩:=n.one;obtain⟨t',rfl⟩:=p
 have fin:∀(l:List (Str×Tok)) (k:Nat),l.map (·.1)=Txt.split z y->EP X c σ Q (.ref s.heap.objs.size) {s with heap:=s.heap.push {cls:=.type "list",data:=.seq (strValues l).toArray},toks:=k}:=λl k e=>by
  have r:=Iu e;have w:((Txt.split z y).map V.str).length<=sizeLine:=by rw[aR];exact T9 hz
  exact⟨.ref s.heap.objs.size,upd H s.heap.objs.size (.lst ((Txt.split z y).map V.str)),I.laid (t':=k) (λb o e=>aT _ e) (zZ _) ⟨w,strValues l,0,r,z9 _ Z⟩,Z,q _ (I.hok.fresh (zZ _))⟩
 have hsz:z.length<=sizeLine:=by omega
 cases f:(decide (z.length<y.length) || decide (Builtin.Str.strKind z<Builtin.Str.strKind y))
 ·cases g:(Builtin.Str.occurrences z y 0 z.length (z.length+1)).isEmpty
  ·refine call_meets F.slot_str_split (typeIs_str _ _ _) F.entry_str_split (F.args_str_split_2 _ _) (meets_str_split_sep z y t t' f j g hsz (Hz hz)) ?_
   show EP X c σ Q _ {s with toks:=_,heap:=s.heap.push {cls:=.type "list",data:=.seq (strsFrom s.toks (Builtin.Str.partsBetween z (Builtin.Str.occurrences z y 0 z.length (z.length+1)) y.length)).toArray}};rw[strsFrom_eq];exact fin (numbered s.toks _) _ ((numbered_texts _ _).trans ((if_neg (ne_true_of_eq_false f)).trans (if_neg (ne_true_of_eq_false g))).symm)
  ·exact call_meets F.slot_str_split (typeIs_str _ _ _) F.entry_str_split (F.args_str_split_2 _ _) (meets_str_split_not_found z y t t' f j g)
    (fin [(z,t)] _ ((if_neg (ne_true_of_eq_false f)).trans (if_pos g)).symm)
 ·exact call_meets F.slot_str_split (typeIs_str _ _ _) F.entry_str_split (F.args_str_split_2 _ _) (meets_str_split_cannot_occur z y t t' f)
   (fin [(z,t)] _ (if_pos f).symm)
def Og:V->List V->Hp->VK->Prop:=λx vs H Q=>∃z y:Str,x=.str z/\vs=[.str y]/\z.length<=sizeLine/\Q (.str (Txt.rstripChars z y)) H
def So:nY X "str.rstrip" Og:=by
 intro f s σ H x xs v us Q I g j h;obtain⟨z,y,rfl,rfl,hz,q⟩:=h;obtain⟨t,rfl⟩:=g;obtain⟨u,rfl,l⟩:=j.one;obtain⟨t',rfl⟩:=l;exact SC.rstripChars (λc k=>⟨.str _,H,I.tok k,⟨c,Z⟩,q⟩) hz
def Oh:V->List V->Hp->VK->Prop:=λx vs H Q=>∃z y:Str,x=.str z/\vs=[.str y]/\Q (.bl (Txt.startswith z y)) H
def Wj:nY X "str.startswith" Oh:=by
 intro c s σ H x xs v us Q I f g h;obtain⟨z,y,rfl,rfl,q⟩:=h;obtain⟨t,rfl⟩:=f;obtain⟨u,rfl,j⟩:=g.one;obtain⟨t',rfl⟩:=j;exact SC.startswith ⟨.bl _,H,I,Z,q⟩
def Vu:CallR X (.type "int") (λxs H Q=>∃(x:Str) (n:Int),xs=[.str x]/\intText? x=some n/\x.length<=640/\Q (.int n) H):=by
 intro c s σ H xs us Q I r h;obtain⟨x,n,rfl,hn,g,q⟩:=h;obtain⟨u,rfl,f⟩:=lG r;obtain⟨t,rfl⟩:=f;exact PySem.W.KIN.call_text hn g ⟨.int n,H,I.tok _,⟨_,Z⟩,q⟩
def Jl:CallR X (.type "str") (λxs H Q=>∃x:Str,xs=[.str x]/\Q (.str x) H):=by
 intro c s σ H xs us Q I r h;obtain⟨x,rfl,q⟩:=h;obtain⟨u,rfl,f⟩:=lG r;obtain⟨t,rfl⟩:=f;exact P.str_of_str ⟨.str x,H,I,⟨_,Z⟩,q⟩
def C5(K:Fg):R2:=λx y H Q=>∃a b xs,x=.ref a/\y=.ref b/\SqL K H a xs/\SqL K H b []/\Q (.bl (!xs.isEmpty)) H
def Mi(n:X.A.units<cLine):cS X (compareOp .NotEq) (C5 X.K):=by
 intro f s σ H x y v u Q I p o h;obtain⟨a,b,xs,rfl,rfl,J,C,q⟩:=h;cases p;cases o;obtain⟨its,w,l,_⟩:=I.list J;obtain⟨m,r,g,_⟩:=I.list C;have c:=w.length;have z:=r.length
 cases xs with
 | nil=>
  refine PySem.EqBoolInt.of_rcne (SeqAt.RcNeAt.lists (e:=λ_=>true) l.isList g.isList (by simp only[List.size_toArray];omega) n λj M O=>?_) ⟨.bl _,H,I,Z,?_⟩
  ·simp only[List.size_toArray]at M
   simp at c;omega
  ·have:its=[]:=List.eq_nil_of_length_eq_zero (by simpa using c.symm)
   subst this;exact q
 |cons x xs=>
  refine PySem.EqBoolInt.of_rcne (SeqAt.RcNeAt.lists_lengths l.isList g.isList (by simp only[List.size_toArray];simp at c z⊢;omega) n) ⟨.bl _,H,I,Z,?_⟩;simpa using q
end
def Inv.lays {X:Cx} {c:List (Addr×Obj)} {σ:St} {H f:Hp} {s:Shared} {h':Heap} {t':Nat} (I:Inv X c σ H s) (k:∀b o,s.heap.get? b=some o->h'.get? b=some o) (old:∀b,b<s.heap.objs.size->f b=H b) (h:HOk X.prog X.w f h') :
  Inv X c σ f {s with heap:=h',toks:=t'}:=by
 have g:∀b o,H b=some o->f b=some o:=λb o e=>by rw[old b (I.hok.lt e)];exact e
 exact I.un ⟨λb u q _ _ _=>k b u q,λb u q _ _ _=>⟨u.slots,k b u q⟩,λb u q n _=>by rw[old b (z8 q)];exact n,λb u q _=>⟨u,k b u q⟩,λb xs q=>g b _ q,λb u xs q=>g b _ q,λb ps q=>⟨#[],by rw[g b _ q];simp⟩⟩ h
def vZ(Ts:List Addr)(ps:List (V×V))(H:Hp):Hp:=λb=>match Ts.idxOf? b with |some j=>(ps[j]?).map λp=>.tup [p.1,p.2] |none=>H b
def Rg(K:Fg)(ta tb:TE):TE:=λσ H Q=>ta σ H λx H1=>tb σ H1 λy H2=>∃a b xs ys,x=.ref a/\y=.ref b/\SqT K H2 a xs/\SqT K H2 b ys/\xs.length=ys.length ∧
 ∀(l:Addr) (H':Hp) (Ts:List Addr),H2 l=none->Same H2 H'->Ts.length=xs.length->H' l=some (.lst (Ts.map V.ref))->(∀(j:Nat) T u v,Ts[j]?=some T->xs[j]?=some u->ys[j]?=some v->H' T=some (.tup [u,v]))->Q (.ref l) H'
theorem M1{Ts:List Addr}{j:Nat}{T:Addr}(nd:Ts.Nodup)(h:Ts[j]?=some T):Ts.idxOf? T=some j:=by
 induction Ts generalizing j with
 |nil=>simp at h
 | cons U l f=>
  rw[List.idxOf?_cons]
  cases j with
  |zero=>
   simp at h;subst h;simp
  | succ j=>
   have h':l[j]?=some T:=by simpa using h
   have g:=cZ h'
   have c:¬(U == T)=true:=by
    intro e;have:=eq_of_beq e;subst this;exact(List.nodup_cons.mp nd).1 g
   rw[if_neg c,f (List.nodup_cons.mp nd).2 h'];rfl
def A5{Ts:List Addr}{j:Nat}{T:Addr}(h:Ts.idxOf? T=some j):Ts[j]?=some T:=by
 induction Ts generalizing j with
 |nil=>simp at h
 | cons U g f=>
  rw[List.idxOf?_cons]at h;split at h
  ·rename_i e
   cases h;have:=eq_of_beq e;subst this;rfl
  ·cases c:g.idxOf? T with
   |none=>rw[c]at h;cases h
   |some k=>
    rw[c]at h;cases h;simpa using f c
section
variable {X:Cx}{a b:Expr}{ta tb:TE}{p1 p2 q1 q2:Pos}
def V2 (hc:X.calm=true) (ag:Gl X "list") (ae:X.mg "list"=none) (af:Gl X "zip") (ac:X.mg "zip"=none) (ha:PE X a ta) (m:PE X b tb)
  (Y:starEach [a,b] X.env=(false,eval a X.env)::starEach [b] X.env:=by rfl) (a9:starEach [b] X.env=[(false,eval b X.env)]:=by rfl)
  (a0:starEach [Expr.Call (.Name "zip" p2) [a,b] [] q2] X.env=[(false,eval (.Call (.Name "zip" p2) [a,b] [] q2) X.env)]:=by rfl)
  (aa:(backTo q2 (starEach [b] X.env)).any (·.1)=false:=by rfl) :
  PE X (.Call (.Name "list" p1) [.Call (.Name "zip" p2) [a,b] [] q2] [] q1) (Rg X.K ta tb):=by
 intro M s σ H Q I h;refine wpAny_Call_Name_kw (oB I ag ae zM ?_ (by decide) (by decide));refine PyProof.Rows.callWith_type1 ?_ a0 rfl;rw[a0];refine Calls.spliced_cons ?_;refine wpAny_Call_Name_kw (oB I af ac PyProof.Rows.boot_zip ?_ (by decide) (by decide))
 refine PyProof.Rows.callWith_type1 (aN ((pc ha (pc m pN a9) Y) q2 M s σ H (λvs H2=>match vs with
  |[x,y]=>∃a b xs ys,x=.ref a/\y=.ref b/\SqT X.K H2 a xs/\SqT X.K H2 b ys/\xs.length=ys.length ∧
   ∀(l:Addr) (f:Hp) (Ts:List Addr),H2 l=none->Same H2 f->Ts.length=xs.length->f l=some (.lst (Ts.map V.ref))->(∀(j:Nat) T u v,Ts[j]?=some T->xs[j]?=some u->ys[j]?=some v->f T=some (.tup [u,v]))->Q (.ref l) f
  |_=>False) I h) λus g ⟨vs,H1,r,r1,q⟩=>?_) Y aa
 match vs,r1,q with
 | [x,y],r1,q=>
  obtain⟨l1,l2,xs,ys,rfl,rfl,hx,hy,hl,q⟩:=q;obtain⟨u1,u2,rfl,e1,e2⟩:=r1.two;cases e1;cases e2;obtain⟨its,rx,tx,O⟩:=r.tuple hx;obtain⟨ai,ry,ty,aj⟩:=r.tuple hy;have lx:=rx.length;have ly:=ry.length;have a1:l1<g.heap.objs.size:=by obtain⟨_,e,_⟩:=tx;exact z8 e
  have a2:l2<g.heap.objs.size:=by obtain⟨_,e,_⟩:=ty;exact z8 e
  refine Zt.call_zip tx ty λJ Z hsz kp=>Calls.spliced_nil ?_;have D:=PyProof.Rows.zipApart_new a1 a2;refine Zt.call_list (n:=xs.length) (B:=g.heap.objs.size) (I.ok.hd hc) D ⟨D.l1TO,D.l2TO⟩ (by rw[List.size_toArray];omega) (by rw[List.size_toArray];omega) O (by show g.heap.objs.size<=J.objs.size;rw[hsz];exact Nat.le_add_right _ 5) Z λh2 acc c Ts a6 hS G=>?_;have a3:J.objs.size=g.heap.objs.size+5:=hsz
  have kept:∀b o,g.heap.get? b=some o->h2.get? b=some o:=λb o e=>by
   have m:b<g.heap.objs.size:=z8 e;refine a6 b o ?_ (kp b o e);simp only[List.mem_cons,List.not_mem_nil,or_false];rintro(z |z |z |z) <;> exact absurd (z ▸ m) (Nat.not_lt.mpr (by first |exact Nat.le_add_right _ _ |exact zZ _))
  have C:∀b j,Ts.idxOf? b=some j->Ts[j]?=some b/\j<xs.length:=λb j e=>⟨A5 e,by rw[<- G.len];exact(dC (A5 e)).1⟩;have HH:∃f:Hp,f=upd (vZ Ts (xs.zip ys) H1) J.objs.size (.lst (Ts.map V.ref)):=⟨_,rfl⟩;obtain⟨f,eH⟩:=HH;have nS:∀T∈Ts,T≠J.objs.size:=λT hT e=>(G.lt T hT).2.2 (by rw[e];exact List.mem_cons_self)
  have old:∀b,b<g.heap.objs.size->f b=H1 b:=λb m=>by
   rw[eH,aG (λe=>absurd (e ▸ m) (Nat.not_lt.mpr (by rw[a3];exact Nat.le_add_right _ 5)))];unfold vZ
   cases e:Ts.idxOf? b with
   |none=>rfl
   |some j=>exact absurd m (Nat.not_lt.mpr (G.lt b (cZ (A5 e))).1)
  have ah:∀(j:Nat) T u v,Ts[j]?=some T->xs[j]?=some u->ys[j]?=some v->f T=some (.tup [u,v]):=λj T u v e1 e2 e3=>by
   rw[eH,aG (nS T (cZ e1))];unfold vZ;rw[M1 G.nodup e1];show((xs.zip ys)[j]?).map _=_;rw[show(xs.zip ys)[j]?=some (u,v) from List.getElem?_zip_eq_some.mpr ⟨e2,e3⟩];rfl
  have ab:HOk X.prog X.w f h2:=λb o e=>by
   by_cases m:b=J.objs.size
   ·subst m
    rw[eH,aC]at e;cases e;refine⟨by rw[aR,G.len];exact O,acc.toList,c,?_,by rw[Array.toArray_toList];exact hS⟩;rw[G.acc]
    have hh:∀Us:List Addr,Vals (Us.map V.ref) (Us.map Value.ref):=λUs=>by
     induction Us with
     |nil=>exact .nil
     |cons U Us ih=>exact .cons rfl ih
    exact hh Ts
   ·rw[eH,aG m]at e
    unfold vZ at e
    cases ei:Ts.idxOf? b with
    |none=>
     rw[ei]at e;have e':H1 b=some o:=e;refine(r.hok b o e').stay (λc v _ z=>kept c v z) (λc z=>?_) λc zs z=>?_
     ·rw[old c (r.hok.lt z)];exact z
     ·rw[old c (r.hok.lt z)];exact z
    |some j=>
     rw[ei]at e;obtain⟨eb,hj⟩:=C b j ei;have ex:xs[j]?=some xs[j]:=bV hj;have ey:ys[j]?=some (ys[j]'(by omega)):=bV (by omega);have ez:(xs.zip ys)[j]?=some (xs[j],ys[j]'(by omega)):=List.getElem?_zip_eq_some.mpr ⟨ex,ey⟩;have e':((xs.zip ys)[j]?).map (λp=>HO.tup [p.1,p.2])=some o:=e;rw[ez]at e';cases e';obtain⟨ux,a8,a5⟩:=rx.get ex;obtain⟨uy,a7,a4⟩:=ry.get ey;have p:=G.pair j b ux uy eb (by simpa using a8) (by simpa using a7);exact⟨by show 2<=sizeLine;decide,[ux,uy],.cons a5 (.cons a4 .nil),⟨_,p,rfl,_,rfl,rfl⟩⟩
  refine⟨.ref J.objs.size,f,r.lays (t':=g.toks) kept old ab,rfl,q _ f Ts ?_ (λb o e=>by rw[old b (r.hok.lt e)];exact e) G.len (by rw[eH,aC]) ah⟩;exact r.hok.fresh (by rw[a3];exact Nat.le_add_right _ 5)
 |[],_,q=>exact q.elim
 |[_],_,q=>exact q.elim
 |_::_::_::_,_,q=>exact q.elim
end
section
variable {es:List Expr}{env:Env}
def so{c k p}:starEach (.Constant c k p::es) env=(false,eval (.Constant c k p) env)::starEach es env:=Z
def aA{x p}:starEach (.Name x p::es) env=(false,eval (.Name x p) env)::starEach es env:=Z
def aZ{a b c d}:starEach (.Call a b c d::es) env=(false,eval (.Call a b c d) env)::starEach es env:=Z
def hG{a b c d}:starEach (.BinOp a b c d::es) env=(false,eval (.BinOp a b c d) env)::starEach es env:=Z
def aS{a b c}:starEach (.Subscript a b c::es) env=(false,eval (.Subscript a b c) env)::starEach es env:=Z
def sT{a b c}:starEach (.Tuple a b c::es) env=(false,eval (.Tuple a b c) env)::starEach es env:=Z
def oP{a b}:starEach (.List a b::es) env=(false,eval (.List a b) env)::starEach es env:=Z
def hH{a b c d}:starEach (.Compare a b c d::es) env=(false,eval (.Compare a b c d) env)::starEach es env:=Z
def rN{a b c}:starEach (.BoolOp a b c::es) env=(false,eval (.BoolOp a b c) env)::starEach es env:=Z
def Ic{a b}:starEach (.JoinedStr a b::es) env=(false,eval (.JoinedStr a b) env)::starEach es env:=Z
def sW{a b c d}:starEach (.ListComp a b c d::es) env=(false,eval (.ListComp a b c d) env)::starEach es env:=Z
def Ia{a b c}:starEach (.Attribute a b c::es) env=(false,eval (.Attribute a b c) env)::starEach es env:=Z
end
def mM:Expr->Option Str
 |.Constant (.str x) _ _=>some x
 |_=>none
def qS:List Expr->Option (List Str)
 |[]=>some []
 |e::es=>(mM e).bind λx=>(qS es).map (x::·)
def Oq{e:Expr}{x:Str}(h:mM e=some x):∃j p,e=.Constant (.str x) j p:=by
 unfold mM at h;split at h
 ·cases h;exact⟨_,_,Z⟩
 ·cases h
def Lk(xs:List Str):TA:=λ_ H Q=>Q (xs.map V.str) H
def Mo{X:Cx}{es:List Expr}{t t':TA}(h:PA X es t)(i:∀σ H Q,t' σ H Q->t σ H Q):PA X es t':=λpos a s σ H Q I b=>h pos a s σ H Q I (i σ H Q b)
theorem yU{X:Cx}:∀{es:List Expr} (xs:List Str),qS es=some xs->PA X es (Lk xs)
 |[],xs,h=>by
  cases h;exact pN
 | e::es,xs,h=>by
  cases a:mM e with
  |none=>rw[qS,a]at h;cases h
  | some x=>
   cases b:qS es with
   |none=>rw[qS,a,b]at h;cases h
   |some ys=>
    rw[qS,a,b]at h;cases h;obtain⟨j,p,rfl⟩:=Oq a;exact Mo (pc (pS (x:=x) (j:=j) (pos:=p)) (yU (X:=X) ys b) so) λσ H Q c=>c
end L2
end
section
namespace L2
open PySem PySem.Spec PySem.W PySem.Calls PyProof.Rows
open Builtin Builtin.ObjectAttr
section
variable {prog:Program}{w:World}{A:Around}{E:Value->Shared->Prop}{s:Shared}{K:Frag}{x C:Addr}{ox:Obj}{od:Option Obj}{name:Str}
structure XCls(K:Frag)(C:Addr):Prop where
 ga:findIn K (.ref C) "__getattribute__"=some (some (.builtin "BaseException.__getattribute__"))
 gk:findIn K (.ref C) "__getattr__"=some none
 mb:mroIn K C (.type "BaseException")=some true
 mo:mroIn K C (.type "object")=some true
 hd:hasDictIn K C=true
 ca:findIn K (.ref C) "__class__"=some (some (.builtin "object.__class__"))
 cn:specialIn K (.builtin "object.__class__") "__get__"=some (some (.builtin "getset_descriptor.__get__"))
 ct:takesIn K (.builtin "object.__class__")=some true
end
section
variable {prog:Program}{w:World}{A:Around}{E:Value->Shared->Prop}{h:Heap}{g:Array GenState}{d:Drawn}{t:Nat}{os:OsState}
variable {nm q:Str}{C N:Addr}{bs bm bmB:List Value}{hdct:Bool}{sn:List Str}{sub:List Value}{ab:Bool}{col:Option Bool}{dd:Option Addr}{k0 k1 k2 k3 k5:Option Value}{B newId initId:String}
abbrev newExc(C t:Addr)(dx:Option Addr):Obj:={cls:=.ref C,dict:=dx,data:=.fields #[.ref t,.none,.none,.none,.bool false,.none]}
abbrev rD(rest:List Value):Obj:={cls:=.type "tuple",data:=.seq rest.toArray}
def Wt (F:ExcBaseFacts B a l p) (T:OwnTail h p z) {rest:List Value} {init:Value} {Q:Fin->Shared->Prop}
  (j:h.get? C=some (excClassObj nm q C N bs z y sn sub ab Y dd k0 k1 k2 k3 k5 a)) (hi:Looks (model prog w) h (typeLookup (.ref C) "__init__") (some init))
  (O:∀self,Looks (model prog w) h (bindSpecial init self) (init,[self]))
  (M:wpAny (model prog w) A (call init (.ref (h.objs.size+1)::rest)) (λr u=>r=.none/\Q (.done (.ret (.ref (h.objs.size+1)))) u) E ⟨(h.push (rD rest)).push (newExc C h.objs.size none),g,d,t,I⟩) (c:rest.length<=sizeLine) :
  wpAny (model prog w) A (Builtin.«type.__call__» ⟨.ref C::rest,[]⟩) Q E ⟨h,g,d,t,I⟩:=by
 repeat (first |with_reducible refine wpAny_loadPart_at j ?_ |with_reducible refine wpAny_madeBy_exc j ?_ |wp_step)
 refine codeAny_call_builtin_code (Code.quiet_builtin _ F.quiet) (wpAny_check_new_subT F T j ?_);refine codeAny_exc_new_subT F T j ?_ c;show wpAny _ _ _ _ _ _;have up:∀b o,h.get? b=some o->((h.push (rD rest)).push (newExc C h.objs.size none)).get? b=some o:=λb o e=>aT _ (aT _ e);have n:=up _ _ j;have f:((h.push (rD rest)).push (newExc C h.objs.size none)).get? (h.objs.size+1)=some (newExc C h.objs.size none):=by heap_get
 have m:(Value.ref C::z).contains (.ref C)=true:=by simp
 unfold isInstance
 repeat (first |with_reducible refine wpAny_loadPart_at f ?_ |(with_reducible refine wpAny_isSubtype_exc n ?_;rw[m]) |wp_step)
 show wpAny _ _ (typeLookup (.ref C) _) _ _ _;refine hi _ _ _ _ up ?_;refine qO (zX (O _ _ _ _ _ up ?_));refine zX (wpAny_mono M (λr u J=>?_) λ_ _ x=>x);obtain⟨rfl,U⟩:=J
 wp_walk
 exact U
def Qs (F:ExcBaseFacts B a c f) (T:OwnTail h f u) {rest:List Value} {init:Value} {Q:Value->Shared->Prop}
  (e:h.get? C=some (excClassObj nm q C N bs u m y sub ab p dd U O M J I a)) (hi:Looks (model prog w) h (typeLookup (.ref C) "__init__") (some init))
  (o:∀self,Looks (model prog w) h (bindSpecial init self) (init,[self]))
  (n:wpAny (model prog w) (A.under (.builtin "type.__call__" ⟨.ref C::rest,[]⟩)) (call init (.ref (h.objs.size+1)::rest)) (λr j=>r=.none/\Q (.ref (h.objs.size+1)) j) E
   ⟨(h.push (rD rest)).push (newExc C h.objs.size none),g,d,t,l⟩) (b:rest.length<=sizeLine) :
  wpAny (model prog w) A (call (.ref C) rest) Q E ⟨h,g,d,t,l⟩:=by
 have f1:=tc_lookup;have f2:=tc_bind (.ref C);have Y:(⟨h,g,d,t,l⟩:Shared).TypeIs (.ref C) "type":=⟨_,e,Z⟩;refine wpAny_call (codeAny_of_tree ?_);show wpAny _ _ (callAny (.ref C) _) _ _ _
 repeat (any_goals (first |assumption |with_reducible refine wpAny_loadPart_at e ?_ |wp_step))
 refine⟨Z,?_⟩;refine codeAny_call_builtin_at (Code.quiet_builtin _ (by walk_at"k")) entry_typeCall (wpAny_check_type_call_sub e (Wt F T e hi o ?_ b));exact wpAny_mono n (λr j z=>z) λ_ _ z=>z
def Qt (F:ExcBaseFacts B newId initId bmB) (T:OwnTail h bmB bm) {e t0:Addr} {rest:List Value} {Q:Value->Shared->Prop}
  (hC:h.get? C=some (excClassObj nm q C N bs bm hdct sn sub ab col dd k0 k1 k2 k3 k5 newId)) (he:h.get? e=some (newExc C t0 none))
  (hq:∀h',(∀b o,b≠e->h.get? b=some o->h'.get? b=some o)->h'.get? e=some (newExc C h.objs.size none)->Q .none ⟨h',g,d,t,os⟩) (hrest:rest.length<=sizeLine) :
  wpAny (model prog w) A (call (.builtin initId) (.ref e::rest)) Q E ⟨h,g,d,t,os⟩:=by
 refine wpAny_call (codeAny_call_builtin F.init.plain F.initEntry (wpAny_check_init_subT F T hC he rfl ?_))
 wp_walk
 show Q .none _;refine hq _ (λb o hb e0=>?_) ?_
 ·rw[Heap.get?_update_other _ _ (Ne.symm hb)]
  exact aT _ e0
 ·exact Heap.get?_update_self _ (aT _ he) rfl
end
def tF(K:Frag)(C:Addr)(bmB:List Value)(newId:String):Bool:=match K.lookup C with
 |some ⟨.type "type",_,.cls cd,sl⟩=>(match cd.mro,sl.toList with
  |.ref C'::bm,[_,_,_,_,some (.builtin n),_]=>C' == C && n == newId && !cd.hasDel && cd.hasDict && tailIn K bmB bm
  |_,_=>false)
 |_=>false
def iC(h:Heap)(C:Addr)(bmB:List Value)(newId:String):Prop:=
 ∃nm q N bs bm sn sub ab col dd k0 k1 k2 k3 k5,h.get? C=some (excClassObj nm q C N bs bm true sn sub ab col dd k0 k1 k2 k3 k5 newId)/\OwnTail h bmB bm
def rF{K:Frag}{h:Heap}{C:Addr}{c:List Value}{a:String}(X:K.In h)(e:tF K C c a=true):iC h C c a:=by
 unfold tF at e;split at e
 ·rename_i U Y sl M
  split at e
  ·rename_i C' bm I z y u n r j hs
   simp only[Bool.and_eq_true,beq_iff_eq,Bool.not_eq_true']at e;obtain⟨⟨⟨⟨rfl,rfl⟩,b⟩,hd⟩,J⟩:=e;obtain⟨nm,bs,p,ns,o,l,m,sub,ab,f,O⟩:=Y;dsimp only at j b hd;subst j b hd;obtain⟨sl⟩:=sl;dsimp only at hs;subst hs;exact⟨nm,o,ns,bs,bm,m,sub,ab,f,U,I,z,y,u,r,X _ _ M,tail_of_in X J⟩
  ·cases e
 ·cases e
def Vj{h:Heap}{a b:List Value}{self:Value}{what:Str}(T:OwnTail h a b):refuseLoop self what b=refuseLoop self what a:=by
 induction T with
 |base=>rfl
 |own _ _ _ _ c=>rw[refuseLoop_ref];exact c
section
variable {prog:Program}{w:World}{A:Around}{E:Value->Shared->Prop}{h:Heap}{g:Array GenState}{d:Drawn}{t:Nat}{os:OsState}{K:Frag}{x C t0:Addr}{name:Str}{v:Value}{bmB:List Value}{newId:String}{B sa owner:String}
def X0 {tk:Tok} {Q:Fin->Shared->Prop} (SF:StoreFacts B a3 sa owner) (X:K.In h) (O:iC h C a3 u) (hn:findIn K (.ref C) name=some none) (p:h.get? x=some (newExc C t0 none))
  (hq:∀h' r,(∀b o,b≠x->h.get? b=some o->h'.get? b=some o)->h'.get? x=some (newExc C t0 (some h.objs.size))->h'.Ns1 h.objs.size (λy=>if y=name then some v else none)->Q (.done (.ret .none)) ⟨h',g,d,r,os⟩) :
  wpAny (model prog w) A (Builtin.«object.__setattr__» ⟨[.ref x,.str name tk,v],[]⟩) Q E ⟨h,g,d,t,os⟩:=by
 obtain⟨nm,qn,N,bs,bm,sn,sub,ab,a6,dd,k0,k1,k2,k3,k5,hC,T⟩:=O;have a:=(Vj (self:=.ref x) (what:="__setattr__") T).trans (SF.passes (.ref x));have LN:=looks_findIn (M:=model prog w) X hn;obtain⟨o,m⟩:∃o,o=newExc C t0 none:=⟨_,Z⟩;have hc:o.cls=.ref C:=by rw[m]
 have Y:o.dict=none:=by rw[m]
 have J:∀c,o.data≠.cls c:=λc z=>by rw[m]at z;cases z
 rw[<- m]at p;unfold Builtin.«object.__setattr__»
 repeat (first |rw[refuse_eq] |(rw[refuseLoop_ref,a]) |(with_reducible refine wpAny_loadPart_at p ?_;rw[hc]) |with_reducible refine wpAny_mroOf_exc hC ?_ |with_reducible refine LN.at ?_ |wp_step)
 rw[Y,if_neg (by simp[typeHasDict])];split
 ·rename_i f
  cases f
 split
 ·rename_i c f
  exact absurd f (J c)
 ·have j:(h.push {cls:=.type "dict",data:=.dict #[]}).get? x=some o:=aT _ p
  have l:x≠h.objs.size:=qE (z8 p);refine zX (wpAny_alloc' ?_);refine zX (wpAny_update' j ?_);refine z7 ?_
  have U:((h.push {cls:=.type "dict",data:=.dict #[]}).update x λo=>{cls:=o.cls,dict:=some h.objs.size,data:=o.data,slots:=o.slots}).get? h.objs.size
    = some {cls:=.type "dict",data:=.dict #[]}:=
   (Heap.get?_update_ne _ _ _ _ l.symm).trans (Heap.get?_push_at Z Z)
  have hnd:((h.push {cls:=.type "dict",data:=.dict #[]}).update x λo=>{cls:=o.cls,dict:=some h.objs.size,data:=o.data,slots:=o.slots}).Ns h.objs.size (λ_=>none):=
   ⟨_,#[],_,U,Z,λe he=>absurd he (by simp),λ_=>Z⟩
  show wpAny _ _ (storeInDict h.objs.size (.str name tk) name v) _ _ _;unfold storeInDict newKeyGuard;refine zX (z7 (zX (wpAny_nsSet1 (Heap.Ns1.of_empty hnd) λh' n hs=>?_)));obtain⟨oD,a4,a5,I,a0,a1⟩:=n.count (Within.cons name v Within.nil);refine zX (wpAny_lookBehind I (by rw[a0];exact pastItsLine_dict (zY a1 (by rw[List.length_cons,List.length_nil,sizeLine_eq];omega))) ?_)
  wp_walk
  refine hq h' _ (λb ob a2 hb=>?_) ?_ n
  ·exact(hs.2 b (qE (z8 hb))).trans ((Heap.get?_update_ne _ _ _ _ a2).trans (aT _ hb))
  ·subst m
   exact(hs.2 x l).trans (Heap.get?_update_self _ j Z)
def Sa {Q:Unit->Shared->Prop} (c:StoreFacts B j e owner) (X:K.In h) (O:iC h C j f) (hs:findIn K (.ref C) "__setattr__"=some (some (.builtin e))) (J:mroIn K C (.type owner)=some true)
  (hn:findIn K (.ref C) name=some none) (l:h.get? x=some (newExc C p none))
  (U:∀h' a,(∀b o,b≠x->h.get? b=some o->h'.get? b=some o)->h'.get? x=some (newExc C p (some h.objs.size))->h'.Ns1 h.objs.size (λy=>if y=name then some v else none)->Q () ⟨h',g,d,a,r⟩) :
  wpAny (model prog w) A (setAttr (.ref x) name v) Q E ⟨h,g,d,t,r⟩:=by
 have m:Looks (model prog w) h (typeOf (.ref x)) (.ref C):=(Looks.ld l).andThen .now;have LS:=looks_findIn (M:=model prog w) X hs;have LW:=looks_mroIn (M:=model prog w) X J;have f3:=c.slot.bind (.ref x);unfold setAttr callSpecial? specialOf;refine zX (wpAny_mkText ?_);refine zX (zX (zX (m.at (LS.at ?_))));refine qO ?_;rw[f3];refine zX (z7 ?_);have Y:argsOk e ⟨[.ref x,.str name t,v],[]⟩:=c.args (.ref x) (.str name t) v;have hI:Looks (model prog w) h (isInstance (.ref x) (.type owner)) true:=m.andThen LW;refine zX (wpAny_call (codeAny_call_builtin c.slot.plain c.entry ?_));show wpAny _ _ (checkBuiltinCall e ⟨[.ref x,.str name t,v],[]⟩) _ _ _;refine check_slot (i:=e) (owner:=owner) (n:="__setattr__") (self:=.ref x) (rest:=[.str name t,v]) (kw:=[]) c.kind c.split hI Y ?_;refine X0 c X O hn l λh' a I z u=>?_;exact z7 (z7 (U h' a I z u))
end
end L2
end
section
namespace L2
open PySem PySem.Spec PyProof.Rows
def cC(e C:Addr)(d:Option Addr):HO:=.ext λh=>∃t:Addr,h.get? e=some (newExc C t d)
abbrev bmV:List Value:=[.type "ValueError",.type "Exception",.type "BaseException",.type "object"]
structure XCl(K:Fg)(C:Addr):Prop where
 cls:XCls K C
 obj:tF K C bmV "ValueError.__new__"=true
 kp:PySem.W.keepIn K (.ref C)=true
 sa:PySem.W.findIn K (.ref C) "__setattr__"=some (some (.builtin "object.__setattr__"))
def ObjOk.exc{P:Program}{w:World}{H:Hp}{h:Heap}{e C t:Addr}{d:Option Addr}(b:h.get? e=some (newExc C t d)):ObjOk P w H h e (cC e C d):=
 ⟨⟨t,b⟩,⟨_,b⟩,λg c ⟨t',a⟩ k=>⟨t',k _ a⟩⟩
def HOk.exc{P:Program}{w:World}{H:Hp}{h:Heap}{e C:Addr}{d:Option Addr}(x:HOk P w H h)(q:H e=some (cC e C d)):∃t,h.get? e=some (newExc C t d):=
 (show ObjOk P w H h e (cC e C d) from x e _ q).1
section
variable {X:Cx}{pins:List (Addr×Obj)}{σ:St}{H:Hp}{s:Shared}{C:Addr}{Q:VK}{us:List Value}{vs:List V}{CX:fW}{k:Nat}{f:Addr}{fd:FuncData}{ps:List Str}{sp:Sp}{E:XK}
def xF{h:Heap}{o u:Obj}{b:Addr}(e:(h.push o).get? b=some u)(q:b≠h.objs.size):h.get? b=some u:=by
 rwa[Heap.get?_push_ne h b o q]at e
def Nr{h:Heap}{rest:List Value}{C:Addr}:((h.push (rD rest)).push (newExc C h.objs.size none)).get? (h.objs.size+1)=some (newExc C h.objs.size none):=by heap_get
theorem Inv.newExc(I:Inv X pins σ H s):Inv X pins σ (upd H (s.heap.objs.size+1) (cC (s.heap.objs.size+1) C none)) {s with heap:=(s.heap.push (rD us)).push (newExc C s.heap.objs.size none)}:=
 I.laid (t':=s.toks) (λb u e=>aT _ (aT _ e)) (qM _) (ObjOk.exc Nr)
variable {x:Str}{p pos:Pos}{e:Expr}{es:List Expr}{t:TA}
def Me(C:Addr)(sp:Sp)(E:XK)(t:TA):TE:=λσ H Q=>t σ H λvs H1=>vs.length<=sizeLine/\∀e,H1 e=none->sp (.ref e::vs) (upd H1 e (cC e C none)) (λv H2=>v=.non/\Q (.ref e) H2) E
def Ea(K:Fg)(t:TA):TE:=λσ H Q=>t σ H λvs H1=>∃e C rest,vs=.ref e::rest/\H1 e=some (cC e C none)/\XCl K C/\rest.length<=sizeLine/\Q .non (upd H1 e (cC e C none))
structure XSup(K:Fg)(C:Addr):Prop where
 reads:PySem.W.readsIn K C (.type "type")=true
 ga:PySem.W.specialIn K (.ref C) "__getattribute__"=some (some (.builtin "type.__getattribute__"))
 init:PySem.W.findCls K (.ref C) (.type "type") "__init__"=some (.val (.builtin "ValueError.__init__"))
def Qk {pl:Sem Bool} {c:Pos} (S:XSup X.K C) (hg:Gl X x) (hm:X.mg x=some (.ref C)) (ha:PA X (e::es) t)
  (n:(x == ("__debug__":Str))=false:=by decide) (he:starEach (e::es) X.env=(false,eval e X.env)::starEach es X.env:=by rfl) (l:(backTo pos (starEach es X.env)).any (·.1)=false:=by rfl)
  (ht:eval (.Call (.Attribute (.Name x p) "__init__" c) (e::es) [] pos) X.env=(do
   let z <- eval (.Name x p) X.env
   standAt c.atName
   let (f,first) <- holding [z] (getMethod z "__init__" pl)
   callWith pos f first (backTo pos (starEach (e::es) X.env)) (backToKw pos (keywordEach [] X.env))):=by rfl) :
  PE X (.Call (.Attribute (.Name x p) "__init__" c) (e::es) [] pos) (Ea X.K t):=by
 intro pins s σ H Q I h;refine PySem.W.methodCall_KW (pl:=pl) (oK I hg hm ?_ n) ht;refine PySem.W.method_cls I.kIn S.ga (PySem.W.cls_value I.kIn S.reads S.init (by decide) ?_);have I0:Inv X pins σ H {s with toks:=s.toks+1}:=I.tok _;refine PyProof.Rows.callWith_builtin1 (aN (ha pos pins _ σ H _ I0 h) λus U ⟨vs,H1,y,r,w,C0,rest,ev,J,M,hl,q⟩=>?_) he l;subst ev;obtain⟨u,j,rfl,r1,Y⟩:∃u j,us=u::j/\RelV (.ref w) u/\Vals rest j:=by cases r with |cons a b=>exact⟨_,_,Z,a,b⟩
 obtain rfl:u=Value.ref w:=r1
 ·
  obtain⟨t0,hx⟩:=y.hok.exc J;obtain⟨nm,qn,N,bs,bm,sn,sub,ab,a0,dd,k0,k1,k2,k3,k5,hC,T⟩:=rF y.kIn M.obj;have mu:pH (H1 w):=by rw[J];exact True.intro
  have m:j.length<=sizeLine:=by rw[<- Y.length];exact hl
  obtain⟨hh,g,d,tk,os⟩:=U;refine Qt PySem.F.excBase_ValueError T hC hx (λh' kk O=>?_) m;exact⟨.non,_,y.write (t':=tk) mu (.inl Z) kk ⟨_,O⟩ (ObjOk.exc O),Z,q⟩
def Dk(K:Fg)(ta tv:TE)(f:Str):TS:=λD σ H=>tv σ H λy H1=>ta σ H1 λx H2=>∃e C,x=.ref e/\H2 e=some (cC e C none)/\XCl K C/\NoAttr K C f ∧
 ∀dx,H2 dx=none->dx≠e->D.nx σ (upd (upd H2 dx (.xd [(f,y)])) e (cC e C (some dx)))
def Ra {a:Addr} {fl:Str} {y:V} {u:Value} {A:Around} {E':Value->Shared->Prop} {Q:Unit->Shared->Prop} (I:Inv X pins σ H s) (ea:H a=some (cC a C none)) (M:XCl X.K C) (n:NoAttr X.K C fl) (ry:RelV y u)
  (h:∀r Y,H r=none->r≠a->Inv X pins σ (upd (upd H r (.xd [(fl,y)])) a (cC a C (some r))) Y->Q () Y):wpAny (model X.prog X.w) A (setAttr (.ref a) fl u) Q E' s:=by
 obtain⟨t0,hx⟩:=I.hok.exc ea;have l:=I.kIn;have m:s.heap.objs.size≠a:=λz=>by have:=z8 hx;rw[<- z]at this;exact qJ _ this
 have O:H s.heap.objs.size=none:=I.hok.fresh (zZ _);obtain⟨c,g,d,tk,os⟩:=s;refine Sa PySem.F.store_ValueError l (rF l M.obj) M.sa M.cls.mo n hx λh' J k1 k2 k3=>h c.objs.size _ O m ?_;obtain⟨j,es,ep,e1,e2,e3,eu,e4⟩:=id k3;have g1:(c.push j).get? c.objs.size=some j:=Heap.get?_push_at Z (Heap.get?_some_iff.mp e1).2
 have I1:Inv X pins σ (upd H c.objs.size (.xd [(fl,y)])) ⟨c.push j,g,d,tk,os⟩:=
  I.laid (t':=tk) (λb u e=>aT _ e) (zZ _) ⟨_,⟨j,es,ep,g1,e2,e3,eu,e4⟩,λz=>by
   by_cases q:z=fl
   ·subst q;simp[RelO,ry]
   ·have q':(z == fl)=false:=by simpa using q
    simp[RelO,q,List.lookup,q']⟩
 have U:upd H c.objs.size (.xd [(fl,y)]) a=some (cC a C none):=by rw[aG (Ne.symm m)];exact ea
 exact I1.write (t':=J) (x:=a) (e:=a) (by rw[U];exact True.intro) (.inl Z) (λb u hb e=>by
  by_cases q:b=c.objs.size
  ·subst q
   have e':(c.push j).get? c.objs.size=some u:=e;rw[g1]at e';cases e';exact e1
  ·exact k1 b u hb (xF e q)) ⟨_,k2⟩ (ObjOk.exc k2)
variable {o value:Expr}{fl:Str}{pos':Pos}{ta tv:TE}
def Oc(J:PE X o ta)(z:PE X value tv)(hs:swapsWith value (some (.Attribute o fl pos')) pos.line X.env=pure false):PS X (.Assign [.Attribute o fl pos'] value pos) (Dk X.K ta tv fl):=by
 intro pins s σ H D I h;refine plainObj_wpAny_Assign_Attribute (aN (z pins s σ H _ I h) λu j ⟨y,H1,I1,l,q⟩=>aN (J pins j σ H1 _ I1 q) λw s2 ⟨x,H2,Y,m,a,C,ex,M,c,n,r⟩=>?_) hs;subst ex;obtain rfl:w=Value.ref a:=m;exact Ra Y M c n l λO s3 g b U=>⟨σ,_,U,r O g b⟩
end
section
variable {X:Cx}{pins:List (Addr×Obj)}{σ:St}{H:Hp}{s:Shared}{h':Heap}
def Inv.turnedL{t':Nat}{fp:List Addr}(I:Inv X pins σ H s)(k:∀b o,b ∉fp->s.heap.get? b=some o->h'.get? b=some o)(hf:∀b∈fp,FpOk X pins H b):Inv X pins σ H {s with heap:=h',toks:=t'}:=by
 have nit:∀b u,H b=some u->b ∉fp:=λb u e z=>by rw[(hf b z).1]at e;cases e
 refine I.step (g':=s.gens) (d':=s.drawn) (ch:=fp) (λb hb=>?_) (λb o _ _ hc e _=>k b o hc e) (λb o _ _ hc e _=>⟨o.slots,k b o hc e⟩) (λ_ _ _ _ n=>n)
  (λb o hc e=>⟨o,k b o hc e⟩) (λ_ _ e=>e) (λ_ _ _ e=>e) (λb ps e=>⟨#[],by rw[e];simp⟩) (λm hm=>?_) (λb u e=>?_) I.bare
 ·obtain⟨f0,f1,f2,f3,f4,f5⟩:=hf b hb
  exact⟨f3,f1,f4,f5⟩
 ·obtain⟨o,es,ep,ho,r⟩:=hm
  exact⟨o,es,ep,k _ o (λz=>(hf _ z).2.1 rfl) ho,r⟩
 ·refine(I.hok b u e).stay (λc v hc q=>k c v ?_ q) (λ_ q=>q) λ_ _ q=>q
  rcases hc with z |z
  ·rw[z];exact nit b u e
  ·exact nit c _ z
def tY(K:Fg)(a:Addr):It:=
 ⟨λi H=>∃xs x,SqL K H a xs/\xs[i]?=some x,λi H x H'=>∃p y,x=.ref p/\H p=none/\H'=upd H p (.tup [.int (i:Nat),y])/\∀xs,SqL K H a xs->xs[i]?=some y,λi H=>∃xs,SqL K H a xs/\xs.length<=i⟩
def Ui{P:Program}{w:World}{K:Fg}{elts:List Expr}{x1}{pos:Pos}(a e it:Addr)(m:e≠it):Turn P w K (.Tuple elts x1 pos) (tY K a) [e,it] e (λi h=>(∃old,IsEnum h e it (i:Nat) old)/\h.IsListIter it a i) where
 mem:=by simp
 obj:=λi h st b g=>by
  obtain⟨⟨old,j⟩,l⟩:=st;rcases cE g with z |z
  ·subst z
   exact⟨_,j,λv z=>by cases z⟩
  ·have J:b=it:=by simpa using z
   subst J;obtain⟨o,e,c,d⟩:=l;exact⟨o,e,λv z=>by rw[d]at z;cases z⟩
 keep:=λi h h' st k=>by
  obtain⟨⟨old,j⟩,l⟩:=st;exact⟨⟨old,k e (by simp) _ j⟩,l.at λo q=>k it (by simp) o q⟩
 item:=by
  intro X hP hw hK hc i f s σ H E I C st hg;subst hP hw hK;obtain⟨xs,x,y,Y⟩:=hg;obtain⟨its,M,p,hz⟩:=I.list y;obtain⟨u,hu,ru⟩:=M.get Y;obtain⟨⟨old,j⟩,l⟩:=st;refine wpAny_pyNext_enum_item j l p.isList (x:=u) (by simpa using hu) m λh1 a1 a2 a3 a4 a5=>⟨_,Z,?_⟩;refine wpAny_letOwnedTupleGo_enum a1 λh2 b1 b2=>?_;have U:e<s.heap.objs.size:=z8 j;have a0:H s.heap.objs.size=none:=I.hok.fresh (zZ _);have g1:(s.heap.push {cls:=.type "tuple",data:=.seq #[.int (i:Nat) s.toks,u]}).get? s.heap.objs.size=some {cls:=.type "tuple",data:=.seq #[.int (i:Nat) s.toks,u]}:=z9 _ Z
  have I1:Inv X f σ (upd H s.heap.objs.size (.tup [.int (i:Nat),x])) {s with heap:=s.heap.push {cls:=.type "tuple",data:=.seq #[.int (i:Nat) s.toks,u]},toks:=s.toks+1}:=
   I.laid (λb o q=>aT _ q) (zZ _) ⟨by show 2<=sizeLine;decide,[.int (i:Nat) s.toks,u],.cons ⟨_,Z⟩ (.cons ru .nil),⟨_,g1,Z,_,Z,Z⟩⟩
  have n:∀b∈[e,it],FpOk X f (upd H s.heap.objs.size (.tup [.int (i:Nat),x])) b:=λb g=>by
   refine⟨?_,(C b g).2⟩
   have lb:b≠s.heap.objs.size:=by
    rcases cE g with z |z
    ·subst z;exact qE U
    ·have J:b=it:=by simpa using z
     subst J;obtain⟨o,q,_⟩:=l;exact qE (z8 q)
   rw[aG lb];exact(C b g).1
  have I2:Inv X f σ (upd H s.heap.objs.size (.tup [.int (i:Nat),x])) {s with heap:=h2,toks:=s.toks+1}:=
   I1.turnedL (t':=s.toks+1) (λb o g q=>by
    have O:b≠e/\b≠it:=by simpa using g
    have q1:h1.get? b=some o:=by
     by_cases z:b=s.heap.objs.size
     ·subst z
      have q':(s.heap.push {cls:=.type "tuple",data:=.seq #[.int (i:Nat) s.toks,u]}).get? s.heap.objs.size=some o:=q;rw[g1]at q';cases q';exact a3
     ·exact a5 b o O.1 O.2 (xF q z)
    exact(b2.2 b O.1).trans q1) n
  refine⟨.ref s.heap.objs.size,_,I2,Z,⟨_,x,Z,a0,Z,λys hy=>by rw[I.list_inj hy y];exact Y⟩,⟨⟨u,?_⟩,?_⟩,λb g=>(n b g).1⟩
  ·exact b1
  ·obtain⟨o,q,r⟩:=a2
   exact⟨o,(b2.2 it (Ne.symm m)).trans q,r⟩
 done:=by
  intro X hP hw hK hc i f s σ H E I C st hg;subst hP hw hK;obtain⟨xs,y,Y⟩:=hg;obtain⟨its,M,p,hz⟩:=I.list y;obtain⟨⟨old,j⟩,l⟩:=st;have hl:=M.length;obtain⟨f0,f1,f2,f3,f4,f5⟩:=C it (by simp);exact wpAny_pyNext_enum_end (I.ok.hd hc) j l p.isList (by simp;omega) λh' eb=>⟨Z,I.turned (t':=s.toks) (λb o g q=>eb b o g q) f0 f1 f3 f4 f5⟩
 self:=λ_ _ _ _ _ st h=>by
  obtain⟨⟨old,j⟩,l⟩:=st;exact wpAny_pyIter_enum j h
def Lb(K:Fg)(ta:TA):TI:=λσ H R=>ta σ H λvs H1=>∃a,vs=[.ref a]/\(∃xs,SqL K H1 a xs)/\R (tY K a) H1
def Oa{a:Expr}{m:TA}{p pos:Pos}{elts:List Expr}{x1}{o:Pos}(J:Gl X "enumerate")(C:X.mg "enumerate"=none)(O:PA X [a] m)(hs:starEach [a] X.env=[(false,eval a X.env)]:=by rfl):PI X (.Tuple elts x1 o) (.Call (.Name "enumerate" p) [a] [] pos) (Lb X.K m):=by
 intro g s σ H R I h;refine Call_ (oB I J C boot_enumerate (PyProof.Rows.callWith_type1 (aN (O pos g s σ H _ I h) λus c ⟨vs,H1,f,w,x⟩=>?_) hs Z));obtain⟨l,e,⟨xs,y⟩,q⟩:=x;subst e
 cases w with
 |cons r u=>
  cases u;obtain rfl:=r;obtain⟨its,rv,pl,hz⟩:=f.list y;refine call_enumerate_list pl.isList λh' n Y e3 U=>wpAny_pyIter_enum n ?_;refine⟨c.heap.objs.size+1,[c.heap.objs.size+1,c.heap.objs.size],_,_,H1,Z,f.kept (t':=c.toks) U,Ui l _ _ (Nat.succ_ne_self _),⟨⟨_,n⟩,Y⟩,λb M=>?_,q⟩;have j:b=c.heap.objs.size+1\/b=c.heap.objs.size:=by simpa using M
  rcases j with z |z <;> subst z
  ·exact f.fpOk (qM _) (f.hok.fresh (qM _))
  ·exact f.fpOk (zZ _) (f.hok.fresh (zZ _))
end
end L2
end
section
namespace M
open PySem
inductive Tr where
 |w (x:List Nat)
 |l (ts:List Tr)
mutual
def Tr.cs:Tr->List Nat
 |.w x=>x
 |.l ts=>40::(bs ts).tail++[41]
def bs:List Tr->List Nat
 |[]=>[]
 |t::ts=>32::(t.cs++bs ts)
end
mutual
def Tr.nest:Tr->Nat
 |.w _=>0
 |.l ts=>eT ts+1
def eT:List Tr->Nat
 |[]=>0
 |t::ts=>max t.nest (eT ts)
end
def lW(x:List Nat):Prop:=x≠[]/\∀c∈x,c≠32/\c≠40/\c≠41
mutual
def Tr.Good:Tr->Prop
 |.w x=>lW x
 |.l ts=>2<=ts.length/\(∃h r,ts=.w h::r)/\nZ ts
def nZ:List Tr->Prop
 |[]=>True
 |t::ts=>t.Good/\nZ ts
end
abbrev aX:=List (List Tr)
def push(t:Tr):aX->aX
 |[]=>[]
 |top::st=>(top++[t])::st
def gV:Nat->aX->aX
 |0,st=>st
 |k+1,top::par::st=>gV k ((par++[.l top])::st)
 |_+1,st=>st
def eJ(x:List Nat):List Nat:=(x.reverse.dropWhile (· == 41)).reverse
def fY(c:Nat)(st:aX):Option aX:=if c<st.length then some (gV c st) else none
def hV(core:List Nat)(c:Nat)(st:aX):Option aX:=
 if core.head?=some 40 then (if st.length<=20 then fY c (push (.w core.tail) ([]::st)) else none) else fY c (push (.w core) st)
def bZ(x:List Nat)(st:aX):Option aX:=hV (eJ x) (x.length-(eJ x).length) st
def bW:List (List Nat)->aX->Option aX
 |[],st=>some st
 |x::xs,st=>(bZ x st).bind (bW xs)
theorem xG:∀(a b:List (List Nat)) (st:aX),bW (a++b) st=(bW a st).bind (bW b)
 |[],_,_=>Z
 |x::a,b,st=>by
  show(bZ x st).bind (bW (a++b))=((bZ x st).bind (bW a)).bind (bW b)
  cases bZ x st with
  |none=>rfl
  |some st'=>exact xG a b st'
theorem rO(t:Tr)(st:aX):(push t st).length=st.length:=by
 cases st <;> rfl
def Iy{x:List Nat}(k:Nat)(h:x≠[])(hx:∀c∈x,c≠41):eJ (x++List.replicate k 41)=x:=by
 unfold eJ;rw[List.reverse_append,List.reverse_replicate]
 have e:∀k:Nat,((List.replicate k 41++x.reverse).dropWhile (· == 41))=x.reverse:=by
  intro k
  induction k with
  | zero=>
   rw[List.replicate_zero,List.nil_append]
   cases hr:x.reverse with
   |nil=>rfl
   | cons c r=>
    have hc:c∈x:=by
     have:c∈x.reverse:=by rw[hr];exact List.mem_cons_self
     exact List.mem_reverse.mp this
    rw[List.dropWhile_cons,if_neg];simpa using hx c hc
  |succ k ih=>
   rw[List.replicate_succ,List.cons_append,List.dropWhile_cons,if_pos (by rfl)];exact ih
 rw[e,List.reverse_reverse]
theorem Sz{x:List Nat}(k:Nat)(st:aX)(h:lW x):bZ (x++List.replicate k 41) st=fY k (push (.w x) st):=by
 have e:=Iy k h.1 (λc b=>(h.2 c b).2.2);unfold bZ;rw[e];unfold hV;rw[if_neg,bK,List.length_replicate,Nat.add_sub_cancel_left];intro a
 cases x with
 |nil=>cases a
 |cons c r=>
  have:=(h.2 c List.mem_cons_self).2.1;simp at a;exact this a
def S7{x:List Nat}(k:Nat)(st:aX)(h:lW x)(hs:st.length<=20):bZ (40::x++List.replicate k 41) st=fY k (push (.w x) ([]::st)):=by
 have e:=Iy (x:=40::x) k (by simp) (λc a=>by
  rcases cE a with rfl |a
  ·decide
  ·exact(h.2 c a).2.2)
 unfold bZ;rw[e];unfold hV;rw[if_pos (show(40::x).head?=some 40 from Z),if_pos hs,bK,List.length_replicate,Nat.add_sub_cancel_left];rfl
def cH:List (List Nat)->List Nat
 |[]=>[]
 |[x]=>x
 |x::y::r=>x++32::cH (y::r)
theorem rP:∀(a b:List (List Nat)),a≠[]->b≠[]->cH (a++b)=cH a++32::cH b
 |[],_,h,_=>absurd Z h
 |[x],b,_,h=>by
  cases b with
  |nil=>exact absurd Z h
  |cons y r=>rfl
 |x::y::a,b,_,h=>by
  show x++32::cH ((y::a)++b)=(x++32::cH (y::a))++32::cH b;rw[rP (y::a) b (by simp) h];simp
theorem U3(a:List (List Nat))(x y:List Nat):cH (a++[x++y])=cH (a++[x])++y:=by
 cases a with
 |nil=>rfl
 |cons z r=>
  rw[rP _ _ (by simp) (by simp),rP _ _ (by simp) (by simp)];show _++32::(x++y)=(_++32::x)++y;simp
theorem Jm:∀(a:Nat) (st:aX),a<st.length->(gV a st).length+a=st.length
 |0,st,_=>Z
 | a+1,st,h=>by
  match st,h with
  |[],h=>simp at h
  |[_],h=>simp at h
  |top::b::st,h=>
   have:=Jm a ((b++[.l top])::st) (by simp at h⊢;omega);show(gV a ((b++[.l top])::st)).length+(a+1)=_;simp at this⊢;omega
structure Words(t:Tr)(pre:List (List Nat))(last:List Nat):Prop where
 join:cH (pre++[last])=t.cs
 free:∀x∈pre++[last],32 ∉x
 run:∀(k:Nat) (st:aX),1<=st.length->st.length+t.nest<=21->k<st.length->bW (pre++[last++List.replicate k 41]) st=some (gV k (push t st))
structure WordsL(ts:List Tr)(pre:List (List Nat))(last:List Nat):Prop where
 join:cH (pre++[last])=(bs ts).tail
 free:∀x∈pre++[last],32 ∉x
 run:∀(k:Nat) (top:List Tr) (st:aX),st.length+1+eT ts<=21->k<st.length+1->bW (pre++[last++List.replicate k 41]) (top::st)=some (gV k ((top++ts)::st))
theorem Jh{k:Nat}{st:aX}(h:k<st.length):fY k st=some (gV k st):=by
 unfold fY;rw[if_pos h]
def Pn{x:List Nat}(h:lW x):Words (.w x) [] x where
 join:=Z
 free:=λy a=>by
  simp at a;subst a;intro b;exact(h.2 _ b).1 Z
 run:=λk st e _ c=>by
  show(bZ (x++List.replicate k 41) st).bind (bW [])=_;rw[Sz k st h,Jh (by rw[rO];exact c)];rfl
theorem sL(t:Tr)(ts:List Tr):(bs (t::ts)).tail=t.cs++bs ts:=Z
theorem zQ{ts:List Tr}(h:ts≠[]):bs ts=32::(bs ts).tail:=by
 cases ts with
 |nil=>exact absurd Z h
 |cons t r=>rfl
mutual
theorem words:∀(t:Tr),t.Good->∃pre last,Words t pre last
 |.w x,h=>⟨[],x,Pn h⟩
 |.l [],h=>by have:=h.1;simp at this
 | .l (t::ts),h=>by
  obtain⟨h2,⟨hd,r,e⟩,g⟩:=h;cases e
  have hne:ts≠[]:=by
   intro e;subst e;simp at h2
  have g0:lW hd:=g.1;obtain⟨pre,last,W⟩:=yI ts hne g.2;refine⟨(40::hd)::pre,last++[41],?_,?_,?_⟩
  ·show cH (((40::hd)::pre)++[last++[41]])=40::(bs (.w hd::ts)).tail++[41]
   rw[U3,sL,List.cons_append];rw[show(40::hd)::(pre++[last])=[40::hd]++(pre++[last]) from rfl,rP _ _ (by simp) (by simp),W.join,zQ hne];show(40::hd++_)++[41]=40::(hd++_)++[41];simp
  ·intro x hx
   rw[List.cons_append]at hx;rcases cE hx with rfl |hx
   ·intro hm
    rcases cE hm with e |hm
    ·exact absurd e (by decide)
    ·exact(g0.2 _ hm).1 rfl
   ·rcases eA hx with hx |hx
    ·exact W.free x (zR _ hx)
    ·have:=eG hx
     subst this;intro hm;rcases eA hm with hm |hm
     ·exact W.free last (zJ _ (by simp)) hm
     ·simp at hm
  ·intro k st h1 hn hk
   have hn':st.length+(max 0 (eT ts)+1)<=21:=hn;have hn2:st.length+1+eT ts<=21:=by omega
   have e:last++[41]++List.replicate k 41=last++List.replicate (k+1) 41:=by
    rw[List.append_assoc,List.replicate_succ];rfl
   rw[List.cons_append];show(bZ (40::hd) st).bind (bW (pre++[last++[41]++List.replicate k 41]))=_;rw[e];have p:=S7 0 st g0 (by omega);rw[List.replicate_zero,List.append_nil]at p;rw[p,Jh (by rw[rO];simp)];show bW (pre++[last++List.replicate (k+1) 41]) ([.w hd]::st)=_;rw[W.run (k+1) [.w hd] st (by omega) (by omega)]
   cases st with
   |nil=>simp at h1
   |cons par st'=>rfl
theorem yI:∀(ts:List Tr),ts≠[]->nZ ts->∃pre last,WordsL ts pre last
 |[],h,_=>absurd rfl h
 | t::ts,_,g=>by
  obtain⟨pre,last,W⟩:=words t g.1;by_cases hne:ts=[]
  ·subst hne
   refine⟨pre,last,?_,W.free,?_⟩
   ·rw[W.join,sL]
    show _=t.cs++[];simp
   ·intro k top st hn hk
    have hn':st.length+1+max t.nest 0<=21:=hn;rw[W.run k (top::st) (by simp) (by simp;omega) (by simpa using hk)];rfl
  ·obtain⟨pre2,last2,W2⟩:=yI ts hne g.2
   refine⟨pre++[last]++pre2,last2,?_,?_,?_⟩
   ·rw[List.append_assoc,rP _ _ (by simp) (by simp),W.join,W2.join,sL,<- zQ hne]
   ·intro x hx
    rw[List.append_assoc]at hx;rcases eA hx with hx |hx
    ·exact W.free x hx
    ·exact W2.free x hx
   ·intro k top st hn hk
    have hn':st.length+1+max t.nest (eT ts)<=21:=hn;rw[List.append_assoc,xG];have r1:=W.run 0 (top::st) (by simp) (by simp;omega) (by simp);rw[List.replicate_zero,List.append_nil]at r1;rw[r1];show bW (pre2++[last2++List.replicate k 41]) ((top++[t])::st)=_;rw[W2.run k (top++[t]) st (by omega) hk];simp
end
inductive D where
 |int (i:Int)
 |str (x:Str)
 |tup (ds:List D)
mutual
def D.size:D->Nat
 |.int _=>1
 |.str _=>1
 |.tup ds=>cF ds+1
def cF:List D->Nat
 |[]=>0
 |d::ds=>d.size+cF ds
end
theorem xE:∀(a b:List D),cF (a++b)=cF a+cF b
 |[],b=>by simp[cF]
 |d::a,b=>by
  show d.size+cF (a++b)=d.size+cF a+cF b;rw[xE a b];omega
def Rb(d:D):1<=d.size:=by
 cases d <;> simp[D.size]
theorem Bk:∀(ds:List D),ds.length<=cF ds
 |[]=>zZ _
 |d::ds=>by
  have:=Bk ds;have:=Rb d;show ds.length+1<=d.size+cF ds;omega
inductive All2{α β:Type}(R:α->β->Prop):List α->List β->Prop where
 |nil:All2 R [] []
 |cons {a b as bs} (h:R a b) (t:All2 R as bs):All2 R (a::as) (b::bs)
def Xe{α:Type}{l:List α}{n:Nat}(h:l.length=n+1):∃a t,l=a::t/\t.length=n:=by
 cases l with
 |nil=>cases h
 |cons a t=>exact⟨a,t,Z,Nat.succ.inj h⟩
def Xf{α:Type}{l:List α}(h:l.length=1):∃a,l=[a]:=by
 obtain⟨a,t,rfl,g⟩:=Xe (n:=0) h;exact⟨a,by rw[List.eq_nil_of_length_eq_zero g]⟩
theorem All2.length{α β:Type}{R:α->β->Prop}{as:List α}{bs:List β}(h:All2 R as bs):as.length=bs.length:=by
 induction h with
 |nil=>rfl
 |cons _ _ a=>simp[a]
theorem All2.append{α β:Type}{R:α->β->Prop}{as b:List α}{bs a:List β}(h:All2 R as bs)(k:All2 R b a):All2 R (as++b) (bs++a):=by
 induction h with
 |nil=>exact k
 |cons h _ c=>exact .cons h c
theorem All2.imp{α β:Type}{R S:α->β->Prop}{as:List α}{bs:List β}(h:All2 R as bs)(f:∀a b,R a b->S a b):All2 S as bs:=by
 induction h with
 |nil=>exact .nil
 |cons h _ c=>exact .cons (f _ _ h) c
theorem All2.get{α β:Type}{R:α->β->Prop}{as:List α}{bs:List β}(h:All2 R as bs):∀{i:Nat} {a:α},as[i]?=some a->∃b,bs[i]?=some b/\R a b:=by
 induction h with
 |nil=>intro i a e;simp at e
 |cons h _ c=>
  intro i a e
  cases i with
  |zero=>simp at e;subst e;exact⟨_,by simp,h⟩
  |succ i=>simpa using c (i:=i) (a:=a) (by simpa using e)
def S(s:String):Str:=Str.ofString s
def fP(c:Nat):Bool:=97<=c && c<=122
def gT(c:Nat):Bool:=48<=c && c<=57
def gK(x:List Nat):Bool:=1<=x.length && x.length<=6 && x.all fP && x != [110,117,109] && x != [105,116]
def Name(x:Str):Prop:=gK x.cps.toList=true
def ops:List Str:=[S "+",S "-",S "*",S "<",S "="]
def tx(x:Str):Tr:=.w x.cps.toList
def Jn{c:Nat}(h:fP c=true):c≠32/\c≠40/\c≠41:=by
 simp[fP]at h;omega
def Vv{c:Nat}(h:gT c=true):c≠32/\c≠40/\c≠41:=by
 simp[gT]at h;omega
theorem Name.letters{x:Str}(h:Name x):∀c∈x.cps.toList,fP c=true:=by
 unfold Name gK at h;simp only[Bool.and_eq_true,List.all_eq_true]at h;exact h.1.1.2
theorem Name.pos{x:Str}(h:Name x):x.cps.toList≠[]:=by
 unfold Name gK at h;simp only[Bool.and_eq_true,decide_eq_true_eq]at h;intro e;rw[e]at h;simp at h
theorem Name.le{x:Str}(h:Name x):x.cps.toList.length<=6:=by
 unfold Name gK at h;simp only[Bool.and_eq_true,decide_eq_true_eq]at h;exact h.1.1.1.2
theorem Name.plain{x:Str}(h:Name x):lW x.cps.toList:=⟨h.pos,λc a=>Jn (h.letters c a)⟩
def Bx(x:Str):Prop:=Name x\/x=S "it"
theorem Bx.letters{x:Str}(h:Bx x):∀c∈x.cps.toList,fP c=true:=by
 rcases h with h |rfl
 ·exact h.letters
 ·decide +kernel
theorem Bx.pos{x:Str}(h:Bx x):x.cps.toList≠[]:=by
 rcases h with h |rfl
 ·exact h.pos
 ·decide +kernel
theorem Bx.le{x:Str}(h:Bx x):x.cps.toList.length<=6:=by
 rcases h with h |rfl
 ·exact h.le
 ·decide +kernel
theorem Bx.plain{x:Str}(h:Bx x):lW x.cps.toList:=⟨h.pos,λc a=>Jn (h.letters c a)⟩
def cW(n:Int):Str:=Str.ofString (toString n)
def dF(d:D)(t:Tr):Prop:=
 (∃n:Int,0<=n/\n<10 ^ 10/\d=.tup [.str (S "num"),.int n]/\t=tx (cW n))\/(∃x:Str,Bx x/\d=.tup [.str (S "box"),.str x]/\t=tx x)
def mT(R:D->Tr->Prop)(d:D)(t:Tr):Prop:=∃g x e te,Name g/\Name x/\R e te/\d=.tup [.str g,.str x,e]/\t=.l [tx g,tx x,te]
def Node (R:D->Tr->Prop) (d:D) (t:Tr):Prop:=
  (∃s a b ta tb,s∈ops/\R a ta/\R b tb/\d=.tup [.str (S "op"),.str s,a,b]/\t=.l [tx s,ta,tb])
  \/ (∃k es ts,Name k/\es.length<=5/\All2 R es ts/\d=.tup [.str (S "rec"),.str k,.tup es]/\t=.l (tx (S "rec")::tx k::ts))
  \/ (∃a ta f,Name f/\R a ta/\d=.tup [.str (S "get"),a,.str f]/\t=.l [tx (S "get"),ta,tx f])
  \/ (∃k g a ta,Name k/\Name g/\R a ta/\d=.tup [.str (S "tag"),.str k,.str g,a]/\t=.l [tx (S "tag"),tx k,tx g,ta])
  \/ (∃a ta arms ts,R a ta/\1<=arms.length/\arms.length<=4/\All2 (mT R) arms ts/\d=.tup [.str (S "case"),a,.tup arms]/\t=.l (tx (S "case")::ta::ts))
  \/ (∃a b c ta tb tc,R a ta/\R b tb/\R c tc/\d=.tup [.str (S "if"),a,b,c]/\t=.l [tx (S "if"),ta,tb,tc])
def T2:Nat->D->Tr->Prop
 |0,d,t=>dF d t
 |n+1,d,t=>dF d t\/Node (T2 n) d t
def T2.leaf{n:Nat}{d:D}{t:Tr}(h:dF d t):T2 n d t:=by
 cases n with
 |zero=>exact h
 |succ n=>exact .inl h
theorem num_reads(m:Nat):(cW (m:Int)).cps.toList=(Nat.toDigits 10 m).map Char.toNat:=by
 unfold cW;rw[Str.ofString_eq_toList];show(Nat.repr m).toList.map Char.toNat=_;rw[Nat.toList_repr]
def Bh{n:Int}(h:0<=n):∀c∈(cW n).cps.toList,gT c=true:=by
 obtain⟨m,rfl⟩:=Int.eq_ofNat_of_zero_le h;intro c b;rw[num_reads]at b;obtain⟨ch,a,e⟩:=fX b;have r:=Nat.isDigit_of_mem_toDigits (by decide) (by decide) a;subst e;simp[gT];simp[Char.isDigit]at r;have g:(48:Nat)<=ch.val.toNat:=r.1;have f:ch.val.toNat<=57:=r.2;exact⟨g,f⟩
def yH{n:Int}(h:0<=n):(cW n).cps.toList≠[]:=by
 obtain⟨m,rfl⟩:=Int.eq_ofNat_of_zero_le h;rw[num_reads];intro e;have:=Nat.length_toDigits_pos (b:=10) (n:=m);rw[List.map_eq_nil_iff.mp e]at this;simp at this
def yT{n:Int}(h:0<=n)(c:n<10 ^ 10):(cW n).cps.toList.length<=10:=by
 obtain⟨m,rfl⟩:=Int.eq_ofNat_of_zero_le h;rw[num_reads,aR];have a:m<10 ^ 10:=by omega
 exact(Nat.length_toDigits_le_iff (b:=10) (k:=10) (by decide) (by decide)).mpr a
theorem Gm{R:D->Tr->Prop}{es:List D}{ts:List Tr}(h:All2 R es ts)(g:∀d t,R d t->t.Good):nZ ts:=by
 induction h with
 |nil=>exact True.intro
 |cons h _ a=>exact⟨g _ _ h,a⟩
def Gq{R:D->Tr->Prop}{m:Nat}{es:List D}{ts:List Tr}(h:All2 R es ts)(g:∀d t,R d t->t.nest<=m):eT ts<=m:=by
 induction h with
 |nil=>exact qR _
 |cons h _ a=>exact Nat.max_le.mpr ⟨g _ _ h,a⟩
def Ha{R:D->Tr->Prop}{m:Nat}{es:List D}{ts:List Tr}(h:All2 R es ts)(g:∀d t,R d t->t.cs.length<=m):(bs ts).length<=ts.length*(m+1):=by
 induction h with
 |nil=>exact qR _
 |@cons a b as c h _ e=>
  have:=g _ _ h;show(32::(b.cs++bs c)).length<=(c.length+1)*(m+1);rw[List.length_cons,bK,Nat.succ_mul];omega
def Hn{d:D}{t:Tr}(h:dF d t):t.Good:=by
 rcases h with⟨n,h0,e,_,rfl⟩ |⟨x,a,_,rfl⟩
 ·exact⟨yH h0,λc b=>Vv (Bh h0 c b)⟩
 ·exact a.plain
theorem Sx:∀s∈ops,lW s.cps.toList:=by
 have e:∀s∈ops,(decide (s.cps.toList≠[]) && s.cps.toList.all λc=>c != 32 && c != 40 && c != 41)=true:=by walk_at"k"
 intro s hs;have:=e s hs;simp only[Bool.and_eq_true,decide_eq_true_eq,List.all_eq_true,bne_iff_ne]at this;exact⟨this.1,λc a=>⟨(this.2 c a).1.1,(this.2 c a).1.2,(this.2 c a).2⟩⟩
def rS:List Str:=[S "rec",S "get",S "tag",S "case",S "if"]
theorem tD:∀s∈rS,lW s.cps.toList:=by
 have e:∀s∈rS,(decide (s.cps.toList≠[]) && s.cps.toList.all λc=>c != 32 && c != 40 && c != 41)=true:=by walk_at"k"
 intro s hs;have:=e s hs;simp only[Bool.and_eq_true,decide_eq_true_eq,List.all_eq_true,bne_iff_ne]at this;exact⟨this.1,λc a=>⟨(this.2 c a).1.1,(this.2 c a).1.2,(this.2 c a).2⟩⟩
theorem Pi{R:D->Tr->Prop}(g:∀d t,R d t->t.Good){d:D}{t:Tr}(h:mT R d t):t.Good:=by
 obtain⟨a,x,e,j,f,b,c,_,rfl⟩:=h;exact⟨by simp,⟨_,_,Z⟩,f.plain,b.plain,g _ _ c,True.intro⟩
theorem T2.good:∀{n:Nat} {d:D} {t:Tr},T2 n d t->t.Good
 |0,d,t,h=>Hn h
 |n+1,d,t,h=>by
  have e:∀d t,T2 n d t->t.Good:=λd t h=>T2.good h;rcases h with h |⟨s,a,b,l,u,hs,j,p,_,rfl⟩ |⟨k,es,ts,m,_,o,_,rfl⟩ |⟨a,l,f,x,j,_,rfl⟩ |⟨k,g,a,l,m,w,j,_,rfl⟩ |⟨a,l,r,ts,j,C,_,hs,_,rfl⟩ |⟨a,b,c,l,u,z,j,p,y,_,rfl⟩
  ·exact Hn h
  ·exact⟨by simp,⟨_,_,Z⟩,Sx s hs,e _ _ j,e _ _ p,True.intro⟩
  ·exact⟨by simp,⟨_,_,Z⟩,tD _ (by walk_at"k"),m.plain,Gm o e⟩
  ·exact⟨by simp,⟨_,_,Z⟩,tD _ (by walk_at"k"),e _ _ j,x.plain,True.intro⟩
  ·exact⟨by simp,⟨_,_,Z⟩,tD _ (by walk_at"k"),m.plain,w.plain,e _ _ j,True.intro⟩
  ·exact⟨by simp,⟨_,_,Z⟩,tD _ (by walk_at"k"),e _ _ j,Gm hs λd t h=>Pi e h⟩
  ·exact⟨by simp,⟨_,_,Z⟩,tD _ (by walk_at"k"),e _ _ j,e _ _ p,e _ _ y,True.intro⟩
theorem Ho{d:D}{t:Tr}(h:dF d t):t.nest=0:=by
 rcases h with⟨n,h0,b,_,rfl⟩ |⟨x,a,_,rfl⟩ <;> rfl
theorem oM(x:Str):(tx x).nest=0:=Z
theorem T2.nest:∀{n:Nat} {d:D} {t:Tr},T2 n d t->t.nest<=2*n
 |0,d,t,h=>by rw[Ho h];omega
 | n+1,d,t,h=>by
  have j:∀d t,T2 n d t->t.nest<=2*n:=λd t h=>T2.nest h;rcases h with h |⟨s,a,b,o,w,hs,l,r,_,rfl⟩ |⟨k,es,ts,y,_,p,_,rfl⟩ |⟨a,o,f,O,l,_,rfl⟩ |⟨k,g,a,o,y,M,l,_,rfl⟩ |⟨a,o,u,ts,l,U,_,hs,_,rfl⟩ |⟨a,b,c,o,w,J,l,r,C,_,rfl⟩
  ·rw[Ho h];omega
  ·have:=j _ _ l;have:=j _ _ r
   simp only[Tr.nest,eT,oM];omega
  ·have:=Gq p j
   simp only[Tr.nest,eT,oM];omega
  ·have:=j _ _ l
   simp only[Tr.nest,eT,oM];omega
  ·have:=j _ _ l
   simp only[Tr.nest,eT,oM];omega
  ·have:=j _ _ l
   have:=Gq (m:=2*n+1) hs λd t h=>by
    obtain⟨g,x,e,I,_,_,z,_,rfl⟩:=h;have:=j _ _ z;simp only[Tr.nest,eT,oM];omega
   simp only[Tr.nest,eT,oM];omega
  ·have:=j _ _ l;have:=j _ _ r;have:=j _ _ C
   simp only[Tr.nest,eT,oM];omega
def A7{d:D}{t:Tr}(h:dF d t):t.cs.length<=10:=by
 rcases h with⟨n,h0,b,_,rfl⟩ |⟨x,a,_,rfl⟩
 ·exact yT h0 b
 ·have:=a.le
  show x.cps.toList.length<=10;omega
theorem iU(x:Str):(tx x).cs=x.cps.toList:=Z
def Pb:∀s∈ops,s.cps.toList.length=1:=by walk_at"k"
def rM:∀s∈rS,s.cps.toList.length<=4:=by walk_at"k"
theorem T2.len:∀{n:Nat} {d:D} {t:Tr},T2 n d t->t.cs.length+20<=30*5 ^ n
 |0,d,t,h=>by have:=A7 h;omega
 | n+1,d,t,h=>by
  have j:∀d t,T2 n d t->t.cs.length<=30*5 ^ n-20:=λd t h=>by have:=T2.len h;omega
  have hp:1<=5 ^ n:=Nat.pow_pos (by decide);have e5:5 ^ (n+1)=5*5 ^ n:=by rw[Nat.pow_succ,Nat.mul_comm]
  generalize hP:5 ^ n=P at *
  have hr:=rM (S "rec") (by walk_at"k");have O:=rM (S "get") (by walk_at"k");have I:=rM (S "tag") (by walk_at"k");have a0:=rM (S "case") (by walk_at"k");have M:=rM (S "if") (by walk_at"k");rcases h with h |⟨s,a,b,r,z,hs,l,p,_,rfl⟩ |⟨k,es,ts,u,h5,o,_,rfl⟩ |⟨a,r,f,U,l,_,rfl⟩ |⟨k,g,a,r,u,w,l,_,rfl⟩ |⟨a,r,y,ts,l,h1,h4,hs,_,rfl⟩ |⟨a,b,c,r,z,tc,l,p,hc,_,rfl⟩
  ·have:=A7 h;omega
  ·have:=j _ _ l;have:=j _ _ p;have:=Pb s hs
   simp only[Tr.cs,bs,List.tail_cons,List.length_cons,bK,List.length_nil,iU];omega
  ·have p:=Ha (m:=30*P-20) o j
   have:=u.le;have J:=o.length;have:ts.length*(30*P-20+1)<=5*(30*P-20+1):=Nat.mul_le_mul_right _ (by omega);simp only[Tr.cs,bs,List.tail_cons,List.length_cons,bK,List.length_nil,iU];omega
  ·have:=j _ _ l;have:=U.le
   simp only[Tr.cs,bs,List.tail_cons,List.length_cons,bK,List.length_nil,iU];omega
  ·have:=j _ _ l;have:=u.le;have:=w.le
   simp only[Tr.cs,bs,List.tail_cons,List.length_cons,bK,List.length_nil,iU];omega
  ·have:=j _ _ l
   have p:=Ha (m:=30*P-4) hs λd t h=>by
    obtain⟨g,x,e,te,w,C,Y,_,rfl⟩:=h;have:=j _ _ Y;have:=w.le;have:=C.le;simp only[Tr.cs,bs,List.tail_cons,List.length_cons,bK,List.length_nil,iU];omega
   have J:=hs.length;have:ts.length*(30*P-4+1)<=4*(30*P-4+1):=Nat.mul_le_mul_right _ (by omega);simp only[Tr.cs,bs,List.tail_cons,List.length_cons,bK,List.length_nil,iU];omega
  ·have:=j _ _ l;have:=j _ _ p;have:=j _ _ hc
   simp only[Tr.cs,bs,List.tail_cons,List.length_cons,bK,List.length_nil,iU];omega
def L(x:Str):List Nat:=x.cps.toList
def fU(l:List Nat):Str:=⟨l.toArray⟩
theorem vG(l:List Nat):L (fU l)=l:=Z
theorem pV(x:Str):fU (L x)=x:=by
 cases x;rfl
def gI{x y:Str}(h:L x=L y):x=y:=by
 rw[<- pV x,<- pV y,h]
theorem gS(x y:Str):L (x++y)=L x++L y:=by
 show(x.cps++y.cps).toList=_;simp[L]
theorem dM(x:Str):(L x).length=x.length:=by
 simp[L,Str.length]
theorem qV(a:Nat):∀ys:List Str,a=32->L (Str.join ⟨#[a]⟩ ys)=cH (ys.map L)
 |[],_=>Z
 |[x],_=>Z
 |x::y::r,h=>by
  subst h;show L (x++⟨#[32]⟩++Str.join ⟨#[32]⟩ (y::r))=L x++32::cH ((y::r).map L);rw[gS,gS,qV 32 (y::r) Z,List.append_assoc];rfl
theorem A6:∀ts:List Tr,cH (ts.map Tr.cs)=(bs ts).tail
 |[]=>Z
 |[t]=>by
  show t.cs=t.cs++bs [];simp[bs]
 |t::u::r=>by
  show t.cs++32::cH ((u::r).map Tr.cs)=t.cs++bs (u::r);rw[A6 (u::r),<- zQ (by simp)]
def Lq{x y a b:List Nat}(g:32 ∉x)(f:32 ∉y)(h:x++32::a=y++32::b):x=y/\a=b:=by
 induction x generalizing y with
 | nil=>
  cases y with
  |nil=>simpa using h
  |cons c y=>
   simp at h;exact absurd (by rw[h.1];simp) f
 | cons c x j=>
  cases y with
  |nil=>
   simp at h;exact absurd (by rw[h.1];simp) g
  |cons d y=>
   simp at h;obtain⟨m,l⟩:=h;obtain⟨o,n⟩:=j (y:=y) (λe=>g (qG _ e)) (λe=>f (qG _ e)) (by simpa using l);exact⟨by rw[m,o],n⟩
theorem Hh:∀(a b:List (List Nat)),a≠[]->b≠[]->(∀x∈a,32 ∉x)->(∀x∈b,32 ∉x)->cH a=cH b->a=b
 |[],_,h,_,_,_,_=>absurd Z h
 |_,[],_,h,_,_,_=>absurd Z h
 |[x],[y],_,_,_,_,h=>by
  have:x=y:=h;rw[this]
 |[x],y::z::r,_,_,e,_,h=>by
  have h':x=y++32::cH (z::r):=h;exact absurd (by rw[h'];simp) (e x (by simp))
 |x::z::r,[y],_,_,_,c,h=>by
  have h':x++32::cH (z::r)=y:=h;exact absurd (by rw[<- h'];simp) (c y (by simp))
 |x::z::r,y::g::j,_,_,e,c,h=>by
  obtain⟨m,l⟩:=Lq (e x (by simp)) (c y (by simp)) h;have:=Hh (z::r) (g::j) (by simp) (by simp) (λu f=>e u (qG _ f)) (λu f=>c u (qG _ f)) l;rw[m,this]
theorem nI(x y:Str):Txt.split x y≠[]:=by
 unfold Txt.split;split
 ·simp
 ·split
  ·simp
  ·rw[StrLaws.partsBetween_eq]
   obtain⟨p,r,e⟩:=StrLaws.partsFrom_ne x y.length 0 (Builtin.Str.occurrences x y 0 x.length (x.length+1));rw[e];simp
def Gf{x:Str}{ws:List (List Nat)}(hn:ws≠[])(c:∀z∈ws,32 ∉z)(b:cH ws=L x):(Txt.split x ⟨#[32]⟩).map L=ws:=by
 refine Hh _ _ ?_ hn ?_ c ?_
 ·intro e
  exact nI x ⟨#[32]⟩ (List.map_eq_nil_iff.mp e)
 ·intro z hz
  obtain⟨p,a,rfl⟩:=fX hz;exact StrLaws.split_free x 32 p a
 ·rw[<- qV 32 _ Z,StrLaws.join_split,b]
theorem Hr(x:Str)(w:Nat):∀(b:List Nat) (a:Nat),(StrLaws.partsFrom x w a b).length=b.length+1
 |[],_=>Z
 |c::r,a=>by
  show(StrLaws.partsFrom x w (c+w) r).length+1=_;rw[Hr x w r];rfl
def Ud(p:Nat->Bool)(l:List Nat):l.take (l.length-(l.reverse.takeWhile p).length)=(l.reverse.dropWhile p).reverse:=by
 have e:l=(l.reverse.dropWhile p).reverse++(l.reverse.takeWhile p).reverse:=by
  rw[<- List.reverse_append,List.takeWhile_append_dropWhile,List.reverse_reverse]
 generalize f:(l.reverse.dropWhile p).reverse=a at *
 generalize c:(l.reverse.takeWhile p)=b at *
 rw[e,bK,List.length_reverse,Nat.add_sub_cancel];simp
def Tv(c:Nat):(⟨#[41]⟩:Str).cps.contains c=(c == 41):=by
 show(#[41]:Array Nat).contains c=_;simp;rfl
def Jg(x:Str):L (Txt.rstripChars x ⟨#[41]⟩)=eJ (L x):=by
 have f:(⟨#[41]⟩:Str).cps.contains=λc=>c == 41:=funext Tv
 have a:L (stripped (⟨#[41]⟩:Str).cps.contains false true x)=eJ (L x):=by
  unfold stripped;show(Builtin.Str.strSub x _ _).cps.toList=_;rw[StrLaws.strSub_toList,f];unfold stripLo stripHi eJ L;simp only[Bool.false_eq_true,if_false,if_true,List.drop_zero,Nat.sub_zero];have g:x.length=x.cps.toList.length:=by simp[Str.length]
  rw[g];exact Ud _ _
 unfold Txt.rstripChars Txt.stripBy;split
 ·rename_i h
  unfold stripSame at h;rw[Bool.and_eq_true,beq_iff_eq,beq_iff_eq]at h;rw[<- a];unfold stripped;have e:=h.1;have b:=h.2;rw[e]at b;rw[e,b,StrLaws.sub_whole]
 ·exact a
def V7(x:Str):(Txt.rstripChars x ⟨#[41]⟩).length<=x.length:=by
 have h:=Jg x;rw[<- dM,h,<- dM];unfold eJ;rw[List.length_reverse];have:=(List.dropWhile_suffix (l:=(L x).reverse) (· == 41)).length_le;simpa using this
def Vy(x:Str):Txt.startswith x ⟨#[40]⟩=decide ((L x).head?=some 40):=by
 unfold Txt.startswith;rw[StrLaws.subAt_eq];have a:x.length=(L x).length:=(dM x).symm;show(decide (0+1<=x.length) && ((L x).drop 0).take 1 == [40])=_;rw[a]
 cases L x with
 |nil=>rfl
 |cons c r=>
  simp;rw[Bool.eq_iff_iff];simp
theorem Ur(x:Str)(h:1<=x.length):L (Txt.slice x (some 1) none)=(L x).tail:=by
 have e:Txt.slice x (some 1) none=StrLaws.sliceText x (some 1) none:=Z;rw[e,StrLaws.sliceText_from ⟨by decide,by rw[show x.cps.toList.length=x.length by simp[Str.length]];omega⟩];show((L x).drop 1).take _=_;rw[List.drop_one];refine dR ?_;rw[List.length_tail];show(L x).length-1<=(((L x).length:Int)-1).toNat;omega
def letters:Str:=S "abcdefghijklmnopqrstuvwxyz"
def oH:Str:=S "0123456789"
def lQ(y:Str)(c:Nat):Bool:=!(Builtin.Str.occurrences y ⟨#[c]⟩ 0 y.length 1).isEmpty
theorem En(y:Str)(c:Nat):lQ y c=decide (c∈L y):=StrLaws.found_one y c
def eU(x y:Str)(m:Int):Bool:=decide (1<=x.length) && decide ((x.length:Int)<=m) && (L x).all (lQ y)
theorem U4(c:Nat):lQ letters c=fP c:=by
 rw[En];have e:L letters=List.range' 97 26:=by walk_at"k"
 rw[e,Bool.eq_iff_iff];simp[fP,List.mem_range'];constructor
 ·rintro⟨i,b,a⟩;omega
 ·rintro⟨b,a⟩;exact⟨c-97,by omega,by omega⟩
theorem U0(c:Nat):lQ oH c=gT c:=by
 rw[En];have e:L oH=List.range' 48 10:=by walk_at"k"
 rw[e,Bool.eq_iff_iff];simp[gT,List.mem_range'];constructor
 ·rintro⟨i,b,a⟩;omega
 ·rintro⟨b,a⟩;exact⟨c-48,by omega,by omega⟩
def fD(x:List Nat):Bool:=decide (1<=x.length) && decide (x.length<=10) && x.all gT && (decide (x=[48]) || decide (x.head?≠some 48))
theorem Wd(x:Str):eU x letters 6=(decide (1<=(L x).length) && decide ((L x).length<=6) && (L x).all fP):=by
 unfold eU;rw[show lQ letters=fP from funext U4,dM];congr 2;rw[Bool.eq_iff_iff];simp;omega
theorem Wc(x:Str):eU x oH 10=(decide (1<=(L x).length) && decide ((L x).length<=10) && (L x).all gT):=by
 unfold eU;rw[show lQ oH=gT from funext U0,dM];congr 2;rw[Bool.eq_iff_iff];simp;omega
theorem O2(x:Str):gK (L x)=(eU x letters 6 && !(decide (x=S "num") || decide (x=S "it"))):=by
 rw[Wd];unfold gK
 have b:(L x != [110,117,109])=!decide (x=S "num"):=by
  by_cases h:x=S "num"
  ·subst h
   decide +kernel
  ·rw[eI h]
   have:L x≠[110,117,109]:=λe=>h (gI (e.trans (by walk_at"k")));simpa using this
 have a:(L x != [105,116])=!decide (x=S "it"):=by
  by_cases h:x=S "it"
  ·subst h
   decide +kernel
  ·rw[eI h]
   have:L x≠[105,116]:=λe=>h (gI (e.trans (by walk_at"k")));simpa using this
 rw[b,a,Bool.not_or,Bool.and_assoc]
theorem Te(x:Str):fD (L x)=(eU x oH 10 && (decide (x=S "0") || !decide ((⟨#[(L x).getD 0 0]⟩:Str)=S "0"))):=by
 rw[Wc];unfold fD;cases h:(decide (1<=(L x).length) && decide ((L x).length<=10) && (L x).all gT)
 ·rfl
 ·rw [Bool.true_and,Bool.true_and]
  have b:1<=(L x).length:=by
   simp only[Bool.and_eq_true,decide_eq_true_eq]at h;exact h.1.1
  have j:decide (L x=[48])=decide (x=S "0"):=by
   rw[decide_eq_decide];constructor
   ·intro e;exact gI (e.trans (by walk_at"k"))
   ·intro e;rw[e];decide +kernel
  have g:decide ((L x).head?≠some 48)=!decide ((⟨#[(L x).getD 0 0]⟩:Str)=S "0"):=by
   cases f:L x with
   |nil=>rw[f]at b;simp at b
   | cons c r=>
    by_cases a:c=48
    ·subst a
     have:(⟨#[(48::r).getD 0 0]⟩:Str)=S "0":=by
      show(⟨#[48]⟩:Str)=S "0";decide +kernel
     rw[cM this];simp
    ·have:¬(⟨#[(c::r).getD 0 0]⟩:Str)=S "0":=by
      show ¬(⟨#[c]⟩:Str)=S "0";intro e;have:=congrArg L e;have l:L (S "0")=[48]:=by walk_at"k"
      rw[l]at this;have:[c]=[48]:=this;simp at this;exact a this
     rw[eI this];simpa using a
  rw[j,g]
def Vr:∀(m:Nat),0<m->((Nat.toDigits 10 m).map Char.toNat).head?≠some 48:=by
 intro m
 induction m using Nat.strongRecOn with
 | _ m e=>
  intro h0;by_cases h:m<10
  ·rw[Nat.toDigits_of_lt_base h]
   have:∀m:Nat,m<10->0<m->[(Nat.digitChar m).toNat].head?≠some 48:=by decide
   exact this m h h0
  ·have f:m%10<10:=Nat.mod_lt m (by decide)
   have t:Nat.toDigits 10 (m / 10)++Nat.toDigits 10 (m%10)=Nat.toDigits 10 (10*(m / 10)+m%10):=Nat.toDigits_append_toDigits (by decide) (by omega) f;rw[Nat.div_add_mod]at t;have hi:=e (m / 10) (by omega) (by omega);rw[<- t,dG];have a:=Nat.length_toDigits_pos (b:=10) (n:=m / 10)
   cases hd:Nat.toDigits 10 (m / 10) with
   |nil=>rw[hd]at a;simp at a
   |cons c r=>
    rw[hd]at hi;simpa using hi
def U7{n:Int}(h:0<=n)(g:n<10 ^ 10):fD (L (cW n))=true:=by
 have f:=Bh h;have b:=yT h g;have hn:=yH h;unfold fD
 have l:1<=(L (cW n)).length:=by
  cases e:L (cW n) with
  |nil=>exact absurd e hn
  |cons c r=>simp
 rw[cM l,cM (show(L (cW n)).length<=10 from b)];have j:(L (cW n)).all gT=true:=List.all_eq_true.mpr f;rw[j,Bool.true_and,Bool.true_and];obtain⟨m,rfl⟩:=Int.eq_ofNat_of_zero_le h;by_cases a:m=0
 ·subst a
  decide +kernel
 ·have:=Vr m (by omega)
  rw[<- num_reads]at this;rw[Bool.true_and,Bool.or_eq_true];exact .inr (cM this)
def Ww{x:Str}(h:Name x):fD (L x)=false:=by
 cases e:L x with
 |nil=>exact absurd e h.pos
 | cons c r=>
  have:=h.letters c (by show c∈L x;rw[e];exact List.mem_cons_self)
  have:gT c=false:=by
   simp[fP]at this;simp[gT];omega
  unfold fD;simp[this]
end M
end
section
namespace M
open PySem L2
mutual
def RelD(H:Hp):V->D->Prop
 |v,.int i=>v=.int i
 |v,.str x=>v=.str x
 |v,.tup ds=>∃a vs,v=.ref a/\H a=some (.tup vs)/\RelDs H vs ds
def RelDs(H:Hp):List V->List D->Prop
 |vs,[]=>vs=[]
 |vs,d::ds=>∃v r,vs=v::r/\RelD H v d/\RelDs H r ds
end
mutual
def RelT(H:Hp):V->Tr->Prop
 |v,.w x=>v=.str (fU x)
 |v,.l ts=>∃a vs,v=.ref a/\H a=some (.lst vs)/\RelTs H vs ts
def RelTs(H:Hp):List V->List Tr->Prop
 |vs,[]=>vs=[]
 |vs,t::ts=>∃v r,vs=v::r/\RelT H v t/\RelTs H r ts
end
mutual
theorem RelD.same{H H':Hp}(s:Same H H'):∀{v:V} (d:D),RelD H v d->RelD H' v d
 |v,.int i,h=>h
 |v,.str x,h=>h
 |v,.tup ds,⟨a,vs,e,ha,h⟩=>⟨a,vs,e,s _ _ ha,RelDs.same s ds h⟩
theorem RelDs.same{H H':Hp}(s:Same H H'):∀{vs:List V} (ds:List D),RelDs H vs ds->RelDs H' vs ds
 |vs,[],h=>h
 |vs,d::ds,⟨v,r,e,h1,h2⟩=>⟨v,r,e,RelD.same s d h1,RelDs.same s ds h2⟩
end
mutual
theorem RelT.same{H H':Hp}(s:Same H H'):∀{v:V} (t:Tr),RelT H v t->RelT H' v t
 |v,.w x,h=>h
 |v,.l ts,⟨a,vs,e,ha,h⟩=>⟨a,vs,e,s _ _ ha,RelTs.same s ts h⟩
theorem RelTs.same{H H':Hp}(s:Same H H'):∀{vs:List V} (ts:List Tr),RelTs H vs ts->RelTs H' vs ts
 |vs,[],h=>h
 |vs,t::ts,⟨v,r,e,h1,h2⟩=>⟨v,r,e,RelT.same s t h1,RelTs.same s ts h2⟩
end
theorem RelDs.length{H:Hp}:∀{vs:List V} {ds:List D},RelDs H vs ds->vs.length=ds.length
 |vs,[],h=>by rw[show vs=[] from h];rfl
 |vs,d::ds,⟨v,r,e,_,a⟩=>by rw[e,List.length_cons,List.length_cons,RelDs.length a]
theorem RelTs.length{H:Hp}:∀{vs:List V} {ds:List Tr},RelTs H vs ds->vs.length=ds.length
 |vs,[],h=>by rw[show vs=[] from h];rfl
 |vs,d::ds,⟨v,r,e,_,a⟩=>by rw[e,List.length_cons,List.length_cons,RelTs.length a]
theorem RelDs.append{H:Hp}:∀{vs us:List V} {ds es:List D},RelDs H vs ds->RelDs H us es->RelDs H (vs++us) (ds++es)
 |vs,us,[],es,h,k=>by rw[show vs=[] from h];exact k
 |vs,us,d::ds,es,⟨v,r,e,b,a⟩,k=>by subst e;exact⟨v,r++us,Z,b,RelDs.append a k⟩
theorem RelTs.append{H:Hp}:∀{vs us:List V} {ds es:List Tr},RelTs H vs ds->RelTs H us es->RelTs H (vs++us) (ds++es)
 |vs,us,[],es,h,k=>by rw[show vs=[] from h];exact k
 |vs,us,d::ds,es,⟨v,r,e,b,a⟩,k=>by subst e;exact⟨v,r++us,Z,b,RelTs.append a k⟩
theorem RelDs.get{H:Hp}:∀{vs:List V} {ds:List D} {i:Nat} {v:V},RelDs H vs ds->vs[i]?=some v->∃d,ds[i]?=some d/\RelD H v d
 |vs,[],i,v,h,e=>by rw[show vs=[] from h]at e;simp at e
 |vs,d::ds,0,v,⟨u,r,a,g,_⟩,e=>by
  subst a;simp at e;subst e;exact⟨d,Z,g⟩
 |vs,d::ds,i+1,v,⟨u,r,a,_,f⟩,e=>by
  subst a;obtain⟨x,b,c⟩:=RelDs.get (i:=i) (v:=v) f (by simpa using e);exact⟨x,by simpa using b,c⟩
theorem RelTs.get{H:Hp}:∀{vs:List V} {ds:List Tr} {i:Nat} {v:V},RelTs H vs ds->vs[i]?=some v->∃d,ds[i]?=some d/\RelT H v d
 |vs,[],i,v,h,e=>by rw[show vs=[] from h]at e;simp at e
 |vs,d::ds,0,v,⟨u,r,a,g,_⟩,e=>by
  subst a;simp at e;subst e;exact⟨d,Z,g⟩
 |vs,d::ds,i+1,v,⟨u,r,a,_,f⟩,e=>by
  subst a;obtain⟨x,b,c⟩:=RelTs.get (i:=i) (v:=v) f (by simpa using e);exact⟨x,by simpa using b,c⟩
def aW(t:Tr):Str:=fU t.cs
def aJ(t:Tr):V:=.str (aW t)
theorem nH:S " "=⟨#[32]⟩:=by walk_at"k"
theorem rL(ys:List Str):L (Txt.join (S " ") ys)=cH (ys.map L):=by
 rw[nH];show L (Builtin.Str.glued ⟨#[32]⟩ ys)=_;rw[StrLaws.glued_eq_join,qV 32 ys Z]
theorem Sl(ts:List Tr):(ts.map aW).map L=ts.map Tr.cs:=by
 rw[List.map_map];rfl
theorem Aw(ts:List Tr):L (Txt.join (S " ") (ts.map aW))=(bs ts).tail:=by
 rw[rL,Sl,A6]
theorem Ez:L (S "(")=[40]:=by walk_at"k"
theorem Fc:L (S ")")=[41]:=by walk_at"k"
theorem Jk(ts:List Tr):S "("++Txt.join (S " ") (ts.map aW)++S ")"=aW (.l ts):=by
 apply gI;rw[gS,gS,Aw,Ez,Fc];rfl
theorem B4:∀ts:List Tr,((ts.map aW).map (·.length)).sum+ts.length=(bs ts).length
 |[]=>Z
 |t::ts=>by
  have:=B4 ts;show(aW t).length+((ts.map aW).map (·.length)).sum+(ts.length+1)=(32::(t.cs++bs ts)).length;rw[List.length_cons,bK,<- this,show(aW t).length=t.cs.length from by rw[<- dM];rfl];omega
def D8(ts:List Tr):(bs ts).length<=(Tr.l ts).cs.length:=by
 show _<=(40::(bs ts).tail++[41]).length;rw[bK,List.length_cons,List.length_tail];simp;omega
theorem pB(ts:List Tr):(Tr.l ts).cs.length=(bs ts).tail.length+2:=by
 show(40::(bs ts).tail++[41]).length=_;simp
theorem iZ(t:Tr):(aW t).length=t.cs.length:=by
 rw[<- dM];rfl
theorem Re(x:Str):aW (tx x)=x:=pV x
theorem iteKF{c A B:Prop}[Decidable c](h:decide c=false)(b:B):if decide c=true then A else B:=by
 rw[h];exact b
theorem iteKT{c A B:Prop}[Decidable c](h:decide c=true)(a:A):if decide c=true then A else B:=by
 rw[h];exact a
def iteBF{c:Bool}{A B:Prop}(h:c=false)(b:B):if c=true then A else B:=by
 rw[h];exact b
theorem iteBT{c:Bool}{A B:Prop}(h:c=true)(a:A):if c=true then A else B:=by
 rw[h];exact a
def Ca{n:Nat}(h:n<=7):5 ^ n<=78125:=zY (Nat.pow_le_pow_right (by decide) h) (by decide)
def T2.short{n:Nat}{d:D}{t:Tr}(h:T2 n d t)(hn:n<=7):t.cs.length<=2400000:=by
 have:=h.len;have:=Ca hn;omega
def aQ(bad:List Addr)(H:Hp):Hp:=λb=>if b∈bad then none else H b
def hide_get{bad:List Addr}{H:Hp}{b:Addr}{o:HO}:aQ bad H b=some o ↔ b ∉bad/\H b=some o:=by
 unfold aQ;by_cases h:b∈bad
 ·rw[if_pos h];simp[h]
 ·rw[if_neg h];simp[h]
structure PileAt(H:Hp)(p:Addr)(as:List Addr)(st:aX):Prop where
 pile:H p=some (.lst (as.map V.ref).reverse)
 nd:as.Nodup
 np:p ∉as
 lists:All2 (λa ts=>∃vs,H a=some (.lst vs)/\RelTs (aQ (p::as) H) vs ts) as st
def bJ(st:aX):Nat:=(st.map List.length).sum
theorem PileAt.len{H:Hp}{p:Addr}{as:List Addr}{st:aX}(h:PileAt H p as st):as.length=st.length:=h.lists.length
theorem All2.mono_mem{α β:Type}{R S:α->β->Prop}{as:List α}{bs:List β}(h:All2 R as bs)(f:∀a b,a∈as->R a b->S a b):All2 S as bs:=by
 induction h with
 |nil=>exact .nil
 |cons h t c=>exact .cons (f _ _ List.mem_cons_self h) (c λa b e=>f a b (qG _ e))
theorem J7{bad:List Addr}{H:Hp}{a:Addr}{o:HO}(c:a∈bad):aQ bad (upd H a o)=aQ bad H:=by
 funext b
 unfold aQ;by_cases h:b∈bad
 ·rw[if_pos h,if_pos h]
 ·rw[if_neg h,if_neg h,aG (λ(e:b=a)=>h (e ▸ c))]
theorem PileAt.push {H:Hp} {p a:Addr} {as:List Addr} {top:List Tr} {st:aX} {vs:List V} {v:V} {t:Tr} (h:PileAt H p (a::as) (top::st)) (ha:H a=some (.lst vs)) (hv:RelT (aQ (p::a::as) H) v t) :
  PileAt (upd H a (.lst (vs++[v]))) p (a::as) ((top++[t])::st) where
 pile:=by rw[aG (λe=>h.np (by rw[e];exact List.mem_cons_self))];exact h.pile
 nd:=h.nd
 np:=h.np
 lists:=by
  have hh:aQ (p::a::as) (upd H a (.lst (vs++[v])))=aQ (p::a::as) H:=J7 (by simp);rw[hh]
  cases h.lists with
  |cons h1 h2=>
   obtain⟨vs',e,r⟩:=h1;rw[ha]at e;cases e;refine .cons ⟨_,aC,r.append ⟨v,[],rfl,hv,rfl⟩⟩ (h2.mono_mem λb ts hb ⟨us,e,r⟩=>⟨us,?_,r⟩);rw[aG (λ(e:b=a)=>(List.nodup_cons.mp h.nd).1 (e ▸ hb))];exact e
def PileAt.push_same{H:Hp}{p a:Addr}{as:List Addr}{o:HO}:Same (aQ (p::a::as) H) (aQ (p::a::as) (upd H a o)):=by
 rw[J7 (by simp)];exact Same.refl _
def PileAt.opens {H:Hp} {p n:Addr} {as:List Addr} {st:aX} (h:PileAt H p as st) (hn:H n=none) :
  PileAt (upd (upd H n (.lst [])) p (.lst ((as.map V.ref).reverse++[.ref n]))) p (n::as) ([]::st)/\Same (aQ (p::as) H) (aQ (p::n::as) (upd (upd H n (.lst [])) p (.lst ((as.map V.ref).reverse++[.ref n])))):=by
 have pn:p≠n:=λe=>by have:=h.pile;rw[e,hn]at this;cases this
 have na:n ∉as:=λhm=>by
  obtain⟨i,hi⟩:=List.getElem?_of_mem hm;obtain⟨ts,_,vs,e,_⟩:=h.lists.get hi;rw[hn]at e;cases e
 have sm:Same (aQ (p::as) H) (aQ (p::n::as) (upd (upd H n (.lst [])) p (.lst ((as.map V.ref).reverse++[.ref n])))):=λb o e=>by
  obtain⟨hb,e⟩:=hide_get.mp e;have b1:b≠p:=λq=>hb (by rw[q];exact List.mem_cons_self);have b2:b≠n:=λq=>by rw[q,hn]at e;cases e
  refine hide_get.mpr ⟨λhm=>?_,by rw[aG b1,aG b2];exact e⟩;rcases cE hm with q |hm
  ·exact b1 q
  ·rcases cE hm with q |hm
   ·exact b2 q
   ·exact hb (qG _ hm)
 refine⟨⟨by rw[aC];simp,List.nodup_cons.mpr ⟨na,h.nd⟩,λhm=>?_,.cons ⟨[],?_,rfl⟩ (h.lists.mono_mem λb ts hb ⟨us,e,r⟩=>⟨us,?_,r.same sm _⟩)⟩,sm⟩
 ·rcases cE hm with q |hm
  ·exact pn q
  ·exact h.np hm
 ·rw[aG pn.symm,aC]
 ·rw[aG (λ(q:b=p)=>h.np (q ▸ hb)),aG (λ(q:b=n)=>na (q ▸ hb))]
  exact e
def PileAt.shuts {H:Hp} {p a b:Addr} {as:List Addr} {top par:List Tr} {st:aX} {vs:List V} (h:PileAt H p (a::b::as) (top::par::st)) (hb:H b=some (.lst vs)) :
  PileAt (upd (upd H p (.lst ((b::as).map V.ref).reverse)) b (.lst (vs++[.ref a]))) p (b::as) ((par++[.l top])::st) ∧
  Same (aQ (p::a::b::as) H) (aQ (p::b::as) (upd (upd H p (.lst ((b::as).map V.ref).reverse)) b (.lst (vs++[.ref a])))):=by
 have pb:b≠p:=λe=>h.np (by rw[<- e];simp);have pa:a≠p:=λe=>h.np (by rw[<- e];simp);have ab:a≠b:=λe=>(List.nodup_cons.mp h.nd).1 (by rw[e];simp)
 have sm:Same (aQ (p::a::b::as) H) (aQ (p::b::as) (upd (upd H p (.lst ((b::as).map V.ref).reverse)) b (.lst (vs++[.ref a])))):=λc o e=>by
  obtain⟨hc,e⟩:=hide_get.mp e;refine hide_get.mpr ⟨λhm=>hc ?_,?_⟩
  ·rcases cE hm with q |hm
   ·rw[q];simp
   ·exact qG _ (qG _ hm)
  ·rw[aG (λq=>hc (by rw[q];simp)),aG (λq=>hc (by rw[q];simp))]
   exact e
 cases h.lists with
 | cons h1 h2=>
  cases h2 with
  | cons h2 h3=>
   obtain⟨us,ea,ra⟩:=h1;obtain⟨vs',eb,rb⟩:=h2;rw[hb]at eb;cases eb;have nd2:=List.nodup_cons.mp h.nd;have nd3:=List.nodup_cons.mp nd2.2;refine⟨⟨by rw[aG pb.symm,aC],nd2.2,λhm=>h.np (qG _ hm),.cons ⟨_,aC,?_⟩ (h3.mono_mem λc ts hc ⟨ws,e,r⟩=>⟨ws,?_,r.same sm _⟩)⟩,sm⟩
   ·refine(rb.same sm _).append ⟨.ref a,[],rfl,⟨a,us,rfl,?_,ra.same sm _⟩,rfl⟩
    refine hide_get.mpr ⟨λhm=>?_,by rw[aG ab,aG pa];exact ea⟩;rcases cE hm with q |hm
    ·exact pa q
    ·exact nd2.1 hm
   ·rw[aG (λ(q:c=b)=>nd3.1 (q ▸ hc)),aG (λq=>h.np (by rw[<- q];exact qG _ (qG _ hc)))]
    exact e
theorem Ig:∀(k:Nat) (st:aX),(∀top r,st=top::r->1<=top.length)->bJ (gV k st)<=bJ st
 |0,st,_=>zZ _
 |k+1,[],_=>zZ _
 |k+1,[x],_=>zZ _
 |k+1,top::a::st,h=>by
  have:=Ig k ((a++[.l top])::st) λt r e=>by cases e;simp
  have b:=h top (a::st) Z;show bJ (gV k ((a++[.l top])::st))<=_;refine zY this ?_;simp[bJ];omega
def Iv{k:Nat}{st st':aX}(h:fY k st=some st')(a:∀top r,st=top::r->1<=top.length):bJ st'<=bJ st:=by
 unfold fY at h;split at h
 ·cases h;exact Ig k st a
 ·cases h
def Ae(t:Tr)(st:aX):bJ (push t st)<=bJ st+1:=by
 cases st with
 |nil=>simp[push,bJ]
 |cons top r=>simp[push,bJ];omega
def F9(t:Tr)(st:aX):∀top r,push t st=top::r->1<=top.length:=by
 intro top r e
 cases st with
 |nil=>cases e
 |cons a b=>cases e;simp
def Ot{x:List Nat}{st st':aX}(h:bZ x st=some st'):bJ st'<=bJ st+1:=by
 unfold bZ hV at h;split at h
 ·split at h
  ·have:=Iv h (F9 _ _)
   have a:=Ae (.w (eJ x).tail) ([]::st);have b:bJ ([]::st)=bJ st:=by simp[bJ]
   omega
  ·cases h
 ·have:=Iv h (F9 _ _)
  have a:=Ae (.w (eJ x)) st;omega
def Il{k:Nat}{st st':aX}(h:fY k st=some st'):st'.length+k=st.length:=by
 unfold fY at h;split at h
 ·cases h;exact Jm k st (by assumption)
 ·cases h
def Nz{x:List Nat}{st st':aX}(h:bZ x st=some st')(e:1<=st.length)(c:st.length<=21):1<=st'.length/\st'.length<=21:=by
 unfold bZ hV at h;split at h
 ·split at h
  ·rename_i b
   have:=Il h;rw[rO,List.length_cons]at this;unfold fY at h;split at h
   ·rename_i a
    rw[rO,List.length_cons]at a;omega
   ·cases h
  ·cases h
 ·have:=Il h
  rw[rO]at this;unfold fY at h;split at h
  ·rename_i a
   rw[rO]at a;omega
  ·cases h
def top_le{top:List Tr}{st:aX}:top.length<=bJ (top::st):=by simp[bJ]
theorem T7(a:List (List Nat))(x:List Nat)(st:aX):bW (a++[x]) st=(bW a st).bind (bZ x):=by
 rw[xG];congr 1
 funext s
 show(bZ x s).bind (bW [])=bZ x s;cases bZ x s <;> rfl
def Wq(x:Str):(Txt.split x (S " ")).length<=x.length+2:=by
 unfold Txt.split;split
 ·simp
 ·split
  ·simp
  ·rw[StrLaws.partsBetween_eq,Hr]
   have:=StrLaws.occ_length_le_len x (S " ") 0 x.length (x.length+1);omega
theorem Hj:∀{ws:List (List Nat)} {z:List Nat},z∈ws->z.length<=(cH ws).length
 |[x],z,h=>by
  rw[eG h];exact zZ _
 | x::y::r,z,h=>by
  show z.length<=(x++32::cH (y::r)).length;rw[bK,List.length_cons];rcases cE h with e |h
  ·rw[e];omega
  ·have:=Hj (ws:=y::r) h
   omega
def Wu(x y:Str)(h:y∈Txt.split x (S " ")):y.length<=x.length:=by
 have e:cH ((Txt.split x (S " ")).map L)=L x:=by
  rw[nH,<- qV 32 _ Z,StrLaws.join_split]
 have:=Hj (ws:=(Txt.split x (S " ")).map L) (z:=L y) (List.mem_map.mpr ⟨y,h,Z⟩);rw[e,dM,dM]at this;exact this
mutual
theorem RelD.tups{H H':Hp}(s:∀b vs,H b=some (.tup vs)->H' b=some (.tup vs)):∀{v:V} (d:D),RelD H v d->RelD H' v d
 |v,.int i,h=>h
 |v,.str x,h=>h
 |v,.tup ds,⟨a,vs,e,ha,h⟩=>⟨a,vs,e,s _ _ ha,RelDs.tups s ds h⟩
theorem RelDs.tups{H H':Hp}(s:∀b vs,H b=some (.tup vs)->H' b=some (.tup vs)):∀{vs:List V} (ds:List D),RelDs H vs ds->RelDs H' vs ds
 |vs,[],h=>h
 |vs,d::ds,⟨v,r,e,h1,h2⟩=>⟨v,r,e,RelD.tups s d h1,RelDs.tups s ds h2⟩
end
structure Src(H:Hp)(a b:Addr):Prop where
 ne:a≠b
 feed:∃p q:Int,H a=some (.lst [.int p,.int q])
 pool:∃ys:List Str,H b=some (.lst (ys.map V.str))/\ys.length=8/\∀y∈ys,Name y
def iX{a:Addr}{H c:Hp}(g:∃p q:Int,H a=some (.lst [.int p,.int q]))(f:Fed a H c):∀b vs,H b=some (.tup vs)->c b=some (.tup vs):=λb vs e=>f.1 b _ e λz=>by
 obtain⟨p,q,h⟩:=g;rw[z,h]at e;cases e
def Src.fed{H c:Hp}{a b:Addr}(s:Src H a b)(f:Fed a H c):Src c a b:=by
 obtain⟨ys,e,h⟩:=s.pool;exact⟨s.ne,f.2,ys,f.1 b _ e s.ne.symm,h⟩
theorem Src.same{H c:Hp}{a b:Addr}(s:Src H a b)(f:Same H c):Src c a b:=by
 obtain⟨ys,e,h⟩:=s.pool;obtain⟨p,q,g⟩:=s.feed;exact⟨s.ne,⟨p,q,f _ _ g⟩,ys,f _ _ e,h⟩
def Src.relD{H c:Hp}{a b:Addr}(s:Src H a b)(f:Fed a H c){v:V}{d:D}(h:RelD H v d):RelD c v d:=h.tups (iX s.feed f) _
def Src.relDs{H c:Hp}{a b:Addr}(s:Src H a b)(f:Fed a H c){v:List V}{d:List D}(h:RelDs H v d):RelDs c v d:=h.tups (iX s.feed f) _
theorem Src.refl{H:Hp}{a b:Addr}(s:Src H a b):Fed a H H:=by
 obtain⟨p,q,e⟩:=s.feed;exact Fed.refl e
def gY(c:Nat):Str:=⟨#[c]⟩
theorem Vw:∀cs:List Nat,Txt.join (S "") (cs.map gY)=fU cs:=by
 have h:∀cs:List Nat,L (Str.join (S "") (cs.map gY))=cs:=by
  intro cs
  induction cs with
  |nil=>rfl
  | cons c r a=>
   cases r with
   |nil=>rfl
   |cons d r=>
    show L (gY c++S ""++Str.join (S "") ((d::r).map gY))=_;rw[gS,gS,a];have e:L (S "")=[]:=by walk_at"k"
    rw[e];rfl
 intro cs;apply gI;show L (Builtin.Str.glued (S "") (cs.map gY))=cs;rw[StrLaws.glued_eq_join,h]
theorem W0(cs:List Nat):((cs.map gY).map (·.length)).sum=cs.length:=by
 induction cs with
 |nil=>rfl
 |cons c r a=>
  show(gY c).length+((r.map gY).map (·.length)).sum=r.length+1;rw[a,show(gY c).length=1 from Z];omega
abbrev nA:List Str:=[Str.ofString "rec",Str.ofString "alt",Str.ofString "hand",Str.ofString "box",Str.ofString "set",Str.ofString "send",Str.ofString "take",Str.ofString "tell",Str.ofString "go",Str.ofString "if",Str.ofString "end",Str.ofString "get",Str.ofString "tag",Str.ofString "case"]
abbrev nB:List Str:=[Str.ofString "numx",Str.ofString "recq",Str.ofString "takes",Str.ofString "iff",Str.ofString "itq",Str.ofString "goes",Str.ofString "sends",Str.ofString "tags",Str.ofString "ends",Str.ofString "gets",Str.ofString "way",Str.ofString "with"]
def Vc:∀y∈nA++nB,gK (L y)=true:=by walk_at"k"
def U6{cs:List Nat}(h:1<=cs.length)(g:cs.length<=6)(f:∀c∈cs,fP c=true)(b:fU cs≠S "num")(a:fU cs≠S "it"):Name (fU cs):=by
 show gK cs=true;unfold gK
 have l:(cs != [110,117,109])=true:=by
  rw[bne_iff_ne];intro e;apply b;rw[e];decide +kernel
 have j:(cs != [105,116])=true:=by
  rw[bne_iff_ne];intro e;apply a;rw[e];decide +kernel
 rw[l,j,cM h,cM g,List.all_eq_true.mpr f];rfl
def Sj{r:Int}{c:Nat}(h:cV (S "abcdefghijklmnopqrstuvwxyz").cps.toList r=some c):fP c=true:=by
 obtain⟨j,_,e,_⟩:=sJ h;have a:=cZ e;have all:∀c∈(S "abcdefghijklmnopqrstuvwxyz").cps.toList,fP c=true:=by walk_at"k"
 exact all c a
def wQ{α:Type}{cs:List α}{r:Int}(h0:0<=r)(h:r<(cs.length:Int)):∃c∈cs,cV cs r=some c:=by
 have a:r.toNat<cs.length:=by omega
 have b:r=((r.toNat:Nat):Int):=by omega
 refine⟨cs[r.toNat],List.getElem_mem a,?_⟩;have q:cV cs ((r.toNat:Nat):Int)=some cs[r.toNat]:=eQ (bV a);rw[<- b]at q;exact q
def at26{r:Int}(h0:0<=r)(h:r<26):∃y∈nA++nB,cV (nA.map V.str++nB.map V.str) r=some (.str y):=by
 have e:nA.map V.str++nB.map V.str=(nA++nB).map V.str:=List.map_append.symm;obtain⟨z,hz,b⟩:=wQ (cs:=(nA++nB).map V.str) h0 (by rw[aR];exact h);obtain⟨y,a,rfl⟩:=fX hz;exact⟨y,a,by rw[e];exact b⟩
end M
end
section
namespace L2
open PySem PySem.Spec PyProof.Rows
section
variable {X:Cx}
def Pq {K:Fg} {a:Addr} {xs:List V} {g:TG} {o:TS} {D:Ends} {σ:St} {H:Hp} (b:Nat->St->Hp->Prop) (h0:b 0 σ H) (M:∀i σ H,i<=xs.length->b i σ H->SqL K H a xs)
  (hs:∀i x σ H p,xs[i]?=some x->b i σ H->H p=none->g (.ref p) σ (upd H p (.tup [.int (i:Nat),x])) λh l=>o {D with nx:=b (i+1),ct:=b (i+1),bk:=D.nx} h l) (hd:∀σ H,b xs.length σ H->D.nx σ H) :
  ∃W:Nat->Nat->St->Hp->Prop,(∃m,W 0 m σ H)/\∀i m σ H,W i m σ H->
   ((tY K a).stop i H/\D.nx σ H)\/((tY K a).go i H/\∃N:St->Hp->Prop,(∀j c,N j c->∃r,r<m/\W (i+1) r j c)/\∀x c,(tY K a).yld i H x c->g x σ c λh l=>o {D with nx:=N,ct:=N,bk:=D.nx} h l):=by
 refine⟨λi m σ H=>m=xs.length-i/\i<=xs.length/\b i σ H,⟨xs.length,by simp,qR _,h0⟩,?_⟩;rintro i m σ H ⟨rfl,hi,p⟩;have q:=M i σ H hi p;by_cases f:i<xs.length
 ·refine .inr ⟨⟨xs,xs[i],q,by simp[f]⟩,b (i+1),λj c w=>⟨xs.length-(i+1),by omega,Z,f,w⟩,λx c y=>?_⟩
  obtain⟨u,z,rfl,J,rfl,I⟩:=y;exact hs i z σ H u (I xs q) p J
 ·have e:i=xs.length:=by omega
  subst e;exact .inl ⟨⟨xs,q,zZ _⟩,hd σ H p⟩
end
open PySem.W in
def ad(K:Frag)(x:Str):Addr:=match nsIn K mainGlobals x with |some (some (.ref C))=>C |_=>0
theorem L4{K:Fg}{x:Str}{C:Addr}(e:PySem.W.nsIn K mainGlobals x=some (some (.ref C))):ad K x=C:=by unfold ad;rw[e]
def names11:List Str:=["BadText","Twice","NoName","NoCount","WrongKind","Lacks","NotOwn","Falls","TooBig","NoFit","NoCode"]
def cAt(K:Fg)(i:Nat):Addr:=ad K (names11.getD i "")
open PySem.W in
def xW(K:Frag)(C:Addr):Bool:=
 findIn K (.ref C) "__getattribute__" == some (some (.builtin "BaseException.__getattribute__")) && (findIn K (.ref C) "__getattr__" == some none && (mroIn K C (.type "BaseException") == some true && (mroIn K C (.type "object") == some true &&
 (hasDictIn K C && (findIn K (.ref C) "__class__" == some (some (.builtin "object.__class__")) && (specialIn K (.builtin "object.__class__") "__get__" == some (some (.builtin "getset_descriptor.__get__")) && (takesIn K (.builtin "object.__class__") == some true &&
 (tF K C bmV "ValueError.__new__" && (keepIn K (.ref C) && findIn K (.ref C) "__setattr__" == some (some (.builtin "object.__setattr__")))))))))))
def Ni{K:Fg}{C:Addr}(e:xW K C=true):XCl K C:=by
 unfold xW at e;simp only[Bool.and_eq_true,beq_iff_eq]at e;obtain⟨r,o,m,l,j,h,g,f,c,b,a⟩:=e;exact⟨⟨r,o,m,l,j,h,g,f⟩,c,b,a⟩
def Ed(s:Stmt)(j:Nat):Stmt:=match s with
 |.ClassDef _ _ _ b _ _ _ _ _ _ _=>b.getD j (.Pass ⟨0,0,0,0⟩)
 |_=>.Pass ⟨0,0,0,0⟩
structure InitTx(K:Fg)(q:Str)(C:Addr)(st:Stmt)(ps:List Str):Prop where
 ex:∃(f:Addr) (fd:FuncData),PySem.W.findIn K (.ref C) "__init__"=some (some (.ref f))/\PySem.W.isFn K (.ref f)=true/\Fun K "__init__" q st f fd/\∀us:List Value,us.length=ps.length->bindArgs fd ⟨us,[]⟩=pure (ps.zip us)
def init_mk {K:Fg} {x q:Str} {C f:Addr} {st:Stmt} {ps:List Str} {r:Value} {od m:Option Addr} {o:Array (Option Value)} {kV h j g ct:Value} (a:PySem.W.nsIn K mainGlobals x=some (some (.ref C)))
  (i:PySem.W.findIn K (.ref C) "__init__"=some (some (.ref f))) (n:PySem.W.isFn K (.ref f)=true)
  (l:K.lookup f=some ⟨r,od,.func (PySem.W.fnOf "__init__" q (oG st) (iO st) (aY st) .none kV h j m g ct),o⟩) (c:PySem.W.codeIn K g q=true) (k:PySem.W.keepIn K (.ref f)=true)
  (b:∀(kV h j:Value) (m:Option Addr) (g ct:Value) (us:List Value),us.length=ps.length->bindArgs (PySem.W.fnOf "__init__" q (oG st) (iO st) (aY st) .none kV h j m g ct) ⟨us,[]⟩=pure (ps.zip us)):InitTx K q (ad K x) st ps:=by
 rw[L4 a];exact⟨f,_,i,n,Ei (st:=st) l c k,b kV h j m g ct⟩
structure InitIs(P:Program)(w:World)(K:Fg)(mg:Str->Option Value)(base:Heap)(n:Nat)(C:Addr)(ps:List Str)(sp:Sp):Prop where
 ex:∃(f:Addr) (fd:FuncData),PySem.W.findIn K (.ref C) "__init__"=some (some (.ref f))/\PySem.W.isFn K (.ref f)=true/\FnOk P w K mg base CX0 n f fd ps sp/\Binds K fd ps []
def InitIs.of {P:Program} {w:World} {K:Fg} {g:Str->Option Value} {base:Heap} {n:Nat} {q:Str} {C:Addr} {st:Stmt} {ps N:List Str} {sp:Sp} (T:InitTx K q C st ps) (S:FnScope N ps (aY st)) (len:∀vs H Q E,sp vs H Q E->vs.length=ps.length)
  (c:∀(f:Addr) (a:Value) (A:Around) (outer:List Env) (s:Shared) (H:Hp) (vs:List V) (Q:VK) (E:XK),Room n (A.deeper (envOfC q (aY st) s.heap.objs.size f a))->sp vs H Q E->
   ∃t,PSs (cP CX0 P w K g base N q (aY st) f a A outer s H E).nox (iO st) t/\t {nx:=λ_ o=>Q .non o,rt:=Q} (eP N vs) H):InitIs P w K g base (n+1) C ps sp:=by
 obtain⟨f,m,i,j,F,b⟩:=T.ex;exact⟨f,m,i,j,F.ok S len (λa A outer s H vs Q E l h=>c f a A outer s H vs Q E l h),Binds.all b⟩
def lR(h:Heap)(e C:Addr)(d:Option Addr)(c2:Value)(T:Option Addr)(fl:Value):Prop:=
 ∃vs:Array Value,(vs.size=6/\vs[2]?=some c2)/\h.get? e=some {cls:=.ref C,dict:=d,data:=.fields vs} ∧
  match T with
  |none=>vs[1]?=some .none
  |some T=>vs[1]?=some (.ref T)/\T≠e/\∃oT ts,h.get? T=some oT/\oT.data=.fields ts/\ts[3]?=some fl
structure FlyTo(fs:List Addr)(e:Addr)(T:Option Addr)(h h':Heap):Prop where
 keep:∀b o,b ∉fs->b≠e->T≠some b->h.get? b=some o->h'.get? b=some o
 slot:∀b o,b∈fs->b≠e->T≠some b->h.get? b=some o->∃sl,h'.get? b=some {o with slots:=sl}
 size:h.objs.size<=h'.objs.size
def FlyTo.refl{fs:List Addr}{e:Addr}{T:Option Addr}{h:Heap}:FlyTo fs e T h h:=⟨λ_ _ _ _ _ q=>q,λ_ o _ _ _ q=>⟨o.slots,q⟩,zZ _⟩
theorem FlyTo.trans{fs:List Addr}{e T':Addr}{T:Option Addr}{h h1 h2:Heap}(a:FlyTo fs e T h h1)(b:FlyTo fs e (some T') h1 h2)(t:T=some T'\/h.objs.size<=T'):FlyTo fs e T h h2:=by
 have nt:∀c o,T≠some c->h.get? c=some o->(some T':Option Addr)≠some c:=λc o n q z=>by
  have z':T'=c:=qB z;rcases t with t |t
  ·exact n (by rw[t,z'])
  ·exact absurd (z8 q) (Nat.not_lt.mpr (by rw[<- z'];exact t))
 refine⟨λc o n1 n2 n3 q=>b.keep c o n1 n2 (nt c o n3 q) (a.keep c o n1 n2 n3 q),λc o n1 n2 n3 q=>?_,zY a.size b.size⟩;obtain⟨sl,q1⟩:=a.slot c o n1 n2 n3 q;obtain⟨sl',q2⟩:=b.slot c _ n1 n2 (nt c o n3 q) q1;exact⟨sl',q2⟩
section
variable {M:Model}{A:Around}{E:Value->Shared->Prop}{s:Shared}{c2:Value}
def sX {fs:List Addr} {e C T:Addr} {d fr:Option Addr} {u:Value} {Q:Unit->Shared->Prop} (t:lR s.heap e C d w (some T) u)
  (h:∀h',FlyTo fs e (some T) s.heap h'->lR h' e C d w (some T) (fr.elim .none λf=>rawInt f)->Q () {s with heap:=h'}):wpAny M A (setFlight (.ref e) fr) Q E s:=by
 obtain⟨vs,hz,l,j,c,x,ts,m,hdT,r⟩:=t;have j:vs[1]?=some (.ref T):=j;have a:∀b,b≠T->(s.heap.update T (Obj.mapFields (·.setIfInBounds 3 (fr.elim Value.none λf=>rawInt f)))).get? b=s.heap.get? b:=λb p=>Heap.get?_update_other _ _ (Ne.symm p);unfold setFlight;refine zX (qN l Z j ?_);rw[if_pos (show(Value.ref T != Value.none)=true from by simp)];have g:3<ts.size:=(Array.getElem?_eq_some_iff.mp r).1;refine qY m hdT g (h _ ⟨λb o _ _ n q=>(a b λz=>n (by rw[z])).trans q,λb o _ _ n q=>⟨o.slots,(a b λz=>n (by rw[z])).trans q⟩,?_⟩ ?_)
 ·rw[Heap.size_after_update];exact zZ _
 ·exact⟨vs,hz,(a e (Ne.symm c)).trans l,j,c,_,_,Heap.get?_update_self _ m (Obj.isFreed_of_fields (Obj.data_mapFields hdT _)),Obj.data_mapFields hdT _,by simp[g]⟩
def Em {base:Heap} {env:Env} {outer:List Env} {L e C:Addr} {d:Option Addr} {vs:Array Value} {c:Value} {f:Bool} {Q:Unit->Shared->Prop}
  (z:A.frames=some (env::outer)) (U:s.heap.FunFrames base (env::outer)) (hf:env.frame=some L)
  (Y:s.heap.get? e=some {cls:=.ref C,dict:=d,data:=.fields vs}) (hz:vs.size=6/\vs[2]?=some c2)
  (h:∀h',FlyTo (dE (env::outer)) e none s.heap h'->lR h' e C d c2 (some s.heap.objs.size) (rawInt L)->Q () {s with heap:=h'}) :
  wpAny M A (do let a <- frameOf env;let pl <- entryPlaceOf L f;let b <- EntryCells.newEntry c a .none (rawInt L) .none pl;setField (.ref e) 1 b) Q E s:=by
 have r:e ∉dE (env::outer):=λhm=>by
  obtain⟨_,o,w,y⟩:=U.mem hm;rw[Y]at w;injection w with w;subst w;exact y vs Z
 refine zX (wpAny_frameOf_fun z U hf λh₁ j=>?_);refine zX (wpAny_entryPlaceOf λpl l=>?_);unfold EntryCells.newEntry newFields;refine zX (wpAny_newObj_type ?_ (l.sizeOk5 _ _ _ _ _));have p:h₁.get? e=some {cls:=.ref C,dict:=d,data:=.fields vs}:=(j.2.1 e r).trans Y;have g:h₁.objs.size=s.heap.objs.size:=j.1;have m:=aT (h:=h₁) {cls:=.type "traceback",dict:=none,data:=.fields ([c,.ref L,.none,rawInt L,.none]++(if pl.isEmpty then List.replicate 6 Value.none else pl)).toArray} p;refine qY m Z (by rw[hz.1];decide) ?_;have u:h₁.objs.size≠e:=Nat.ne_of_gt (z8 p);have I:=Heap.get?_update_self (Obj.mapFields (·.setIfInBounds 1 (Value.ref h₁.objs.size))) m Z
 have O:=(Heap.get?_update_other (h₁.push {cls:=.type "traceback",dict:=none,data:=.fields ([c,.ref L,.none,rawInt L,.none]++(if pl.isEmpty then List.replicate 6 Value.none else pl)).toArray})
  (Obj.mapFields (·.setIfInBounds 1 (Value.ref h₁.objs.size))) (Ne.symm u)).trans (z9 h₁ Z)
 have keep:∀b o,b≠e->h₁.get? b=some o->
   ((h₁.push {cls:=.type "traceback",dict:=none,data:=.fields ([c,.ref L,.none,rawInt L,.none]++(if pl.isEmpty then List.replicate 6 Value.none else pl)).toArray}).update e (Obj.mapFields (·.setIfInBounds 1 (Value.ref h₁.objs.size)))).get? b=some o:=λb o J x=>by
  rw[Heap.get?_update_other _ _ (Ne.symm J)];exact aT _ x
 refine h _ ⟨λb o x n _ q=>keep b o n ((j.2.1 b x).trans q),λb o x n _ q=>?_,?_⟩ ?_
 ·obtain⟨sl,hs⟩:=j.2.2 b o q
  exact⟨sl,keep b _ n hs⟩
 ·rw[Heap.size_after_update,Heap.size_push,g];exact qM _
 ·refine⟨vs.setIfInBounds 1 (Value.ref h₁.objs.size),⟨by simpa using hz.1,by rw[Array.getElem?_setIfInBounds_ne (by decide)];exact hz.2⟩,?_,?_,?_,?_⟩
  ·exact I
  ·rw[g];simp[hz.1]
  ·rw[<- g];exact u
  ·refine⟨{cls:=.type "traceback",dict:=none,data:=.fields ([c,.ref L,.none,rawInt L,.none]++(if pl.isEmpty then List.replicate 6 Value.none else pl)).toArray},_,by rw[<- g];exact O,Z,?_⟩
   first |(simp;done) |(rcases l with rfl |⟨_,_,_,_,_,_,_,rfl⟩ <;> simp)
def wJ {base:Heap} {env:Env} {outer:List Env} {L e C:Addr} {d T:Option Addr} {fl:Value} {Q:Unit->Shared->Prop}
  (m:A.frames=some (env::outer)) (hl:s.heap.FunFrames base (env::outer)) (x:env.frame=some L) (t:lR s.heap e C d c2 T fl)
  (h:∀h' U,FlyTo (dE (env::outer)) e T s.heap h'->(T=some U\/s.heap.objs.size<=U)->lR h' e C d c2 (some U) (rawInt L)->Q () {s with heap:=h'}):wpAny M A (noteFrame (.ref e) env) Q E s:=by
 obtain⟨vs,hz,n,Y⟩:=id t;unfold noteFrame;simp only[x]
 cases T with
 |none=>
  refine zX (qN n Z Y ?_);rw[if_neg (by decide)];exact Em m hl x n hz λh' a b=>h h' _ a (.inr (zZ _)) b
 | some T=>
  obtain⟨O,y,oT,ts,I,hdT,h3⟩:=Y;have O:vs[1]?=some (.ref T):=O;refine zX (qN n Z O ?_);rw[if_pos (show(Value.ref T != Value.none)=true from by simp)];refine zX (qN I hdT h3 ?_);by_cases q:(fl == rawInt L)=true
  ·rw[if_pos q]
   obtain rfl:=beq_iff_eq.mp q;exact z7 (h _ T FlyTo.refl (.inl Z) t)
  ·rw[if_neg q]
   have J:3<ts.size:=(Array.getElem?_eq_some_iff.mp h3).1;refine zX (qY I hdT J ?_);have f:∀b,b≠T->(s.heap.update T (Obj.mapFields (·.setIfInBounds 3 Value.none))).get? b=s.heap.get? b:=λb j=>Heap.get?_update_other _ _ (Ne.symm j)
   have g:∀b o,s.heap.get? b=some o->(∀vs,o.data≠.fields vs)->b≠T:=λb o j l q=>by
    rw[q,I]at j;injection j with j;subst j;exact l ts hdT
   have hsz:(s.heap.update T (Obj.mapFields (·.setIfInBounds 3 Value.none))).objs.size=s.heap.objs.size:=Heap.size_after_update ..;refine Em (s:={s with heap:=s.heap.update T (Obj.mapFields (·.setIfInBounds 3 Value.none))}) m (hl.of_keeps λb o j l=>⟨o,(f b (g b o j l)).trans j,Z⟩) x ((f e (Ne.symm y)).trans n) hz λh' a b=>?_;refine h h' _ ⟨λc o u r p w=>a.keep c o u r (λz=>nomatch z) ((f c λz=>p (by rw[z])).trans w),λc o u r p w=>a.slot c o u r (λz=>nomatch z) ((f c λz=>p (by rw[z])).trans w),?_⟩ (.inr (zZ _)) ?_
   ·rw[<- hsz];exact a.size
   ·rw[<- hsz];exact b
def Sb {base:Heap} {env:Env} {outer:List Env} {L e C:Addr} {d T:Option Addr} {n:Value} {Q:Unit->Shared->Prop}
  (f:A.frames=some (env::outer)) (g:s.heap.FunFrames base (env::outer)) (j:env.frame=some L) (t:lR s.heap e C d o T n)
  (h:∀h' c,FlyTo (dE (env::outer)) e T s.heap h'->(T=some c\/s.heap.objs.size<=c)->lR h' e C d o (some c) .none->Q () {s with heap:=h'}):wpAny M A (leaving env (.ref e)) Q E s:=by
 unfold leaving;refine zX (wJ f g j t λm c a w b=>?_);exact sX (s:={s with heap:=m}) (fs:=dE (env::outer)) (fr:=none) b λl r p=>h l c (a.trans r w) w p
end
def excF(e C:Addr)(d:Option Addr)(c2:Value):HO:=.ext λh=>∃vs:Array Value,(vs.size=6/\vs[2]?=some c2)/\h.get? e=some {cls:=.ref C,dict:=d,data:=.fields vs}
theorem ObjOk.excF{P:Program}{w:World}{H:Hp}{h:Heap}{e C:Addr}{d:Option Addr}{c:Value}{vs:Array Value}(hz:vs.size=6/\vs[2]?=some c)(b:h.get? e=some {cls:=.ref C,dict:=d,data:=.fields vs}):ObjOk P w H h e (L2.excF e C d c):=
 ⟨⟨vs,hz,b⟩,⟨_,b⟩,λj g ⟨v,z,a⟩ k=>⟨v,z,k _ a⟩⟩
theorem HOk.excF{P:Program}{w:World}{H:Hp}{h:Heap}{e C:Addr}{d:Option Addr}{a:Value}(x:HOk P w H h)(q:H e=some (L2.excF e C d a)):∃vs:Array Value,(vs.size=6/\vs[2]?=some a)/\h.get? e=some {cls:=.ref C,dict:=d,data:=.fields vs}:=
 (show ObjOk P w H h e (L2.excF e C d a) from x e _ q).1
section
variable {X:Cx}{pins:List (Addr×Obj)}{σ:St}{H:Hp}{s:Shared}{h':Heap}{x C:Addr}{d T T1:Option Addr}{fl c2:Value}
def Inv.flight(I:Inv X pins σ H s)(hx:H x=some (excF x C d c2))(hT:∀T',T=some T'->FpOk X pins H T')(a:FlyTo (dE X.stack) x T s.heap h')(t:lR h' x C d c2 T1 fl):Inv X pins σ H {s with heap:=h'}:=by
 obtain⟨vs,hz,he,_⟩:=t;have nT:∀b u,H b=some u->T≠some b:=λb u e z=>by rw[(hT b z).1]at e;cases e
 have nF:∀b u,H b=some u->b ∉dE X.stack:=λb u e z=>by rw[I.stkFree b z]at e;cases e
 have nx:∀b,H b=none->b≠x:=λb n z=>by rw[z,hx]at n;cases n
 have there:∀b o,T≠some b->s.heap.get? b=some o->∃o',h'.get? b=some o':=λb o n q=>by
  by_cases z:b=x
  ·exact⟨_,by rw[z];exact he⟩
  ·by_cases f:b∈dE X.stack
   ·obtain⟨sl,w⟩:=a.slot b o f z n q
    exact⟨_,w⟩
   ·exact⟨_,a.keep b o f z n q⟩
 have tl:∀b,b ∉T.toList->T≠some b:=λb n z=>n (by rw[z];simp);refine I.call (g':=s.gens) (t':=s.toks) (d':=s.drawn) (ch:=T.toList) ⟨λb o q n hb hc=>a.keep b o hb (nx b n) (tl b hc) q,λb o q n hb hc=>a.slot b o hb (nx b n) (tl b hc) q,λ_ _ _ n _=>n,λb o q hc=>there b o (tl b hc) q,λ_ _ q=>q,λ_ _ _ q=>q,λb ps q=>⟨#[],by rw[q];simp⟩⟩ (λb u e=>?_) I.bare (λb hb=>?_)
 ·by_cases z:b=x
  ·subst z
   rw[hx]at e;cases e;exact ObjOk.excF hz he
  ·refine(I.hok b u e).stay (λc v hc q=>?_) (λ_ q=>q) λ_ _ q=>q
   rcases hc with w |w
   ·rw[w]
    rw[w]at q;exact a.keep b v (nF b u e) z (nT b u e) q
   ·have cx:c≠x:=λz=>by rw[z,hx]at w;cases w
    exact a.keep c v (nF c _ w) cx (nT c _ w) q
 ·have hb':T=some b:=by simpa using hb
  obtain⟨f0,f1,f2,f3,f4,f5⟩:=hT b hb';exact⟨f3,f1,f4,f5⟩
abbrev XS:=Value->Option Addr->St->Hp->Prop
def qZ(X:Cx)(E:XS)(e:Value)(s:Shared):Prop:=
 ∃(x C:Addr) (d T:Option Addr) (c2 fl:Value) (pins:List (Addr×Obj)) (σ:St) (H:Hp),e=.ref x/\Inv X pins σ H s/\H x=some (excF x C d c2)/\(∀T',T=some T'->FpOk X pins H T')/\lR s.heap x C d c2 T fl/\E (.ref x) d σ H
abbrev Cx.thr(X:Cx)(E:XS):Cx:=X.wish (qZ X E)
def vB(P:Program)(w:World):fW:=λouter H s E e s'=>
 ∃(x C:Addr) (d T:Option Addr) (c2 fl:Value) (H':Hp),e=.ref x/\s'.os=s.os/\AllBare s'.gens/\Un (dE outer) [] H H' s.heap s'.heap/\HOk P w H' s'.heap/\H' x=some (excF x C d c2) ∧
  (∀T',T=some T'->s.heap.objs.size<=T'/\H' T'=none)/\lR s'.heap x C d c2 T fl/\E (.ref x) d H'
def Lj{E:XS}{e:Value}{s':Shared}(I0:Inv X pins σ H s)(h:vB X.prog X.w X.stack H s (λv d H'=>E v d σ H') e s'):qZ X E e s':=by
 obtain⟨x,C,d,T,c2,fl,H',rfl,os,bare,un,hok,hx,hT,t,q⟩:=h
 have I1:Inv X pins σ H' s':=by
  obtain⟨hh,g,dr,tk,os'⟩:=s';obtain rfl:os'=s.os:=os;exact I0.call (h':=hh) (g':=g) (d':=dr) (t':=tk) (ch:=[]) un hok bare (λb z=>absurd z (by simp))
 exact⟨x,C,d,T,c2,fl,pins,σ,H',rfl,I1,hx,λT' z=>I0.fpOk (hT T' z).1 (hT T' z).2,t,q⟩
end
section
variable {P:Program}{w:World}{K:Fg}{mg:Str->Option Value}{base:Heap}{N:List Str}{qual:Str}{scope:Scope}{f:Addr}{cd:Value}{A:Around}{outer:List Env}{s:Shared}{H:Hp}{E:XK}
def Ue{e:Value}{s':Shared}(h:qZ (cP (vB P w) P w K mg base N qual scope f cd A outer s H E) (λv d _ H'=>E v d H') e s'):(cP (vB P w) P w K mg base N qual scope f cd A outer s H E).xe e s':=by
 obtain⟨x,C,d,T,c2,fl,pins,σ,H',rfl,I,hx,hT,t,q⟩:=h;show wpAny (model P w) (A.deeper (envOfC qual scope s.heap.objs.size f cd)) (leaving (envOfC qual scope s.heap.objs.size f cd) (.ref x)) _ _ s';refine Sb (base:=base) I.ok.frames I.stack rfl t λh2 T' a w2 t2=>?_;have I2:=I.flight hx hT a t2;refine⟨x,C,d,some T',c2,.none,H',rfl,I2.os,I2.bare,I2.base,I2.hok,hx,λT2 z=>?_,t2,q⟩;cases z;rcases w2 with z |z
 ·obtain⟨f0,f1,f2,f3,f4,f5⟩:=hT T' z
  refine⟨?_,f0⟩;rcases f3 with y |y
  ·exact absurd y (by show T' ∉([]:List Addr);simp)
  ·exact y
 ·exact⟨zY I.sz z,I.hok.fresh z⟩
theorem PSs.thr{E:XS}{X:Cx}{st:List Stmt}{t:TS}(h:PSs (X.thr E) st t)(c:∀e b,qZ X E e b->X.xe e b):PSs X st t:=λa s σ H D I g=>
 wpAny_mono (h a s σ H D (I.wish _) g) (λ_ _ q=>q.unwish) λe b z=>c e b z
end
section
variable {X:Cx}{E:XS}
theorem Ox(hs:X.stack=X.env::X.outer)(hf:X.env.frame=some X.env.locals):PassesOwn (model X.prog X.w) X.A X.env (qZ X E):=by
 intro e s h;obtain⟨x,C,d,T,c2,fl,pins,σ,H,rfl,I,hx,hT,t,q⟩:=h;have fr:X.A.frames=some (X.env::X.outer):=by rw[I.ok.frames,hs]
 have fn:s.heap.FunFrames X.base (X.env::X.outer):=by rw[<- hs];exact I.stack
 refine wJ (base:=X.base) fr fn hf t λh1 T' a w t1=>?_;rw[<- hs]at a;have I1:=I.flight hx hT a t1
 have hT1:FpOk X pins H T':=by
  rcases w with z |z
  ·exact hT T' z
  ·exact I.fpOk z (I.hok.fresh z)
 show wpAny _ _ _ _ _ _;obtain⟨vs,hz,he,h1',_⟩:=id t1;have h1':vs[1]?=some (.ref T'):=h1';refine zX (qN he rfl h1' ?_);rw[if_neg (show ¬((Value.ref T' == Value.none)=true) from qA)];show wpAny _ _ (setFlight (.ref x) X.env.frame) _ _ _;refine sX (fs:=dE X.stack) t1 λh2 a2 t2=>?_;exact⟨x,C,d,some T',c2,_,pins,σ,H,rfl,I1.flight hx (λT2 z=>by cases z;exact hT1) a2 t2,hx,λT2 z=>by cases z;exact hT1,t2,q⟩
end
structure DefXs(P:Program)(w:World)(K:Fg)(mg:Str->Option Value)(base:Heap)(n:Nat)(x:Str)(ps:List Str)(sp:Sp):Prop where
 ex:∃(f:Addr) (fd:FuncData),FnOk P w K mg base (vB P w) n f fd ps sp/\Binds K fd ps []/\PySem.W.keepIn K (.ref f)=true/\mg x=some (.ref f)/\∃oc od osl,K.lookup f=some ⟨oc,od,.func fd,osl⟩
section
variable {P:Program}{w:World}{K:Fg}{mg:Str->Option Value}{base:Heap}{n m:Nat}{x:Str}{ps N:List Str}{sp:Sp}{st:Stmt}
theorem DefIs.xs(D:DefIs P w K mg base n x ps sp):DefXs P w K mg base n x ps sp:=by
 obtain⟨f,fd,F,r⟩:=D.ex;refine⟨f,fd,⟨F.len,λA outer s H args us vs Q E hr he hb hv hs=>codeAny_mono (F.run A outer s H args us vs Q E hr he hb hv hs) λr s' q=>?_⟩,r⟩
 cases r with
 |error e=>exact False.elim q
 |ok fl=>cases fl <;> exact q
def DefXs.of (T:DefTx K o x st ps) (S:FnScope N ps (aY st)) (len:∀vs H Q E,sp vs H Q E->vs.length=ps.length)
  (c:∀(f:Addr) (a:Value) (A:Around) (outer:List Env) (s:Shared) (H:Hp) (vs:List V) (Q:VK) (E:XK),Room n (A.deeper (envOfC x (aY st) s.heap.objs.size f a))->sp vs H Q E->
   ∃t,PSs ((cP (vB P w) P w K o base N x (aY st) f a A outer s H E).thr λv d _ l=>E v d l) (iO st) t/\t {nx:=λ_ l=>Q .non l,rt:=Q} (eP N vs) H):DefXs P w K o base (n+1) x ps sp:=by
 obtain⟨f,C,F,m,b⟩:=T.ex;refine⟨f,C,?_,Binds.all b,F.kp,m,vN F⟩;obtain⟨U,od,kV,I,O,Y,a,ct,r,rfl,u,j⟩:=F.ex;refine Dc u j S len λA outer s H vs Q E y g=>?_;obtain⟨t,h,q⟩:=c f a A outer s H vs Q E y g;exact⟨t,h.thr λe J z=>Ue z,q⟩
end
section
variable {X:Cx}{E:XS}{n:Nat}{x:Str}{ps:List Str}{sp:Sp}{e:Expr}{es:List Expr}{p pos:Pos}{t:TA}
def O6(sp:Sp)(E:XS)(t:TA):TE:=λσ H Q=>t σ H λvs H1=>sp vs H1 Q λv d H'=>E v d σ H'
def Rr (D:DefXs X.prog X.w X.K X.mg X.base n x ps sp) (z:Room n X.A) (U:PA (X.thr E) (e::es) t) (J:Gl X x:=by rfl) (l:(x == ("__debug__":Str))=false:=by decide)
  (O:starEach (e::es) X.env=(false,eval e X.env)::starEach es X.env:=by rfl) (j:(backTo pos (starEach es X.env)).any (·.1)=false:=by rfl):PE (X.thr E) (.Call (.Name x p) (e::es) [] pos) (O6 sp E t):=by
 obtain⟨f,fd,F,b,k,m,_⟩:=D.ex;intro a s σ H Q I h;refine wpAny_Call_Name_kw (oK (X:=X.thr E) I J m ?_ l);refine PySem.W.callWith_K (h₀:=X.base) I.ok.mod.kin k (aN (U pos a s σ H _ I h) λus o ⟨vs,H1,g,r,q⟩=>⟨g.kIn,?_⟩) O j;have C:(us++[]).length=ps.length:=by rw[List.append_nil,<- r.length];exact F.len _ _ _ _ q
 have y:=b o us g.kIn C;rw[List.append_nil]at y;refine wpAny_call (codeAny_mono (F.run X.A X.stack o H1 ⟨us,[]⟩ us vs Q _ z g.unwish.env0 y r q) λr s' c=>?_)
 cases r with
 |error e=>exact Lj g.unwish c
 |ok Y=>
  cases Y with
  |ret u=>exact g.after c
  |next=>exact False.elim c
  |brk=>exact False.elim c
  |cont=>exact False.elim c
end
abbrev Cx.mkd(X:Cx)(e:Value):Cx:={X with A:=X.A.mark (some e),calm:=false}
abbrev Cx.pnd(X:Cx)(pn:List (Addr×Obj)):Cx:={X with pn:=pn}
section
variable {X:Cx}{pins pn:List (Addr×Obj)}{σ:St}{H:Hp}{s:Shared}{e:Value}
theorem Cx.Ok.mkd(ok:X.Ok)(e:Value):(X.mkd e).Ok:=
 ⟨ok.mod,ok.kind,ok.glob,ok.blt,ok.above,ok.inj,ok.has,ok.cab,λz=>Bool.noConfusion z,ok.frames,ok.stk,ok.exf,ok.bs,ok.bsz,ok.noex,ok.exfs,ok.funs,ok.frf⟩
theorem Cx.Ok.pnd(ok:X.Ok)(pn:List (Addr×Obj)):(X.pnd pn).Ok:=
 ⟨ok.mod,ok.kind,ok.glob,ok.blt,ok.above,ok.inj,ok.has,ok.cab,ok.hd,ok.frames,ok.stk,ok.exf,ok.bs,ok.bsz,ok.noex,ok.exfs,ok.funs,ok.frf⟩
theorem Inv.mkd(I:Inv X a σ H s)(e:Value):Inv (X.mkd e) a σ H s:=⟨I.ok.mkd e,I.os,I.bare,I.base,I.loc,I.cell,I.free,I.freeC,I.pin,I.hok,I.len⟩
def Inv.unmkd(ok:X.Ok)(I:Inv (X.mkd e) pins σ H s):Inv X pins σ H s:=⟨ok,I.os,I.bare,I.base,I.loc,I.cell,I.free,I.freeC,I.pin,I.hok,I.len⟩
theorem Inv.pnd(I:Inv X a σ H s):Inv (X.pnd (X.pn++a)) [] σ H s:=
 ⟨I.ok.pnd _,I.os,I.bare,I.base,I.loc,I.cell,I.free,I.freeC,λp b=>I.pin p (by simpa using b),I.hok,I.len⟩
def Inv.unpnd{a:List (Addr×Obj)}(ok:X.Ok)(I:Inv (X.pnd (X.pn++b)) a σ H s):Inv X b σ H s:=
 ⟨ok,I.os,I.bare,I.base,I.loc,I.cell,I.free,I.freeC,λp c=>I.pin p (zR _ c),I.hok,I.len⟩
def FpOk.unpnd{a:List (Addr×Obj)}{b:Addr}(h:FpOk (X.pnd (X.pn++c)) a H b):FpOk X c H b:=
 ⟨h.1,h.2.1,h.2.2.1,h.2.2.2.1,h.2.2.2.2.1,λp f=>h.2.2.2.2.2 p (zR _ f)⟩
theorem SP.unpnd{D:Ends}{f:Flow}{g:Shared}(ok:X.Ok)(h:SP (X.pnd (X.pn++c)) [] D f g):SP X c D f g:=by
 cases f with
 |next=>obtain⟨a,b,I,q⟩:=h;exact⟨a,b,I.unpnd ok,q⟩
 |brk=>obtain⟨a,b,I,q⟩:=h;exact⟨a,b,I.unpnd ok,q⟩
 |cont=>obtain⟨a,b,I,q⟩:=h;exact⟨a,b,I.unpnd ok,q⟩
 |ret u=>obtain⟨v,a,b,I,r,q⟩:=h;exact⟨v,a,b,I.unpnd ok,r,q⟩
def S9 {M:Model} {A:Around} {E':Value->Shared->Prop} {s:Shared} {K:Fg} {x C C0:Addr} {d:Option Addr} {vs:Array Value} {Q:Bool->Shared->Prop} (hx:s.heap.get? x=some {cls:=.ref C,dict:=d,data:=.fields vs})
  (O:iC s.heap C bmV "ValueError.__new__") (O0:iC s.heap C0 bmV "ValueError.__new__") (kin:K.In s.heap) (hsub:PySem.W.mroIn K C (.ref C0)=some true) (hq:Q true s):wpAny M A (excMatches (.ref x) (.ref C0)) Q E' s:=by
 obtain⟨nm,qn,N,bs,bm,sn,sub,ab,col,dd,k0,k1,k2,k3,k5,hC,T⟩:=O;obtain⟨nm',qn',N',bs',bm',sn',sub',ab',col',dd',k0',k1',k2',k3',k5',hC0,T'⟩:=O0;have hcB:(Value.ref C0::bm').contains (.type "BaseException")=true:=by rw[List.contains_cons,T'.hasType (show bmV.contains (.type "BaseException")=true by decide),Bool.or_true]
 have LS:=PySem.W.looks_mroIn (M:=M) kin hsub;have f:=tc_notTuple;obtain⟨hp,g,dr,tk,os⟩:=s;unfold excMatches
 repeat (first |with_reducible refine wpAny_loadPart_at hx ?_ |with_reducible refine wpAny_loadPart_at hC0 ?_ |(with_reducible refine wpAny_isSubtype_exc hC0 ?_;rw[hcB]) |with_reducible refine LS.at ?_ |wp_step)
 exact hq
end
structure RoomQ(k:Nat)(A:Around):Prop where
 dp:A.depth+3*k+5<recursionLimit
 un:A.units+16*k+200<cLine
theorem Room.q{k:Nat}{A:Around}(r:Room k A):RoomQ k A:=⟨r.dp,r.un⟩
theorem RoomQ.mark{k:Nat}{A:Around}(r:RoomQ k A)(h:Option Value):RoomQ k (A.mark h):=⟨r.dp,r.un⟩
theorem RoomQ.deeper{k:Nat}{A:Around}(r:RoomQ (k+1) A)(env:Env):RoomQ k (A.deeper env):=
 ⟨by have:=r.dp;show A.depth+1+3*k+5<_;omega,by have:=r.un;show A.units+3+16*k+200<_;omega⟩
def RoomQ.make{k:Nat}{A:Around}(r:RoomQ (k+1) A)(C:Addr)(us:List Value)(kw:List (Str×Value)):RoomQ k (A.under (.builtin "type.__call__" ⟨.ref C::us,kw⟩)):=
 ⟨by have:=r.dp;rw[Im];omega,by have:=r.un;rw[Io];omega⟩
structure FnOkQ(P:Program)(w:World)(K:Fg)(mg:Str->Option Value)(base:Heap)(CX:fW)(k:Nat)(f:Addr)(fd:FuncData)(ps:List Str)(sp:Sp):Prop where
 len:∀vs H Q E,sp vs H Q E->vs.length=ps.length
 run:∀(A:Around) (outer:List Env) (s:Shared) (H:Hp) (args:Args) (us:List Value) (vs:List V) (Q:VK) (E:XK),RoomQ k A->Env0 P w K mg base A outer s H->BindsTo s fd args (ps.zip us)->Vals vs us->sp vs H Q E->
  codeAny (model P w) A (.call (.ref f) args) (CR CX outer P w H s Q E) s
abbrev Cx.rough(X:Cx):Cx:={X with calm:=false}
def Ls {CX:fW} {P:Program} {w:World} {K:Fg} {U:Str->Option Value} {base:Heap} {k:Nat} {f:Addr} {name c:Str} {h:Arguments} {l:List Stmt} {a:Scope} {dV kV a0 pm g ct oc:Value} {an od:Option Addr}
  {a1:Array (Option Value)} {N ps:List Str} {sp:Sp} (lk:K.lookup f=some ⟨oc,od,.func (PySem.W.fnOf name c h l a dV kV a0 pm an g ct),a1⟩) (a3:PySem.W.codeIn K g c=true) (S:FnScope N ps a)
  (len:∀vs H Q E,sp vs H Q E->vs.length=ps.length)
  (O:∀(A:Around) (outer:List Env) (s:Shared) (H:Hp) (vs:List V) (Q:VK) (E:XK),RoomQ k (A.deeper (envOfC c a s.heap.objs.size f g))->sp vs H Q E->
   ∃t,PSs (cP CX P w K U base N c a f g A outer s H E).rough l t/\t {nx:=λ_ p=>Q .non p,rt:=Q} (eP N vs) H) :
  FnOkQ P w K U base CX (k+1) f (PySem.W.fnOf name c h l a dV kV a0 pm an g ct) ps sp:=by
 refine⟨len,λA outer s H args us vs Q E hr j hb r Y=>?_⟩;have hl:=len _ _ _ _ Y;have KX:K.In s.heap:=j.mod.kin.keeps λb o e=>(j.bs b o e).1;have a2:s.heap.NoLimit:=j.mod.nolimit.keeps λb o e=>(j.bs b o e).1
 have M:∀y∈ps.zip us,a.names.lookup y.1=some .local\/(a.names.lookup y.1=some .cell/\((cellsFrom (s.heap.objs.size+1) a.names []).lookup y.1).isSome=true):=λ⟨n,v⟩ hy=>by
  rcases S.par n (List.of_mem_zip hy).1 with q |q
  ·exact .inl q
  ·exact .inr ⟨q,PySem.W.cellsFrom_some _ _ _ (.inl q)⟩
 refine codeAny_call_function (by have:=hr.dp;omega) (KX _ _ lk) Z S.co S.gen Z (PySem.W.codeRec_of KX a3) (hb _ _ _ _ ?_);refine wpAny_newFunctionEnv_cells S.kind M λenv he s1 x=>?_;subst he;refine⟨a2.keeps x.toInCall.keep,codeAny_func ?_⟩;obtain⟨t,ht,hq⟩:=O A outer s H vs Q E (hr.deeper _) Y;have m:Inv (cP CX P w K U base N c a f g {A with handled:=none} outer s H E) [] (eP N vs) H s1:=Hd S Z ⟨j.frames,j.mod,j.bs,j.bsz,j.funs,j.frf,j.hok,j.bare⟩ hl r x;have ok:=m.ok;have fr:(A.deeper (envOfC c a s.heap.objs.size f g)).frames=some (envOfC c a s.heap.objs.size f g::outer):=ok.frames
 have I:Inv (cP CX P w K U base N c a f g A outer s H E).rough [] (eP N vs) H s1:=
  ⟨⟨ok.mod,ok.kind,ok.glob,ok.blt,ok.above,ok.inj,ok.has,ok.cab,λz=>Bool.noConfusion z,fr,ok.stk,ok.exf,ok.bs,ok.bsz,ok.noex,ok.exfs,ok.funs,ok.frf⟩,m.os,m.bare,m.base,m.loc,m.cell,m.free,m.freeC,m.pin,m.hok,m.len⟩
 refine wpAny_mono (ht [] s1 (eP N vs) H _ I hq) (λfl s' hs=>?_) λe s' hs=>hs
 have fin:∀{σ':St} {p:Hp} {v:V} {u:Value},Inv (cP CX P w K U base N c a f g A outer s H E).rough [] σ' p s'->RelV v u->Q v p->CE outer P w H s Q u s':=
  λ{σ' p v u} J rv q=>⟨v,p,J.os,J.bare,J.base,J.hok,rv,q⟩
 cases fl with
 |ret u=>
  obtain⟨v,σ',p,J,rv,q⟩:=hs;exact fin J rv q
 |next=>
  obtain⟨σ',p,J,q⟩:=hs;exact fin (v:=V.non) (u:=Value.none) J Z q
 |brk=>
  obtain⟨_,_,_,q⟩:=hs;exact False.elim q
 |cont=>
  obtain⟨_,_,_,q⟩:=hs;exact False.elim q
structure InitQ(P:Program)(w:World)(K:Fg)(mg:Str->Option Value)(base:Heap)(n:Nat)(C:Addr)(ps:List Str)(sp:Sp):Prop where
 ex:∃(f:Addr) (fd:FuncData),PySem.W.findIn K (.ref C) "__init__"=some (some (.ref f))/\PySem.W.isFn K (.ref f)=true/\FnOkQ P w K mg base CX0 n f fd ps sp/\Binds K fd ps []
def InitQ.of {P:Program} {w:World} {K:Fg} {l:Str->Option Value} {base:Heap} {n:Nat} {q:Str} {C:Addr} {st:Stmt} {ps N:List Str} {sp:Sp} (T:InitTx K q C st ps) (S:FnScope N ps (aY st)) (len:∀vs H Q E,sp vs H Q E->vs.length=ps.length)
  (c:∀(f:Addr) (a:Value) (A:Around) (outer:List Env) (s:Shared) (H:Hp) (vs:List V) (Q:VK) (E:XK),RoomQ n (A.deeper (envOfC q (aY st) s.heap.objs.size f a))->sp vs H Q E->
   ∃t,PSs (cP CX0 P w K l base N q (aY st) f a A outer s H E).rough.nox (iO st) t/\t {nx:=λ_ I=>Q .non I,rt:=Q} (eP N vs) H):InitQ P w K l base (n+1) C ps sp:=by
 obtain⟨f,y,i,o,F,b⟩:=T.ex;refine⟨f,y,i,o,?_,Binds.all b⟩;obtain⟨M,od,kV,z,J,O,a,ct,m,rfl,r,j⟩:=F.ex;refine Ls r j S len λA outer s H vs Q E u g=>?_;obtain⟨t,h,q⟩:=c f a A outer s H vs Q E u g;exact⟨t,h.nox,q⟩
section
variable {X:Cx}{pins:List (Addr×Obj)}{σ:St}{H:Hp}{s:Shared}{C:Addr}{Q:VK}{us:List Value}{vs:List V}{k:Nat}{ps:List Str}{sp:Sp}
def Qy (M:XCl X.K C) (D:InitQ X.prog X.w X.K X.mg X.base k C ps sp) (U:RoomQ (k+1) X.A) (I:Inv X c σ H s) (r:Vals vs us) (Y:vs.length<=sizeLine)
  (h:∀e,H e=none->sp (.ref e::vs) (upd H e (cC e C none)) (λv H2=>v=.non/\Q (.ref e) H2) E0):wpAny (model X.prog X.w) X.A (call (.ref C) us) (EP X c σ Q) X.xe s:=by
 obtain⟨f,fd,hi,hf,F,hb⟩:=D.ex;have m:us.length<=sizeLine:=by rw[<- r.length];exact Y
 have b:=I.kIn;obtain⟨nm,qn,N,bs,bm,sn,sub,ab,a0,dd,k0,k1,k2,k3,k5,hC,T⟩:=rF b M.obj;have z:=h (s.heap.objs.size+1) (I.hok.fresh (qM _));have o:=Inv.newExc (C:=C) (us:=us) I;have y:Vals (V.ref (s.heap.objs.size+1)::vs) (Value.ref (s.heap.objs.size+1)::us):=.cons Z r
 have j:(Value.ref (s.heap.objs.size+1)::us++[]).length=ps.length:=by
  rw[List.append_nil,<- y.length];exact F.len _ _ _ _ z
 have l:=hb _ (Value.ref (s.heap.objs.size+1)::us) o.kIn j;rw[List.append_nil]at l;obtain⟨n,g,d,t,os⟩:=s;refine Qs PySem.F.excBase_ValueError T hC (PySem.W.looks_findIn b hi) (λself=>PySem.W.bind_fn b self (beq_iff_eq.mp hf)) ?_ m;refine wpAny_call (codeAny_mono (F.run _ X.stack _ _ ⟨Value.ref (n.objs.size+1)::us,[]⟩ (Value.ref (n.objs.size+1)::us) _ _ E0 (U.make C us []) (o.env0.make C us []) l y z) λr s' a=>?_)
 cases r with
 |error e=>exact False.elim a
 | ok fl=>
  cases fl with
  |ret u=>
   obtain⟨v,H',I3,J,ev,O⟩:=o.after a;subst ev;exact⟨J,⟨V.ref (n.objs.size+1),H',I3,Z,O⟩⟩
  |next=>exact False.elim a
  |brk=>exact False.elim a
  |cont=>exact False.elim a
variable {x:Str}{p pos:Pos}{e:Expr}{es:List Expr}{t:TA}
def Pe (D:InitQ X.prog X.w X.K X.mg X.base k C ps sp) (M:XCl X.K C) (g:RoomQ (k+1) X.A) (j:X.mg x=some (.ref C)) (n:PA X (e::es) t) (l:Gl X x:=by rfl)
  (c:(x == ("__debug__":Str))=false:=by decide) (m:starEach (e::es) X.env=(false,eval e X.env)::starEach es X.env:=by rfl) (b:(backTo pos (starEach es X.env)).any (·.1)=false:=by rfl) :
  PE X (.Call (.Name x p) (e::es) [] pos) (Me C sp E0 t):=by
 intro a s σ H Q I h;refine wpAny_Call_Name_kw (oK I l j ?_ c);refine PySem.W.callWith_K (h₀:=X.base) I.ok.mod.kin M.kp (aN (n pos a s σ H _ I h) λus o ⟨vs,u,f,r,q⟩=>⟨f.kIn,?_⟩) m b;exact Qy M D g f r q.1 q.2
end
section
variable {prog:Program}{w:World}{A:Around}{E':Value->Shared->Prop}{env:Env}
def Ws:entryFor table "proto.unchain"=some Builtin.«proto.unchain»:=entryFor_of_tree (by kernel_rfl)
def V5 {s:Shared} {x c:Sem Value} {old:Addr} {Q:Flow->Shared->Prop} (hh:A.handled=some (.ref old))
  (h:wpAny (model prog w) A x (λv a=>∃e t C d m U vs,v=.ref e/\e≠old/\m.contains (.type "BaseException")=true/\iC a.heap C m "ValueError.__new__"/\a.heap.get? e=some (newExc C t d) ∧
   a.heap.get? old=some U/\U.data=.fields vs/\vs[2]?=some .none ∧
   ∀h',(∀b o,b≠e->a.heap.get? b=some o->h'.get? b=some o)->h'.get? e=some {cls:=.ref C,dict:=d,data:=.fields #[.ref t,.none,.ref old,.none,.bool true,.none]}->I (.ref e) {a with heap:=h'}) I s)
  (hc:∀(s:Shared) (Q:Value->Shared->Prop),Q .none s->wpAny (model prog w) A c Q I s) :
  wpAny (model prog w) A (raiseStmt env (some x) (some c)) Q I s:=by
 unfold raiseStmt;refine zX (wpAny_mono h (λv a h₁=>?_) λ_ _ x=>x);obtain⟨e,t,C,d,m,U,vs,rfl,u,l,⟨nm,qn,N,bs,bm,sn,sub,ab,a5,dd,k0,k1,k2,k3,k5,O,T⟩,he,n,a1,h2,hE⟩:=h₁;have a3:(Value.ref C::bm).contains (.type "BaseException")=true:=by rw[List.contains_cons,T.hasType l,Bool.or_true]
 refine zX (qO (hc _ _ (zX (z7 ?_))));obtain⟨f,g,dr,tk,os⟩:=a
 have Y:C≠e:=λz=>by
  have h1:f.get? e=some (newExc C t d):=he;rw[<- z,show f.get? C=_ from O]at h1;cases h1
 have a2:(f.update e (Obj.mapFields λx=>x.setIfInBounds 3 Value.none)).get? e=some {cls:=.ref C,dict:=d,data:=.fields #[.ref t,.none,.none,.none,.bool false,.none]}:=Heap.get?_update_self _ he Z;have j:((f.update e (Obj.mapFields λx=>x.setIfInBounds 3 Value.none)).update e (Obj.mapFields λx=>x.setIfInBounds 4 (Value.bool true))).get? e=some {cls:=.ref C,dict:=d,data:=.fields #[.ref t,.none,.none,.none,.bool true,.none]}:=Heap.get?_update_self _ a2 Z
 have J:∀b,b≠e->((f.update e (Obj.mapFields λx=>x.setIfInBounds 3 Value.none)).update e (Obj.mapFields λx=>x.setIfInBounds 4 (Value.bool true))).get? b=f.get? b:=λb M=>by
  rw[Heap.get?_update_other _ _ (Ne.symm M),Heap.get?_update_other _ _ (Ne.symm M)]
 have a4:=(J C Y).trans O;have r:=(J old (Ne.symm u)).trans n
 repeat (first |with_reducible refine wpAny_loadPart_at he ?_ |with_reducible refine wpAny_loadPart_at O ?_ |(with_reducible refine wpAny_isSubtype_exc O ?_;rw[a3]) |wp_step)
 generalize ((f.update e (Obj.mapFields λx=>x.setIfInBounds 3 Value.none)).update e (Obj.mapFields λx=>x.setIfInBounds 4 (Value.bool true)))=y at j J a4 r⊢;unfold raiseNew;refine zX (wpAny_handled ?_);rw[hh]
 have M:(Value.ref old != Value.ref e)=true:=by
  rw[bne_iff_ne];exact λz=>u (Value.ref.inj z).symm
 dsimp only;rw[if_pos M];refine zX (qO (wpAny_runValue (codeAny_builtin Ws ?_)));unfold Builtin.«proto.unchain»;refine zX (qN (s:=⟨y,g,dr,tk,os⟩) r a1 h2 ?_);rw[if_pos (show(Value.none == Value.none)=true by decide)];refine zX (z7 (z7 ?_));show wpAny _ _ (do updateField e 2 (Value.ref old);throw (Value.ref e)) _ _ _;refine zX ?_
 have a0:wpAny (model prog w) A (setField (.ref e) 2 (Value.ref old)) (λ_ s'=>wpAny (model prog w) A (throw (Value.ref e)) Q I s') I ⟨y,g,dr,tk,os⟩:=by
  refine qY j Z (by show 2<6;decide) (wpAny_throw ?_);refine hE _ (λb o nb q=>?_) (Heap.get?_update_self _ j Z);rw[Heap.get?_update_other _ _ (Ne.symm nb)];exact(J b nb).trans q
 exact a0
end
section
variable {X:Cx}{E:XS}
def Ug{n:Around}(fr:n.frames=some (X.env::X.outer))(hs:X.stack=X.env::X.outer)(o:X.env.frame=some X.env.locals):PassesOwnAt (model X.prog X.w) n X.A X.env (qZ X E):=by
 intro e s h;obtain⟨x,C,d,T,u,U,b,σ,H,rfl,I,l,m,t,q⟩:=h;have fn:s.heap.FunFrames X.base (X.env::X.outer):=by rw[<- hs];exact I.stack
 refine wJ (base:=X.base) fr fn o t λO g a w j=>?_;rw[<- hs]at a;have J:=I.flight l m a j
 have f:FpOk X b H g:=by
  rcases w with z |z
  ·exact m g z
  ·exact I.fpOk z (I.hok.fresh z)
 show wpAny _ _ _ _ _ _;obtain⟨vs,hz,r,c,_⟩:=id j;have c:vs[1]?=some (.ref g):=c;refine zX (qN r Z c ?_);rw[if_neg (show ¬((Value.ref g == Value.none)=true) from qA)];show wpAny _ _ (setFlight (.ref x) X.env.frame) _ _ _;refine sX (fs:=dE X.stack) j λM y t2=>?_;exact⟨x,C,d,some g,u,_,b,σ,H,Z,J.flight l (λT2 z=>by cases z;exact f) y t2,l,λT2 z=>by cases z;exact f,t2,q⟩
def N0(K:Fg)(C0:Addr)(E:XS)(tb:XS->TS)(te:TE):TS:=λD σ H=>∃Es:XS,tb Es D σ H/\∀x C d c2 σ' H',Es (.ref x) d σ' H'->H' x=some (excF x C d c2)->
 XCl K C/\PySem.W.mroIn K C (.ref C0)=some true/\c2=.none ∧
 te σ' H' λv H1=>∃x' C' d',v=.ref x'/\H1 x'=some (cC x' C' d')/\x'≠x/\H1 x=some (excF x C d .none)/\XCl K C'/\E (.ref x') d' σ' (upd H1 x' (excF x' C' d' (.ref x)))
def Rz {n:List Stmt} {ex:Expr} {tb:XS->TS} {te:TE} {y:Str} {C0:Addr} {np a1 Y cp pos:Pos} {cj} (hc:X.calm=true) (hs:X.stack=X.env::X.outer) (hf:X.env.frame=some X.env.locals)
  (hm:X.mg y=some (.ref C0)) (M0:tF X.K C0 bmV "ValueError.__new__"=true) (hb:∀pn Es,PSs ((X.pnd pn).thr Es) n (tb Es)) (he:∀e,PE ((X.mkd e).nox) ex te)
  (hg:Gl X y:=by rfl) (ae:(y == ("__debug__":Str))=false:=by decide) :
  PS (X.thr E) (.Try n [.ExceptHandler (some (.Name y np)) none [.Raise (some ex) (some (.Constant .none cj cp)) Y] a1] [] [] pos) (N0 X.K C0 E tb te):=by
 intro b s σ H D I h;have I:=I.unwish;obtain⟨Es,ag,hh⟩:=h;refine wpAny_Try_except ?_;refine wpAny_mono (hb (X.pn++b) Es [] s σ H D (I.pnd.wish _) ag) (λf O q=>?_) (λe O q=>?_)
 ·have U:SP X b D f O:=SP.unpnd I.ok q.unwish
  have q2:SP (X.thr E) b D f O:=by
   cases f with
   |next=>obtain⟨c,g,J,q⟩:=U;exact⟨c,g,J.wish _,q⟩
   |brk=>obtain⟨c,g,J,q⟩:=U;exact⟨c,g,J.wish _,q⟩
   |cont=>obtain⟨c,g,J,q⟩:=U;exact⟨c,g,J.wish _,q⟩
   |ret u=>obtain⟨v,c,g,J,r,q⟩:=U;exact⟨v,c,g,J.wish _,r,q⟩
  cases f with
  |next=>exact wpAny_execs_nil q2
  |brk=>exact q2
  |cont=>exact q2
  |ret u=>exact q2
 ·obtain⟨x,C,d,T,c2,fl,a6,c,g,rfl,I1,hx,hT,t,qe⟩:=q
  have l:Inv X b c g O:=I1.unpnd I.ok;have a5:∀o,T=some o->FpOk X b g o:=λo z=>(hT o z).unpnd;obtain⟨M,a0,af,qs⟩:=hh x C d c2 c g qe hx;subst af;have fr:X.A.frames=some (X.env::X.outer):=by rw[I.ok.frames,hs]
  have fn:O.heap.FunFrames X.base (X.env::X.outer):=by rw[<- hs];exact l.stack
  refine wJ (base:=X.base) fr fn hf t λh1 o a w t1=>?_;rw[<- hs]at a;have I2:=l.flight hx a5 a t1
  have a4:∀T2,some o=some T2->FpOk X b g T2:=λT2 z=>by
   cases z;rcases w with z |z
   ·exact a5 o z
   ·exact l.fpOk z (l.hok.fresh z)
  refine sX (s:={O with heap:=h1}) (fs:=dE X.stack) (fr:=none) t1 λh2 a2 t2=>?_;have I3:=I2.flight hx a4 a2 t2;refine wpAny_handleBy_cons (codeAny_handlers_test ?_) (by intro q;cases q);refine oK (X:=X.mkd (.ref x)) (I3.mkd _) hg hm ?_ ae;obtain⟨vs,hz,ac,_⟩:=id t2;refine S9 ac (rF I3.kIn M.obj) (rF I3.kIn M0) I3.kIn a0 ?_;refine codeAny_handlers_suite ?_;refine sX (s:={O with heap:=h2}) (fs:=dE X.stack) (fr:=none) t2 λh3 a3 t3=>?_;have I4:=I3.flight hx a4 a3 t3;refine wpAny_passesOwnAt (Ug (X:=X) (E:=E) fr hs hf) ?_;refine wpAny_execs_cons ?_;rw[arm_exec_Raise];simp only[evalOpt,Option.map];have ab:(X.A.mark (some (.ref x))).handled=some (.ref x):=Z;refine zX (wpAny_standAt (V5 (old:=x) ab ?_ ?_))
  ·refine zX (wpAny_mono (he (.ref x) b _ c g _ ((I4.mkd _).wish _) qs) (λv s5 h5=>zX (wpAny_standAt (z7 ?_))) λ_ _ z=>False.elim z)
   obtain⟨u,H1,I5,r,m,C',d',ah,ea,aa,eo,c',q⟩:=h5;subst ah;obtain rfl:v=Value.ref m:=r;have j:Inv X b c H1 s5:=I5.unwish.unmkd I.ok;obtain⟨t0,a9⟩:=j.hok.exc ea;obtain⟨vo,a7,a8⟩:=j.hok.excF eo;refine⟨m,t0,C',d',bmV,_,vo,Z,aa,by decide,rF j.kIn c'.obj,a9,a8,Z,a7.2,λh' kk e'=>?_⟩
   have I6:Inv X b c (upd H1 m (excF m C' d' (.ref x))) {s5 with heap:=h'}:=by
    have mu:pH (H1 m):=by rw[ea];exact True.intro
    exact j.write (t':=s5.toks) (x:=m) (e:=m) mu (.inl Z) kk ⟨_,e'⟩ (ObjOk.excF ⟨Z,Z⟩ e')
   exact⟨m,C',d',none,.ref x,.none,b,c,_,Z,I6,aC,λo z=>(nomatch z),⟨_,⟨Z,Z⟩,e',Z⟩,q⟩
  ·intro s' Q' U
   exact zX (Constant_none (zX (wpAny_standAt (z7 U))))
def Rj(hs:X.stack=X.env::X.outer)(a:X.env.frame=some X.env.locals):PassesOwn (model (X.thr E).prog (X.thr E).w) (X.thr E).A (X.thr E).env (X.thr E).xe:=Ox hs a
end
def DefXs.is{P:Program}{w:World}{K:Fg}{mg:Str->Option Value}{base:Heap}{n:Nat}{x:Str}{ps:List Str}{sp:Sp}(D:DefXs P w K mg base n x ps sp)(h:∀vs H Q E,sp vs H Q E->sp vs H Q E0):DefIs P w K mg base n x ps sp:=by
 obtain⟨f,fd,F,r⟩:=D.ex;refine⟨f,fd,⟨F.len,λA outer s H args us vs Q E hr he hb hv hs=>codeAny_mono (F.run A outer s H args us vs Q E0 hr he hb hv (h _ _ _ _ hs)) λr s' q=>?_⟩,r⟩
 cases r with
 |error e=>
  obtain⟨_,_,_,_,_,_,_,_,_,_,_,_,_,_,_,z⟩:=q;exact z.elim
 |ok fl=>cases fl <;> exact q
section
variable {κ:Type}[DecidableEq κ]
def cK(kvs:List (κ×V))(k:κ):Option V:=(kvs.find? λkv=>decide (kv.1=k)).map (·.2)
def bX(kvs:List (κ×V))(k:κ)(v:V):List (κ×V):=
 if (kvs.any λkv=>decide (kv.1=k))=true then kvs.map (λkv=>if kv.1=k then (kv.1,v) else kv) else kvs++[(k,v)]
theorem sQ{p:κ×V}{r:List (κ×V)}{k:κ}(e:p.1=k):cK (p::r) k=some p.2:=by simp[cK,List.find?_cons,e]
theorem oN{p:κ×V}{r:List (κ×V)}{k:κ}(e:¬p.1=k):cK (p::r) k=cK r k:=by simp[cK,List.find?_cons,e]
theorem Ai(k:κ):∀kvs:List (κ×V),(kvs.any λb=>decide (b.1=k))=(cK kvs k).isSome
 |[]=>Z
 |p::r=>by
  rw[List.any_cons];by_cases e:p.1=k
  ·simp only[sQ e,cM e,Bool.true_or,Option.isSome_some]
  ·rw[oN e,eI e,Bool.false_or];exact Ai k r
def Jb(kvs:List (κ×V))(k:κ)(v:V):(bX kvs k v).length<=kvs.length+1:=by
 unfold bX;split
 ·rw[aR];omega
 ·rw[bK,List.length_cons,List.length_nil];omega
theorem G8{kvs:List (κ×V)}{k:κ}(v:V)(h:cK kvs k=none):bX kvs k v=kvs++[(k,v)]:=by
 unfold bX;rw[Ai,h];exact if_neg (by decide)
theorem RelO.isSome_eq{o:Option V}{u:Option Value}(r:RelO o u):o.isSome=u.isSome:=by
 cases o with
 |none=>cases u with
  |none=>rfl
  |some _=>exact(show False from r).elim
 |some _=>cases u with
  |none=>exact(show False from r).elim
  |some _=>rfl
theorem KV.val{kvs:List (κ×V)}{vs:List (κ×Value)}(r:KV kvs vs)(k:κ):RelO (cK kvs k) (valueAt vs k):=by
 unfold KV at r
 induction r with
 |nil=>exact True.intro
 | @cons p q ps qs h t ih=>
  obtain⟨h1,h2⟩:=h;by_cases e:p.1=k
  ·have e':q.1=k:=h1.symm.trans e
   have b:valueAt (q::qs) k=some q.2:=by simp[valueAt,List.find?_cons,e']
   rw[sQ e,b];exact h2
  ·have e':¬q.1=k:=λz=>e (h1.trans z)
   have b:valueAt (q::qs) k=valueAt qs k:=by simp[valueAt,List.find?_cons,e']
   rw[oN e,b];exact ih
theorem KV.any{kvs:List (κ×V)}{vs:List (κ×Value)}(r:KV kvs vs)(k:κ):(kvs.any λb=>decide (b.1=k))=vs.any λb=>decide (b.1=k):=by
 unfold KV at r
 induction r with
 |nil=>rfl
 |cons h t c=>rw[List.any_cons,List.any_cons,c,h.1]
def KV.repl {kvs:List (κ×V)} {vs:List (κ×Value)} (r:KV kvs vs) (k:κ) {y:V} {u:Value} (g:RelV y u) :
  KV (kvs.map λb=>if b.1=k then (b.1,y) else b) (vs.map λb=>if b.1=k then (b.1,u) else b):=by
 unfold KV at r⊢
 induction r with
 |nil=>exact .nil
 |@cons p q ps m h t j=>
  rw[List.map_cons,List.map_cons];refine .cons ?_ j;obtain⟨c,l⟩:=h;by_cases e:p.1=k
  ·rw[if_pos e,if_pos (c.symm.trans e)];exact⟨c,g⟩
  ·rw[if_neg e,if_neg (λz=>e (c.trans z))];exact⟨c,l⟩
def KV.put{kvs:List (κ×V)}{vs:List (κ×Value)}(r:KV kvs vs)(k:κ){y:V}{u:Value}(b:RelV y u):KV (bX kvs k y) (stored vs k u):=by
 unfold bX stored;rw[r.any k];by_cases e:(vs.any λc=>decide (c.1=k))=true
 ·rw[if_pos e,if_pos e];exact r.repl k b
 ·rw[if_neg e,if_neg e];exact Paired.snoc r ⟨Z,b⟩
theorem KV.length{kvs:List (κ×V)}{vs:List (κ×Value)}(r:KV kvs vs):kvs.length=vs.length:=Paired.length r
end
def vI{P:Program}{w:World}{k:aK}{u:Value}(r:RelV (kV k) u):(eX P w).is k u=true:=by
 cases k with
 |inl i=>obtain⟨t,e⟩:=(show ∃t,u=Value.int i t from r);subst e;exact Va P w i t
 |inr x=>obtain⟨t,e⟩:=(show ∃t,u=Value.str x t from r);subst e;exact Vb P w x t
theorem He{P:Program}{w:World}:∀{ks:List aK} {us:List Value},Vals (ks.map kV) us->ItemsAre (eX P w) ks us
 |[],_,r=>by rw[List.map_nil]at r;cases r;exact .nil
 |k::ks,_,r=>by
  rw[List.map_cons]at r
  cases r with
  |cons h t=>exact .cons (vI h) (He t)
abbrev KT(H:Hp):List (List aK×V)->List (List aK×Addr×Value)->Prop:=Paired λp q=>p.1=q.1/\H q.2.1=some (.tup (p.1.map kV))/\RelV p.2 q.2.2
theorem KT.val{H:Hp}{kvs:List (List aK×V)}{xs:List (List aK×Addr×Value)}(r:KT H kvs xs)(k:List aK):RelO (cK kvs k) ((atKey xs k).map (·.2)):=by
 induction r with
 |nil=>exact True.intro
 | @cons p q ps c h t l=>
  obtain⟨j,_,m⟩:=h;by_cases e:p.1=k
  ·have g:q.1=k:=j.symm.trans e
   have b:atKey (q::c) k=some q.2:=by simp[atKey,List.find?_cons,g]
   rw[sQ e,b];exact m
  ·have g:¬q.1=k:=λz=>e (j.trans z)
   have b:atKey (q::c) k=atKey c k:=by simp[atKey,List.find?_cons,g]
   rw[oN e,b];exact l
def KT.repl {H:Hp} {kvs:List (List aK×V)} {xs:List (List aK×Addr×Value)} (r:KT H kvs xs) (k:List aK) {y:V} {u:Value} (j:RelV y u) :
  KT H (kvs.map λc=>if c.1=k then (c.1,y) else c) (xs.map (putAt k u)):=by
 induction r with
 |nil=>exact .nil
 |@cons p q ps n h t l=>
  rw[List.map_cons,List.map_cons];refine .cons ?_ l;obtain⟨b,g,m⟩:=h;unfold putAt;by_cases e:p.1=k
  ·rw[if_pos e,if_pos (b.symm.trans e)];exact⟨b,g,j⟩
  ·rw[if_neg e,if_neg (λz=>e (b.trans z))];exact⟨b,g,m⟩
def KT.put {H:Hp} {kvs:List (List aK×V)} {xs:List (List aK×Addr×Value)} (r:KT H kvs xs) (k:List aK) {b:Addr} {y:V} {u:Value} (j:H b=some (.tup (k.map kV))) (c:RelV y u) :
  KT H (bX kvs k y) (storedH xs k b u):=by
 have e:(kvs.any λg=>decide (g.1=k))=(atKey xs k).isSome:=by
  rw[Ai,(r.val k).isSome_eq,Option.isSome_map]
 unfold bX storedH;rw[e];by_cases q:(atKey xs k).isSome=true
 ·rw[if_pos q,if_pos q];exact r.repl k c
 ·rw[if_neg q,if_neg q];exact Paired.snoc r ⟨Z,j,c⟩
def KT.keeps{H c:Hp}{kvs:List (List aK×V)}{xs:List (List aK×Addr×Value)}(r:KT H kvs xs)(g:∀b ys,H b=some (.tup ys)->c b=some (.tup ys)):KT c kvs xs:=
 Paired.mapP r λ_ _ z=>⟨z.1,g _ _ z.2.1,z.2.2⟩
section
variable {P:Program}{w:World}{H:Hp}{h:Heap}{a:Addr}
def Dj{u:HO}(ok:HOk P w H h)(e:Rd H a u):ObjOk P w H h a u:=e.ok ok
def rV{kvs:List (aK×V)}(ok:HOk P w H h)(e:Rd H a (.dK kvs)):kvs.length<=sizeLine/\(a == sysModules)=false/\∃vs,KV kvs vs/\h.DictOf (eX P w) a vs:=
 show ObjOk P w H h a (.dK kvs) from Dj ok e
def rT{kvs:List (aK×V)}(ok:HOk P w H h)(e:H a=some (.dK kvs)):kvs.length<=sizeLine/\(a == sysModules)=false/\∃vs,KV kvs vs/\h.DictOf (eX P w) a vs:=rV ok (.inl e)
def sA{ks:List aK}(ok:HOk P w H h)(e:H a=some (.tup (ks.map kV))):(tupleKind (eX P w)).is h ks a:=by
 obtain⟨_,its,r,o,h1,h2,n,h3,_⟩:=(show ObjOk P w H h a (.tup (ks.map kV)) from ok a _ e);exact⟨o,its.toArray,n,h1,h2,h3,by simpa using He r⟩
def rW {kvs:List (List aK×V)} (ok:HOk P w H h) (e:Rd H a (.dT kvs)):kvs.length<=sizeLine/\(a == sysModules)=false ∧
  ∃xs,KT H kvs xs/\h.DictOfH (tupleKind (eX P w)) a xs:=by
 obtain⟨z,y,xs,r,o,es,ep,J,I,C,n,j⟩:=(show ObjOk P w H h a (.dT kvs) from Dj ok e);refine⟨z,y,xs,r,o,es,ep,J,I,C,n,λx b=>?_,j⟩
 have all:∀{l:List (List aK×V)} {m:List (List aK×Addr×Value)},KT H l m->∀x∈m,(tupleKind (eX P w)).is h x.1 x.2.1:=by
  intro l m q
  induction q with
  |nil=>intro x b;exact nomatch b
  | @cons p q ps M c t g=>
   intro x b;rcases cE b with e |b
   ·subst e
    exact sA ok (by rw[<- c.1];exact c.2.1)
   ·exact g x b
 exact all r x b
def L5 {kvs:List (List aK×V)} (ok:HOk P w H h) (e:H a=some (.dT kvs)):kvs.length<=sizeLine/\(a == sysModules)=false ∧
  ∃xs,KT H kvs xs/\h.DictOfH (tupleKind (eX P w)) a xs:=rW ok (.inl e)
end
def DGet(H:Hp)(a:Addr)(y:V)(r:Option V):Prop:=
 (∃kvs k,Rd H a (.dK kvs)/\y=kV k/\r=cK kvs k)\/∃kvs k b,Rd H a (.dT kvs)/\y=.ref b/\H b=some (.tup (k.map kV))/\r=cK kvs k
def DPut(H:Hp)(a:Addr)(y v:V)(H':Hp):Prop:=
 (∃kvs k,H a=some (.dK kvs)/\y=kV k/\kvs.length<sizeLine/\H'=upd H a (.dK (bX kvs k v))) ∨
 ∃kvs k b,H a=some (.dT kvs)/\y=.ref b/\H b=some (.tup (k.map kV))/\kvs.length<sizeLine/\H'=upd H a (.dT (bX kvs k v))
theorem DGet.k{H:Hp}{a:Addr}{kvs:List (aK×V)}{k:aK}(e:H a=some (.dK kvs)):DGet H a (kV k) (cK kvs k):=.inl ⟨kvs,k,.inl e,Z,Z⟩
theorem DGet.t{H:Hp}{a b:Addr}{kvs:List (List aK×V)}{k:List aK}(e:H a=some (.dT kvs))(c:H b=some (.tup (k.map kV))):DGet H a (.ref b) (cK kvs k):=.inr ⟨kvs,k,b,.inl e,Z,c,Z⟩
theorem DPut.k{H:Hp}{a:Addr}{kvs:List (aK×V)}{k:aK}{v:V}(e:H a=some (.dK kvs))(b:kvs.length<sizeLine):DPut H a (kV k) v (upd H a (.dK (bX kvs k v))):=.inl ⟨kvs,k,e,Z,b,Z⟩
theorem DPut.t {H:Hp} {a b:Addr} {kvs:List (List aK×V)} {k:List aK} {v:V} (e:H a=some (.dT kvs)) (g:H b=some (.tup (k.map kV))) (c:kvs.length<sizeLine) :
  DPut H a (.ref b) v (upd H a (.dT (bX kvs k v))):=.inr ⟨kvs,k,b,e,Z,g,c,Z⟩
section
variable {X:Cx}{pins:List (Addr×Obj)}{σ:St}{H:Hp}{s:Shared}{a:Addr}{y v:V}{u r:Value}{o:Option V}{A:Around}{E:Value->Shared->Prop}
def Inv.big(I:Inv X pins σ H s):sysModules<s.heap.objs.size:=by
 have h:mainGlobals<s.heap.objs.size:=(I.mod.glob.keeps I.bk).lt;exact Nat.lt_trans (by decide) h
def Ro {Q:Value->Shared->Prop} (hu:A.units+1<cLine) (I:Inv X pins σ H s) (g:DGet H a y (some v)) (ry:RelV y u) (h:∀w' s',Inv X pins σ H s'->RelV v w'->Q w' s') :
  wpAny (model X.prog X.w) A (getItem (.ref a) u) Q E s:=by
 rcases g with⟨kvs,k,e,ey,l⟩ |⟨kvs,k,b,e,ey,eb,l⟩
 ·subst ey
  obtain⟨z,hd,vs,rel,dd⟩:=rV I.hok e;obtain⟨w',hw,rw'⟩:=RelO.some_of (v:=v) (o:=valueAt vs k) (by rw[l];exact rel.val k);exact wpAny_getItem_of (vI ry) dd.mapOf hw (h w' _ (I.tok _) rw')
 ·subst ey
  cases (show u=Value.ref b from ry);obtain⟨z,hd,xs,rel,dd⟩:=rW I.hok e;obtain⟨w',hw,rw'⟩:=RelO.some_of (v:=v) (o:=(atKey xs k).map (·.2)) (by rw[l];exact rel.val k);obtain⟨p,hp,hp2⟩:=fL hw;refine wpAny_getItem_heap (tupleKind_room_in1 hu) (sA I.hok eb) dd hp ?_;rw[hp2];exact h w' _ (I.tok _) rw'
def Nn {Q:Value->Shared->Prop} (x:A.units+1<cLine) (I:Inv X pins σ H s) (g:DGet H a y o) (p:RelV y u) (h:∀n,Inv X pins σ H n->Q (.bool (!o.isSome)) n) :
  wpAny (model X.prog X.w) A (compareOp .NotIn u (.ref a)) Q E s:=by
 rcases g with⟨kvs,k,e,j,l⟩ |⟨kvs,k,b,e,j,C,l⟩
 ·subst j
  obtain⟨z,hd,vs,c,m⟩:=rV I.hok e;refine wpAny_notIn_of (vI p) hd m.mapOf ?_;rw[<- (c.val k).isSome_eq,<- l];exact h _ (I.tok _)
 ·subst j
  cases (show u=Value.ref b from p);obtain⟨z,hd,xs,c,m⟩:=rW I.hok e;refine wpAny_notIn_heap (tupleKind_room_in1 x) (sA I.hok C) hd m ?_;have q:=(c.val k).isSome_eq;rw[Option.isSome_map]at q;rw[<- q,<- l];exact h _ (I.tok _)
def wF {h':Heap} {t':Nat} {ob:HO} (I:Inv X pins σ H s) (mu:pH (H a)) (hs:Heap.SameBut a s.heap h') (he:∃q,h'.get? a=some q) (new:ObjOk X.prog X.w (upd H a ob) h' a ob) :
  Inv X pins σ (upd H a ob) {s with heap:=h',toks:=t'}:=
 I.write (x:=a) (e:=a) mu (.inl rfl) (λb q hb z=>(hs.2 b hb).trans z) he new
def Eg {P:Program} {w:World} {g:Hp} {h':Heap} {kvs:List (aK×V)} {vs:List (aK×Value)} (z:kvs.length<=sizeLine) (hd:(a == sysModules)=false) (b:KV kvs vs) (c:h'.DictOf (eX P w) a vs) :
  ObjOk P w g h' a (.dK kvs):=⟨z,hd,vs,b,c⟩
def Rp {H':Hp} {Q:Unit->Shared->Prop} (hu:A.units+1<cLine) (I:Inv X pins σ H s) (g:DPut H a y v H') (ry:RelV y u) (rv:RelV v r) (h:∀s',Inv X pins σ H' s'->Q () s') :
  wpAny (model X.prog X.w) A (setItem (.ref a) u r) Q E s:=by
 rcases g with⟨kvs,k,e,ey,l,eH⟩ |⟨kvs,k,b,e,ey,eb,l,eH⟩
 ·subst ey eH
  obtain⟨z,hd,vs,rel,dd⟩:=rT I.hok e;have hz:vs.length<=sizeLine:=by rw[<- rel.length];exact z
  have hl:(bX kvs k v).length<=sizeLine:=by have:=Jb kvs k v;omega
  refine wpAny_setItem_pairs (hsz:=hz) (vI ry) dd λh' dd' hs=>h _ ?_;have he:∃q,h'.get? a=some q:=let ⟨q,_,_,hq,_⟩:=dd';⟨q,hq⟩;exact wF I (by rw[e];exact True.intro) hs he (Eg hl hd (rel.put k rv) dd')
 ·subst ey eH
  cases (show u=Value.ref b from ry);obtain⟨z,hd,xs,rel,dd⟩:=L5 I.hok e;have hz:xs.length<=sizeLine:=by rw[<- Paired.length rel];exact z
  have hl:(bX kvs k v).length<=sizeLine:=by have:=Jb kvs k v;omega
  refine wpAny_setItem_heap (hsz:=hz) (tupleKind_room_in1 hu) (sA I.hok eb) dd λh' dd' hs=>h _ ?_;obtain⟨q,es,ep,hq,h2,h3,h4,_,h5⟩:=dd';refine wF I (by rw[e];exact True.intro) hs ⟨q,hq⟩ ⟨hl,hd,_,(rel.put k eb rv).keeps λc ys ec=>?_,q,es,ep,hq,h2,h3,h4,h5⟩;rw[aG (Lh ec e (λz=>nomatch z))];exact ec
end
def tV(i:Expr):Prop:=∀ov iv,subscripted i false ov iv=operate [ov,iv] (getItem ov iv)
def Os {prog:Program} {w:World} {A:Around} {E:Value->Shared->Prop} {s:Shared} {env:Env} {value b:Expr} {pos:Pos} {T id:String} {Q:Value->Shared->Prop}
  (p:typeLookup (.type T) "__getitem__"=pure (some (.builtin id))) (hs:tV b)
  (h:wpAny (model prog w) A (eval value env) (λo l=>wpAny (model prog w) A (eval b env) (λi c=>c.TypeIs o T/\wpAny (model prog w) A (getItem o i) Q E c) E l) E s) :
  wpAny (model prog w) A (eval (.Subscript value b pos) env) Q E s:=by
 refine Subscript_ (wpAny_mono h (λo l h₁=>wpAny_mono h₁ (λi c g=>?_) λ_ _ x=>x) λ_ _ x=>x);obtain⟨m,g⟩:=g;unfold subscriptTail;refine zX ?_;rw[getitemInPython_of_ne m.not_modules];refine zX (wpAny_specialOf m p ?_)
 have fin:wpAny (model prog w) A (subscripted b false o i) (λr j=>wpAny (model prog w) A (letTemporaryGo value o r >>= λ_=>pure r) Q E j) E c:=by
  rw[hs o i];exact wpAny_operating (wpAny_mono g (λr j n=>zX (wpAny_letTemporaryGo (z7 n))) λ_ _ x=>x)
 first
  |exact z7 (zX fin)
  |exact zX (z7 (zX fin))
  |exact zX fin
def Vq{X:Cx}{pins:List (Addr×Obj)}{σ:St}{H:Hp}{s:Shared}{a:Addr}{y:V}{o:Option V}(I:Inv X pins σ H s)(g:DGet H a y o):s.TypeIs (.ref a) "dict":=by
 rcases g with⟨kvs,k,e,_,_⟩ |⟨kvs,k,b,e,_,_,_⟩
 ·obtain⟨_,_,vs,_,c⟩:=rV I.hok e
  exact c.typeIs
 ·obtain⟨_,_,xs,_,c⟩:=rW I.hok e
  exact c.typeIs
def Md(td ty:TE):TE:=λσ H Q=>td σ H λx H1=>ty σ H1 λy H2=>∃a v,x=.ref a/\DGet H2 a y (some v)/\Q v H2
def Ov(ty td:TE):TE:=λσ H Q=>ty σ H λy H1=>td σ H1 λx H2=>∃a o,x=.ref a/\DGet H2 a y o/\Q (.bl (!o.isSome)) H2
def Mb(td ty tv:TE):TS:=λD σ H=>tv σ H λv H1=>td σ H1 λx H2=>ty σ H2 λy H3=>∃a H4,x=.ref a/\DPut H3 a y v H4/\D.nx σ H4
section
variable {X:Cx}{o i e value:Expr}{pos pos' tpos:Pos}{td ty tv:TE}
def nE(z:X.A.units+1<cLine)(C:PE X o td)(hi:PE X i ty)(hs:tV i):PE X (.Subscript o i pos) (Md td ty):=by
 intro pins s σ H Q I h;refine Os PySem.F.slot_dict_getitem.lookup hs (aN (C pins s σ H _ I h) λu j ⟨x,U,M,m,p⟩=>aN (hi pins j σ U _ M p) λiv s2 ⟨y,O,c,l,a,v,ex,g,n⟩=>?_);subst ex;obtain rfl:u=Value.ref a:=m;exact⟨Vq c g,Ro z c g l λY s3 J b=>⟨v,O,J,b,n⟩⟩
def Ht(p:X.A.units+1<cLine)(hi:PE X i ty)(z:PE X o td):PC X .NotIn i o (Ov ty td):=by
 intro pins s σ H Q I h;refine aN (hi pins s σ H _ I h) λiv b ⟨y,U,M,c,m⟩=>aN (z pins b σ U _ M m) λu s2 ⟨x,O,J,j,a,n,ex,g,l⟩=>?_;subst ex;obtain rfl:u=Value.ref a:=j;exact Nn p J g c λY C=>⟨.bl (!n.isSome),O,C,Z,l⟩
def wB (J:X.A.units+1<cLine) (M:PE X o td) (hi:PE X i ty) (C:PE X value tv) (hs:swapsWith value (some (.Subscript o i pos')) pos.line X.env=pure false) :
  PS X (.Assign [.Subscript o i pos'] value pos) (Mb td ty tv):=by
 intro pins s σ H D I h;refine wpAny_Assign_Subscript (aN (C pins s σ H _ I h) λr c ⟨v,H1,I1,m,z⟩=>aN (M pins c σ H1 _ I1 z) λu b ⟨x,H2,Y,l,p⟩=>aN (hi pins b σ H2 _ Y p) λiv s3 ⟨y,H3,U,j,a,H4,ex,g,n⟩=>?_) hs;subst ex;obtain rfl:u=Value.ref a:=l;exact Rp J U g j m λs4 O=>⟨σ,H4,O,n⟩
end
def Qp{P:Program}{w:World}{H:Hp}(h:Heap)(b:sysModules<h.objs.size):ObjOk P w H (h.push {cls:=.type "dict",data:=.dict #[]}) h.objs.size (.dK []):=
 ⟨qR _,beq_eq_false_iff_ne.mpr (Ne.symm (qE b)),[],.nil,Heap.DictOf.new h⟩
def Qq{P:Program}{w:World}{H:Hp}(h:Heap)(b:sysModules<h.objs.size):ObjOk P w H (h.push {cls:=.type "dict",data:=.dict #[]}) h.objs.size (.dT []):=
 ⟨qR _,beq_eq_false_iff_ne.mpr (Ne.symm (qE b)),[],.nil,_,#[],0,z9 _ Z,⟨Z,Z,Z⟩,Z,Z,List.nodup_nil⟩
def O8:TE:=λ_ H Q=>∀p,H p=none->Q (.ref p) (upd H p (.dK []))
def O9:TE:=λ_ H Q=>∀p,H p=none->Q (.ref p) (upd H p (.dT []))
section
variable {X:Cx}{pos:Pos}
def Aa:PE X (.Dict [] [] pos) O8:=λpins s σ H Q I h=>
 wpAny_Dict_empty ⟨.ref s.heap.objs.size,_,I.laid (a:=s.heap.objs.size) (o:=.dK []) (t':=s.toks) (λ_ _ q=>aT _ q) (zZ _) (Qp s.heap I.big),Z,h _ (I.hok.fresh (zZ _))⟩
def Ab:PE X (.Dict [] [] pos) O9:=λpins s σ H Q I h=>
 wpAny_Dict_empty ⟨.ref s.heap.objs.size,_,I.laid (a:=s.heap.objs.size) (o:=.dT []) (t':=s.toks) (λ_ _ q=>aT _ q) (zZ _) (Qq s.heap I.big),Z,h _ (I.hok.fresh (zZ _))⟩
end
def Xi(H:Hp)(a:Addr):Prop:=(∃kvs,Rd H a (.dK kvs))\/∃kvs,Rd H a (.dT kvs)
def vT {X:Cx} {pins:List (Addr×Obj)} {σ:St} {H:Hp} {s:Shared} {a:Addr} (I:Inv X pins σ H s) (d:Xi H a) :
  s.TypeIs (.ref a) "dict"/\(∀b,Value.ref a=.ref b->∃ob,s.heap.get? b=some ob/\ob.dict=none)/\(a == sysModules)=false:=by
 rcases d with⟨kvs,e⟩ |⟨kvs,e⟩
 ·obtain⟨_,hd,vs,_,c⟩:=rV I.hok e
  refine⟨c.typeIs,λb q=>?_,hd⟩;cases q;obtain⟨ob,_,_,j,g,_⟩:=c;exact⟨ob,j,g.2.1⟩
 ·obtain⟨_,hd,xs,_,c⟩:=rW I.hok e
  refine⟨c.typeIs,λb q=>?_,hd⟩;cases q;obtain⟨ob,_,_,j,g,_⟩:=c;exact⟨ob,j,g.2.1⟩
section
variable {es:List Expr}{env:Env}
def Ib{a b c}:starEach (.Dict a b c::es) env=(false,eval (.Dict a b c) env)::starEach es env:=Z
end
section
variable {ix:fV}{tt:TT}{te:TE}{g:TG}{σ:St}{H:Hp}{Q:VK}
def iF(Pv:Nat->List V->Hp->Prop)(n i:Nat)(ys:List V):VK:=λy H2=>∃m',m'<n-i/\m'=n-(i+1)/\i+1<=n/\(ys++[y]).length<=i+1/\Pv (i+1) (ys++[y]) H2
def iE(Pv:Nat->List V->Hp->Prop)(n i:Nat)(ys:List V):Hp->Prop:=λH2=>∃m',m'<n-i/\m'=n-(i+1)/\i+1<=n/\ys.length<=i+1/\Pv (i+1) ys H2
def hX{a:Nat->List V->Hp->Prop}{n i:Nat}{ys:List V}{y:V}{b:Hp}(hi:i<n)(c:ys.length<=i)(h:a (i+1) (ys++[y]) b):iF a n i ys y b:=
 ⟨n-(i+1),by omega,Z,hi,by rw[bK,List.length_singleton];omega,h⟩
def Cc{a:Nat->List V->Hp->Prop}{n i:Nat}{ys:List V}{b:Hp}(hi:i<n)(c:ys.length<=i)(h:a (i+1) ys b):iE a n i ys b:=
 ⟨n-(i+1),by omega,Z,hi,by omega,h⟩
def wR {K:Fg} {a:Addr} {xs:List V} (c:Nat->List V->Hp->Prop) (h0:c 0 [] H) (hn:xs.length<sizeLine) (j:∀i ys H,i<=xs.length->c i ys H->SqT K H a xs)
  (hs:∀i x ys H,xs[i]?=some x->i<xs.length->ys.length<=i->c i ys H->g x (bR l σ) H λh w=>mS (bR l σ) h/\r h w λb o=>if b=true then u h o (iF c xs.length i ys) else iE c xs.length i ys o)
  (hd:∀ys H,ys.length<=xs.length->c xs.length ys H->∀D,H D=none->Q (.ref D) (upd H D (.lst ys))):gW (pM K a) l g r u σ H Q:=by
 refine⟨λi m ys H=>m=xs.length-i/\i<=xs.length/\ys.length<=i/\c i ys H,⟨xs.length,by simp,qR _,zZ _,h0⟩,?_⟩;rintro i m ys H ⟨rfl,hi,n,p⟩;have q:=j i ys H hi p;by_cases f:i<xs.length
 ·refine .inr ⟨⟨xs,xs[i],q,by simp[f]⟩,by omega,λv z y=>?_⟩
  obtain⟨e,y⟩:=y;subst e;exact hs i v ys _ (y xs q) f n p
 ·have e:i=xs.length:=by omega
  subst e;exact .inl ⟨⟨xs,q,zZ _⟩,hd ys H n p⟩
def eF{σ:St}{i j:Nat}{v w:Option V}(h:σ[i]?=some none)(k:σ[j]?=some none):mS σ ((σ.set i v).set j w):=by
 refine⟨by simp,λn c e=>?_⟩;have b:i≠n:=λz=>by subst z;rw[h]at e;cases e
 have a:j≠n:=λz=>by subst z;rw[k]at e;cases e
 rw[List.getElem?_set_ne a,List.getElem?_set_ne b];exact e
end
section
variable {X:Cx}{K:Fg}
def zV(h:X.K=K):tX X (tH K):=by subst h;exact bO
def rG {es:List Expr} {k:Nat} {t:nX} {n:Nat} {pos:Pos} (c:X.K=K) (b:X.calm=true) (h:tT X es t)
  (hn:(assignEach es X.env).length=n:=by rfl) (a:(assignEach es X.env).findIdx? (·.1)=none:=by rfl):PG X (.Tuple es k pos) (tN K n t):=by subst c;exact oE b h hn a
end
section
variable {X:Cx}{K:Fg}{T:String}{name:Str}{id:String}{r:V->List V->Hp->VK->Prop}{o e:Expr}{es:List Expr}{to:TE}{t:TA}{apos cpos:Pos}
def Dz (hK:X.K=K) (pa:PlainAttrs T) (slot:Slot T name id) (hty:typeOf (.builtin id)=pure (.type "method_descriptor")) (hm:nY X id r) (ho:PE X o to) (ha:PA X (e::es) t)
  (hbase:attributeBase o name X.env (eval o X.env)=eval o X.env:=by rfl)
  (hfew:((backTo cpos (starEach (e::es) X.env)).all (λx=>!x.1) && (backToKw cpos (keywordEach [] X.env)).all (λx=>x.1.isSome)
   && decide ((e::es).length+([]:List Keyword).length+(if ([]:List Keyword).isEmpty then 0 else 1)<30))=true:=by rfl)
  (hline:(apos.endLine == cpos.line)=true:=by rfl) (hs:starEach (e::es) X.env=(false,eval e X.env)::starEach es X.env:=by rfl) (hplain:(backTo cpos (starEach es X.env)).any (·.1)=false:=by rfl) :
  PE X (.Call (.Attribute o name apos) (e::es) [] cpos) (Jz K T r to t):=by
 subst hK;exact dJ pa slot hty hm ho ha hbase hfew hline hs hplain
end
def Pz{X:Cx}{K:Fg}(a:X.K=K):nY X "str.join" (Dh K):=by subst a;exact gZ
open PySem.W in
def Fk(K:Frag):Bool:=
 xW K (cAt K 0) && (readsIn K (ad K "SwapError") (.type "type") && (specialIn K (.ref (ad K "SwapError")) "__getattribute__" == some (some (.builtin "type.__getattribute__")) &&
 ((match findCls K (.ref (ad K "SwapError")) (.type "type") "__init__" with |some (.val v)=>v == .builtin "ValueError.__init__" | _=>false) &&
 (findIn K (.ref (cAt K 0)) "at" == some none))))
structure XTabA(K:Fg):Prop where
 cl:∀i,i<1->XCl K (cAt K i)
 sup:XSup K (ad K "SwapError")
 na:NoAttr K (cAt K 0) "at"
def xtabA_of{K:Fg}(e:Fk K=true):XTabA K:=by
 unfold Fk at e;simp only[Bool.and_eq_true,beq_iff_eq]at e;obtain⟨g,f,c,a,b⟩:=e;refine⟨λi h=>?_,⟨f,c,?_⟩,b⟩
 ·obtain rfl:i=0:=by omega
  exact Ni g
 split at a
 ·rename_i v q
  rw[q,beq_iff_eq.mp a]
 ·cases a
open PySem.W in
def Ee(K:Frag)(x:Str)(fs:List Str):Bool:=
 plainGet K (ad K x) Str.empty && (hasDictIn K (ad K x) && (plainOver K (ad K x) && (findIn K (.ref (ad K x)) "__setattr__" == some (some (.builtin "object.__setattr__")) && (makesIn K (ad K x) && (keepIn K (.ref (ad K x)) &&
 fs.all λf=>findIn K (.ref (ad K x)) f == some none)))))
structure DTab(K:Fg)(x:Str)(fs:List Str):Prop where
 cl:Cls K (ad K x)
 ms:PySem.W.makesIn K (ad K x)=true
 kp:PySem.W.keepIn K (.ref (ad K x))=true
 no:∀f∈fs,NoAttr K (ad K x) f
def dtab_of{K:Fg}{x:Str}{fs:List Str}(e:Ee K x fs=true):DTab K x fs:=by
 unfold Ee at e;simp only[Bool.and_eq_true,List.all_eq_true,beq_iff_eq]at e;obtain⟨j,h,g,f,c,b,a⟩:=e;exact⟨⟨j,h,g,f⟩,c,b,a⟩
section
variable {X:Cx}{n:Nat}{x:Str}{ps:List Str}{sp:Sp}{p pos:Pos}{fs:List Str}
def Qi (D:InitIs X.prog X.w X.K X.mg X.base n (ad X.K x) ps sp) (M:DTab X.K x fs) (hr:Room (n+1) X.A) (hm:X.mg x=some (.ref (ad X.K x))) (hg:Gl X x:=by rfl) (hdb:(x == ("__debug__":Str))=false:=by decide) :
  PE X (.Call (.Name x p) [] [] pos) (Dr (ad X.K x) sp [] E0 lB):=by
 obtain⟨f,fd,i,nn,F,b⟩:=D.ex;exact Ql ⟨M.ms,i,nn,M.kp⟩ F hr hg hm b .nil De hdb
end
end L2
end
section
namespace M
open PySem L2
mutual
def D.deep:D->Nat
 |.int _=>0
 |.str _=>0
 |.tup ds=>lC ds+1
def lC:List D->Nat
 |[]=>0
 |d::ds=>max d.deep (lC ds)
end
theorem As:∀{ds:List D} {d:D},d∈ds->d.deep<=lC ds
 | e::ds,d,h=>by
  show d.deep<=max e.deep (lC ds);rcases cE h with rfl |h
  ·omega
  ·have:=As h
   omega
section
variable {X:Cx}{pins:List (Addr×Obj)}{σ:St}{H:Hp}{s:Shared}
def vU{vs:List V}{its:List Value}(r:Vals vs its){j:Nat}(a:j<its.toArray.size):∃x,vs[j]?=some x/\RelV x its.toArray[j]:=by
 have b:=r.length;have h:j<its.length:=by simpa using a
 obtain⟨u,e,q⟩:=r.get (i:=j) (x:=vs[j]'(by omega)) (bV _)
 have g:its.toArray[j]=u:=by
  have:its[j]?=some its[j]:=bV h;rw[e]at this;simpa using (qB this).symm
 exact⟨vs[j]'(by omega),bV _,by rw[g];exact q⟩
theorem D9(I:Inv X pins σ H s):∀(n:Nat) (d:D) {x y:V} {u v:Value} {A:Around},d.deep<=n->RelD H x d->RelD H y d->RelV x u->RelV y v->A.units+n<cLine->SeqAt.EqAt A s u v true
 |n,.int i,x,y,u,v,A,_,hx,hy,ru,rv,_=>by
  cases hx;cases hy;obtain⟨t,rfl⟩:=ru;obtain⟨t',rfl⟩:=rv;have:=SeqAt.EqAt.int_int (A:=A) (s:=s) i t i t';rw[beq_self_eq_true]at this;exact this
 |n,.str z,x,y,u,v,A,_,hx,hy,ru,rv,_=>by
  cases hx;cases hy;obtain⟨t,rfl⟩:=ru;obtain⟨t',rfl⟩:=rv;have:=SeqAt.EqAt.str_str (A:=A) (s:=s) z t z t';rw[beq_self_eq_true]at this;exact this
 |0,.tup ds,x,y,u,v,A,h,_,_,_,_,_=>absurd h (Nat.not_succ_le_zero _)
 | n + 1,.tup ds,x,y,u,v,A,h,hx,hy,ru,rv,hA=>by
  obtain⟨a,vs,rfl,ha,rvs⟩:=hx;obtain⟨b,ws,rfl,hb,rws⟩:=hy;obtain rfl:u=.ref a:=ru;obtain rfl:v=.ref b:=rv;by_cases hab:a=b
  ·subst hab
   exact SeqAt.EqAt.same _
  ·obtain⟨its,r1,p1,_⟩:=I.tuple (zB (K:=X.K) ha)
   obtain⟨its2,r2,p2,_⟩:=I.tuple (zB (K:=X.K) hb);have l1:=r1.length;have l2:=r2.length;have l3:=rvs.length;have l4:=rws.length;have:=SeqAt.EqAt.of_refs hab (SeqAt.RcAt.tuples (A:=A) (e:=λ_=>true) p1 p2 (by omega) λj h1 h2=>?_)
   ·have e:((List.range (min its.toArray.size its2.toArray.size)).all (λ_=>true) && its.toArray.size == its2.toArray.size)=true:=by
     rw[show its.toArray.size=its2.toArray.size by simp only[List.size_toArray];omega];simp
    rw[e]at this;exact this
   ·obtain⟨x1,e1,q1⟩:=vU r1 h1
    obtain⟨x2,e2,q2⟩:=vU r2 h2;obtain⟨d1,f1,g1⟩:=rvs.get e1;obtain⟨d2,f2,g2⟩:=rws.get e2;rw[f1]at f2;cases f2;refine D9 I n d1 ?_ g1 g2 q1 q2 (by show A.units+1+n<cLine;omega);have:=As (cZ f1);have h':lC ds+1<=n+1:=h;omega
end
end M
end
section
namespace L2
def qU{σ:St}{H:Hp}{A B:Hp->Prop}(h:A H):dP σ H (λb a=>if b=true then A a else B a):=by
 unfold dP;show if true=true then A H else B H;rw[if_pos Z];exact h
end L2
namespace M
open PySem L2
def Fed.put{f p:Addr}{H c:Hp}(h:Fed f H c)(j:H p=none)(l:p≠f)(o:HO):Fed f H (upd c p o):=by
 obtain⟨s,x,y,e⟩:=h;refine⟨λb u a g=>?_,x,y,?_⟩
 ·rw[aG (bN a j)]
  exact s b u a g
 ·rw[aG (Ne.symm l)]
  exact e
def Ds{A:Around}{k:Nat}(a:Room k A):A.units+200<cLine:=by
 have:=a.un;omega
end M
end
section
namespace L2
open PySem PySem.Spec PyProof.Rows
def xQ{P:Program}{w:World}{k:aK}{v:Value}(h:(eX P w).is k v=true):RelV (kV k) v:=by
 cases k with
 |inl i=>
  have h':Value.isInt i v=true:=h;unfold Value.isInt at h';split at h' <;> simp_all [RelV,kV]
 |inr x=>
  have h':Value.isStrOf x v=true:=h;unfold Value.isStrOf at h';split at h' <;> simp_all [RelV,kV]
theorem A3:∀{xs:List V} {us:List Value},xs.length=us.length->(∀(i:Nat) x u,xs[i]?=some x->us[i]?=some u->RelV x u)->Vals xs us
 |[],[],_,_=>.nil
 |[],_::_,h,_=>by simp at h
 |_::_,[],h,_=>by simp at h
 |x::xs,u::us,h,k=>.cons (k 0 x u Z Z) (A3 (by simpa using h) λi y w a b=>k (i+1) y w (by simpa using a) (by simpa using b))
theorem KV.get{κ:Type}{kvs:List (κ×V)}{vs:List (κ×Value)}(r:KV kvs vs){i:Nat}{p:κ×V}{q:κ×Value}(a:kvs[i]?=some p)(b:vs[i]?=some q):p.1=q.1:=by
 unfold KV at r
 induction r generalizing i with
 |nil=>simp at a
 | cons h t c=>
  cases i with
  |zero=>
   simp at a b;subst a b;exact h.1
  |succ i=>exact c (by simpa using a) (by simpa using b)
theorem Gh:∀{ns:List Str} {us:List Value},Vals (ns.map V.str) us->StrsAre us ns
 |[],_,h=>by cases h;exact .nil
 | x::r,_,h=>by
  cases h with
  |cons a b=>
   obtain⟨t,rfl⟩:=a;constructor;exact Gh b
end L2
end
section
namespace L2
open PySem PySem.Spec PyProof.Rows M
section
variable {X:Cx}
def M7(K:Fg):R2:=λx y H Q=>∃a b xs ys,∃ds:List D,x=.ref a/\y=.ref b/\SqL K H a xs/\SqL K H b ys/\RelDs H xs ds/\RelDs H ys ds/\lC ds<=190/\Q (.bl false) H
def Ey(hu:X.A.units+200<cLine):cS X (compareOp .NotEq) (M7 X.K):=by
 intro n s σ H x y v u Q I z w h;obtain⟨a,b,xs,ys,ds,rfl,rfl,Y,U,f,c,hd,q⟩:=h;cases z;cases w;obtain⟨its,m,O,_⟩:=I.list Y;obtain⟨o,l,M,_⟩:=I.list U;have l1:=m.length;have l2:=l.length;have l3:=f.length;have l4:=c.length;refine PySem.EqBoolInt.of_rcne (SeqAt.RcNeAt.lists (e:=λ_=>true) O.isList M.isList (by simp only[List.size_toArray];omega) (by omega) λj h1 h2=>?_) ⟨.bl false,H,I,?_,q⟩
 ·obtain⟨x1,e1,J⟩:=vU m h1
  obtain⟨x2,e2,C⟩:=vU l h2;obtain⟨d1,r,g1⟩:=f.get e1;obtain⟨d2,p,g2⟩:=c.get e2;rw[r]at p;cases p;refine D9 I 190 d1 ?_ g1 g2 J C (by show X.A.units+1+190<cLine;omega);have:=As (cZ r);omega
 ·have e:(!(List.range its.toArray.size).all (λ_=>true))=false:=by simp
  rw[e];rfl
end
end L2
end
section
namespace PySem
open Sem (wp)
section
variable {prog:Program}{w:World}{A:Around}{E:Value->Shared->Prop}{s:Shared}
def X5 {a:Addr} {xs:Array Value} {k:Nat} {sl:Array (Option Value)} {name:Str} {Q:Option Value->Shared->Prop}
  (hx:s.heap.get? a=some {cls:=.type "list",dict:=none,data:=.seq xs k,slots:=sl}) (hmiss:typeLookup (.type "list") name=pure none) (hname:(["__module__","__name__","__qualname__","__doc__","__annotations__"]:List Str).contains name=false) (hA:A.handled=none)
  (h:∀h' tk,(∀b o,s.heap.get? b=some o->h'.get? b=some o)->Q none {s with heap:=h',toks:=tk}) (hsz:name.length+100<=sizeLine) :
  wpAny (model prog w) A (getAttr? (.ref a) name) Q E s:=by
 obtain⟨hp,g,d,tk,os⟩:=s;have hT:∀tk',(⟨hp,g,d,tk',os⟩:Shared).TypeIs (.ref a) "list":=λ_=>⟨_,hx,rfl⟩;have f1:=sub_AttributeError;have f3:=F.slot_list_getattribute.lookup;have f4:=F.slot_list_getattribute.bind (.ref a);have f5:=am_list_getattr_none;unfold getAttr? getAttrBy? getAttrBy
 repeat (any_goals (first |assumption |exact hT _ |((with_reducible show wpAny _ _ (call (Value.builtin "list.__getattribute__") _ _) _ _ _);refine call_meets F.slot_list_getattribute (hT _) am_entry_list_getattribute (F.args_list_getattribute_2 _ _) (meets_getattribute_miss_list a xs k sl name _ hmiss hname hsz) ⟨hx,hA,λh' tk' e hx'=>?_⟩) |wp_step))
 obtain⟨t',u',he⟩:=hx'.there;show wpAny _ _ (getattributeRaised _ _ _ _ _ _ _) _ _ _;unfold getattributeRaised
 repeat (any_goals (first |assumption |wp_step))
 all_goals first |exact h _ _ hx'.keeps |skip
end
end PySem
namespace L2
open PySem PySem.Spec PyProof.Rows
theorem xH:plainId "dict.update.loop"=true:=by walk_at"k"
def Jv:entryFor table "dict.update.loop"=some Builtin.«dict.update.loop»:=entryFor_of_fast (by kernel_rfl)
def Wb:typeLookup (.type "list") "keys"=pure none:=am_miss_of_fast (by kernel_rfl)
end L2
end
section
namespace L2
open PySem PySem.Spec PySem.W PyProof.Rows M
def KV.get2{κ:Type}{kvs:List (κ×V)}{vs:List (κ×Value)}(r:KV kvs vs){i:Nat}{q:κ×Value}(a:vs[i]?=some q):∃v,kvs[i]?=some (q.1,v)/\RelV v q.2:=by
 unfold KV at r
 induction r generalizing i with
 |nil=>simp at a
 | @cons p c as bs h t b=>
  cases i with
  |zero=>
   simp at a;subst a;exact⟨p.2,by simp[<- h.1],h.2⟩
  |succ i=>exact b (by simpa using a)
end L2
end
section
namespace L2
open PySem PySem.Spec PyProof.Rows M
section
variable {X:Cx}
def C8(K:Fg):R2:=λx y H Q=>∃a b xs,x=.ref a/\y=.ref b/\SqL K H a xs/\SqL K H b []/\Q (.bl xs.isEmpty) H
def Na(n:X.A.units<cLine):cS X (compareOp .Eq) (C8 X.K):=by
 intro f s σ H x y v u Q I p o h;obtain⟨a,b,xs,rfl,rfl,J,C,q⟩:=h;cases p;cases o;obtain⟨its,w,l,_⟩:=I.list J;obtain⟨m,r,g,_⟩:=I.list C;have c:=w.length;have z:=r.length
 cases xs with
 | nil=>
  refine SeqAt.eq_listAt (e:=λ_=>true) l.isList g.isList (by simp only[List.size_toArray];omega) n (λj M O=>?_) ⟨.bl _,H,I,Z,?_⟩
  ·simp only[List.size_toArray]at M
   simp at c;omega
  ·have:its=[]:=List.eq_nil_of_length_eq_zero (by simpa using c.symm)
   subst this;exact q
 |cons x xs=>
  refine PySem.EqBoolInt.of_rc (SeqAt.RcAt.lists_lengths l.isList g.isList (by simp only[List.size_toArray];simp at c z⊢;omega) n) ⟨.bl _,H,I,Z,?_⟩;simpa using q
end
end L2
end
section
namespace M
open PySem
def gJ(c:Nat):List (List Nat)->List Nat
 |[]=>[]
 |[x]=>x
 |x::y::r=>x++c::gJ c (y::r)
def Nm{s:Nat}{x y a b:List Nat}(g:s ∉x)(f:s ∉y)(h:x++s::a=y++s::b):x=y/\a=b:=by
 induction x generalizing y with
 | nil=>
  cases y with
  |nil=>simpa using h
  |cons c y=>
   simp at h;exact absurd (by rw[h.1];simp) f
 | cons c x j=>
  cases y with
  |nil=>
   simp at h;exact absurd (by rw[h.1];simp) g
  |cons d y=>
   simp at h;obtain⟨m,l⟩:=h;obtain⟨o,n⟩:=j (y:=y) (λe=>g (qG _ e)) (λe=>f (qG _ e)) (by simpa using l);exact⟨by rw[m,o],n⟩
theorem Hk(s:Nat):∀(a b:List (List Nat)),a≠[]->b≠[]->(∀x∈a,s ∉x)->(∀x∈b,s ∉x)->gJ s a=gJ s b->a=b
 |[],_,h,_,_,_,_=>absurd Z h
 |_,[],_,h,_,_,_=>absurd Z h
 |[x],[y],_,_,_,_,h=>by
  have:x=y:=h;rw[this]
 |[x],y::z::r,_,_,e,_,h=>by
  have h':x=y++s::gJ s (z::r):=h;exact absurd (by rw[h'];simp) (e x (by simp))
 |x::z::r,[y],_,_,_,c,h=>by
  have h':x++s::gJ s (z::r)=y:=h;exact absurd (by rw[<- h'];simp) (c y (by simp))
 |x::z::r,y::g::j,_,_,e,c,h=>by
  obtain⟨m,l⟩:=Nm (e x (by simp)) (c y (by simp)) h;have:=Hk s (z::r) (g::j) (by simp) (by simp) (λu f=>e u (qG _ f)) (λu f=>c u (qG _ f)) l;rw[m,this]
theorem yN(c:Nat):∀ys:List Str,L (Str.join ⟨#[c]⟩ ys)=gJ c (ys.map L)
 |[]=>Z
 |[x]=>Z
 |x::y::r=>by
  show L (x++⟨#[c]⟩++Str.join ⟨#[c]⟩ (y::r))=L x++c::gJ c ((y::r).map L);rw[gS,gS,yN c (y::r),List.append_assoc];rfl
def Do{a b:List Str}(h:a.map L=b.map L):a=b:=by
 have:=congrArg (List.map fU) h;rw[List.map_map,List.map_map]at this
 rwa[show(fU ∘ L)=id from funext pV,List.map_id,List.map_id]at this
theorem Vx(x:Str)(c:Nat):gJ c ((Txt.split x ⟨#[c]⟩).map L)=L x:=by rw[<- yN,StrLaws.join_split]
def E9{c:Nat}{x:Str}{ys:List Str}(hn:ys≠[])(f:∀z∈ys,c ∉L z)(b:gJ c (ys.map L)=L x):Txt.split x ⟨#[c]⟩=ys:=by
 refine Do (Hk c _ _ ?_ ?_ ?_ ?_ ?_)
 ·exact λe=>nI x ⟨#[c]⟩ (List.map_eq_nil_iff.mp e)
 ·exact λe=>hn (List.map_eq_nil_iff.mp e)
 ·intro z hz
  obtain⟨p,a,rfl⟩:=fX hz;exact StrLaws.split_free x c p a
 ·intro z hz
  obtain⟨p,a,rfl⟩:=fX hz;exact f p a
 ·rw[Vx,b]
theorem Ta{w:Str}(a:32 ∉L w):Txt.split w (S " ")=[w]:=by
 rw[nH];exact E9 (by simp) (λz hz=>by rw[eG hz];exact a) Z
theorem Name.no{x:Str}(h:Name x){c:Nat}(b:fP c=false):c ∉L x:=λa=>by
 have:=h.letters c a;rw[b]at this;cases this
def Hi(l:List Nat):Prop:=∀c∈l,32<=c
def gF{ts:List Tr}(h:Hi (bs ts)):Hi (Tr.l ts).cs:=by
 intro c b;have a:c∈40::((bs ts).tail++[41]):=b;rcases cE a with rfl |a
 ·decide
 ·rcases eA a with a |a
  ·exact h c (List.mem_of_mem_tail a)
  ·rw[eG a];decide
def rA:Hi (bs []):=λc a=>nomatch a
def dX{t:Tr}{ts:List Tr}(h:Hi t.cs)(h':Hi (bs ts)):Hi (bs (t::ts)):=by
 intro c b;have a:c∈32::(t.cs++bs ts):=b;rcases cE a with rfl |a
 ·decide
 ·rcases eA a with a |a
  ·exact h c a
  ·exact h' c a
def Dd{R:D->Tr->Prop}{es:List D}{ts:List Tr}(h:All2 R es ts)(g:∀d t,R d t->Hi t.cs):Hi (bs ts):=by
 induction h with
 |nil=>exact rA
 |cons h _ a=>exact dX (g _ _ h) a
def mD{x:Str}(h:Name x):Hi (tx x).cs:=λc a=>by
 have:=h.letters c a;simp[fP]at this;omega
def L9{x:Str}(h:Bx x):Hi (tx x).cs:=by
 rcases h with h |rfl
 ·exact mD h
 ·intro c a
  have e:∀c∈(tx (S "it")).cs,32<=c:=by walk_at"k"
  exact e c a
def Lw{n:Int}(h:0<=n):Hi (tx (cW n)).cs:=λc a=>by
 have:=Bh h c a;simp[gT]at this;omega
def Lx:∀s∈ops,Hi (tx s).cs:=by
 have e:∀s∈ops,(s.cps.toList.all λc=>decide (32<=c))=true:=by walk_at"k"
 intro s hs c a;have:=List.all_eq_true.mp (e s hs) c a;exact z6 this
def sO:∀s∈rS,Hi (tx s).cs:=by
 have e:∀s∈rS,(s.cps.toList.all λc=>decide (32<=c))=true:=by walk_at"k"
 intro s hs c a;have:=List.all_eq_true.mp (e s hs) c a;exact z6 this
def Et{d:D}{t:Tr}(h:dF d t):Hi t.cs:=by
 rcases h with⟨n,h0,b,_,rfl⟩ |⟨x,a,_,rfl⟩
 ·exact Lw h0
 ·exact L9 a
def Lp{R:D->Tr->Prop}(g:∀d t,R d t->Hi t.cs){d:D}{t:Tr}(h:mT R d t):Hi t.cs:=by
 obtain⟨a,x,e,j,f,b,c,_,rfl⟩:=h;exact gF (dX (mD f) (dX (mD b) (dX (g _ _ c) rA)))
theorem T2.hi:∀{n:Nat} {d:D} {t:Tr},T2 n d t->Hi t.cs
 |0,d,t,h=>Et h
 |n+1,d,t,h=>by
  have e:∀d t,T2 n d t->Hi t.cs:=λd t h=>T2.hi h;rcases h with h |⟨s,a,b,l,u,hs,j,p,_,rfl⟩ |⟨k,es,ts,m,_,o,_,rfl⟩ |⟨a,l,f,x,j,_,rfl⟩ |⟨k,g,a,l,m,w,j,_,rfl⟩ |⟨a,l,r,ts,j,C,_,hs,_,rfl⟩ |⟨a,b,c,l,u,z,j,p,y,_,rfl⟩
  ·exact Et h
  ·exact gF (dX (Lx s hs) (dX (e _ _ j) (dX (e _ _ p) rA)))
  ·exact gF (dX (sO _ (by walk_at"k")) (dX (mD m) (Dd o e)))
  ·exact gF (dX (sO _ (by walk_at"k")) (dX (e _ _ j) (dX (mD x) rA)))
  ·exact gF (dX (sO _ (by walk_at"k")) (dX (mD m) (dX (mD w) (dX (e _ _ j) rA))))
  ·exact gF (dX (sO _ (by walk_at"k")) (dX (e _ _ j) (Dd hs λd t h=>Lp e h)))
  ·exact gF (dX (sO _ (by walk_at"k")) (dX (e _ _ j) (dX (e _ _ p) (dX (e _ _ y) rA))))
theorem Hi.no{l:List Nat}(h:Hi l){c:Nat}(b:c<32):c ∉l:=λa=>absurd (h c a) (by omega)
theorem Dm:S "\n"=⟨#[10]⟩:=by walk_at"k"
theorem Ax(x:Str):Txt.join (S " ") (Txt.split x (S " "))=x:=by
 refine gI ?_;rw[rL,nH,<- qV 32 _ rfl,StrLaws.join_split]
theorem Aj:∀ws:List (List Nat),ws≠[]->(ws.map List.length).sum+ws.length=(cH ws).length+1
 |[],h=>absurd Z h
 |[x],_=>by simp[cH]
 |x::y::r,_=>by
  have a:=Aj (y::r) (by simp);show _=(x++32::cH (y::r)).length+1;rw[bK,List.length_cons];simp only[List.map_cons,List.sum_cons,List.length_cons]at a⊢;omega
def Tn(x:Str):((Txt.split x (S " ")).map (·.length)).sum+(Txt.split x (S " ")).length=x.length+1:=by
 have h:=Aj ((Txt.split x (S " ")).map L) (λe=>nI x (S " ") (List.map_eq_nil_iff.mp e));have e:cH ((Txt.split x (S " ")).map L)=L x:=by rw[nH,<- qV 32 _ Z,StrLaws.join_split]
 rw[e,dM,aR,List.map_map]at h;rw[show(λy:Str=>y.length)=(List.length ∘ L) from funext λy=>(dM y).symm];exact h
theorem Node.imp{R z:D->Tr->Prop}(f:∀d t,R d t->z d t){d:D}{t:Tr}(h:Node R d t):Node z d t:=by
 rcases h with⟨s,a,b,m,p,hs,n,y,l,j⟩ |⟨k,es,ts,r,h5,w,l,j⟩ |⟨a,m,f',U,n,l,j⟩ |⟨k,g,a,m,r,u,n,l,j⟩ |⟨a,m,o,ts,n,h1,h4,hs,l,j⟩ |⟨a,b,c,m,p,I,n,y,hc,l,j⟩
 ·exact .inl ⟨s,a,b,m,p,hs,f _ _ n,f _ _ y,l,j⟩
 ·exact .inr (.inl ⟨k,es,ts,r,h5,w.imp f,l,j⟩)
 ·exact .inr (.inr (.inl ⟨a,m,f',U,f _ _ n,l,j⟩))
 ·exact .inr (.inr (.inr (.inl ⟨k,g,a,m,r,u,f _ _ n,l,j⟩)))
 ·exact .inr (.inr (.inr (.inr (.inl ⟨a,m,o,ts,f _ _ n,h1,h4,hs.imp λd t ⟨g,x,e,C,u,O,Y,M,J⟩=>⟨g,x,e,C,u,O,f _ _ Y,M,J⟩,l,j⟩))))
 ·exact .inr (.inr (.inr (.inr (.inr ⟨a,b,c,m,p,I,f _ _ n,f _ _ y,f _ _ hc,l,j⟩))))
theorem T2.succ:∀{n:Nat} {d:D} {t:Tr},T2 n d t->T2 (n+1) d t
 |0,d,t,h=>.inl h
 |n+1,d,t,h=>by
  rcases h with h |h
  ·exact .inl h
  ·exact .inr (h.imp λd t h=>T2.succ h)
def T2.mono{n m:Nat}(h:n<=m){d:D}{t:Tr}(k:T2 n d t):T2 m d t:=by
 induction h with
 |refl=>exact k
 |step _ a=>exact a.succ
end M
end
section
namespace M
open PySem L2
def pL(x:Str):Prop:=x=S "num"\/Name x
def Cv(d:D)(t:Tr):Prop:=T2 7 d t/\t.cs.length<=3200
def gN(ws:List Str):Str:=Txt.join (S " ") ws
def nW(w:Str):Prop:=Hi (L w)/\L w≠[]/\w.length<=3200
def rK{x:Str}(h:Name x):nW x:=⟨mD h,h.pos,by have:=h.le;rw[show x.cps.toList.length=x.length by simp[Str.length]]at this;omega⟩
theorem xP:∀{n:Nat} {d:D} {t:Tr},T2 n d t->t.cs≠[]
 |0,d,t,h=>by
  rcases h with⟨n,h0,c,_,rfl⟩ |⟨x,b,_,rfl⟩
  ·exact yH h0
  ·exact b.pos
 | n+1,d,t,h=>by
  have a:∀ts:List Tr,(Tr.l ts).cs≠[]:=λts=>by
   show 40::((bs ts).tail++[41])≠[];simp
  rcases h with h |h
  ·exact xP (n:=0) h
  ·rcases h with⟨_,_,_,_,_,_,_,_,_,rfl⟩ |⟨_,_,_,_,_,_,_,rfl⟩ |⟨_,_,_,_,_,_,rfl⟩ |⟨_,_,_,_,_,_,_,_,rfl⟩ |⟨_,_,_,_,_,_,_,_,_,rfl⟩ |⟨_,_,_,_,_,_,_,_,_,_,rfl⟩ <;> exact a _
def Gk{d:D}{t:Tr}(h:Cv d t):nW (aW t):=⟨h.1.hi,xP h.1,by rw[iZ];exact h.2⟩
def P7:∀w∈[S "end",S "go",S "take",S "tell",S "if",S "set",S "send",S "channel",S "hand",S "box",S "rec",S "alt",S "num"],nW w:=by
 have e:∀w∈[S "end",S "go",S "take",S "tell",S "if",S "set",S "send",S "channel",S "hand",S "box",S "rec",S "alt",S "num"],(w.cps.toList.all (λc=>decide (32<=c)) && decide (w.cps.toList≠[]) && decide (w.length<=3200))=true:=by walk_at"k"
 intro w a;have:=e w a;simp only[Bool.and_eq_true,List.all_eq_true,decide_eq_true_eq]at this;exact⟨λc b=>this.1.1 c b,this.1.2,this.2⟩
def Oz{x:Str}(h:pL x):nW x:=by
 rcases h with rfl |h
 ·exact P7 _ (by simp)
 ·exact rK h
def yO{x:Str}(h:pL x):x.length<=6:=by
 rcases h with rfl |h
 ·decide +kernel
 ·have:=h.le;rw[show x.cps.toList.length=x.length by simp[Str.length]]at this;omega
def gR{x:Str}(h:Name x):x.length<=6:=yO (.inr h)
theorem lY(ws:List Str):L (gN ws)=cH (ws.map L):=rL ws
theorem Ik{c:Nat}:∀{ws:List (List Nat)},c∈cH ws->c=32\/∃w∈ws,c∈w
 |[],h=>nomatch h
 |[x],h=>.inr ⟨x,by simp,h⟩
 |x::y::r,h=>by
  have h':c∈x++32::cH (y::r):=h;rcases eA h' with h |h
  ·exact .inr ⟨x,by simp,h⟩
  rcases cE h with h |h
  ·exact .inl h
  rcases Ik h with h |⟨w,a,b⟩
  ·exact .inl h
  ·exact .inr ⟨w,by simp[a],b⟩
theorem Pu:∀{ws:List (List Nat)},ws≠[]->(∀w∈ws,w≠[])->cH ws≠[]
 |[],h,_=>absurd Z h
 |[x],_,h=>h x (by simp)
 |x::y::r,_,_=>by
  show x++32::cH (y::r)≠[];simp
def wK{ws:List Str}(h:ws≠[]):(gN ws).length+1=(ws.map (·.length)).sum+ws.length:=by
 have e:=Aj (ws.map L) (λz=>h (List.map_eq_nil_iff.mp z));rw[<- lY,dM,aR,List.map_map]at e;rw[show(λy:Str=>y.length)=(List.length ∘ L) from funext λy=>(dM y).symm];omega
theorem Av:∀(ws:List Str),ws≠[]->cH ((ws.flatMap λw=>Txt.split w (S " ")).map L)=cH (ws.map L)
 |[],h=>absurd rfl h
 |[x],_=>by
  rw[List.flatMap_cons,List.flatMap_nil,List.append_nil,List.map_cons,List.map_nil];show _=L x;rw[<- rL,Ax]
 | x::y::r,_=>by
  have ih:=Av (y::r) (by simp);rw[List.flatMap_cons,dG,rP _ _ (λe=>nI x (S " ") (List.map_eq_nil_iff.mp e)) (λe=>?_),ih]
  ·show _=L x++32::cH ((y::r).map L)
   rw[<- rL,Ax]
  ·rw[List.flatMap_cons,dG]at e
   exact nI y (S " ") (List.map_eq_nil_iff.mp (List.append_eq_nil_iff.mp e).1)
theorem Uu{ws:List Str}(h:ws≠[]):Txt.split (gN ws) (S " ")=ws.flatMap λw=>Txt.split w (S " "):=by
 rw[nH];refine Do (Gf ?_ (λz hz=>?_) ?_)
 ·intro e
  cases ws with
  |nil=>exact h Z
  |cons x r=>
   rw[List.flatMap_cons,dG]at e;exact nI x ⟨#[32]⟩ (List.map_eq_nil_iff.mp (List.append_eq_nil_iff.mp e).1)
 ·obtain⟨p,b,rfl⟩:=fX hz
  obtain⟨w,_,a⟩:=List.mem_flatMap.mp b;exact StrLaws.split_free w 32 p a
 ·rw[<- nH,Av ws h,lY]
theorem A4(ys:List Str):L (Txt.join (S "\n") ys)=gJ 10 (ys.map L):=by
 rw[Dm];show L (Builtin.Str.glued ⟨#[10]⟩ ys)=_;rw[StrLaws.glued_eq_join,yN 10]
theorem Hl(c:Nat):∀ws:List (List Nat),ws≠[]->(gJ c ws).length+1=(ws.map List.length).sum+ws.length
 |[],h=>absurd Z h
 |[x],_=>by simp[gJ]
 |x::y::r,_=>by
  have a:=Hl c (y::r) (by simp);show(x++c::gJ c (y::r)).length+1=_;rw[bK,List.length_cons];simp only[List.map_cons,List.sum_cons,List.length_cons]at a⊢;omega
end M
end
section
namespace M
open PySem
theorem gQ(t:Tr)(ts:List Tr):(Tr.l (t::ts)).cs.length=t.cs.length+(bs ts).length+2:=by
 rw[pB,sL,bK]
theorem cU(t:Tr)(ts:List Tr):(bs (t::ts)).length=1+t.cs.length+(bs ts).length:=by
 show(32::(t.cs++bs ts)).length=_;rw[List.length_cons,bK];omega
theorem lK:(bs []).length=0:=Z
theorem Ar{B:Nat}:∀{ts:List Tr},(∀t∈ts,t.cs.length<=B)->(bs ts).length<=ts.length*(B+1)
 |[],_=>qR _
 |t::ts,h=>by
  have b:=Ar (ts:=ts) λu a=>h u (by simp[a]);have c:=h t (by simp);rw[cU,List.length_cons,Nat.succ_mul];omega
def qT{x:Str}(h:Name x):(tx x).cs.length<=6:=h.le
def Lf{k q r:Nat}(h:k*q<=r):k*(80*q+1)<=80*r+k:=by
 rw[Nat.mul_add,Nat.mul_one,Nat.mul_left_comm];have:=Nat.mul_le_mul_left 80 h;omega
def N7{k q r:Nat}(h:k*q<=r):k*(16+80*q+1)<=80*r+17*k:=by
 rw[show 16+80*q+1=80*q+17 by omega,Nat.mul_add,Nat.mul_left_comm];have:=Nat.mul_le_mul_left 80 h;omega
end M
end
section
namespace M
open PySem L2
abbrev Tt:=D×Tr
inductive Hw where
 |one (e:Tt):Hw
 |tags (l:List (Str×Tt)):Hw
abbrev Tw:=Str×Hw
abbrev Pl:=Str×List (Str×Tt)
structure Td where
 ways:List (Str×Tw)
 places:List ((Str×Str)×Pl)
def cY(p:Str×Tt):D:=.tup [.str p.1,p.2.1]
def Hw.d:Hw->D
 |.one e=>e.1
 |.tags l=>.tup (l.map cY)
def twD(w:Tw):D:=.tup [.str w.1,w.2.d]
def oY(p:Pl):D:=.tup [.str p.1,.tup (p.2.map cY)]
def aP(p:Str×Tt):Tr:=.l [tx p.1,p.2.2]
inductive Tl where
 |way (k:Str) (w:Tw):Tl
 |place (p:Str×Str) (m:Str):Tl
 |wth (p:Str×Tt):Tl
def Hw.ws:Hw->List Str
 |.one e=>[aW e.2]
 |.tags l=>l.map λp=>aW (aP p)
def Hw.hd:Hw->Str
 |.one _=>S "way"
 |.tags _=>S "ways"
def Tl.ws:Tl->List Str
 |.way k w=>w.2.hd::k::w.1::w.2.ws
 |.place p m=>[S "place",p.1,p.2,m]
 |.wth p=>[S "with",p.1,aW p.2.2]
def TagOk(p:Str×Tt):Prop:=Name p.1/\T2 7 p.2.1 p.2.2/\p.2.2.cs.length<=880
def Hw.Ok:Hw->Prop
 |.one e=>Cv e.1 e.2
 |.tags l=>1<=l.length/\l.length<=4/\∀p∈l,TagOk p
def fG(w:Tw):Prop:=pL w.1/\w.2.Ok
def iD(p:Pl):Prop:=Name p.1/\p.2.length<=5/\∀q∈p.2,TagOk q
def Tl.Ok:Tl->Prop
 |.way k w=>Name k/\fG w
 |.place p m=>Name p.1/\Name p.2/\Name m
 |.wth p=>TagOk p
def Tl.line(l:Tl):Str:=gN l.ws
theorem sM(p:Str×Tt):(aP p).cs=40::(L p.1++32::(p.2.2.cs++[41])):=by
 show 40::((bs [tx p.1,p.2.2]).tail++[41])=_;simp[bs,iU,L]
theorem TagOk.tok{p:Str×Tt}(h:TagOk p):Cv p.2.1 p.2.2:=⟨h.2.1,zY h.2.2 (by decide)⟩
def Pk{p:Str×Tt}(h:TagOk p):nW (aW (aP p)):=by
 have b:L (aW (aP p))=(aP p).cs:=vG _;refine⟨?_,?_,?_⟩
 ·rw[b,sM]
  intro c a;simp only[List.mem_cons,List.mem_append,List.not_mem_nil,or_false]at a;rcases a with rfl |a |rfl |a |rfl
  ·decide
  ·exact mD h.1 c a
  ·decide
  ·exact h.2.1.hi c a
  ·decide
 ·rw[b,sM];simp
 ·have g:=gR h.1
  have f:=h.2.2;have e:(L p.1).length=p.1.length:=dM _;rw[iZ,sM];simp only[List.length_cons,bK,List.length_nil];omega
def A2{p:Str×Tt}(h:TagOk p):(aW (aP p)).length<=890:=by
 have c:=gR h.1;have b:=h.2.2;have a:(L p.1).length=p.1.length:=dM _;rw[iZ,sM];simp only[List.length_cons,bK,List.length_nil];omega
def wO:∀w∈[S "way",S "ways",S "place",S "with"],nW w/\w.length<=5:=by
 have e:∀w∈[S "way",S "ways",S "place",S "with"],(w.cps.toList.all (λc=>decide (32<=c)) && decide (w.cps.toList≠[]) && decide (w.length<=5))=true:=by walk_at"k"
 intro w a;have:=e w a;simp only[Bool.and_eq_true,List.all_eq_true,decide_eq_true_eq]at this;exact⟨⟨λc b=>this.1.1 c b,this.1.2,by omega⟩,this.2⟩
def Ej(h:Hw):h.hd∈[S "way",S "ways",S "place",S "with"]:=by
 cases h <;> simp[Hw.hd]
def Hw.words{h:Hw}(o:h.Ok):∀w∈h.ws,nW w:=by
 intro w a
 cases h with
 |one e=>rw[eG a];exact Gk o
 |tags l=>
  obtain⟨p,b,rfl⟩:=fX a;exact Pk (o.2.2 p b)
theorem Tl.words{l:Tl}(h:l.Ok):∀w∈l.ws,nW w:=by
 intro w a
 cases l with
 |way k t=>
  obtain⟨e,c,b⟩:=h;rcases cE a with rfl |a
  ·exact(wO _ (Ej _)).1
  rcases cE a with rfl |a
  ·exact rK e
  rcases cE a with rfl |a
  ·exact Oz c
  ·exact Hw.words b w a
 |place p m=>
  simp only[Tl.ws,List.mem_cons,List.not_mem_nil,or_false]at a;rcases a with rfl |rfl |rfl |rfl
  ·exact(wO _ (by simp)).1
  ·exact rK h.1
  ·exact rK h.2.1
  ·exact rK h.2.2
 |wth p=>
  simp only[Tl.ws,List.mem_cons,List.not_mem_nil,or_false]at a;rcases a with rfl |rfl |rfl
  ·exact(wO _ (by simp)).1
  ·exact rK h.1
  ·exact Gk h.tok
theorem Af:∀{l:List (Str×Tt)},(∀p∈l,TagOk p)->((l.map λp=>aW (aP p)).map (·.length)).sum+l.length<=891*l.length
 |[],_=>zZ _
 |p::l,h=>by
  have b:=Af (l:=l) λq a=>h q (by simp[a]);have c:=A2 (h p (by simp));simp only[List.map_cons,List.sum_cons,List.length_cons];omega
theorem Hw.sum{h:Hw}(o:h.Ok):(h.ws.map (·.length)).sum+h.ws.length<=3600:=by
 cases h with
 |one e=>
  have b:e.2.cs.length<=3200:=o.2;have a:=iZ e.2;simp only[Hw.ws,List.map_cons,List.map_nil,List.sum_cons,List.sum_nil,List.length_cons,List.length_nil];omega
 |tags l=>
  have b:=Af o.2.2;have a:=o.2.1;show((l.map λp=>aW (aP p)).map (·.length)).sum+(l.map λp=>aW (aP p)).length<=3600;rw[aR];omega
theorem Tl.sum{l:Tl}(h:l.Ok):(l.ws.map (·.length)).sum+l.ws.length<=3700:=by
 have g:(S "place").length=5:=by walk_at"k"
 have f:(S "with").length=4:=by walk_at"k"
 cases l with
 |way k t=>
  have c:=gR h.1;have b:=yO h.2.1;have a:=Hw.sum h.2.2;have e:=(wO _ (Ej t.2)).2;simp only[Tl.ws,List.map_cons,List.sum_cons,List.length_cons];omega
 |place p m=>
  have c:=gR h.1;have b:=gR h.2.1;have a:=gR h.2.2;simp only[Tl.ws,List.map_cons,List.map_nil,List.sum_cons,List.sum_nil,List.length_cons,List.length_nil];omega
 |wth p=>
  have c:=gR h.1;have b:=h.2.2;have a:=iZ p.2.2;simp only[Tl.ws,List.map_cons,List.map_nil,List.sum_cons,List.sum_nil,List.length_cons,List.length_nil];omega
theorem Tl.ne(l:Tl):l.ws≠[]:=by
 cases l <;> simp[Tl.ws]
theorem Tl.hi{l:Tl}(h:l.Ok):Hi (L l.line):=λc b=>by
 unfold Tl.line at b;rw[lY]at b;rcases Ik b with rfl |⟨w,e,a⟩
 ·decide
 ·obtain⟨v,f,rfl⟩:=fX e
  exact(Tl.words h v f).1 c a
theorem Tl.pos{l:Tl}(h:l.Ok):L l.line≠[]:=by
 unfold Tl.line;rw[lY];refine Pu (λe=>l.ne (List.map_eq_nil_iff.mp e)) λw a=>?_;obtain⟨v,b,rfl⟩:=fX a;exact(Tl.words h v b).2.1
theorem Tl.len{l:Tl}(h:l.Ok):l.line.length<=3700:=by
 have b:=wK l.ne;have a:=Tl.sum h;unfold Tl.line;omega
def gL(e:(Str×Str)×Pl):List Tl:=.place e.1 e.2.1::e.2.2.map .wth
def Td.lns(t:Td):List Tl:=t.ways.map (λe=>.way e.1 e.2)++t.places.flatMap gL
structure TdOk(t:Td):Prop where
 w6:t.ways.length<=6
 p6:t.places.length<=6
 wn:(t.ways.map (·.1)).Nodup
 pn:(t.places.map (·.1)).Nodup
 ws:∀e∈t.ways,Name e.1/\fG e.2
 ps:∀e∈t.places,Name e.1.1/\Name e.1.2/\iD e.2
def Rw{e:(Str×Str)×Pl}(h:Name e.1.1/\Name e.1.2/\iD e.2):∀l∈gL e,l.Ok:=λl a=>by
 rcases cE a with rfl |a
 ·exact⟨h.1,h.2.1,h.2.2.1⟩
 ·obtain⟨p,b,rfl⟩:=fX a
  exact h.2.2.2.2 p b
theorem TdOk.lns{t:Td}(o:TdOk t):∀l∈t.lns,l.Ok:=λl a=>by
 rcases eA a with a |a
 ·obtain⟨e,b,rfl⟩:=fX a
  exact o.ws e b
 ·obtain⟨e,b,a⟩:=List.mem_flatMap.mp a
  exact Rw (o.ps e b) l a
theorem B8:∀{ps:List ((Str×Str)×Pl)},(∀e∈ps,iD e.2)->(ps.flatMap gL).length<=6*ps.length
 |[],_=>zZ _
 |e::ps,o=>by
  have b:=B8 (ps:=ps) λg a=>o g (by simp[a]);have c:=(o e (by simp)).2.1;rw[List.flatMap_cons,bK];simp only[gL,List.length_cons,aR];omega
theorem TdOk.few{t:Td}(o:TdOk t):t.lns.length<=42:=by
 have f:=B8 λe a=>(o.ps e a).2.2;have c:=o.w6;have b:=o.p6;unfold Td.lns;rw[bK,aR];omega
def Td.text(t:Td):Str:=Txt.join (S "\n") (t.lns.map Tl.line)
theorem B5:∀{ls:List Tl},(∀l∈ls,l.Ok)->((ls.map Tl.line).map (·.length)).sum<=3700*ls.length
 |[],_=>zZ _
 |l::ls,o=>by
  have b:=B5 (ls:=ls) λg a=>o g (by simp[a]);have c:=Tl.len (o l (by simp));simp only[List.map_cons,List.sum_cons,List.length_cons];omega
def Td.text_len{t:Td}(o:TdOk t):t.text.length<=160000:=by
 by_cases h:t.lns=[]
 ·unfold Td.text
  rw[h];decide
 ·have e:=Hl 10 ((t.lns.map Tl.line).map L) (λz=>h (List.map_eq_nil_iff.mp (List.map_eq_nil_iff.mp z)))
  rw[<- A4,dM,aR,aR,List.map_map]at e;have a:=B5 o.lns;rw[show(λy:Str=>y.length)=(List.length ∘ L) from funext λy=>(dM y).symm]at a;have b:=o.few;unfold Td.text;omega
def Td.split_text{t:Td}(o:TdOk t)(h:t.lns≠[]):Txt.split t.text (S "\n")=t.lns.map Tl.line:=by
 rw[Dm];refine E9 (λe=>h (List.map_eq_nil_iff.mp e)) (λz hz=>?_) ?_
 ·obtain⟨l,a,rfl⟩:=fX hz
  exact(Tl.hi (o.lns l a)).no (by decide)
 ·rw[<- A4]
  rfl
def Td.text_ne{t:Td}(o:TdOk t)(h:t.lns≠[]):t.text≠S "":=λe=>by
 have a:L t.text=[]:=by rw[e];decide +kernel
 unfold Td.text at a;rw[A4]at a
 cases b:t.lns with
 |nil=>exact h b
 | cons l r=>
  rw[b]at a;have f:=Tl.pos (o.lns l (by rw[b];simp))
  cases r with
  |nil=>exact f a
  |cons c r=>
   have g:L l.line++10::gJ 10 ((c::r).map Tl.line |>.map L)=[]:=a;simp at g
inductive Tp:Td->Tl->Td->Prop
 |way (ws:List (Str×Tw)) (k:Str) (w:Tw):k ∉ws.map (·.1)->Tp ⟨ws,[]⟩ (.way k w) ⟨ws++[(k,w)],[]⟩
 |place (ws:List (Str×Tw)) (ps:List ((Str×Str)×Pl)) (p:Str×Str) (m:Str):p ∉ps.map (·.1)->Tp ⟨ws,ps⟩ (.place p m) ⟨ws,ps++[(p,m,[])]⟩
 |wth (ws:List (Str×Tw)) (ps:List ((Str×Str)×Pl)) (p:Str×Str) (m:Str) (es:List (Str×Tt)) (e:Str×Tt):Tp ⟨ws,ps++[(p,m,es)]⟩ (.wth e) ⟨ws,ps++[(p,m,es++[e])]⟩
inductive TRun:Td->List Tl->Td->Prop
 |nil (s:Td):TRun s [] s
 |cons {s s1 s2:Td} {l:Tl} {ls:List Tl} (h:Tp s l s1) (k:TRun s1 ls s2):TRun s (l::ls) s2
theorem TRun.append{s e c:Td}{a b:List Tl}(h:TRun s a e)(k:TRun e b c):TRun s (a++b) c:=by
 induction h with
 |nil=>exact k
 |cons h _ f=>exact .cons h (f k)
theorem Ga:∀(es ws:List (Str×Tw)),((ws++es).map (·.1)).Nodup->TRun ⟨ws,[]⟩ (es.map λe=>.way e.1 e.2) ⟨ws++es,[]⟩
 |[],ws,_=>by
  rw[List.map_nil,List.append_nil];exact .nil _
 |(k,w)::es,ws,nd=>by
  have a:=Ga es (ws++[(k,w)]) (by rw[List.append_assoc];exact nd);rw[List.append_assoc]at a;refine .cons (.way ws k w ?_) a;rw[dG,List.map_cons]at nd;exact λb=>(List.nodup_append.mp nd).2.2 k b k (by simp) Z
theorem G9(ws:List (Str×Tw))(ps:List ((Str×Str)×Pl))(p:Str×Str)(m:Str):∀(es ds:List (Str×Tt)),TRun ⟨ws,ps++[(p,m,ds)]⟩ (es.map .wth) ⟨ws,ps++[(p,m,ds++es)]⟩
 |[],ds=>by
  rw[List.map_nil,List.append_nil];exact .nil _
 |e::es,ds=>by
  have a:=G9 ws ps p m es (ds++[e]);rw[List.append_assoc]at a;exact .cons (.wth ws ps p m ds e) a
theorem Ip(ws:List (Str×Tw)):∀(es ps:List ((Str×Str)×Pl)),((ps++es).map (·.1)).Nodup->TRun ⟨ws,ps⟩ (es.flatMap gL) ⟨ws,ps++es⟩
 |[],ps,_=>by
  rw[List.flatMap_nil,List.append_nil];exact .nil _
 |(p,m,ss)::es,ps,nd=>by
  have a:=Ip ws es (ps++[(p,m,ss)]) (by rw[List.append_assoc];exact nd);rw[List.append_assoc]at a;rw[List.flatMap_cons];refine .cons (.place ws ps p m ?_) ((G9 ws ps p m ss []).append a);rw[dG,List.map_cons]at nd;exact λb=>(List.nodup_append.mp nd).2.2 p b p (by simp) Z
theorem TdOk.run{t:Td}(o:TdOk t):TRun ⟨[],[]⟩ t.lns t:=by
 have b:=Ga t.ways [] o.wn;have a:=Ip t.ways t.places [] o.pn;exact b.append a
end M
end
section
namespace L2
open PySem PySem.Spec PyProof.Rows M
section
variable {X:Cx}
def Wv{K:Fg}(h:X.K=K):CallR X (.type "tuple") (λxs H Q=>∃p ys,xs=[.ref p]/\((SqL K H p ys/\∀l,H l=none->Q (.ref l) (upd H l (.tup ys)))\/(SqT K H p ys/\Q (.ref p) H))):=by subst h;exact nP
end
end L2
end
section
namespace Ks
open PySem PySem.W PyProof.Rows
section
variable (n:Nat)(c:Nat->Nat->Bool)
def Wp{α:Type}:KasT α->(α->Prop)->Prop
 |.ret a,Q=>Q a
 |.ask i j k,Q=>i<n/\j<n/\Wp (k (c i j)) Q
variable {n}{c}
theorem Wp.bind{α β:Type}{f:α->KasT β}{Q:β->Prop}:∀(t:KasT α),Wp n c t (λa=>Wp n c (f a) Q)->Wp n c (t.bind f) Q
 |.ret _,h=>h
 |.ask i j k,h=>⟨h.1,h.2.1,Wp.bind (k (c i j)) h.2.2⟩
theorem Wp.kas{α:Type}{b:Nat->Nat->(Bool->Shared->Prop)->Shared->Prop}{G:α->Shared->Prop}{s:Shared}(e:∀i j C,i<n->j<n->C (c i j) s->b i j C s):∀(t:KasT α) {Q:α->Prop},Wp n c t Q->(∀a,Q a->G a s)->t.kasWp b G s
 |.ret a,_,h,g=>g a h
 |.ask i j k,_,h,g=>e i j _ h.1 h.2.1 (Wp.kas e (k (c i j)) h.2.2 g)
def Pm(n:Nat)(p:Array Nat):Prop:=p.toList.Perm (List.range n)
abbrev G(p:Array Nat)(i:Nat):Nat:=p.getD i 0
theorem Pm.size{p:Array Nat}(h:Pm n p):p.size=n:=by have:=h.length_eq;simpa using this
theorem Pm.lt{p:Array Nat}(h:Pm n p)(h0:0<n)(i:Nat):G p i<n:=by
 by_cases hi:i<p.size
 ·have e:G p i=p[i]:=by simp[G,Array.getD,hi]
  rw[e];exact List.mem_range.mp (h.mem_iff.mp (by simp))
 ·have e:G p i=0:=by simp[G,Array.getD,hi]
  rw[e];exact h0
theorem Pm.inj{p:Array Nat}(h:Pm n p){i j:Nat}(hi:i<n)(f:j<n)(e:G p i=G p j):i=j:=by
 have z:=h.size;have nd:p.toList.Nodup:=h.nodup_iff.mpr List.nodup_range;have a:p.toList[i]?=some (G p i):=by simp[G,Array.getD,z,hi]
 have b:p.toList[j]?=some (G p j):=by simp[G,Array.getD,z,f]
 exact(List.getElem?_inj (by simpa[z] using hi) nd).mp (a.trans (by rw[e];exact b.symm))
def Pm.of{p q:Array Nat}(h:Pm n p)(e:q.Perm p):Pm n q:=(Array.perm_iff_toList_perm.mp e).trans h
def mR{p q:Array Nat}{i j:Nat}(h:q[i]?=p[j]?):G q i=G p j:=by
 unfold G;rw[Array.getD_eq_getD_getElem?,Array.getD_eq_getD_getElem?,h]
structure Ord(n:Nat)(c:Nat->Nat->Bool):Prop where
 tr:∀i j k,c j i=false->c k j=false->c k i=false
 as:∀i j,c i j=true->c j i=false
 an:∀i j,i<n->j<n->c i j=false->c j i=false->i=j
def Ord.rf(o:Ord n c)(i:Nat):c i i=false:=by
 cases h:c i i with
 |false=>rfl
 |true=>rw[o.as i i h]at h;cases h
def S(c:Nat->Nat->Bool)(p:Array Nat)(m:Nat):Prop:=∀i j,i<=j->j<m->c (G p j) (G p i)=false
def D(c:Nat->Nat->Bool)(p:Array Nat)(m:Nat):Prop:=∀i j,i<=j->j<m->c (G p i) (G p j)=false
theorem S.one(o:Ord n c)(p:Array Nat):S c p 1:=λi j b a=>by
 have:i=j:=by omega
 subst this;exact o.rf _
theorem D.one(o:Ord n c)(p:Array Nat):D c p 1:=λi j b a=>by
 have:i=j:=by omega
 subst this;exact o.rf _
theorem S.succ(o:Ord n c){p:Array Nat}{m:Nat}(h:S c p m)(g:1<=m)(e:c (G p m) (G p (m-1))=false):S c p (m+1):=λi j hi f=>by
 by_cases a:j<m
 ·exact h i j hi a
 ·have:j=m:=by omega
  subst this;by_cases b:i=j
  ·subst b
   exact o.rf _
  ·exact o.tr _ _ _ (h i (j-1) (by omega) (by omega)) e
theorem D.succ(o:Ord n c){p:Array Nat}{m:Nat}(h:D c p m)(g:1<=m)(e:c (G p (m-1)) (G p m)=false):D c p (m+1):=λi j hi f=>by
 by_cases a:j<m
 ·exact h i j hi a
 ·have:j=m:=by omega
  subst this;by_cases b:i=j
  ·subst b
   exact o.rf _
  ·exact o.tr _ _ _ e (h i (j-1) (by omega) (by omega))
variable {p:Array Nat}
theorem Cr(o:Ord n c)(h0:0<n)(P:Pm n p){Q:Nat->Prop}:∀(f m:Nat),1<=m->m+f<=n->S c p m->(∀g,m<=g->g<=n->S c p g->Q g)->Wp n c (kas_asc p f m) Q
 |0,m,_,h,s,q=>q m (zZ _) (by omega) s
 |f+1,m,l,h,s,q=>by
  refine⟨P.lt h0 _,P.lt h0 _,?_⟩
  cases e:c (p.getD m 0) (p.getD (m-1) 0) with
  |true=>exact q m (zZ _) (by omega) s
  |false=>exact Cr o h0 P f (m+1) (by omega) (by omega) (s.succ o l e) λg a b j=>q g (by omega) b j
theorem tO(o:Ord n c)(h0:0<n)(P:Pm n p){Q:Array Nat×Nat×Nat->Prop}:∀(f m:Nat),1<=m->m+f<=n->D c p m->(∀g,m<=g->g<=n->D c p g->Q (p,g,0))->Wp n c (kas_desc f p m 0) Q
 |0,m,_,h,s,q=>q m (zZ _) (by omega) s
 | f+1,m,r,h,s,q=>by
  refine⟨P.lt h0 _,P.lt h0 _,?_⟩
  cases e:c (p.getD m 0) (p.getD (m-1) 0) with
  |true=>exact tO o h0 P f (m+1) (by omega) (by omega) (s.succ o r (o.as _ _ e)) λg a b l=>q g (by omega) b l
  | false=>
   refine⟨P.lt h0 _,P.lt h0 _,?_⟩
   cases u:c (p.getD (m-1) 0) (p.getD m 0) with
   |true=>exact q m (zZ _) (by omega) s
   |false=>
    have:=P.inj (i:=m) (j:=m-1) (by omega) (by omega) (o.an _ _ (P.lt h0 _) (P.lt h0 _) e u);omega
def M9{m:Nat}(b:m<=p.size)(d:D c p m):S c (kas_rev p 0 m) m:=λi j hi f=>by
 have a:∀k,k<m->G (kas_rev p 0 m) k=G p (m-1-k):=λk e=>mR (by
  show(mirror p 0 m ((m-0) / 2))[k]?=_;rw[getElem?_mirror_all b k,if_pos ⟨Nat.zero_le _,e⟩,Nat.zero_add])
 rw[a i (by omega),a j f];exact d _ _ (by omega) (by omega)
def Cb(o:Ord n c)(h0:0<n)(P:Pm n p){Q:Nat×Array Nat->Prop}(r:2<=n)(e:c (G p 1) (G p 0)=true)(q:∀m f,1<=m->m<=n->Pm n f->S c f m->Q (m,f)):Wp n c (kas_descPart 1 n p) Q:=by
 unfold kas_descPart;refine Wp.bind _ (tO o h0 P (n-(1+1)) (1+1) (by omega) (by omega) ((D.one o p).succ o (zZ _) (o.as _ _ e)) λm a b d=>?_);rw[if_neg (by simp)];unfold kas_tail3;have g:Pm n (kas_rev p 0 m):=P.of (mirror_perm _ _ _ _);exact Wp.bind _ (Cr o h0 g (n-m) m (by omega) (by omega) (M9 (by rw[P.size];exact b) d) λj u l h=>q j _ (by omega) l g h)
def count(o:Ord n c)(h:2<=n)(P:Pm n p){Q:Nat×Array Nat->Prop}(q:∀m g,1<=m->m<=n->Pm n g->S c g m->Q (m,g)):Wp n c (kas_count n p) Q:=by
 have h0:0<n:=by omega
 unfold kas_count;obtain⟨f,l⟩:∃f,n-1=f+1:=⟨n-2,by omega⟩;rw[l];refine Wp.bind _ ⟨P.lt h0 _,P.lt h0 _,?_⟩
 cases e:c (p.getD 1 0) (p.getD (1-1) 0) with
 |true=>
  show Wp n c (if (1 == n)=true then _ else _) Q;rw[if_neg (by simp;omega),if_neg (by omega)];exact Cb o h0 P h e q
 | false=>
  refine Cr o h0 P f (1+1) (by omega) (by omega) ((S.one o p).succ o (zZ _) e) λm a b s=>?_;by_cases z:(m == n)=true
  ·rw[if_pos z]
   exact q m p (by omega) b P s
  ·rw[if_neg z,if_pos (by omega)]
   refine⟨P.lt h0 _,P.lt h0 _,?_⟩
   cases r:c (p.getD 0 0) (p.getD (m-1) 0) with
   |true=>exact q m p (by omega) b P s
   |false=>
    have:=P.inj (i:=0) (j:=m-1) (by omega) (by omega) (o.an _ _ (P.lt h0 _) (P.lt h0 _) r (s 0 (m-1) (by omega) (by omega)));omega
theorem place (o:Ord n c) (h0:0<n) (P:Pm n p) {k:Nat} (s:S c p k) {Q:Nat->Prop} (q:∀l,l<=k->(∀i,i<l->c (G p k) (G p i)=false)->(∀i,l<=i->i<k->c (G p i) (G p k)=false)->Q l) :
  ∀(f l r:Nat),l<=r->r<=k->r-l<=f->(∀i,i<l->c (G p k) (G p i)=false)->(∀i,r<=i->i<k->c (G p i) (G p k)=false)->Wp n c (kas_place p k f l r) Q
 |0,l,r,m,h,j,g,hi=>by
  have:l=r:=by omega
  subst this;exact q l h g hi
 | f+1,l,r,m,h,j,g,hi=>by
  unfold kas_place;by_cases z:l ≥ r
  ·rw[if_pos z]
   have:l=r:=by omega
   subst this;exact q l h g hi
  ·rw[if_neg z]
   refine⟨P.lt h0 _,P.lt h0 _,?_⟩
   cases e:c (p.getD k 0) (p.getD ((l+r) / 2) 0) with
   |true=>exact place o h0 P s q f l _ (by omega) (by omega) (by omega) g λi a b=>o.tr _ _ _ (o.as _ _ e) (s _ _ a b)
   |false=>exact place o h0 P s q f _ r (by omega) h (by omega) (λi a=>o.tr _ _ _ (s i ((l+r) / 2) (by omega) (by omega)) e) hi
theorem L3(o:Ord n c)(h0:0<n){Q:Array Nat->Prop}(q:∀p,Pm n p->S c p n->Q p):∀(f:Nat) (p:Array Nat) (k:Nat),k+f=n->1<=k->Pm n p->S c p k->Wp n c (kas_bin f p k) Q
 |0,p,k,h,_,P,s=>q p P (by rw[<- h];exact s)
 | f + 1,p,k,h,O,P,s=>by
  unfold kas_bin;refine Wp.bind _ (place o h0 P s (λl M y hi=>?_) k 0 k (qR _) (zZ _) (by omega) (λi hi=>by omega) λi a b=>by omega);have I:Pm n (bubble p k (k-l)):=P.of (bubble_perm _ _ _);refine L3 o h0 q f _ (k+1) (by omega) (by omega) I λi j m C=>?_;have z:k<p.size:=by rw[P.size];omega
  have g:∀x,x<k+1->G (bubble p k (k-l)) x=if x=l then G p k else if l<x then G p (x-1) else G p x:=λx J=>by
   have:=getElem?_bubble z (k-l) (by omega) x;rw[show k-(k-l)=l by omega]at this;by_cases a:x=l
   ·rw[if_pos a]at this⊢
    exact mR this
   ·rw[if_neg a]at this⊢
    by_cases b:l<x
    ·rw[if_pos ⟨b,by omega⟩]at this
     rw[if_pos b];exact mR this
    ·rw[if_neg (by omega)]at this
     rw[if_neg b];exact mR this
  rw[g i (by omega),g j C];by_cases w:j=l
  ·rw[if_pos w]
   by_cases e:i=l
   ·rw[if_pos e]
    exact o.rf _
   ·rw[if_neg e,if_neg (by omega)]
    exact y i (by omega)
  ·rw [if_neg w]
   by_cases u:l<j
   ·rw[if_pos u]
    by_cases e:i=l
    ·rw[if_pos e]
     exact hi (j-1) (by omega) (by omega)
    ·rw[if_neg e]
     by_cases r:l<i
     ·rw[if_pos r]
      exact s _ _ (by omega) (by omega)
     ·rw[if_neg r]
      exact s _ _ (by omega) (by omega)
   ·rw[if_neg u,if_neg (by omega),if_neg (by omega)]
    exact s _ _ m (by omega)
def sort(o:Ord n c)(h2:2<=n){Q:Array Nat->Prop}(q:∀p,Pm n p->S c p n->Q p):Wp n c (kas_sort n) Q:=by
 unfold kas_sort;have P0:Pm n (List.toArray (List.range n)):=by show(List.toArray (List.range n)).toList.Perm _;exact .refl _
 refine Wp.bind _ (count o h2 P0 λm p' h1 h3 P s=>?_);by_cases z:m<n
 ·rw[if_pos z]
  rw[show max (m,p').1 1=m from Nat.max_eq_left h1];exact L3 o (by omega) q (n-m) p' m (by omega) h1 P s
 ·rw[if_neg z]
  have:m=n:=by omega
  subst this;exact q p' P s
end
end Ks
end
section
namespace L2
open PySem PySem.Spec PyProof.Rows
theorem Ij:∀{us:List Value} {a:List Str},StrsAre us a->Vals (a.map V.str) us
 |_,_,.nil=>.nil
 |_,_,.cons x t r=>.cons ⟨t,Z⟩ (Ij r)
end L2
end
section
namespace St
open PySem PySem.Spec PyProof.Rows
section
variable {prog:Program}{w:World}{A:Around}{E:Value->Shared->Prop}{s:Shared}{T:String}{r d:Addr}{n:Nat}{P:Nat->Value->Prop}{OK:Heap->Prop}
def collectK {R:List Value->Shared->Prop} (K:PySem.W.KdlSrc prog w T r d n P U) (J:A.handled=none) (j:U s.heap) (hn:n<=sizeLine)
  (h:∀h' tk acc,ItemsOf P acc n->s.heap.objs.size<h'.objs.size->(∀b o,s.heap.get? b=some o->h'.get? b=some o)->R acc.toList {s with heap:=h',toks:=tk}):wpAny (model prog w) A (collect (.ref r)) R E s:=by
 obtain⟨C,z⟩:=K.there _ j;unfold collect;refine zX (wpAny_runValue (codeAny_builtin entry_proto_collect' ?_));rw[Around.under_plainId PySem.F.plain_proto_collect _];show wpAny _ A.in1 (newList [] >>= λl=>again (.builtin "list.__iadd__" ⟨[l,.ref r],[]⟩)) _ _ s;refine zX (wpAny_newObj_type ?_);refine z7 ⟨plainId_quiet PySem.F.plain_list_iadd _,codeAny_builtin entry_list_iadd' ?_⟩;rw[Around.under_plainId PySem.F.plain_list_iadd _];have M:(s.heap.push {cls:=.type "list",data:=.seq ([]:List Value).toArray}).get? s.heap.objs.size=some {cls:=.type "list",data:=.seq #[]}:=z9 _ Z;show wpAny _ A.in1 (Builtin.List.listExtendWith (.ref s.heap.objs.size) (.ref r) (.ref s.heap.objs.size)) _ _ _
 have u:=PySem.W.kdl_extend (prog:=prog) (A:=A) (s:={s with heap:=s.heap.push {cls:=.type "list",data:=.seq ([]:List Value).toArray}})
  (R:=λ(q:Result) (p:Shared)=>∃(h':Heap) (tk:Nat) (acc:Array Value) (c:Nat),q=.ok (.ret (.ref s.heap.objs.size))/\p={s with heap:=h',toks:=tk}/\ItemsOf P acc n ∧
   (∀b o,s.heap.get? b=some o->h'.get? b=some o)/\h'.get? s.heap.objs.size=some {cls:=.type "list",dict:=none,data:=.seq acc c,slots:=#[]})
  K J (K.keep _ _ j λb _ o e=>aT _ e) s.heap.objs.size (Nat.ne_of_gt C) (Nat.ne_of_gt z) (.ref s.heap.objs.size) 0 M
  (λh' tk acc c m a hi=>⟨h',tk,acc,c,Z,Z,hi,λb o I=>m b o (qE (z8 I)) (aT _ I),a⟩) hn
 refine wpAny_mono u (λfin p x=>?_) λe p x=>?_
 ·cases fin with
  |done f=>
   obtain⟨h',tk,acc,c,e,rfl,g,m,a⟩:=x;cases e;show wpAny _ A (load s.heap.objs.size >>= _) _ _ _;refine zX (wpAny_load a ?_);exact z7 (h h' tk acc g (z8 a) m)
  |again c₁=>
   refine⟨x.1,codeAny_mono x.2 λq Y y=>?_⟩;obtain⟨h',tk,acc,c,rfl,rfl,g,m,a⟩:=y;show wpAny _ A (load s.heap.objs.size >>= _) _ _ _;refine zX (wpAny_load a ?_);exact z7 (h h' tk acc g (z8 a) m)
 ·obtain⟨_,_,_,_,O,_⟩:=x
  cases O
def sortedK {Q:Value->Shared->Prop} {ns:List Str} (K:PySem.W.KdlSrc prog w T r d n P OK) (hh:A.handled=none) (hok:OK s.heap) (h64:n<64) (hst:∀acc,ItemsOf P acc n->StrsAre acc.toList ns)
    (h:∀(h':Heap) (tk:Nat) (D:Addr) (c:Nat) (out:Array Value) (ms:List Str),(∀b o,s.heap.get? b=some o->h'.get? b=some o)->r<D->s.heap.objs.size<=D->h'.get? D=some (seqObj "list" out c)->StrsAre out.toList ms->ms.Perm ns->sortedS ms=true->Q (.ref D) {s with heap:=h',toks:=tk}) :
    wpAny (model prog w) A (call (.builtin "sorted") [.ref r]) Q E s:=by
  refine Calls.call_function_entry kind_sorted plain_sorted entry_sorted (args_sorted1 _) ?_;unfold Builtin.«sorted»;refine zX (m:=checkCount "sorted" 1 1 _) (z7 ?_);refine zX (collectK (A:=A.in1) K hh hok (zY (Nat.le_of_lt h64) (by decide)) λh' tk acc hpo hz hk=>?_);have hns:=hst acc hpo;have hsz:r<h'.objs.size:=(K.there _ (K.keep _ _ hok λb _ o e=>hk b o e)).1;have hlen:acc.toList.length<64:=by rw[Array.length_toList,hpo.1];exact h64
  refine wpAny_bind (wpAny_newList ?_ (by have:(64:Nat) <= sizeLine := by decide
                                          omega))
  have hoL:(h'.push (seqObj "list" acc.toList.toArray 0)).get? h'.objs.size=some (seqObj "list" acc.toList.toArray 0):=z9 _ rfl;refine zX (qO (wpAny_call_entry slot_list_sort ⟨_,hoL,rfl⟩ entry_list_sort (list_sort_treeK strKind_oneLt hoL hns.keysOf (λv₁ v₂ rest e=>keyKind_strs (ss:=ns) (by rw[<- e];exact hns)) hlen λst' a1 a2=>⟨_,rfl,?_⟩) (args_list_sort _)));obtain⟨ms,m1,m2,m3⟩:=sorted_out_str hns a1 a2;obtain⟨e,he⟩:=sortedHeap_at (out:=(arrOf st').map (·.2)) hoL;refine z7 ⟨_,rfl,h _ tk h'.objs.size e _ ms (λb o eb=>?_) hsz (Nat.le_of_lt hz) he m1 ?_ m3⟩
  · have hb:=hk b o eb
    have hlt:=z8 hb;rw[sortedHeap_old (qE hlt) (by rw[Heap.size_push];exact Nat.lt_succ_of_lt hlt)];exact aT _ hb
  · exact m2
end
end St
end
section
namespace L2
open PySem PySem.Spec PyProof.Rows
section
variable {X:Cx}
def Inv.reH {pins:List (Addr×Obj)} {σ:St} {H:Hp} {s:Shared} {a:Addr} {o u:HO} (I:Inv X pins σ H s) (ha:H a=some o) (n1:∀xs,o≠.tup xs) (n2:∀ps,o≠.tbl ps) (n3:∀x,o≠.own x) (nz:∀ob v,X.H₀ a≠some (.frz ob v))
  (new:ObjOk X.prog X.w (upd H a u) s.heap a u):Inv X pins σ (upd H a u) s:=by
 have hn:∀{b:Addr},H b=none->upd H a u b=none:=λ{b} e=>by
  rw[aG λz=>by rw[z,ha]at e;cases e];exact e
 have hs:∀{b:Addr} {v:HO},H b=some v->v≠o->upd H a u b=some v:=λ{b v} e ne=>by
  rw[aG λz=>by rw[z,ha]at e;exact ne (qB e).symm];exact e
 refine⟨I.ok,I.os,I.bare,⟨I.base.keep,I.base.slot,λb ob e n hx=>hn (I.base.free b ob e n hx),I.base.there,λb xs e=>hs (I.base.tups b xs e) λz=>n1 xs z.symm,λb ob v e=>?_,λb ps e=>?_⟩,I.loc,I.cell,hn I.free,λx c e=>hn (I.freeC x c e),λp hp=>?_,λb v e=>?_,I.len⟩
 ·rw[aG λz=>by subst z;exact nz ob v e]
  exact I.base.frzs b ob v e
 ·obtain⟨more,e'⟩:=I.base.tbls b ps e
  exact⟨more,hs e' λz=>n2 _ z.symm⟩
 ·obtain⟨q1,q2,q3⟩:=I.pin p hp
  exact⟨q1,hn q2,q3⟩
 ·by_cases hb:b=a
  ·subst hb
   rw[aC]at e;cases e;exact new
  ·rw[aG hb]at e
   exact(I.hok b v e).stay (λ_ _ _ q=>q) (λc q=>hs q λz=>n3 _ z.symm) λc xs q=>hs q λz=>n1 _ z.symm
def dU(H0:Hp)(a:Addr):Prop:=∀ob u,H0 a≠some (.frz ob u)
def Inv.noFz{b:List (Addr×Obj)}{σ:St}{H:Hp}{s:Shared}{a:Addr}{kvs:List (aK×V)}(I:Inv X b σ H s)(c:H a=some (.dK kvs)):dU X.H₀ a:=λob u e=>by
 have:=I.base.frzs a ob u e;rw[c]at this;cases this
def Inv.freeze{pins:List (Addr×Obj)}{σ:St}{H:Hp}{s:Shared}{a:Addr}{ob:Obj}{kvs:List (aK×V)}(I:Inv X pins σ H s)(ha:H a=some (.dK kvs))(e:s.heap.get? a=some ob):Inv X pins σ (upd H a (.frz ob (.dK kvs))) s:=by
 refine I.reH ha (λ_ z=>by cases z) (λ_ z=>by cases z) (λ_ z=>by cases z) (I.noFz ha) ⟨e,?_⟩;obtain⟨z,y,r⟩:=(show ObjOk X.prog X.w H s.heap a (.dK kvs) from I.hok a _ ha);exact⟨z,y,r⟩
def Inv.thaw{b:List (Addr×Obj)}{σ:St}{H:Hp}{s:Shared}{a:Addr}{ob:Obj}{kvs:List (aK×V)}(I:Inv X b σ H s)(c:H a=some (.frz ob (.dK kvs)))(e:dU X.H₀ a):Inv X b σ (upd H a (.dK kvs)) s:=by
 obtain⟨_,z,y,r⟩:=(show ObjOk X.prog X.w H s.heap a (.frz ob (.dK kvs)) from I.hok a _ c);exact I.reH c (λ_ z=>by cases z) (λ_ z=>by cases z) (λ_ z=>by cases z) e ⟨z,y,r⟩
def tZ(a:Addr)(o:Obj)(kvs:List (aK×V)):It:=
 ⟨λi H=>H a=some (.frz o (.dK kvs))/\i<kvs.length,λi H x H'=>H'=H/\∃kv,kvs[i]?=some kv/\x=kV kv.1,λi H=>H a=some (.frz o (.dK kvs))/\kvs.length<=i⟩
def vM{P:Program}{w:World}{H:Hp}{h:Heap}{a:Addr}{o:Obj}{kvs:List (aK×V)}{es:Array DictEntry}{ep:Nat}(ok:HOk P w H h)(e:H a=some (.frz o (.dK kvs)))(hd:o.data=.dict es ep):∃vs,KV kvs vs/\h.DictAt (eX P w) a vs ep:=by
 obtain⟨f,_,_,vs,r,ob,es',g,b,c,d,q⟩:=(show ObjOk P w H h a (.frz o (.dK kvs)) from ok a _ e);rw[f]at b;cases b;rw[hd]at d;cases d;exact⟨vs,r,o,es,f,c,hd,q⟩
def Uh{P:Program}{w:World}{K:Fg}{tg:Expr}{a it:Addr}{o:Obj}{kvs:List (aK×V)}{es:Array DictEntry}{ep:Nat}(a0:a≠it)(hd:o.data=.dict es ep):Turn P w K tg (tZ a o kvs) [it] it (λi h=>h.IsKeyIter it a i kvs.length ep) where
 mem:=by simp
 obj:=λi h st b j=>by
  have e:b=it:=by simpa using j
  subst e;obtain⟨o,e,c,d⟩:=st;exact⟨o,e,λv z=>by rw[d]at z;cases z⟩
 keep:=λi h h' st k=>st.at λo e=>k it (by simp) o e
 item:=by
  intro X C u J hc i g s σ H E I p st x;subst C u J;obtain⟨y,hi⟩:=x;obtain⟨vs,f,dat⟩:=vM I.hok y hd;have n:=f.length;obtain⟨f0,Y,f2,U,O,M⟩:=p it (by simp);have m:i<vs.length:=by omega
  refine wpAny_pyNext_dict_item (kvs:=vs) (k:=vs[i].1) (v:=vs[i].2) (by rw[<- n];exact st) dat (by rw[bV m]) λr h' l st' sb=>?_;have I1:Inv X g σ H {s with heap:=h'}:=I.turned (t':=s.toks) (λb o j e=>(sb.2 b j).trans e) f0 Y U O M;rw[<- n]at st';obtain⟨o',e,c,d⟩:=id st';have ek:=KV.get f (bV hi) (bV m);exact⟨r,Z,rR (s:={s with heap:=h'}) e c d (by decide) ⟨kV kvs[i].1,H,I1,by rw[ek];exact xQ l,⟨Z,_,bV hi,Z⟩,st',λb j=>(p b j).1⟩⟩
 done:=by
  intro X C u J hc i g s σ H E I p st x;subst C u J;obtain⟨y,hi⟩:=x;obtain⟨vs,f,dat⟩:=vM I.hok y hd;have n:=f.length;obtain⟨f0,Y,f2,U,O,M⟩:=p it (by simp);exact wpAny_pyNext_dict_end (I.ok.hd hc) (kvs:=vs) (by rw[<- n];exact st) dat (List.getElem?_eq_none (by omega)) λh' eb=>⟨Z,I.turned (t':=s.toks) (λb o j e=>eb b o j e) f0 Y U O M⟩
 self:=λ_ _ _ _ _ st h=>wpAny_pyIter_keyiter st h
def La(H0:Hp)(td:TE):TI:=λσ H R=>td σ H λx H1=>∃a,∃kvs:List (aK×V),x=.ref a/\H1 a=some (.dK kvs)/\∀o,dU H0 a->R (tZ a o kvs) (upd H1 a (.frz o (.dK kvs)))
def Pf{tg l:Expr}{tl:TE}(hl:PE X l tl):PI X tg l (La X.H₀ tl):=by
 intro pins s σ H R I h;refine aN (hl pins s σ H _ I h) λv s1 ⟨x,H1,I1,r1,q1⟩=>?_;obtain⟨a,kvs,e,ha,q⟩:=q1;subst e;cases r1;obtain⟨hz,hsys,vs,rel,dd⟩:=rT I1.hok ha;obtain⟨ep,dat⟩:=dd.dictAt;obtain⟨o,es,ho,hx,hdat,_⟩:=id dat;have hlen:=rel.length;refine wpAny_pyIter_dict hsys dat ?_;have I2:=I1.freeze ha ho;have hn:upd H1 a (.frz o (.dK kvs)) s1.heap.objs.size=none:=I2.hok.fresh (zZ _);refine⟨s1.heap.objs.size,[s1.heap.objs.size],_,_,_,rfl,I2.kept (t':=s1.toks) λb o e=>aT _ e,Uh (λz=>?_) hdat,⟨_,z9 _ rfl,rfl,by rw[hlen];rfl⟩,λb hb=>?_,q o (I1.noFz ha)⟩
 ·rw[<- z,aC]at hn
  cases hn
 ·have e:b=s1.heap.objs.size:=by simpa using hb
  subst e;exact I2.fpOk (zZ _) hn
def Lm(H0:Hp)(N:St->Hp->Prop):St->Hp->Prop:=λσ H=>∃a o,∃kvs:List (aK×V),H a=some (.frz o (.dK kvs))/\dU H0 a/\N σ (upd H a (.dK kvs))
def F8{st:Stmt}{t:TS}(h:PS X st t):PS X st (λD σ H=>t {D with nx:=Lm X.H₀ D.nx} σ H):=by
 intro b s σ H D I l;refine aN (h b s σ H _ I l) λf n q=>?_
 cases f with
 |next=>
  obtain⟨c,p,m,a,o,kvs,e,j,g⟩:=q;exact⟨c,_,m.thaw e j,g⟩
 |cont=>exact q
 |brk=>exact q
 |ret v=>exact q
def Pp {a:Addr} {o:Obj} {kvs:List (aK×V)} {g:TG} {r:TS} {D:Ends} {σ:St} {H:Hp} (b:Nat->St->Hp->Prop) (h0:b 0 σ H) (z:∀i σ H,i<=kvs.length->b i σ H->H a=some (.frz o (.dK kvs)))
  (hs:∀i h σ H,kvs[i]?=some h->b i σ H->g (kV h.1) σ H λj n=>r {D with nx:=b (i+1),ct:=b (i+1),bk:=D.nx} j n) (hd:∀σ H,b kvs.length σ H->D.nx σ H) :
  ∃W:Nat->Nat->St->Hp->Prop,(∃m,W 0 m σ H)/\∀i m σ H,W i m σ H->
   ((tZ a o kvs).stop i H/\D.nx σ H)\/((tZ a o kvs).go i H/\∃N:St->Hp->Prop,(∀l c,N l c->∃u,u<m/\W (i+1) u l c)/\∀x c,(tZ a o kvs).yld i H x c->g x σ c λj n=>r {D with nx:=N,ct:=N,bk:=D.nx} j n):=by
 refine⟨λi m σ H=>m=kvs.length-i/\i<=kvs.length/\b i σ H,⟨kvs.length,by simp,qR _,h0⟩,?_⟩;rintro i m σ H ⟨rfl,hi,p⟩;have q:=z i σ H hi p;by_cases f:i<kvs.length
 ·refine .inr ⟨⟨q,f⟩,b (i+1),λl c w=>⟨kvs.length-(i+1),by omega,Z,f,w⟩,λx c y=>?_⟩
  obtain⟨e,h,C,I⟩:=y;subst e I;exact hs i h σ _ C p
 ·have e:i=kvs.length:=by omega
  subst e;exact .inl ⟨⟨q,zZ _⟩,hd σ H p⟩
end
section
variable {X:Cx}
def D4(a:Addr)(o:Obj)(kvs:List (aK×V)):It:=
 ⟨λi H=>H a=some (.frz o (.dK kvs))/\i<kvs.length,λi H x H'=>∃p kv,x=.ref p/\H p=none/\kvs[i]?=some kv/\H'=upd H p (.tup [kV kv.1,kv.2]),λi H=>H a=some (.frz o (.dK kvs))/\kvs.length<=i⟩
def Ux{P:Program}{w:World}{K:Fg}{elts:List Expr}{x1}{pos:Pos}{a it:Addr}{o:Obj}{kvs:List (aK×V)}{es:Array DictEntry}{ep:Nat}(a0:a≠it)(hd:o.data=.dict es ep):Turn P w K (.Tuple elts x1 pos) (D4 a o kvs) [it] it (λi h=>∃ok m,IsItemIter h it a i kvs.length ep ok m) where
 mem:=by simp
 obj:=λi h st b j=>by
  have e:b=it:=by simpa using j
  subst e;obtain⟨_,_,e⟩:=st;exact⟨_,e,λv z=>by cases z⟩
 keep:=λi h h' st k=>by
  obtain⟨ok,m,e⟩:=st;exact⟨ok,m,k it (by simp) _ e⟩
 item:=by
  intro X O y U hc i c s σ H E I u st J;subst O y U;obtain⟨M,hi⟩:=J;obtain⟨vs,f,dat⟩:=vM I.hok M hd;have r:=f.length;have l:i<vs.length:=by omega
  obtain⟨ok,m,st⟩:=st;rw[r]at st;refine wpAny_pyNext_items_item (kvs:=vs) (k:=vs[i].1) (v:=vs[i].2) st dat (by rw[bV l]) λg h1 n a1 a3 a4 a5=>⟨_,Z,?_⟩;refine wpAny_letOwnedTupleGo_items a1 λh2 b1 b2=>?_;have ek:=KV.get f (bV hi) (bV l);obtain⟨v,hv,rv⟩:=KV.get2 f (bV l);have C:H s.heap.objs.size=none:=I.hok.fresh (zZ _);have x:it<s.heap.objs.size:=z8 st;have g1:(s.heap.push {cls:=.type "tuple",data:=.seq #[g,vs[i].2]}).get? s.heap.objs.size=some {cls:=.type "tuple",data:=.seq #[g,vs[i].2]}:=z9 _ Z
  have I1:Inv X c σ (upd H s.heap.objs.size (.tup [kV vs[i].1,v])) {s with heap:=s.heap.push {cls:=.type "tuple",data:=.seq #[g,vs[i].2]}}:=
   I.laid (t':=s.toks) (λb o q=>aT _ q) (zZ _) ⟨by show 2<=sizeLine;decide,[g,vs[i].2],.cons (xQ n) (.cons rv .nil),⟨_,g1,Z,_,Z,Z⟩⟩
  have p:∀b∈[it],FpOk X c (upd H s.heap.objs.size (.tup [kV vs[i].1,v])) b:=λb j=>by
   refine⟨?_,(u b j).2⟩;have e:b=it:=by simpa using j
   subst e;rw[aG (qE x)];exact(u b j).1
  have I2:Inv X c σ (upd H s.heap.objs.size (.tup [kV vs[i].1,v])) {s with heap:=h2}:=
   I1.turnedL (t':=s.toks) (λb o j q=>by
    have nb:b≠it:=by simpa using j
    have q1:h1.get? b=some o:=by
     by_cases z:b=s.heap.objs.size
     ·subst z
      have Y:(s.heap.push {cls:=.type "tuple",data:=.seq #[g,vs[i].2]}).get? s.heap.objs.size=some o:=q;rw[g1]at Y;cases Y;exact a3
     ·exact a5 b o nb (xF q z)
    exact(b2.2 b nb).trans q1) p
  rw[<- r]at b1;exact⟨.ref s.heap.objs.size,_,I2,Z,⟨_,_,Z,C,hv,Z⟩,⟨_,_,b1⟩,λb j=>(p b j).1⟩
 done:=by
  intro X O y U hc i c s σ H E I u st J;subst O y U;obtain⟨M,hi⟩:=J;obtain⟨vs,f,dat⟩:=vM I.hok M hd;have r:=f.length;obtain⟨ok,m,st⟩:=st;rw[r]at st;obtain⟨f0,f1,f2,f3,f4,f5⟩:=u it (by simp);exact wpAny_pyNext_items_end (I.ok.hd hc) (kvs:=vs) st dat (List.getElem?_eq_none (by omega)) λh' eb=>⟨Z,I.turned (t':=s.toks) (λb o j e=>eb b o j e) f0 f1 f3 f4 f5⟩
 self:=λ_ _ _ _ _ st h=>by
  obtain⟨ok,m,st⟩:=st;exact PySem.W.kcp_self st h
def Lz(H0:Hp)(td:TE):TI:=λσ H R=>td σ H λx H1=>∃a,∃kvs:List (aK×V),x=.ref a/\H1 a=some (.dK kvs)/\∀o,dU H0 a->R (D4 a o kvs) (upd H1 a (.frz o (.dK kvs)))
def Ru {elts:List Expr} {x1} {tp:Pos} {o:Expr} {td:TE} {apos q2:Pos} (ho:PE X o td) (hbase:attributeBase o "items" X.env (eval o X.env)=eval o X.env:=by rfl) (hline:(apos.endLine == q2.line)=true:=by rfl) :
  PI X (.Tuple elts x1 tp) (.Call (.Attribute o "items" apos) [] [] q2) (Lz X.H₀ td):=by
 intro pins s σ H R I h;refine wpAny_Call_method0_late hbase hline (aN (ho pins s σ H _ I h) λv s1 ⟨x,H1,I1,r1,q1⟩=>?_);obtain⟨a,kvs,e,ha,q⟩:=q1;subst e;obtain rfl:v=.ref a:=r1;obtain⟨t1,t2,_⟩:=vT I1 (.inl ⟨kvs,.inl ha⟩);obtain⟨z,hd,vs,rel,dd⟩:=rT I1.hok ha;have hlen:=rel.length;refine⟨"dict","dict.items",PySem.F.plainAttrs_dict,PySem.F.slot_dict_items,PySem.F.type_dict_items,t1,t2,Calls.callWith_builtin rfl (PySem.evalArgs_none ?_)⟩;refine call_meetsIn PySem.F.slot_dict_items dd.typeIs PySem.F.entry_dict_items (PySem.F.args_dict_items_1 _) (meets_dict_items (eX X.prog X.w) a hd) ⟨⟨vs,dd⟩,?_⟩;obtain⟨ep,hat⟩:=(dd.push {cls:=.type "dict_items",data:=.fields #[.ref a]}).dictAt;obtain⟨ob,es,hob,hx,hdat,_⟩:=id hat;refine wpAny_pyIter_items (kvs:=vs) (ep:=ep) ⟨_,z9 _ rfl,rfl,rfl⟩ hat ?_;have I2:Inv X pins σ H1 {s1 with heap:=s1.heap.push {cls:=.type "dict_items",data:=.fields #[.ref a]}}:=I1.kept (t':=s1.toks) λb o e=>aT _ e;have I3:=I2.freeze ha hob;have hn:upd H1 a (.frz ob (.dK kvs)) (s1.heap.push {cls:=.type "dict_items",data:=.fields #[.ref a]}).objs.size=none:=I3.hok.fresh (zZ _);refine⟨(s1.heap.push {cls:=.type "dict_items",data:=.fields #[.ref a]}).objs.size,[(s1.heap.push {cls:=.type "dict_items",data:=.fields #[.ref a]}).objs.size],_,_,_,rfl,I3.kept (t':=s1.toks) λb o e=>aT _ e,Ux (λz=>?_) hdat,⟨.none,.none,?_⟩,λb hb=>?_,q ob (I1.noFz ha)⟩
 ·rw[<- z,aC]at hn
  cases hn
 ·rw[hlen]
  exact z9 _ rfl
 ·have e:b=(s1.heap.push {cls:=.type "dict_items",data:=.fields #[.ref a]}).objs.size:=by simpa using hb
  subst e;exact I3.fpOk (zZ _) hn
def Tu {a:Addr} {o:Obj} {kvs:List (aK×V)} {ix:fV} {g:TG} {tt:TT} {te:TE} {σ:St} {H1:Hp} {Q:VK} (Pv:Nat->List V->Hp->Prop) (h0:Pv 0 [] H1) (hn:kvs.length<sizeLine) (hl':∀i ys H,i<=kvs.length->Pv i ys H->H a=some (.frz o (.dK kvs)))
  (hs:∀i kv p ys H,kvs[i]?=some kv->i<kvs.length->ys.length<=i->H p=none->Pv i ys H->g (.ref p) (bR ix σ) (upd H p (.tup [kV kv.1,kv.2])) λσ2 H2=>mS (bR ix σ) σ2/\tt σ2 H2 λb H3=>if b=true then te σ2 H3 (iF Pv kvs.length i ys) else iE Pv kvs.length i ys H3)
  (hd:∀ys H,ys.length<=kvs.length->Pv kvs.length ys H->∀D,H D=none->Q (.ref D) (upd H D (.lst ys))):gW (D4 a o kvs) ix g tt te σ H1 Q:=by
 refine⟨λi m ys H=>m=kvs.length-i/\i<=kvs.length/\ys.length<=i/\Pv i ys H,⟨kvs.length,by simp,qR _,zZ _,h0⟩,?_⟩;rintro i m ys H ⟨rfl,hi,hl,p⟩;have q:=hl' i ys H hi p;by_cases hlt:i<kvs.length
 ·refine .inr ⟨⟨q,hlt⟩,by omega,λv H' y=>?_⟩
  obtain⟨pp,kv,rfl,hp,hk,rfl⟩:=y;exact hs i kv pp ys _ hk hlt hl hp p
 ·have e:i=kvs.length:=by omega
  subst e;exact .inl ⟨⟨q,zZ _⟩,hd ys H hl p⟩
end
def Cm{σ:St}{i:Nat}{v:Option V}(h:σ[i]?=some none):mS σ (σ.set i v):=by
 refine⟨by simp,λn b e=>?_⟩;have a:i≠n:=λz=>by subst z;rw[h]at e;cases e
 rw[List.getElem?_set_ne a];exact e
def Ent(h:Heap)(d:Addr)(es:Array DictEntry)(ep:Nat):Prop:=∃o,h.get? d=some o/\o.ExactDict/\o.data=.dict es ep
def Ent.typ{s:Shared}{d:Addr}{es:Array DictEntry}{ep:Nat}(x:Ent s.heap d es ep):s.TypeIs (.ref d) "dict":=let ⟨o,e,c,_⟩:=x;⟨o,e,c.1⟩
theorem Ent.kp{h h':Heap}{d:Addr}{es:Array DictEntry}{ep:Nat}(x:Ent h d es ep)(k:∀o,h.get? d=some o->h'.get? d=some o):Ent h' d es ep:=let ⟨o,e,r⟩:=x;⟨o,k o e,r⟩
theorem Ent.lt{h:Heap}{d:Addr}{es:Array DictEntry}{ep:Nat}(x:Ent h d es ep):d<h.objs.size:=let ⟨_,e,_⟩:=x;z8 e
section
variable {prog:Program}{w:World}{A:Around}{E:Value->Shared->Prop}{s:Shared}{d it:Addr}{es:Array DictEntry}{ep i:Nat}
def Fu {Q:Value->Shared->Prop} (a:(d == sysModules)=false) (x:Ent s.heap d es ep)
  (q:Q (.ref s.heap.objs.size) {s with heap:=s.heap.push {cls:=.type "dict_keyiterator",data:=.fields #[.ref d,.int 0 0,.int es.size 0,.int ep 0]}}):wpAny (model prog w) A (pyIter (.ref d)) Q E s:=by
 obtain⟨o,e,c,f⟩:=id x;refine wpAny_pyIter_slot x.typ F.slot_dict_iter (wpAny_call_entry F.slot_dict_iter x.typ F.entry_dict_iter ?_ (F.args_dict_iter_1 _));unfold Builtin.«dict.__iter__»;refine zX ?_;unfold Builtin.Dict.dictSlotNone;refine zX (wpAny_notOrdered_dict x.typ ?_);show wpAny _ _ (pure (Value.ref d)) _ _ s;refine z7 ?_;show wpAny _ _ (Builtin.Dict.showsAll d >>= _) _ _ s;unfold Builtin.Dict.showsAll;rw[if_neg (by rw[a];exact qA)];refine zX (z7 (zX (wpAny_dictEntries e f (zX (wpAny_dictEpoch e f ?_)))));refine zX (wpAny_newObj_type (z7 ⟨_,Z,"dict_keyiterator",_,⟨_,z9 _ Z,Z⟩,F.slot_dict_keyiterator_next.lookup,?_⟩));simpa[rawInt] using q
def Fv {Q:Option Value->Shared->Prop} (t:s.heap.IsKeyIter it d i es.size ep) (x:Ent s.heap d es ep) (hi:i<es.size)
  (q:∀h',h'.IsKeyIter it d (i+1) es.size ep->Heap.SameBut it s.heap h'->Q (some es[i].key) {s with heap:=h'}):wpAny (model prog w) A (pyNext (.ref it)) Q E s:=by
 obtain⟨o,e,c,f⟩:=id t;obtain⟨od,g,h,b⟩:=id x;have T:=t.typeIs;unfold pyNext
 refine zX (wpAny_attempt (wpAny_callSpecial?_slot (name:=Str.ofString "__next__") T F.slot_dict_keyiterator_next
  (wpAny_call_entry F.slot_dict_keyiterator_next T F.entry_dict_keyiterator_next ?_ (F.args_dict_keyiterator_next_1 _))))
 refine zX (z7 (zX (zX (zX (wpAny_typeNameOfWhole_keyiter T (z7 (zX (wpAny_fieldsOf e f ?_))))))));have a:Builtin.Dict_items.ownsTuple "dict_keyiterator"=false:=by decide
 simp only[a,Bool.false_eq_true,if_false];show wpAny _ _ (if (Value.ref d == Value.none)=true then _ else _) _ _ s;rw[if_neg (show ¬((Value.ref d == Value.none)=true) from qA)];refine zX (z7 (zX (wpAny_dictEntries g b ?_)));rw[if_neg (by simp)];refine zX (z7 (zX (wpAny_dictEpoch g b ?_)));rw[if_neg (by simp)];refine z7 ?_;simp only[show ¬((i:Int)<0) from by omega,if_false,Int.toNat_natCast,Array.getElem?_eq_getElem hi];refine zX (zX (wpAny_typeNameOfWhole_keyiter T (z7 (zX (wpAny_isOneOf_keyiter T ?_)))));show wpAny _ _ (setField (.ref it) 1 (rawInt ((i:Int)+1)) >>= _) _ _ s;refine zX (qY e f (by simp) ?_)
 have t':(s.heap.update it (Obj.mapFields (·.setIfInBounds 1 (rawInt ((i:Int)+1))))).IsKeyIter it d (i+1) es.size ep:=
  ⟨_,Heap.get?_update_self _ e (Obj.isFreed_of_fields (Obj.data_mapFields f _)),(Obj.cls_mapFields ..).trans c,by rw[Obj.data_mapFields f];simp[rawInt]⟩
 refine zX (qO (zX (wpAny_isOneOf_keyiter (s:={s with heap:=s.heap.update it (Obj.mapFields (·.setIfInBounds 1 (rawInt ((i:Int)+1))))}) t'.typeIs ?_)));show wpAny _ _ (pure es[i].key) _ _ _;exact z7 (z7 ⟨_,Z,z7 (q _ t' (Heap.SameBut.update ..))⟩)
def Fw {Q:Option Value->Shared->Prop} (l:A.handled=none) (t:s.heap.IsKeyIter it d i es.size ep) (x:Ent s.heap d es ep) (hi:es.size<=i)
  (q:∀h',Heap.ExtBut it s.heap h'->Q none {s with heap:=h'}):wpAny (model prog w) A (pyNext (.ref it)) Q E s:=by
 obtain⟨o,e,c,f⟩:=id t;obtain⟨od,j,n,h⟩:=id x;have T:=t.typeIs;unfold pyNext
 refine zX (wpAny_attempt (wpAny_callSpecial?_slot (name:=Str.ofString "__next__") T F.slot_dict_keyiterator_next
  (wpAny_call_entry F.slot_dict_keyiterator_next T F.entry_dict_keyiterator_next ?_ (F.args_dict_keyiterator_next_1 _))))
 refine zX (z7 (zX (zX (zX (wpAny_typeNameOfWhole_keyiter T (z7 (zX (wpAny_fieldsOf e f ?_))))))));have g:Builtin.Dict_items.ownsTuple "dict_keyiterator"=false:=by decide
 simp only[g,Bool.false_eq_true,if_false];show wpAny _ _ (if (Value.ref d == Value.none)=true then _ else _) _ _ s;rw[if_neg (show ¬((Value.ref d == Value.none)=true) from qA)];refine zX (z7 (zX (wpAny_dictEntries j h ?_)));rw[if_neg (by simp)];refine zX (z7 (zX (wpAny_dictEpoch j h ?_)));rw[if_neg (by simp)];refine z7 ?_;simp only[show ¬((i:Int)<0) from by omega,if_false,Int.toNat_natCast,Array.getElem?_eq_none hi];refine zX (zX (wpAny_typeNameOfWhole_keyiter T (z7 ?_)));show wpAny _ _ (setField (.ref it) 0 .none >>= _) _ _ s;refine zX (qY e f (by simp) ?_);show wpAny _ _ (PySem.newExc (.type "StopIteration") [] >>= _) _ _ _;refine zX ?_;simp only[PySem.newExc,newTuple];refine zX (wpAny_newObj_type (zX (m:=firstArgMember _ _) (wpAny_of_eq (a:=Value.none) (by first |rfl |(simp only[firstArgMember];rfl)) (wpAny_newObj_type ?_ (by size_fits)))) (by size_fits));simp only[raiseNew];refine zX (wpAny_handled ?_);rw[show A.in1.handled=none from l];refine zX (z7 (wpAny_throw ?_));exact zX (wpAny_isInstance (T:="StopIteration") (b:=true) ⟨_,z9 _ Z,Z⟩ isSubtype_stop (z7 (q _ (((Heap.SameBut.update ..).extBut.push _).push _))))
def Qr (f:A.handled=none) (I d:Addr) (ne:d≠I) (es:Array DictEntry) (ep:Nat) :
  Walks prog w A I [I,d] [I] es.size (λi v=>∃k,es[i]?=some k/\v=k.key) (λi h=>h.IsKeyIter I d i es.size ep/\Ent h d es ep) where
 sub:=λb a=>by simp at a;simp[a]
 frame:=λ_ _ _ st k=>⟨st.1.at λo e=>k I (by simp) o e,st.2.kp λo e=>k d (by simp) o e⟩
 item:=λi s Q E hi st q=>Fv st.1 st.2 hi λh' t' c=>q _ h' s.toks ⟨_,Array.getElem?_eq_getElem hi,Z⟩ ⟨t',st.2.kp λo e=>c.extBut d o ne e⟩ λb o a e=>c.extBut b o (λh=>a (by simp[h])) e
 done:=λs Q E st q=>Fw f st.1 st.2 (zZ _) λh' g=>q h' s.toks λb o a e=>g b o (λh=>a (by simp[h])) e
 self:=λ_ _ _ _ st q=>wpAny_pyIter_keyiter st.1 q
def Np(a:(d == sysModules)=false):PySem.W.KdlSrc prog w "dict" d d es.size (λi v=>∃k,es[i]?=some k/\v=k.key) (λh=>Ent h d es ep) where
 type:=λ_ x=>x.typ
 there:=λ_ x=>⟨x.lt,x.lt⟩
 keep:=λ_ _ x k=>x.kp λo e=>k d (.inl Z) o e
 notList:=by decide
 notTuple:=by decide
 hint:=λ_ _ _ _ x q=>PySem.W.kdl_hint_dict x.typ q
 iter:=λ_ _ b x=>⟨_,_,(λ_ _ q=>Fu a x q),Qr b _ d (qE x.lt) es ep,⟨⟨_,z9 _ Z,Z,Z⟩,x.kp λo e=>aT _ e⟩⟩
def S8 (d:Addr) (a:(d == sysModules)=false):MeetsIn prog w (Builtin.«dict.items» ⟨[.ref d],[]⟩) (λ_ R s=>(∃es ep,Ent s.heap d es ep) ∧
      R (.ok (.ret (.ref s.heap.objs.size))) {s with heap:=s.heap.push {cls:=.type "dict_items",data:=.fields #[.ref d]}}):=
  .of_wp λA R s ⟨⟨es,ep,x⟩,h⟩=>by
    unfold Builtin.«dict.items»;refine zX ?_;unfold Builtin.Dict.noArgs;refine zX (wpAny_notOrdered_dict x.typ ?_);show wpAny _ _ (pure d) _ _ s;refine z7 ?_;show wpAny _ _ (Builtin.Dict.showsAll d >>= _) _ _ s;unfold Builtin.Dict.showsAll;rw[if_neg (by rw[a];exact qA)];exact zX (z7 (zX (wpAny_newObj_type (z7 ⟨_,Z,h⟩))))
def Sr {v:Addr} {Q:Value->Shared->Prop} (b:s.heap.IsItemsView v d) (x:Ent s.heap d es ep)
  (q:Q (.ref s.heap.objs.size) {s with heap:=s.heap.push {cls:=.type "dict_itemiterator",data:=.fields #[.none,.bool false,.ref d,.int 0 0,.int es.size 0,.int ep 0,.none,.none]}}) :
  wpAny (model prog w) A (pyIter (.ref v)) Q E s:=by
 obtain⟨j,e,c,f⟩:=id b;obtain⟨o,h,l,g⟩:=id x;refine wpAny_pyIter_slot b.typeIs F.slot_dict_items_iter (wpAny_call_entry F.slot_dict_items_iter b.typeIs F.entry_dict_items_iter ?_ (F.args_dict_items_iter_1 _));unfold Builtin.«dict_items.__iter__»;refine zX (z7 (zX ?_));unfold Builtin.Dict_items.dictOf;refine zX (qN e f (x:=.ref d) Z (z7 (zX ?_)));unfold Builtin.Dict_items.newIterator;refine zX (wpAny_dictEntries h g (zX (wpAny_dictEpoch h g ?_)));have a:Builtin.Dict_items.ownsTuple "dict_itemiterator"=true:=by decide
 simp only[a,if_true]
 refine wpAny_newObj_type (z7 ⟨_,Z,"dict_itemiterator",_,⟨_,z9 _ Z,Z⟩,F.slot_dict_itemiterator_next.lookup,?_⟩)
  (by simp only[sizeOk,Builtin.Dict_items.ownedTupleFields,List.size_toArray,bK,List.length_cons,List.length_nil,sizeLine_eq];omega)
 simpa[rawInt,Builtin.Dict_items.ownedTupleFields] using q
def Ss {ok j:Value} {Q:Option Value->Shared->Prop} (t:IsItemIter s.heap it d i es.size ep ok j) (x:Ent s.heap d es ep) (hi:i<es.size)
  (q:∀h',IsItemIterOut h' it d (i+1) es.size ep es[i].key es[i].val s.heap.objs.size->h'.get? s.heap.objs.size=some {cls:=.type "tuple",data:=.seq #[es[i].key,es[i].val]}->
   (∀b o,b≠it->s.heap.get? b=some o->h'.get? b=some o)->Q (some (.ref s.heap.objs.size)) {s with heap:=h'}):wpAny (model prog w) A (pyNext (.ref it)) Q E s:=by
 obtain⟨a,g,n,tk,l⟩:=s;obtain⟨od,e2,c2,f2⟩:=id x;have T:Shared.TypeIs ⟨a,g,n,tk,l⟩ (.ref it) "dict_itemiterator":=⟨_,t,Z⟩;unfold pyNext
 refine zX (wpAny_attempt (wpAny_callSpecial?_slot (name:=Str.ofString "__next__") T F.slot_dict_itemiterator_next
  (wpAny_call_entry F.slot_dict_itemiterator_next T F.entry_dict_itemiterator_next ?_ (F.args_dict_itemiterator_next_1 _))))
 refine zX (z7 (zX (zX (zX (wpAny_typeNameOfWhole_itemiter T (z7 (zX (wpAny_fieldsOf t Z ?_))))))));have J:Builtin.Dict_items.ownsTuple "dict_itemiterator"=true:=by decide
 simp only[J,if_true];show wpAny _ _ (if (Value.ref d == Value.none)=true then _ else _) _ _ _;rw[if_neg (show ¬((Value.ref d == Value.none)=true) from qA)];refine zX (z7 (zX (wpAny_dictEntries e2 f2 ?_)));rw[if_neg (by simp)];refine zX (z7 (zX (wpAny_dictEpoch e2 f2 ?_)));rw[if_neg (by simp)];refine z7 ?_;simp only[show ¬((i:Int)<0) from by omega,if_false,Int.toNat_natCast,Array.getElem?_eq_getElem hi];refine zX (zX (wpAny_typeNameOfWhole_itemiter T (z7 (zX (wpAny_isOneOf_itemiter T ?_)))));show wpAny _ _ (setField (.ref it) 3 (rawInt ((i:Int)+1)) >>= _) _ _ ⟨a,g,n,tk,l⟩;refine zX (wpAny_setField_rec t (by simp) λf h (I:Heap.SameBut it a f)=>?_)
 replace h:IsItemIter f it d (i+1) es.size ep ok j:=by
  have e:((i+1:Nat):Int)=(i:Int)+1:=by omega
  unfold IsItemIter;rw[e];simpa[rawInt] using h
 have T1:Shared.TypeIs ⟨f,g,n,tk,l⟩ (.ref it) "dict_itemiterator":=⟨_,h,Z⟩;refine zX (qO (zX (wpAny_isOneOf_itemiter T1 (zX (wpAny_isOneOf_itemiter T1 ?_)))));show wpAny _ _ (Builtin.Dict_items.pairFromOwner (.ref it) 6 es[i].key es[i].val) _ _ ⟨f,g,n,tk,l⟩;unfold Builtin.Dict_items.pairFromOwner;refine zX (wpAny_newTuple ?_);have t2:IsItemIter (f.push {cls:=.type "tuple",data:=.seq #[es[i].key,es[i].val]}) it d (i+1) es.size ep ok j:=aT _ h;generalize Y:f.push {cls:=.type "tuple",data:=.seq #[es[i].key,es[i].val]}=m at t2;have r:f.objs.size=a.objs.size:=I.1;have il:it<a.objs.size:=z8 t;have u2:m.get? a.objs.size=some {cls:=.type "tuple",data:=.seq #[es[i].key,es[i].val]}:=by rw[<- Y,<- r];exact z9 _ Z
 have k2:∀b o,b≠it->a.get? b=some o->m.get? b=some o:=λb o c e=>by rw[<- Y];exact aT _ (I.extBut b o c e)
 show wpAny _ _ (Builtin.Dict_items.ownedTupleIsFree (.ref it) >>= _) _ _ ⟨m,g,n,tk,l⟩;rw[r];clear Y h I T1 r f;refine zX ?_;unfold Builtin.Dict_items.ownedTupleIsFree;refine zX (qN t2 Z (x:=.none) Z (z7 ?_));simp only[if_true];refine zX (qN t2 Z (x:=ok) Z (zX (qN t2 Z (x:=j) Z ?_)));refine zX (wpAny_setField_rec t2 (by simp) λU C (s3:Heap.SameBut it m U)=>?_)
 replace C:IsItemIter U it d (i+1) es.size ep es[i].key j:=C
 refine zX (wpAny_setField_rec C (by simp) λO z (s4:Heap.SameBut it U O)=>?_)
 replace z:IsItemIter O it d (i+1) es.size ep es[i].key es[i].val:=z
 refine zX (wpAny_setField_rec z (by simp) λM y (s5:Heap.SameBut it O M)=>?_)
 replace y:IsItemIterOut M it d (i+1) es.size ep es[i].key es[i].val a.objs.size:=y
 refine zX (wpAny_setField_rec y (by simp) λp u (s6:Heap.SameBut it M p)=>?_)
 replace u:IsItemIterOut p it d (i+1) es.size ep es[i].key es[i].val a.objs.size:=u
 have kk:∀b o,b≠it->m.get? b=some o->p.get? b=some o:=λb o c e=>s6.extBut b o c (s5.extBut b o c (s4.extBut b o c (s3.extBut b o c e)));exact zX (wpAny_letGo (z7 (z7 ⟨_,Z,z7 (q p u (kk _ _ (Nat.ne_of_gt il) u2) λb o c e=>kk b o c (k2 b o c e))⟩)))
def Su {ok g:Value} {Q:Option Value->Shared->Prop} (h:A.handled=none) (t:IsItemIter s.heap it d i es.size ep ok g) (x:Ent s.heap d es ep) (hi:es.size<=i)
  (q:∀h',Heap.ExtBut it s.heap h'->Q none {s with heap:=h'}):wpAny (model prog w) A (pyNext (.ref it)) Q E s:=by
 obtain⟨od,f,j,e⟩:=id x;have T:s.TypeIs (.ref it) "dict_itemiterator":=⟨_,t,Z⟩;unfold pyNext
 refine zX (wpAny_attempt (wpAny_callSpecial?_slot (name:=Str.ofString "__next__") T F.slot_dict_itemiterator_next
  (wpAny_call_entry F.slot_dict_itemiterator_next T F.entry_dict_itemiterator_next ?_ (F.args_dict_itemiterator_next_1 _))))
 refine zX (z7 (zX (zX (zX (wpAny_typeNameOfWhole_itemiter T (z7 (zX (wpAny_fieldsOf t Z ?_))))))));have c:Builtin.Dict_items.ownsTuple "dict_itemiterator"=true:=by decide
 simp only[c,if_true];show wpAny _ _ (if (Value.ref d == Value.none)=true then _ else _) _ _ s;rw[if_neg (show ¬((Value.ref d == Value.none)=true) from qA)];refine zX (z7 (zX (wpAny_dictEntries f e ?_)));rw[if_neg (by simp)];refine zX (z7 (zX (wpAny_dictEpoch f e ?_)));rw[if_neg (by simp)];refine z7 ?_;simp only[show ¬((i:Int)<0) from by omega,if_false,Int.toNat_natCast,Array.getElem?_eq_none hi];refine zX (zX (wpAny_typeNameOfWhole_itemiter T (z7 ?_)));show wpAny _ _ (setField (.ref it) 2 .none >>= _) _ _ s;refine zX (qY t Z (by simp) ?_);show wpAny _ _ (PySem.newExc (.type "StopIteration") [] >>= _) _ _ _;refine zX ?_;simp only[PySem.newExc,newTuple];refine zX (wpAny_newObj_type (zX (m:=firstArgMember _ _) (wpAny_of_eq (a:=Value.none) (by first |rfl |(simp only[firstArgMember];rfl)) (wpAny_newObj_type ?_ (by size_fits)))) (by size_fits));simp only[raiseNew];refine zX (wpAny_handled ?_);rw[show A.in1.handled=none from h];refine zX (z7 (wpAny_throw ?_));exact zX (wpAny_isInstance (T:="StopIteration") (b:=true) ⟨_,z9 _ Z,Z⟩ isSubtype_stop (z7 (q _ (((Heap.SameBut.update ..).extBut.push _).push _))))
end
end L2
end
section
namespace L2
open PySem PySem.Spec PySem.W PyProof.Rows M
def Ou(td:TE):TE:=λσ H Q=>td σ H λx H1=>∃a,∃kvs:List (aK×V),x=.ref a/\H1 a=some (.dK kvs)/\Q .non (upd H1 a (.dK []))
section
variable {X:Cx}{o:Expr}{td:TE}{apos cpos:Pos}
def Sw(y:PE X o n)(J:attributeBase o "clear" X.env (eval o X.env)=eval o X.env:=by rfl)(C:(f.endLine == e.line)=true:=by rfl):PE X (.Call (.Attribute o "clear" f) [] [] e) (Ou n):=by
 intro b s σ H Q I h;refine wpAny_Call_method0_late J C (aN (y b s σ H _ I h) λv M ⟨x,O,l,r,a,kvs,ex,j,q⟩=>?_);subst ex;obtain rfl:v=.ref a:=r;obtain⟨p,t2,_⟩:=vT l (.inl ⟨kvs,.inl j⟩);obtain⟨z,hd,vs,g,m⟩:=rT l.hok j;refine⟨"dict","dict.clear",PySem.F.plainAttrs_dict,PySem.F.slot_dict_clear,PySem.F.type_dict_clear,p,t2,Calls.callWith_builtin Z (PySem.evalArgs_none ?_)⟩;refine call_meetsIn PySem.F.slot_dict_clear m.typeIs PySem.F.entry_dict_clear (PySem.F.args_dict_clear_1 _) (meets_dict_clear (knd:=eX X.prog X.w) a) ⟨vs,m,by rw[<- g.length];exact z,λh' c hs=>?_⟩;exact⟨.non,_,wF l (by rw[j];exact True.intro) hs (let ⟨q,_,_,u,_⟩:=c;⟨q,u⟩) (Eg (kvs:=[]) (qR _) hd .nil c),Z,q⟩
end
end L2
end
section
namespace L2
open PySem PySem.Spec PyProof.Rows
def tQ(P:Program)(w:World)(H:Hp)(h:Heap)(a:Addr)(kvs:List (List aK×V))(es:Array DictEntry)(ep:Nat):Prop:=
 Ent h a es ep/\es.size=kvs.length/\kvs.length<=sizeLine/\(a == sysModules)=false/\∀(i:Nat) (kv:List aK×V) (e:DictEntry),kvs[i]?=some kv->es[i]?=some e->∃b,e.key=.ref b/\H b=some (.tup (kv.1.map kV))/\RelV kv.2 e.val
theorem B7{α β:Type}{F:α->β->Prop}:∀{l:List α} {m:List β},Paired F l m->l.length=m.length/\∀(i:Nat) (x:α) (y:β),l[i]?=some x->m[i]?=some y->F x y
 |_,_,.nil=>⟨Z,λi x y e=>by cases e⟩
 |_,_,.cons r t=>by
  obtain⟨e,g⟩:=B7 t;refine⟨by simp[e],λi x y b a=>?_⟩
  cases i with
  |zero=>cases b;cases a;exact r
  |succ i=>exact g i x y b a
def sN{P:Program}{w:World}{H:Hp}{h:Heap}{a:Addr}{kvs:List (List aK×V)}(x:ObjOk P w H h a (.dT kvs)):∃es ep,tQ P w H h a kvs es ep:=by
 obtain⟨z,y,xs,r,o,es,ep,e,c,d,b,nd⟩:=x;obtain⟨l,g⟩:=B7 r;have sz:es.size=xs.length:=by rw[<- Array.length_toList,b,aR]
 refine⟨es,ep,⟨o,e,c,d⟩,by omega,z,y,λi j en n f=>?_⟩;rw[<- Array.getElem?_toList,b,dA]at f;obtain⟨q,m,rfl⟩:=fL f;obtain⟨C,u,p⟩:=g i j q n m;exact⟨q.2.1,Z,u,p⟩
section
variable {X:Cx}
def Inv.noFzT{b:List (Addr×Obj)}{σ:St}{H:Hp}{s:Shared}{a:Addr}{kvs:List (List aK×V)}(I:Inv X b σ H s)(c:H a=some (.dT kvs)):dU X.H₀ a:=λob u e=>by
 have:=I.base.frzs a ob u e;rw[c]at this;cases this
def Fj{H:Hp}{a:Addr}{o u:HO}(e:H a=some o)(n:∀xs,o≠.tup xs){b:Addr}{ys:List V}(c:H b=some (.tup ys)):upd H a u b=some (.tup ys):=by
 rw[aG λz=>by subst z;rw[e]at c;exact n _ (qB c)];exact c
def Inv.freezeT{b:List (Addr×Obj)}{σ:St}{H:Hp}{s:Shared}{a:Addr}{ob:Obj}{kvs:List (List aK×V)}(I:Inv X b σ H s)(c:H a=some (.dT kvs))(e:s.heap.get? a=some ob):Inv X b σ (upd H a (.frz ob (.dT kvs))) s:=by
 refine I.reH c (λ_ z=>by cases z) (λ_ z=>by cases z) (λ_ z=>by cases z) (I.noFzT c) ⟨e,?_⟩;obtain⟨z,y,xs,r,q⟩:=(show ObjOk X.prog X.w H s.heap a (.dT kvs) from I.hok a _ c);exact⟨z,y,xs,Paired.mapP r λ_ _ z=>⟨z.1,Fj c (λ_ z=>by cases z) z.2.1,z.2.2⟩,q⟩
def Inv.thawT{b:List (Addr×Obj)}{σ:St}{H:Hp}{s:Shared}{a:Addr}{ob:Obj}{kvs:List (List aK×V)}(I:Inv X b σ H s)(c:H a=some (.frz ob (.dT kvs)))(e:dU X.H₀ a):Inv X b σ (upd H a (.dT kvs)) s:=by
 obtain⟨_,z,y,xs,r,q⟩:=(show ObjOk X.prog X.w H s.heap a (.frz ob (.dT kvs)) from I.hok a _ c);exact I.reH c (λ_ z=>by cases z) (λ_ z=>by cases z) (λ_ z=>by cases z) e ⟨z,y,xs,Paired.mapP r λ_ _ z=>⟨z.1,Fj c (λ_ z=>by cases z) z.2.1,z.2.2⟩,q⟩
def wH{P:Program}{w:World}{H:Hp}{h:Heap}{a:Addr}{o:Obj}{kvs:List (List aK×V)}{es:Array DictEntry}{ep:Nat}(ok:HOk P w H h)(e:H a=some (.frz o (.dT kvs)))(hd:o.data=.dict es ep):tQ P w H h a kvs es ep:=by
 obtain⟨f,q⟩:=(show ObjOk P w H h a (.frz o (.dT kvs)) from ok a _ e);obtain⟨es',g,⟨j,b,c,d⟩,r⟩:=sN q;rw[f]at b;cases b;rw[hd]at d;cases d;exact⟨⟨o,f,c,hd⟩,r⟩
def mQ(a:Addr)(o:Obj)(kvs:List (List aK×V)):It:=
 ⟨λi H=>H a=some (.frz o (.dT kvs))/\i<kvs.length,λi H x H'=>H'=H/\∃kv b,kvs[i]?=some kv/\x=.ref b/\H b=some (.tup (kv.1.map kV)),λi H=>H a=some (.frz o (.dT kvs))/\kvs.length<=i⟩
def Uw{P:Program}{w:World}{K:Fg}{U:Expr}{a it:Addr}{o:Obj}{kvs:List (List aK×V)}{es:Array DictEntry}{ep:Nat}(a0:a≠it)(hd:o.data=.dict es ep):Turn P w K U (mQ a o kvs) [it] it (λi h=>h.IsKeyIter it a i es.size ep) where
 mem:=by simp
 obj:=λi h st b g=>by
  have e:b=it:=by simpa using g
  subst e;obtain⟨o,e,c,d⟩:=st;exact⟨o,e,λv z=>by rw[d]at z;cases z⟩
 keep:=λi h h' st k=>st.at λo e=>k it (by simp) o e
 item:=by
  intro X r m u O i f s σ H E I l st n;subst r m u;obtain⟨p,hi⟩:=n;obtain⟨en,sz,_,_,get⟩:=wH I.hok p hd;obtain⟨M,J,f2,C,y,x⟩:=l it (by simp);have j:i<es.size:=by omega
  obtain⟨b,e1,e2,e3⟩:=get i kvs[i] es[i] (bV hi) (Array.getElem?_eq_getElem j);refine Fv st en j λh' st' Y=>?_;have I1:Inv X f σ H {s with heap:=h'}:=I.turned (t':=s.toks) (λb o g e=>(Y.2 b g).trans e) M J C y x;obtain⟨o',e,c,d⟩:=id st';exact⟨_,Z,rR (s:={s with heap:=h'}) e c d (by decide) ⟨.ref b,H,I1,by rw[e1];rfl,⟨Z,_,b,bV hi,Z,e2⟩,st',λb g=>(l b g).1⟩⟩
 done:=by
  intro X r m u O i f s σ H E I l st n;subst r m u;obtain⟨p,hi⟩:=n;obtain⟨en,sz,_,_,get⟩:=wH I.hok p hd;obtain⟨M,J,f2,C,y,x⟩:=l it (by simp);exact Fw (I.ok.hd O) st en (by omega) λh' eb=>⟨Z,I.turned (t':=s.toks) (λb o g e=>eb b o g e) M J C y x⟩
 self:=λ_ _ _ _ _ st h=>wpAny_pyIter_keyiter st h
def Ly(H0:Hp)(td:TE):TI:=λσ H R=>td σ H λx H1=>∃a,∃kvs:List (List aK×V),x=.ref a/\H1 a=some (.dT kvs)/\∀o,dU H0 a->R (mQ a o kvs) (upd H1 a (.frz o (.dT kvs)))
def Rt{y l:Expr}{r:TE}(O:PE X l r):PI X y l (Ly X.H₀ r):=by
 intro f s σ H R I h;refine aN (O f s σ H _ I h) λv c ⟨x,u,p,C,J⟩=>?_;obtain⟨a,kvs,e,m,q⟩:=J;subst e;cases C;obtain⟨es,ep,en,sz,_,g,get⟩:=sN (show ObjOk X.prog X.w u c.heap a (.dT kvs) from p.hok a _ m);obtain⟨o,M,Y,j⟩:=id en;refine Fu g en ?_;have n:=p.freezeT m M;have hn:upd u a (.frz o (.dT kvs)) c.heap.objs.size=none:=n.hok.fresh (zZ _);refine⟨c.heap.objs.size,[c.heap.objs.size],_,_,_,Z,n.kept (t':=c.toks) λb o e=>aT _ e,Uw (λz=>?_) j,⟨_,z9 _ Z,Z,Z⟩,λb U=>?_,q o (p.noFzT m)⟩
 ·rw[<- z,aC]at hn
  cases hn
 ·have e:b=c.heap.objs.size:=by simpa using U
  subst e;exact n.fpOk (zZ _) hn
def gH(a:Addr)(o:Obj)(kvs:List (List aK×V)):It:=
 ⟨λi H=>H a=some (.frz o (.dT kvs))/\i<kvs.length,λi H x H'=>∃p kv b,x=.ref p/\H p=none/\kvs[i]?=some kv/\H b=some (.tup (kv.1.map kV))/\H'=upd H p (.tup [.ref b,kv.2]),λi H=>H a=some (.frz o (.dT kvs))/\kvs.length<=i⟩
def W1{P:Program}{w:World}{K:Fg}{elts:List Expr}{x1}{pos:Pos}{a it:Addr}{o:Obj}{kvs:List (List aK×V)}{es:Array DictEntry}{ep:Nat}(a0:a≠it)(hd:o.data=.dict es ep):Turn P w K (.Tuple elts x1 pos) (gH a o kvs) [it] it (λi h=>∃ok j,IsItemIter h it a i es.size ep ok j) where
 mem:=by simp
 obj:=λi h st b g=>by
  have e:b=it:=by simpa using g
  subst e;obtain⟨_,_,e⟩:=st;exact⟨_,e,λv z=>by cases z⟩
 keep:=λi h h' st k=>by
  obtain⟨ok,j,e⟩:=st;exact⟨ok,j,k it (by simp) _ e⟩
 item:=by
  intro X C r J Y i f s σ H E I n st x;subst C r J;obtain⟨y,hi⟩:=x;obtain⟨en,sz,_,_,get⟩:=wH I.hok y hd;have l:i<es.size:=by omega
  obtain⟨b,ek,M,rv⟩:=get i kvs[i] es[i] (bV hi) (Array.getElem?_eq_getElem l);obtain⟨ok,j,st⟩:=st;refine Ss st en l λh1 a1 a3 a5=>⟨_,Z,?_⟩;refine wpAny_letOwnedTupleGo_items a1 λh2 b1 b2=>?_;have u:H s.heap.objs.size=none:=I.hok.fresh (zZ _);have p:it<s.heap.objs.size:=z8 st;have g1:(s.heap.push {cls:=.type "tuple",data:=.seq #[es[i].key,es[i].val]}).get? s.heap.objs.size=some {cls:=.type "tuple",data:=.seq #[es[i].key,es[i].val]}:=z9 _ Z
  have I1:Inv X f σ (upd H s.heap.objs.size (.tup [.ref b,kvs[i].2])) {s with heap:=s.heap.push {cls:=.type "tuple",data:=.seq #[es[i].key,es[i].val]}}:=
   I.laid (t':=s.toks) (λb o q=>aT _ q) (zZ _) ⟨by show 2<=sizeLine;decide,[es[i].key,es[i].val],.cons ek (.cons rv .nil),⟨_,g1,Z,_,Z,Z⟩⟩
  have m:∀c∈[it],FpOk X f (upd H s.heap.objs.size (.tup [.ref b,kvs[i].2])) c:=λc g=>by
   refine⟨?_,(n c g).2⟩;have e:c=it:=by simpa using g
   subst e;rw[aG (qE p)];exact(n c g).1
  have I2:Inv X f σ (upd H s.heap.objs.size (.tup [.ref b,kvs[i].2])) {s with heap:=h2}:=
   I1.turnedL (t':=s.toks) (λb o g q=>by
    have U:b≠it:=by simpa using g
    have q1:h1.get? b=some o:=by
     by_cases z:b=s.heap.objs.size
     ·subst z
      have O:(s.heap.push {cls:=.type "tuple",data:=.seq #[es[i].key,es[i].val]}).get? s.heap.objs.size=some o:=q;rw[g1]at O;cases O;exact a3
     ·exact a5 b o U (xF q z)
    exact(b2.2 b U).trans q1) m
  exact⟨.ref s.heap.objs.size,_,I2,Z,⟨_,_,b,Z,u,bV hi,M,Z⟩,⟨_,_,b1⟩,λb g=>(m b g).1⟩
 done:=by
  intro X C r J Y i f s σ H E I n st x;subst C r J;obtain⟨y,hi⟩:=x;obtain⟨en,sz,_,_,get⟩:=wH I.hok y hd;obtain⟨ok,j,st⟩:=st;obtain⟨f0,f1,f2,f3,f4,f5⟩:=n it (by simp);exact Su (I.ok.hd Y) st en (by omega) λh' M=>⟨Z,I.turned (t':=s.toks) (λb o g e=>M b o g e) f0 f1 f3 f4 f5⟩
 self:=λ_ _ _ _ _ st h=>by
  obtain⟨ok,j,st⟩:=st;exact PySem.W.kcp_self st h
def Nu(H0:Hp)(td:TE):TI:=λσ H R=>td σ H λx H1=>∃a,∃kvs:List (List aK×V),x=.ref a/\H1 a=some (.dT kvs)/\∀o,dU H0 a->R (gH a o kvs) (upd H1 a (.frz o (.dT kvs)))
def Hu {elts:List Expr} {x1} {U:Pos} {o:Expr} {J:TE} {g O:Pos} (ho:PE X o J) (l:attributeBase o "items" X.env (eval o X.env)=eval o X.env:=by rfl) (j:(g.endLine == O.line)=true:=by rfl) :
  PI X (.Tuple elts x1 U) (.Call (.Attribute o "items" g) [] [] O) (Nu X.H₀ J):=by
 intro f s σ H R I h;refine wpAny_Call_method0_late l j (aN (ho f s σ H _ I h) λv c ⟨x,C,r,Y,q1⟩=>?_);obtain⟨a,kvs,e,p,q⟩:=q1;subst e;obtain rfl:v=.ref a:=Y;obtain⟨M,t2,_⟩:=vT r (.inr ⟨kvs,.inl p⟩);obtain⟨es,ep,en,sz,_,hd,get⟩:=sN (show ObjOk X.prog X.w C c.heap a (.dT kvs) from r.hok a _ p);refine⟨"dict","dict.items",PySem.F.plainAttrs_dict,PySem.F.slot_dict_items,PySem.F.type_dict_items,M,t2,Calls.callWith_builtin Z (PySem.evalArgs_none ?_)⟩;refine call_meetsIn PySem.F.slot_dict_items M PySem.F.entry_dict_items (PySem.F.args_dict_items_1 _) (S8 a hd) ⟨⟨es,ep,en⟩,?_⟩;have n:Ent (c.heap.push {cls:=.type "dict_items",data:=.fields #[.ref a]}) a es ep:=en.kp λo e=>aT _ e;obtain⟨ob,u,hx,m⟩:=id n;refine Sr ⟨_,z9 _ Z,Z,Z⟩ n ?_;have I2:Inv X f σ C {c with heap:=c.heap.push {cls:=.type "dict_items",data:=.fields #[.ref a]}}:=r.kept (t':=c.toks) λb o e=>aT _ e;have y:=I2.freezeT p u;have hn:upd C a (.frz ob (.dT kvs)) (c.heap.push {cls:=.type "dict_items",data:=.fields #[.ref a]}).objs.size=none:=y.hok.fresh (zZ _);refine⟨(c.heap.push {cls:=.type "dict_items",data:=.fields #[.ref a]}).objs.size,[(c.heap.push {cls:=.type "dict_items",data:=.fields #[.ref a]}).objs.size],_,_,_,Z,y.kept (t':=c.toks) λb o e=>aT _ e,W1 (λz=>?_) m,⟨.none,.none,z9 _ Z⟩,λb hb=>?_,q ob (r.noFzT p)⟩
 ·rw[<- z,aC]at hn
  cases hn
 ·have e:b=(c.heap.push {cls:=.type "dict_items",data:=.fields #[.ref a]}).objs.size:=by simpa using hb
  subst e;exact y.fpOk (zZ _) hn
def Rq{e:Expr}{t:TE}(h:PE X e t):PE X e (λσ H Q=>t σ H λv c=>∃a o,∃kvs:List (List aK×V),c a=some (.frz o (.dT kvs))/\dU X.H₀ a/\Q v (upd c a (.dT kvs))):=by
 intro b s σ H Q I g;refine aN (h b s σ H _ I g) λu m ⟨v,c,l,r,a,o,kvs,j,f,q⟩=>?_;exact⟨v,_,l.thawT j f,r,q⟩
def Ng(H0:Hp)(N:St->Hp->Prop):St->Hp->Prop:=λσ H=>∃a o,∃kvs:List (List aK×V),H a=some (.frz o (.dT kvs))/\dU H0 a/\N σ (upd H a (.dT kvs))
def Fz{st:Stmt}{t:TS}(h:PS X st t):PS X st (λD σ H=>t {D with nx:=Ng X.H₀ D.nx} σ H):=by
 intro b s σ H D I l;refine aN (h b s σ H _ I l) λf n q=>?_
 cases f with
 |next=>
  obtain⟨c,p,m,a,o,kvs,e,j,g⟩:=q;exact⟨c,_,m.thawT e j,g⟩
 |cont=>exact q
 |brk=>exact q
 |ret v=>exact q
end
def Fs {J:It} {n:Nat} {Ok:Hp->Prop} {Yl:Nat->Hp->V->Hp->Prop} {j:fV} {g:TG} {u:TT} {w:TE} {σ:St} {I:Hp} {Q:VK} (a:Nat->List V->Hp->Prop) (r:∀i H,i<n->Ok H->J.go i H) (l:∀H,Ok H->J.stop n H) (M:∀i H x c,J.yld i H x c->Yl i H x c) (h0:a 0 [] I) (hn:n<sizeLine) (o:∀i ys H,i<=n->a i ys H->Ok H)
  (hs:∀i x ys H c,i<n->ys.length<=i->a i ys H->Yl i H x c->g x (bR j σ) c λh O=>mS (bR j σ) h/\u h O λb C=>if b=true then w h C (iF a n i ys) else iE a n i ys C)
  (hd:∀ys H,ys.length<=n->a n ys H->∀D,H D=none->Q (.ref D) (upd H D (.lst ys))):gW J j g u w σ I Q:=by
 refine⟨λi m ys H=>m=n-i/\i<=n/\ys.length<=i/\a i ys H,⟨n,by simp,qR _,zZ _,h0⟩,?_⟩;rintro i m ys H ⟨rfl,hi,z,p⟩;have q:=o i ys H hi p;by_cases f:i<n
 ·exact .inr ⟨r i H f q,by omega,λv c y=>hs i v ys H c f z p (M _ _ _ _ y)⟩
 ·have e:i=n:=by omega
  subst e;exact .inl ⟨l H q,hd ys H z p⟩
def Tq {a:Addr} {o:Obj} {kvs:List (List aK×V)} {j:fV} {g:TG} {m:TT} {n:TE} {σ:St} {u:Hp} {Q:VK} (c:Nat->List V->Hp->Prop) (h0:c 0 [] u) (hn:kvs.length<sizeLine) (l:∀i ys H,i<=kvs.length->c i ys H->H a=some (.frz o (.dT kvs)))
  (hs:∀i e b ys H,kvs[i]?=some e->i<kvs.length->ys.length<=i->H b=some (.tup (e.1.map kV))->c i ys H->g (.ref b) (bR j σ) H λf I=>mS (bR j σ) f/\m f I λb r=>if b=true then n f r (iF c kvs.length i ys) else iE c kvs.length i ys r)
  (hd:∀ys H,ys.length<=kvs.length->c kvs.length ys H->∀D,H D=none->Q (.ref D) (upd H D (.lst ys))):gW (mQ a o kvs) j g m n σ u Q:=
 Fs (Yl:=(mQ a o kvs).yld) c (λi H h q=>⟨q,h⟩) (λH q=>⟨q,zZ _⟩) (λ_ _ _ _ y=>y) h0 hn l (λi x ys H J hi w p y=>by
  obtain⟨rfl,e,b,z,rfl,C⟩:=y;exact hs i e b ys _ z hi w C p) hd
def Vp {a:Addr} {o:Obj} {kvs:List (List aK×V)} {j:fV} {g:TG} {m:TT} {n:TE} {σ:St} {u:Hp} {Q:VK} (c:Nat->List V->Hp->Prop) (h0:c 0 [] u) (hn:kvs.length<sizeLine) (l:∀i ys H,i<=kvs.length->c i ys H->H a=some (.frz o (.dT kvs)))
  (hs:∀i e b p ys H,kvs[i]?=some e->i<kvs.length->ys.length<=i->H b=some (.tup (e.1.map kV))->H p=none->c i ys H->g (.ref p) (bR j σ) (upd H p (.tup [.ref b,e.2])) λf M=>mS (bR j σ) f/\m f M λb r=>if b=true then n f r (iF c kvs.length i ys) else iE c kvs.length i ys r)
  (hd:∀ys H,ys.length<=kvs.length->c kvs.length ys H->∀D,H D=none->Q (.ref D) (upd H D (.lst ys))):gW (gH a o kvs) j g m n σ u Q:=
 Fs (Yl:=(gH a o kvs).yld) c (λi H h q=>⟨q,h⟩) (λH q=>⟨q,zZ _⟩) (λ_ _ _ _ y=>y) h0 hn l (λi x ys H O hi C p y=>by
  obtain⟨w,e,b,rfl,z,I,J,rfl⟩:=y;exact hs i e b w ys _ I hi C J z p) hd
def U1 {a:Addr} {o:Obj} {kvs:List (List aK×V)} {g:TG} {u:TS} {D:Ends} {σ:St} {H:Hp} (c:Nat->St->Hp->Prop) (h0:c 0 σ H) (J:∀i σ H,i<=kvs.length->c i σ H->H a=some (.frz o (.dT kvs)))
  (hs:∀i h b p σ H,kvs[i]?=some h->H b=some (.tup (h.1.map kV))->H p=none->c i σ H->g (.ref p) σ (upd H p (.tup [.ref b,h.2])) λl r=>u {D with nx:=c (i+1),ct:=c (i+1),bk:=D.nx} l r) (hd:∀σ H,c kvs.length σ H->D.nx σ H) :
  ∃W:Nat->Nat->St->Hp->Prop,(∃m,W 0 m σ H)/\∀i m σ H,W i m σ H->
   ((gH a o kvs).stop i H/\D.nx σ H)\/((gH a o kvs).go i H/\∃N:St->Hp->Prop,(∀n f,N n f->∃w,w<m/\W (i+1) w n f)/\∀x f,(gH a o kvs).yld i H x f->g x σ f λl r=>u {D with nx:=N,ct:=N,bk:=D.nx} l r):=by
 refine⟨λi m σ H=>m=kvs.length-i/\i<=kvs.length/\c i σ H,⟨kvs.length,by simp,qR _,h0⟩,?_⟩;rintro i m σ H ⟨rfl,hi,p⟩;have q:=J i σ H hi p;by_cases j:i<kvs.length
 ·refine .inr ⟨⟨q,j⟩,c (i+1),λn f C=>⟨kvs.length-(i+1),by omega,Z,j,C⟩,λx f y=>?_⟩
  obtain⟨z,h,b,rfl,I,M,O,rfl⟩:=y;exact hs i h b z σ _ M O I p
 ·have e:i=kvs.length:=by omega
  subst e;exact .inl ⟨⟨q,zZ _⟩,hd σ H p⟩
section
variable {prog:Program}{w:World}{A:Around}{E:Value->Shared->Prop}{s:Shared}
abbrev TK(prog:Program)(w:World):HeapKind prog w (List aK):=tupleKind (eX prog w)
abbrev TX:=List aK×Addr×Value
def qX(prog:Program)(w:World)(h:Heap):List Value->List TX->Prop
 |[],[]=>True
 |it::its,p::ps=>(∃a,it=.ref a/\h.IsTuple a #[.ref p.2.1,p.2.2]/\(TK prog w).is h p.1 p.2.1)/\qX prog w h its ps
 |_,_=>False
def TupKp(h h':Heap):Prop:=∀b o,h.get? b=some o->o.cls=.type "tuple"->h'.get? b=some o
def TupKp.tup{h h':Heap}(k:TupKp h h'){a:Addr}{xs:Array Value}(t:h.IsTuple a xs):h'.IsTuple a xs:=let ⟨o,e,c,r⟩:=t;⟨o,k _ _ e c,c,r⟩
theorem TupKp.is{h h':Heap}(k:TupKp h h'){ks:List aK}{a:Addr}(t:(TK prog w).is h ks a):(TK prog w).is h' ks a:=by
 obtain⟨o,xs,n,e,c,r⟩:=t;exact⟨o,xs,n,k _ _ e c,c,r⟩
theorem TupKp.pairs{h h':Heap}(k:TupKp h h'):∀{its:List Value} {ps:List TX},qX prog w h its ps->qX prog w h' its ps
 |[],[],_=>trivial
 |it::its,p::ps,⟨⟨a,e,c,b⟩,r⟩=>⟨⟨a,e,k.tup c,k.is b⟩,TupKp.pairs k r⟩
 |[],_::_,h=>h.elim
 |_::_,[],h=>h.elim
def TupKp.dict{h h':Heap}(k:TupKp h h'){d:Addr}{xs:List TX}(x:h.DictOfH (TK prog w) d xs)(e:∀o,h.get? d=some o->h'.get? d=some o):h'.DictOfH (TK prog w) d xs:=by
 obtain⟨o,es,ep,b,c,f,g,q,n⟩:=x;exact⟨o,es,ep,e _ b,c,f,g,λy a=>k.is (q y a),n⟩
def wX{h h':Heap}{d:Addr}{T:String}(x:∃o,h.get? d=some o/\o.cls=.type T)(g:T≠"tuple")(k:∀b o,b≠d->h.get? b=some o->h'.get? b=some o):TupKp h h':=λb o e c=>k b o (λz=>by
 subst z;obtain⟨j,a,f⟩:=x;rw[e]at a;cases a;rw[c]at f;exact g (Value.type.inj f).symm) e
def xZ(cur ps:List TX):List TX:=ps.foldl (λc p=>storedH c p.1 p.2.1 p.2.2) cur
def Vz(xs:List TX)(k:List aK)(a:Addr)(v:Value):(storedH xs k a v).length<=xs.length+1:=by
 unfold storedH;split <;> simp
def Uk {R:Result->Shared->Prop} {I l d:Addr} {its:List Value} {ps:List TX} (hh:A.in1.handled=none) (hu:A.units+1<cLine) (a1:l≠I) (aa:l≠d) (M:I≠d) :
  ∀(k i:Nat) (s:Shared) (g:List TX),its.length-i=k->i<=its.length->s.heap.IsListIter I l i->s.heap.IsList l its.toArray->s.heap.DictOfH (TK prog w) d g->qX prog w s.heap (its.drop i) (ps.drop i)->g.length+(its.length-i)<=sizeLine->
  (∀h' tk,h'.DictOfH (TK prog w) d (xZ g (ps.drop i))->(∀b o,b≠d->b≠I->s.heap.get? b=some o->h'.get? b=some o)->R (.ok (.ret .none)) {s with heap:=h',toks:=tk})->
  codeAny (model prog w) A (.builtin "dict.update.loop" ⟨[.ref d,.ref I,rawInt i,.none],[]⟩) R s:=by
 intro k
 induction k with
 | zero=>
  intro i s g hk hi h hl hd m hsz hR;have J:i=its.length:=by omega
  have W:=Walks.list (prog:=prog) (w:=w) (A:=A.in1) hh I l a1 its.toArray;refine codeAny_builtin Jv ?_;rw[Around.under_plainId xH _];show wpAny _ A.in1 (pyNext (.ref I) >>= _) _ _ s;have e0:its.toArray.size=i:=by simp[J]
  have st:s.heap.IsListIter I l its.toArray.size/\s.heap.IsList l its.toArray:=by rw[e0];exact⟨h,hl⟩
  refine zX (W.done s _ _ st λh' tk f=>?_);show wpAny _ _ (Builtin.Dict.addKeywords d [] >>= _) _ _ _;refine zX (z7 (z7 ?_))
  have a8:ps.drop i=[]:=by
   rw[J,List.drop_length]at m;rw[J]
   cases hq:ps.drop its.length with
   |nil=>rfl
   |cons p r=>rw[hq]at m;exact m.elim
  have kp:TupKp s.heap h':=wX (d:=I) (T:="list_iterator") (let ⟨o,e,c,_⟩:=h;⟨o,e,c⟩) (by decide) λb o x e=>f b o (by simpa using x) e;refine hR h' tk ?_ λb o x u e=>f b o (by simpa using u) e;rw[a8];exact kp.dict hd λo e=>f d o (by simpa using (Ne.symm M)) e
 | succ k ih=>
  intro i s g hk hi h hl hd m hsz hR;have n:i<its.length:=by omega
  have W:=Walks.list (prog:=prog) (w:=w) (A:=A.in1) hh I l a1 its.toArray;have ab:its.drop i=its[i]::its.drop (i+1):=List.drop_eq_getElem_cons n;rw[ab]at m
  obtain⟨p,r,C⟩:∃p r,ps.drop i=p::r:=by
   cases hq:ps.drop i with
   |nil=>rw[hq]at m;exact m.elim
   |cons p r=>exact⟨p,r,Z⟩
  have Y:ps.drop (i+1)=r:=by rw[<- List.tail_drop,C];rfl
  rw[C]at m;obtain⟨⟨a,ea,a7,a2⟩,z⟩:=m;refine codeAny_builtin Jv ?_;rw[Around.under_plainId xH _];show wpAny _ A.in1 (pyNext (.ref I) >>= _) _ _ s;refine zX (W.item i s _ _ (by simpa using n) ⟨h,hl⟩ λv h' tk hP y f=>?_)
  have hv:v=.ref a:=by
   have:its[i]?=some v:=by simpa using hP
   rw[bV n,ea]at this;exact(qB this).symm
  subst hv;have kp:TupKp s.heap h':=wX (d:=I) (T:="list_iterator") (let ⟨o,e,c,_⟩:=h;⟨o,e,c⟩) (by decide) λb o x e=>f b o (by simpa using x) e;have U:=kp.tup a7;have a4:h'.DictOfH (TK prog w) d g:=kp.dict hd λo e=>f d o (by simpa using (Ne.symm M)) e;obtain⟨oa,a0,af,na,ac⟩:=id U;refine zX (qO (zX (wpAny_tryCatch ?_)));unfold Builtin.Dict.pairItems;refine zX (qW ⟨oa,a0,af⟩ ?_);rw[if_pos (by decide)];refine zX (wpAny_seqItems a0 ac (z7 ?_));show wpAny _ _ (holding [Value.ref p.2.1,p.2.2] (dictSet d (.ref p.2.1) p.2.2)) _ _ _;refine qO (wpAny_dictSet_heap (knd:=TK prog w) hu (kp.is a2) a4 (λh2 ae j=>?_) (by omega));have O:h2.IsListIter I l (i+1)/\h2.IsList l its.toArray:=⟨y.1.at λo e=>(j.2 I M).trans e,y.2.at λo e=>(j.2 l aa).trans e⟩;have a6:TupKp h' h2:=wX (d:=d) (T:="dict") (let ⟨o,_,_,e,c,_⟩:=a4;⟨o,e,c.1⟩) (by decide) λb o x e=>(j.2 b x).trans e;refine z7 ⟨plainId_quiet xH _,ih (i+1) _ _ (by omega) n O.1 O.2 ae ?_ ?_ λh3 a5 a3 a9=>?_⟩
  ·rw[Y]
   exact a6.pairs (kp.pairs z)
  ·have:=Vz g p.1 p.2.1 p.2.2
   omega
  ·refine hR h3 a5 ?_ λb o x u e=>a9 b o x u ((j.2 b x).trans (f b o (by simpa using u) e))
   rw[C];rw[Y]at a3;exact a3
def Wr {l:Addr} {its:List Value} {n:Nat} {ps:List TX} {Q:Value->Shared->Prop} (hh:A.handled=none) (hu:A.units+3<cLine) (hl:s.heap.get? l=some {cls:=.type "list",data:=.seq its.toArray n}) (hp:qX prog w s.heap its ps) (hsz:its.length<=sizeLine)
  (h:∀h' tk,h'.DictOfH (TK prog w) s.heap.objs.size (xZ [] ps)->(∀b o,s.heap.get? b=some o->h'.get? b=some o)->Q (.ref s.heap.objs.size) {s with heap:=h',toks:=tk}) :
  wpAny (model prog w) A (call (.type "dict") [.ref l]) Q E s:=by
 refine callType_codes (Q₁:=λobj s₁=>obj=.ref s.heap.objs.size/\s₁={s with heap:=s.heap.push {cls:=.type "dict",data:=.dict #[]}}) F.kt_called_dict (F.kt_typeCall_dict_1 _) F.entry_dict_init (kt_code_dict_new _ ⟨rfl,rfl⟩) ?_;rintro obj s₁ ⟨rfl,rfl⟩;have hnew:(s.heap.push {cls:=.type "dict",data:=.dict #[]}).DictOfH (TK prog w) s.heap.objs.size []:=Heap.DictOfH.new s.heap;have ext0:∀b o,s.heap.get? b=some o->(s.heap.push {cls:=.type "dict",data:=.dict #[]}).get? b=some o:=λb o e=>aT _ e;have hl0:=ext0 _ _ hl;have hT:(⟨s.heap.push {cls:=.type "dict",data:=.dict #[]},s.gens,s.drawn,s.toks,s.os⟩:Shared).TypeIs (.ref l) "list":=⟨_,hl0,rfl⟩;have hdl:l≠s.heap.objs.size:=λe=>absurd (z8 hl) (by rw[e];exact qJ _);refine⟨hnew.typeIs,F.args_dict_init_2 _ _,?_⟩;unfold Builtin.«dict.__init__»;refine zX ?_;unfold Builtin.Dict.selfAndRest;refine zX (wpAny_notOrdered_dict hnew.typeIs ?_);show wpAny _ _ (pure (s.heap.objs.size,[Value.ref l])) _ _ _;refine z7 ?_;show wpAny _ _ (Builtin.Dict.updateFrom "dict.__init__" s.heap.objs.size (.ref l) [] .none) _ _ _;unfold Builtin.Dict.updateFrom;refine zX (qW hT ?_);rw[if_pos (by decide)];refine zX (X5 (sl:=#[]) hl0 Wb (by walk_at"k") hh (λh1 tk1 k1=>?_) (by walk_at"k"));rw[if_pos (show(none:Option Value).isNone=true from rfl)];refine zX (wpAny_rule ?_);have hl1:=k1 _ _ hl0;have hL1:h1.IsList l its.toArray:=⟨_,hl1,rfl,_,rfl⟩
 refine zX (wpAny_pyIter_list hL1 (z7 ⟨plainId_quiet xH _,?_⟩));have hsz1:s.heap.objs.size<h1.objs.size:=z8 (k1 _ _ (z9 _ rfl));have hlI:l<h1.objs.size:=z8 hl1;have eF:∀b o,h1.get? b=some o->(h1.push {cls:=.type "list_iterator",data:=.fields #[.ref l,.int 0 0]}).get? b=some o:=λb o e=>aT _ e;have kp:TupKp s.heap (h1.push {cls:=.type "list_iterator",data:=.fields #[.ref l,.int 0 0]}):=λb o e _=>eF _ _ (k1 _ _ (ext0 _ _ e));refine Uk (A:=A.in1) (ps:=ps) (l:=l) (d:=s.heap.objs.size) (its:=its) hh (by show A.units+1+1<cLine;omega) (qE hlI) hdl (Nat.ne_of_gt hsz1) its.length 0 _ [] (Nat.sub_zero _) (qR _) ⟨_,z9 _ rfl,rfl,rfl⟩ (hL1.push _) ?_ (kp.pairs hp) (by simpa using hsz) λh3 tk3 hd3 hk3=>?_
 ·obtain⟨o,es,ep,e1,c,f,g,q,n⟩:=hnew
  exact⟨o,es,ep,eF _ _ (k1 _ _ e1),c,f,g,(λ_ hy=>nomatch hy),n⟩
 refine⟨rfl,h h3 tk3 hd3 λb o e=>hk3 b o ?_ ?_ (eF _ _ (k1 _ _ (ext0 _ _ e)))⟩
 ·exact λz=>absurd (z8 e) (by rw[z];exact qJ _)
 ·exact λz=>absurd (z8 e) (by rw[z];exact Nat.not_lt_of_gt hsz1)
end
def PairsVT(H:Hp):List V->List (List aK×V)->Prop
 |[],[]=>True
 |y::ys,kv::kvs=>(∃p b,y=.ref p/\H p=some (.tup [.ref b,kv.2])/\H b=some (.tup (kv.1.map kV)))/\PairsVT H ys kvs
 |_,_=>False
theorem PairsVT.same{H a:Hp}(s:∀b us,H b=some (.tup us)->a b=some (.tup us)):∀{ys:List V} {kvs:List (List aK×V)},PairsVT H ys kvs->PairsVT a ys kvs
 |[],[],_=>trivial
 |y::ys,g::kvs,⟨⟨p,b,e,c,f⟩,r⟩=>⟨⟨p,b,e,s _ _ c,s _ _ f⟩,PairsVT.same s r⟩
 |[],_::_,h=>h.elim
 |_::_,[],h=>h.elim
theorem PairsVT.append{H:Hp}:∀{ys zs:List V} {kvs more:List (List aK×V)},PairsVT H ys kvs->PairsVT H zs more->PairsVT H (ys++zs) (kvs++more)
 |[],zs,[],more,_,k=>k
 |y::ys,zs,a::kvs,more,⟨h,r⟩,k=>⟨h,PairsVT.append r k⟩
 |[],_,_::_,_,h,_=>h.elim
 |_::_,_,[],_,h,_=>h.elim
theorem PairsVT.length{H:Hp}:∀{ys:List V} {kvs:List (List aK×V)},PairsVT H ys kvs->ys.length=kvs.length
 |[],[],_=>Z
 |y::ys,a::kvs,⟨_,r⟩=>by rw[List.length_cons,List.length_cons,PairsVT.length r]
 |[],_::_,h=>h.elim
 |_::_,[],h=>h.elim
section
variable {X:Cx}
theorem Hq{a:List (Addr×Obj)}{σ:St}{H:Hp}{s:Shared}(I:Inv X a σ H s):∀{ys:List V} {its:List Value} {kvs:List (List aK×V)},Vals ys its->PairsVT H ys kvs->∃ps,KT H kvs ps/\qX X.prog X.w s.heap its ps
 |[],_,[],r,_=>by cases r;exact⟨[],.nil,trivial⟩
 | y::ys,_,n::kvs,r,⟨⟨p,b,ep,o,f⟩,rest⟩=>by
  subst ep
  cases r with
  |cons h t=>
   obtain⟨ps,u,c⟩:=Hq I t rest;obtain⟨e,l,m,_⟩:=I.tuple (zB (K:=X.K) o);obtain⟨j,g,rfl,z,x⟩:=l.two;obtain rfl:j=.ref b:=z;exact⟨(n.1,b,g)::ps,.cons ⟨Z,f,x⟩ u,⟨p,h,m,sA I.hok f⟩,c⟩
 |[],_,_::_,_,h=>h.elim
 |_::_,_,[],_,h=>h.elim
theorem Gn{H:Hp}:∀{kvs:List (List aK×V)} {ps:List TX} {acc:List (List aK×V)} {xs:List TX},KT H kvs ps->KT H acc xs->((acc++kvs).map (·.1)).Nodup->KT H (acc++kvs) (xZ xs ps)
 |_,_,acc,xs,.nil,r,_=>by rw[List.append_nil];exact r
 | _,_,acc,xs,.cons (a:=c) (b:=q) h t,r,nd=>by
  have hn:(acc.any λp=>decide (p.1=c.1))=false:=by
   rw[List.any_eq_false];intro p g e;rw[dG,List.nodup_append]at nd;exact nd.2.2 p.1 (qH g) c.1 (by simp) (z6 e)
  have e:bX acc c.1 c.2=acc++[c]:=by
   unfold bX;rw[if_neg (by rw[hn];decide)]
  have f:=r.put c.1 (b:=q.2.1) (y:=c.2) (u:=q.2.2) h.2.1 h.2.2;rw[e,h.1]at f;have:=Gn t f (by rw[List.append_assoc];exact nd);rw[List.append_assoc]at this;exact this
def Vn(hc:X.calm=true)(hu:X.A.units+200<cLine):CallR X (.type "dict") (λxs H Q=>∃a ys,∃kvs:List (List aK×V),xs=[.ref a]/\H a=some (.lst ys)/\PairsVT H ys kvs/\(kvs.map (·.1)).Nodup/\∀p,H p=none->Q (.ref p) (upd H p (.dT kvs))):=by
 intro pins s σ H xs us Q I r h;obtain⟨a,ys,kvs,rfl,ha,hp,nd,q⟩:=h;obtain⟨u,rfl,ru⟩:=lG r;obtain rfl:u=.ref a:=ru;obtain⟨hz,its,n,rv,hl⟩:=(show ObjOk X.prog X.w H s.heap a (.lst ys) from I.hok a _ ha);obtain⟨ps,hk,hpa⟩:=Hq I rv hp;have hyl:=hp.length;refine Wr (I.ok.hd hc) (by omega) hl hpa (by rw[<- rv.length];exact hz) λh' tk dd' k'=>?_;have hm:=Gn (acc:=[]) (xs:=[]) hk .nil nd;obtain⟨o,es,ep,e1,c,f,g,_,n'⟩:=dd';have hf:H s.heap.objs.size=none:=I.hok.fresh (zZ _)
 exact⟨.ref s.heap.objs.size,_,I.laid (a:=s.heap.objs.size) (o:=.dT kvs) (t':=tk) k' (zZ _) ⟨by omega,beq_eq_false_iff_ne.mpr (Ne.symm (qE I.big)),_,hm.keeps λb ys e=>by
  rw[aG λz=>by rw[z,hf]at e;cases e];exact e,o,es,ep,e1,c,f,g,n'⟩,rfl,q _ hf⟩
def Sq {prog:Program} {w:World} (d:Addr) :
  MeetsIn prog w (Builtin.«dict.clear» ⟨[.ref d],[]⟩) (λ_ R s=>∃es ep,Ent s.heap d es ep/\es.size<=sizeLine/\∀h' a,h'.get? d=some a->a.ExactDict->a.data=.dict #[] (ep+1)->Heap.SameBut d s.heap h'->R (.ok (.ret .none)) {s with heap:=h'}):=
 .of_wp λA R s ⟨es,ep,x,hz,h⟩=>by
  obtain⟨o,e,c,f⟩:=id x;unfold Builtin.«dict.clear»;refine zX ?_;unfold Builtin.Dict.noArgs;refine zX (wpAny_notOrdered_dict x.typ ?_);show wpAny _ _ (pure d) _ _ s;refine z7 (zX (wpAny_dictEntries e f (zX ?_)));unfold bearsInstanceDictMark;refine zX (wpAny_load e (z7 (zX (wpAny_updateDictKeys (hz:=hz) e f ?_))));have q:=h _ _ (Heap.get?_update_self (Obj.mapDictKeys λ_=>#[]) e (Obj.isFreed_of_dict (Obj.data_mapDictKeys f _))) (c.mapDictKeys _) (Obj.data_mapDictKeys f _) (Heap.SameBut.update ..);split
  ·exact zX (wpAny_letGo (z7 ⟨.none,Z,q⟩))
  ·exact zX (z7 (z7 ⟨.none,Z,q⟩))
def Rf(td:TE):TE:=λσ H Q=>td σ H λx H1=>∃a,∃kvs:List (List aK×V),x=.ref a/\H1 a=some (.dT kvs)/\Q .non (upd H1 a (.dT []))
def V1{o:Expr}{j:TE}{c b:Pos}(u:PE X o j)(C:attributeBase o "clear" X.env (eval o X.env)=eval o X.env:=by rfl)(y:(c.endLine == b.line)=true:=by rfl):PE X (.Call (.Attribute o "clear" c) [] [] b) (Rf j):=by
 intro e s σ H Q I h;refine wpAny_Call_method0_late C y (aN (u e s σ H _ I h) λv n ⟨x,O,g,p,a,kvs,ex,f,q⟩=>?_);subst ex;obtain rfl:v=.ref a:=p;obtain⟨l,t2,_⟩:=vT g (.inr ⟨kvs,.inl f⟩);obtain⟨es,ep,en,sz,z,hd,get⟩:=sN (show ObjOk X.prog X.w O n.heap a (.dT kvs) from g.hok a _ f);refine⟨"dict","dict.clear",PySem.F.plainAttrs_dict,PySem.F.slot_dict_clear,PySem.F.type_dict_clear,l,t2,Calls.callWith_builtin Z (PySem.evalArgs_none ?_)⟩;refine call_meetsIn PySem.F.slot_dict_clear l PySem.F.entry_dict_clear (PySem.F.args_dict_clear_1 _) (Sq a) ⟨es,ep,en,by omega,λh' r m M J hs=>?_⟩;exact⟨.non,_,wF (ob:=.dT []) g (by rw[f];exact True.intro) hs ⟨_,m⟩ ⟨qR _,hd,[],.nil,r,#[],ep+1,m,M,J,Z,List.nodup_nil⟩,Z,q⟩
end
end L2
end
section
namespace M
open PySem L2 PyProof.Rows PySem.Spec
def leS(a b:Str):Prop:=a.cps.toList<=b.cps.toList
def Hm{a b c:Str}(h:leS a b)(k:leS b c):leS a c:=List.le_trans h k
def leS_anti{a b:Str}(h:leS a b)(k:leS b a):a=b:=by
 have e:a.cps.toList=b.cps.toList:=List.le_antisymm h k;obtain⟨a⟩:=a;obtain⟨b⟩:=b;exact congrArg Str.mk (Array.ext' e)
def N5{a b:Str}(h:(!ltCps b.cps.toList a.cps.toList)=true):leS a b:=by
 rw[ltCps_eq]at h;unfold leS;exact List.not_lt.mp (by simpa using h)
theorem Jf:∀(p:Str) (l:List Str),risingS p l=true->(p::l).Pairwise leS
 |p,[],_=>by simp
 |p,x::r,h=>by
  unfold risingS at h;rw[Bool.and_eq_true]at h;have c:=N5 h.1;have b:=Jf x r h.2;refine List.pairwise_cons.mpr ⟨λy a=>?_,b⟩;rcases cE a with rfl |a
  ·exact c
  ·exact Hm c ((List.pairwise_cons.mp b).1 y a)
def sorted_pair{l:List Str}(h:sortedS l=true):l.Pairwise leS:=by
 cases l with
 |nil=>exact List.Pairwise.nil
 |cons x r=>exact Jf x r h
end M
end
section
namespace L2
open PySem PySem.W PySem.Spec PyProof.Rows
abbrev PP:=Str×Str
def gE(p q:PP):Bool:=if p.1=q.1 then (if p.2=q.2 then false else decide (p.2.cps.toList<q.2.cps.toList)) else decide (p.1.cps.toList<q.1.cps.toList)
def eY(p q:PP):Prop:=gE q p=false
def Fl{a b:Str}(e:a.cps.toList=b.cps.toList):a=b:=by
 obtain⟨a⟩:=a;obtain⟨b⟩:=b;exact congrArg Str.mk (Array.ext' e)
theorem yP{p q:PP}:eY p q ↔ p.1.cps.toList<q.1.cps.toList\/(p.1=q.1/\p.2.cps.toList<=q.2.cps.toList):=by
 unfold eY gE;by_cases a:q.1=p.1
 ·rw[if_pos a]
  by_cases b:q.2=p.2
  ·rw[if_pos b]
   exact⟨λ_=>.inr ⟨a.symm,by rw[b];exact List.le_refl _⟩,λ_=>Z⟩
  ·rw[if_neg b,decide_eq_false_iff_not]
   refine⟨λh=>.inr ⟨a.symm,List.not_lt.mp h⟩,λh=>?_⟩;rcases h with h |h
   ·rw[a]at h
    exact absurd h (List.lt_irrefl _)
   ·exact List.not_lt.mpr h.2
 ·rw[if_neg a,decide_eq_false_iff_not]
  refine⟨λh=>.inl ?_,λh=>?_⟩
  ·by_cases z:p.1.cps.toList<q.1.cps.toList
   ·exact z
   ·exact absurd (Fl (List.le_antisymm (List.not_lt.mp z) (List.not_lt.mp h))) a
  ·rcases h with h |h
   ·exact List.not_lt.mpr (List.le_of_lt h)
   ·exact absurd h.1.symm a
def Du{p q r:PP}(h:eY p q)(k:eY q r):eY p r:=by
 rw[yP]at h k⊢;rcases h with h |⟨h,h'⟩
 ·rcases k with k |⟨k,k'⟩
  ·exact .inl (List.lt_trans h k)
  ·rw[<- k]
   exact .inl h
 ·rw[h]
  rcases k with k |⟨k,k'⟩
  ·exact .inl k
  ·exact .inr ⟨k,List.le_trans h' k'⟩
def Dt{p q:PP}(h:eY p q)(k:eY q p):p=q:=by
 rw[yP]at h k;rcases h with h |⟨h,h'⟩
 ·rcases k with k |⟨k,k'⟩
  ·exact absurd (List.lt_trans h k) (List.lt_irrefl _)
  ·rw[k]at h
   exact absurd h (List.lt_irrefl _)
 ·rcases k with k |⟨k,k'⟩
  ·rw[h]at k
   exact absurd k (List.lt_irrefl _)
  ·exact Prod.ext h (Fl (List.le_antisymm h' k'))
def Dw{p q:PP}(h:gE p q=true):gE q p=false:=by
 show eY p q;rw[yP];unfold gE at h;by_cases a:p.1=q.1
 ·rw[if_pos a]at h
  by_cases b:p.2=q.2
  ·rw[if_pos b]at h
   cases h
  ·rw[if_neg b]at h
   exact .inr ⟨a,List.le_of_lt (z6 h)⟩
 ·rw[if_neg a]at h
  exact .inl (z6 h)
def Mn{ps:List PP}(nd:ps.Nodup):Ks.Ord ps.length λi j=>gE (ps.getD i default) (ps.getD j default) where
 tr:=λi j k b a=>Du b a
 as:=λi j h=>Dw h
 an:=λi j hi c b a=>by
  have e:=Dt a b;rw[List.getD_eq_getElem?_getD,List.getD_eq_getElem?_getD,bV hi,bV c]at e;exact(List.getElem?_inj hi nd).mp (by rw[bV hi,bV c];exact congrArg some e)
def vH(h:Heap)(v:Value)(p:PP):Prop:=∃a o ta tb m,v=.ref a/\h.get? a=some o/\o.cls=.type "tuple"/\o.data=.seq #[.str p.1 ta,.str p.2 tb] m
def TupsAt(h:Heap)(vs:List Value)(ps:List PP):Prop:=vs.length=ps.length/\∀(i:Nat) v p,vs[i]?=some v->ps[i]?=some p->vH h v p
section
variable {prog:Program}{w:World}{A:Around}{E:Value->Shared->Prop}{s:Shared}
def Nh{v u:Value}{p q:PP}{Q:Bool->Shared->Prop}(g:vH s.heap v p)(j:vH s.heap u q)(h:Q (gE p q) s):wpAny (model prog w) A (keyLt' (tuples' true) v u) Q E s:=by
 obtain⟨a,o,f,e,m,rfl,n,M,z⟩:=g;obtain⟨O,C,c,b,I,rfl,l,J,r⟩:=j;refine kat_lt n z l r ?_;show KatLex prog w A true false Q [(.str p.1 f,.str q.1 c),(.str p.2 e,.str q.2 b)] 0 s;refine kat_cons (wpAny_eqBool_str (kat_go (λx=>kat_yes ?_) λx=>kat_no ?_))
 ·have x:=z6 x
  unfold gE at h;rw[if_pos x]at h;refine kat_cons (wpAny_eqBool_str (kat_go (λy=>kat_yes (kat_nil ?_)) λy=>kat_no ?_))
  ·rw[if_pos (z6 y)]at h
   exact h
  ·rw[if_neg (of_decide_eq_false y)]at h
   refine kat_one _ _ (PyProof.Rows.lt_str ?_);exact h
 ·unfold gE at h
  rw[if_neg (of_decide_eq_false x)]at h;exact oneLt_str h
theorem tJ{h:Heap}:∀{vs:List Value} {ps:List PP},TupsAt h vs ps->∃fs,KatTups h vs fs/\fs.length=vs.length/\∀v∈fs,∃x t,v=.str x t
 |[],_,_=>⟨[],.nil,Z,λ_ h=>nomatch h⟩
 |v::vs,[],t=>by have:=t.1;cases this
 |v::vs,p::ps,t=>by
  obtain⟨fs,k,l,q⟩:=tJ (vs:=vs) (ps:=ps) ⟨Nat.succ.inj t.1,λi v p f e=>t.2 (i+1) v p f e⟩;obtain⟨a,o,c,r,m,rfl,g,n,j⟩:=t.2 0 v p Z Z;refine⟨.str p.1 c::fs,.cons g n j Z k,by simp[l],λv b=>?_⟩;rcases cE b with rfl |b
  ·exact⟨_,_,Z⟩
  ·exact q v b
theorem TupsAt.kp{h h':Heap}{vs:List Value}{ps:List PP}(t:TupsAt h vs ps)(k:TupKp h h'):TupsAt h' vs ps:=⟨t.1,λi v p g f=>by
 obtain⟨a,o,e,c,m,rfl,j,b,l⟩:=t.2 i v p g f;exact⟨a,o,e,c,m,Z,k _ _ j b,b,l⟩⟩
theorem Hx{α:Type}(d:α)(l:List α):(List.range l.length).map (λi=>l.getD i d)=l:=by
 refine List.ext_getElem (by simp) λi b a=>?_;simp[a]
def Rc {a:Addr} {vs:List Value} {ps:List PP} {n:Nat} {P:Fin->Shared->Prop} (ho:s.heap.get? a=some (seqObj "list" vs.toArray n)) (hv:TupsAt s.heap vs ps) (nd:ps.Nodup) (h64:vs.length<64)
  (h:∀(out:List Value) (ms:List PP),out.length=ms.length->(out.zip ms).Perm (vs.zip ps)->ms.Pairwise eY->P (.done (.ret .none)) {s with heap:=sortedHeap s.heap a vs out.toArray}) :
  wpAny (model prog w) A (Builtin.«list.sort» ⟨[.ref a],[]⟩) P E s:=by
 rw[list_sort_plain];have ha:a<s.heap.objs.size:=z8 ho;have z64:(64:Nat)<=sizeLine:=by decide
 refine zX (listItems_at ho rfl (zX (listUpdate_at ho rfl ?_)));obtain⟨e1,ho1⟩:∃e1,(s.heap.update a (Obj.mapSeq λ_=>#[])).get? a=some (seqObj "list" #[] e1):=⟨_,get?_update_seq ho (λ_=>#[])⟩;refine zX (seqEpoch_at ho1 rfl (zX (wpAny_newTuple (zX (wpAny_newList (qO ?_))))));obtain⟨h6,eh⟩:∃h6,((s.heap.update a (Obj.mapSeq λ_=>#[])).push (seqObj "tuple" vs.toArray 0)).push (seqObj "list" #[] 0)=h6:=⟨_,rfl⟩
 have ho6:h6.get? a=some (seqObj "list" #[] e1):=by
  rw[<- eh,Heap.get?_push_ne _ _ _ (by rw[size_push',Heap.size_update];exact qE (Nat.lt_succ_of_lt ha)),Heap.get?_push_ne _ _ _ (by rw[Heap.size_update];exact qE ha)];exact ho1
 have kp:TupKp s.heap h6:=wX (d:=a) (T:="list") ⟨_,ho,rfl⟩ (by decide) λb o hb e=>by
  have hlt:=z8 e;rw[<- eh,Heap.get?_push_ne _ _ _ (by rw[size_push',Heap.size_update];exact qE (Nat.lt_succ_of_lt hlt)),Heap.get?_push_ne _ _ _ (by rw[Heap.size_update];exact qE hlt),Heap.get?_update_ne _ _ _ _ hb];exact e
 have t6:=hv.kp kp
 have fin:∀(out:List Value) (ms:List PP),out.length=ms.length->(out.zip ms).Perm (vs.zip ps)->ms.Pairwise eY->P (.done (.ret .none)) {s with heap:=h6.update a (Obj.mapSeq λ_=>out.toArray)}:=λout ms x1 x2 x3=>by
  have:=h out ms x1 x2 x3;unfold sortedHeap at this;rw[eh]at this;exact this
 show wpAny (model prog w) A _ P E {s with heap:=((s.heap.update a (Obj.mapSeq λ_=>#[])).push (seqObj "tuple" vs.toArray 0)).push (seqObj "list" #[] 0)};rw[eh];dsimp only;by_cases h2:vs.toArray.size<2
 ·rw[if_pos h2,if_pos h2]
  refine zX (z7 ?_);rw[StateT.run_pure];refine zX (z7 ?_);dsimp only
  have ev:((vs.toArray.zip vs.toArray).map (·.2))=vs.toArray:=by
   apply Array.toList_inj.mp;rw[Array.toList_map,Array.toList_zip];show(vs.zip vs).map Prod.snd=vs;exact List.map_snd_zip (zZ _)
  refine zX (seqEpoch_at ho6 rfl (zX (listUpdate_at ho6 rfl ?_ (hsz2:=?_))))
  ·simp only[bne_self_eq_false,Bool.false_eq_true,if_false]
   refine z7 ?_;rw[show(arrOf (SortSt.mk' general' (vs.toArray.zip vs.toArray) #[] 7 none)).map (·.2)=vs.toArray from ev];refine fin vs ps hv.1 (.refl _) ?_;have:ps.length<2:=by have:=hv.1;simp only[List.size_toArray]at h2;omega
   match ps,this with
   |[],_=>exact .nil
   |[x],_=>simp
  ·rw[show(arrOf (SortSt.mk' general' (vs.toArray.zip vs.toArray) #[] 7 none)).map (·.2)=vs.toArray from ev,List.size_toArray]
   omega
 ·rw [if_neg h2,if_neg h2]
  have h2':2<=vs.length:=by simp only[List.size_toArray]at h2;omega
  obtain⟨fs,k,l,q⟩:=tJ t6;refine zX (kat_kind (T:=.type "str") k (by omega) (λv hv=>?_) (by decide) ?_)
  ·obtain⟨x,t,rfl⟩:=q v hv
   exact .now
  have lp:=hv.1
  refine zX (wpAny_mono (kat_run (ks:=vs) (vs:=vs) (Q:=λst' s'=>s'={s with heap:=h6}/\∃p:Array Nat,Ks.Pm vs.length p/\Ks.S (λi j=>gE (ps.getD i default) (ps.getD j default)) p vs.length/\(arrOf st').map (·.2)=List.toArray (p.toList.map λi=>vs.getD i Value.none)/\failedOf st'=none)
   rfl h2' h64 (G:=λp s'=>s'={s with heap:=h6}/\Ks.Pm vs.length p/\Ks.S (λi j=>gE (ps.getD i default) (ps.getD j default)) p vs.length) (λp st' s' a1 a2 a3 a4=>⟨a4.1,p,a4.2.1,a4.2.2,kat_snds rfl a2,a3⟩) ?_) ?_ λ_ _ e=>e)
  ·refine Ks.Wp.kas (n:=vs.length) (c:=λi j=>gE (ps.getD i default) (ps.getD j default)) (λi j C hi hj hc=>?_) _ (Ks.sort (by rw[lp];exact Mn nd) h2' λp x y=>(⟨x,y⟩:Ks.Pm vs.length p/\Ks.S (λi j=>gE (ps.getD i default) (ps.getD j default)) p vs.length)) λp x=>⟨rfl,x⟩
   have g:∀i,i<vs.length->vH h6 (vs.getD i Value.none) (ps.getD i default):=λi hi=>by
    have hp:i<ps.length:=by omega
    refine t6.2 i _ _ ?_ ?_
    ·rw[List.getD_eq_getElem?_getD,bV hi];rfl
    ·rw[List.getD_eq_getElem?_getD,bV hp];rfl
   exact Nh (s:={s with heap:=h6}) (g i hi) (g j hj) hc
  rintro⟨⟨⟩,st'⟩ s' ⟨rfl,p,hp,hs,har,hf⟩;dsimp only;have hz:p.toList.length=vs.length:=by have:=hp.length_eq;simpa using this
  refine zX (seqEpoch_at ho6 rfl (zX (listUpdate_at ho6 rfl ?_ (hsz2:=?_))))
  ·rw[hf]
   simp only[bne_self_eq_false,Bool.false_eq_true,if_false];refine z7 ?_;rw[har];refine fin (p.toList.map λi=>vs.getD i Value.none) (p.toList.map λi=>ps.getD i default) (by simp) ?_ ?_
   ·rw[List.zip_map']
    have:=hp.map λi=>(vs.getD i Value.none,ps.getD i default)
    rw[show(List.range vs.length).map (λi=>(vs.getD i Value.none,ps.getD i default))=vs.zip ps from by
     rw[<- List.zip_map',Hx];congr 1;rw[lp,Hx]]at this
    exact this
   ·rw[List.pairwise_iff_getElem]
    intro i j hi hj hij;have hi':i<p.toList.length:=by simpa using hi
    have hj':j<p.toList.length:=by simpa using hj
    have:=hs i j (by omega) (by omega)
    have gi:∀k (hk:k<p.toList.length),Ks.G p k=p.toList[k]:=λk hk=>by
     have:k<p.size:=by simpa using hk
     simp[Ks.G,Array.getD,this]
    rw[gi i hi',gi j hj']at this;show gE _ _=false;simpa using this
  ·rw[har,List.size_toArray,aR,hz]
   omega
def Ut {r d:Addr} {n:Nat} {T:String} {Pr:Nat->Value->Prop} {OK:Heap->Prop} {Q:Value->Shared->Prop} {ps:List PP} (K:PySem.W.KdlSrc prog w T r d n Pr OK) (hh:A.handled=none) (hok:OK s.heap) (h64:n<64) (nd:ps.Nodup) (hst:∀acc,ItemsOf Pr acc n->TupsAt s.heap acc.toList ps)
  (h:∀(h':Heap) (tk:Nat) (D:Addr) (c:Nat) (acc:Array Value) (out:List Value) (ms:List PP),ItemsOf Pr acc n->(∀b o,s.heap.get? b=some o->h'.get? b=some o)->s.heap.objs.size<=D->h'.get? D=some (seqObj "list" out.toArray c)->out.length=ms.length->(out.zip ms).Perm (acc.toList.zip ps)->ms.Pairwise eY->Q (.ref D) {s with heap:=h',toks:=tk}) :
  wpAny (model prog w) A (call (.builtin "sorted") [.ref r]) Q E s:=by
 refine Calls.call_function_entry kind_sorted plain_sorted entry_sorted (args_sorted1 _) ?_;unfold Builtin.«sorted»;refine zX (m:=checkCount "sorted" 1 1 _) (z7 ?_);have z64:(64:Nat)<=sizeLine:=by decide
 refine zX (St.collectK (A:=A.in1) K hh hok (by omega) λh' tk acc hpo hz hk=>?_);have hns:=hst acc hpo;have hlen:acc.toList.length<64:=by rw[Array.length_toList,hpo.1];exact h64
 refine zX (wpAny_newList ?_ (by omega));have hoL:(h'.push (seqObj "list" acc.toList.toArray 0)).get? h'.objs.size=some (seqObj "list" acc.toList.toArray 0):=z9 _ rfl;have kp:∀b o,s.heap.get? b=some o->(h'.push (seqObj "list" acc.toList.toArray 0)).get? b=some o:=λb o e=>aT _ (hk b o e);refine zX (qO (wpAny_call_entry slot_list_sort ⟨_,hoL,rfl⟩ entry_list_sort (Rc hoL (hns.kp λb o e _=>kp b o e) nd hlen λout ms m1 m2 m3=>⟨_,rfl,?_⟩) (args_list_sort _)));obtain⟨e,he⟩:=sortedHeap_at (out:=out.toArray) hoL;refine z7 ⟨_,rfl,h _ tk h'.objs.size e acc out ms hpo (λb o eb=>?_) (Nat.le_of_lt hz) he m1 m2 m3⟩;have hb:=hk b o eb;have hlt:=z8 hb;rw[sortedHeap_old (qE hlt) (by rw[Heap.size_push];exact Nat.lt_succ_of_lt hlt)];exact aT _ hb
end
def mP(H:Hp)(zs:List V)(ms:List PP):Prop:=zs.length=ms.length/\∀(i:Nat) z p,zs[i]?=some z->ms[i]?=some p->∃b,z=.ref b/\H b=some (.tup [.str p.1,.str p.2])
def kP(p:PP):List aK:=[Sum.inr p.1,Sum.inr p.2]
theorem xY{p q:PP}(h:kP p=kP q):p=q:=by
 unfold kP at h;injection h with b a;injection a with a _;exact Prod.ext (Sum.inr.inj b) (Sum.inr.inj a)
def Mt(H:Hp)(a:Addr)(Q:VK):Prop:=∃kvs ps,H a=some (.dT kvs)/\kvs.map (·.1)=ps.map kP/\kvs.length<64/\∀(l:Addr) (zs:List V) (ms:List PP),H l=none->mP H zs ms->ms.Perm ps->ms.Pairwise eY->Q (.ref l) (upd H l (.lst zs))
def Ms(H:Hp)(a:Addr)(Q:VK):Prop:=∃kvs,∃ns:List Str,H a=some (.dK kvs)/\kvs.map (·.1)=ns.map (Sum.inr:Str->aK)/\kvs.length<64/\∀(l:Addr) (ms:List Str),H l=none->ms.Perm ns->ms.Pairwise M.leS->Q (.ref l) (upd H l (.lst (ms.map V.str)))
section
variable {X:Cx}
def xD(hc:X.calm=true):CallR X (.builtin "sorted") (λxs H Q=>∃a,xs=[V.ref a]/\Mt H a Q):=by
 intro y s σ H xs us Q I r h;obtain⟨a,rfl,kvs,ps,ha,Y,a1,q⟩:=h;obtain⟨u,rfl,ru⟩:=lG r;obtain rfl:u=.ref a:=ru;have ob:=(show ObjOk X.prog X.w H s.heap a (.dT kvs) from I.hok a _ ha);obtain⟨es,ep,en,sz,z,hd,get⟩:=sN ob
 have nd:ps.Nodup:=by
  obtain⟨_,_,xs,rr,_,_,_,_,_,_,_,nn⟩:=ob;obtain⟨l1,g1⟩:=B7 rr
  have e:xs.map (·.1)=kvs.map (·.1):=by
   refine List.ext_getElem (by simp[l1]) λi g f=>?_;simp only[List.getElem_map];have b1:i<xs.length:=by simpa using g
   have b2:i<kvs.length:=by simpa using f
   exact(g1 i _ _ (bV b2) (bV b1)).1.symm
  rw[e,Y]at nn;exact(List.pairwise_map.mp nn).imp λh e=>h (congrArg kP e)
 have lk:kvs.length=ps.length:=by have:=congrArg List.length Y;simpa using this
 have J:∀(acc:Array Value),ItemsOf (λi v=>∃k,es[i]?=some k/\v=k.key) acc es.size->∀(i:Nat) v p,acc.toList[i]?=some v->ps[i]?=some p->∃b,v=.ref b/\H b=some (.tup [.str p.1,.str p.2]):=λacc hi i v p g f=>by
  obtain⟨k,ek,rfl⟩:=hi.2 i v (by rw[<- Array.getElem?_toList];exact g);have il:i<kvs.length:=by rw[lk];exact(dC f).1
  obtain⟨b,e1,e2,_⟩:=get i kvs[i] k (bV il) ek;have M:(kvs.map (·.1))[i]?=some (kP p):=by rw[Y,dA,f];rfl
  rw[dA,bV il]at M;have M:kvs[i].1=kP p:=by simpa using M
  rw[M]at e2;exact⟨b,e1,e2⟩
 refine Ut (ps:=ps) (Np hd) (I.ok.hd hc) en (by omega) nd (λacc hi=>⟨by rw[Array.length_toList,hi.1];omega,λi v p g f=>?_⟩) λh' tk D c acc out n hi k hD he U hp hs=>?_
 ·obtain⟨b,rfl,hb⟩:=J acc hi i v p g f
  obtain⟨_,its,rv,o,e,cc,m,d,_⟩:=(show ObjOk X.prog X.w H s.heap b (.tup [.str p.1,.str p.2]) from I.hok b _ hb);obtain⟨u1,u2,rfl,⟨t1,rfl⟩,⟨t2,rfl⟩⟩:=rv.two;exact⟨b,o,t1,t2,m,Z,e,cc,d⟩
 ·have ex:∀(i:Nat) v p,out[i]?=some v->n[i]?=some p->∃b,v=.ref b/\H b=some (.tup [.str p.1,.str p.2]):=λi v p g f=>by
   have hm:(v,p)∈out.zip n:=cZ (i:=i) (by rw[List.getElem?_zip_eq_some];exact⟨g,f⟩);obtain⟨j,hj⟩:=List.mem_iff_getElem?.mp (hp.mem_iff.mp hm);rw[List.getElem?_zip_eq_some]at hj;exact J acc hi j v p hj.1 hj.2
  let zs:List V:=out.map λv=>match v with |.ref b=>.ref b |_=>.non
  have l:Vals zs out:=A3 (by simp[zs]) λi x u hx hu=>by
   obtain⟨v,l,rfl⟩:=fL (by rw[dA]at hx;exact hx);rw[l]at hu;cases hu;obtain⟨p,O⟩:∃p,n[i]?=some p:=⟨_,bV (by rw[<- U];exact(dC l).1)⟩;obtain⟨b,rfl,_⟩:=ex i _ p l O;rfl
  have la:acc.toList.length=ps.length:=by rw[Array.length_toList,hi.1];omega
  have C:n.Perm ps:=by
   have:=hp.map Prod.snd;rw[List.map_snd_zip (Nat.le_of_eq U.symm),List.map_snd_zip (Nat.le_of_eq la.symm)]at this;exact this
  have a0:(64:Nat)<=sizeLine:=by decide
  have lz:zs.length=n.length:=by simp[zs,U]
  have I2:Inv X y σ (upd H D (.lst zs)) {s with heap:=h',toks:=tk}:=I.laid (λb u eb=>k b u eb) hD ⟨by have:=C.length_eq;omega,out,c,l,he⟩;refine⟨.ref D,_,I2,Z,q D zs n (I.hok.fresh hD) ⟨lz,λi z p g f=>?_⟩ C hs⟩;obtain⟨v,l,rfl⟩:=fL (by rw[dA]at g;exact g);obtain⟨b,rfl,hb⟩:=ex i _ p l f;exact⟨b,Z,hb⟩
def xC(hc:X.calm=true):CallR X (.builtin "sorted") (λxs H Q=>∃a,xs=[V.ref a]/\Ms H a Q):=by
 intro g s σ H xs us Q I r h;obtain⟨a,rfl,kvs,ns,ha,hk,a1,q⟩:=h;obtain⟨u,rfl,ru⟩:=lG r;obtain rfl:u=.ref a:=ru;obtain⟨z,hd,vs,f,dd⟩:=rT I.hok ha;obtain⟨ep,Y⟩:=dd.dictAt;have lv:=f.length;have lk:kvs.length=ns.length:=by have:=congrArg List.length hk;simpa using this
 refine St.sortedK (ns:=ns) (PySem.W.kdl_dict hd) (I.ok.hd hc) Y (by omega) (λacc hi=>?_) λh3 n D c out ms k3 _ hD U C j o=>?_
 ·refine Gh (A3 (by have:=hi.1;rw[aR];simp only[Array.length_toList];omega) λi x u hx hu=>?_)
  rw[dA]at hx;obtain⟨p,l,rfl⟩:=fL hx;obtain⟨k,y,J,O⟩:=hi.2 i u (by rw[<- Array.getElem?_toList];exact hu);have il:i<kvs.length:=by rw[lk];exact(dC l).1
  have m:(kvs.map (·.1))[i]?=some (Sum.inr p):=by rw[hk,dA,l];rfl
  rw[dA,bV il]at m;have m:kvs[i].1=Sum.inr p:=by simpa using m
  have e:kvs[i].1=k:=KV.get f (i:=i) (bV il) J;have:=xQ O;rw[<- e,m]at this;exact this
 ·have a0:(64:Nat)<=sizeLine:=by decide
  have I2:Inv X g σ (upd H D (.lst (ms.map V.str))) {s with heap:=h3,toks:=n}:=I.laid (λb u eb=>k3 b u eb) hD ⟨by rw[aR,j.length_eq];omega,out.toList,c,Ij C,by rw[Array.toArray_toList];exact U⟩;exact⟨.ref D,_,I2,Z,q D ms (I.hok.fresh hD) j (M.sorted_pair o)⟩
end
def B2{l m:List PP}(e:l.Pairwise eY)(c:m.Pairwise eY)(h:l.Perm m):l=m:=List.Perm.eq_of_pairwise (λa b _ _=>Dt) e c h
def B3{l m:List Str}(e:l.Pairwise M.leS)(c:m.Pairwise M.leS)(h:l.Perm m):l=m:=List.Perm.eq_of_pairwise (λa b _ _=>M.leS_anti) e c h
end L2
end
section
namespace M
open PySem L2
structure Srt(t t':Td):Prop where
 wp:t'.ways.Perm t.ways
 pp:t'.places.Perm t.places
 ws:(t'.ways.map (·.1)).Pairwise leS
 ps:(t'.places.map (·.1)).Pairwise eY
theorem yX{α β:Type}(f:α->β)(le:β->β->Prop)(o:∀a b c,le a b->le b c->le a c)(to:∀a b,le a b\/le b a):∀l:List α,∃r:List α,r.Perm l/\(r.map f).Pairwise le
 |[]=>⟨[],.refl _,.nil⟩
 | x::l=>by
  obtain⟨m,p,s⟩:=yX f le o to l
  have n:∀m:List α,(m.map f).Pairwise le->∃e:List α,e.Perm (x::m)/\(e.map f).Pairwise le:=by
   intro m
   induction m with
   |nil=>exact λ_=>⟨[x],.refl _,by simp⟩
   | cons y m u=>
    intro s;rw[List.map_cons,List.pairwise_cons]at s;rcases to (f x) (f y) with h |h
    ·refine⟨x::y::m,.refl _,?_⟩
     rw[List.map_cons,List.map_cons,List.pairwise_cons];refine⟨λz hz=>?_,List.pairwise_cons.mpr s⟩;rcases cE hz with rfl |hz
     ·exact h
     ·exact o _ _ _ h (s.1 z hz)
    ·obtain⟨e,g,j⟩:=u s.2
     refine⟨y::e,(g.cons y).trans (.swap x y m),?_⟩;rw[List.map_cons,List.pairwise_cons];refine⟨λz hz=>?_,j⟩;have:=(g.map f).mem_iff.mp hz;rw[List.map_cons]at this;rcases cE this with rfl |hz
     ·exact h
     ·exact s.1 z hz
  obtain⟨e,g,j⟩:=n m s;exact⟨e,g.trans (p.cons x),j⟩
def N6(a b:Str):leS a b\/leS b a:=List.le_total _ _
def N4(p q:PP):eY p q\/eY q p:=by
 by_cases h:gE q p=true
 ·exact .inr (Dw h)
 ·exact .inl (Bool.eq_false_iff.mpr h)
def O5(t:Td):∃t',Srt t t':=by
 obtain⟨l,p,s⟩:=yX (λe:Str×Tw=>e.1) leS (λ_ _ _=>Hm) N6 t.ways;obtain⟨c,b,a⟩:=yX (λe:(Str×Str)×Pl=>e.1) eY (λ_ _ _=>Du) N4 t.places;exact⟨⟨l,c⟩,p,b,s,a⟩
theorem Srt.ok{t t':Td}(s:Srt t t')(o:TdOk t):TdOk t' where
 w6:=by rw[s.wp.length_eq];exact o.w6
 p6:=by rw[s.pp.length_eq];exact o.p6
 wn:=(s.wp.map _).nodup_iff.mpr o.wn
 pn:=(s.pp.map _).nodup_iff.mpr o.pn
 ws:=λe a=>o.ws e (s.wp.mem_iff.mp a)
 ps:=λe a=>o.ps e (s.pp.mem_iff.mp a)
theorem Td.sum{t:Td}(o:TdOk t):((t.lns.map Tl.line).map (·.length)).sum+(t.lns.map Tl.line).length*(S "\n").length<=16777216:=by
 have b:=B5 o.lns;have a:=o.few;have e:(S "\n").length=1:=by walk_at"k"
 rw[e,aR];omega
def dQ{α β:Type}[DecidableEq α](l:List (α×β))(a:α)(b:β):List (α×β):=if (l.any λe=>decide (e.1=a)) then l.map (λe=>if e.1=a then (e.1,b) else e) else l++[(a,b)]
def Hv{α β:Type}[DecidableEq α]{l:List (α×β)}{a:α}{b:β}(nd:(l.map (·.1)).Nodup):((dQ l a b).map (·.1)).Nodup:=by
 unfold dQ;by_cases h:(l.any λe=>decide (e.1=a))=true
 ·rw[if_pos h,List.map_map]
  have:((λe:α×β=>e.1) ∘ λe=>if e.1=a then (e.1,b) else e)=λe=>e.1:=by
   funext e
   show(if e.1=a then (e.1,b) else e).1=e.1;split <;> rfl
  rw[this];exact nd
 ·rw[if_neg h,dG,List.nodup_append]
  refine⟨nd,by simp,λx f y c e=>h ?_⟩;rw[List.map_cons,List.map_nil,List.mem_singleton]at c;obtain⟨p,g,rfl⟩:=fX f;exact List.any_eq_true.mpr ⟨p,g,cM (e.trans c)⟩
def G7{α β:Type}[DecidableEq α](l:List (α×β))(a:α)(b:β):(dQ l a b).length<=l.length+1:=by
 unfold dQ;split <;> simp
def G3{α β:Type}[DecidableEq α]{f:α×β->Prop}{l:List (α×β)}{a:α}{b:β}(h:∀e∈l,f e)(k:f (a,b)):∀e∈dQ l a b,f e:=λe c=>by
 unfold dQ at c;split at c
 ·obtain⟨x,g,rfl⟩:=fX c
  split
  ·rename_i e;rw[e];exact k
  ·exact h x g
 ·rcases eA c with c |c
  ·exact h e c
  ·rw[eG c];exact k
end M
end
section
namespace M
open PySem
def Gc{R:D->Tr->Prop}{es:List D}{ts:List Tr}(h:All2 R es ts)(g:∀d t,R d t->d.size<=3*t.cs.length):cF es<=3*(bs ts).length:=by
 induction h with
 |nil=>exact qR _
 |cons a _ b=>
  have:=g _ _ a;rw[cU];show D.size _+cF _<=_;omega
def Pj{R:D->Tr->Prop}(g:∀d t,R d t->d.size<=3*t.cs.length){d:D}{t:Tr}(h:mT R d t):d.size<=3*t.cs.length:=by
 obtain⟨a,x,e,c,j,f,b,rfl,rfl⟩:=h;have:=g _ _ b;rw[gQ,cU,cU,lK];simp only[D.size,cF];omega
theorem T2.size3:∀{n:Nat} {d:D} {t:Tr},T2 n d t->d.size<=3*t.cs.length
 | 0,d,t,h=>by
  have I:=List.length_pos_iff.mpr (xP h);rcases h with⟨n,_,_,rfl,_⟩ |⟨x,_,rfl,_⟩
  ·simp only[D.size,cF]
   omega
  ·simp only[D.size,cF]
   omega
 | n+1,d,t,h=>by
  have e:∀d t,T2 n d t->d.size<=3*t.cs.length:=λd t h=>T2.size3 h;rcases h with h |⟨s,a,b,m,w,hs,j,p,rfl,rfl⟩ |⟨k,es,ts,y,_,o,rfl,rfl⟩ |⟨a,m,f,M,j,rfl,rfl⟩ |⟨k,g,a,m,y,J,j,rfl,rfl⟩ |⟨a,m,u,ts,j,O,_,hs,rfl,rfl⟩ |⟨a,b,c,m,w,C,j,p,z,rfl,rfl⟩
  ·exact T2.size3 (n:=0) h
  ·have l:=e _ _ j
   have r:=e _ _ p;rw[gQ,cU,cU,lK];simp only[D.size,cF];omega
  ·have l:=Gc o e
   rw[gQ,cU];simp only[D.size,cF];omega
  ·have l:=e _ _ j
   rw[gQ,cU,cU,lK];simp only[D.size,cF];omega
  ·have l:=e _ _ j
   rw[gQ,cU,cU,cU,lK];simp only[D.size,cF];omega
  ·have l:=e _ _ j
   have r:=Gc hs λd t h=>Pj e h;rw[gQ,cU];simp only[D.size,cF];omega
  ·have l:=e _ _ j
   have r:=e _ _ p;have U:=e _ _ z;rw[gQ,cU,cU,cU,lK];simp only[D.size,cF];omega
theorem Az{α:Type}{f:α->D}{B:Nat}:∀{xs:List α},(∀x∈xs,(f x).size<=B)->cF (xs.map f)<=xs.length*B
 |[],_=>qR _
 |x::xs,h=>by
  have b:=Az (xs:=xs) λy a=>h y (by simp[a]);have c:=h x (by simp);rw[List.length_cons,Nat.succ_mul];show(f x).size+cF (xs.map f)<=_;omega
def V6{ts:List Tr}(ne:ts≠[])(g:nZ ts)(hn:eT ts<=20){x:Str}(hx:L x=(bs ts).tail):∃ws,(Txt.split x ⟨#[32]⟩).map L=ws/\bW ws [[]]=some [ts]:=by
 obtain⟨pre,last,W⟩:=yI ts ne g;refine(bL (pre++[last]) (Gf (by simp) W.free (by rw[W.join,hx])) ?_);have:=W.run 0 [] [] (by simp;omega) (by simp);rw[List.replicate_zero,List.append_nil]at this;rw[this];rfl
end M
end
section
namespace M
open PySem L2
def Nd{l:List (Str×Tt)}(h:l≠[]):L (gN (l.map λp=>aW (aP p)))=(bs (l.map aP)).tail:=by
 rw[lY,<- A6,List.map_map,List.map_map];congr 1
def Rh{p:Str×Tt}(h:TagOk p):(aP p).Good:=(fM (by simp) (bU Z) h.1.plain h.2.1.good trivial)
def Ri{p:Str×Tt}(h:TagOk p):(aP p).nest<=16:=by
 have:=h.2.1.nest;show max 0 (max p.2.2.nest 0)+1<=16;omega
theorem Iw:∀{l:List (Str×Tt)},(∀p∈l,TagOk p)->nZ (l.map aP)/\eT (l.map aP)<=16
 |[],_=>⟨trivial,qR _⟩
 |p::l,h=>by
  have a:=Iw (l:=l) λq b=>h q (by simp[b]);have c:=Ri (h p (by simp));refine⟨⟨Rh (h p (by simp)),a.1⟩,?_⟩;show max (aP p).nest (eT (l.map aP))<=16;omega
end M
end
section
namespace L2
open PySem PySem.Spec PyProof.Rows
theorem DefIs.any{P:Program}{w:World}{K:Fg}{p:Str->Option Value}{base:Heap}{n N:Nat}{x:Str}{ps:List Str}{sps:Nat->Sp}(D:∀m,m<=N->DefIs P w K p base n x ps (sps m)):DefIs P w K p base n x ps (λvs H Q E=>∃m,m<=N/\sps m vs H Q E):=by
 obtain⟨f,I,F,b,k,o,l⟩:=(D 0 (qR _)).ex;refine⟨f,I,⟨?_,?_⟩,b,k,o,l⟩
 ·rintro vs H Q E ⟨m,e,h⟩
  obtain⟨J,g,j,_⟩:=(D m e).ex;exact j.1 vs H Q E h
 ·rintro A outer s H args us vs Q E C z y u ⟨m,e,h⟩
  obtain⟨J,g,j,U,O,a,c⟩:=(D m e).ex;rw[o]at a;cases a;obtain⟨M,od,r,l⟩:=l;obtain⟨_,_,_,c⟩:=c;rw[l]at c;cases c;exact j.2 A outer s H args us vs Q E C z y u h
end L2
end
section
namespace M
open PySem L2
def Gi{p:Str×Tt}(h:TagOk p):(cY p).size<=2643:=by
 have b:=h.2.1.size3;have a:=h.2.2;simp only[cY,D.size,cF];omega
def Oy{w:Tw}(h:fG w):(twD w).size<=1000000:=by
 obtain⟨g,a⟩:=w;obtain⟨_,h⟩:=h
 cases a with
 |one e=>
  have j:=h.1.size3;have c:=h.2;simp only[twD,Hw.d,D.size,cF];omega
 |tags l=>
  have e:=Az (f:=cY) (B:=2643) (xs:=l) λp b=>Gi (h.2.2 p b);have g3:l.length*2643<=4*2643:=Nat.mul_le_mul_right _ h.2.1;simp only[twD,Hw.d,D.size,cF];omega
def Ob{p:Pl}(h:iD p):(oY p).size<=1000000:=by
 have e:=Az (f:=cY) (B:=2643) (xs:=p.2) λq a=>Gi (h.2.2 q a);have g3:p.2.length*2643<=5*2643:=Nat.mul_le_mul_right _ h.2.1;simp only[oY,D.size,cF];omega
def xN(p:PP):D:=.tup [.str p.1,.str p.2]
theorem B9(H:Hp):∀a:List Str,RelDs H (a.map V.str) (a.map D.str)
 |[]=>Z
 |x::a=>(bT Z (B9 H a))
theorem Ba{H:Hp}:∀{zs:List V} {a:List PP},mP H zs a->RelDs H zs (a.map xN)
 |[],[],_=>Z
 |[],_::_,t=>by have:=t.1;cases this
 |_::_,[],t=>by have:=t.1;cases this
 |z::zs,p::a,t=>by
  obtain⟨b,e,c⟩:=t.2 0 z p Z Z;exact(bT ⟨b,(bA e ⟨c,(bT Z (bT Z Z))⟩)⟩ (Ba ⟨Nat.succ.inj t.1,λi z p g f=>t.2 (i+1) z p g f⟩))
theorem Iz:∀a:List Str,lC (a.map D.str)<=190
 |[]=>qR _
 |x::a=>by
  have:=Iz a;show max 0 (lC (a.map D.str))<=190;omega
theorem Ft:∀a:List PP,lC (a.map xN)<=190
 |[]=>qR _
 |x::a=>by
  have:=Ft a;show max (max 0 (max 0 0)+1) (lC (a.map xN))<=190;omega
end M
end
section
section
namespace L2
open PySem
abbrev qaa:List Str:=["text"]
abbrev qab:List Str:=["tree"]
abbrev qac:List Str:=["holds"]
abbrev qad:List Str:=["_law_feed_here","_law_pool"]
abbrev qae:List Str:=["term"]
abbrev qaf:List Str:=["tree","more"]
abbrev qag:List Str:=["draft","words"]
abbrev qah:List Str:=["_law_ways","_law_places"]
abbrev qai:List Str:=["_law_feed_here","_law_many"]
abbrev qaj:List Str:=["_law_feed_here"]
abbrev qak:List Str:=["text","signs","most"]
abbrev qal:List Str:=["_law_kind","_law_way_here"]
abbrev qam:List Str:=["place","way"]
abbrev qan:List Str:=["_law_feed_here","_law_pool","_law_room","_law_deep"]
abbrev qao:List Str:=["text","more"]
abbrev qap:List Str:=["word","more"]
abbrev qaq:List Str:=["_law_term_here"]
abbrev qar:List Str:=["pile","word"]
abbrev qas:List Str:=["pile","many"]
abbrev qat:List Str:=["_law_script","_law_k"]
abbrev qau:List Str:=["_law_place","_law_way_here"]
abbrev qav:List Str:=["self","at"]
abbrev qaw:List Str:=["ways","places","sets"]
abbrev qax:List Str:=["trees","more"]
abbrev qay:List Str:=["ways","places"]
abbrev qaz:List Str:=["_law_feed_here","_law_pool","_law_terms"]
abbrev qa0:List Str:=["_law_script","_law_at","_law_pool"]
abbrev qa1:List Str:=["_law_found","_law_ways","_law_places"]
abbrev qa2:List Str:=["_law_found","_law_due"]
abbrev qa3:List Str:=["_law_k","_law_feed_here","_law_pool","_law_deep","_law_room","_law_many"]
end L2
local macro_rules | `(tactic| walk_at"no")=>`(tactic| refine⟨_,rfl,rfl,_,rfl,M.iteKF (by walk_at"k") ?_⟩)
local macro_rules | `(tactic| walk_at"yes")=>`(tactic| refine⟨_,rfl,rfl,_,rfl,M.iteKT (by walk_at"k") ?_⟩)
namespace K84
open PySem L2 M
seal L2.PE L2.PA L2.PS L2.PSs L2.PT L2.PW L2.PI L2.PG L2.PJ L2.PTs
def top(i:Nat):Stmt:=PySem.Challenge.pw_swapstride_k84_whole_told_ways_written_a.main.body.getD i (.Pass ⟨0,0,0,0⟩)
abbrev s_is_name:Stmt:=top 9
def Um:FnScope qaa qaa (aY s_is_name):=by walk_at"q"
abbrev s_is_number:Stmt:=top 10
def W4:FnScope qaa qaa (aY s_is_number):=by walk_at"q"
abbrev s_is_kind:Stmt:=top 11
def Ul:FnScope qaa qaa (aY s_is_kind):=by walk_at"q"
abbrev s_is_made_of:Stmt:=top 12
def sc_is_made_of:FnScope qak qak (aY s_is_made_of):=by walk_at"q"
abbrev s_term_text:Stmt:=top 17
def W8:FnScope qae qae (aY s_term_text):=by walk_at"q"
abbrev s_bracketed:Stmt:=top 18
def sc_bracketed:FnScope ["texts","inside"] ["texts"] (aY s_bracketed):=by walk_at"q"
abbrev s_inner_texts:Stmt:=top 19
def sc_inner_texts:FnScope ["term","head"] qae (aY s_inner_texts):=by walk_at"q"
abbrev s_term_texts:Stmt:=top 20
def Wm:FnScope ["terms"] ["terms"] (aY s_term_texts):=by walk_at"q"
abbrev s_arm_text:Stmt:=top 21
def Vl:FnScope ["arm"] ["arm"] (aY s_arm_text):=by walk_at"q"
abbrev s_term_with:Stmt:=top 22
def sc_term_with:FnScope ["text","more","trees"] qao (aY s_term_with):=by walk_at"q"
abbrev s_need:Stmt:=top 23
def On:FnScope qac qac (aY s_need):=by walk_at"q"
abbrev s_trees_of:Stmt:=top 24
def sc_trees_of:FnScope ["text","pile","word"] qaa (aY s_trees_of):=by walk_at"q"
abbrev s_put_word:Stmt:=top 25
def sc_put_word:FnScope ["pile","word","core","closed"] qar (aY s_put_word):=by walk_at"q"
abbrev s_close_brackets:Stmt:=top 26
def sc_close_brackets:FnScope ["pile","many","inner"] qas (aY s_close_brackets):=by walk_at"q"
abbrev s_term_from:Stmt:=top 27
def sc_term_from:FnScope ["tree","more","head"] qaf (aY s_term_from):=by walk_at"q"
abbrev s_terms_from:Stmt:=top 28
def Wn:FnScope qax qax (aY s_terms_from):=by walk_at"q"
abbrev s_leaf_from:Stmt:=top 29
def W6:FnScope qap qap (aY s_leaf_from):=by walk_at"q"
abbrev s_name_from:Stmt:=top 30
def W7:FnScope qab qab (aY s_name_from):=by walk_at"q"
abbrev s_arm_from:Stmt:=top 31
def Vk:FnScope qaf qaf (aY s_arm_from):=by walk_at"q"
abbrev s_rows_in:Stmt:=top 33
def Up:FnScope qaa qaa (aY s_rows_in):=by walk_at"q"
abbrev s_kind_from:Stmt:=top 34
def W5:FnScope ["word"] ["word"] (aY s_kind_from):=by walk_at"q"
abbrev s_is_term:Stmt:=top 36
def Uo:FnScope ["how"] ["how"] (aY s_is_term):=by walk_at"q"
abbrev s_read_told:Stmt:=top 41
def sc_read_told:FnScope ["text","draft","at","row","places"] qaa (aY s_read_told):=by walk_at"q"
abbrev s_put_told:Stmt:=top 42
def sc_put_told:FnScope ["draft","words","head"] qag (aY s_put_told):=by walk_at"q"
abbrev s_put_way:Stmt:=top 43
def sc_put_way:FnScope ["draft","words","K","text","how"] qag (aY s_put_way):=by walk_at"q"
abbrev s_tags_in:Stmt:=top 44
def sc_tags_in:FnScope ["text","trees"] qaa (aY s_tags_in):=by walk_at"q"
abbrev s_tag_from:Stmt:=top 45
def Vm:FnScope qab qab (aY s_tag_from):=by walk_at"q"
abbrev s_put_place:Stmt:=top 46
def sc_put_place:FnScope ["draft","words","place"] qag (aY s_put_place):=by walk_at"q"
abbrev s_told_shown:Stmt:=top 47
def sc_told_shown:FnScope ["ways","places","rows","place"] qay (aY s_told_shown):=by walk_at"q"
abbrev s_way_text:Stmt:=top 48
def sc_way_text:FnScope ["K","way","how","tags"] ["K","way"] (aY s_way_text):=by walk_at"q"
abbrev s_place_texts:Stmt:=top 49
def sc_place_texts:FnScope ["place","way","boxes"] qam (aY s_place_texts):=by walk_at"q"
abbrev sl_feed:Stmt:=top 51
def scl_feed:FnScope ["_law_script","_law_k","_law_cell"] qat (aY sl_feed):=by walk_at"q"
abbrev sl_take:Stmt:=top 52
def scl_take:FnScope ["_law_feed_here","_law_many","_law_digit","_law_one"] qai (aY sl_take):=by walk_at"q"
abbrev sl_name:Stmt:=top 53
def scl_name:FnScope ["_law_feed_here","_law_letters","_law_some_here","_law_name_here"] qaj (aY sl_name):=by walk_at"q"
abbrev sl_whole:Stmt:=top 54
def scl_whole:FnScope ["_law_feed_here","_law_form"] qaj (aY sl_whole):=by walk_at"q"
abbrev sl_some:Stmt:=top 55
def R9:FnScope qad qad (aY sl_some):=by walk_at"q"
abbrev sl_leaf:Stmt:=top 56
def R8:FnScope qad qad (aY sl_leaf):=by walk_at"q"
abbrev sl_term:Stmt:=top 57
def scl_term:FnScope ["_law_feed_here","_law_pool","_law_room","_law_deep","_law_form","_law_names","_law_many","_law_some_here","_law_arms"] qan (aY sl_term):=by walk_at"q"
abbrev sl_text:Stmt:=top 58
def scl_text:FnScope ["_law_term_here","_law_word","_law_words","_law_t","_law_x","_law_one"] qaq (aY sl_text):=by walk_at"q"
abbrev sl_way:Stmt:=top 59
def scl_way:FnScope ["_law_feed_here","_law_pool","_law_terms","_law_goal","_law_arms","_law_k"] qaz (aY sl_way):=by walk_at"q"
abbrev sl_told:Stmt:=top 60
def scl_told:FnScope ["_law_script","_law_at","_law_pool","_law_terms","_law_ways","_law_feed_here","_law_k","_law_places","_law_place","_law_sets","_law_j"] qa0 (aY sl_told):=by walk_at"q"
abbrev sl_way_line:Stmt:=top 61
def scl_way_line:FnScope ["_law_kind","_law_way_here","_law_goal","_law_how"] qal (aY sl_way_line):=by walk_at"q"
abbrev sl_place_lines:Stmt:=top 62
def scl_place_lines:FnScope ["_law_place","_law_way_here","_law_lines"] qau (aY sl_place_lines):=by walk_at"q"
abbrev sl_told_lines:Stmt:=top 63
def scl_told_lines:FnScope ["_law_ways","_law_places","_law_lines","_law_place"] qah (aY sl_told_lines):=by walk_at"q"
abbrev sl_alike:Stmt:=top 64
def scl_alike:FnScope ["_law_found","_law_due","_law_left","_law_one","_law_other"] qa2 (aY sl_alike):=by walk_at"q"
abbrev sl_dicts:Stmt:=top 65
def scl_dicts:FnScope ["_law_found","_law_ways","_law_places","_law_kind"] qa1 (aY sl_dicts):=by walk_at"q"
abbrev sl_drawn_lines:Stmt:=top 66
def scl_drawn_lines:FnScope ["_law_ways","_law_places","_law_lines","_law_place","_law_way_here"] qah (aY sl_drawn_lines):=by walk_at"q"
abbrev sl_right:Stmt:=top 67
def scl_right:FnScope ["_law_ways","_law_places","_law_text_here","_law_one","_law_found"] qah (aY sl_right):=by walk_at"q"
abbrev s_law:Stmt:=top 68
def sc_law:FnScope ["_law_script","_law_names","_law_pool","_law_one","_law_other","_law_ways","_law_places"] ["_law_script"] (aY s_law):=by walk_at"q"
abbrev s_init:Stmt:=Ed (top 2) 0
def Om:FnScope qav qav (aY s_init):=by walk_at"q"
abbrev s_dinit:Stmt:=Ed (top 40) 0
def R7:FnScope ["self"] ["self"] (aY s_dinit):=by walk_at"q"
structure Tx(K:Fg)(mg:Str->Option Value):Prop where
 jA:DefTx K mg "is_name" s_is_name qaa
 jB:DefTx K mg "is_number" s_is_number qaa
 jC:DefTx K mg "is_kind" s_is_kind qaa
 jD:DefTx K mg "is_made_of" s_is_made_of qak
 jE:DefTx K mg "term_text" s_term_text qae
 jF:DefTx K mg "bracketed" s_bracketed ["texts"]
 jG:DefTx K mg "inner_texts" s_inner_texts qae
 jH:DefTx K mg "term_texts" s_term_texts ["terms"]
 jI:DefTx K mg "arm_text" s_arm_text ["arm"]
 jJ:DefTx K mg "term_with" s_term_with qao
 jK:DefTx K mg "need" s_need qac
 jL:DefTx K mg "trees_of" s_trees_of qaa
 jM:DefTx K mg "put_word" s_put_word qar
 jN:DefTx K mg "close_brackets" s_close_brackets qas
 jO:DefTx K mg "term_from" s_term_from qaf
 jP:DefTx K mg "terms_from" s_terms_from qax
 jQ:DefTx K mg "leaf_from" s_leaf_from qap
 jR:DefTx K mg "name_from" s_name_from qab
 jS:DefTx K mg "arm_from" s_arm_from qaf
 jT:DefTx K mg "rows_in" s_rows_in qaa
 jU:DefTx K mg "kind_from" s_kind_from ["word"]
 jV:DefTx K mg "is_term" s_is_term ["how"]
 jW:DefTx K mg "read_told" s_read_told qaa
 jX:DefTx K mg "put_told" s_put_told qag
 jY:DefTx K mg "put_way" s_put_way qag
 jZ:DefTx K mg "tags_in" s_tags_in qaa
 j7:DefTx K mg "tag_from" s_tag_from qab
 j8:DefTx K mg "put_place" s_put_place qag
 j9:DefTx K mg "told_shown" s_told_shown qay
 kD:DefTx K mg "way_text" s_way_text ["K","way"]
 kF:DefTx K mg "place_texts" s_place_texts qam
 kH:DefTx K mg "_law_feed" sl_feed qat
 kI:DefTx K mg "_law_take" sl_take qai
 kK:DefTx K mg "_law_name" sl_name qaj
 kM:DefTx K mg "_law_whole" sl_whole qaj
 kN:DefTx K mg "_law_some" sl_some qad
 kO:DefTx K mg "_law_leaf" sl_leaf qad
 kQ:DefTx K mg "_law_term" sl_term qan
 kR:DefTx K mg "_law_text" sl_text qaq
 kS:DefTx K mg "_law_way" sl_way qaz
 kT:DefTx K mg "_law_told" sl_told qa0
 kU:DefTx K mg "_law_way_line" sl_way_line qal
 kW:DefTx K mg "_law_place_lines" sl_place_lines qau
 kX:DefTx K mg "_law_told_lines" sl_told_lines qah
 kY:DefTx K mg "_law_alike" sl_alike qa2
 kZ:DefTx K mg "_law_dicts" sl_dicts qa1
 k4:DefTx K mg "_law_drawn_lines" sl_drawn_lines qah
 k9:DefTx K mg "_law_right" sl_right qah
 uA:DefTx K mg "law" s_law ["_law_script"]
 uB:∃t,mg "LONGEST_NAME"=some (.int 6 t)
 uC:∃t,mg "LONGEST_NUMBER"=some (.int 10 t)
 uD:∃t,mg "DEEPEST"=some (.int 20 t)
 uE:∃t,mg "MOST_ARMS"=some (.int 4 t)
 uF:∃t,mg "MOST_TAGS"=some (.int 4 t)
 uG:∃t,mg "LETTERS"=some (.str (Str.ofString "abcdefghijklmnopqrstuvwxyz") t)
 uH:∃t,mg "FIGURES"=some (.str (Str.ofString "0123456789") t)
 uI:∃a,mg "NO_NAMES"=some (.ref a)/\∀H,SqT K H a [.str (Str.ofString "num"),.str (Str.ofString "it")]
 uJ:∃a,mg "OPS"=some (.ref a)/\∀H,SqT K H a [.str (Str.ofString "+"),.str (Str.ofString "-"),.str (Str.ofString "*"),.str (Str.ofString "<"),.str (Str.ofString "=")]
 uK:∃a,mg "IT"=some (.ref a)/\∀H,SqT K H a [.str (Str.ofString "it")]
 uL:mg "all"=none
 uM:mg "bool"=none
 uN:mg "dict"=none
 uO:mg "enumerate"=none
 uP:mg "int"=none
 uQ:mg "isinstance"=none
 uR:mg "len"=none
 uS:mg "list"=none
 uT:mg "max"=none
 uU:mg "range"=none
 uV:mg "sorted"=none
 uW:mg "str"=none
 uX:mg "tuple"=none
 uY:mg "zip"=none
 uZ:mg "BadText"=some (.ref (cAt K 0))
 u4:mg "SwapError"=some (.ref (ad K "SwapError"))
 u5:mg "ToldDraft"=some (.ref (ad K "ToldDraft"))
 dt:DTab K "ToldDraft" qaw
 di:InitTx K "ToldDraft.__init__" (ad K "ToldDraft") s_dinit ["self"]
 xt:XTabA K
 it:InitTx K "BadText.__init__" (cAt K 0) s_init qav
def qL:Sp:=λvs H Q _=>∃(x y:Str) (m:Int),vs=[.str x,.str y,.int m]/\x.length<=3000000/\∀H',Same H H'->Q (.bl (eU x y m)) H'
def qP:Sp:=λvs H Q _=>∃x:Str,vs=[.str x]/\x.length<=3000000/\∀H',Same H H'->Q (.bl (gK (L x))) H'
def wM:Sp:=λvs H Q _=>∃x:Str,vs=[.str x]/\x.length<=3000000/\∀H',Same H H'->Q (.bl (fD (L x))) H'
def aI{n:Nat}(h:n<=4000000):n<=sizeLine:=zY h (by decide)
theorem cQ{n:Nat}(h:n<=4000000):n<sizeLine:=zT h (by decide)
section
variable {P:Program}{w:World}{K:Fg}{mg:Str->Option Value}{base:Heap}{n:Nat}
def Bl(T:Tx K u):DefIs P w K u base (n+1) "is_made_of" qak qL:=by
 refine DefIs.of T.jD sc_is_made_of (λvs H Q E h=>?_) (λf J A outer s H vs Q E z h=>?_)
 ·obtain⟨x,y,m,rfl,_⟩:=h
  rfl
 obtain⟨x,y,m,rfl,M,k⟩:=h;have nd:=sc_is_made_of.nd;have O:=lD z;refine(bA (aH (aO (iV (Fx pW pW aB (bP Bd Z T.uR zE (pc (pv 0) pN aA)) (pv 2)) (iG (bP (Qn Z) Z T.uL PyProof.Rows.boot_all (pc (iP ["sign","signs"] [none,some 1] Z (by kernel_rfl) (Mq (pv 0)) (λ_ _ _ _=>(bS (i:=0) (by show List.Nodup (["sign","signs"]:List Str);decide +kernel) Z (Or.inl Z))) (λ_ _ _ _=>eN) (λ_ _ _ _=>(dI Sv (pv 0) (pv 1) (by with_unfolding_all rfl)))) pN sW)))))) ?_);refine(oJ x Z (aI (by omega)) (eC (aM ?_)));refine bC (λl=>?_) (λl=>?_)
 ·have I:(1:Int)<=x.length:=z6 l
  refine(aE (eC (aM ?_)));refine bC (λg=>?_) (λg=>?_)
  ·have b:=z6 g
   refine(aE (aM ?_));refine Qo (j:=0) (λi ys o=>Same H o/\ys=((L x).take i).map λc=>V.bl (lQ y c)) (by rfl) ⟨Same.refl _,Z⟩ ?_ ?_ ?_
   ·have:x.cps.size=x.length:=Z
    exact cQ (by omega)
   ·rintro i c ys o r p ⟨a,rfl⟩
    have hi:i<x.cps.size:=(Array.getElem?_eq_some_iff.mp r).1;refine(dS (eC ?_));refine hZ hi p ⟨a,?_⟩;rw[fH,show(L x)[i]?=some c by rw[L,Array.getElem?_toList];exact r];simp[lQ]
   ·rintro ys o p ⟨a,rfl⟩ D C
    refine(bG D ((L x).map (lQ y)) (bB (zC ?_) ?_))
    ·rw[aC,List.map_map]
     congr 2;rw[dR (by simp[L])];rfl
    ·have e:eU x y m=((L x).map (lQ y)).all id:=by
      unfold eU;rw[cM (show 1<=x.length by omega),cM b,List.all_map];rfl
     rw[<- e];exact k _ (a.trans (zA C _))
  ·have b:=of_decide_eq_false (Bool.eq_false_iff.mpr g)
   have e:eU x y m=false:=by
    unfold eU;rw[eI b,Bool.and_false,Bool.false_and]
   rw[<- e];exact k _ (Same.refl _)
 ·have I:¬(1:Int)<=x.length:=of_decide_eq_false (Bool.eq_false_iff.mpr l)
  refine(aM ?_)
  have e:eU x y m=false:=by
   unfold eU;rw[eI (show ¬1<=x.length by omega),Bool.false_and,Bool.false_and]
  refine iteF ?_;rw[<- e];exact k _ (Same.refl _)
theorem Nv(x:Str):lP (.str x) [.str (S "num"),.str (S "it")]=(decide (x=S "num") || decide (x=S "it")):=by
 unfold lP;show((S "num" == x) || ((S "it" == x) || false))=_;rw[Bool.or_false]
 have h:∀y:Str,(y == x)=decide (x=y):=λy=>by
  rw[Bool.eq_iff_iff];simp;exact eq_comm
 rw[h,h]
def B6(T:Tx K g)(a:DefIs P w K g base n "is_made_of" qak qL):DefIs P w K g base (n+1) "is_name" qaa qP:=by
 obtain⟨o,b,p⟩:=T.uI;refine DefIs.of T.jA Um (λvs H Q E h=>?_) (λf r A outer s H vs Q E m h=>?_)
 ·obtain⟨x,rfl,_⟩:=h
  rfl
 obtain⟨x,rfl,l,k⟩:=h;refine(bA (aH (aO (iV (pd a m (pc (pv 0) (pc (F7 T.uG) (pc (sF T.uB) pN aA) aA) aA)) (iG (dI W3 (pv 0) (sG b) (by with_unfolding_all rfl)))))) ?_);refine(aE (iB x (bB l (λu j=>(aM ?_)))));have e:=k u j;rw[O2]at e;refine bC (λc=>?_) (λc=>?_)
 ·refine(dB o (bB (.inr (p _)) (bB (by walk_at"k") ?_)))
  rw[show eU x letters 6=true from c,Bool.true_and,<- Nv]at e;exact e
 ·rw[show eU x letters 6=false from Bool.eq_false_iff.mpr c,Bool.false_and]at e
  exact e
def Po{x:Str}(h:1<=x.length):cV x.cps.toList 0=some ((L x).getD 0 0):=by
 have:0<x.cps.toList.length:=by rw[Array.length_toList];exact h
 refine eQ (j:=0) ?_;rw[bV this];show _=some ((L x).getD 0 0);rw[List.getD_eq_getElem?_getD,show(L x)[0]?=some x.cps.toList[0] from bV this];rfl
def Jo(T:Tx K l)(a:DefIs P w K l base n "is_made_of" qak qL):DefIs P w K l base (n+1) "is_number" qaa wM:=by
 refine DefIs.of T.jB W4 (λvs H Q E h=>?_) (λf u A outer s H vs Q E p h=>?_)
 ·obtain⟨x,rfl,_⟩:=h
  rfl
 obtain⟨x,rfl,o,k⟩:=h;refine(bA (aH (aO (iV (pd a p (pc (pv 0) (pc (F7 T.uH) (pc (sF T.uC) pN aA) aA) aA)) (iG (Df (dI bQ (pv 0) pS (nM _)) (iG (dI pX (aL xX (pv 0) aB (λ_ _=>Z)) pS (nM _)))))))) ?_);refine(aE (iB x (bB o (λy m=>(aM ?_)))));have K1:=k y m;rw[Te]at K1;refine bC (λc=>?_) (λc=>?_)
 ·have b:eU x oH 10=true:=c
  rw[b,Bool.true_and]at K1
  have r:1<=x.length:=by
   unfold eU at b;simp only[Bool.and_eq_true,decide_eq_true_eq]at b;exact b.1.1
  refine(bE Z Z ?_);refine bC (λj=>?_) (λj=>?_)
  ·have g:V.str x=V.str (S "0"):=z6 j
   rw[cM (V.str.inj g),Bool.true_or]at K1;exact K1
  ·have g:¬V.str x=V.str (S "0"):=of_decide_eq_false (Bool.eq_false_iff.mpr j)
   rw[eI (λe=>g (congrArg V.str e)),Bool.false_or]at K1;refine(aE (cO x 0 ⟨Z,(aV (aI (by omega)) (Po r) ⟨Z,?_⟩)⟩))
   have e:decide (V.str (⟨#[(L x).getD 0 0]⟩:Str)=V.str (S "0"))=decide ((⟨#[(L x).getD 0 0]⟩:Str)=S "0"):=by
    rw[Bool.eq_iff_iff];simp
   rw[<- e]at K1;exact K1
 ·rw[show eU x oH 10=false from Bool.eq_false_iff.mpr c,Bool.false_and]at K1
  exact K1
end
def iH(R:D->Tr->Prop):Sp:=λvs H Q _=>∃v d t,vs=[v]/\RelD H v d/\R d t/\∀H',Same H H'->Q (aJ t) H'
def tE:Sp:=λvs H Q _=>∃a ts,vs=[.ref a]/\H a=some (.lst (ts.map aJ))/\(Tr.l ts).cs.length<=3000000/\∀H',Same H H'->Q (aJ (.l ts)) H'
def Ff(R:D->Tr->Prop):Sp:=λvs H Q _=>∃v d ts,vs=[v]/\RelD H v d/\R d (.l ts)/\∀a H',Same H H'->H' a=some (.lst (ts.map aJ))->Q (.ref a) H'
def Fh(R:D->Tr->Prop):Sp:=λvs H Q _=>∃a us ds ts,vs=[.ref a]/\H a=some (.tup us)/\RelDs H us ds/\All2 R ds ts/\ds.length<=1000/\∀b H',Same H H'->H' b=some (.lst (ts.map aJ))->Q (.ref b) H'
def Am{i:Int}(h:i.natAbs<2 ^ 64):i.natAbs.log2<1920:=by
 by_cases h0:i.natAbs=0
 ·rw[h0];decide
 ·have:=(Nat.log2_lt h0).mpr h
  omega
theorem gD(ts:List Tr):ts.map aJ=(ts.map aW).map V.str:=by
 rw[List.map_map];rfl
section
variable {P:Program}{w:World}{K:Fg}{mg:Str->Option Value}{base:Heap}{n m:Nat}
def Be(T:Tx K l):DefIs P w K l base (n+1) "bracketed" ["texts"] tE:=by
 refine DefIs.of T.jF sc_bracketed (λvs H Q E h=>?_) (λf o A outer s H vs Q E p h=>?_)
 ·obtain⟨x,y,rfl,_⟩:=h
  rfl
 obtain⟨a,ts,rfl,j,hz,k⟩:=h;have nd:=sc_bracketed.nd
 refine⟨_,(aF (bI (i:=1) nd Z (by first |exact Or.inl Z |exact Or.inr rfl) (dJ PySem.F.plainAttrs_str PySem.F.slot_str_join PySem.F.type_str_join gZ pS (pc (pv 0) pN aA)))
   (aH (aO (wA (lH (pZ (pv 1) (lH vO))))))),?_⟩
 rw[gD]at j;have z:=B4 ts;have u:=D8 ts;have r:=pB ts;have b:(Txt.join (S " ") (ts.map aW)).length=(bs ts).tail.length:=by rw[<- dM,Aw]
 refine(eS Z (eW (S " ") a (ts.map aW) Z Z (zC j) ?_ ?_))
 ·have e:(S " ").length=1:=by walk_at"k"
  rw[e,aR];omega
 have c:(Str.empty++S "(").length=1:=by walk_at"k"
 have g:(S ")").length=1:=by walk_at"k"
 refine(eS (aI (by show(Str.empty++S "(").length<=_;omega)) (bA Z (fM (aI (by rw[b];omega)) ?_ ?_ ?_ ?_)))
 ·refine aI ?_
  rw[Str.length_append,show(Str.empty++Str.ofString "(").length=1 from c,b];omega
 ·refine aI ?_
  rw[Str.length_append,Str.length_append,show(Str.empty++Str.ofString "(").length=1 from c,show(Str.ofString ")").length=1 from g,b];omega
 ·refine aI ?_
  rw[Str.length_append,Str.length_append,show(Str.empty++Str.ofString "(").length=1 from c,show(Str.ofString ")").length=1 from g,b];omega
 ·have:=k H (Same.refl _)
  unfold aJ at this;rw[<- Jk]at this;rw[Str.empty_append];exact this
def Wk(T:Tx K r)(R:D->Tr->Prop)(b:DefIs P w K r base n "term_text" qae (iH R)):DefIs P w K r base (n+1) "term_texts" ["terms"] (Fh R):=by
 refine DefIs.of T.jH Wm (by walk_at"l") (λf M A outer s H vs Q E I h=>?_);obtain⟨a,us,ds,ts,rfl,y,hd,z,l,k⟩:=h;refine(bA (aH (aO (iP qae [none] Z (by kernel_rfl) (iW (pv 0)) (λ_ _ _ _=>(bS (i:=0) (by show List.Nodup (qae:List Str);decide +kernel) Z (Or.inl Z))) (λ_ _ _ _=>eN) (λ_ _ _ _=>(pd b I (pc (pv 0) pN aA)))))) ?_);refine(nN ⟨_,zB y⟩ ?_);have U:=hd.length;have O:=z.length;refine wI (j:=0) (xs:=us) (λi ys e=>Same H e/\ys=(ts.take i).map aJ) (by rfl) ⟨Same.refl _,Z⟩ (cQ (by omega)) (λi ys e _ p=>zB (p.1 _ _ y)) ?_ ?_
 ·rintro i x ys e u l ⟨c,rfl⟩
  obtain⟨d,o,rd⟩:=hd.get u;obtain⟨t,g,rt⟩:=z.get o;have hi:i<us.length:=(dC u).1;refine(gC x d t Z (rd.same c _) rt (λY C=>hZ hi l ⟨c.trans C,?_⟩));rw[fH,g];simp
 ·rintro ys e l ⟨c,rfl⟩ D J
  refine k D _ (c.trans (zA J _)) ?_;rw[aC,dR (by omega)]
def Hy(R:D->Tr->Prop):Sp:=λvs H Q _=>∃v d t,vs=[v]/\RelD H v d/\mT R d t/\t.cs.length<=3000000/\∀H',Same H H'->Q (aJ t) H'
theorem dD(x:Str):aJ (tx x)=.str x:=by
 unfold aJ;rw[Re]
def Ln:3<=sizeLine:=by decide
theorem few{n:Nat}(h:n<=100):n<=sizeLine:=zY h (by decide)
def Ve(T:Tx K o)(R:D->Tr->Prop)(b:DefIs P w K o base n "term_text" qae (iH R))(c:DefIs P w K o base n "bracketed" ["texts"] tE):DefIs P w K o base (n+1) "arm_text" ["arm"] (Hy R):=by
 refine DefIs.of T.jI Vl (by walk_at"l") (λf O A outer s H vs Q E p h=>?_);obtain⟨v,d,t,rfl,C,⟨g,x,e,j,hg,Y,J,rfl,rfl⟩,hz,k⟩:=h;obtain⟨a,us,rfl,M,_,_,rfl,rfl,_,_,rfl,rfl,r,_,rfl,z,rfl⟩:=C;have hS:SqT K H a [.str g,.str x,r]:=zB M;refine(bA (aH (aO (pd c p (pc (cA (pc (aL bO (pv 0) aB (λ_ _=>Z)) (pc (aL bO (pv 0) aB (λ_ _=>Z)) (pc (pd b p (pc (aL bO (pv 0) aB (λ_ _=>Z)) pN aS)) pN aZ) aS) aS)) pN oP)))) ?_);walk_at"rd";refine(dY e ⟨j,(aV z J (λH1 y=>⟨Ln,λl I=>?_⟩))⟩);refine(dW l ([tx g,tx x,j]) Z ?_ hz (λU u=>k U (y.trans ((zA I _).trans u))));rw[aC];show some (HO.lst [V.str g,V.str x,aJ j])=some (HO.lst [aJ (tx g),aJ (tx x),aJ j]);rw[dD,dD]
def Jr (T:Tx K y) (R:D->Tr->Prop) (hz:∀d t,R d t->t.cs.length<=3000000) (b:DefIs P w K y base n "inner_texts" qae (Ff R)) (c:DefIs P w K y base n "bracketed" ["texts"] tE)
  (hN:∀d t,R d t->∃ts a r,t=.l ts/\d=.tup (.str a::r)/\a≠S "num"/\a≠S "box"):DefIs P w K y base (n+1) "term_text" qae (iH λd t=>dF d t\/R d t):=by
 refine DefIs.of T.jE W8 (by walk_at"l") (λf a0 A outer s H vs Q E J h=>?_);obtain⟨v,d,t,rfl,p,o,k⟩:=h
 refine⟨_,(aF (bM (pR bQ (aL bO (pv 0) aB (λ_ _=>Z)) pS (nM _)) (aH (aO (iQ (call_str_int.or Jl) Z T.uW PyProof.Rows.boot_str (pc (aL bO (pv 0) aB (λ_ _=>Z)) pN aS)))) pQ)
   (aF (bM (pR bQ (aL bO (pv 0) aB (λ_ _=>Z)) pS (nM _)) (aH (aO (aL bO (pv 0) aB (λ_ _=>Z)))) pQ)
   (aH (aO (pd c J (pc (pd b J (pc (pv 0) pN aA)) pN aZ)))))),?_⟩
 rcases o with(⟨i,i0,i1,rfl,rfl⟩ |⟨x,C,rfl,rfl⟩) |o
 ·obtain⟨a,us,rfl,g,_,_,rfl,rfl,_,_,rfl,rfl,rfl⟩:=p
  have u:SqT K H a [.str (S "num"),.int i]:=zB g;walk_at"rd";refine .inl (bH i Z (Am (by omega)) ?_);have:=k H (Same.refl _);rw[dD]at this;exact this
 ·obtain⟨a,us,rfl,g,_,_,rfl,rfl,_,_,rfl,rfl,rfl⟩:=p
  have u:SqT K H a [.str (S "box"),.str x]:=zB g;walk_at"rd";have:=k H (Same.refl _);rw[dD]at this;exact this
 ·have z:=hz d t o
  obtain⟨ts,h0,r,rfl,rfl,hn,Y⟩:=hN d t o;have I:=p;obtain⟨a,us,rfl,g,_,rest,rfl,rfl,_⟩:=p;have u:SqT K H a (.str h0::rest):=zB g;have C:cV (V.str h0::rest) 0=some (.str h0):=eQ (j:=0) Z;refine(bF u C (lF Z (iteKF (eI λe=>hn (V.str.inj e)) ?_)));refine(bF u C (lF Z (iteKF (eI λe=>Y (V.str.inj e)) ?_)));refine(mW (dY ts (aV I o (λl H1 O U=>?_))));exact(dW l ts Z U z (λH2 M=>k H2 (O.trans M)))
def eV:Sp:=λvs H Q _=>vs=[.bl true]/\Q .non H
def wD:Sp:=λvs H Q _=>∃p as st k,vs=[.ref p,.int k]/\PileAt H p as st/\0<=k/\k.toNat<st.length/\bJ st<=3900000/\(∀top r,st=top::r->1<=top.length)/\∀as' H',PileAt H' p as' (gV k.toNat st)->Same (aQ (p::as) H) (aQ (p::as') H')->Q .non H'
def vL:Sp:=λvs H Q _=>∃p as st st' x,vs=[.ref p,.str x]/\PileAt H p as st/\1<=st.length/\st.length<=21/\bJ st<=3800000/\x.length<=3000000/\bZ (L x) st=some st'/\∀as' H',PileAt H' p as' st'->Same (aQ (p::as) H) (aQ (p::as') H')->Q .non H'
def sV:Sp:=λvs H Q _=>∃x ts,vs=[.str x]/\L x=(bs ts).tail/\ts≠[]/\nZ ts/\eT ts<=20/\x.length<=3000000/\∀a us H',Same H H'->H' a=some (.lst us)->RelTs H' us ts->Q (.ref a) H'
def fZ{c:Bool}(h:c=true):[V.bl c]=[V.bl true]:=by rw[h]
def vY(T:Tx K a):DefIs P w K a base (n+1) "need" qac eV:=by
 refine DefIs.of T.jK On (λvs H Q E h=>?_) (λf b A outer s H vs Q E c h=>?_)
 ·obtain⟨rfl,_⟩:=h
  rfl
 obtain⟨rfl,k⟩:=h;refine(bA (aH (bM (mB (fO (pv 0))) (aH Ry) pQ)) ?_);refine(aE (aM (iteF ?_)));exact k
def Ao{as:List Addr}{a:Addr}:cV (((a::as).map V.ref).reverse) (-1)=some (.ref a):=by
 rw[List.map_cons,List.reverse_cons];exact Qm _ _
def Jx(T:Tx K mg)(I:DefIs P w K mg base n "need" qac eV):DefIs P w K mg base (n+1) "close_brackets" qas wD:=by
 refine DefIs.of T.jN sc_close_brackets (by walk_at"l") (λf a8 A outer s H vs Q E hr h=>?_);obtain⟨p,as,st,k,rfl,hp,k0,k1,a3,a2,q⟩:=h;have nd:=sc_close_brackets.nd
 refine⟨_,(aF (cI (pd I hr (pc (dI xU (pv 1) (bP dH Z T.uR zE (pc (pv 0) pN aA)) (nM _)) pN hH)))
   (aH (G2 zF (pR rX (pv 1) aB (nM _))
   (aF (bI (i:=2) nd Z (by first |exact Or.inl Z |exact Or.inr rfl) (Dy zD PySem.F.slot_list_pop PySem.F.type_list_pop Dx (pv 0)))
   (aF (cI (dJ zD zH zG oQ (aL iL (pv 0) (xV yM aB) (λ_ _=>Z)) (pc (pv 2) pN aA)))
   (aH (bI (i:=1) nd Z (by first |exact Or.inl Z |exact Or.inr rfl) (aU oC (pv 1) aB)))))))),?_⟩
 have hl:=hp.len;refine(aE (dB p (bB (.inl (zC hp.pile)) (eZ ?_ ?_))))
 ·exact fZ (cM (by rw[List.length_reverse,aR];omega))
 refine Rm (λσ H'=>∃(j:Int) (v:Option V) (a5:List Addr) (st':aX),σ=[some (.ref p),some (.int j),v]/\0<=j/\PileAt H' p a5 st'/\j.toNat<st'.length/\gV j.toNat st'=gV k.toNat st/\bJ st'<=3900000/\(∀top r,st'=top::r->1<=top.length)/\Same (aQ (p::as) H) (aQ (p::a5) H'))
  (λσ _=>match σ with |[_,some (.int j),_]=>j.toNat |_=>0) (fQ k none as st Z k0 hp k1 (aV a3 a2 (Same.refl _))) ?_ ?_
 ·rintro σ H1 ⟨j,v,a4,J,rfl,j0,g,M,ec,U,O,a0⟩
  refine(aE (eC (aM ?_)));refine bC (λc=>?_) (λc=>?_)
  ·have c':(0:Int)<j:=z6 c
   have l:=g.len
   match a4,J,g,M,ec,U,O,l with
   |[],J,g,M,_,_,_,l=>simp at l;omega
   |[a],J,g,M,_,_,_,l=>simp at l;omega
   |a::b::C,[],g,M,_,_,_,l=>simp at l
   |a::b::C,[top],g,M,_,_,_,l=>simp at l
   | a::b::C,top::u::Y,g,M,ec,U,O,l=>
    have pb:b≠p:=λe=>g.np (by rw[<- e];simp)
    obtain⟨vs,hb,a1⟩:∃vs,H1 b=some (.lst vs)/\vs.length=u.length:=by
     cases g.lists with
     |cons h1 h2=>cases h2 with
      |cons h2 h3=>obtain⟨vs,e,r⟩:=h2;exact(bL vs e r.length)
    obtain⟨a7,a6⟩:=g.shuts hb;have el:((a::b::C).map V.ref).reverse=((b::C).map V.ref).reverse++[.ref a]:=by simp
    have o:=g.pile;rw[el]at o;refine(cJ (.inl (dZ (zC o))) ⟨p,(dY (.ref a) ⟨Z,(aV o ?_ ?_)⟩)⟩)
    ·rw[bK,List.length_singleton,Nat.add_sub_cancel,List.getElem?_append_right (zZ _),Nat.sub_self]
     rfl
    rw[List.dropLast_concat];refine(nC ⟨p,(dY (-1) ⟨.ref b,Z,(aV (zC aC) Ao (eS (.inl ⟨Z,vs,zC (by rw[aG pb];exact hb)⟩) (bG b vs (rB (.ref a) Z ?_ ?_ ?_))))⟩)⟩)
    ·rw[aG pb];exact hb
    ·have:u.length<=bJ (top::u::Y):=by simp[bJ];omega
     rw[a1];exact cQ (by omega)
    refine(aE (eC ?_));refine⟨(iB (j-1) ⟨_,(aV (by omega) a7 (fM ?_ ?_ ?_ ?_ (a0.trans a6)))⟩),?_⟩
    ·simp at M⊢;omega
    ·rw[<- ec]
     have ej:j.toNat=(j-1).toNat+1:=by omega
     rw[ej];rfl
    ·have h1:=O top (u::Y) Z
     simp[bJ]at U⊢;omega
    ·intro t r e
     cases e;simp
    ·show(j-1).toNat<j.toNat
     omega
  ·have c':¬(0:Int)<j:=of_decide_eq_false (Bool.eq_false_iff.mpr c)
   have ej:j.toNat=0:=by omega
   rw[ej]at ec;exact q a4 H1 (by rw[<- ec];exact g) a0
 ·rintro σ H1 Q1 Q2 hQ ⟨x,e,y,z,e1,e2,c,e3,h⟩
  exact(bL x e (cX y z e1 (jAEA e2 c e3 (hQ _ _ h))))
theorem O3:S ")"=⟨#[41]⟩:=by walk_at"k"
theorem Mj:S "("=⟨#[40]⟩:=by walk_at"k"
def Jd(T:Tx K mg)(U:DefIs P w K mg base n "need" qac eV)(l:DefIs P w K mg base n "close_brackets" qas wD):DefIs P w K mg base (n+1) "put_word" qar vL:=by
 refine DefIs.of T.jM sc_put_word (by walk_at"l") (λf al A outer s H vs Q E hr h=>?_);obtain⟨p,as,st,st',x,rfl,hp,l1,ak,a0,hx,j,q⟩:=h;have nd:=sc_put_word.nd
 refine⟨_,(aF (bI (i:=2) nd Z (by first |exact Or.inl Z |exact Or.inr rfl) (dJ PySem.F.plainAttrs_str PySem.F.slot_str_rstrip PySem.F.type_str_rstrip So (pv 1) (pc pS pN so)))
   (aF (bI (i:=3) nd Z (by first |exact Or.inl Z |exact Or.inr rfl) (aU oC (bP Bd Z T.uR zE (pc (pv 1) pN aA)) (bP Bd Z T.uR zE (pc (pv 2) pN aA))))
   (aF (bM (fO (dJ PySem.F.plainAttrs_str PySem.F.slot_str_startswith PySem.F.type_str_startswith Wj (pv 2) (pc pS pN so))) (aF (cI (pd U hr (pc (dI pW (bP dH Z T.uR zE (pc (pv 0) pN aA)) (sF T.uD) (nM _)) pN hH)))
   (aF (cI (dJ zD zH zG oQ (pv 0) (pc (cA pN) pN oP)))
   (aH (bI (i:=2) nd Z (by first |exact Or.inl Z |exact Or.inr rfl) (iN O4 (pv 2) (iK aB) iJ))))) pQ)
   (aF (cI (dJ zD zH zG oQ (aL iL (pv 0) (xV yM aB) (λ_ _=>Z)) (pc (pv 2) pN aA)))
   (aH (cI (pd l hr (pc (pv 0) (pc (pv 3) pN aA) aA)))))))),?_⟩
 have u:=Jg x;have a7:=V7 x;rw[<- O3]at u a7;have ah:(eJ (L x)).length=(Txt.rstripChars x (S ")")).length:=by rw[<- u,dM]
 have ag:=dM x;have aa:((as.map V.ref).reverse).length=st.length:=by rw[List.length_reverse,aR,hp.len]
 refine(cJ Z ((cT (S ")") Z ⟨aI (by omega),?_⟩)));refine(oJ x Z (aI (by omega)) ((mW ((bB (aI (by show(Txt.rstripChars x (S ")")).length<=_;omega)) (eC ?_))))));refine(cJ Z (cT (S "(") Z (aM ?_)));have J:=Vy (Txt.rstripChars x (S ")"));rw[u,<- Mj]at J
 have Y:∀(b:Str) (C:List Addr) (z:aX) (H1:Hp),PileAt H1 p C z->1<=z.length->bJ z<=3800000->fY (x.length-(eJ (L x)).length) (push (.w (L b)) z)=some st'->Same (aQ (p::as) H) (aQ (p::C) H1)->
   ∃a O,C=a::O/\∃vs,H1 a=some (.lst vs)/\vs.length<sizeLine/\∃g,PileAt (upd H1 a (.lst (vs++[.str b]))) p C g/\(x.length-(eJ (L x)).length)<g.length/\bJ g<=3900000/\(∀top r,g=top::r->1<=top.length)/\gV (x.length-(eJ (L x)).length) g=st' ∧
    Same (aQ (p::as) H) (aQ (p::C) (upd H1 a (.lst (vs++[.str b])))):=by
  intro b C z H1 y h1 a9 hc sm
  match C,z,y,h1,a9,hc with
  |[],z,y,h1,_,_=>have:=y.len;simp at this;omega
  |a::O,[],y,h1,_,_=>simp at h1
  | a::O,top::g,y,h1,a9,hc=>
   obtain⟨vs,ha,hr⟩:∃vs,H1 a=some (.lst vs)/\vs.length=top.length:=by
    cases y.lists with
    |cons g1 _=>obtain⟨vs,e,r⟩:=g1;exact(bL vs e r.length)
   have af:=y.push (v:=.str b) (t:=.w (L b)) ha (by show V.str b=V.str (fU (L b));rw[pV]);have ht:=@top_le top g
   have ab:(x.length-(eJ (L x)).length)<((top++[.w (L b)])::g).length:=by
    unfold fY at hc;split at hc
    ·assumption
    ·cases hc
   refine⟨a,(aM (bH vs ha (cQ (by omega)) (bA af (fM ab ?_ ?_ ?_ (sm.trans PileAt.push_same)))))⟩
   ·have:=Ae (.w (L b)) (top::g)
    exact zY this (by omega)
   ·intro t r e;cases e;simp
   ·unfold fY at hc
    rw[if_pos (show x.length-(eJ (L x)).length<(push (.w (L b)) (top::g)).length from ab)]at hc;exact qB hc
 have I:(x.length:Int)-((Txt.rstripChars x (S ")")).length:Nat)=((x.length-(eJ (L x)).length:Nat):Int):=by omega
 unfold bZ hV at j;rw[ag]at j;by_cases ho:(eJ (L x)).head?=some 40
 ·rw[if_pos ho]at j
  rw[cM ho]at J;refine iteBT J ?_;by_cases ac:st.length<=20
  ·rw[if_pos ac]at j
   refine(dB p (bB (.inl (zC hp.pile)) (eZ ?_ ?_)))
   ·exact fZ (cM (by rw[aa];omega))
   refine(aE (jAA (.inl (dZ (zC hp.pile))) (qR _) (λnn hn=>⟨p,_,(rB (.ref nn) Z (zA hn _ _ _ hp.pile) ?_ ?_)⟩)))
   ·rw[aa];exact cQ (by omega)
   obtain⟨y,ae⟩:=hp.opens hn
   have ai:1<=(Txt.rstripChars x (S ")")).length:=by
    rw[<- ah]
    cases hh:eJ (L x) with
    |nil=>rw[hh]at ho;cases ho
    |cons c r=>simp
   have aj:L (Txt.slice (Txt.rstripChars x (S ")")) (some 1) none)=(eJ (L x)).tail:=by rw[Ur _ ai,u]
   obtain⟨a,O,e1,vs,ha,a3,g,a6,hk,a5,a4,ec,a1⟩:=Y (Txt.slice (Txt.rstripChars x (S ")")) (some 1) none) _ _ _ y (by simp) (by simp[bJ]at a0⊢;omega) (by rw[aj];exact j) ae;refine(nC (eB (aI (by omega)) ?_));have o:=y.pile;rw[e1]at o;refine(nC ⟨p,(dY (-1) ⟨.ref a,Z,(aV (zC o) Ao (eS (.inl (dZ (zC ha))) (sS vs Z ha a3 ?_)))⟩)⟩);refine(aE (oA p (dY g (lV Z a6 ?_ (jAAA ?_ a5 a4 (λa8 H' M a2=>?_))))))
   ·rw[I];omega
   ·rw[I];exact hk
   ·rw[I,Int.toNat_natCast,ec]at M
    exact q a8 H' M (a1.trans a2)
  ·rw[if_neg ac]at j
   cases j
 ·rw[if_neg ho]at j
  rw[eI ho]at J;refine iteBF J ?_;obtain⟨a,O,e1,vs,ha,a3,g,a6,hk,a5,a4,ec,a1⟩:=Y (Txt.rstripChars x (S ")")) _ _ _ hp l1 a0 (by rw[u];exact j) (Same.refl _);have o:=hp.pile;rw[e1]at o;refine(nC ⟨p,(dY (-1) ⟨.ref a,Z,(aV (zC o) Ao (eS (.inl (dZ (zC ha))) (sS vs Z ha a3 ?_)))⟩)⟩);refine(aE (oA p (dY g (lV Z a6 ?_ (jAAA ?_ a5 a4 (λa8 H' M a2=>?_))))))
  ·rw[I];omega
  ·rw[I];exact hk
  ·rw[I,Int.toNat_natCast,ec]at M
   exact q a8 H' M (a1.trans a2)
def V8{a b:List (List Nat)}{st r:aX}(h:bW (a++b) st=some r):∃s,bW a st=some s:=by
 rw[xG]at h
 cases e:bW a st with
 |none=>rw[e]at h;cases h
 |some s=>exact⟨s,Z⟩
def Je(T:Tx K mg)(O:DefIs P w K mg base n "need" qac eV)(j:DefIs P w K mg base n "put_word" qar vL):DefIs P w K mg base (n+1) "trees_of" qaa sV:=by
 refine DefIs.of T.jL sc_trees_of (by walk_at"l") (λf al A outer s H vs Q E hr h=>?_);obtain⟨x,ts,rfl,hx,ag,hg,hn,ai,q⟩:=h;have nd:=sc_trees_of.nd;obtain⟨ws,a1,U⟩:=V6 ag hg hn hx;rw[<- nH]at a1
 refine⟨_,(aF (bI (i:=1) nd Z (by first |exact Or.inl Z |exact Or.inr rfl) (cA (pc (cA pN) pN oP)))
   (aF (gX zF Z (mG (dJ PySem.F.plainAttrs_str PySem.F.slot_str_split PySem.F.type_str_split A8 (pv 0) (pc pS pN so))) (bS (i:=2) nd Z (by first |exact Or.inl Z |exact Or.inr rfl))
   (aH (cI (pd j hr (pc (pv 1) (pc (pv 2) pN aA) aA)))))
   (aF (cI (pd O hr (pc (dI bQ (bP dH Z T.uR zE (pc (pv 1) pN aA)) aB (nM _)) pN hH)))
   (aH (aO (aL iL (pv 1) aB (λ_ _=>Z))))))),?_⟩
 refine⟨qR _,λl h0=>⟨(by walk_at"s"),λp M=>?_⟩⟩;have ap:l≠p:=λe=>by rw[<- e,aC]at M;cases M
 have a2:PileAt (upd (upd H l (.lst [])) p (.lst [.ref l])) p [l] [[]]:=
  ⟨by rw[aC];rfl,by simp,by simp[ap.symm],.cons (bL ([]) (by rw[aG ap,aC]) Z) .nil⟩
 have a9:Same H (aQ [p,l] (upd (upd H l (.lst [])) p (.lst [.ref l]))):=λb o e=>by
  have b1:b≠l:=λz=>by rw[z,h0]at e;cases e
  have b2:b≠p:=λz=>by rw[aG ap.symm]at M;rw[z,M]at e;cases e
  exact hide_get.mpr ⟨by simp[b1,b2],by rw[aG b2,aG b1];exact e⟩
 have ac:(Txt.split x (S " ")).length=ws.length:=by rw[<- a1,aR]
 have aj:ws.length<=3000002:=by
  have:=Wq x;omega
 refine(cJ Z (cT (S " ") Z (jAA (by walk_at"k") (aI (by omega)) (λwl c=>(eB ⟨_,zC aC⟩ ?_)))))
 have ab:∀(i:Nat) z,((Txt.split x (S " ")).map V.str)[i]?=some z->∃y,z=.str y/\ws[i]?=some (L y)/\y.length<=3000000:=λi z e=>by
  rw[dA]at e
  cases e1:(Txt.split x (S " "))[i]? with
  |none=>rw[e1]at e;cases e
  | some y=>
   rw[e1]at e;cases e;refine(eB ?_ ?_)
   ·rw[<- a1,dA,e1];rfl
   ·have:=Wu x y (cZ e1)
    omega
 have a6:wl≠p:=λe=>by rw[e,aC]at c;cases c
 have a7:wl≠l:=λe=>by rw[e,aG ap,aC]at c;cases c
 refine Ag (xs:=(Txt.split x (S " ")).map V.str) (λi σ I=>∃as st v,σ=[some (.str x),some (.ref p),v]/\PileAt I p as st/\bW (ws.take i) [[]]=some st/\1<=st.length/\st.length<=21/\bJ st<=i/\aQ (p::as) I wl=some (.lst ((Txt.split x (S " ")).map V.str))/\Same H (aQ (p::as) I)) ?_ ?_ ?_ ?_
 ·have a8:Same (aQ [p,l] (upd (upd H l (.lst [])) p (.lst [.ref l]))) (aQ [p,l] (upd (upd (upd H l (.lst [])) p (.lst [.ref l])) wl (.lst ((Txt.split x (S " ")).map V.str)))):=λb o e=>by
   obtain⟨e1,e2⟩:=hide_get.mp e;exact hide_get.mpr ⟨e1,zA c _ _ _ e2⟩
  refine(lZ ([l]) ([[]]) none Z ⟨zA c _ _ _ a2.pile,a2.nd,a2.np,.cons (bL ([]) (zA c _ _ _ (by rw[aG ap,aC])) Z) .nil⟩ (bB (by simp) (jAAA (by simp) (by simp[bJ]) (hide_get.mpr ⟨by simp[a6,a7],aC⟩) (a9.trans a8))))
 ·rintro i σ I _ ⟨as,st,v,_,_,_,_,_,_,hw,_⟩
  exact zC (hide_get.mp hw).2
 ·rintro i z σ I hz ⟨as,st,v,rfl,C,J,l1,Y,ae,hw,sm⟩
  obtain⟨y,rfl,hy,aa⟩:=ab i z hz;have hi:i<ws.length:=(dC hy).1;obtain⟨st',g⟩:∃s,bW (ws.take (i+1)) [[]]=some s:=V8 (b:=ws.drop (i+1)) (by rw[List.take_append_drop];exact U)
  have r:bZ (L y) st=some st':=by
   rw[fH,hy]at g;simp only[Option.toList_some]at g;rw[T7,J]at g;exact g
  refine(fS p as (eW st st' y Z C l1 Y (jAAA (by omega) aa r (λah H2 af a4=>?_))));have a5:=Nz r l1 Y;have ak:=Ot r;exact(cO ah st' (aV af g (fM a5.1 a5.2 (by omega) (a4 _ _ hw) (sm.trans a4))))
 ·rintro σ I ⟨as,st,v,rfl,C,J,l1,Y,ae,hw,sm⟩
  rw[aR,ac,List.take_length,U]at J;cases J;have hl:=C.len;obtain⟨a,rfl⟩:=Xf hl
  cases C.lists with
  |cons g1 _=>
   obtain⟨vs,ha,rv⟩:=g1;have u:I p=some (.lst [.ref a]):=C.pile;refine(mI p Z (.inl (zC u)) Z Z ?_);refine(dB p (bG 0 (.ref a) ⟨Z,(bB (zC u) ⟨Z,?_⟩)⟩));have a3:Same (aQ [p,a] I) I:=λb o e=>(hide_get.mp e).2;exact q a vs I (sm.trans a3) ha (rv.same a3 _)
def iY:Sp:=λvs H Q _=>∃x:Str,vs=[.str x]/\Name x/\∀H',Same H H'->Q (.str x) H'
def xB(K:Fg):Sp:=λvs H Q _=>∃(x:Str) (mr:Addr) (d:D),vs=[.str x,.ref mr]/\(∀H,SqT K H mr [.str (S "it")])/\dF d (tx x)/\∀v H',Same H H'->RelD H' v d->Q v H'
def Js(K:Fg)(R:D->Tr->Prop):Sp:=λvs H Q _=>∃a mr us ts ds,vs=[.ref a,.ref mr]/\(∀H,SqT K H mr [.str (S "it")])/\H a=some (.lst us)/\RelTs H us ts/\All2 R ds ts/\ts.length<=1000/\∀p ys H',Same H H'->H' p=some (.tup ys)->RelDs H' ys ds->Q (.ref p) H'
def lM(K:Fg)(R:D->Tr->Prop):Sp:=λvs H Q _=>∃v mr d t,vs=[v,.ref mr]/\(∀H,SqT K H mr [.str (S "it")])/\RelT H v t/\R d t/\∀v' H',Same H H'->RelD H' v' d->Q v' H'
def gB{H:Hp}{v:V}{x:Str}(h:RelT H v (tx x)):v=.str x:=by
 have:v=.str (fU (L x)):=h;rw[pV]at this;exact this
def Q7{x:Str}(h:Name x):x.length<=6:=by
 have:=h.le;rw[show x.cps.toList.length=x.length by simp[Str.length]]at this;exact this
def Vt{x:Str}(h:Bx x):fD (L x)=false:=by
 rcases h with h |rfl
 ·exact Ww h
 ·decide +kernel
def N8{x:Str}(h:Name x):lP (.str x) [.str (Str.ofString "it")]=false:=by
 have ne:x≠S "it":=λe=>by rw[e]at h;exact absurd h (show ¬gK (S "it").cps.toList=true by walk_at"k")
 unfold lP;show((Str.ofString "it" == x) || false)=false;rw[Bool.or_false];exact beq_eq_false_iff_ne.mpr λe=>ne e.symm
def Bf(T:Tx K c)(b:DefIs P w K c base n "need" qac eV)(a:DefIs P w K c base n "is_name" qaa qP):DefIs P w K c base (n+1) "name_from" qab iY:=by
 refine DefIs.of T.jR W7 (by walk_at"l") (λf o A outer s H vs Q E j h=>?_);obtain⟨x,rfl,g,q⟩:=h
 refine⟨_,(aF (cI (pd b j (pc (iV (bP gU Z T.uQ PyProof.Rows.boot_isinstance (pc (pv 0) (pc (gP T.uW PyProof.Rows.boot_str) pN aA) aA)) (iG (pd a j (pc (pv 0) pN aA)))) pN rN)))
   (aH (aO (pv 0)))),?_⟩
 have:=Q7 g;refine(eE (bA Z (jAAA (λu e=>e) (TyOf.str _) Z (bA Z (iteT ?_)))));refine(oJ x Z (by omega) (λp l=>(eS (fZ g) (q p l))))
def Jp(T:Tx K p)(a:DefIs P w K p base n "name_from" qab iY)(b:DefIs P w K p base n "is_number" qaa wM):DefIs P w K p base (n+1) "leaf_from" qap (xB K):=by
 refine DefIs.of T.jQ W6 (by walk_at"l") (λf M A outer s H vs Q E z h=>?_);obtain⟨x,I,d,rfl,J,o,q⟩:=h
 refine⟨_,(aF (bM (fO (pd b z (pc (pv 0) pN aA))) (aH (aO (cG (pc pS (pc (iQ Vu Z T.uP PyProof.Rows.boot_int (pc (pv 0) pN aA)) pN aZ) so)))) pQ)
   (aF (bM (pR An (pv 0) (pv 1) (by with_unfolding_all rfl)) (aH (aO (cG (pc pS (pc (pv 0) pN aA) so)))) pQ)
   (aH (aO (cG (pc pS (pc (pd a z (pc (pv 0) pN aA)) pN aZ) so)))))),?_⟩
 have inj:∀{y:Str},tx x=tx y->x=y:=λ{y} e=>gI (Tr.w.inj e);rcases o with⟨i,u,r,rfl,e⟩ |⟨y,g,rfl,e⟩
 ·obtain rfl:=inj e
  have hn:=yT u r;have o:(cW i).length<=10:=by rw[<- dM];exact hn
  refine(mW (bB (by omega) (λO j=>(aM (iteBT (U7 u r) ?_)))));refine(mW (rB i (PySem.W.KIN.num_reads u r) (by omega) (by walk_at"s") (λl c=>?_)));exact q _ _ (j.trans (zA c _)) (fR aC Z Z Z Z Z)
 ·obtain rfl:=inj e
  have o:=g.le;rw[show x.cps.toList.length=x.length by simp[Str.length]]at o;refine(mW (bB (by omega) (λO j=>(aM (iteBF (Vt g) ?_)))));refine(aE (dB I (bB (.inr (J _)) (bB (by walk_at"k") (aM ?_)))));rcases g with g |g
  ·refine iteBF (N8 g) ?_
   refine(oJ x Z g (λU C=>⟨(by walk_at"s"),λl c=>?_⟩));exact q _ _ (j.trans (C.trans (zA c _))) (fR aC Z Z Z Z Z)
  ·subst g
   refine iteBT (by walk_at"k") ?_;refine(cJ (by walk_at"s") (λl c=>?_));exact q _ _ (j.trans (zA c _)) (fR aC Z Z Z Z Z)
def Vd (T:Tx K p) (R:D->Tr->Prop) (j:DefIs P w K p base n "need" qac eV) (b:DefIs P w K p base n "name_from" qab iY) (c:DefIs P w K p base n "term_from" qaf (lM K R)) :
  DefIs P w K p base (n+1) "arm_from" qaf (lM K (mT R)):=by
 refine DefIs.of T.jS Vk (by walk_at"l") (λf a0 A outer s H vs Q E r h=>?_);obtain⟨v,mr,d,t,rfl,hm,hv,⟨g,x,e,O,hg,hx,he,rfl,rfl⟩,q⟩:=h;obtain⟨a,us,rfl,y,v0,_,rfl,r0,v1,_,rfl,r1,C,_,rfl,re,rfl⟩:=hv;obtain rfl:=gB r0;obtain rfl:=gB r1;have M:SqL K H a [.str g,.str x,C]:=zC y;have hT:TyOf K H (.ref a) (.type "list"):=TyOf.lst y
 refine⟨_,(aF (cI (pd j r (pc (iV (bP gU Z T.uQ PyProof.Rows.boot_isinstance (pc (pv 0) (pc (gP T.uS zM) pN aA) aA)) (iG (dI bQ (bP dH Z T.uR zE (pc (pv 0) pN aA)) aB (nM _)))) pN rN)))
   (aH (aO (cG (pc (pd b r (pc (aL iL (pv 0) aB (λ_ _=>Z)) pN aS)) (pc (pd b r (pc (aL iL (pv 0) aB (λ_ _=>Z)) pN aS)) (pc (pd c r (pc (aL iL (pv 0) aB (λ_ _=>Z)) (pc (pv 1) pN aA) aS)) pN aZ) aZ) aZ))))),?_⟩
 refine(eE (bA Z (jAAA (λu z=>z) hT Z (bA Z (iteT ?_)))));refine(mI a Z (.inl M) Z (fZ Z) ?_);refine(eD (mE M g Z hg (λH1 I=>?_)));refine(eD (mE (zC (I _ _ y)) x Z hx (λH2 Y=>?_)));have o:=I.trans Y;refine(bF (zC (o _ _ y)) Z (dO C mr e O Z hm (re.same o _) he (λv3 H3 U r3=>⟨(by walk_at"s"),λl J=>?_⟩)));exact q _ _ (o.trans (U.trans (zA J _))) (fR aC Z Z Z Z (bT (r3.same (zA J _) _) Z))
def Mm:∀s∈ops,lP (.str s) [.str (Str.ofString "+"),.str (Str.ofString "-"),.str (Str.ofString "*"),.str (Str.ofString "<"),.str (Str.ofString "=")]=true:=by walk_at"k"
theorem pA(x y:V)(r:List V):bY (x::y::r) (some 2) none=r:=by
 unfold bY
 have a:HT.sIx (x::y::r).length 0 (some 2)=2:=by
  rw[show((2:Int))=((2:Nat):Int) from Z,HT.sIx_nat];simp
 rw[a,HT.sIx_none];show List.take (_-2) r=r;exact dR (by simp)
theorem tP(x:V)(r:List V):bY (x::r) (some 1) none=r:=by
 unfold bY
 have a:HT.sIx (x::r).length 0 (some 1)=1:=by
  rw[show((1:Int))=((1:Nat):Int) from Z,HT.sIx_nat];simp
 rw[a,HT.sIx_none];show List.take (_-1) r=r;exact dR (by simp)
def Hc {R:D->Tr->Prop} {a mr:Addr} {us:List V} {ts:List Tr} {ds:List D} {H:Hp} {s0:Option V} {σ:St} {Q:VK} (ha:H a=some (.lst us)) (hm:(∀H,SqT K H mr [.str (S "it")])) (ht:RelTs H us ts) (hR:All2 R ds ts) (hl:ts.length<=1000)
  (q:∀D vs H',Same H H'->H' D=some (.lst vs)->RelDs H' vs ds->Q (.ref D) H'):gW (pP K a) [none,some 1] (lX 0) dP (xT (lM K R) [] E0 (rY (fA 0) (rY (fA 1) lB))) (s0::some (.ref mr)::σ) H Q:=by
 have e1:=ht.length;have e2:=hR.length;refine sR (j:=0) (xs:=us) (λi ys H'=>Same H H'/\RelDs H' ys (ds.take i)) (by rfl) ⟨Same.refl _,by simp[RelDs]⟩ (cQ (by omega)) (λi ys H' _ p=>zC (p.1 _ _ ha)) ?_ ?_
 ·rintro i x ys H' hx hly ⟨sm,rd⟩
  obtain⟨t,hti,rt⟩:=ht.get hx;have hi:i<us.length:=(dC hx).1;obtain⟨d,hdi⟩:∃d,ds[i]?=some d:=⟨ds[i]'(by omega),bV (by omega)⟩;obtain⟨t',hti',r'⟩:=hR.get hdi;rw[hti]at hti';cases hti';refine(nQ x mr d t (fN hm (rt.same sm _) r' (λv2 H2 s2 r2=>hZ hi hly ⟨sm.trans s2,?_⟩)));rw[fH,hdi];exact(rd.same s2 _).append (bT r2 rfl)
 ·rintro ys H' hly ⟨sm,rd⟩ D hD
  rw[dR (by omega)]at rd;exact q D ys _ (sm.trans (zA hD _)) aC (rd.same (zA hD _) _)
def Ju(T:Tx K e)(R:D->Tr->Prop)(b:DefIs P w K e base n "term_from" qaf (lM K R)):DefIs P w K e base (n+1) "terms_from" qax (Js K R):=by
 refine DefIs.of T.jP Wn (by walk_at"l") (λf z A outer s H vs Q E p h=>?_);obtain⟨a,C,us,ts,ds,rfl,r,g,o,x,u,q⟩:=h;refine(bA (aH (aO (iQ nP Z T.uX zK (pc (iP qaf [none,some 1] Z (by kernel_rfl) (mG (pv 0)) (λ_ _ _ _=>(bS (i:=0) (by show List.Nodup (qaf:List Str);decide +kernel) Z (Or.inl Z))) (λ_ _ _ _=>eN) (λ_ _ _ _=>(pd b p (pc (pv 0) (pc (pv 1) pN aA) aA)))) pN sW)))) ?_);refine(nN ⟨_,zC g⟩ (Hc g r o x u λD vs I j y l=>?_));refine(cX D vs Z (.inl ⟨zC y,λt2 c=>?_⟩));have st:=zA c (.tup vs);exact q t2 vs _ (j.trans st) aC (l.same st _)
def Ek{H:Hp}{Q:VK}{a b:Addr}{x:V}{xs ys:List V}(j:H a=some (.tup (x::xs)))(h:H b=some (.tup ys))(hz:(x::xs).length+ys.length<=sizeLine)(f:ys≠[])(q:∀c e,Same H e->e c=some (.tup (x::xs++ys))->Q (.ref c) e):Dg K (.ref a) (.ref b) H Q:=
 (bG a b (dY ys ⟨Z,(bB (zB j) (fM (zB h) (by simp) hz (λz=>absurd z f) (λ_ p g=>q p _ (zA g _) aC)))⟩))
def Jq (T:Tx K mg) (R:D->Tr->Prop) (I:DefIs P w K mg base n "need" qac eV) (b:DefIs P w K mg base n "name_from" qab iY) (a0:DefIs P w K mg base n "leaf_from" qap (xB K))
  (r:DefIs P w K mg base n "terms_from" qax (Js K R)) (a2:DefIs P w K mg base n "arm_from" qaf (lM K (mT R))) (C:DefIs P w K mg base n "term_from" qaf (lM K R)) :
  DefIs P w K mg base (n+1) "term_from" qaf (lM K λd t=>dF d t\/Node R d t):=by
 obtain⟨o,a7,hO⟩:=T.uJ;refine DefIs.of T.jO sc_term_from (by walk_at"l") (λf ae A outer s H vs Q E hr h=>?_);obtain⟨v,mr,d,t,rfl,hm,hv,hR,q⟩:=h;have nd:=sc_term_from.nd
 refine⟨_,(aF (bM (fO (bP gU Z T.uQ PyProof.Rows.boot_isinstance (pc (pv 0) (pc (gP T.uW PyProof.Rows.boot_str) pN aA) aA))) (aH (aO (pd a0 hr (pc (pv 0) (pc (pv 1) pN aA) aA)))) pQ)
   (aF (bI (i:=2) nd Z (by first |exact Or.inl Z |exact Or.inr rfl) (aL iL (pv 0) aB (λ_ _=>Z)))
   (aF (bM (pR An (pv 2) (sG a7) (by with_unfolding_all rfl)) (aF (cI (pd I hr (pc (dI bQ (bP dH Z T.uR zE (pc (pv 0) pN aA)) aB (nM _)) pN hH)))
   (aH (aO (aU Fi (cG (pc pS (pc (pv 2) pN aA) so)) (pd r hr (pc (iN nG (pv 0) (iK aB) iJ) (pc (pv 1) pN aA) aS)))))) pQ)
   (aF (bM (pR bQ (pv 2) pS (nM _)) (aF (cI (pd I hr (pc (dI vJ (bP dH Z T.uR zE (pc (pv 0) pN aA)) aB (nM _)) pN hH)))
   (aH (aO (cG (pc pS (pc (pd b hr (pc (aL iL (pv 0) aB (λ_ _=>Z)) pN aS)) (pc (pd r hr (pc (iN nG (pv 0) (iK aB) iJ) (pc (pv 1) pN aA) aS)) pN aZ) aZ) so))))) pQ)
   (aF (bM (pR bQ (pv 2) pS (nM _)) (aF (cI (pd I hr (pc (dI bQ (bP dH Z T.uR zE (pc (pv 0) pN aA)) aB (nM _)) pN hH)))
   (aH (aO (cG (pc pS (pc (pd C hr (pc (aL iL (pv 0) aB (λ_ _=>Z)) (pc (pv 1) pN aA) aS)) (pc (pd b hr (pc (aL iL (pv 0) aB (λ_ _=>Z)) pN aS)) pN aZ) aZ) so))))) pQ)
   (aF (bM (pR bQ (pv 2) pS (nM _)) (aF (cI (pd I hr (pc (dI bQ (bP dH Z T.uR zE (pc (pv 0) pN aA)) aB (nM _)) pN hH)))
   (aH (aO (cG (pc pS (pc (pd b hr (pc (aL iL (pv 0) aB (λ_ _=>Z)) pN aS)) (pc (pd b hr (pc (aL iL (pv 0) aB (λ_ _=>Z)) pN aS)) (pc (pd C hr (pc (aL iL (pv 0) aB (λ_ _=>Z)) (pc (pv 1) pN aA) aS)) pN aZ) aZ) aZ) so))))) pQ)
   (aF (bM (pR bQ (pv 2) pS (nM _)) (aF (cI (pd I hr (pc (Fx pW pW aB (bP dH Z T.uR zE (pc (pv 0) pN aA)) (aU gO aB (sF T.uE))) pN hH)))
   (aH (aO (cG (pc pS (pc (pd C hr (pc (aL iL (pv 0) aB (λ_ _=>Z)) (pc (pv 1) pN aA) aS)) (pc (iQ nP Z T.uX zK (pc (iP ["each","more"] [none,some 1] Z (by kernel_rfl) (mG (iN nG (pv 0) (iK aB) iJ)) (λ_ _ _ _=>(bS (i:=0) (by show List.Nodup (["each","more"]:List Str);decide +kernel) Z (Or.inl Z))) (λ_ _ _ _=>eN) (λ_ _ _ _=>(pd a2 hr (pc (pv 0) (pc (pv 1) pN aA) aA)))) pN sW)) pN aZ) aZ) so))))) pQ)
   (aF (cI (pd I hr (pc (iV (dI bQ (pv 2) pS (nM _)) (iG (dI bQ (bP dH Z T.uR zE (pc (pv 0) pN aA)) aB (nM _)))) pN rN)))
   (aH (aO (aU Fi (cG (pc pS pN so)) (pd r hr (pc (iN nG (pv 0) (iK aB) iJ) (pc (pv 1) pN aA) aS))))))))))))),?_⟩
 rcases hR with hL |hR
 ·have hw:∃x:Str,v=.str x/\dF d (tx x):=by
   rcases hL with⟨i,i0,i1,rfl,rfl⟩ |⟨x,hx,rfl,rfl⟩
   ·exact(bA (gB hv) (.inl (bH i i0 i1 ⟨Z,Z⟩)))
   ·exact(bL x (gB hv) (.inr (bH x hx Z Z)))
  obtain⟨x,rfl,hl⟩:=hw;refine(eE (bA Z (jAAA (λu J=>J) (TyOf.str _) Z (bA Z (iteT ?_)))));exact(aE (gC x mr d Z hm hl q))
 have ty:∀{a:Addr} {us:List V},H a=some (.lst us)->TyOf K H (.ref a) (.type "list"):=λe=>TyOf.lst e;have U:=hO H;rcases hR with⟨sg,x,y,Y,a3,hs,hx,hy,rfl,rfl⟩ |⟨k,es,ts,hk,h5,a8,rfl,rfl⟩ |⟨x,Y,g,hg,hx,rfl,rfl⟩ |⟨k,g,x,Y,hk,hg,hx,rfl,rfl⟩ |⟨x,Y,ac,ts,hx,h1,h4,a9,rfl,rfl⟩ |⟨x,y,z,Y,a3,aa,hx,hy,hz,rfl,rfl⟩
 ·obtain⟨a,us,rfl,M,v0,_,rfl,r0,v1,_,rfl,r1,v2,_,rfl,r2,rfl⟩:=hv
  obtain rfl:=gB r0;have O:SqL K H a [.str sg,v1,v2]:=zC M;refine(eE (bA Z (jAAA (λu J=>J) (ty M) Z (bA Z (iteF ?_)))));refine(bF O Z ?_);refine(dB o (bB (.inr U) (bB (by walk_at"k") (aM (iteBT (Mm sg hs) ?_)))));refine(mI a Z (.inl O) Z (fZ Z) ?_);refine(cJ (by walk_at"s") (λl hl=>?_));have sl:=zA hl (.tup [.str (S "op"),.str sg]);refine(oU (zC (sl _ _ M)) (λc hc=>?_));rw[tP];have sc:=zA hc (.lst [v1,v2]);have a1:=sl.trans sc;refine(aE (cO c mr (nK ([Y,a3]) ([x,y]) hm aC (bT (r1.same a1 _) (bT (r2.same a1 _) Z)) (.cons hx (.cons hy .nil)) (by show 2<=1000;decide) (λp ys H3 s3 hp r3=>?_))));obtain⟨u1,_,rfl,p1,u2,_,rfl,p2,rfl⟩:=r3;refine Ek (s3 _ _ (sc _ _ aC)) hp (by walk_at"s") (by simp) λc2 H4 s4 h4=>?_;exact q _ _ (a1.trans (s3.trans s4)) (fR h4 Z Z Z Z (bT (p1.same s4 _) (bT (p2.same s4 _) Z)))
 ·obtain⟨a,us,rfl,M,v0,_,rfl,r0,v1,rest,rfl,r1,rr⟩:=hv
  obtain rfl:=gB r0;obtain rfl:=gB r1;have O:SqL K H a (.str (S "rec")::.str k::rest):=zC M;have a6:cV (V.str (S "rec")::.str k::rest) 0=some (.str (S "rec")):=eQ (j:=0) Z;have a5:cV (V.str (S "rec")::.str k::rest) 1=some (.str k):=eQ (j:=1) Z;refine(eE (bA Z (jAAA (λu J=>J) (ty M) Z (bA Z (iteF ?_)))));refine(bF O a6 ?_);refine(dB o (bB (.inr U) (bB (by walk_at"k") (aM (iteBF (by walk_at"k") ?_)))));refine(bE Z Z (iteKT (by walk_at"k") ?_));refine(dB a (bB (.inl O) (eZ (fZ (cM (by rw[List.length_cons,List.length_cons];omega))) ?_)));refine(bF O a5 (bH k Z hk (λH1 s1=>?_)));have l1:=a8.length;refine(oU (zC (s1 _ _ M)) (λc hc=>?_));rw[pA];have sc:=zA hc (.lst rest);refine(aE (cO c mr (nK ts es hm aC (rr.same (s1.trans sc) _) a8 (by omega) (λt2 us H3 s3 e3 r3=>⟨(by walk_at"s"),λl hl=>?_⟩))));have sl:=zA hl (.tup [.str (S "rec"),.str k,.ref t2]);exact q _ _ (s1.trans (sc.trans (s3.trans sl))) (fR aC Z Z Z Z (bT (cT us (sl _ _ e3) (r3.same sl _)) Z))
 ·obtain⟨a,us,rfl,M,v0,_,rfl,r0,v1,_,rfl,r1,v2,_,rfl,r2,rfl⟩:=hv
  obtain rfl:=gB r0;obtain rfl:=gB r2;have O:SqL K H a [.str (S "get"),v1,.str g]:=zC M;refine(eE (bA Z (jAAA (λu J=>J) (ty M) Z (bA Z (iteF ?_)))));refine(bF O Z ?_);refine(dB o (bB (.inr U) (bB (by walk_at"k") (aM (iteBF (by walk_at"k") ?_)))));refine(bE Z Z (iteKF (by walk_at"k") ?_));refine(bE Z Z (iteKT (by walk_at"k") ?_));refine(mI a Z (.inl O) Z (fZ Z) ?_);refine(bF O Z (dO v1 mr x Y Z hm r1 hx (λu1 H1 s1 p1=>?_)));refine(eD (mE (zC (s1 _ _ M)) g Z hg (λH2 s2=>⟨(by walk_at"s"),λl hl=>?_⟩)));have sl:=zA hl (.tup [.str (S "get"),u1,.str g]);exact q _ _ (s1.trans (s2.trans sl)) (iR aC Z Z u1 Z (p1.same (s2.trans sl) _) (bT Z Z))
 ·obtain⟨a,us,rfl,M,v0,_,rfl,r0,v1,_,rfl,r1,v2,_,rfl,r2,v3,_,rfl,r3,rfl⟩:=hv
  obtain rfl:=gB r0;obtain rfl:=gB r1;obtain rfl:=gB r2;have O:SqL K H a [.str (S "tag"),.str k,.str g,v3]:=zC M;refine(eE (bA Z (jAAA (λu J=>J) (ty M) Z (bA Z (iteF ?_)))));refine(bF O Z ?_);refine(dB o (bB (.inr U) (bB (by walk_at"k") (aM (iteBF (by walk_at"k") ?_)))));refine(bE Z Z (iteKF (by walk_at"k") ?_));refine(bE Z Z (iteKF (by walk_at"k") ?_));refine(bE Z Z (iteKT (by walk_at"k") ?_));refine(mI a Z (.inl O) Z (fZ Z) ?_);refine(eD (mE O k Z hk (λH1 s1=>?_)));refine(eD (mE (zC (s1 _ _ M)) g Z hg (λH2 s2=>?_)));have a4:=s1.trans s2;refine(bF (zC (a4 _ _ M)) Z (dO v3 mr x Y Z hm (r3.same a4 _) hx (λu3 H3 s3 p3=>⟨(by walk_at"s"),λl hl=>?_⟩)));have sl:=zA hl (.tup [.str (S "tag"),.str k,.str g,u3]);exact q _ _ (a4.trans (s3.trans sl)) (fR aC Z Z Z Z (bT Z (bT (p3.same sl _) Z)))
 ·obtain⟨a,us,rfl,M,v0,_,rfl,r0,v1,rest,rfl,r1,rr⟩:=hv
  obtain rfl:=gB r0;have O:SqL K H a (.str (S "case")::v1::rest):=zC M;have a6:cV (V.str (S "case")::v1::rest) 0=some (.str (S "case")):=eQ (j:=0) Z;have a5:cV (V.str (S "case")::v1::rest) 1=some v1:=eQ (j:=1) Z;have l1:=a9.length;have l2:=rr.length;refine(eE (bA Z (jAAA (λu J=>J) (ty M) Z (bA Z (iteF ?_)))));refine(bF O a6 ?_);refine(dB o (bB (.inr U) (bB (by walk_at"k") (aM (iteBF (by walk_at"k") ?_)))));refine(bE Z Z (iteKF (by walk_at"k") ?_));refine(bE Z Z (iteKF (by walk_at"k") ?_));refine(bE Z Z (iteKF (by walk_at"k") ?_));refine(bE Z Z (iteKT (by walk_at"k") ?_));refine(dB a (bB (.inl O) (eC (aM (iteKT (cM (by rw[List.length_cons,List.length_cons];omega)) ?_)))));refine(eC (eZ (fZ (cM (by rw[List.length_cons,List.length_cons];omega))) ?_));refine(bF O a5 (dO v1 mr x Y Z hm r1 hx (λu1 H1 s1 p1=>?_)));refine(oU (zC (s1 _ _ M)) (λc hc=>?_));rw[pA];have sc:=zA hc (.lst rest);refine(eB ⟨_,zC aC⟩ (Hc aC (hm) (rr.same (s1.trans sc) _) a9 (by omega) λD us H3 s3 e3 r3=>?_));refine(cX D us Z (.inl ⟨zC e3,λt2 ab=>⟨(by walk_at"s"),λl hl=>?_⟩⟩));have st:=zA ab (.tup us);have sl:=zA hl (.tup [.str (S "case"),u1,.ref t2]);exact q _ _ (s1.trans (sc.trans (s3.trans (st.trans sl)))) (iR aC Z Z u1 Z (p1.same (sc.trans (s3.trans (st.trans sl))) _) (bT (cT us (sl _ _ aC) (r3.same (st.trans sl) _)) Z))
 ·obtain⟨a,us,rfl,M,v0,_,rfl,r0,v1,_,rfl,r1,v2,_,rfl,r2,v3,_,rfl,r3,rfl⟩:=hv
  obtain rfl:=gB r0;have O:SqL K H a [.str (S "if"),v1,v2,v3]:=zC M;refine(eE (bA Z (jAAA (λu J=>J) (ty M) Z (bA Z (iteF ?_)))));refine(bF O Z ?_);refine(dB o (bB (.inr U) (bB (by walk_at"k") (aM (iteBF (by walk_at"k") ?_)))));refine(bE Z Z (iteKF (by walk_at"k") ?_));refine(bE Z Z (iteKF (by walk_at"k") ?_));refine(bE Z Z (iteKF (by walk_at"k") ?_));refine(bE Z Z (iteKF (by walk_at"k") ?_));refine(bE Z Z (iteKT (by walk_at"k") ?_));refine(mI a Z (.inl O) Z (fZ Z) ?_);refine⟨(by walk_at"s"),λl hl=>?_⟩;have sl:=zA hl (.tup [.str (S "if")]);refine(oU (zC (sl _ _ M)) (λc hc=>?_));rw[tP];have sc:=zA hc (.lst [v1,v2,v3]);have a1:=sl.trans sc;refine(aE (cO c mr (nK ([Y,a3,aa]) ([x,y,z]) hm aC (bT (r1.same a1 _) (bT (r2.same a1 _) (bT (r3.same a1 _) Z))) (.cons hx (.cons hy (.cons hz .nil))) (by show 3<=1000;decide) (λp ys H3 s3 hp r4=>?_))));obtain⟨u1,_,rfl,p1,u2,_,rfl,p2,u3,_,rfl,p3,rfl⟩:=r4;refine Ek (s3 _ _ (sc _ _ aC)) hp (by walk_at"s") (by simp) λc2 H4 s4 h4=>?_;exact q _ _ (a1.trans (s3.trans s4)) (iR h4 Z Z u1 Z (p1.same s4 _) (bT (p2.same s4 _) (bT (p3.same s4 _) Z)))
def sZ(K:Fg)(n:Nat):Sp:=λvs H Q _=>∃mr d t,vs=[aJ t,.ref mr]/\(∀H,SqT K H mr [.str (S "it")])/\T2 n d t/\∀v' H',Same H H'->RelD H' v' d->Q v' H'
def Wh(T:Tx K g)(C:m<=7)(e:DefIs P w K g base n "need" qac eV)(c:DefIs P w K g base n "trees_of" qaa sV)(b:DefIs P w K g base n "term_from" qaf (lM K (T2 m))):DefIs P w K g base (n+1) "term_with" qao (sZ K m):=by
 refine DefIs.of T.jJ sc_term_with (by walk_at"l") (λf I A outer s H vs Q E o h=>?_);obtain⟨z,d,t,rfl,h0,j,q⟩:=h;have nd:=sc_term_with.nd
 refine⟨_,(aF (bI (i:=2) nd Z (by first |exact Or.inl Z |exact Or.inr rfl) (pd c o (pc (pv 0) pN aA)))
   (aF (cI (pd e o (pc (dI bQ (bP dH Z T.uR zE (pc (pv 2) pN aA)) aB (nM _)) pN hH)))
   (aH (aO (pd b o (pc (aL iL (pv 2) aB (λ_ _=>Z)) (pc (pv 1) pN aA) aS)))))),?_⟩
 have hs:=j.short C;have hn:=j.nest;refine(oA (aW t) (iM ([t]) ?_ (by simp) ⟨j.good,trivial⟩ ?_ (by rw[iZ];omega) (λa us M x p l=>?_)))
 ·rw[show L (aW t)=t.cs from vG _,sL];simp[bs]
 ·show max t.nest 0<=20
  omega
 obtain⟨v,_,rfl,l,rfl⟩:=l;refine(mI a Z (.inl (zC p)) Z Z ?_);exact(dB a (bG 0 v ⟨Z,(bB (zC p) ⟨Z,(dO v z d t Z h0 l j (λr J u y=>q r J (x.trans u) y))⟩)⟩))
def Nk{R:D->Tr->Prop}(hz:∀d t,R d t->t.cs.length<=2400000){d:D}{t:Tr}(h:mT R d t):t.cs.length<=3000000:=by
 obtain⟨g,x,e,f,b,a,c,rfl,rfl⟩:=h;have:=hz _ _ c;have:=b.le;have:=a.le;simp only[Tr.cs,bs,List.tail_cons,List.length_cons,bK,List.length_nil,iU];omega
def Wx (T:Tx K mg) (R:D->Tr->Prop) (hz:∀d t,R d t->t.cs.length<=2400000) (r:DefIs P w K mg base n "term_texts" ["terms"] (Fh R)) (u:DefIs P w K mg base n "term_text" qae (iH R))
  (M:DefIs P w K mg base n "arm_text" ["arm"] (Hy R)):DefIs P w K mg base (n+1) "inner_texts" qae (Ff (Node R)):=by
 refine DefIs.of T.jG sc_inner_texts (by walk_at"l") (λf ab A outer s H vs Q E hr h=>?_);obtain⟨v,d,ts,rfl,hv,hR,q⟩:=h;have nd:=sc_inner_texts.nd
 refine⟨_,(aF (bI (i:=1) nd Z (by first |exact Or.inl Z |exact Or.inr rfl) (aL bO (pv 0) aB (λ_ _=>Z)))
   (aF (bM (pR bQ (pv 1) pS (nM _)) (aH (aO (aU eK (cA (pc (aL bO (pv 0) aB (λ_ _=>Z)) pN aS)) (pd r hr (pc (iN yF (pv 0) (iK aB) iJ) pN aS))))) pQ)
   (aF (bM (pR bQ (pv 1) pS (nM _)) (aH (aO (aU eK (cA (pc (pv 1) (pc (aL bO (pv 0) aB (λ_ _=>Z)) pN aS) aA)) (pd r hr (pc (aL bO (pv 0) aB (λ_ _=>Z)) pN aS))))) pQ)
   (aF (bM (pR bQ (pv 1) pS (nM _)) (aH (aO (cA (pc (pv 1) (pc (pd u hr (pc (aL bO (pv 0) aB (λ_ _=>Z)) pN aS)) (pc (aL bO (pv 0) aB (λ_ _=>Z)) pN aS) aZ) aA)))) pQ)
   (aF (bM (pR bQ (pv 1) pS (nM _)) (aH (aO (cA (pc (pv 1) (pc (aL bO (pv 0) aB (λ_ _=>Z)) (pc (aL bO (pv 0) aB (λ_ _=>Z)) (pc (pd u hr (pc (aL bO (pv 0) aB (λ_ _=>Z)) pN aS)) pN aZ) aS) aS) aA)))) pQ)
   (aF (bM (pR bQ (pv 1) pS (nM _)) (aH (aO (aU eK (cA (pc (pv 1) (pc (pd u hr (pc (aL bO (pv 0) aB (λ_ _=>Z)) pN aS)) pN aZ) aA)) (iP ["arm"] [none] Z (by kernel_rfl) (iW (aL bO (pv 0) aB (λ_ _=>Z))) (λ_ _ _ _=>(bS (i:=0) (by show List.Nodup (["arm"]:List Str);decide +kernel) Z (Or.inl Z))) (λ_ _ _ _=>eN) (λ_ _ _ _=>(pd M hr (pc (pv 0) pN aA))))))) pQ)
   (aH (aO (aU eK (cA (pc (pv 1) pN aA)) (pd r hr (pc (iN yF (pv 0) (iK aB) iJ) pN aS))))))))))),?_⟩
 rcases hR with⟨sg,x,y,o,I,hs,hx,hy,rfl,e⟩ |⟨k,es,C,hk,h5,a5,rfl,e⟩ |⟨x,o,g,hg,hx,rfl,e⟩ |⟨k,g,x,o,hk,hg,hx,rfl,e⟩ |⟨x,o,aa,C,hx,h1,h4,a6,rfl,e⟩ |⟨x,y,z,o,I,a0,hx,hy,a7,rfl,e⟩
 ·cases e
  obtain⟨a,us,rfl,O,_,_,rfl,rfl,_,_,rfl,rfl,v1,_,rfl,r1,v2,_,rfl,r2,rfl⟩:=hv;have J:SqT K H a [.str (S "op"),.str sg,v1,v2]:=zB O;refine(bF J Z ?_);refine(bE Z Z (iteKT (by walk_at"k") ?_));refine(mL J Z (by walk_at"s") (λl hl=>?_));have sl:=zA hl (.lst [.str sg]);refine(nC (gA (zB (sl _ _ O)) (λz=>absurd (show(2:Nat)=0 from z.1) (by decide)) (λc hc=>?_)));have sc:=zA hc (.tup (bY [V.str (S "op"),.str sg,v1,v2] (some 2) none));refine(fQ c ([v1,v2]) ([x,y]) ([o,I]) Z aC (bT (r1.same (sl.trans sc) _) (bT (r2.same (sl.trans sc) _) Z)) (.cons hx (.cons hy .nil)) ⟨(by simp),λb H2 s2 hb=>?_⟩);refine(nO ([.str sg]) ([aJ o,aJ I]) (s2 _ _ (sc _ _ aC)) hb (by walk_at"s") (λp hp=>?_));refine q p _ (sl.trans (sc.trans (s2.trans (zA hp _)))) ?_;rw[aC];show some (HO.lst [V.str sg,aJ o,aJ I])=some (HO.lst [aJ (tx sg),aJ o,aJ I]);rw[dD]
 ·cases e
  obtain⟨a,us,rfl,O,_,_,rfl,rfl,_,_,rfl,rfl,v1,_,rfl,⟨b1,U,rfl,a2,rr⟩,rfl⟩:=hv;have J:SqT K H a [.str (S "rec"),.str k,.ref b1]:=zB O;have l1:=a5.length;have l2:=rr.length;refine(bF J Z ?_);refine(bE Z Z (iteKF (by walk_at"k") ?_));refine(bE Z Z (iteKT (by walk_at"k") ?_));refine(aE (mL J Z (by walk_at"s") (λl hl=>?_)));have sl:=zA hl (.lst [.str (S "rec"),.str k]);refine(bF (zB (sl _ _ O)) Z (fQ b1 U es C Z (sl _ _ a2) (rr.same sl _) a5 ⟨by omega,λb H2 s2 hb=>?_⟩));refine(nO ([.str (S "rec"),.str k]) (C.map aJ) (s2 _ _ aC) hb ?_ (λp hp=>?_))
  ·rw[aR];exact aI (by simp;omega)
  refine q p _ (sl.trans (s2.trans (zA hp _))) ?_;rw[aC];show some (HO.lst (V.str (S "rec")::V.str k::C.map aJ))=some (HO.lst (aJ (tx (S "rec"))::aJ (tx k)::C.map aJ));rw[dD,dD]
 ·cases e
  obtain⟨a,us,rfl,O,_,_,rfl,rfl,v1,_,rfl,r1,_,_,rfl,rfl,rfl⟩:=hv;have J:SqT K H a [.str (S "get"),v1,.str g]:=zB O;refine(bF J Z ?_);refine(bE Z Z (iteKF (by walk_at"k") ?_));refine(bE Z Z (iteKF (by walk_at"k") ?_));refine(bE Z Z (iteKT (by walk_at"k") ?_));refine(aE (eD (nL J v1 x o Z r1 hx (λH1 s1=>?_))));refine(mL (zB (s1 _ _ O)) Z (by walk_at"s") (λl hl=>?_));refine q l _ (s1.trans (zA hl _)) ?_;rw[aC];show some (HO.lst [V.str (S "get"),aJ o,V.str g])=some (HO.lst [aJ (tx (S "get")),aJ o,aJ (tx g)]);rw[dD,dD]
 ·cases e
  obtain⟨a,us,rfl,O,_,_,rfl,rfl,_,_,rfl,rfl,_,_,rfl,rfl,v1,_,rfl,r1,rfl⟩:=hv;have J:SqT K H a [.str (S "tag"),.str k,.str g,v1]:=zB O;refine(bF J Z ?_);refine(bE Z Z (iteKF (by walk_at"k") ?_));refine(bE Z Z (iteKF (by walk_at"k") ?_));refine(bE Z Z (iteKF (by walk_at"k") ?_));refine(bE Z Z (iteKT (by walk_at"k") ?_));refine(aE (bF J Z (bF J Z (eD (nL J v1 x o Z r1 hx (λH1 s1=>⟨(by walk_at"s"),λl hl=>?_⟩))))));refine q l _ (s1.trans (zA hl _)) ?_;rw[aC];show some (HO.lst [V.str (S "tag"),V.str k,V.str g,aJ o])=some (HO.lst [aJ (tx (S "tag")),aJ (tx k),aJ (tx g),aJ o]);rw[dD,dD,dD]
 ·cases e
  obtain⟨a,us,rfl,O,_,_,rfl,rfl,v1,_,rfl,r1,_,_,rfl,⟨b1,U,rfl,a2,rr⟩,rfl⟩:=hv;have J:SqT K H a [.str (S "case"),v1,.ref b1]:=zB O;have l1:=a6.length;have l2:=rr.length;refine(bF J Z ?_);refine(bE Z Z (iteKF (by walk_at"k") ?_));refine(bE Z Z (iteKF (by walk_at"k") ?_));refine(bE Z Z (iteKF (by walk_at"k") ?_));refine(bE Z Z (iteKF (by walk_at"k") ?_));refine(bE Z Z (iteKT (by walk_at"k") ?_));refine(aE (eD (nL J v1 x o Z r1 hx (λH1 s1=>⟨(by walk_at"s"),λl hl=>?_⟩))));have sl:=zA hl (.lst [.str (S "case"),aJ o]);have Y:=s1.trans sl;refine(bF (zB (Y _ _ O)) Z (eB ⟨_,zB (Y _ _ a2)⟩ ?_));refine wI (j:=0) (xs:=U) (λi ys H'=>Same (upd H1 l (.lst [.str (S "case"),aJ o])) H'/\ys=(C.take i).map aJ) (by rfl) ⟨Same.refl _,Z⟩ (cQ (by omega)) (λi ys H' _ p=>zB (p.1 _ _ (Y _ _ a2))) ?_ ?_
  ·rintro i v ys H' a3 a4 ⟨sm,rfl⟩
   obtain⟨d',a9,rd⟩:=rr.get a3;obtain⟨t',a8,rt⟩:=a6.get a9;have hi:i<U.length:=(dC a3).1;refine(eM v d' t' (fN (rd.same (Y.trans sm) _) rt (Nk hz rt) (λH2 s2=>hZ hi a4 ⟨sm.trans s2,?_⟩)));rw[fH,a8];simp
  ·rintro ys H' a4 ⟨sm,rfl⟩ b hb
   have sb:=zA hb (.lst ((C.take U.length).map aJ));refine(nO ([.str (S "case"),aJ o]) ((C.take U.length).map aJ) (sb _ _ (sm _ _ aC)) aC ?_ (λp hp=>?_))
   ·rw[aR,List.length_take];exact aI (by simp;omega)
   refine q p _ (Y.trans (sm.trans (sb.trans (zA hp _)))) ?_;rw[aC,dR (by omega)];show some (HO.lst (V.str (S "case")::aJ o::C.map aJ))=some (HO.lst (aJ (tx (S "case"))::aJ o::C.map aJ));rw[dD]
 ·cases e
  obtain⟨a,us,rfl,O,_,_,rfl,rfl,v1,_,rfl,r1,v2,_,rfl,r2,v3,_,rfl,r3,rfl⟩:=hv;have J:SqT K H a [.str (S "if"),v1,v2,v3]:=zB O;refine(bF J Z ?_);refine(bE Z Z (iteKF (by walk_at"k") ?_));refine(bE Z Z (iteKF (by walk_at"k") ?_));refine(bE Z Z (iteKF (by walk_at"k") ?_));refine(bE Z Z (iteKF (by walk_at"k") ?_));refine(bE Z Z (iteKF (by walk_at"k") ?_));refine(cJ (by walk_at"s") (λl hl=>?_));have sl:=zA hl (.lst [.str (S "if")]);refine(nC (gA (zB (sl _ _ O)) (λz=>absurd (show(1:Nat)=0 from z.1) (by decide)) (λc hc=>?_)));have sc:=zA hc (.tup (bY [V.str (S "if"),v1,v2,v3] (some 1) none));have a1:=sl.trans sc;refine(fQ c ([v1,v2,v3]) ([x,y,z]) ([o,I,a0]) Z aC (bT (r1.same a1 _) (bT (r2.same a1 _) (bT (r3.same a1 _) Z))) (.cons hx (.cons hy (.cons a7 .nil))) ⟨(by simp),λb H2 s2 hb=>?_⟩);refine(nO ([.str (S "if")]) ([aJ o,aJ I,aJ a0]) (s2 _ _ (sc _ _ aC)) hb (by walk_at"s") (λp hp=>?_));refine q p _ (a1.trans (s2.trans (zA hp _))) ?_;rw[aC];show some (HO.lst [V.str (S "if"),aJ o,aJ I,aJ a0])=some (HO.lst [aJ (tx (S "if")),aJ o,aJ I,aJ a0]);rw[dD]
def Tc{R:D->Tr->Prop}:∀d t,Node R d t->∃ts a r,t=.l ts/\d=.tup (.str a::r)/\a≠S "num"/\a≠S "box":=by
 intro d t h;rcases h with⟨O,x,y,b,e,hs,c,u,rfl,rfl⟩ |⟨k,es,f,C,U,J,rfl,rfl⟩ |⟨x,b,g,I,c,rfl,rfl⟩ |⟨k,g,x,b,C,I,c,rfl,rfl⟩ |⟨x,b,j,f,c,h1,Y,M,rfl,rfl⟩ |⟨x,y,z,b,e,o,c,u,p,rfl,rfl⟩ <;> exact(bU ⟨_,Z,(bB (by walk_at"k") (by walk_at"k"))⟩)
theorem yL(T:Tx K mg):∀m,m<=7->DefIs P w K mg base (3*m+2) "term_text" qae (iH (T2 m))
 | 0,_=>by
  refine(Jr (n:=1) T (λ_ _=>False) (λ_ _ h=>h.elim) (DefIs.none T.jG ?_) (Be (n:=0) T) λ_ _ h=>h.elim).imp ?_
  ·rintro vs H Q E ⟨_,_,_,_,_,h,_⟩
   exact h
  ·rintro vs H Q E ⟨v,d,t,h1,h2,h3,h4⟩
   exact(bG v d (bL t h1 (jAA h2 (.inl h3) h4)))
 |m+1,hm=>by
  have ih:=yL T m (by omega);have hz:∀d t,T2 m d t->t.cs.length<=2400000:=λd t h=>h.short (by omega);have b1:∀k,DefIs P w K mg base (k+1) "bracketed" ["texts"] tE:=λk=>Be T;have tt:=Wk T (T2 m) ih;have at':=Ve T (T2 m) ih (b1 (3*m+1));have it:=Wx T (T2 m) hz tt (ih.mono (by omega)) at';have:=Jr T (Node (T2 m)) (λd t h=>by have:=T2.short (n:=m+1) (.inr h) hm;omega) it (b1 (3*m+3)) Tc;exact this
theorem yE(T:Tx K mg):∀m,m<=7->DefIs P w K mg base (2*m+6) "term_from" qaf (lM K (T2 m))
 | 0,_=>by
  have made:∀k,DefIs P w K mg base (k+1) "is_made_of" qak qL:=λk=>Bl T;have name:∀k,DefIs P w K mg base (k+2) "is_name" qaa qP:=λk=>B6 T (made k);have number:∀k,DefIs P w K mg base (k+2) "is_number" qaa wM:=λk=>Jo T (made k);have need:∀k,DefIs P w K mg base (k+1) "need" qac eV:=λk=>vY T;have nf:∀k,DefIs P w K mg base (k+3) "name_from" qab iY:=λk=>Bf T (need (k+1)) (name k);have lf:∀k,DefIs P w K mg base (k+4) "leaf_from" qap (xB K):=λk=>Jp T (nf k) (number (k+1));refine(Jq (n:=5) T (λ_ _=>False) (need 4) (nf 2) (lf 1) ((Ju T (λ_ _=>False) (DefIs.none (n:=4) T.jO ?_)).mono (by omega)) (DefIs.none T.jS ?_) (DefIs.none T.jO ?_)).imp ?_
  ·rintro vs H Q E ⟨_,_,_,_,_,_,_,h,_⟩
   exact h
  ·rintro vs H Q E ⟨_,_,_,_,_,_,_,⟨_,_,_,_,_,_,h,_⟩,_⟩
   exact h
  ·rintro vs H Q E ⟨_,_,_,_,_,_,_,h,_⟩
   exact h
  ·rintro vs H Q E ⟨v,mr,d,t,h1,h0,h2,h3,h4⟩
   exact(fQ v mr d t h1 h0 h2 (.inl h3) h4)
 |m+1,hm=>by
  have ih:=yE T m (by omega);have made:∀k,DefIs P w K mg base (k+1) "is_made_of" qak qL:=λk=>Bl T;have name:∀k,DefIs P w K mg base (k+2) "is_name" qaa qP:=λk=>B6 T (made k);have number:∀k,DefIs P w K mg base (k+2) "is_number" qaa wM:=λk=>Jo T (made k);have need:∀k,DefIs P w K mg base (k+1) "need" qac eV:=λk=>vY T;have nf:∀k,DefIs P w K mg base (k+3) "name_from" qab iY:=λk=>Bf T (need (k+1)) (name k);have lf:∀k,DefIs P w K mg base (k+4) "leaf_from" qap (xB K):=λk=>Jp T (nf k) (number (k+1));have af:=Vd (n:=2*m+6) T (T2 m) (need _) (nf (2*m+3)) ih;exact Jq (n:=2*m+7) T (T2 m) (need _) (nf (2*m+4)) (lf (2*m+3)) (Ju T (T2 m) ih) af (ih.mono (by omega))
def Wa(T:Tx K b){m:Nat}(c:m<=7):DefIs P w K b base (2*m+7) "term_with" qao (sZ K m):=by
 have a:∀k,DefIs P w K b base (k+1) "need" qac eV:=λk=>vY T;have g:∀k,DefIs P w K b base (k+2) "close_brackets" qas wD:=λk=>Jx T (a k);have f:∀k,DefIs P w K b base (k+3) "put_word" qar vL:=λk=>Jd T (a (k+1)) (g k);have e:∀k,DefIs P w K b base (k+4) "trees_of" qaa sV:=λk=>Je T (a (k+2)) (f k);exact Wh T c (a (2*m+5)) (e (2*m+2)) (yE T m c)
def rd(ws:List Str):List Str:=ws.flatMap λw=>Txt.split w (S " ")
def Gd:Sp:=λvs H Q _=>∃x,vs=[.str x]/\pL x/\∀H',Same H H'->Q (.bl true) H'
def Bb:Sp:=λvs H Q _=>∃x,vs=[.str x]/\pL x/\∀H',Same H H'->Q (.str x) H'
def E7:Sp:=λvs H Q _=>∃(x:Str) (rows:List Str),vs=[.str x]/\x.length<=3000000/\((x=S ""/\rows=[])\/(x≠S ""/\Txt.split x (S "\n")=rows))/\∀l,H l=none->Q (.ref l) (upd H l (.lst (rows.map V.str)))
def B1:Sp:=λvs H Q _=>∃v p,vs=[v]/\RelT H v (aP p)/\TagOk p/\∀v' H',Same H H'->RelD H' v' (cY p)->Q v' H'
def Ad:Sp:=λvs H Q _=>∃l:List (Str×Tt),vs=[.str (gN (l.map λp=>aW (aP p)))]/\1<=l.length/\l.length<=4/\(∀p∈l,TagOk p)/\∀v' H',Same H H'->RelD H' v' (.tup (l.map cY))->Q v' H'
theorem iA{x:Str}(h:Name x):32 ∉L x:=h.no (by decide)
theorem Li{x:Str}(h:pL x):32 ∉L x:=by
 rcases h with rfl |h
 ·decide +kernel
 ·exact iA h
theorem mH{w:Str}{ws:List Str}(h:32 ∉L w):rd (w::ws)=w::rd ws:=by
 unfold rd;rw[List.flatMap_cons,Ta h];rfl
theorem Mv:rd []=[]:=Z
theorem Oi(w:Str):rd [w]=Txt.split w (S " "):=by
 unfold rd;rw[List.flatMap_cons,List.flatMap_nil,List.append_nil]
def Tb(x:Str):0<(Txt.split x (S " ")).length:=List.length_pos_iff.mpr (nI x (S " "))
def U8(T:Tx K g)(a:DefIs P w K g base n "is_name" qaa qP):DefIs P w K g base (n+1) "is_kind" qaa Gd:=by
 refine DefIs.of T.jC Ul (by walk_at"l") (λf o A outer s H vs Q E l h=>?_);obtain⟨x,rfl,b,q⟩:=h;refine(bA (aH (aO (Df (dI bQ (pv 0) pS (nM _)) (iG (pd a l (pc (pv 0) pN aA)))))) ?_);rcases b with rfl |b
 ·exact(bE Z Z (iteKT (cM Z) (q _ (Same.refl _))))
 ·have r:=gR b
  have c:x≠S "num":=λe=>by rw[e]at b;exact absurd b (by unfold Name;decide +kernel)
  refine(bE Z Z (iteKF (eI λz=>c (V.str.inj z)) (oJ x Z (by omega) (λp j=>?_))));rw[show gK (L x)=true from b];exact q p j
def We(T:Tx K c)(b:DefIs P w K c base n "need" qac eV)(a:DefIs P w K c base n "is_kind" qaa Gd):DefIs P w K c base (n+1) "kind_from" ["word"] Bb:=by
 refine DefIs.of T.jU W5 (by walk_at"l") (λf l A outer s H vs Q E e h=>?_);obtain⟨x,rfl,j,q⟩:=h
 refine⟨_,(aF (cI (pd b e (pc (pd a e (pc (pv 0) pN aA)) pN aZ)))
   (aH (aO (pv 0)))),?_⟩
 exact(oJ x Z j (λo g=>⟨Z,(aE (q o g))⟩))
def Ub(T:Tx K e):DefIs P w K e base (n+1) "rows_in" qaa E7:=by
 refine DefIs.of T.jT Up (by walk_at"l") (λf j A outer s H vs Q E o h=>?_);obtain⟨x,c,rfl,p,g,q⟩:=h
 refine⟨_,(aF (bM (pR bQ (pv 0) pS (nM _)) (aH (aO (cA pN))) pQ)
   (aH (aO (dJ PySem.F.plainAttrs_str PySem.F.slot_str_split PySem.F.type_str_split A8 (pv 0) (pc pS pN so))))),?_⟩
 rcases g with⟨rfl,rfl⟩ |⟨b,rfl⟩
 ·exact(bE Z Z (M.iteKT (cM Z) ⟨(by walk_at"s"),λl a=>q l a⟩))
 ·refine(bE Z Z (M.iteKF (eI λz=>b (V.str.inj z)) ?_))
  exact(cJ Z (cT (S "\n") Z (jAA (by walk_at"k") (aI (by omega)) (λl a=>q l a))))
def Vg (T:Tx K r) (j:DefIs P w K r base n "need" qac eV) (c:DefIs P w K r base n "name_from" qab iY) (b:DefIs P w K r base n "term_from" qaf (lM K (T2 7))) :
  DefIs P w K r base (n+1) "tag_from" qab B1:=by
 obtain⟨o,p,hO⟩:=T.uK;refine DefIs.of T.j7 Vm (by walk_at"l") (λf a0 A outer s H vs Q E z h=>?_);obtain⟨v,⟨g,e,U⟩,rfl,hv,⟨hg,he,C⟩,q⟩:=h;obtain⟨a,us,rfl,I,v0,_,rfl,r0,J,_,rfl,re,rfl⟩:=hv;obtain rfl:=gB r0;have M:SqL K H a [.str g,J]:=zC I;have hT:TyOf K H (.ref a) (.type "list"):=TyOf.lst I
 refine⟨_,(aF (cI (pd j z (pc (iV (bP gU Z T.uQ PyProof.Rows.boot_isinstance (pc (pv 0) (pc (gP T.uS zM) pN aA) aA)) (iG (dI bQ (bP dH Z T.uR zE (pc (pv 0) pN aA)) aB (nM _)))) pN rN)))
   (aH (aO (cG (pc (pd c z (pc (aL iL (pv 0) aB (λ_ _=>Z)) pN aS)) (pc (pd b z (pc (aL iL (pv 0) aB (λ_ _=>Z)) (pc (sG p) pN aA) aS)) pN aZ) aZ))))),?_⟩
 refine(eE (bA Z (jAAA (λu y=>y) hT Z (bA Z (iteT ?_)))));refine(mI a Z (.inl M) Z (fZ Z) ?_);refine(eD (mE M g Z hg (λH1 x=>?_)));refine(bF (zC (x _ _ I)) Z (fQ J o e U Z hO (re.same x _) he (λO H3 Y r3=>⟨(by walk_at"s"),λl C=>?_⟩)));exact q _ _ (x.trans (Y.trans (zA C _))) (iR aC Z Z O Z (r3.same (zA C _) _) Z)
def Uc (T:Tx K C) (g:DefIs P w K C base n "need" qac eV) (b:DefIs P w K C base n "trees_of" qaa sV) (c:DefIs P w K C base n "tag_from" qab B1) :
  DefIs P w K C base (n+1) "tags_in" qaa Ad:=by
 refine DefIs.of T.jZ sc_tags_in (by walk_at"l") (λf a1 A outer s H vs Q E M h=>?_);obtain⟨l,rfl,l1,l4,ok,q⟩:=h;have nd:=sc_tags_in.nd;have ne:l≠[]:=λe=>by rw[e]at l1;simp at l1
 have gd:=Iw ok;have a0:=Af ok;have O:=wK (ws:=l.map λp=>aW (aP p)) (λe=>ne (List.map_eq_nil_iff.mp e));rw[aR]at O
 refine⟨_,(aF (bI (i:=1) nd Z (by first |exact Or.inl Z |exact Or.inr rfl) (pd b M (pc (pv 0) pN aA)))
   (aF (cI (pd g M (pc (dI pW (bP dH Z T.uR zE (pc (pv 1) pN aA)) (sF T.uF) (nM _)) pN hH)))
   (aH (aO (iQ nP Z T.uX zK (pc (iP qab [none] Z (by kernel_rfl) (mG (pv 1)) (λ_ _ _ _=>(bS (i:=0) (by show List.Nodup (qab:List Str);decide +kernel) Z (Or.inl Z))) (λ_ _ _ _=>eN) (λ_ _ _ _=>(pd c M (pc (pv 0) pN aA)))) pN sW)))))),?_⟩
 refine(mW (iM (l.map aP) (Nd ne) (λe=>ne (List.map_eq_nil_iff.mp e)) gd.1 (by omega) (by omega) (λa us H1 s1 U rt=>?_)));have u:=rt.length;rw[aR]at u;refine(dB a (bB (.inl (zC U)) (eZ (fZ (cM (by omega))) ?_)));refine(nN ⟨_,zC U⟩ ?_);refine sR (j:=0) (xs:=us) (λi ys y=>Same H1 y/\RelDs y ys ((l.take i).map cY)) (by rfl) ⟨Same.refl _,by simp[RelDs]⟩ (cQ (by omega)) (λi ys y _ p=>zC (p.1 _ _ U)) ?_ ?_
 ·rintro i x ys y hx r ⟨z,rd⟩
  obtain⟨t,o,I⟩:=rt.get hx;have hi:i<us.length:=(dC hx).1;rw[dA]at o;obtain⟨p,hp,rfl⟩:=fL o;refine(aE (dW x p Z (I.same z _) (ok p (cZ hp)) (λv2 H2 s2 r2=>hZ hi r ⟨z.trans s2,?_⟩)));rw[fH,hp,dG];exact(rd.same s2 _).append (bT r2 Z)
 ·rintro ys y r ⟨z,rd⟩ D hD
  rw[dR (by omega)]at rd;refine(cX D ys Z (.inl ⟨zC aC,λt2 J=>?_⟩));have Y:=zA hD (.lst ys);have st:=zA J (.tup ys);exact q _ _ (s1.trans (z.trans (Y.trans st))) (cT ys aC (rd.same (Y.trans st) _))
def fE(w p:Addr)(s:V):List (Str×V):=[("ways",.ref w),("places",.ref p),("sets",s)]
theorem yQ{w p:Addr}{s:V}:(fE w p s).lookup ("ways":Str)=some (V.ref w):=by
 unfold fE;simp only[List.lookup_cons];rw[show(("ways":Str) == ("ways":Str))=true by walk_at"k"]
theorem Al{w p:Addr}{s:V}:(fE w p s).lookup ("places":Str)=some (V.ref p):=by
 unfold fE;simp only[List.lookup_cons];rw[show(("places":Str) == ("ways":Str))=false by walk_at"k",show(("places":Str) == ("places":Str))=true by walk_at"k"]
theorem vW{w p:Addr}{s:V}:(fE w p s).lookup ("sets":Str)=some s:=by
 unfold fE;simp only[List.lookup_cons];rw[show(("sets":Str) == ("ways":Str))=false by walk_at"k",show(("sets":Str) == ("places":Str))=false by walk_at"k",show(("sets":Str) == ("sets":Str))=true by walk_at"k"]
theorem Qv{w p:Addr}{s v:V}:cB "sets" v (fE w p s)=fE w p v:=by
 show(if ("ways":Str)="sets" then _ else ((("ways":Str),V.ref w):Str×V)::(if ("places":Str)="sets" then _ else ((("places":Str),V.ref p):Str×V)::(if ("sets":Str)="sets" then _ else _)))=_;rw[if_neg (by walk_at"k"),if_neg (by walk_at"k"),if_pos Z];rfl
abbrev Ap:=Addr×((Str×Str)×Pl)
def WayAt(H:Hp)(e:aK×V)(w:Str×Tw):Prop:=e.1=.inr w.1/\RelD H e.2 (twD w.2)
def PlcAt(H:Hp)(e:List aK×V)(a:Ap):Prop:=e.1=[.inr a.2.1.1,.inr a.2.1.2]/\∃t us,e.2=.ref t/\H t=some (.tup [.str a.2.2.1,.ref a.1])/\H a.1=some (.lst us)/\RelDs H us (a.2.2.2.map cY)
def xR(aps:List Ap):V:=match aps.getLast? with
 |none=>.non
 |some a=>.ref a.1
theorem wZ(b:List Ap)(a:Ap):xR (b++[a])=.ref a.1:=by
 unfold xR;rw[List.getLast?_concat]
theorem WayAt.tups{H b:Hp}{e:aK×V}{w:Str×Tw}(h:WayAt H e w)(c:∀a us,H a=some (.tup us)->b a=some (.tup us)):WayAt b e w:=⟨h.1,h.2.tups c _⟩
def PlcAt.keep{H b:Hp}{e:List aK×V}{a:Ap}(h:PlcAt H e a)(c:∀a us,H a=some (.tup us)->b a=some (.tup us))(k:∀o,H a.1=some o->b a.1=some o):PlcAt b e a:=by
 obtain⟨m,t,us,l,j,g,f⟩:=h;exact⟨m,(dW t us l (c _ _ j) (k _ g) (f.tups c _))⟩
def wW{H c:Hp}(e:∀a us,H a=some (.tup us)->c a=some (.tup us)):∀{kvs:List (List aK×V)} {b:List Ap},All2 (PlcAt H) kvs b->(∀a∈b.map (·.1),∀o,H a=some o->c a=some o)->All2 (PlcAt c) kvs b:=by
 intro kvs b h
 induction h with
 |nil=>intro _;exact .nil
 |cons h _ f=>intro k;exact .cons (h.keep e (k _ (by simp))) (f λa g=>k a (by simp only[List.map_cons,List.mem_cons];exact .inr g))
def Aq{H:Hp}{kvs:List (List aK×V)}{c:List Ap}(h:All2 (PlcAt H) kvs c):∀a∈c.map (·.1),∃us,H a=some (.lst us):=by
 induction h with
 |nil=>intro a b;simp at b
 | cons h _ e=>
  intro a b;rcases cE b with rfl |b
  ·obtain⟨_,_,us,_,_,f,_⟩:=h
   exact⟨us,f⟩
  ·exact e a b
theorem Gj{H:Hp}{kvs:List (aK×V)}{ws:List (Str×Tw)}(h:All2 (WayAt H) kvs ws){x:Str}(n:x ∉ws.map (·.1)):cK kvs (.inr x)=none:=by
 induction h with
 |nil=>rfl
 |cons h _ a=>
  rw[List.map_cons]at n;have e:=h.1;rw[oN (λz=>n (by rw[e]at z;exact List.mem_cons.mpr (.inl (Sum.inr.inj z).symm)))];exact a λz=>n (qG _ z)
theorem Fy{H:Hp}{kvs:List (List aK×V)}{a:List Ap}(h:All2 (PlcAt H) kvs a){x:Str×Str}(n:x ∉a.map (·.2.1)):cK kvs [.inr x.1,.inr x.2]=none:=by
 induction h with
 |nil=>rfl
 | cons h _ f=>
  rw[List.map_cons]at n;have e:=h.1
  rw[oN (λz=>n (by
   rw[e]at z;injection z with c b;injection b with b _;exact List.mem_cons.mpr (.inl (Prod.ext (Sum.inr.inj c).symm (Sum.inr.inj b).symm))))]
  exact f λz=>n (qG _ z)
structure PD(K:Fg)(H0 H:Hp)(p dx dw dp:Addr)(ws:List (Str×Tw))(aps:List Ap):Prop where
 ob:H p=some (.ins (ad K "ToldDraft") dx (fE dw dp (xR aps)))
 wa:∃kvs,H dw=some (.dK kvs)/\All2 (WayAt H) kvs ws
 pa:∃kvs,H dp=some (.dT kvs)/\All2 (PlcAt H) kvs aps
 nd:(dw::dp::aps.map (·.1)).Nodup
 nw:∀a∈dw::dp::aps.map (·.1),H0 a=none
 sm:Same H0 H
theorem PD.same{K:Fg}{g H j:Hp}{p c f dp:Addr}{ws:List (Str×Tw)}{b:List Ap}(G:PD K g H p c f dp ws b)(s:Same H j):PD K g j p c f dp ws b:=by
 obtain⟨ks,r,n⟩:=G.wa;obtain⟨ps,m,l⟩:=G.pa;exact⟨s _ _ G.ob,(bL ks (s _ _ r) (n.imp λ_ _ h=>h.tups λa us e=>s _ _ e)),(bL ps (s _ _ m) (wW (λa us e=>s _ _ e) l λa _ o e=>s _ _ e)),G.nd,G.nw,G.sm.trans s⟩
theorem PD.way {K:Fg} {H0 H:Hp} {p dx dw dp:Addr} {ws:List (Str×Tw)} {k:Str} {w:Tw} {v:V} {kvs:List (aK×V)} (G:PD K H0 H p dx dw dp ws []) (hw:H dw=some (.dK kvs)) (rw':All2 (WayAt H) kvs ws) (rd:RelD H v (twD w)) :
  PD K H0 (upd H dw (.dK (kvs++[(.inr k,v)]))) p dx dw dp (ws++[(k,w)]) []:=by
 have tp:∀a us,H a=some (.tup us)->upd H dw (.dK (kvs++[(.inr k,v)])) a=some (.tup us):=λa us e=>by
  rw[aG (λz=>by rw[z,hw]at e;cases e)];exact e
 obtain⟨ps,p1,p2⟩:=G.pa;have nd:=G.nd;have ne:dp≠dw:=λz=>by rw[z,hw]at p1;cases p1
 refine⟨?_,(bA aC ?_),(bL ps (by rw[aG ne];exact p1) ?_),nd,G.nw,λa o e=>?_⟩
 ·rw[aG (λz=>by have:=G.ob;rw[z,hw]at this;cases this)];exact G.ob
 ·exact(rw'.imp λ_ _ h=>h.tups tp).append (.cons ⟨rfl,rd.tups tp _⟩ .nil)
 ·exact wW tp p2 λa ha=>by simp at ha
 ·rw[aG (bN e (G.nw dw (by simp)))];exact G.sm _ _ e
theorem PD.place {K:Fg} {H0 H H':Hp} {p dx dw dp a t:Addr} {ws:List (Str×Tw)} {aps:List Ap} {x:Str×Str} {mk:Str} {kvs:List (List aK×V)} (G:PD K H0 H p dx dw dp ws aps) (hp:H dp=some (.dT kvs)) (rp:All2 (PlcAt H) kvs aps)
  (sb:∀c o,H c=some o->c≠p->c≠dp->H' c=some o) (ob:H' p=some (.ins (ad K "ToldDraft") dx (fE dw dp (.ref a)))) (ha0:H a=none) (ha:H' a=some (.lst [])) (ht:H' t=some (.tup [.str mk,.ref a])) (hd:H' dp=some (.dT (kvs++[([.inr x.1,.inr x.2],.ref t)])))
  (pw:H0 p=none):PD K H0 H' p dx dw dp ws (aps++[(a,x,mk,[])]):=by
 obtain⟨ks,k1,k2⟩:=G.wa;have nd:=G.nd;have tp:∀b us,H b=some (.tup us)->H' b=some (.tup us):=λb us e=>sb b _ e (λz=>by have:=G.ob;rw[<- z,e]at this;cases this) (λz=>by rw[z,hp]at e;cases e);have wp:dw≠p:=λz=>by have:=G.ob;rw[<- z,k1]at this;cases this
 have wd:dw≠dp:=λz=>by rw[z,hp]at k1;cases k1
 have live:=Aq rp;have em:(aps++[(a,x,mk,([]:List (Str×Tt)))]).map (·.1)=aps.map (·.1)++[a]:=by rw[dG];rfl
 have old:∀c∈dw::dp::aps.map (·.1),∃o,H c=some o:=λc hc=>by
  rcases cE hc with rfl |hc
  ·exact⟨_,k1⟩
  rcases cE hc with rfl |hc
  ·exact⟨_,hp⟩
  ·obtain⟨us,e⟩:=live c hc
   exact⟨_,e⟩
 refine⟨by rw[wZ];exact ob,(bL ks (sb _ _ k1 wp wd) (k2.imp λ_ _ h=>h.tups tp)),(bA hd ?_),?_,?_,λc o e=>sb _ _ (G.sm _ _ e) (bN e pw) (bN e (G.nw dp (by simp)))⟩
 ·refine(wW tp rp λc hc o e=>sb c o e (λz=>?_) (λz=>?_)).append (.cons ⟨rfl,(bG t ([]) (aV ht ha rfl))⟩ .nil)
  ·obtain⟨us,e2⟩:=live c hc
   have:=G.ob;rw[<- z,e2]at this;cases this
  ·obtain⟨us,e2⟩:=live c hc
   rw[z,hp]at e2;cases e2
 ·rw[em,show dw::dp::(aps.map (·.1)++[a])=(dw::dp::aps.map (·.1))++[a] from rfl]
  refine List.nodup_append.mpr (jAA nd (by simp) (λc hc c' hc' z=>?_));rw[eG hc']at z;obtain⟨o,e⟩:=old c hc;rw[z,ha0]at e;cases e
 ·intro c hc
  rw[em,show dw::dp::(aps.map (·.1)++[a])=(dw::dp::aps.map (·.1))++[a] from rfl]at hc;rcases eA hc with hc |hc
  ·exact G.nw c hc
  ·rw[eG hc];exact hJ G.sm ha0
def PD.wth {K:Fg} {H0 H H':Hp} {p dx dw dp a:Addr} {ws:List (Str×Tw)} {aps:List Ap} {x:Str×Str} {mk:Str} {es:List (Str×Tt)} {e:Str×Tt} {us:List V} {v:V} (G:PD K H0 H p dx dw dp ws (aps++[(a,x,mk,es)])) (hu:H a=some (.lst us)) (sb:SameBut a H H') (ha:H' a=some (.lst (us++[v]))) (rd:RelD H' v (cY e)) :
  PD K H0 H' p dx dw dp ws (aps++[(a,x,mk,es++[e])]):=by
 have tp:∀b vs,H b=some (.tup vs)->H' b=some (.tup vs):=λb vs h=>sb b _ h λz=>by rw[z,hu]at h;cases h
 obtain⟨ks,k1,k2⟩:=G.wa;obtain⟨ps,p1,p2⟩:=G.pa;have nd:=G.nd;have em:∀es:List (Str×Tt),(aps++[(a,x,mk,es)]).map (·.1)=aps.map (·.1)++[a]:=λes=>by rw[dG];rfl
 rw[em,show dw::dp::(aps.map (·.1)++[a])=(dw::dp::aps.map (·.1))++[a] from rfl]at nd;have ne:∀c∈dw::dp::aps.map (·.1),c≠a:=λc hc=>(List.nodup_append.mp nd).2.2 c hc a (by simp);have np:p≠a:=λz=>by have:=G.ob;rw[z,hu]at this;cases this
 have nwa:H0 a=none:=G.nw a (by rw[em];simp);have ob:=G.ob;rw[wZ]at ob;refine⟨by rw[wZ];exact sb _ _ ob np,(bL ks (sb _ _ k1 (ne dw (by simp))) (k2.imp λ_ _ h=>h.tups tp)),(bL ps (sb _ _ p1 (ne dp (by simp))) ?_),?_,?_,λc o h=>sb _ _ (G.sm _ _ h) (bN h nwa)⟩
 ·have key:∀{kvs:List (List aK×V)} {bps:List Ap},(∀c∈bps.map (·.1),c≠a)->All2 (PlcAt H) kvs (bps++[(a,x,mk,es)])->All2 (PlcAt H') kvs (bps++[(a,x,mk,es++[e])]):=by
   intro kvs bps
   induction bps generalizing kvs with
   | nil=>
    intro _ h
    cases h with
    | cons h t=>
     cases t;obtain⟨h1,t,us',h2,h3,h4,h5⟩:=h;refine .cons ⟨h1,(dW t (us++[v]) h2 (tp _ _ h3) ha ?_)⟩ .nil
     have:us'=us:=by
      have h4':H a=some (.lst us'):=h4;rw[hu]at h4';injection h4' with z;injection z with z;exact z.symm
     subst this;show RelDs H' (us'++[v]) ((es++[e]).map cY);rw[dG];exact(h5.tups tp _).append (bT rd rfl)
   |cons b bps ih=>
    intro nb h
    cases h with
    |cons h t=>exact .cons (h.keep tp λo e=>sb _ _ e (nb _ (by simp))) (ih (λc hc=>nb c (by simp only[List.map_cons,List.mem_cons];exact .inr hc)) t)
  exact key (λc hc=>ne c (by simp only[List.mem_cons];exact .inr (.inr hc))) p2
 ·rw[em];rw[show dw::dp::(aps.map (·.1)++[a])=(dw::dp::aps.map (·.1))++[a] from rfl];exact nd
 ·intro c hc
  refine G.nw c ?_;rw[em]at hc⊢;exact hc
def Bc(K:Fg):Sp:=λvs H Q _=>∃(H0:Hp) (p dx dw dp a:Addr) (ws:List (Str×Tw)) (aps:List Ap) (x:Str×Str) (mk:Str),vs=[.ref p,.ref a]/\PD K H0 H p dx dw dp ws aps/\H a=some (.lst [.str (S "place"),.str x.1,.str x.2,.str mk]) ∧
 Name x.1/\Name x.2/\Name mk/\x ∉aps.map (·.2.1)/\aps.length<=1000/\H0 p=none/\∀l H',PD K H0 H' p dx dw dp ws (aps++[(l,x,mk,[])])->Q .non H'
def Ac(K:Fg):Sp:=λvs H Q _=>∃(H0:Hp) (p dx dw dp a:Addr) (ws:List (Str×Tw)) (k:Str) (w:Tw),vs=[.ref p,.ref a]/\PD K H0 H p dx dw dp ws []/\H a=some (.lst ((rd (Tl.ws (.way k w))).map V.str)) ∧
 Name k/\fG w/\k ∉ws.map (·.1)/\ws.length<=1000/\∀H',PD K H0 H' p dx dw dp (ws++[(k,w)]) []->Q .non H'
theorem Nt(h:Hw):32 ∉L h.hd:=by
 cases h
 ·show 32 ∉L (S "way");decide +kernel
 ·show 32 ∉L (S "ways");decide +kernel
theorem E4{k:Str}{w:Tw}(b:Name k)(a:fG w):rd (Tl.ws (.way k w))=w.2.hd::k::w.1::rd w.2.ws:=by
 show rd (w.2.hd::k::w.1::w.2.ws)=_;rw[mH (Nt _),mH (iA b),mH (Li a.1)]
theorem Ep{ws:List Str}(h:ws≠[]):Txt.join (S " ") (rd ws)=gN ws:=by
 refine gI ?_;rw[rL,lY];exact Av ws h
theorem Px(x:Str):gN [x]=x:=gI (by rw[lY];rfl)
def Di{ws:List Str}(h:ws≠[]):rd ws≠[]:=by
 cases ws with
 |nil=>exact absurd Z h
 |cons x r=>
  unfold rd;rw[List.flatMap_cons];exact λe=>nI x (S " ") (List.append_eq_nil_iff.mp e).1
theorem Hw.ne{h:Hw}(o:h.Ok):h.ws≠[]:=by
 cases h with
 |one e=>simp[Hw.ws]
 |tags l=>
  intro e;have:=o.1;rw[List.map_eq_nil_iff.mp e]at this;simp at this
def Mx{ws:List Str}(h:ws≠[]):((rd ws).map (·.length)).sum+(rd ws).length=(gN ws).length+1:=by
 rw[<- Ep h];exact(wK (Di h)).symm
def wC{t u:TS}{D:Ends}{σ:St}{H:Hp}(h:∀R:St->Hp->Prop,(∀σ H,u D σ H->R σ H)->t {D with nx:=R} σ H):oW t u D σ H:=h (u D) λ_ _ h=>h
def eO{v:V}{xs:List V}:cV (v::xs) 0=some v:=eQ (j:=0) (by simp)
def at1{u v:V}{xs:List V}:cV (u::v::xs) 1=some v:=eQ (j:=1) (by simp)
def at2{u v w:V}{xs:List V}:cV (u::v::w::xs) 2=some w:=eQ (j:=2) (by simp)
theorem Co(x y z:V)(r:List V):bY (x::y::z::r) (some 3) none=r:=by
 unfold bY
 have a:HT.sIx (x::y::z::r).length 0 (some 3)=3:=by
  rw[show((3:Int))=((3:Nat):Int) from Z,HT.sIx_nat];simp
 rw[a,HT.sIx_none];show List.take (_-3) r=r;exact dR (by simp)
theorem Fm{α β:Type}{R:α->β->Prop}{as:List α}{bs:List β}(h:All2 R as bs){m:Nat}(k:bs.length<=m):as.length<=m:=by rw[h.length];exact k
def Wf(T:Tx K mg)(y:DefIs P w K mg base n "need" qac eV)(g:DefIs P w K mg base n "name_from" qab iY):DefIs P w K mg base (n+1) "put_place" qag (Bc K):=by
 refine DefIs.of T.j8 sc_put_place (by walk_at"l") (λf a6 A outer s H vs Q E hr h=>?_);obtain⟨H0,p,u,dw,dp,a,ws,a7,x,mk,rfl,G,ha,h1,h2,h3,nx,few,pw,q⟩:=h;have nd:=sc_put_place.nd;have hu:=lD hr;have no:∀f∈(qaw:List Str),NoAttr K (ad K "ToldDraft") f:=T.dt.no
 refine⟨_,(aF (bI (i:=2) nd Z (by first |exact Or.inl Z |exact Or.inr rfl) (cG (pc (pd g hr (pc (aL iL (pv 1) aB (λ_ _=>Z)) pN aS)) (pc (pd g hr (pc (aL iL (pv 1) aB (λ_ _=>Z)) pN aS)) pN aZ) aZ)))
   (aF (cI (pd y hr (pc (E1 (Ht hu (pv 2) (lJ (pv 0) Z))) pN hH)))
   (aF (vQ (pv 0) (cA pN) Z)
   (aH (wB hu (lJ (pv 0) Z) (pv 2) (cG (pc (pd g hr (pc (aL iL (pv 1) aB (λ_ _=>Z)) pN aS)) (pc (lJ (pv 0) Z) pN Ia) aZ)) Z))))),?_⟩
 refine(eD (mE (zC ha) x.1 Z h1 (λH1 s1=>?_)));refine(eD (mE (zC (s1 _ _ ha)) x.2 Z h2 (λH2 s2=>⟨(by walk_at"s"),λb hb=>?_⟩)));have s3:=s1.trans (s2.trans (zA hb (.tup [.str x.1,.str x.2])));have r:upd H2 b (.tup [.str x.1,.str x.2]) b=some (.tup [.str x.1,.str x.2]):=aC;generalize upd H2 b (.tup [.str x.1,.str x.2])=M at s3 r⊢;have O:=G.same s3;have a2:=s3 _ _ ha;obtain⟨kvs,hp,rp⟩:=O.pa;refine(aE (lO u O.ob T.dt.cl (no _ (by simp)) Al (gA (DGet.t (k:=[.inr x.1,.inr x.2]) hp r) ?_ ?_)))
 ·rw[Fy rp nx]
  rfl
 refine⟨(by walk_at"s"),λl hl=>(oA p (cO (ad K "ToldDraft") u (bB (zA hl _ _ _ O.ob) (jAAA T.dt.cl (no _ (by simp)) (by show 3<1000;decide) ?_))))⟩;rw[Qv];have lp:l≠p:=λz=>by have:=O.ob;rw[<- z,hl]at this;cases this
 have U:∀c o,M c=some o->c≠p->upd (upd M l (.lst [])) p (.ins (ad K "ToldDraft") u (fE dw dp (.ref l))) c=some o:=λc o e nc=>by rw[aG nc];exact zA hl _ _ _ e
 have j:upd (upd M l (.lst [])) p (.ins (ad K "ToldDraft") u (fE dw dp (.ref l))) p=some (.ins (ad K "ToldDraft") u (fE dw dp (.ref l))):=aC;have a1:upd (upd M l (.lst [])) p (.ins (ad K "ToldDraft") u (fE dw dp (.ref l))) l=some (.lst []):=by rw[aG lp];exact aC
 generalize upd (upd M l (.lst [])) p (.ins (ad K "ToldDraft") u (fE dw dp (.ref l)))=H4 at U j a1⊢;have np:∀{c:Addr} {o:HO},M c=some o->(∀C d f,o≠.ins C d f)->c≠p:=λ{c o} e k z=>by have:=O.ob;rw[<- z,e]at this;injection this with this;exact k _ _ _ this
 have a5:=U _ _ a2 (np a2 λ_ _ _ z=>by cases z);have a4:=U _ _ r (np r λ_ _ _ z=>by cases z);have a3:=U _ _ hp (np hp λ_ _ _ z=>by cases z);refine(eD (mE (zC a5) mk Z h3 (λH5 s5=>?_)));refine(lO u (s5 _ _ j) T.dt.cl (no _ (by simp)) vW ⟨(by walk_at"s"),λt ht=>?_⟩);have I:=s5.trans (zA ht (.tup [.str mk,.ref l]));have Y:upd H5 t (.tup [.str mk,.ref l]) t=some (.tup [.str mk,.ref l]):=aC;generalize upd H5 t (.tup [.str mk,.ref l])=H6 at I Y⊢;have a0:=I _ _ a3;refine(lO u (I _ _ j) T.dt.cl (no _ (by simp)) Al (dB dp (bB (DPut.t (k:=[.inr x.1,.inr x.2]) a0 (I _ _ a4) (cQ (by have:=Fm rp few;omega))) ?_)));rw[G8 _ (Fy rp nx)]
 have J:∀{c:Addr} {o:HO},H6 c=some o->(∀k,o≠.dT k)->upd H6 dp (.dT (kvs++[([.inr x.1,.inr x.2],.ref t)])) c=some o:=λ{c o} e k=>by
  rw[aG λz=>by rw[z,a0]at e;injection e with e;exact k _ e.symm];exact e
 exact q l _ (PD.place (t:=t) O hp rp (λc o e n1 n2=>by rw[aG n2];exact I _ _ (U _ _ e n1)) (J (I _ _ j) λ_ z=>by cases z) hl (J (I _ _ a1) λ_ z=>by cases z) (J Y λ_ z=>by cases z) aC pw)
def Ua (T:Tx K U) (z:DefIs P w K U base n "need" qac eV) (j:DefIs P w K U base n "name_from" qab iY) (r:DefIs P w K U base n "kind_from" ["word"] Bb) (b:DefIs P w K U base n "term_with" qao (sZ K 7)) (u:DefIs P w K U base n "tags_in" qaa Ad) :
  DefIs P w K U base (n+1) "put_way" qag (Ac K):=by
 obtain⟨o,a4,hO⟩:=T.uK;refine DefIs.of T.jY sc_put_way (by walk_at"l") (λf af A outer s H vs Q E hr h=>?_);obtain⟨H0,p,dx,dw,dp,a,ws,k,⟨g,y⟩,rfl,G,ha,hk,ok,nk,few,q⟩:=h;have nd:=sc_put_way.nd;have hu:=lD hr;have no:∀f∈(qaw:List Str),NoAttr K (ad K "ToldDraft") f:=T.dt.no;rw[E4 hk ok,List.map_cons,List.map_cons,List.map_cons]at ha;obtain⟨hg,Y⟩:=ok;have J:=Hw.ne Y;have ab:=Mx J;have ae:=wK J;have ac:=Hw.sum Y
 refine⟨_,(aF (bI (i:=2) nd Z (by first |exact Or.inl Z |exact Or.inr rfl) (pd j hr (pc (aL iL (pv 1) aB (λ_ _=>Z)) pN aS)))
   (aF (cI (pd z hr (pc (E1 (Ht hu (pv 2) (lJ (pv 0) Z))) pN hH)))
   (aF (bI (i:=3) nd Z (by first |exact Or.inl Z |exact Or.inr rfl) (dJ PySem.F.plainAttrs_str PySem.F.slot_str_join PySem.F.type_str_join gZ pS (pc (iN nG (pv 1) (iK aB) iJ) pN aS)))
   (aF (bI (i:=4) nd Z (by first |exact Or.inl Z |exact Or.inr rfl) (Qj (pR bQ (aL iL (pv 1) aB (λ_ _=>Z)) pS (nM _)) (pd b hr (pc (pv 3) (pc (sG a4) pN aA) aA)) (pd u hr (pc (pv 3) pN aA))))
   (aH (wB hu (lJ (pv 0) Z) (pv 2) (cG (pc (pd r hr (pc (aL iL (pv 1) aB (λ_ _=>Z)) pN aS)) (pc (pv 4) pN aA) aZ)) Z)))))),wC λR1 aa=>?_⟩
 refine(bF (zC ha) at1 (bH k Z hk (λH1 s1=>?_)));have G1:=G.same s1;have a3:=s1 _ _ ha;obtain⟨kvs,a6,a5⟩:=G1.wa;refine aa _ _ (wC λR2 a9=>?_);refine(aE (lO dx G1.ob T.dt.cl (no _ (by simp)) yQ (gA (DGet.k (k:=.inr k) a6) ?_ ?_)))
 ·rw[Gj a5 nk]
  rfl
 refine a9 _ _ (wC λR3 a8=>?_);refine⟨Z,(oU (zC a3) (λc hc=>?_))⟩;rw[Co];have one:(S " ").length=1:=by walk_at"k"
 refine(cO (S " ") c (fM Z Z (zC aC) (by rw[one];exact aI (by omega)) ?_));rw[Ep J];have s2:=zA hc (.lst ((rd y.ws).map V.str));generalize upd H1 c (.lst ((rd y.ws).map V.str))=H2 at s2⊢;have M:=s2 _ _ a3;refine a8 _ _ (wC λR hR=>?_)
 have a0:∀x C,Same H2 C->RelD C x y.d->R [some (.ref p),some (.ref a),some (.str k),some (.str (gN y.ws)),some x] C:=by
  intro x C O r3;have a7:=O _ _ M;refine hR _ _ (bF (zC a7) at2 (bH g Z hg (λH4 s4=>?_)));refine(cJ (by walk_at"s") (λt ht=>?_));have s5:=s4.trans (zA ht (.tup [.str g,x]));have a2:upd H4 t (.tup [.str g,x]) t=some (.tup [.str g,x]):=aC;generalize upd H4 t (.tup [.str g,x])=H5 at s5 a2⊢;have G5:=G1.same (s2.trans (O.trans s5));obtain⟨kvs,a1,I⟩:=G5.wa;refine(lO dx G5.ob T.dt.cl (no _ (by simp)) yQ (dB dw (bB (DPut.k (k:=.inr k) a1 (cQ (by have:=Fm I few;omega))) ?_)));rw[G8 _ (Gj I nk)];exact q _ (PD.way G5 a1 I (iR a2 Z Z x Z (r3.same s5 _) Z))
 cases y with
 |one e=>
  refine(mL (zC M) eO Z (aM (iteKT (cM Z) ?_)));refine(gC o e.1 e.2 ?_ hO Y.1 (λx C O r3=>a0 x C O r3));show[V.str (gN [aW e.2]),V.ref o]=_;rw[Px];rfl
 |tags l=>
  refine(mL (zC M) eO Z (aM (iteKF (show decide (V.str (S "ways")=V.str (S "way"))=false by walk_at"k") ?_)));exact(oA l (fN Y.1 Y.2.1 Y.2.2 (λx C O r3=>a0 x C O r3)))
def B0(K:Fg):Sp:=λvs H Q _=>∃(H0:Hp) (p dx dw dp a:Addr) (ws:List (Str×Tw)) (aps:List Ap) (l:Tl) (st':Td),vs=[.ref p,.ref a]/\PD K H0 H p dx dw dp ws aps/\H a=some (.lst ((rd l.ws).map V.str))/\l.Ok/\Tp ⟨ws,aps.map (·.2)⟩ l st' ∧
 ws.length<=1000/\aps.length<=1000/\(∀e∈aps,e.2.2.2.length<=1000)/\H0 p=none/\∀aps' H',aps'.map (·.2)=st'.places->PD K H0 H' p dx dw dp st'.ways aps'->Q .non H'
def Qx{p:Str×Str}{m:Str}(h:Tl.Ok (.place p m)):rd (Tl.ws (.place p m))=[S "place",p.1,p.2,m]:=by
 show rd [S "place",p.1,p.2,m]=_;rw[mH (by walk_at"k"),mH (iA h.1),mH (iA h.2.1),mH (iA h.2.2),Mv]
def Oj{p:Str×Tt}(h:TagOk p):rd (Tl.ws (.wth p))=S "with"::p.1::Txt.split (aW p.2.2) (S " "):=by
 show rd [S "with",p.1,aW p.2.2]=_;rw[mH (by walk_at"k"),mH (iA h.1),Oi]
theorem Gv{α β:Type}{R:α->β->Prop}{b:β}:∀{bs:List β} {as:List α},All2 R as (bs++[b])->∃a,R a b
 |[],_,h=>by
  cases h with
  |cons h _=>exact⟨_,h⟩
 |c::bs,_,h=>by
  cases h with
  |cons _ t=>exact Gv t
def Mw{ws:List Str}(h:ws≠[]):1<=(rd ws).length:=List.length_pos_iff.mpr (Di h)
def Vf (T:Tx K mg) (y:DefIs P w K mg base n "need" qac eV) (C:DefIs P w K mg base n "name_from" qab iY) (r:DefIs P w K mg base n "term_with" qao (sZ K 7)) (J:DefIs P w K mg base n "put_way" qag (Ac K)) (u:DefIs P w K mg base n "put_place" qag (Bc K)) :
  DefIs P w K mg base (n+1) "put_told" qag (B0 K):=by
 obtain⟨o,a6,hO⟩:=T.uK;refine DefIs.of T.jX sc_put_told (by walk_at"l") (λf ah A outer s H vs Q E hr h=>?_);obtain⟨H0,p,dx,dw,dp,a,ws,a1,l,st',rfl,G,ha,g,a3,a9,a8,a7,pw,q⟩:=h;have nd:=sc_put_told.nd;have hu:=lD hr;have no:∀f∈(qaw:List Str),NoAttr K (ad K "ToldDraft") f:=T.dt.no
 refine⟨_,(aF (bI (i:=2) nd Z (by first |exact Or.inl Z |exact Or.inr rfl) (aL iL (pv 1) aB (λ_ _=>Z)))
   (aH (bM (pR An (pv 2) (cG (pc pS (pc pS pN so) so)) (by with_unfolding_all rfl)) (aF (cI (pd y hr (pc (iV (dI Mh (lJ (pv 0) Z) yB (nM _)) (iG (dI vJ (bP dH Z T.uR zE (pc (pv 1) pN aA)) aB (nM _)))) pN rN)))
   (aH (cI (pd J hr (pc (pv 0) (pc (pv 1) pN aA) aA))))) (aH (bM (pR bQ (pv 2) pS (nM _)) (aF (cI (pd y hr (pc (dI bQ (bP dH Z T.uR zE (pc (pv 1) pN aA)) aB (nM _)) pN hH)))
   (aH (cI (pd u hr (pc (pv 0) (pc (pv 1) pN aA) aA))))) (aF (cI (pd y hr (pc (iV (dI bQ (pv 2) pS (nM _)) (iV (dI Pa (lJ (pv 0) Z) yB (nM _)) (iG (dI vJ (bP dH Z T.uR zE (pc (pv 1) pN aA)) aB (nM _))))) pN rN)))
   (aH (cI (dJ zD zH zG oQ (lJ (pv 0) Z) (pc (cG (pc (pd C hr (pc (aL iL (pv 1) aB (λ_ _=>Z)) pN aS)) (pc (pd r hr (pc (dJ PySem.F.plainAttrs_str PySem.F.slot_str_join PySem.F.type_str_join gZ pS (pc (iN nG (pv 1) (iK aB) iJ) pN aS)) (pc (sG a6) pN aA) aZ)) pN aZ) aZ)) pN sT)))))))))),?_⟩
 generalize a2:a1.map (·.2)=ps at a3
 cases a3 with
 | way _ k w nk=>
  have ae:a1=[]:=List.map_eq_nil_iff.mp a2;subst ae;have hw:=E4 g.1 g.2;have hl:=Mw (Hw.ne g.2.2);have j:=ha;rw[hw,List.map_cons,List.map_cons,List.map_cons]at j
  have ac:lP (.str w.2.hd) [.str (S "way"),.str (S "ways")]=true:=by
   cases w.2
   ·show lP (.str (S "way")) _=true;decide +kernel
   ·show lP (.str (S "ways")) _=true;decide +kernel
  refine(bF (zC j) eO ?_);refine(cJ (by walk_at"s") (λp2 Y=>(pT (oI (.inr (zB aC)) Z Z (iteBT ac ?_)))));have U:=zA Y (.tup [.str (S "way"),.str (S "ways")]);have G1:=G.same U;have I:=U _ _ j;refine(lO dx G1.ob T.dt.cl (no _ (by simp)) vW ⟨Z,(aM (iteKT (cM Z) ?_))⟩);refine(dB a (bB (.inl (zC I)) (eZ (fZ (cM (by rw[List.length_cons,List.length_cons,List.length_cons,aR];omega))) ?_)));exact(nQ H0 p dx dw (bG dp a (bG ws k (oO w G1 (U _ _ ha) g.1 g.2 nk a9 (λH' G'=>q [] H' Z G')))))
 | place _ _ x mk nx=>
  subst a2;have hw:=Qx g;have j:=ha;rw[hw]at j;refine(bF (zC j) eO ?_);refine(cJ (by walk_at"s") (λp2 Y=>(pT (oI (.inr (zB aC)) Z Z (iteBF (by walk_at"k") ?_)))));have U:=zA Y (.tup [.str (S "way"),.str (S "ways")]);have G1:=G.same U;have I:=U _ _ j;refine(bE Z Z (iteKT (cM Z) ?_));refine(mI a Z (.inl (zC I)) Z (fZ Z) ?_);refine(nQ H0 p dx dw (bG dp a (bG ws a1 (nK x mk G1 I g.1 g.2.1 g.2.2 (jAAA ?_ a8 pw (λl H' G'=>q _ H' ?_ G'))))))
  ·rw[List.map_map]at nx
   exact nx
  ·rw[dG]
   rfl
 | wth _ ps x mk es e=>
  obtain⟨M,b,rfl,h0,hb⟩:∃M b,a1=M++[b]/\M.map (·.2)=ps/\b.2=(x,mk,es):=by
   obtain⟨l1,l2,e1,e2,e3⟩:=List.map_eq_append_iff.mp a2;obtain⟨b,l3,rfl,e4,e5⟩:=List.map_eq_cons_iff.mp e3;rw[List.map_eq_nil_iff.mp e5]at e1;exact(bG l1 b (jAA e1 e2 e4))
  obtain⟨O,z⟩:=b;simp only at hb;subst hb;subst h0;have hw:=Oj g;have j:=ha;rw[hw,List.map_cons,List.map_cons]at j;have fe:=a7 (O,x,mk,es) (by simp);obtain⟨kvs,_,rp⟩:=G.pa;obtain⟨us,a4⟩:∃us,H O=some (.lst us):=Aq rp O (by simp);refine(bF (zC j) eO ?_);refine(cJ (by walk_at"s") (λp2 Y=>(pT (oI (.inr (zB aC)) Z Z (iteBF (by walk_at"k") ?_)))));have U:=zA Y (.tup [.str (S "way"),.str (S "ways")]);have G1:=G.same U;have I:=U _ _ j;have ob:=G1.ob;rw[wZ]at ob;refine(bE Z Z (iteKF (by walk_at"k") ?_));refine(bE Z Z (iteKT (cM Z) ?_));refine(lO dx ob T.dt.cl (no _ (by simp)) vW ⟨Z,(aM (iteBT Z ?_))⟩);have sp:=Tb (aW e.2.2);refine(dB a (bB (.inl (zC I)) (eZ (fZ (cM (by rw[List.length_cons,List.length_cons,aR];omega))) ?_)));refine(lO dx ob T.dt.cl (no _ (by simp)) vW ⟨.inl (dZ (zC (U _ _ a4))),?_⟩);refine(bF (zC I) at1 (bH e.1 Z g.1 (λH2 s2=>?_)));have af:=s2 _ _ I;refine⟨Z,(oU (zC af) (λc hc=>?_))⟩;rw[pA];have one:(S " ").length=1:=by walk_at"k"
  have h1:=Tn (aW e.2.2);have h2:=iZ e.2.2;have h3:=g.2.2;have s3:=zA hc (.lst ((Txt.split (aW e.2.2) (S " ")).map V.str));refine(cO (S " ") c (fM Z Z (zC aC) (by rw[one];exact aI (by omega)) ?_));rw[Ax];generalize upd H2 c (.lst ((Txt.split (aW e.2.2) (S " ")).map V.str))=H3 at s3⊢;refine(bG o e.2.1 (bL e.2.2 Z (jAA hO g.2.1 (λv H4 s4 r4=>⟨(by walk_at"s"),λt ht=>?_⟩))));have s5:=s2.trans (s3.trans (s4.trans (zA ht (.tup [.str e.1,v]))));have a5:upd H4 t (.tup [.str e.1,v]) t=some (.tup [.str e.1,v]):=aC;have r5:=r4.same (zA ht (.tup [.str e.1,v])) _;generalize upd H4 t (.tup [.str e.1,v])=H5 at s5 a5 r5⊢;have a0:=s5 _ _ (U _ _ a4);have G5:=G1.same s5
  have ul:us.length<=1000:=by
   obtain⟨ag,_,ab⟩:=G5.pa;obtain⟨e5,_,_,aa,_,_,h4,h5⟩:=Gv ab;have e6:H5 O=some (.lst aa):=h4;rw[a0]at e6;injection e6 with e6;injection e6 with e6;have:=h5.length;rw[aR]at this;rw[e6,this];exact fe
  refine(sS us Z a0 (cQ (by omega)) ?_)
  have tp:∀b vs,H5 b=some (.tup vs)->upd H5 O (.lst (us++[V.ref t])) b=some (.tup vs):=λb vs hb=>by
   rw[aG λz=>by rw[z,a0]at hb;cases hb];exact hb
  refine q (M++[(O,x,mk,es++[e])]) _ ?_ (PD.wth G5 a0 (λc o hc nc=>by rw[aG nc];exact hc) aC (iR (tp _ _ a5) Z Z v Z (r5.tups tp _) Z));rw[dG];rfl
def Hw.isOne:Hw->Bool
 |.one _=>true
 |.tags _=>false
def Ge:Sp:=λvs H Q _=>∃(v:V) (h:Hw),vs=[v]/\RelD H v h.d/\h.Ok/\∀H',Same H H'->Q (.bl (Hw.isOne h)) H'
def oS:Sp:=λvs H Q _=>∃(k:Str) (v:V) (w:Tw),vs=[.str k,v]/\RelD H v (twD w)/\Name k/\fG w/\∀H',Same H H'->Q (.str (Tl.line (.way k w))) H'
def oV:Sp:=λvs H Q _=>∃(b:Addr) (v:V) (x:Str×Str) (p:Pl),vs=[.ref b,v]/\H b=some (.tup [.str x.1,.str x.2])/\RelD H v (oY p)/\Name x.1/\Name x.2/\iD p/\∀l H',Same H H'->H l=none->H' l=some (.lst (((gL (x,p)).map Tl.line).map V.str))->Q (.ref l) H'
def Ih{n:Nat}{d:D}{t:Tr}(h:T2 n d t):∃x r,d=.tup (.str x::r):=by
 cases n with
 |zero=>rcases h with⟨n,_,_,rfl,_⟩ |⟨x,_,rfl,_⟩ <;> exact(bU Z)
 |succ n=>
  rcases h with(⟨n,_,_,rfl,_⟩ |⟨x,_,rfl,_⟩) |⟨_,_,_,_,_,_,_,_,rfl,_⟩ |⟨_,_,_,_,_,_,rfl,_⟩ |⟨_,_,_,_,_,rfl,_⟩ |⟨_,_,_,_,_,_,_,rfl,_⟩ |⟨_,_,_,_,_,_,_,_,rfl,_⟩ |⟨_,_,_,_,_,_,_,_,_,rfl,_⟩ <;> exact(bU Z)
def U9(T:Tx K J):DefIs P w K J base (n+1) "is_term" ["how"] Ge:=by
 refine DefIs.of T.jV Uo (by walk_at"l") (λf U A outer s H vs Q E hr h=>?_);obtain⟨v,h,rfl,C,ok,q⟩:=h;refine(bA (aH (aO (iV (dI rX (bP dH Z T.uR zE (pc (pv 0) pN aA)) aB (nM _)) (iG (bP gU Z T.uQ PyProof.Rows.boot_isinstance (pc (aL bO (pv 0) aB (λ_ _=>Z)) (pc (gP T.uW PyProof.Rows.boot_str) pN aA) aS)))))) ?_)
 cases h with
 |one e=>
  obtain⟨x,r,hd⟩:=Ih ok.1;have j:RelD H v e.1:=C;rw[hd]at j;obtain⟨a,us,rfl,y,z,c,rfl,I,_⟩:=j;obtain rfl:z=.str x:=I;have o:SqT K H a (.str x::c):=zB y;refine(dB a (bB (.inr o) (eC (aM (iteKT (cM (by rw[List.length_cons];omega)) ?_)))));exact(bF o eO ⟨_,(bU (bU (aV (λu g=>g) (TyOf.str _) ⟨Z,q _ (Same.refl _)⟩)))⟩)
 | tags l=>
  obtain⟨M,Y,hl⟩:=ok
  cases l with
  |nil=>simp at M
  |cons p l=>
   obtain⟨a,us,rfl,y,z,c,rfl,⟨b,vs,rfl,O,_⟩,_⟩:=C;have o:SqT K H a (.ref b::c):=zB y;refine(dB a (bB (.inr o) (eC (aM (iteKT (cM (by rw[List.length_cons];omega)) ?_)))));exact(bF o eO ⟨_,(bU (bU (aV (λu g=>g) (TyOf.tup O) ⟨Z,q _ (Same.refl _)⟩)))⟩)
def Vh(T:Tx K mg)(r:DefIs P w K mg base n "is_term" ["how"] Ge)(j:DefIs P w K mg base n "term_text" qae (iH (T2 7)))(o:DefIs P w K mg base n "bracketed" ["texts"] tE):DefIs P w K mg base (n+1) "way_text" ["K","way"] oS:=by
 refine DefIs.of T.kD sc_way_text (by walk_at"l") (λf a2 A outer s H vs Q E hr h=>?_);obtain⟨k,v,⟨g,z⟩,rfl,hv,hk,ok,q⟩:=h;have nd:=sc_way_text.nd;have u:=Tl.sum (l:=.way k (g,z)) ⟨hk,ok⟩;obtain⟨hg,hw⟩:=ok;obtain⟨a,us,rfl,ha,v0,_,rfl,r0,Y,_,rfl,rh,rfl⟩:=hv;obtain rfl:v0=.str g:=r0;have hS:SqT K H a [.str g,Y]:=zB ha;have one:(S " ").length=1:=by walk_at"k"
 refine⟨_,(aF (bI (i:=2) nd Z (by first |exact Or.inl Z |exact Or.inr rfl) (aL bO (pv 1) aB (λ_ _=>Z)))
   (aF (bM (fO (pd r hr (pc (pv 2) pN aA))) (aH (aO (dJ PySem.F.plainAttrs_str PySem.F.slot_str_join PySem.F.type_str_join gZ pS (pc (cA (pc pS (pc (pv 0) (pc (aL bO (pv 1) aB (λ_ _=>Z)) (pc (pd j hr (pc (pv 2) pN aA)) pN aZ) aS) aA) so)) pN oP)))) pQ)
   (aF (mJ (i:=3) ["tag","term"] [none,none] Z (by kernel_rfl) nd Z (by first |exact Or.inl Z |exact Or.inr rfl) (iW (pv 2)) (λ_ _ _ _=>(rG (K:=K) (n:=2) Z Z (dN (bS (i:=0) (by show List.Nodup (["tag","term"]:List Str);decide +kernel) Z (Or.inl Z)) (dN (bS (i:=1) (by show List.Nodup (["tag","term"]:List Str);decide +kernel) Z (Or.inl Z)) iI)))) (λ_ _ _ _=>eN) (λ_ _ _ _=>(pd o hr (pc (cA (pc (pv 0) (pc (pd j hr (pc (pv 1) pN aA)) pN aZ) aA)) pN oP))))
   (aH (aO (dJ PySem.F.plainAttrs_str PySem.F.slot_str_join PySem.F.type_str_join gZ pS (pc (aU eK (cA (pc pS (pc (pv 0) (pc (aL bO (pv 1) aB (λ_ _=>Z)) pN aS) aA) so)) (pv 3)) pN hG))))))),?_⟩
 refine(bF hS at1 ?_);refine(aE (dW Y z Z rh hw (λH1 y=>(aM ?_))));have a1:SqT K H1 a [.str g,Y]:=zB (y _ _ ha)
 cases z with
 |one e=>
  refine iteBT Z ?_;refine(eS Z (bF a1 eO ?_));refine(gC Y e.1 e.2 Z (rh.same y _) hw.1 (λH2 C=>⟨(by walk_at"s"),λl hl=>?_⟩));refine(eW (S " ") l ([S "way",k,g,aW e.2]) Z Z (zC aC) (by rw[one];exact aI (by have h9:([S "way",k,g,aW e.2].map (·.length)).sum+4<=3700:=u;have h8:([S "way",k,g,aW e.2]:List Str).length=4:=Z;omega)) ?_);exact q _ (y.trans (C.trans (zA hl _)))
 | tags l=>
  refine iteBF Z ?_;obtain⟨b,us,rfl,hb,I⟩:=rh;have M:=I.length;rw[aR]at M;obtain⟨l1,l4,hl⟩:=hw;have O:=y _ _ hb;refine(nN ⟨_,zB O⟩ ?_);refine wR (xs:=us) (λi ys H'=>Same H1 H'/\ys=((l.take i).map λp=>aJ (aP p))) ⟨Same.refl _,Z⟩ (cQ (by omega)) (λi ys H' _ p=>zB (p.1 _ _ O)) ?_ ?_
  ·rintro i x ys H2 hx hi J ⟨C,rfl⟩
   obtain⟨d,hd,rd⟩:=I.get hx;rw[dA]at hd;obtain⟨p,hp,rfl⟩:=fL hd;have a0:=y.trans C;obtain⟨t,_,rfl,ht,v1,_,rfl,r1,v2,_,rfl,r2,rfl⟩:=rd.same a0 _;obtain rfl:v1=.str p.1:=r1;have tk:=hl p (cZ hp);refine(gA (zB ht) Z (bU (dZ (aM (bB (eF Z Z) (qU ?_))))));refine(aE (gC v2 p.2.1 p.2.2 Z r2 tk.2.1 (λH3 s3=>⟨(by walk_at"s"),λc hc=>?_⟩)));have h1:=A2 tk;rw[iZ]at h1;refine(dW c ([tx p.1,p.2.2]) Z ?_ (by have:(aP p).cs.length<=890:=h1;exact zY this (by decide)) (λH4 s4=>hX hi J ⟨C.trans (s3.trans ((zA hc _).trans s4)),?_⟩))
   ·rw[aC,List.map_cons,List.map_cons,dD]
    rfl
   ·rw[fH,hp,dG]
    rfl
  ·rintro ys H2 J ⟨C,rfl⟩ D hD
   rw[dR (by omega)];have sD:=C.trans (zA hD (.lst (l.map λp=>aJ (aP p))));have U:upd H2 D (.lst (l.map λp=>aJ (aP p))) D=some (.lst (l.map λp=>aJ (aP p))):=aC;generalize upd H2 D (.lst (l.map λp=>aJ (aP p)))=H3 at sD U⊢;refine(eS Z (mL (zB (sD _ _ (y _ _ ha))) eO (by walk_at"s") (λc hc=>?_)));have sc:=zA hc (.lst [.str (S "ways"),.str k,.str g]);refine(aE (hU aC (sc _ _ U) (aI (by rw[aR];show 3+l.length<=_;omega)) (λe he=>?_)));refine(eW (S " ") e (S "ways"::k::g::(l.map λp=>aW (aP p))) Z Z (zC ?_) (by rw[one];exact aI (by have h9:((S "ways"::k::g::(l.map λp=>aW (aP p))).map (·.length)).sum+(S "ways"::k::g::(l.map λp=>aW (aP p))).length<=3700:=u;omega)) ?_)
   ·rw[aC,List.map_cons,List.map_cons,List.map_cons,List.map_map]
    rfl
   ·exact q _ (y.trans (sD.trans (sc.trans (zA he _))))
def Wy(T:Tx K Y)(j:DefIs P w K Y base n "term_text" qae (iH (T2 7))):DefIs P w K Y base (n+1) "place_texts" qam oV:=by
 refine DefIs.of T.kF sc_place_texts (by walk_at"l") (λf a1 A outer s H vs Q E hr h=>?_);obtain⟨b,v,x,⟨mk,es⟩,rfl,hb,hv,h1,h2,⟨h3,h5,hl⟩,q⟩:=h;have nd:=sc_place_texts.nd;obtain⟨a,_,rfl,ha,v0,_,rfl,r0,vs,_,rfl,⟨c,us,rfl,hc,u⟩,rfl⟩:=hv;obtain rfl:v0=.str mk:=r0;have hS:SqT K H a [.str mk,.ref c]:=zB ha;have one:(S " ").length=1:=by walk_at"k"
 have a0:us.length=es.length:=by
  have:=u.length;rw[aR]at this;exact this
 have h5:es.length<=5:=h5
 refine⟨_,(aF (mJ (i:=2) ["x","term"] [none,none] Z (by kernel_rfl) nd Z (by first |exact Or.inl Z |exact Or.inr rfl) (iW (aL bO (pv 1) aB (λ_ _=>Z))) (λ_ _ _ _=>(rG (K:=K) (n:=2) Z Z (dN (bS (i:=0) (by show List.Nodup (["x","term"]:List Str);decide +kernel) Z (Or.inl Z)) (dN (bS (i:=1) (by show List.Nodup (["x","term"]:List Str);decide +kernel) Z (Or.inl Z)) iI)))) (λ_ _ _ _=>eN) (λ_ _ _ _=>(Dz (K:=K) Z PySem.F.plainAttrs_str PySem.F.slot_str_join PySem.F.type_str_join (Pz (K:=K) Z) pS (pc (cA (pc pS (pc (pv 0) (pc (pd j hr (pc (pv 1) pN aA)) pN aZ) aA) so)) pN oP))))
   (aH (aO (aU eK (cA (pc (dJ PySem.F.plainAttrs_str PySem.F.slot_str_join PySem.F.type_str_join gZ pS (pc (cA (pc pS (pc (aL bO (pv 0) aB (λ_ _=>Z)) (pc (aL bO (pv 0) aB (λ_ _=>Z)) (pc (aL bO (pv 1) aB (λ_ _=>Z)) pN aS) aS) aS) so)) pN oP)) pN aZ)) (pv 2))))),?_⟩
 refine(bF hS at1 (eB ⟨_,zB hc⟩ ?_));refine wR (xs:=us) (λi ys H'=>Same H H'/\ys=((es.take i).map λp=>V.str (Tl.line (.wth p)))) ⟨Same.refl _,Z⟩ (cQ (by omega)) (λi ys H' _ p=>zB (p.1 _ _ hc)) ?_ ?_
 ·rintro i y ys U hx hi z ⟨J,rfl⟩
  obtain⟨d,hd,rd⟩:=u.get hx;rw[dA]at hd;obtain⟨p,hp,rfl⟩:=fL hd;obtain⟨t,_,rfl,ht,v1,_,rfl,r1,v2,_,rfl,r2,rfl⟩:=rd.same J _;obtain rfl:v1=.str p.1:=r1;have tk:=hl p (cZ hp);have o:=Tl.sum (l:=.wth p) tk;refine(gA (zB ht) Z (bU (dZ (aM (bB (eF Z Z) (qU ?_))))));refine(eS Z (gC v2 p.2.1 p.2.2 Z r2 tk.2.1 (λH3 s3=>⟨(by walk_at"s"),λe O=>?_⟩)));refine(eW (S " ") e ([S "with",p.1,aW p.2.2]) Z Z (zC aC) (by rw[one];exact aI (by have h9:([S "with",p.1,aW p.2.2].map (·.length)).sum+3<=3700:=o;have h8:([S "with",p.1,aW p.2.2]:List Str).length=3:=Z;omega)) ?_);refine hX hi z ⟨J.trans (s3.trans (zA O _)),?_⟩;rw[fH,hp,dG];rfl
 ·rintro ys U z ⟨J,rfl⟩ D hD
  rw[dR (by omega)];have r:=J.trans (zA hD (.lst (es.map λp=>V.str (Tl.line (.wth p)))));have I:upd U D (.lst (es.map λp=>V.str (Tl.line (.wth p)))) D=some (.lst (es.map λp=>V.str (Tl.line (.wth p)))):=aC;generalize upd U D (.lst (es.map λp=>V.str (Tl.line (.wth p))))=H3 at r I⊢;have o:=Tl.sum (l:=.place x mk) (jAA h1 h2 h3);refine(eS Z (nR (zB (r _ _ hb)) eO (bF (zB (r _ _ hb)) at1 (mL (zB (r _ _ ha)) eO (by walk_at"s") (λe O=>?_)))));have se:=zA O (.lst [.str (S "place"),.str x.1,.str x.2,.str mk]);refine(eW (S " ") e ([S "place",x.1,x.2,mk]) Z Z (zC aC) (by rw[one];exact aI (by have h9:([S "place",x.1,x.2,mk].map (·.length)).sum+4<=3700:=o;have h8:([S "place",x.1,x.2,mk]:List Str).length=4:=Z;omega)) ?_);refine⟨(by walk_at"s"),λg hg=>?_⟩;have M:=se.trans (zA hg (.lst [.str (Tl.line (.place x mk))]));refine(aE (hU aC (M _ _ I) (aI (by rw[aR];show 1+es.length<=_;omega)) (λl C=>?_)));have sl:=M.trans (zA C (.lst (V.str (Tl.line (.place x mk))::es.map λp=>V.str (Tl.line (.wth p)))));refine q l _ (r.trans sl) (hJ (r.trans M) C) ?_;rw[aC];show _=some (HO.lst (((Tl.place x mk::es.map Tl.wth).map Tl.line).map V.str));rw[List.map_cons,List.map_cons,List.map_map,List.map_map];rfl
def Fe(K:Fg):Sp:=λvs H Q _=>∃(p dx:Addr),vs=[.ref p]/\H p=some (.ins (ad K "ToldDraft") dx []) ∧
 ∀H' k c,SameBut p H H'->H' p=some (.ins (ad K "ToldDraft") dx (fE k c .non))->H' k=some (.dK [])->H' c=some (.dT [])->H k=none->H c=none->k≠c->Q .non H'
def Qa(T:Tx K M):InitIs P w K M base (n+1) (ad K "ToldDraft") ["self"] (Fe K):=by
 refine InitIs.of T.di R7 (λvs H Q E h=>?_) (λf a0 A outer s H vs Q E hr h=>?_)
 ·obtain⟨_,_,rfl,_⟩:=h
  rfl
 obtain⟨p,C,rfl,I,q⟩:=h;refine(bA (aF (vQ (pv 0) Aa Z) (aF (vQ (pv 0) Ab Z) (aH (vQ (pv 0) yB Z)))) ?_);have no:∀f∈(qaw:List Str),NoAttr K (ad K "ToldDraft") f:=T.dt.no;refine λk j=>(eM p (ad K "ToldDraft") C (rB ([]) (zA j _ _ _ I) T.dt.cl (no _ (by simp)) ⟨by decide,?_⟩));have l:p≠k:=bN I j;have Y:cB "ways" (V.ref k) []=[((("ways":Str),V.ref k):Str×V)]:=Z
 have U:∀c,cB "places" (V.ref c) [((("ways":Str),V.ref k):Str×V)]=[((("ways":Str),V.ref k):Str×V),((("places":Str),V.ref c):Str×V)]:=λc=>by
  show(if ("ways":Str)="places" then _ else _)=_;rw[if_neg (by walk_at"k")];rfl
 have O:∀c,cB "sets" V.non [((("ways":Str),V.ref k):Str×V),((("places":Str),V.ref c):Str×V)]=fE k c .non:=λc=>by
  show(if ("ways":Str)="sets" then _ else (((("ways":Str),V.ref k):Str×V))::(if ("places":Str)="sets" then _ else _))=_;rw[if_neg (by walk_at"k"),if_neg (by walk_at"k")];rfl
 rw[Y];refine λc g=>(oA p (cO (ad K "ToldDraft") C (bB (zA g _ _ _ aC) (jAAA T.dt.cl (no _ (by simp)) (by show 1<1000;decide) ?_))));rw[U];have r:p≠c:=λz=>by rw[<- z,aC]at g;cases g
 have a:upd H k (.dK []) c=none:=by rw[aG (Ne.symm r)]at g;exact g
 have x:k≠c:=λz=>by rw[<- z,aC]at a;cases a
 have e:H c=none:=by rw[aG (Ne.symm x)]at a;exact a
 refine(oA p (cO (ad K "ToldDraft") C (bB aC (jAAA T.dt.cl (no _ (by simp)) (by show 2<1000;decide) ?_))));rw[O];refine q _ k c (λb o y u=>?_) aC ?_ ?_ j e x
 ·have nk:b≠k:=bN y j
  have J:b≠c:=bN y e;rw[aG u,aG u,aG J,aG u,aG nk];exact y
 ·rw[aG (Ne.symm l),aG (Ne.symm l),aG x,aG (Ne.symm l),aC]
 ·rw[aG (Ne.symm r),aG (Ne.symm r),aC]
def E6(K:Fg):Sp:=λvs H Q _=>∃(e:Addr) (i:Int),vs=[.ref e,.int i]/\H e=some (cC e (cAt K 0) none)/\0<=i/\i<10 ^ 18 ∧
 ∀H' dx,SameBut e H H'->H' e=some (cC e (cAt K 0) (some dx))->H' dx=some (.xd [("at",.int i)])->Q .non H'
def Ny{i:Int}(h0:0<=i)(h:i<10 ^ 18):(Str.ofString (toString i)).length<=18:=by
 obtain⟨m,rfl⟩:=Int.eq_ofNat_of_zero_le h0;have e:=congrArg List.length (num_reads m);rw[aR]at e;show(cW (m:Int)).cps.size<=18;rw[<- Array.length_toList,e];exact(Nat.length_toDigits_le_iff (b:=10) (k:=18) (by decide) (by decide)).mpr (by omega)
def PlAt(H:Hp)(e:List aK×V)(p:(Str×Str)×Pl):Prop:=e.1=kP p.1/\RelD H e.2 (oY p.2)
theorem PlAt.tups{H b:Hp}{e:List aK×V}{p:(Str×Str)×Pl}(h:PlAt H e p)(c:∀a us,H a=some (.tup us)->b a=some (.tup us)):PlAt b e p:=⟨h.1,h.2.tups c _⟩
structure TdAt(H:Hp)(a b:Addr)(t:Td):Prop where
 w:∃kvs,H a=some (.dK kvs)/\All2 (WayAt H) kvs t.ways
 p:∃kvs,H b=some (.dT kvs)/\All2 (PlAt H) kvs t.places
def sY:Sp:=λvs H Q _=>∃t:Td,vs=[.str t.text]/\TdOk t/\∀r a b H',Same H H'->H a=none->H b=none->H' r=some (.tup [.ref a,.ref b])->TdAt H' a b t->Q (.ref r) H'
def FewT(i:Nat)(t:Td):Prop:=t.ways.length<=i/\t.places.length<=i/\∀e∈t.places,e.2.2.length<=i
def FewT.step{i:Nat}{t t':Td}{l:Tl}(f:FewT i t)(s:Tp t l t'):FewT (i+1) t':=by
 obtain⟨j,g,c⟩:=f
 cases s with
 |way ws k w=>exact(jAA (by rw[bK];exact Nat.succ_le_succ j) (qR _) (λh o=>nomatch o))
 |place ws ps p m=>
  refine(jAA (Nat.le_succ_of_le j) (by rw[bK];exact Nat.succ_le_succ g) (λe b=>?_));rcases eA b with b |b
  ·exact Nat.le_succ_of_le (c e b)
  ·rw[eG b];exact qR _
 | wth ws ps p m es e=>
  refine(jAA (Nat.le_succ_of_le j) (by rw[bK]at g⊢;exact Nat.le_succ_of_le g) (λx a=>?_));rcases eA a with a |a
  ·exact Nat.le_succ_of_le (c x (by simp[a]))
  ·have:=c (p,m,es) (by simp)
   rw[eG a];show(es++[e]).length<=i+1;rw[bK];exact Nat.succ_le_succ this
theorem sU{H:Hp}{kvs:List (List aK×V)}{ps:List ((Str×Str)×Pl)}(h:All2 (PlAt H) kvs ps):kvs.map (·.1)=(ps.map (·.1)).map kP:=by
 induction h with
 |nil=>rfl
 |cons h _ a=>rw[List.map_cons,List.map_cons,List.map_cons,h.1,a]
def Lg{l:List (Str×Str)}(h:l.Nodup):(l.map kP).Nodup:=List.pairwise_map.mpr (h.imp λh e=>h (xY e))
def Nw (T:Tx K y) {e:Addr} {i:Int} {H:Hp} {Q:VK} (u:H e=some (cC e (cAt K 0) none)) (p:0<=i) (l:i<10 ^ 18)
  (k:∀c f,SameBut e H c->c e=some (cC e (cAt K 0) (some f))->c f=some (.xd [("at",.int i)])->Q .non c) :
  oW (Dq (Ea K (rY (fA 0) (rY (λσ H Q=>tL (Str.ofString "no such text, by its row ") (tM (fA 1) tK) σ H Str.empty Q) lB)))) (Dk K (fA 0) (fA 1) "at") {nx:=λ_ c=>Q .non c,rt:=Q} (eP qav [.ref e,.int i]) H:=by
 have r:=Ny p l
 have a:((Str.empty++Str.ofString "no such text, by its row ")++Str.ofString (toString i)).length<=sizeLine:=by
  refine aI ?_;show((Str.empty++Str.ofString "no such text, by its row ").cps++(Str.ofString (toString i)).cps).size<=4000000;rw[Array.size_append];have I:(Str.empty++Str.ofString "no such text, by its row ").cps.size=25:=by walk_at"k"
  have C:(Str.ofString (toString i)).cps.size<=18:=r;omega
 refine(cJ (by walk_at"k") (nN (Am (by omega)) (jAA a a (cO e (cAt K 0) (fN u (T.xt.cl 0 (by decide)) (by walk_at"s") ?_)))));have x:(upd H e (cC e (cAt K 0) none)) e=some (cC e (cAt K 0) none):=aC;refine(fS e (cAt K 0) (fN x (T.xt.cl 0 (by decide)) T.xt.na (λf hd ne=>?_)));refine k _ f (λb o j g=>?_) aC ?_
 ·have h:b≠f:=λz=>by rw[z]at j g;rw[aG g]at hd;rw[j]at hd;cases hd
  rw[aG g,aG h,aG g];exact j
 ·rw[aG ne,aC]
def Qb(T:Tx K a):InitQ P w K a base (n+1) (cAt K 0) qav (E6 K):=by
 refine InitQ.of T.it Om (λvs H Q E h=>?_) (λf j A outer s H vs Q E l h=>?_)
 ·obtain⟨_,_,rfl,_⟩:=h
  rfl
 obtain⟨e,i,rfl,g,c,b,k⟩:=h;exact(bA (aF (cI (Qk T.xt.sup Z T.u4 (pc (pv 0) (pc (wA (lH (Mr (pv 1) vO))) pN Ic) aA))) (aH (Oc (pv 0) (pv 1) Z))) (Nw T g c b k))
def Wg (T:Tx K mg) (a4:InitIs P w K mg base n (ad K "ToldDraft") ["self"] (Fe K)) (a3:InitQ P w K mg base n (cAt K 0) qav (E6 K)) (J:DefIs P w K mg base (n+1) "rows_in" qaa E7)
  (I:DefXs P w K mg base (n+1) "put_told" qag (B0 K)):DefXs P w K mg base (n+2) "read_told" qaa sY:=by
 refine DefXs.of T.jW sc_read_told (by walk_at"l") (λf bh A outer s H vs Q E hr h=>?_);obtain⟨t,rfl,ok,q⟩:=h;have nd:=sc_read_told.nd;have az:=Ds hr;have bf:=Td.text_len ok;have bb:=ok.few
 refine⟨_,(aF (bI (i:=1) nd Z (by first |exact Or.inl Z |exact Or.inr rfl) (Qi a4 T.dt hr T.u5))
   (aF (gX (Rj Z Z) Z (Oa Z T.uO (pc (pd J hr (pc (pv 0) pN aA)) pN aZ)) (oE Z (dN (bS (i:=2) nd Z (by first |exact Or.inl Z |exact Or.inr rfl)) (dN (bS (i:=3) nd Z (by first |exact Or.inl Z |exact Or.inr rfl)) iI)))
   (aH (Rz Z Z Z T.uZ (T.xt.cl 0 (by decide)).obj (λpn Es=>(aH (cI (Rr I hr (pc (pv 1) (pc (Dz (K:=K) Z PySem.F.plainAttrs_str PySem.F.slot_str_split PySem.F.type_str_split A8 (pv 3) (pc pS pN so)) pN aZ) aA))))) (λe=>(Pe a3 (T.xt.cl 0 (by decide)) (RoomQ.mark hr.q _) T.uZ (pc (pv 2) pN aA))))))
   (aF (Fz (mJ (i:=4) qam [none,none] Z (by kernel_rfl) nd Z (by first |exact Or.inl Z |exact Or.inr rfl) (Hu (lJ (pv 1) Z)) (λ_ _ _ _=>(rG (K:=K) (n:=2) Z Z (dN (bS (i:=0) (by show List.Nodup (qam:List Str);decide +kernel) Z (Or.inl Z)) (dN (bS (i:=1) (by show List.Nodup (qam:List Str);decide +kernel) Z (Or.inl Z)) iI)))) (λ_ _ _ _=>eN) (λ_ _ _ _=>(cG (pc (pv 0) (pc (cG (pc (aL (zV (K:=K) Z) (pv 1) aB (λ_ _=>Z)) (pc (iQ (Wv (K:=K) Z) Z T.uX zK (pc (aL (zV (K:=K) Z) (pv 1) aB (λ_ _=>Z)) pN aS)) pN aZ) aS)) pN sT) aA)))))
   (aH (aO (cG (pc (lJ (pv 1) Z) (pc (iQ (Vn Z az) Z T.uN zL (pc (pv 4) pN aA)) pN aZ) Ia))))))),?_⟩
 refine λp dx hp b7 bc=>(bG p dx (bB aC (λH1 k c sb e1 e2 e3 hk hc kc=>⟨Z,?_⟩)))
 have s0:Same H (upd (upd H dx (.own p)) p (.ins (ad K "ToldDraft") dx [])):=λa o e=>by
  rw[aG (bN e hp),aG (bN e b7)];exact e
 have s1:Same H H1:=λa o e=>sb a o (s0 a o e) (bN e hp);have k0:H k=none:=hJ s0 hk;have c0:H c=none:=hJ s0 hc;obtain⟨g,y⟩:∃g:List Str,g=t.lns.map Tl.line:=⟨_,Z⟩
 have hx:(t.text=S ""/\g=[])\/(t.text≠S ""/\Txt.split t.text (S "\n")=g):=by
  by_cases e:t.lns=[]
  ·refine .inl ⟨?_,by rw[y,e];rfl⟩
   unfold Td.text;rw[e];decide +kernel
  ·exact .inr ⟨Td.text_ne ok e,by rw[y];exact Td.split_text ok e⟩
 refine(aE (dW t.text g Z (by omega) hx (λl hl=>(bH l Z ⟨_,zC aC⟩ ?_))));have t2:=zA hl (.lst (g.map V.str));have an:upd H1 l (.lst (g.map V.str)) l=some (.lst (g.map V.str)):=aC;generalize upd H1 l (.lst (g.map V.str))=H2 at t2 an⊢;have lk:l≠k:=λz=>by rw[z,e2]at hl;cases hl
 have lc:l≠c:=λz=>by rw[z,e3]at hl;cases hl
 have lp:l≠p:=λz=>by rw[z,e1]at hl;cases hl
 have sH:Same H (aQ [p,k,c] H2):=λa o e=>hide_get.mpr ⟨by simp[bN e hp,bN e k0,bN e c0],t2 _ _ (s1 _ _ e)⟩;have l0:aQ [p,k,c] H2 l=some (.lst (g.map V.str)):=hide_get.mpr ⟨by simp[lk,lc,lp],an⟩
 have ao:∀a∈[p,k,c],aQ [p,k,c] H2 a=none:=λa ha=>by
  cases e:aQ [p,k,c] H2 a with
  |none=>rfl
  |some o=>exact absurd ha (hide_get.mp e).1
 have p0:aQ [p,k,c] H2 p=none:=ao p (by simp)
 have G0:PD K (aQ [p,k,c] H2) H2 p dx k c [] []:=by
  refine⟨t2 _ _ e1,(bL ([]) (t2 _ _ e2) (.nil)),(bL ([]) (t2 _ _ e3) (.nil)),by simp[kc],λa ha=>ao a (by simp at ha⊢;exact .inr ha),λa o e=>(hide_get.mp e).2⟩
 generalize aQ [p,k,c] H2=H0 at sH l0 G0 p0;have am:g.length=t.lns.length:=by rw[y,aR]
 refine Pq (xs:=g.map V.str) (λi σ H'=>∃o2 o3 ws C,σ=[some (.str t.text),some (.ref p),o2,o3,none]/\PD K H0 H' p dx k c ws C/\TRun ⟨ws,C.map (·.2)⟩ (t.lns.drop i) t/\FewT i ⟨ws,C.map (·.2)⟩)
  (bU (bG ([]) ([]) (bB G0 (jAAA ok.run (zZ _) (zZ _) (λh hh=>nomatch hh))))) ?_ ?_ ?_
 ·rintro i σ H' _ ⟨_,_,_,_,_,G,_⟩
  exact zC (G.sm _ _ l0)
 ·rintro i z σ H3 p3 hz ⟨o2,o3,ws,C,rfl,G,j,O⟩ b0
  have G4:=G.same (zA b0 (.tup [.int (i:Nat),z]));refine(gA (zB aC) Z (bU (dZ (eB Z ?_))));generalize upd H3 p3 (.tup [.int (i:Nat),z])=H4 at G4⊢;rw[dA]at hz;obtain⟨line,a0,rfl⟩:=fL hz;rw[y,dA]at a0;obtain⟨ln,aa,rfl⟩:=fL a0;have hi:i<t.lns.length:=(dC aa).1
  have ed:t.lns.drop i=ln::t.lns.drop (i+1):=by
   rw[List.drop_eq_getElem_cons hi];congr 1;exact(dC aa).2
  rw[ed]at j;have ak:ln.Ok:=ok.lns ln (cZ aa);have bg:=Tl.len ak
  cases j with
  | cons ac j=>
   rename_i ae;refine(bL (λ_ _ _ _=>False) (aE (cJ Z (cT (S " ") Z (jAA (by walk_at"k") (aI (by omega)) (λa ha=>?_))))) (λ_ _ _ _ _ _ z=>z.elim));rw[show Txt.split ln.line (S " ")=rd ln.ws from Uu ln.ne];have t5:=zA ha (.lst ((rd ln.ws).map V.str));refine(bG H0 p (bG dx k (bG c a (bG ws C (nK ln ae (G4.same t5) aC ak ac (zY O.1 (by omega)) (jAAA ?_ (λe he=>?_) p0 (λar H6 e6 G6=>?_)))))))
   ·have:=O.2.1
    rw[aR]at this;omega
   ·exact zY (O.2.2 e.2 (qH he)) (by omega)
   ·have b6:=O.step ac
    refine(bU (bG ae.ways ar (aV G6 ?_ ?_)))
    ·rw[e6];exact j
    ·rw[e6];exact b6
 ·rintro σ H3 ⟨o2,o3,ws,C,rfl,G,j,O⟩
  rw[aR,am,List.drop_length]at j;obtain⟨tw,tp⟩:=t;cases j;obtain⟨kvs,U,rp⟩:=G.pa;obtain⟨ay,ab,av⟩:=G.wa;have no:∀f∈(qaw:List Str),NoAttr K (ad K "ToldDraft") f:=T.dt.no;have af:Same H H3:=sH.trans G.sm;have np:p≠c:=λz=>by have:=G.ob;rw[z,U]at this;cases this
  have nk:k≠c:=λz=>by rw[z,U]at ab;cases ab
  have l1:=rp.length
  have bd:kvs.length<=1000:=by
   have h1:=O.2.1;have h2:(C.map (·.2)).length<=(g.map V.str).length:=h1;rw[aR,aR]at h2;omega
  refine(lO dx G.ob T.dt.cl (no _ (by simp)) Al (cT kvs U (λo nz=>?_)));have kf:∀a u,H3 a=some u->a≠c->upd H3 c (.frz o (.dT kvs)) a=some u:=λa u e ne=>by rw[aG ne];exact e
  have a1:upd H3 c (.frz o (.dT kvs)) c=some (.frz o (.dT kvs)):=aC;generalize upd H3 c (.frz o (.dT kvs))=Hf at kf a1⊢;have tf:∀a us,H3 a=some (.tup us)->Hf a=some (.tup us):=λa us e=>kf a _ e λz=>by rw[z,U]at e;cases e
  have ag:=Aq rp
  have rf:All2 (PlcAt Hf) kvs C:=wW tf rp λa ha u e=>kf a u e λz=>by
   obtain⟨us,e2⟩:=ag a ha;rw[z,U]at e2;cases e2
  refine Vp (λi ys H'=>Same Hf H'/\∃nk,PairsVT H' ys nk/\All2 (PlAt H') nk ((C.map (·.2)).take i)) (jAEA (Same.refl _) ([]) trivial (.nil)) (cQ (by omega)) (λi ys H' _ h=>h.1 _ _ a1) ?_ ?_
  ·rintro i kv b pp ys H4 b4 hi al hb a8 ⟨s4,M,a7,a2⟩
   obtain⟨⟨a,x,mk,es⟩,b9,he,tt,us,e2,ht,ha,aw⟩:=rf.get b4;have s5:=s4.trans (zA a8 (.tup [.ref b,kv.2]));have a9:upd H4 pp (.tup [.ref b,kv.2]) pp=some (.tup [.ref b,kv.2]):=aC;have aq:=zA a8 (.tup [.ref b,kv.2]) _ _ hb;have a6:=zA a8 (.tup [.ref b,kv.2]);generalize upd H4 pp (.tup [.ref b,kv.2])=H5 at s5 a9 aq a6⊢;rw[e2]at a9;have ah:H5 tt=some (.tup [.str mk,.ref a]):=s5 _ _ ht;have ba:H5 a=some (.lst us):=s5 _ _ ha;refine(gA (zB a9) Z (bU (dZ (aM (bB (eF Z Z) (qU ?_))))));refine(aE (bF (zB ah) eO (bF (zB ah) at1 (cX a us Z (.inl ⟨zC ba,λl6 b3=>⟨(by walk_at"s"),λl7 b2=>⟨(by walk_at"s"),λl8 b1=>?_⟩⟩⟩)))));have s6:=zA b3 (.tup us);have s7:=zA b2 (.tup [.str mk,.ref l6]);have s8:=zA b1 (.tup [.ref b,.ref l7]);have Y:=s6.trans (s7.trans s8);have g6:=s7.trans s8 _ _ (aC (H:=H5) (a:=l6) (o:=.tup us));have g7:=s8 _ _ (aC (H:=upd H5 l6 (.tup us)) (a:=l7) (o:=.tup [.str mk,.ref l6]));refine hX hi al (jAEA (s5.trans Y) (M++[(kv.1,.ref l7)]) ?_ ?_)
   ·refine(a7.same λb us e=>Y _ _ (a6 _ _ e)).append ⟨(cT b aC ?_),trivial⟩
    exact Y _ _ aq
   ·rw[fH,dA,b9]
    refine(a2.imp λ_ _ h=>h.tups λb us e=>Y _ _ (a6 _ _ e)).append (.cons ⟨he,(fR g7 Z Z Z (cT us g6 ?_) Z)⟩ .nil);exact aw.same (s5.trans Y) _
  ·rintro ys H4 al ⟨s4,M,a7,a2⟩ D hD
   have b8:c≠D:=bN (s4 _ _ a1) hD;have sD:=s4.trans (zA hD (.lst ys));refine(lZ c o kvs (sD _ _ a1) nz ?_);rw[dR (by rw[aR];omega)]at a2;have k5:∀a u,Hf a=some u->a≠c->upd (upd H4 D (.lst ys)) c (.dT kvs) a=some u:=λa u e ne=>by rw[aG ne];exact sD _ _ e
   have d5:upd (upd H4 D (.lst ys)) c (.dT kvs) D=some (.lst ys):=by rw[aG (Ne.symm b8)];exact aC
   have t5:∀a us,H4 a=some (.tup us)->upd (upd H4 D (.lst ys)) c (.dT kvs) a=some (.tup us):=λa us e=>by
    rw[aG λz=>by rw[z,s4 _ _ a1]at e;cases e];exact zA hD (.lst ys) _ _ e
   generalize upd (upd H4 D (.lst ys)) c (.dT kvs)=H5 at k5 d5 t5⊢;have ax:=k5 _ _ (kf _ _ G.ob np) np;have b5:=k5 _ _ (kf _ _ ab nk) nk;refine(lO dx ax T.dt.cl (no _ (by simp)) yQ (eM D ys M (fN d5 (a7.same t5) ?_ (λr aj=>⟨(by walk_at"s"),λr2 ai=>?_⟩))))
   ·rw[sU a2]
    exact Lg ok.pn
   have sr:=zA aj (.dT M);have a5:=sr.trans (zA ai (.tup [.ref k,.ref r]));have au:∀a us,H3 a=some (.tup us)->H5 a=some (.tup us):=λa us e=>k5 _ _ (tf _ _ e) λz=>by rw[z,U]at e;cases e
   have be:H k=none:=k0
   have Hs:Same H (upd (upd H5 r (.dT M)) r2 (.tup [.ref k,.ref r])):=λa u e=>by
    have ne:a≠c:=bN e c0;exact a5 _ _ (k5 _ _ (kf _ _ (af _ _ e) ne) ne)
   refine q r2 k r _ Hs k0 ?_ aC ⟨(bL ay (a5 _ _ b5) (av.imp λ_ _ h=>h.tups λa us e=>a5 _ _ (au _ _ e))),(bL M ?_ (a2.imp λ_ _ h=>h.tups λa us e=>a5 _ _ (t5 _ _ e)))⟩
   ·cases e:H r with
    |none=>rfl
    |some u=>
     have ne:r≠c:=bN e c0;have:=k5 _ _ (kf _ _ (af _ _ e) ne) ne;rw[aj]at this;cases this
   ·exact zA ai _ _ _ aC
def rQ{ts:List Tr}(hz:(Tr.l ts).cs.length<=2400000):((ts.map aW).map (·.length)).sum+(ts.map aW).length*(S " ").length<=16777216/\(S "(").length+(Txt.join (S " ") (ts.map aW)).length<=sizeLine/\(S "("++Txt.join (S " ") (ts.map aW)).length+(S ")").length<=sizeLine:=by
 have h:=B4 ts;have g:=D8 ts;have f:=pB ts;have e:(Txt.join (S " ") (ts.map aW)).length=(bs ts).tail.length:=by rw[<- dM,Aw]
 have c:(S "(").length=1:=by walk_at"k"
 have b:(S ")").length=1:=by walk_at"k"
 have a:(S " ").length=1:=by walk_at"k"
 refine(jAA ?_ (aI ?_) (aI ?_))
 ·rw[a,aR]
  omega
 ·omega
 ·rw[Str.length_append]
  omega
theorem rE{ts:List Tr}{H:Hp}{Q:VK}(q:Q (aJ (.l ts)) H):Q (.str (S "("++Txt.join (S " ") (ts.map aW)++S ")")) H:=by
 unfold aJ at q;rw[<- Jk]at q;exact q
def Gu(T:Tx K mg)(R:D->Tr->Prop)(hz:∀d t,R d t->t.cs.length<=2400000)(ag:∀d t,Node R d t->t.cs.length<=2400000)(r:DefIs P w K mg base n "_law_text" qaq (iH R)):DefIs P w K mg base (n+1) "_law_text" qaq (iH λd t=>dF d t\/Node R d t):=by
 refine DefIs.of T.kR scl_text (by walk_at"l") (λf an A outer s H vs Q E hr h=>?_);obtain⟨v,d,t,rfl,hv,hR,k⟩:=h;have nd:=scl_text.nd
 refine⟨_,(aF (bI (i:=1) nd Z (by first |exact Or.inl Z |exact Or.inr rfl) (aL bO (pv 0) aB (λ_ _=>Z)))
   (aF (bM (PW.pt (iT (pR bQ (pv 1) pS (nM _)) (oF (pR bQ (pv 1) pS (nM _))))) (aH (aO (iQ (call_str_int.or Jl) Z T.uW PyProof.Rows.boot_str (pc (aL bO (pv 0) aB (λ_ _=>Z)) pN aS)))) pQ)
   (aF (bI (i:=2) nd Z (by first |exact Or.inl Z |exact Or.inr rfl) (cA (pc (pv 1) pN aA)))
   (aF (bM (pR bQ (pv 1) pS (nM _)) (aH (bI (i:=2) nd Z (by first |exact Or.inl Z |exact Or.inr rfl) (cA (pc (aL bO (pv 0) aB (λ_ _=>Z)) (pc (pd r hr (pc (aL bO (pv 0) aB (λ_ _=>Z)) pN aS)) (pc (pd r hr (pc (aL bO (pv 0) aB (λ_ _=>Z)) pN aS)) pN aZ) aZ) aS)))) pQ)
   (aF (bM (pR bQ (pv 1) pS (nM _)) (aH (bI (i:=2) nd Z (by first |exact Or.inl Z |exact Or.inr rfl) (aU eK (aU eK (pv 2) (cA (pc (aL bO (pv 0) aB (λ_ _=>Z)) pN aS))) (iP ["_law_one"] [none] Z (by kernel_rfl) (iW (aL bO (pv 0) aB (λ_ _=>Z))) (λ_ _ _ _=>(bS (i:=0) (by show List.Nodup (["_law_one"]:List Str);decide +kernel) Z (Or.inl Z))) (λ_ _ _ _=>eN) (λ_ _ _ _=>(pd r hr (pc (pv 0) pN aA))))))) pQ)
   (aF (bM (pR bQ (pv 1) pS (nM _)) (aH (bI (i:=2) nd Z (by first |exact Or.inl Z |exact Or.inr rfl) (aU eK (pv 2) (cA (pc (pd r hr (pc (aL bO (pv 0) aB (λ_ _=>Z)) pN aS)) (pc (aL bO (pv 0) aB (λ_ _=>Z)) pN aS) aZ))))) pQ)
   (aF (bM (pR bQ (pv 1) pS (nM _)) (aH (bI (i:=2) nd Z (by first |exact Or.inl Z |exact Or.inr rfl) (aU eK (pv 2) (cA (pc (aL bO (pv 0) aB (λ_ _=>Z)) (pc (aL bO (pv 0) aB (λ_ _=>Z)) (pc (pd r hr (pc (aL bO (pv 0) aB (λ_ _=>Z)) pN aS)) pN aZ) aS) aS))))) pQ)
   (aF (bM (pR bQ (pv 1) pS (nM _)) (aF (bI (i:=2) nd Z (by first |exact Or.inl Z |exact Or.inr rfl) (aU eK (pv 2) (cA (pc (pd r hr (pc (aL bO (pv 0) aB (λ_ _=>Z)) pN aS)) pN aZ))))
   (aH (gX zF Z (iW (aL bO (pv 0) aB (λ_ _=>Z))) (oE Z (dN (bS (i:=3) nd Z (by first |exact Or.inl Z |exact Or.inr rfl)) (dN (bS (i:=4) nd Z (by first |exact Or.inl Z |exact Or.inr rfl)) (dN (bS (i:=5) nd Z (by first |exact Or.inl Z |exact Or.inr rfl)) iI))))
   (aH (cI (dJ zD zH zG oQ (pv 2) (pc (wA (lH (pZ (pv 3) (lH (pZ (pv 4) (lH (pZ (pd r hr (pc (pv 5) pN aA)) (lH vO)))))))) pN Ic))))))) pQ)
   (aF (bM (pR bQ (pv 1) pS (nM _)) (aH (bI (i:=2) nd Z (by first |exact Or.inl Z |exact Or.inr rfl) (aU eK (pv 2) (iP ["_law_one"] [none] Z (by kernel_rfl) (iW (iN yF (pv 0) (iK aB) iJ)) (λ_ _ _ _=>(bS (i:=0) (by show List.Nodup (["_law_one"]:List Str);decide +kernel) Z (Or.inl Z))) (λ_ _ _ _=>eN) (λ_ _ _ _=>(pd r hr (pc (pv 0) pN aA))))))) pQ)
   (aH (aO (aU fT (aU fT pS (dJ PySem.F.plainAttrs_str PySem.F.slot_str_join PySem.F.type_str_join gZ pS (pc (pv 2) pN aA))) pS)))))))))))),?_⟩
 rcases hR with(⟨i,i0,i1,rfl,rfl⟩ |⟨x,hx,rfl,rfl⟩) |hR
 ·obtain⟨a,us,rfl,J,_,_,rfl,rfl,_,_,rfl,rfl,rfl⟩:=hv
  have hS:SqT K H a [.str (S "num"),.int i]:=zB J;refine(bF hS Z ?_);refine(bE Z Z (iteKT (by walk_at"k") (iteT ?_)));refine(bF hS Z (.inl (bH i Z (Am (by omega)) ?_)));have:=k H (Same.refl _);rw[dD]at this;exact this
 ·obtain⟨a,us,rfl,J,_,_,rfl,rfl,_,_,rfl,rfl,rfl⟩:=hv
  have hS:SqT K H a [.str (S "box"),.str x]:=zB J;refine(bF hS Z ?_);refine(bE Z Z (iteKF (by walk_at"k") ?_));refine(bE Z Z (iteKT (by walk_at"k") ?_));refine(bF hS Z (.inr (bL x Z ?_)));have:=k H (Same.refl _);rw[dD]at this;exact this
 have a3:=ag d t hR;rcases hR with⟨sg,x,y,u,I,hs,hx,hy,rfl,rfl⟩ |⟨kk,es,C,hk,h5,ac,rfl,rfl⟩ |⟨x,u,g,hg,hx,rfl,rfl⟩ |⟨kk,g,x,u,hk,hg,hx,rfl,rfl⟩ |⟨x,u,ak,C,hx,h1,h4,ae,rfl,rfl⟩ |⟨x,y,z,u,I,a0,hx,hy,ah,rfl,rfl⟩
 ·obtain⟨a,us,rfl,J,_,_,rfl,rfl,_,_,rfl,rfl,v1,_,rfl,r1,v2,_,rfl,r2,rfl⟩:=hv
  have O:=rQ a3;have hS:SqT K H a [.str (S "op"),.str sg,v1,v2]:=zB J;refine(bF hS Z ?_);refine(bE Z Z (iteKF (by walk_at"k") ?_));walk_at"no";refine(cJ (by walk_at"s") (λl hl=>?_));have sl:=zA hl (.lst [.str (S "op")]);walk_at"yes";refine(bF (zB (sl _ _ J)) Z (eD (nL (zB (sl _ _ J)) v1 x u Z (r1.same sl _) hx (λH1 s1=>?_))));have Y:=sl.trans s1;refine(eD (nL (zB (Y _ _ J)) v2 y I Z (r2.same Y _) hy (λH2 s2=>⟨(by walk_at"s"),λl2 M=>?_⟩)));have af:=Y.trans (s2.trans (zA M (.lst [.str sg,aJ u,aJ I])));walk_at"no";walk_at"no";walk_at"no";walk_at"no";walk_at"no";exact⟨Z,(eM (S " ") l2 (List.map aW [tx sg,u,I]) ⟨Z,(aV (zC (by rw[aC,<- gD];show some (HO.lst [V.str sg,aJ u,aJ I])=some (HO.lst [aJ (tx sg),aJ u,aJ I]);rw[dD])) O.1 (bU (lN O.2.1 O.2.2 (rE (k _ (af))))))⟩)⟩
 ·obtain⟨a,us,rfl,J,_,_,rfl,rfl,_,_,rfl,rfl,v1,_,rfl,⟨b1,U,rfl,a8,rr⟩,rfl⟩:=hv
  have O:=rQ a3;have lE:=ac.length;have lU:=rr.length;have hS:SqT K H a [.str (S "rec"),.str kk,.ref b1]:=zB J;refine(bF hS Z ?_);refine(bE Z Z (iteKF (by walk_at"k") ?_));walk_at"no";refine(cJ (by walk_at"s") (λl hl=>?_));have sl:=zA hl (.lst [.str (S "rec")]);walk_at"no";walk_at"yes";refine(aE (mL (zB (sl _ _ J)) Z (by walk_at"s") (λl2 M=>(hU (zA M _ _ _ aC) aC (by walk_at"s") (λl3 a2=>?_)))));have s3:=sl.trans ((zA M (.lst [.str kk])).trans (zA a2 (.lst [V.str (S "rec"),.str kk])));refine(bF (zB (s3 _ _ J)) Z (eB ⟨_,zB (s3 _ _ a8)⟩ ?_));refine wI (j:=0) (xs:=U) (λi ys H'=>Same (upd (upd (upd H l (.lst [.str (S "rec")])) l2 (.lst [.str kk])) l3 (.lst [V.str (S "rec"),.str kk])) H'/\ys=(C.take i).map aJ) (by rfl) ⟨Same.refl _,Z⟩ (cQ (by omega)) (λi ys H' _ p=>zB (p.1 _ _ (s3 _ _ a8))) ?_ ?_
  ·rintro i v ys H' a1 a6 ⟨sm,rfl⟩
   obtain⟨d',a7,rd⟩:=rr.get a1;obtain⟨t',a5,rt⟩:=ac.get a7;have hi:i<U.length:=(dC a1).1;refine(gC v d' t' Z (rd.same (s3.trans sm) _) rt (λH2 s2=>hZ hi a6 ⟨sm.trans s2,?_⟩));rw[fH,a5];simp
  rintro ys H' a6 ⟨sm,rfl⟩ b hb;have sb:=zA hb (.lst ((C.take U.length).map aJ));refine(nO ([.str (S "rec"),.str kk]) ((C.take U.length).map aJ) (sb _ _ (sm _ _ aC)) aC ?_ (λp hp=>?_))
  ·rw[aR,List.length_take];exact aI (by simp;omega)
  have s4:=s3.trans (sm.trans (sb.trans (zA hp (.lst ([V.str (S "rec"),.str kk]++(C.take U.length).map aJ)))));walk_at"no";walk_at"no";walk_at"no";walk_at"no"
  have eL:(upd (upd H' b (.lst ((C.take U.length).map aJ))) p (.lst ([V.str (S "rec"),.str kk]++(C.take U.length).map aJ))) p=some (.lst ((List.map aW (tx (S "rec")::tx kk::C)).map V.str)):=by
   rw[aC,<- gD,dR (by omega)];show some (HO.lst (V.str (S "rec")::V.str kk::C.map aJ))=some (HO.lst (aJ (tx (S "rec"))::aJ (tx kk)::C.map aJ));rw[dD,dD]
  exact⟨Z,(eM (S " ") p (List.map aW (tx (S "rec")::tx kk::C)) ⟨Z,(aV (zC (eL)) O.1 (bU (lN O.2.1 O.2.2 (rE (k _ (s4))))))⟩)⟩
 ·obtain⟨a,us,rfl,J,_,_,rfl,rfl,v1,_,rfl,r1,_,_,rfl,rfl,rfl⟩:=hv
  have O:=rQ a3;have hS:SqT K H a [.str (S "get"),v1,.str g]:=zB J;refine(bF hS Z ?_);refine(bE Z Z (iteKF (by walk_at"k") ?_));walk_at"no";refine(cJ (by walk_at"s") (λl hl=>?_));have sl:=zA hl (.lst [.str (S "get")]);walk_at"no";walk_at"no";walk_at"yes";refine(aE (eD (nL (zB (sl _ _ J)) v1 x u Z (r1.same sl _) hx (λH1 s1=>?_))));have Y:=sl.trans s1;refine(mL (zB (Y _ _ J)) Z (by walk_at"s") (λl2 M=>(hU (zA M _ _ _ (s1 _ _ aC)) aC (by walk_at"s") (λl3 a2=>?_))));have s3:=Y.trans ((zA M (.lst [aJ u,.str g])).trans (zA a2 (.lst ([V.str (S "get")]++[aJ u,.str g]))));walk_at"no";walk_at"no";walk_at"no";exact⟨Z,(eM (S " ") l3 (List.map aW [tx (S "get"),u,tx g]) ⟨Z,(aV (zC (by rw[aC,<- gD];show some (HO.lst [V.str (S "get"),aJ u,V.str g])=some (HO.lst [aJ (tx (S "get")),aJ u,aJ (tx g)]);rw[dD,dD])) O.1 (bU (lN O.2.1 O.2.2 (rE (k _ (s3))))))⟩)⟩
 ·obtain⟨a,us,rfl,J,_,_,rfl,rfl,_,_,rfl,rfl,_,_,rfl,rfl,v1,_,rfl,r1,rfl⟩:=hv
  have O:=rQ a3;have hS:SqT K H a [.str (S "tag"),.str kk,.str g,v1]:=zB J;refine(bF hS Z ?_);refine(bE Z Z (iteKF (by walk_at"k") ?_));walk_at"no";refine(cJ (by walk_at"s") (λl hl=>?_));have sl:=zA hl (.lst [.str (S "tag")]);walk_at"no";walk_at"no";walk_at"no";walk_at"yes";refine(aE (bF (zB (sl _ _ J)) Z (bF (zB (sl _ _ J)) Z (eD (nL (zB (sl _ _ J)) v1 x u Z (r1.same sl _) hx (λH1 s1=>?_))))));have Y:=sl.trans s1;refine⟨(by walk_at"s"),λl2 M=>(hU (zA M _ _ _ (s1 _ _ aC)) aC (by walk_at"s") (λl3 a2=>?_))⟩;have s3:=Y.trans ((zA M (.lst [.str kk,.str g,aJ u])).trans (zA a2 (.lst ([V.str (S "tag")]++[.str kk,.str g,aJ u]))));walk_at"no";walk_at"no";exact⟨Z,(eM (S " ") l3 (List.map aW [tx (S "tag"),tx kk,tx g,u]) ⟨Z,(aV (zC (by rw[aC,<- gD];show some (HO.lst [V.str (S "tag"),V.str kk,V.str g,aJ u])=some (HO.lst [aJ (tx (S "tag")),aJ (tx kk),aJ (tx g),aJ u]);rw[dD,dD,dD])) O.1 (bU (lN O.2.1 O.2.2 (rE (k _ (s3))))))⟩)⟩
 ·obtain⟨a,us,rfl,J,_,_,rfl,rfl,v1,_,rfl,r1,_,_,rfl,⟨b1,U,rfl,a8,rr⟩,rfl⟩:=hv
  have O:=rQ a3;have lE:=ae.length;have lU:=rr.length;have hS:SqT K H a [.str (S "case"),v1,.ref b1]:=zB J;refine(bF hS Z ?_);refine(bE Z Z (iteKF (by walk_at"k") ?_));walk_at"no";refine(cJ (by walk_at"s") (λl hl=>?_));have sl:=zA hl (.lst [.str (S "case")]);walk_at"no";walk_at"no";walk_at"no";walk_at"no";walk_at"yes";refine(aE (eD (nL (zB (sl _ _ J)) v1 x u Z (r1.same sl _) hx (λH1 s1=>?_))));have Y:=sl.trans s1;refine⟨(by walk_at"s"),λl2 M=>(hU (zA M _ _ _ (s1 _ _ aC)) aC (by walk_at"s") (λl3 a2=>?_))⟩;have s2:=Y.trans (zA M (.lst [aJ u]));have n3:H l3=none:=hJ s2 a2;have s3:=s2.trans (zA a2 (.lst ([V.str (S "case")]++[aJ u])));refine(bF (zB (s3 _ _ J)) Z (eB ⟨_,zB (s3 _ _ a8)⟩ ?_));refine zS (xs:=U) (λi σ H'=>∃o1 o2 o3,σ=[some (.ref a),some (.str (S "case")),some (.ref l3),o1,o2,o3]/\Same H H'/\H' l3=some (.lst ([V.str (S "case"),aJ u]++(C.take i).map aJ))) ?_ (λi σ H' _ p=>?_) ?_ ?_
  ·exact(lZ none none none Z s3 (by rw[aC];rfl))
  ·obtain⟨_,_,_,_,sm,_⟩:=p
   exact zB (sm _ _ a8)
  ·rintro i v σ H' a1 ⟨o1,o2,o3,rfl,sm,hw⟩
   obtain⟨d',a7,rd⟩:=rr.get a1;obtain⟨t',a5,g,y,e,te,hg,hy,he,rfl,rfl⟩:=ae.get a7;obtain⟨c1,am,rfl,ai,_,_,rfl,rfl,_,_,rfl,rfl,ve,_,rfl,re,rfl⟩:=rd;have hi:i<U.length:=(dC a1).1;have lg:=hg.le;have ly:=hy.le;have lt:=hz _ _ he;have eg:g.length=g.cps.toList.length:=by simp[Str.length]
   have ey:y.length=y.cps.toList.length:=by simp[Str.length]
   have et:=iZ te;have k1:(Str.empty++S "(").length=1:=by walk_at"k"
   have k2:(S " ").length=1:=by walk_at"k"
   have k3:(S ")").length=1:=by walk_at"k"
   refine(gA (zB (sm _ _ ai)) Z (bU (dZ (aM (bT Z ?_)))));refine(cJ (.inl (dZ (zC hw))) ?_);refine(eS (few (by show(Str.empty++S "(").length<=100;omega)) (aM (jAAA (few (by omega)) ?_ ?_ (nN (few (by omega)) (jAA ?_ ?_ (gC ve e te Z (re.same sm _) he (λH2 s2=>(aM (fM (aI (by omega)) ?_ ?_ ?_ ?_)))))))))
   ·rw[Str.length_append];exact few (by show(Str.empty++S "(").length+_<=_;omega)
   ·rw[Str.length_append,Str.length_append];exact few (by show(Str.empty++S "(").length+_+(S " ").length<=_;omega)
   ·rw[Str.length_append,Str.length_append,Str.length_append];exact few (by show(Str.empty++S "(").length+_+(S " ").length+_<=_;omega)
   ·rw[Str.length_append,Str.length_append,Str.length_append,Str.length_append];exact few (by show(Str.empty++S "(").length+_+(S " ").length+_+(S " ").length<=_;omega)
   ·rw[Str.length_append,Str.length_append,Str.length_append,Str.length_append,Str.length_append];exact aI (by show(Str.empty++S "(").length+_+(S " ").length+_+(S " ").length+_<=_;omega)
   ·rw[Str.length_append,Str.length_append,Str.length_append,Str.length_append,Str.length_append,Str.length_append];exact aI (by show(Str.empty++S "(").length+_+(S " ").length+_+(S " ").length+_+(S ")").length<=_;omega)
   ·rw[Str.length_append,Str.length_append,Str.length_append,Str.length_append,Str.length_append,Str.length_append];exact aI (by show(Str.empty++S "(").length+_+(S " ").length+_+(S " ").length+_+(S ")").length<=_;omega)
   refine(iB l3 ⟨Z,(aV (s2 _ _ hw) ?_ (bU (eB ?_ ?_)))⟩)
   ·rw[bK,aR,List.length_take];exact cQ (by simp;omega)
   ·intro b o eb
    have aj:b≠l3:=λz=>by rw[z,n3]at eb;cases eb
    rw[aG aj];exact s2 _ _ (sm _ _ eb)
   ·rw[aC,fH,a5]
    have a9:Str.empty++S "("++g++S " "++y++S " "++aW te++S ")"=aW (.l [tx g,tx y,te]):=by
     apply gI;simp only[gS];rw[show L Str.empty=[] from Z,Ez,Fc,show L (S " ")=[32] by walk_at"k"];show _=40::(bs [tx g,tx y,te]).tail++[41];simp only[bs,List.tail_cons,iU];show[]++[40]++L g++[32]++L y++[32]++te.cs++[41]=40::(L g++32::(L y++32::(te.cs++[])))++[41];simp
    have:V.str (Str.empty++S "("++g++S " "++y++S " "++aW te++S ")")=aJ (.l [tx g,tx y,te]):=by rw[a9];rfl
    show some (HO.lst (([V.str (S "case"),aJ u]++(C.take i).map aJ)++[V.str (Str.empty++S "("++g++S " "++y++S " "++aW te++S ")")]))=_;rw[this];simp
  ·rintro σ H' ⟨o1,o2,o3,rfl,sm,hw⟩
   rw[dR (by omega)]at hw;walk_at"no"
   have eL:H' l3=some (.lst ((List.map aW (tx (S "case")::u::C)).map V.str)):=by
    rw[hw,<- gD];show some (HO.lst (V.str (S "case")::aJ u::C.map aJ))=some (HO.lst (aJ (tx (S "case"))::aJ u::C.map aJ));rw[dD]
   exact⟨Z,(eM (S " ") l3 (List.map aW (tx (S "case")::u::C)) ⟨Z,(aV (zC (eL)) O.1 (bU (lN O.2.1 O.2.2 (rE (k _ (sm))))))⟩)⟩
 ·obtain⟨a,us,rfl,J,_,_,rfl,rfl,v1,_,rfl,r1,v2,_,rfl,r2,v3,_,rfl,r3,rfl⟩:=hv
  have O:=rQ a3;have hS:SqT K H a [.str (S "if"),v1,v2,v3]:=zB J;refine(bF hS Z ?_);refine(bE Z Z (iteKF (by walk_at"k") ?_));walk_at"no";refine(cJ (by walk_at"s") (λl hl=>?_));have sl:=zA hl (.lst [.str (S "if")]);walk_at"no";walk_at"no";walk_at"no";walk_at"no";walk_at"no";walk_at"yes";refine(aE (nC (gA (zB (sl _ _ J)) (λz=>absurd (show(1:Nat)=0 from z.1) (by decide)) (λc hc=>?_))));have sc:=zA hc (.tup (bY [V.str (S "if"),v1,v2,v3] (some 1) none));have a4:=sl.trans sc;have aa:(upd (upd H l (.lst [.str (S "if")])) c (.tup (bY [V.str (S "if"),v1,v2,v3] (some 1) none))) c=some (.tup [v1,v2,v3]):=aC;have ab:(upd (upd H l (.lst [.str (S "if")])) c (.tup (bY [V.str (S "if"),v1,v2,v3] (some 1) none))) l=some (.lst [.str (S "if")]):=sc _ _ aC;generalize upd (upd H l (.lst [.str (S "if")])) c (.tup (bY [V.str (S "if"),v1,v2,v3] (some 1) none))=H2 at sc a4 aa ab⊢;refine(eB ⟨_,zB aa⟩ ?_);have al:All2 R [x,y,z] [u,I,a0]:=.cons hx (.cons hy (.cons ah .nil));have rr:RelDs H2 [v1,v2,v3] [x,y,z]:=(bT (r1.same a4 _) (bT (r2.same a4 _) (bT (r3.same a4 _) Z)));refine wI (j:=0) (xs:=[v1,v2,v3]) (λi ys H'=>Same H2 H'/\ys=([u,I,a0].take i).map aJ) (by rfl) ⟨Same.refl _,Z⟩ (cQ (by simp)) (λi ys H' _ p=>zB (p.1 _ _ aa)) ?_ ?_
  ·rintro i v ys H' a1 a6 ⟨sm,rfl⟩
   obtain⟨d',a7,rd⟩:=rr.get a1;obtain⟨t',a5,rt⟩:=al.get a7;have hi:i < [v1,v2,v3].length:=(dC a1).1;refine(gC v d' t' Z (rd.same sm _) rt (λH2 s2=>hZ hi a6 ⟨sm.trans s2,?_⟩));rw[fH,a5];simp
  rintro ys H' a6 ⟨sm,rfl⟩ b hb;have sb:=zA hb (.lst (([u,I,a0].take 3).map aJ));refine(nO ([.str (S "if")]) ([aJ u,aJ I,aJ a0]) (sb _ _ (sm _ _ ab)) aC (by walk_at"s") (λp hp=>?_));have s4:=a4.trans (sm.trans (sb.trans (zA hp (.lst ([V.str (S "if")]++[aJ u,aJ I,aJ a0])))));exact⟨Z,(eM (S " ") p (List.map aW [tx (S "if"),u,I,a0]) ⟨Z,(aV (zC (by rw[aC,<- gD];show some (HO.lst [V.str (S "if"),aJ u,aJ I,aJ a0])=some (HO.lst [aJ (tx (S "if")),aJ u,aJ I,aJ a0]);rw[dD])) O.1 (bU (lN O.2.1 O.2.2 (rE (k _ (s4))))))⟩)⟩
theorem Ay(T:Tx K mg):∀m,m<=7->DefIs P w K mg base (m+1) "_law_text" qaq (iH (T2 m))
 | 0,_=>by
  refine(Gu (n:=0) T (λ_ _=>False) (λ_ _ h=>h.elim) (λd t h=>?_) (DefIs.none T.kR ?_)).imp ?_
  ·rcases h with⟨sg,x,y,tx',ty',hs,hx,_⟩ |⟨kk,es,ts',hk,h5,hes,rfl,rfl⟩ |⟨x,tx',g,hg,hx,_⟩ |⟨kk,g,x,tx',hk,hg,hx,_⟩ |⟨x,tx',arms,ts',hx,_⟩ |⟨x,y,z,tx',ty',tz',hx,_⟩
   ·exact hx.elim
   ·cases hes with
    |nil=>
     have:=hk.le;have:=rM (S "rec") (by walk_at"k");simp only[Tr.cs,bs,List.tail_cons,List.length_cons,bK,List.length_nil,iU];omega
    |cons h _=>exact h.elim
   ·exact hx.elim
   ·exact hx.elim
   ·exact hx.elim
   ·exact hx.elim
  ·rintro vs H Q E ⟨_,_,_,_,_,h,_⟩
   exact h
  ·rintro vs H Q E ⟨v,d,t,h1,h2,h3,h4⟩
   exact(bG v d (bL t h1 (jAA h2 (.inl h3) h4)))
 |m+1,hm=>Gu T (T2 m) (λd t h=>h.short (by omega)) (λd t h=>T2.short (n:=m+1) (.inr h) hm) (Ay T m (by omega))
def cR(ls:List Tl):List V:=(ls.map Tl.line).map V.str
theorem vX(a b:List Tl):cR (a++b)=cR a++cR b:=by unfold cR;rw[dG,dG]
theorem rC(a:List Tl):(cR a).length=a.length:=by unfold cR;rw[aR,aR]
def zW:Sp:=λvs H Q _=>∃(a b:Addr) (t t':Td),vs=[.ref a,.ref b]/\TdAt H a b t/\TdOk t/\Srt t t'/\∀H',Same H H'->Q (.str t'.text) H'
def Bj:Sp:=λvs H Q _=>∃(a b:Addr) (t t':Td),vs=[.ref a,.ref b]/\TdAt H a b t/\TdOk t/\Srt t t'/\∀l H',Same H H'->H' l=some (.lst (cR t'.lns))->Q (.ref l) H'
def Bg:Sp:=λvs H Q _=>∃(a b:Addr) (t:Td),vs=[.ref a,.ref b]/\TdAt H a b t/\TdOk t/\∀l H',Same H H'->H' l=some (.lst (cR t.lns))->Q (.ref l) H'
def wY{H:Hp}{kvs:List (aK×V)}{ws:List (Str×Tw)}(h:All2 (WayAt H) kvs ws):kvs.map (·.1)=(ws.map (·.1)).map (Sum.inr:Str->aK):=by
 induction h with
 |nil=>rfl
 |cons h _ a=>rw[List.map_cons,List.map_cons,List.map_cons,h.1,a]
def wN{H:Hp}{kvs:List (aK×V)}{ws:List (Str×Tw)}(h:All2 (WayAt H) kvs ws)(nd:(ws.map (·.1)).Nodup){e:Str×Tw}(m:e∈ws):∃v,cK kvs (.inr e.1)=some v/\RelD H v (twD e.2):=by
 induction h with
 |nil=>cases m
 | @cons f x kvs ws h _ a=>
  rw[List.map_cons,List.nodup_cons]at nd;rcases cE m with rfl |m
  ·exact(bA (sQ h.1) h.2)
  ·obtain⟨v,c,b⟩:=a nd.2 m
   refine(bL v ?_ b);rw[oN λz=>nd.1 ?_]
   ·exact c
   ·rw[h.1]at z
    rw[Sum.inr.inj z];exact qH m
def wL{H:Hp}{kvs:List (List aK×V)}{ps:List ((Str×Str)×Pl)}(h:All2 (PlAt H) kvs ps)(nd:(ps.map (·.1)).Nodup){e:(Str×Str)×Pl}(m:e∈ps):∃v,cK kvs (kP e.1)=some v/\RelD H v (oY e.2):=by
 induction h with
 |nil=>cases m
 | @cons f x kvs ws h _ a=>
  rw[List.map_cons,List.nodup_cons]at nd;rcases cE m with rfl |m
  ·exact(bA (sQ h.1) h.2)
  ·obtain⟨v,c,b⟩:=a nd.2 m
   refine(bL v ?_ b);rw[oN λz=>nd.1 ?_]
   ·exact c
   ·rw[h.1]at z
    rw[xY z];exact qH m
theorem TdAt.same{H c:Hp}{a b:Addr}{t:Td}(h:TdAt H a b t)(s:Same H c):TdAt c a b t:=by
 obtain⟨⟨kw,l,j⟩,kp,g,f⟩:=h;exact⟨(bL kw (s _ _ l) (j.imp λ_ _ h=>h.tups λa us e=>s _ _ e)),(bL kp (s _ _ g) (f.imp λ_ _ h=>h.tups λa us e=>s _ _ e))⟩
theorem rJ{α β:Type}(f:α->List β)(l:List α){i:Nat}{x:α}(h:l[i]?=some x):(l.take (i+1)).flatMap f=(l.take i).flatMap f++f x:=by
 rw[fH,h,List.flatMap_append];simp
def Ah(l:List (Str×Tw)){i:Nat}{x:Str×Tw}(h:l[i]?=some x):cR ((l.take (i+1)).map λe=>.way e.1 e.2)=cR ((l.take i).map λe=>.way e.1 e.2)++[.str (Tl.line (.way x.1 x.2))]:=by
 rw[fH,h,dG,vX];rfl
def yW{t:Td}(o:TdOk t)(i:Nat):(t.ways.map (λe=>Tl.way e.1 e.2)).length+((t.places.take i).flatMap gL).length<=100:=by
 have g:=B8 (ps:=t.places.take i) λe a=>(o.ps e (List.mem_of_mem_take a)).2.2;have f:=o.w6;have c:=o.p6;have b:(t.places.take i).length<=t.places.length:=by rw[List.length_take];omega
 rw[aR];omega
def Wl(T:Tx K mg)(u:DefIs P w K mg base n "way_text" ["K","way"] oS)(g:DefIs P w K mg base n "place_texts" qam oV):DefIs P w K mg base (n+1) "told_shown" qay zW:=by
 refine DefIs.of T.j9 sc_told_shown (by walk_at"l") (λf aa A outer s H vs Q E hr h=>?_);obtain⟨a,b,t,t',rfl,a8,ok,y,q⟩:=h;have nd:=sc_told_shown.nd;have hu:=lD hr;have r:=y.ok ok;obtain⟨⟨kw,ha,aw⟩,kp,hb,ap⟩:=a8;have lw:kw.length<=6:=by rw[aw.length];exact ok.w6
 have lp:kp.length<=6:=by rw[ap.length];exact ok.p6
 refine⟨_,(aF (mJ (i:=2) ["K","ways"] [none,some 0] Z (by kernel_rfl) nd Z (by first |exact Or.inl Z |exact Or.inr rfl) (mG (bP (xC Z) Z T.uV PyProof.Rows.boot_sorted (pc (pv 0) pN aA))) (λ_ _ _ _=>(bS (i:=0) (by show List.Nodup (["K","ways"]:List Str);decide +kernel) Z (Or.inl Z))) (λ_ _ _ _=>eN) (λ_ _ _ _=>(pd u hr (pc (pv 0) (pc (nE hu (pv 1) (pv 0) (λ_ _=>Z)) pN aS) aA))))
   (aF (gX zF Z (mG (bP (xD Z) Z T.uV PyProof.Rows.boot_sorted (pc (pv 1) pN aA))) (bS (i:=3) nd Z (by first |exact Or.inl Z |exact Or.inr rfl))
   (aH (cI (dJ zD PySem.F.slot_list_extend PySem.F.type_list_extend Sn (pv 2) (pc (pd g hr (pc (pv 3) (pc (nE hu (pv 1) (pv 3) (λ_ _=>Z)) pN aS) aA)) pN aZ)))))
   (aH (aO (dJ PySem.F.plainAttrs_str PySem.F.slot_str_join PySem.F.type_str_join gZ pS (pc (pv 2) pN aA)))))),?_⟩
 refine(aE (bL a Z (dW kw (t.ways.map (·.1)) ha (wY aw) (by omega) (λl ms hl pm sm=>?_))));obtain rfl:ms=t'.ways.map (·.1):=B3 sm y.ws (pm.trans (y.wp.map _).symm);have s1:=zA hl (.lst ((t'.ways.map (·.1)).map V.str));have a0:upd H l (.lst ((t'.ways.map (·.1)).map V.str)) l=some (.lst ((t'.ways.map (·.1)).map V.str)):=aC;generalize upd H l (.lst ((t'.ways.map (·.1)).map V.str))=H1 at s1 a0⊢;refine(eB ⟨_,zC a0⟩ ?_);have w6:=r.w6;refine sR (j:=0) (xs:=(t'.ways.map (·.1)).map V.str) (λi ys H'=>Same H1 H'/\ys=cR ((t'.ways.take i).map λe=>.way e.1 e.2)) (by rfl) ⟨Same.refl _,Z⟩ (cQ (by rw[aR,aR];omega)) (λi ys H' _ p=>zC (p.1 _ _ a0)) ?_ ?_
 ·rintro i x ys H2 hx a4 ⟨s2,rfl⟩
  rw[dA,dA]at hx;obtain⟨k,hk,rfl⟩:=fL hx;obtain⟨e,he,rfl⟩:=fL hk;have J:=cZ he;obtain⟨v,hv,rv⟩:=wN aw ok.wn (y.wp.mem_iff.mp J);have a3:=s1.trans s2;have hi:i<((t'.ways.map (·.1)).map V.str).length:=by rw[aR,aR];exact(dC he).1
  refine(aE (dS (cT v ?_ (eW e.1 v e.2 Z (rv.same a3 _) ((r.ws e J).1) ((r.ws e J).2) (λH3 s3=>hZ hi a4 ⟨s2.trans s3,(Ah _ he).symm⟩)))));rw[<- hv];exact DGet.k (k:=.inr e.1) (a3 _ _ ha)
 rintro ys H2 a4 ⟨s2,rfl⟩ D hD;rw[dR (by rw[aR,aR];omega)];obtain⟨W,hW⟩:∃W,t'.ways.map (λe=>Tl.way e.1 e.2)=W:=⟨_,Z⟩;rw[hW];have sD:=s1.trans (s2.trans (zA hD (.lst (cR W))));have a2:upd H2 D (.lst (cR W)) D=some (.lst (cR W)):=aC;have D0:H D=none:=hJ (s1.trans s2) hD;generalize upd H2 D (.lst (cR W))=H3 at sD a2⊢;refine(aE (bL b Z (dW kp (t.places.map (·.1)) (sD _ _ hb) (sU ap) (by omega) (λl4 zs ms Y tl pm sm=>?_))));obtain rfl:ms=t'.places.map (·.1):=B2 sm y.ps (pm.trans (y.pp.map _).symm);have s4:=zA Y (.lst zs);have I:upd H3 l4 (.lst zs) l4=some (.lst zs):=aC
 have M:mP (upd H3 l4 (.lst zs)) zs (t'.places.map (·.1)):=⟨tl.1,λi z p h1 h2=>by
  obtain⟨b,e,hb⟩:=tl.2 i z p h1 h2;exact(bL b e (s4 _ _ hb))⟩
 have a1:=s4 _ _ a2;have n4:l4≠D:=λz=>by rw[z,a2]at Y;cases Y
 have U:=sD.trans s4;generalize upd H3 l4 (.lst zs)=H4 at I M a1 U⊢;have zl:=M.1;rw[aR]at zl;refine(eB ⟨_,zC I⟩ ?_);refine Ag (xs:=zs) (λi σ H'=>∃o3,σ=[some (.ref a),some (.ref b),some (.ref D),o3]/\SameBut D H4 H'/\H' D=some (.lst (cR (W++(t'.places.take i).flatMap gL)))) (bH none Z (λ_ _ e _=>e) (by rw[List.take_zero,List.flatMap_nil,List.append_nil];exact a1)) ?_ ?_ ?_
 ·rintro i σ H' _ ⟨_,_,O,_⟩
  exact zC (O _ _ I n4)
 ·rintro i z σ H5 hz ⟨o3,rfl,O,C⟩
  have hi:i<t'.places.length:=by rw[<- zl];exact(dC hz).1
  have hp:=bV hi;generalize t'.places[i]=e at hp;obtain⟨c,rfl,hc⟩:=M.2 i z e.1 hz (by rw[dA,hp];rfl);have J:=cZ hp;obtain⟨v,hv,rv⟩:=wL ap ok.pn (y.pp.mem_iff.mp J);have s5:Same H H5:=λx o ex=>O _ _ (U _ _ ex) (bN ex D0);have a5:H5 c=some (.tup [.str e.1.1,.str e.1.2]):=O _ _ hc λz=>by rw[z,a1]at hc;cases hc
  refine(aE (eS (.inl (dZ (zC C))) (dS (cT v ?_ (bG c v (nK e.1 e.2 a5 (rv.same s5 _) ((r.ps e J).1) ((r.ps e J).2.1) ((r.ps e J).2.2) (λl6 H6 s6 a9 a6=>?_)))))))
  ·rw[<- hv]
   exact DGet.t (k:=kP e.1) (s5 _ _ hb) a5
  ·have a7:=s6 _ _ C
   have hn:=yW r (i+1);rw[hW,rJ _ _ hp,bK]at hn;refine(bG D l6 (bU ⟨Z,(fN a7 a6 (aI ?_) ?_)⟩))
   ·rw[show(((gL (e.1,e.2)).map Tl.line).map V.str).length=(gL e).length from rC _,rC,bK]
    omega
   refine(eB (λx o ex ne=>?_) ?_)
   ·rw[aG ne]
    exact s6 _ _ (O _ _ ex ne)
   ·rw[aC,rJ _ _ hp,<- List.append_assoc,vX (W++_)]
    rfl
 ·rintro σ H5 ⟨o3,rfl,O,C⟩
  rw[dR (by omega),<- hW]at C;have C:H5 D=some (.lst (cR t'.lns)):=C;refine⟨Z,(eM (S "\n") D (t'.lns.map Tl.line) ⟨Z,(aV (zC C) (Td.sum r) ?_)⟩)⟩;exact q _ λx o ex=>O _ _ (U _ _ ex) (bN ex D0)
theorem pJ:L (S " ")=[32]:=by walk_at"k"
theorem gM(x y:Str):(x++y).length=x.length+y.length:=by rw[<- dM,gS,bK,dM,dM]
theorem vV:(S " ").length=1:=by walk_at"k"
theorem mF:(Str.ofString " ").length=1:=vV
theorem Xh(x:Str):Str.empty++x=x:=gI (by rw[gS];rfl)
def Dn(x y z u:Str):gN [x,y,z,u]=x++S " "++y++S " "++z++S " "++u:=gI (by
 rw[lY];simp only[gS,pJ,List.append_assoc];rfl)
theorem Le(x y z:Str):gN [x,y,z]=x++S " "++y++S " "++z:=gI (by
 rw[lY];simp only[gS,pJ,List.append_assoc];rfl)
def Nc(p:Str×Tt):aW (aP p)=S "("++p.1++S " "++aW p.2.2++S ")":=gI (by
 have b:L (aW (aP p))=(aP p).cs:=vG _;have a:L (aW p.2.2)=p.2.2.cs:=vG _;rw[b,sM];simp only[gS,pJ,a,List.append_assoc];rfl)
def Wi(T:Tx K mg)(j:DefIs P w K mg base n "_law_text" qaq (iH (T2 7))):DefIs P w K mg base (n+1) "_law_way_line" qal oS:=by
 refine DefIs.of T.kU scl_way_line (by walk_at"l") (λf a6 A outer s H vs Q E hr h=>?_);obtain⟨k,v,⟨g,M⟩,rfl,hv,hk,ok,q⟩:=h;have nd:=scl_way_line.nd;have J:=Tl.sum (l:=.way k (g,M)) ⟨hk,ok⟩;obtain⟨hg,hw⟩:=ok;obtain⟨a,us,rfl,ha,v0,_,rfl,r0,vh,_,rfl,rh,rfl⟩:=hv;obtain rfl:v0=.str g:=r0;have one:(S " ").length=1:=by walk_at"k"
 have k6:=gR hk;have g6:g.length<=6:=yO hg
 refine⟨_,(aF (vP (pv 1) (oE Z (dN (bS (i:=2) nd Z (by first |exact Or.inl Z |exact Or.inr rfl)) (dN (bS (i:=3) nd Z (by first |exact Or.inl Z |exact Or.inr rfl)) iI))))
   (aF (bM (fO (bP gU Z T.uQ PyProof.Rows.boot_isinstance (pc (aL bO (pv 3) aB (λ_ _=>Z)) (pc (gP T.uW PyProof.Rows.boot_str) pN aA) aS))) (aH (aO (aU fT (wA (lH (pZ (pv 0) (lH (pZ (pv 2) (lH vO)))))) (pd j hr (pc (pv 3) pN aA))))) pQ)
   (aH (aO (dJ PySem.F.plainAttrs_str PySem.F.slot_str_join PySem.F.type_str_join gZ pS (pc (aU eK (cA (pc pS (pc (pv 0) (pc (pv 2) pN aA) aA) so)) (iP ["_law_t","_law_one"] [none,none] Z (by kernel_rfl) (iW (pv 3)) (λ_ _ _ _=>(rG (K:=K) (n:=2) Z Z (dN (bS (i:=0) (by show List.Nodup (["_law_t","_law_one"]:List Str);decide +kernel) Z (Or.inl Z)) (dN (bS (i:=1) (by show List.Nodup (["_law_t","_law_one"]:List Str);decide +kernel) Z (Or.inl Z)) iI)))) (λ_ _ _ _=>eN) (λ_ _ _ _=>(aU fT (aU fT (aU fT (aU fT pS (pv 0)) pS) (pd j hr (pc (pv 1) pN aA))) pS)))) pN hG)))))),?_⟩
 refine(dB a (bB (zB ha) (dZ (aM (bT Z ?_)))))
 cases M with
 | one e=>
  obtain⟨x,r,hd⟩:=Ih hw.1;have I:RelD H vh e.1:=rh;rw[hd]at I;obtain⟨b,us,rfl,hb,v0,o,rfl,r0,_⟩:=I;obtain rfl:v0=.str x:=r0;have hS:SqT K H b (.str x::o):=zB hb;refine(eD (jAAA Z hS eO (bU (bU (bA Z (jAAA (λu C=>C) (TyOf.str _) Z (bA Z (iteBT Z ?_))))))));have ht:e.2.cs.length<=3200:=hw.2;have a5:=iZ e.2;have e1:(Str.empty++S "way ").length=4:=by walk_at"k"
  have e2:(Str.empty++S "way "++k).length<=10:=by rw[gM];omega
  have e3:(Str.empty++S "way "++k++S " ").length<=11:=by rw[gM,vV];omega
  have e4:(Str.empty++S "way "++k++S " "++g).length<=17:=by rw[gM];omega
  have e5:(Str.empty++S "way "++k++S " "++g++S " ").length<=18:=by rw[gM,vV];omega
  refine(eS (aI (zY (Nat.le_of_eq e1) (by decide))) (aM (jAAA (aI (by omega)) (aI (zY e2 (by decide))) (aI (zY e3 (by decide))) (nN (aI (by omega)) (jAAA (aI (zY e4 (by decide))) (aI (zY e5 (by decide))) (aI (zY e5 (by decide))) ?_)))));refine(gC (.ref b) e.1 e.2 Z rh hw.1 (λH1 s1=>(eZ (aI ?_) ?_)))
  ·exact zY (Nat.add_le_add_right e5 _) (by omega)
  ·have:=q H1 s1
   rw[show Tl.line (.way k (g,.one e))=Str.empty++S "way "++k++S " "++g++S " "++aW e.2 by
    refine(Dn (S "way") k g (aW e.2)).trans ?_;rw[Xh,show S "way"++S " "=S "way " by walk_at"k"]]at this
   exact this
 | tags l=>
  obtain⟨b,us,rfl,hb,y⟩:=rh;have U:=y.length;rw[aR]at U;obtain⟨l1,l4,hl⟩:=hw
  obtain⟨c,o,z⟩:∃c o,us=.ref c::o/\∃vs,H c=some (.tup vs):=by
   cases l with
   |nil=>simp at l1
   |cons p l=>
    obtain⟨v0,o,rfl,⟨c,vs,rfl,hc,_⟩,_⟩:=y;exact(cX c o Z ⟨vs,hc⟩)
  obtain⟨z,vs,hc⟩:=z;have hS:SqT K H b (.ref c::o):=zB (by rw[<- z];exact hb);refine(eD (jAAA Z hS eO (bU (bU (bA Z (jAAA (λu C=>C) (TyOf.tup hc) Z (bA Z (iteBF Z ?_))))))));refine(eS Z (cJ (by walk_at"s") (λd hd=>?_)));have sd:=zA hd (.lst [.str (S "ways"),.str k,.str g]);have a0:upd H d (.lst [.str (S "ways"),.str k,.str g]) d=some (.lst [.str (S "ways"),.str k,.str g]):=aC;have Y:upd H d (.lst [.str (Str.ofString "ways"),.str k,.str g])=upd H d (.lst [.str (S "ways"),.str k,.str g]):=Z;rw[Y];generalize upd H d (.lst [.str (S "ways"),.str k,.str g])=H1 at sd a0⊢;have a2:=sd _ _ hb;refine(nN ⟨_,zB a2⟩ ?_);refine wR (xs:=us) (λi ys H'=>Same H1 H'/\ys=((l.take i).map λp=>V.str (aW (aP p)))) ⟨Same.refl _,Z⟩ (cQ (by omega)) (λi ys H' _ p=>zB (p.1 _ _ a2)) ?_ ?_
  ·rintro i x ys H2 hx hi O ⟨s2,rfl⟩
   obtain⟨d',a1,rd⟩:=y.get hx;rw[dA]at a1;obtain⟨p,hp,rfl⟩:=fL a1;have a4:=sd.trans s2;obtain⟨t,_,rfl,ht,v1,_,rfl,r1,v2,_,rfl,r2,rfl⟩:=rd.same a4 _;obtain rfl:v1=.str p.1:=r1;have tk:=hl p (cZ hp);have h1:=A2 tk;have h2:=Nc p;rw[h2]at h1;have p6:=gR tk.1;have f1:(Str.ofString "(").length=1:=by walk_at"k"
   have f2:(Str.ofString ")").length=1:=by walk_at"k"
   simp only[gM,vV]at h1;have f3:(S "(").length=1:=f1;have f4:(S ")").length=1:=f2;simp only[f3,f4]at h1;refine(gA (zB ht) Z (bU (dZ (aM (bB (eF Z Z) (qU ?_))))));refine(aE (bU (lN (aI (by rw[f1];omega)) (aI (by simp only[gM,f1,mF];omega)) ?_)));refine(gC v2 p.2.1 p.2.2 Z r2 tk.2.1 (λH3 s3=>(eZ (aI (by simp only[gM,f1,mF];omega)) (eZ (aI (by simp only[gM,f1,f2,mF];omega)) ?_))));refine hX hi O ⟨s2.trans s3,?_⟩;rw[fH,hp,dG];show _=_++[V.str (aW (aP p))];rw[h2];rfl
  ·rintro ys H2 O ⟨s2,rfl⟩ D hD
   rw[dR (by omega)];have sD:=s2.trans (zA hD (.lst (l.map λp=>V.str (aW (aP p)))));have a3:upd H2 D (.lst (l.map λp=>V.str (aW (aP p)))) D=some (.lst (l.map λp=>V.str (aW (aP p)))):=aC;generalize upd H2 D (.lst (l.map λp=>V.str (aW (aP p))))=H3 at sD a3⊢;refine(hU (sD _ _ a0) a3 (aI (by rw[aR];show 3+l.length<=_;omega)) (λe he=>?_));refine(eW (S " ") e (S "ways"::k::g::(l.map λp=>aW (aP p))) Z Z (zC ?_) (by rw[one];exact aI (by have h9:((S "ways"::k::g::(l.map λp=>aW (aP p))).map (·.length)).sum+(S "ways"::k::g::(l.map λp=>aW (aP p))).length<=3700:=J;omega)) ?_)
   ·rw[aC,List.map_cons,List.map_cons,List.map_cons,List.map_map]
    rfl
   ·exact q _ (sd.trans (sD.trans (zA he _)))
def X3(T:Tx K mg)(e:DefIs P w K mg base n "_law_text" qaq (iH (T2 7))):DefIs P w K mg base (n+1) "_law_place_lines" qau oV:=by
 refine DefIs.of T.kW scl_place_lines (by walk_at"l") (λf a2 A outer s H vs Q E hr h=>?_);obtain⟨b,v,x,⟨mk,es⟩,rfl,hb,hv,h1,h2,⟨h3,h5,hl⟩,q⟩:=h;have nd:=scl_place_lines.nd;obtain⟨a,_,rfl,ha,v0,_,rfl,r0,vs,_,rfl,⟨c,us,rfl,hc,o⟩,rfl⟩:=hv;obtain rfl:v0=.str mk:=r0
 have a0:us.length=es.length:=by
  have:=o.length;rw[aR]at this;exact this
 have h5:es.length<=5:=h5;have x1:=gR h1;have x2:=gR h2;have x3:mk.length<=6:=gR h3;have J:(Str.ofString "place ").length=6:=by walk_at"k"
 have U:(Str.ofString "with ").length=5:=by walk_at"k"
 have le:Tl.line (.place x mk)=S "place "++x.1++S " "++x.2++S " "++mk:=by
  refine(Dn (S "place") x.1 x.2 mk).trans ?_;rw[show S "place"++S " "=S "place " by walk_at"k"]
 refine⟨_,(aF (bI (i:=2) nd Z (by first |exact Or.inl Z |exact Or.inr rfl) (cA (pc (aU fT (aU fT (aU fT (aU fT (aU fT pS (aL bO (pv 0) aB (λ_ _=>Z))) pS) (aL bO (pv 0) aB (λ_ _=>Z))) pS) (aL bO (pv 1) aB (λ_ _=>Z))) pN hG)))
   (aH (aO (aU eK (pv 2) (iP ["_law_x","_law_one"] [none,none] Z (by kernel_rfl) (iW (aL bO (pv 1) aB (λ_ _=>Z))) (λ_ _ _ _=>(rG (K:=K) (n:=2) Z Z (dN (bS (i:=0) (by show List.Nodup (["_law_x","_law_one"]:List Str);decide +kernel) Z (Or.inl Z)) (dN (bS (i:=1) (by show List.Nodup (["_law_x","_law_one"]:List Str);decide +kernel) Z (Or.inl Z)) iI)))) (λ_ _ _ _=>eN) (λ_ _ _ _=>(aU fT (aU fT (aU fT pS (pv 0)) pS) (pd e hr (pc (pv 1) pN aA))))))))),?_⟩
 refine(bF (zB hb) eO (bU (lN (aI (by rw[J];omega)) (aI (by simp only[gM,J,mF];omega)) ?_)));refine(bF (zB hb) at1 (bU (lN (aI (by simp only[gM,J,mF];omega)) (aI (by simp only[gM,J,mF];omega)) ?_)));refine(bF (zB ha) eO (pT (aV (aI (by simp only[gM,J,mF];omega)) (by walk_at"s") (λg hg=>?_))));have e0:HO.lst [V.str (Str.ofString "place "++x.1++Str.ofString " "++x.2++Str.ofString " "++mk)]=HO.lst [V.str (Tl.line (.place x mk))]:=by rw[le];rfl
 rw[e0];have j:=zA hg (.lst [V.str (Tl.line (.place x mk))]);have z:upd H g (.lst [V.str (Tl.line (.place x mk))]) g=some (.lst [V.str (Tl.line (.place x mk))]):=aC;generalize upd H g (.lst [V.str (Tl.line (.place x mk))])=H1 at j z⊢;have C:=j _ _ hc;refine(aE (bF (zB (j _ _ ha)) at1 (eB ⟨_,zB C⟩ ?_)));refine wR (xs:=us) (λi ys H'=>Same H1 H'/\ys=((es.take i).map λp=>V.str (Tl.line (.wth p)))) ⟨Same.refl _,Z⟩ (cQ (by omega)) (λi ys H' _ p=>zB (p.1 _ _ C)) ?_ ?_
 ·rintro i y ys Y hx hi r ⟨O,rfl⟩
  obtain⟨d,hd,rd⟩:=o.get hx;rw[dA]at hd;obtain⟨p,hp,rfl⟩:=fL hd;obtain⟨t,_,rfl,ht,v1,_,rfl,r1,v2,_,rfl,r2,rfl⟩:=rd.same (j.trans O) _;obtain rfl:v1=.str p.1:=r1;have tk:=hl p (cZ hp);have p6:=gR tk.1;have t8:=tk.2.2;have a1:=iZ p.2.2;refine(gA (zB ht) Z (bU (dZ (aM (bB (eF Z Z) (qU ?_))))));refine(aE (bU (lN (aI (by rw[U];omega)) (aI (by simp only[gM,U,mF];omega)) ?_)));refine(gC v2 p.2.1 p.2.2 Z r2 tk.2.1 (λH3 s3=>(eZ (aI (by simp only[gM,U,mF];omega)) ?_)));refine hX hi r ⟨O.trans s3,?_⟩;rw[fH,hp,dG];show _=_++[V.str (gN [S "with",p.1,aW p.2.2])];rw[Le,show S "with"++S " "=S "with " by walk_at"k"];rfl
 ·rintro ys Y r ⟨O,rfl⟩ D hD
  rw[dR (by omega)];have M:=O.trans (zA hD (.lst (es.map λp=>V.str (Tl.line (.wth p)))));have I:upd Y D (.lst (es.map λp=>V.str (Tl.line (.wth p)))) D=some (.lst (es.map λp=>V.str (Tl.line (.wth p)))):=aC;generalize upd Y D (.lst (es.map λp=>V.str (Tl.line (.wth p))))=H3 at M I⊢;refine(hU (M _ _ z) I (aI (by rw[aR];show 1+es.length<=_;omega)) (λl u=>?_));have sl:=j.trans (M.trans (zA u (.lst (V.str (Tl.line (.place x mk))::es.map λp=>V.str (Tl.line (.wth p))))));refine q l _ sl (hJ (j.trans M) u) ?_;rw[aC];show _=some (HO.lst (((Tl.place x mk::es.map Tl.wth).map Tl.line).map V.str));rw[List.map_cons,List.map_cons,List.map_map,List.map_map];rfl
theorem Dv(e:(Str×Str)×Pl):((gL (e.1,e.2)).map Tl.line).map V.str=cR (gL e):=Z
def Wz(T:Tx K mg)(o:DefIs P w K mg base n "_law_way_line" qal oS)(g:DefIs P w K mg base n "_law_place_lines" qau oV):DefIs P w K mg base (n+1) "_law_told_lines" qah Bj:=by
 refine DefIs.of T.kX scl_told_lines (by walk_at"l") (λf ab A outer s H vs Q E hr h=>?_);obtain⟨a,b,t,t',rfl,a9,ok,r,q⟩:=h;have nd:=scl_told_lines.nd;have hu:=lD hr;have u:=r.ok ok;obtain⟨⟨kw,ha,aw⟩,kp,hb,ap⟩:=a9;have lw:kw.length<=6:=by rw[aw.length];exact ok.w6
 have lp:kp.length<=6:=by rw[ap.length];exact ok.p6
 refine⟨_,(aF (mJ (i:=2) ["_law_kind","_law_ways"] [none,some 0] Z (by kernel_rfl) nd Z (by first |exact Or.inl Z |exact Or.inr rfl) (mG (bP (xC Z) Z T.uV PyProof.Rows.boot_sorted (pc (pv 0) pN aA))) (λ_ _ _ _=>(bS (i:=0) (by show List.Nodup (["_law_kind","_law_ways"]:List Str);decide +kernel) Z (Or.inl Z))) (λ_ _ _ _=>eN) (λ_ _ _ _=>(pd o hr (pc (pv 0) (pc (nE hu (pv 1) (pv 0) (λ_ _=>Z)) pN aS) aA))))
   (aF (gX zF Z (mG (bP (xD Z) Z T.uV PyProof.Rows.boot_sorted (pc (pv 1) pN aA))) (bS (i:=3) nd Z (by first |exact Or.inl Z |exact Or.inr rfl))
   (aH (bI (i:=2) nd Z (by first |exact Or.inl Z |exact Or.inr rfl) (aU eK (pv 2) (pd g hr (pc (pv 3) (pc (nE hu (pv 1) (pv 3) (λ_ _=>Z)) pN aS) aA))))))
   (aH (aO (pv 2))))),?_⟩
 refine(aE (bL a Z (dW kw (t.ways.map (·.1)) ha (wY aw) (by omega) (λl ms hl pm sm=>?_))));obtain rfl:ms=t'.ways.map (·.1):=B3 sm r.ws (pm.trans (r.wp.map _).symm);have s1:=zA hl (.lst ((t'.ways.map (·.1)).map V.str));have U:upd H l (.lst ((t'.ways.map (·.1)).map V.str)) l=some (.lst ((t'.ways.map (·.1)).map V.str)):=aC;generalize upd H l (.lst ((t'.ways.map (·.1)).map V.str))=H1 at s1 U⊢;refine(eB ⟨_,zC U⟩ ?_);have w6:=u.w6;refine sR (j:=0) (xs:=(t'.ways.map (·.1)).map V.str) (λi ys Y=>Same H1 Y/\ys=cR ((t'.ways.take i).map λe=>.way e.1 e.2)) (by rfl) ⟨Same.refl _,Z⟩ (cQ (by rw[aR,aR];omega)) (λi ys Y _ p=>zC (p.1 _ _ U)) ?_ ?_
 ·rintro i x ys H2 hx a2 ⟨s2,rfl⟩
  rw[dA,dA]at hx;obtain⟨k,hk,rfl⟩:=fL hx;obtain⟨e,he,rfl⟩:=fL hk;have I:=cZ he;obtain⟨v,hv,rv⟩:=wN aw ok.wn (r.wp.mem_iff.mp I);have a0:=s1.trans s2;have hi:i<((t'.ways.map (·.1)).map V.str).length:=by rw[aR,aR];exact(dC he).1
  refine(aE (dS (cT v ?_ (eW e.1 v e.2 Z (rv.same a0 _) ((u.ws e I).1) ((u.ws e I).2) (λH3 s3=>hZ hi a2 ⟨s2.trans s3,(Ah _ he).symm⟩)))));rw[<- hv];exact DGet.k (k:=.inr e.1) (a0 _ _ ha)
 rintro ys H2 a2 ⟨s2,rfl⟩ D hD;rw[dR (by rw[aR,aR];omega)];obtain⟨W,hW⟩:∃W,t'.ways.map (λe=>Tl.way e.1 e.2)=W:=⟨_,Z⟩;rw[hW];have sD:=s1.trans (s2.trans (zA hD (.lst (cR W))));have a5:upd H2 D (.lst (cR W)) D=some (.lst (cR W)):=aC;generalize upd H2 D (.lst (cR W))=H3 at sD a5⊢;refine(aE (bL b Z (dW kp (t.places.map (·.1)) (sD _ _ hb) (sU ap) (by omega) (λl4 zs ms a7 tl pm sm=>?_))));obtain rfl:ms=t'.places.map (·.1):=B2 sm r.ps (pm.trans (r.pp.map _).symm);have s4:=zA a7 (.lst zs);have y:upd H3 l4 (.lst zs) l4=some (.lst zs):=aC
 have J:mP (upd H3 l4 (.lst zs)) zs (t'.places.map (·.1)):=⟨tl.1,λi z p h1 h2=>by
  obtain⟨b,e,hb⟩:=tl.2 i z p h1 h2;exact(bL b e (s4 _ _ hb))⟩
 have a4:=s4 _ _ a5;have O:=sD.trans s4;generalize upd H3 l4 (.lst zs)=H4 at y J a4 O⊢;have zl:=J.1;rw[aR]at zl;refine(eB ⟨_,zC y⟩ ?_);refine Ag (xs:=zs) (λi σ Y=>∃o3 D',σ=[some (.ref a),some (.ref b),some (.ref D'),o3]/\Same H4 Y/\Y D'=some (.lst (cR (W++(t'.places.take i).flatMap gL)))) (bG none D (bB (Same.refl _) (by rw[List.take_zero,List.flatMap_nil,List.append_nil];exact a4))) ?_ ?_ ?_
 ·rintro i σ Y _ ⟨_,_,_,M,_⟩
  exact zC (M _ _ y)
 ·rintro i z σ H5 hz ⟨o3,D',rfl,M,C⟩
  have hi:i<t'.places.length:=by rw[<- zl];exact(dC hz).1
  have hp:=bV hi;generalize t'.places[i]=e at hp;obtain⟨c,rfl,hc⟩:=J.2 i z e.1 hz (by rw[dA,hp];rfl);have I:=cZ hp;obtain⟨v,hv,rv⟩:=wL ap ok.pn (r.pp.mem_iff.mp I);have s5:Same H H5:=O.trans M;have a3:H5 c=some (.tup [.str e.1.1,.str e.1.2]):=M _ _ hc;refine(dS (dS (cT v ?_ (bG c v (nK e.1 e.2 a3 (rv.same s5 _) ((u.ps e I).1) ((u.ps e I).2.1) ((u.ps e I).2.2) (λl6 H6 s6 aa a1=>?_))))))
  ·rw[<- hv]
   exact DGet.t (k:=kP e.1) (s5 _ _ hb) a3
  ·have a8:=s6 _ _ C
   have hn:=yW u (i+1);rw[hW,rJ _ _ hp,bK]at hn;rw[Dv]at a1;refine(hU a8 a1 (aI ?_) (λl7 a6=>?_))
   ·rw[rC,rC,bK]
    omega
   refine(dY l7 (bB (M.trans (s6.trans (zA a6 _))) ?_));rw[aC,rJ _ _ hp,<- List.append_assoc,vX (W++_)]
 ·rintro σ H5 ⟨o3,D',rfl,M,C⟩
  rw[dR (by omega),<- hW]at C;exact(aE (q D' _ (O.trans M) C))
def X2(T:Tx K mg)(j:DefIs P w K mg base n "_law_way_line" qal oS)(g:DefIs P w K mg base n "_law_place_lines" qau oV):DefIs P w K mg base (n+1) "_law_drawn_lines" qah Bg:=by
 refine DefIs.of T.k4 scl_drawn_lines (by walk_at"l") (λf ac A outer s H vs Q E hr h=>?_);obtain⟨a,b,t,rfl,a9,ok,q⟩:=h;have nd:=scl_drawn_lines.nd;have hu:=lD hr;obtain⟨⟨kw,ha,aw⟩,kp,hb,ap⟩:=a9;have lw:kw.length<=6:=by rw[aw.length];exact ok.w6
 have lp:kp.length<=6:=by rw[ap.length];exact ok.p6
 have wl:=aw.length;have pl:=ap.length;have ab:b≠a:=λz=>by rw[z,ha]at hb;cases hb
 refine⟨_,(aF (F8 (mJ (i:=2) qal [none,none] Z (by kernel_rfl) nd Z (by first |exact Or.inl Z |exact Or.inr rfl) (Ru (pv 0)) (λ_ _ _ _=>(rG (K:=K) (n:=2) Z Z (dN (bS (i:=0) (by show List.Nodup (qal:List Str);decide +kernel) Z (Or.inl Z)) (dN (bS (i:=1) (by show List.Nodup (qal:List Str);decide +kernel) Z (Or.inl Z)) iI)))) (λ_ _ _ _=>eN) (λ_ _ _ _=>(pd j hr (pc (pv 0) (pc (pv 1) pN aA) aA)))))
   (aF (Fz (gX zF Z (Hu (pv 1)) (oE Z (dN (bS (i:=3) nd Z (by first |exact Or.inl Z |exact Or.inr rfl)) (dN (bS (i:=4) nd Z (by first |exact Or.inl Z |exact Or.inr rfl)) iI)))
   (aH (bI (i:=2) nd Z (by first |exact Or.inl Z |exact Or.inr rfl) (aU eK (pv 2) (pd g hr (pc (pv 3) (pc (pv 4) pN aA) aA)))))))
   (aH (aO (pv 2))))),?_⟩
 refine(aE (cT kw ha (λo nz=>?_)));have kf:∀x u,H x=some u->x≠a->upd H a (.frz o (.dK kw)) x=some u:=λx u e ne=>by rw[aG ne];exact e
 have I:upd H a (.frz o (.dK kw)) a=some (.frz o (.dK kw)):=aC;generalize upd H a (.frz o (.dK kw))=Hf at kf I⊢;have tf:∀x us,H x=some (.tup us)->Hf x=some (.tup us):=λx us e=>kf x _ e λz=>by rw[z,ha]at e;cases e
 refine Tu (λi ys H'=>Same Hf H'/\ys=cR ((t.ways.take i).map λe=>.way e.1 e.2)) ⟨Same.refl _,Z⟩ (cQ (by omega)) (λi ys H' _ h=>h.1 _ _ I) ?_ ?_
 ·rintro i l p ys H2 Y hi a3 hp ⟨s2,rfl⟩
  obtain⟨e,he,hk,rv⟩:=aw.get Y;have me:=cZ he;have y:=s2.trans (zA hp (.tup [kV l.1,l.2]));have U:upd H2 p (.tup [kV l.1,l.2]) p=some (.tup [kV l.1,l.2]):=aC;generalize upd H2 p (.tup [kV l.1,l.2])=H3 at y U⊢;rw[hk]at U;refine(gA (zB U) Z (bU (dZ (aM (bB (eF Z Z) (qU ?_))))));refine(fS e.1 l.2 (rB e.2 ((rv.tups tf _).same y _) ((ok.ws e me).1) ((ok.ws e me).2) (λH4 s4=>hX hi a3 ⟨y.trans s4,(Ah _ he).symm⟩)))
 rintro ys H2 a3 ⟨s2,rfl⟩ D hD;rw[dR (by omega)];obtain⟨W,hW⟩:∃W,t.ways.map (λe=>Tl.way e.1 e.2)=W:=⟨_,Z⟩;rw[hW];have sD:=s2.trans (zA hD (.lst (cR W)));have aD:D≠a:=λz=>by rw[z,s2 _ _ I]at hD;cases hD
 refine(lZ a o kw (sD _ _ I) nz ?_)
 have y:Same H (upd (upd H2 D (.lst (cR W))) a (.dK kw)):=λx u e=>by
  by_cases z:x=a
  ·subst z
   rw[aC,<- ha,e]
  ·rw[aG z]
   exact sD _ _ (kf _ _ e z)
 have J:upd (upd H2 D (.lst (cR W))) a (.dK kw) D=some (.lst (cR W)):=by rw[aG aD];exact aC
 generalize upd (upd H2 D (.lst (cR W))) a (.dK kw)=H3 at y J⊢;refine(aE (cT kp (y _ _ hb) (λo2 a5=>?_)));have a7:=y _ _ hb;have kg:∀x u,H3 x=some u->x≠b->upd H3 b (.frz o2 (.dT kp)) x=some u:=λx u e ne=>by rw[aG ne];exact e
 have C:upd H3 b (.frz o2 (.dT kp)) b=some (.frz o2 (.dT kp)):=aC;generalize upd H3 b (.frz o2 (.dT kp))=Hg at kg C⊢;have bD:D≠b:=λz=>by rw[z,a7]at J;cases J
 have tg:∀x us,H x=some (.tup us)->Hg x=some (.tup us):=λx us e=>kg x _ (y _ _ e) λz=>by rw[z,hb]at e;cases e
 refine U1 (λi σ H'=>∃o3 o4 D',σ=[some (.ref a),some (.ref b),some (.ref D'),o3,o4]/\Same Hg H'/\H' D'=some (.lst (cR (W++(t.places.take i).flatMap gL)))) (lZ none none D Z (Same.refl _) (by rw[List.take_zero,List.flatMap_nil,List.append_nil];exact kg _ _ J bD)) ?_ ?_ ?_
 ·rintro i σ H' _ ⟨_,_,_,_,O,_⟩
  exact O _ _ C
 ·rintro i l c p σ H5 Y hc hp ⟨o3,o4,D',rfl,O,r⟩
  obtain⟨e,he,hk,rv⟩:=ap.get Y;have me:=cZ he;have s6:=zA hp (.tup [.ref c,l.2]);have a2:upd H5 p (.tup [.ref c,l.2]) p=some (.tup [.ref c,l.2]):=aC;have a0:=s6 _ _ hc;have a4:=s6 _ _ r;have M:=O.trans s6;generalize upd H5 p (.tup [.ref c,l.2])=H6 at a2 a0 a4 M⊢;rw[hk]at a0;refine(gA (zB a2) Z (bU (dZ (eB Z ?_))));refine(aE (fS c l.2 (nK e.1 e.2 a0 ((rv.tups tg _).same M _) ((ok.ps e me).1) ((ok.ps e me).2.1) ((ok.ps e me).2.2) (λl7 H7 s7 aa a1=>?_))));have a8:=s7 _ _ a4;have hn:=yW ok (i+1);rw[hW,rJ _ _ he,bK]at hn;rw[Dv]at a1;refine(hU a8 a1 (aI ?_) (λl8 a6=>?_))
  ·rw[rC,rC,bK]
   omega
  refine(bU (bH l8 Z (M.trans (s7.trans (zA a6 _))) ?_));rw[aC,rJ _ _ he,<- List.append_assoc,vX (W++_)]
 ·rintro σ H5 ⟨o3,o4,D',rfl,O,r⟩
  refine(lZ b o2 kp (O _ _ C) a5 ?_);rw[dR (by omega),<- hW]at r;refine(aE (q D' _ (λx u e=>?_) ?_))
  ·by_cases z:x=b
   ·subst z
    rw[aC,<- hb,e]
   ·rw[aG z]
    exact O _ _ (kg _ _ (y _ _ e) z)
  ·rw[aG λz=>by rw[z,O _ _ C]at r;cases r]
   exact r
def vR(K:Fg):Sp:=λvs H Q _=>∃(a:Addr) (ns:List Int) (k:Int),vs=[.ref a,.int k]/\SqL K H a (ns.map V.int)/\ns.length<=63/\0<=k/\∀(r:Addr) (p q:Int),H r=none->Q (.ref r) (upd H r (.lst [.int p,.int q]))
def mC:Sp:=λvs H Q _=>∃(a:Addr) (p q m:Int),vs=[.ref a,.int m]/\H a=some (.lst [.int p,.int q])/\0<m/\m<2 ^ 64/\∀(r:Int) (H':Hp),0<=r->r<m->Fed a H H'->Q (.int r) H'
def zP{ns:List Int}{k:Int}(h0:0<=k)(h:k<(ns.length:Int)):∃v:Int,cV (ns.map V.int) k=some (.int v):=by
 have a:k.toNat<ns.length:=by omega
 have b:k=((k.toNat:Nat):Int):=by omega
 refine⟨ns[k.toNat],?_⟩;have q:cV (ns.map V.int) ((k.toNat:Nat):Int)=some (.int ns[k.toNat]):=eQ (by rw[dA,bV a] <;> rfl);rw[<- b]at q;exact q
def nJ:2<=sizeLine:=by decide
def Qc(T:Tx K C):DefIs P w K C base (n+1) "_law_feed" qat (vR K):=by
 refine DefIs.of T.kH scl_feed (λvs H Q E h=>?_) (λf M A outer s H vs Q E O h=>?_)
 ·obtain⟨a,ns,k,rfl,_⟩:=h
  rfl
 obtain⟨a,ns,k,rfl,Y,J,I,q⟩:=h;have nd:=scl_feed.nd;have g:(ns.map V.int).length=ns.length:=aR _
 refine⟨_,(aF (bI (i:=2) nd Z (by first |exact Or.inl Z |exact Or.inr rfl) aB)
   (aF (bM (pR xU (pv 1) (bP dH Z T.uR zE (pc (pv 0) pN aA)) (nM _)) (aH (bI (i:=2) nd Z (by first |exact Or.inl Z |exact Or.inr rfl) (aL iL (pv 0) (pv 1) (λ_ _=>Z)))) pQ)
   (aF (bM (PW.pt (E3 (pR rX (bP dH Z T.uR zE (pc (pv 0) pN aA)) aB (nM _)) (Fb (pR bQ (aU lI (aL iL (pv 0) aB (λ_ _=>Z)) aB) aB (nM _))))) (aH (aO (cA (pc (pv 2) (pc (aU gO (aU lI (aU gO (aU mY (aU lI (pv 2) aB) aB) (aU mY aB (pv 1))) aB) aB) pN hG) aA)))) pQ)
   (aF (bM (PW.pt (E3 (pR vJ (pv 1) (bP dH Z T.uR zE (pc (pv 0) pN aA)) (nM _)) (Fb (pR rX (bP dH Z T.uR zE (pc (pv 0) pN aA)) aB (nM _))))) (aH (bI (i:=2) nd Z (by first |exact Or.inl Z |exact Or.inr rfl) (aU gO (aL iL (pv 0) (aU lI (pv 1) (bP dH Z T.uR zE (pc (pv 0) pN aA))) (λ_ _=>Z)) (aU mY aB (pv 1))))) pQ)
   (aH (aO (cA (pc aB (pc (aU gO (aU lI (aU gO (aU mY (aU lI (pv 2) aB) aB) (aU mY aB (pv 1))) aB) aB) pN hG) so)))))))),?_⟩
 have h0:0<ns.length->∃v:Int,cV (ns.map V.int) 0=some (.int v):=λh=>zP (Int.le_refl 0) (by omega);walk_at"rd";refine bC (λc=>?_) (λc=>?_)
 ·have p:=z6 c
  rw[g]at p;obtain⟨v,y⟩:=zP (ns:=ns) I p;obtain⟨z,r⟩:=h0 (by omega);walk_at"rd";refine bC (λm=>?_) (λm=>?_)
  ·walk_at"rd"
   refine bC (λx=>?_) (λx=>?_)
   ·walk_at"rd"
    exact⟨nJ,λl b=>q l _ _ b⟩
   ·walk_at"rd"
    refine bC (λj=>?_) (λj=>?_)
    ·have u:=z6 j
     rw[g]at u;omega
    ·refine iteF ?_
     walk_at"rd";exact⟨nJ,λl b=>q l _ _ b⟩
  ·have e:=of_decide_eq_false (Bool.eq_false_iff.mpr m)
   rw[g]at e;omega
 ·have p:=of_decide_eq_false (Bool.eq_false_iff.mpr c)
  rw[g]at p;walk_at"rd";refine bC (λm=>?_) (λm=>?_)
  ·have e:=z6 m
   rw[g]at e;obtain⟨z,r⟩:=h0 (by omega);walk_at"rd";refine bC (λx=>?_) (λx=>?_)
   ·walk_at"rd"
    exact⟨nJ,λl b=>q l _ _ b⟩
   ·walk_at"rd"
    refine bC (λj=>?_) (λj=>?_)
    ·walk_at"rd"
     refine bC (λo=>?_) (λo=>?_)
     ·obtain⟨v,y⟩:=zP (ns:=ns) (k:=k%(ns.length:Int)) (Int.emod_nonneg _ (by omega)) (zO _ (by omega))
      rw[<- g]at y;have U:(0:Int)<((ns.map V.int).length:Nat):=by rw[g];omega
      walk_at"rd";exact⟨nJ,λl b=>q l _ _ b⟩
     ·walk_at"rd"
      exact⟨nJ,λl b=>q l _ _ b⟩
    ·refine iteF ?_
     walk_at"rd";exact⟨nJ,λl b=>q l _ _ b⟩
  ·refine iteF ?_
   walk_at"rd";refine bC (λj=>?_) (λj=>?_)
   ·walk_at"rd"
    refine bC (λo=>?_) (λo=>?_)
    ·have e:=of_decide_eq_false (Bool.eq_false_iff.mpr m)
     exact absurd (z6 o) e
    ·walk_at"rd"
     exact⟨nJ,λl b=>q l _ _ b⟩
   ·refine iteF ?_
    walk_at"rd";exact⟨nJ,λl b=>q l _ _ b⟩
def Qg(T:Tx K e):DefIs P w K e base (n+1) "_law_take" qai mC:=by
 refine DefIs.of T.kI scl_take (λvs H Q E h=>?_) (λf j A outer s H vs Q E o h=>?_)
 ·obtain⟨a,p,q,m,rfl,_⟩:=h
  rfl
 obtain⟨a,p,q,m,rfl,g,b,l,k⟩:=h;have nd:=scl_take.nd;have r:SqL K H a [.int p,.int q]:=zC g
 refine⟨_,(aF (bM (pR rX (aL iL (pv 0) aB (λ_ _=>Z)) aB (nM _)) (aF (bI (i:=2) nd Z (by first |exact Or.inl Z |exact Or.inr rfl) (aU lI (aL iL (pv 0) aB (λ_ _=>Z)) (pv 1)))
   (aF (vP (aU A9 (aL iL (pv 0) aB (λ_ _=>Z)) (pv 1)) (E2 (pv 0) aB Gb))
   (aH (aO (pv 2))))) pQ)
   (aF (bI (i:=3) nd Z (by first |exact Or.inl Z |exact Or.inr rfl) (aU lI (aU mY (aL iL (pv 0) aB (λ_ _=>Z)) aB) aB))
   (aF (vP (aU gO (aU lI (aU gO (aU mY (pv 3) aB) aB) aB) aB) (E2 (pv 0) aB Gb))
   (aH (aO (aU lI (aU A9 (aU gO (aU mY (pv 3) aB) (aL iL (pv 0) aB (λ_ _=>Z))) aB) (pv 1))))))),?_⟩
 walk_at"rd";refine bC (λc=>?_) (λc=>?_)
 ·walk_at"rd"
  refine k _ _ (Int.emod_nonneg _ (by omega)) (zO _ b) Fed.of
 ·walk_at"rd"
  refine(nR (zC aC) Z ?_);walk_at"rd";refine k _ _ (Int.emod_nonneg _ (by omega)) (zO _ b) Fed.of
def yZ:Sp:=λvs H Q _=>∃(a:Addr) (p q:Int),vs=[.ref a]/\H a=some (.lst [.int p,.int q])/\∀(x:Str) (H':Hp),Name x->Fed a H H'->Q (.str x) H'
def A1:Sp:=λvs H Q _=>∃(a:Addr) (p q:Int),vs=[.ref a]/\H a=some (.lst [.int p,.int q])/\∀(i:Int) (H':Hp),0<=i->i<10 ^ 10->Fed a H H'->Q (.int i) H'
def rH:Sp:=λvs H Q _=>∃(a b:Addr) (ys:List Str),vs=[.ref a,.ref b]/\a≠b/\(∃p q:Int,H a=some (.lst [.int p,.int q]))/\H b=some (.lst (ys.map V.str))/\1<=ys.length/\ys.length<=1000/\∀(x:Str) (H':Hp),x∈ys->Fed a H H'->Q (.str x) H'
def E8:Sp:=λvs H Q _=>∃(a b:Addr),vs=[.ref a,.ref b]/\Src H a b/\∀(x:Str) (H':Hp),Name x->Fed a H H'->Q (.str x) H'
structure SrcI(H:Hp)(a b:Addr):Prop where
 ne:a≠b
 feed:∃p q:Int,H a=some (.lst [.int p,.int q])
 pool:∃ys:List Str,H b=some (.lst ((ys++[S "it"]).map V.str))/\ys.length=8/\∀y∈ys,Name y
def SrcI.fed{H c:Hp}{a b:Addr}(s:SrcI H a b)(f:Fed a H c):SrcI c a b:=by
 obtain⟨ys,e,h⟩:=s.pool;exact⟨s.ne,f.2,(bL ys (f.1 b _ e s.ne.symm) h)⟩
theorem SrcI.same{H c:Hp}{a b:Addr}(s:SrcI H a b)(f:Same H c):SrcI c a b:=by
 obtain⟨ys,e,h⟩:=s.pool;obtain⟨p,q,g⟩:=s.feed;exact⟨s.ne,(bG p q (f _ _ g)),(bL ys (f _ _ e) h)⟩
def vS:Sp:=λvs H Q _=>∃(a b:Addr),vs=[.ref a,.ref b]/\SrcI H a b/\∀v d t (H':Hp),dF d t->RelD H' v d->Fed a H H'->Q v H'
def Qe(T:Tx K mg)(g:DefIs P w K mg base n "_law_take" qai mC):DefIs P w K mg base (n+1) "_law_name" qaj yZ:=by
 refine DefIs.of T.kK scl_name (λvs H Q E h=>?_) (λf a5 A outer s H vs Q E Y h=>?_)
 ·obtain⟨a,p,q,rfl,_⟩:=h
  rfl
 obtain⟨a,p,q,rfl,ha,k⟩:=h;have nd:=scl_name.nd
 refine⟨_,(aF (bI (i:=1) nd Z (by first |exact Or.inl Z |exact Or.inr Z) pS)
   (aF (bM (pR bQ (pd g Y (pc (pv 0) (pc aB pN so) aA)) aB (nM _)) (aF (bI (i:=2) nd Z (by first |exact Or.inl Z |exact Or.inr rfl) (cA (yU [Str.ofString "rec",Str.ofString "alt",Str.ofString "hand",Str.ofString "box",Str.ofString "set",Str.ofString "send",Str.ofString "take",Str.ofString "tell",Str.ofString "go",Str.ofString "if",Str.ofString "end",Str.ofString "get",Str.ofString "tag",Str.ofString "case"] Z)))
   (aF (bI (i:=2) nd Z (by first |exact Or.inl Z |exact Or.inr rfl) (aU eK (pv 2) (cA (yU [Str.ofString "numx",Str.ofString "recq",Str.ofString "takes",Str.ofString "iff",Str.ofString "itq",Str.ofString "goes",Str.ofString "sends",Str.ofString "tags",Str.ofString "ends",Str.ofString "gets",Str.ofString "way",Str.ofString "with"] Z))))
   (aH (aO (aL iL (pv 2) (pd g Y (pc (pv 0) (pc aB pN so) aA)) (λ_ _=>Z)))))) pQ)
   (aF (bI (i:=3) nd Z (by first |exact Or.inl Z |exact Or.inr rfl) (dJ PySem.F.plainAttrs_str PySem.F.slot_str_join PySem.F.type_str_join gZ pS (pc (iP ["_law_k","_law_letters","_law_feed_here"] [none,some 1,some 0] Z (by kernel_rfl) (oR Z T.uU (pc (aU gO aB (pd g Y (pc (pv 0) (pc aB pN so) aA))) pN hG)) (λ_ _ _ _=>(bS (i:=0) (by show List.Nodup (["_law_k","_law_letters","_law_feed_here"]:List Str);decide +kernel) Z (Or.inl Z))) (λ_ _ _ _=>eN) (λ_ _ _ _=>(aL xX (pv 1) (pd g Y (pc (pv 2) (pc aB pN so) aA)) (λ_ _=>Z)))) pN sW)))
   (aF (bM (PW.pt (iT (pR bQ (pv 3) pS (nM _)) (oF (pR bQ (pv 3) pS (nM _))))) (aH (aO (aU fT (pv 3) pS))) pQ)
   (aH (aO (pv 3))))))),?_⟩
 refine(dO a p q 6 Z ha (by decide) (by decide) (λr1 H1 a4 a3 f1=>(lF Z ?_)));obtain⟨p1,q1,h1⟩:=f1.2;refine bC (λc=>?_) (λc=>?_)
 ·refine⟨(by show 14<=sizeLine;decide),λl1 M=>?_⟩
  refine(cJ (by show 12<=sizeLine;decide) (λl2 u=>(hU (zA u _ _ _ aC) aC (by show 26<=sizeLine;decide) (λl3 r=>?_))));have h3:=zA u (.lst (nB.map V.str)) _ _ (zA M (.lst (nA.map V.str)) _ _ h1);refine(nQ a p1 q1 26 (fN (zA r _ _ _ h3) (by decide) (by decide) (λr2 H2 J I U=>?_)));obtain⟨y,hy,hv⟩:=at26 J I
  have a2:l3≠a:=λe=>by
   rw[e]at r;exact absurd (h3.symm.trans r) (by simp)
  refine(nR (zC (U.1 l3 _ aC a2)) hv ?_);refine k y _ (Vc y hy) (f1.trans ⟨λb o e nb=>U.1 b o (zA r _ _ _ (zA u _ _ _ (zA M _ _ _ e))) nb,U.2⟩)
 ·refine(eS Z (fQ a p1 q1 6 Z h1 (by decide) (by decide) (λr2 H2 J I U=>(eC (lV Z (by omega) (by omega) ?_)))))
  refine Au (j:=0) (λi ys H'=>Fed a H H'/\∃cs:List Nat,ys=(cs.map gY).map V.str/\∀c∈cs,fP c=true) (by rfl) (jAEA (f1.trans U) ([]) Z (λ_ h=>nomatch h)) ?_ ?_ ?_
  ·exact cQ (by omega)
  ·rintro i ys H3 hi hl ⟨f3,cs,rfl,x⟩
   obtain⟨p3,q3,h3⟩:=f3.2;refine(nQ a p3 q3 26 (fN h3 (by decide) (by decide) (λr4 H4 a1 a0 O=>?_)));obtain⟨ch,_,hc⟩:=wQ (cs:=(S "abcdefghijklmnopqrstuvwxyz").cps.toList) a1 (by rw[show(S "abcdefghijklmnopqrstuvwxyz").cps.toList.length=26 by walk_at"k"];exact a0);refine(bU ⟨ch,Z,(aV (by walk_at"k") hc ?_)⟩)
   exact hZ hi hl ⟨f3.trans O,cs++[ch],by simp[gY],λc l=>by
    rcases eA l with l |l
    ·exact x c l
    ·rw[eG l];exact Sj hc⟩
  ·rintro ys H3 hl ⟨f3,cs,rfl,x⟩ D3 hD
   rw[aR,aR]at hl;refine(eW (S "") D3 (cs.map gY) Z Z (zC aC) ?_ ?_)
   ·rw[W0,show(S "").length=0 by walk_at"k"]
    omega
   rw[Vw];have O:=f3.new hD (.lst ((cs.map gY).map V.str));refine(bE Z Z ?_);refine bC (λc1=>?_) (λc1=>?_)
   ·have C:fU cs=S "num":=V.str.inj (z6 c1)
    refine iteT ?_;rw[C];exact(aE (eZ (by walk_at"k") (k _ _ (show gK _=true by walk_at"k") O)))
   ·have C:fU cs≠S "num":=λe=>of_decide_eq_false (Bool.eq_false_iff.mpr c1) (congrArg V.str e)
    refine(bE Z Z ?_);refine bC (λc2=>?_) (λc2=>?_)
    ·have z:fU cs=S "it":=V.str.inj (z6 c2)
     rw[z];exact(aE (eZ (by walk_at"k") (k _ _ (show gK _=true by walk_at"k") O)))
    ·have z:fU cs≠S "it":=λe=>of_decide_eq_false (Bool.eq_false_iff.mpr c2) (congrArg V.str e)
     exact(aE (k _ _ (U6 (by omega) (by omega) x C z) O))
def Tj(T:Tx K C)(b:DefIs P w K C base n "_law_take" qai mC):DefIs P w K C base (n+1) "_law_whole" qaj A1:=by
 refine DefIs.of T.kM scl_whole (λvs H Q E h=>?_) (λf O A outer s H vs Q E l h=>?_)
 ·obtain⟨a,p,q,rfl,_⟩:=h
  rfl
 obtain⟨a,p,q,rfl,M,k⟩:=h;have nd:=scl_whole.nd;have e1:(10:Int) ^ (10:Int).toNat=10000000000:=by decide
 have Y:(2:Int) ^ (32:Int).toNat=4294967296:=by decide
 refine⟨_,(aF (bI (i:=1) nd Z (by first |exact Or.inl Z |exact Or.inr rfl) (pd b l (pc (pv 0) (pc aB pN so) aA)))
   (aF (bM (pR bQ (pv 1) aB (nM _)) (aH (aO (pd b l (pc (pv 0) (pc aB pN so) aA)))) pQ)
   (aF (bM (pR bQ (pv 1) aB (nM _)) (aH (aO (aU oC (aU oC (aU yA aB aB) aB) (pd b l (pc (pv 0) (pc aB pN so) aA))))) pQ)
   (aF (bM (pR bQ (pv 1) aB (nM _)) (aH (aO (aU gO (aU oC (aU yA aB aB) aB) (pd b l (pc (pv 0) (pc aB pN so) aA))))) pQ)
   (aH (aO (pd b l (pc (pv 0) (pc (aU yA aB aB) pN hG) aA)))))))),?_⟩
 refine(dO a p q 4 Z M (by decide) (by decide) (λU H1 J I o=>?_));obtain⟨u,r,x⟩:=o.2;refine(bE Z Z ?_);refine bC (λc=>?_) (λc=>?_)
 ·exact(dO a u r 12 Z x (by decide) (by decide) (λy z e g j=>k _ _ e (by omega) (o.trans j)))
 refine(bE Z Z ?_);refine bC (λc=>?_) (λc=>?_)
 ·refine(eZ (jAA (by decide) (by decide) (by decide)) (eC (dO a u r 5 Z x (by decide) (by decide) (λy z e g j=>(eC (k _ _ (by omega) (by omega) (o.trans j)))))))
 refine(bE Z Z ?_);refine bC (λc=>?_) (λc=>?_)
 ·refine(eZ (jAA (by decide) (by decide) (by decide)) (eC (dO a u r 5 Z x (by decide) (by decide) (λy z e g j=>(eC (k _ _ (by omega) (by omega) (o.trans j)))))))
 ·refine(aE (eZ (jAA (by decide) (by decide) (by decide)) ⟨a,(cO u r (fN x (by omega) (by omega) (λy z e g j=>k _ _ e (by omega) (o.trans j))))⟩))
def Qf(T:Tx K j)(c:DefIs P w K j base n "_law_take" qai mC):DefIs P w K j base (n+1) "_law_some" qad rH:=by
 refine DefIs.of T.kN R9 (λvs H Q E h=>?_) (λf I A outer s H vs Q E x h=>?_)
 ·obtain⟨a,b,_,rfl,_⟩:=h
  rfl
 obtain⟨a,b,ys,rfl,ne,⟨p,q,C⟩,l,O,M,k⟩:=h;refine(bA (aH (aO (aL iL (pv 1) (pd c x (pc (pv 0) (pc (bP dH Z T.uR zE (pc (pv 1) pN aA)) pN aZ) aA)) (λ_ _=>Z)))) ?_);have U:(ys.map V.str).length=ys.length:=aR ..;refine(dS (dB b (bB (.inl (zC l)) ⟨a,(cO p q (fN C (by omega) (by omega) (λJ Y g e o=>?_)))⟩)));obtain⟨z,hz,u⟩:=wQ (cs:=ys.map V.str) g e;obtain⟨y,r,rfl⟩:=fX hz;exact(nR (zC (o.1 b _ l ne.symm)) u (k y _ r o))
def Ir(D:DefIs P w K g base n "_law_some" qad rH):DefIs P w K g base n "_law_some" qad E8:=
 D.imp λvs H Q E h=>by
  obtain⟨a,b,e,c,k⟩:=h;obtain⟨ys,l,r,o⟩:=c.pool;exact(lZ a b ys e c.ne (fM c.feed l (by omega) (by omega) (λx p j f=>k x p (o x j) f)))
def Qd(T:Tx K y)(g:DefIs P w K y base n "_law_take" qai mC)(e:DefIs P w K y base n "_law_whole" qaj A1)(j:DefIs P w K y base n "_law_some" qad rH):DefIs P w K y base (n+1) "_law_leaf" qad vS:=by
 refine DefIs.of T.kO R8 (λvs H Q E h=>?_) (λf a0 A outer s H vs Q E C h=>?_)
 ·obtain⟨a,b,rfl,_⟩:=h
  rfl
 obtain⟨a,b,rfl,u,k⟩:=h;obtain⟨p,q,ha⟩:=u.feed
 refine⟨_,(aF (bM (pR bQ (pd g C (pc (pv 0) (pc aB pN so) aA)) aB (nM _)) (aH (aO (cG (pc pS (pc (pd e C (pc (pv 0) pN aA)) pN aZ) so)))) pQ)
   (aH (aO (cG (pc pS (pc (pd j C (pc (pv 0) (pc (pv 1) pN aA) aA)) pN aZ) so))))),?_⟩
 refine(dO a p q 2 Z ha (by decide) (by decide) (λr1 H1 O M z=>(lF Z ?_)));obtain⟨Y,U,h1⟩:=z.2;refine bC (λc=>?_) (λc=>?_)
 ·refine(eM a Y U (bB h1 (λi H2 i0 i1 J=>⟨(by walk_at"s"),λl I=>?_⟩)))
  exact k _ _ _ _ (.inl (bH i i0 i1 ⟨Z,Z⟩)) (fR aC Z Z Z Z Z) ((z.trans J).new I _)
 ·have o:=u.fed z
  obtain⟨ys,hb,h8,hN⟩:=o.pool;refine(dS (cO a b (bB o.ne (fM o.feed hb (by rw[bK];simp) (by rw[bK,h8];decide) (λx H2 r J=>⟨(by walk_at"s"),λl I=>?_⟩)))))
  have r:Bx x:=by
   rcases eA r with r |r
   ·exact .inl (hN x r)
   ·exact .inr (eG r)
  exact k _ _ _ _ (.inr (bH x r Z Z)) (fR aC Z Z Z Z Z) ((z.trans J).new I _)
def qQ(m:Nat):Sp:=λvs H Q _=>∃(a b:Addr) (r e:Int),vs=[.ref a,.ref b,.int r,.int e]/\e=m/\1<=r/\SrcI H a b/\∀v d t (H':Hp),T2 m d t->t.cs.length<=80*r.toNat->RelD H' v d->Fed a H H'->Q v H'
def O1 {f a b:Int} (h:1<=f) (g:f<8) (e:0<=a) (o:a<6) (l:0<=b) (j:b<4):∃k:Nat,cV [V.int 0,.int 2,.int a,.int 1,.int 1,.int (2+b),.int 3,.int 2] f=some (.int k)/\k<=5 ∧
  ((f=1\/f=7)->k=2)/\((f=3\/f=4)->k=1)/\(f=5->2<=k)/\(f=6->k=3):=by
 have c:f=1\/f=2\/f=3\/f=4\/f=5\/f=6\/f=7:=by omega
 rcases c with rfl |rfl |rfl |rfl |rfl |rfl |rfl
 ·exact(mZ 2 Z (by omega) (by omega) (by omega) (by omega) (by omega))
 ·refine(mZ a.toNat ?_ (by omega) (by omega) (by omega) (by omega) (by omega))
  show some (V.int a)=_;rw[Int.toNat_of_nonneg e]
 ·exact(mZ 1 Z (by omega) (by omega) (by omega) (by omega) (by omega))
 ·exact(mZ 1 Z (by omega) (by omega) (by omega) (by omega) (by omega))
 ·refine(mZ ((2+b).toNat) ?_ (by omega) (by omega) (by omega) (by omega) (by omega))
  show some (V.int (2+b))=_;rw[Int.toNat_of_nonneg (by omega)]
 ·exact(mZ 3 Z (by omega) (by omega) (by omega) (by omega) (by omega))
 ·exact(mZ 2 Z (by omega) (by omega) (by omega) (by omega) (by omega))
def Ml{r:Int}{c:Nat}(h:cV (Str.ofString "+-*<=").cps.toList r=some c):(⟨#[c]⟩:Str)∈ops:=by
 obtain⟨j,_,e,_⟩:=sJ h;have a:=cZ e;have all:∀c∈(Str.ofString "+-*<=").cps.toList,(⟨#[c]⟩:Str)∈ops:=by walk_at"k"
 exact all c a
theorem Cq(x:V)(r:List V):bY (x::r) (some 1) none=r:=by
 unfold bY
 have a:HT.sIx (x::r).length 0 (some 1)=1:=by
  rw[show((1:Int))=((1:Nat):Int) from Z,HT.sIx_nat];simp
 rw[a,HT.sIx_none];show List.take (_-1) r=r;exact dR (by simp)
theorem Cn(ys:List Str)(x:Str):bY ((ys++[x]).map V.str) none (some (-1))=ys.map V.str:=by
 unfold bY
 have a:HT.sIx ((ys++[x]).map V.str).length ((ys++[x]).map V.str).length (some (-1))=ys.length:=by
  rw[aR,bK];show(if (-1:Int)<0 then (-1+((ys.length+1:Nat):Int)).toNat else min (-1:Int).toNat (ys.length+1))=ys.length;rw[if_pos (by decide)];omega
 rw[a,HT.sIx_none,List.drop_zero,Nat.sub_zero,dG,List.take_append_of_le_length (by rw[aR];exact zZ _)];exact dR (by rw[aR];exact zZ _)
def Gs (T:Tx K mg) (sp0:Sp) (o:DefIs P w K mg base n "_law_take" qai mC) (a5:DefIs P w K mg base n "_law_leaf" qad vS) (g:DefIs P w K mg base n "_law_some" qad E8)
  (a4:DefIs P w K mg base n "_law_term" qan sp0) (bn:∀k,m=k+1->sp0=qQ k):DefIs P w K mg base (n+1) "_law_term" qan (qQ m):=by
 refine DefIs.of T.kQ scl_term (λvs H Q E h=>?_) (λf cd A outer s H vs Q E hr h=>?_)
 ·obtain⟨a,b,r,e,rfl,_⟩:=h
  rfl
 obtain⟨a,b,r,e,rfl,rfl,r1,ah,k⟩:=h;have nd:=scl_term.nd;obtain⟨p,q,ha⟩:=ah.feed
 refine⟨_,(aF (bI (i:=4) nd Z (by first |exact Or.inl Z |exact Or.inr rfl) (pd o hr (pc (pv 0) (pc aB pN so) aA)))
   (aF (bI (i:=5) nd Z (by first |exact Or.inl Z |exact Or.inr Z) (iN nG (pv 1) iJ (iK (xV yM aB))))
   (aF (bM (PW.pt (iT (pR xU (pv 2) aB (nM _)) (iT (pR bQ (pv 3) aB (nM _)) (oF (pR bQ (pv 4) aB (nM _)))))) (aH (aO (pd a5 hr (pc (pv 0) (pc (pv 1) pN aA) aA)))) pQ)
   (aF (bI (i:=6) nd Z (by first |exact Or.inl Z |exact Or.inr Z) (aL iL (cA (pc aB (pc aB (pc (pd o hr (pc (pv 0) (pc aB pN so) aA)) (pc aB (pc aB (pc (aU gO aB (pd o hr (pc (pv 0) (pc aB pN so) aA))) (pc aB (pc aB pN so) so) hG) so) so) aZ) so) so)) (pv 4) (λ_ _=>Z)))
   (aF (mJ (i:=7) qa3 [none,some 0,some 1,some 3,some 2,some 6] Z (by kernel_rfl) nd Z (by first |exact Or.inl Z |exact Or.inr rfl) (oR Z T.uU (pc (pv 6) pN aA)) (λ_ _ _ _=>(bS (i:=0) (by show List.Nodup (qa3:List Str);decide +kernel) Z (Or.inl Z))) (λ_ _ _ _=>eN) (λ_ _ _ _=>(pd a4 hr (pc (pv 1) (pc (pv 2) (pc (aU A9 (aU oC (pv 4) aB) (bP (Rn Z) Z T.uT PyProof.Rows.boot_max (pc aB (pc (pv 5) pN aA) so))) (pc (aU oC (pv 3) aB) pN hG) hG) aA) aA))))
   (aF (bM (pR bQ (pv 4) aB (nM _)) (aH (aO (cG (pc pS (pc (pd g hr (pc (pv 0) (pc (pv 5) pN aA) aA)) (pc (iQ nP Z T.uX zK (pc (pv 7) pN aA)) pN aZ) aZ) so)))) pQ)
   (aF (bM (pR bQ (pv 4) aB (nM _)) (aH (aO (cG (pc pS (pc (aL iL (pv 7) aB (λ_ _=>Z)) (pc (pd g hr (pc (pv 0) (pc (pv 5) pN aA) aA)) pN aZ) aS) so)))) pQ)
   (aF (bM (pR bQ (pv 4) aB (nM _)) (aH (aO (cG (pc pS (pc (pd g hr (pc (pv 0) (pc (pv 5) pN aA) aA)) (pc (pd g hr (pc (pv 0) (pc (pv 5) pN aA) aA)) (pc (aL iL (pv 7) aB (λ_ _=>Z)) pN aS) aZ) aZ) so)))) pQ)
   (aF (bM (pR bQ (pv 4) aB (nM _)) (aF (mJ (i:=8) ["_law_one","_law_feed_here","_law_names"] [none,some 0,some 5] Z (by kernel_rfl) nd Z (by first |exact Or.inl Z |exact Or.inr rfl) (mG (iN nG (pv 7) (iK aB) iJ)) (λ_ _ _ _=>(bS (i:=0) (by show List.Nodup (["_law_one","_law_feed_here","_law_names"]:List Str);decide +kernel) Z (Or.inl Z))) (λ_ _ _ _=>eN) (λ_ _ _ _=>(cG (pc (pd g hr (pc (pv 1) (pc (pv 2) pN aA) aA)) (pc (pd g hr (pc (pv 1) (pc (pv 2) pN aA) aA)) (pc (pv 0) pN aA) aZ) aZ))))
   (aH (aO (cG (pc pS (pc (aL iL (pv 7) aB (λ_ _=>Z)) (pc (iQ nP Z T.uX zK (pc (pv 8) pN aA)) pN aZ) aS) so))))) pQ)
   (aF (bM (pR bQ (pv 4) aB (nM _)) (aH (aO (cG (pc pS (pc (aL iL (pv 7) aB (λ_ _=>Z)) (pc (aL iL (pv 7) aB (λ_ _=>Z)) (pc (aL iL (pv 7) aB (λ_ _=>Z)) pN aS) aS) aS) so)))) pQ)
   (aH (aO (cG (pc pS (pc (aL xX pS (pd o hr (pc (pv 0) (pc aB pN so) aA)) (λ_ _=>Z)) (pc (aL iL (pv 7) aB (λ_ _=>Z)) (pc (aL iL (pv 7) aB (λ_ _=>Z)) pN aS) aS) aS) so)))))))))))))),?_⟩
 refine(dO a p q 8 Z ha (by decide) (by decide) (λf1 H1 cc c4 g1=>?_));obtain⟨ab,bv,l8,bw⟩:=(ah.fed g1).pool;refine(nC (aM (pT ⟨zC bv,λnb aw=>?_⟩)));rw[Cn];have Y:=(ah.fed g1).same (zA aw (.lst (ab.map V.str)));have ae:Src (upd H1 nb (.lst (ab.map V.str))) a nb:=⟨(λz=>by obtain⟨_,_,z2⟩:=(ah.fed g1).feed;rw[z,aw]at z2;cases z2),Y.feed,(bH ab aC l8 bw)⟩;have g1:Fed a H (upd H1 nb (.lst (ab.map V.str))):=g1.new aw _;generalize upd H1 nb (.lst (ab.map V.str))=H1 at Y ae g1⊢;have leaf:∀H2:Hp,Fed a H H2->SrcI H2 a b->vS [.ref a,.ref b] H2 Q E0:=λH2 g2 a8=>(bG a b (bB a8 (λv d t H3 hl bo g3=>k v d t H3 (.leaf hl) (by have:=A7 hl;omega) bo (g2.trans g3))));refine(aE (eC (aM ?_)));refine bC (λc1=>?_) (λc1=>?_)
 ·exact iteT (dS (leaf H1 g1 Y))
 refine(bE Z Z ?_);refine bC (λc2=>?_) (λc2=>?_)
 ·exact iteT (dS (leaf H1 g1 Y))
 refine(bE Z Z ?_);refine bC (λc3=>?_) (λc3=>?_)
 ·exact(dS (leaf H1 g1 Y))
 have d2:(m:Int)≠0:=λe=>of_decide_eq_false (Bool.eq_false_iff.mpr c2) (by rw[e]);have d1:¬r<6:=of_decide_eq_false (Bool.eq_false_iff.mpr c1);have d3:f1≠0:=λe=>of_decide_eq_false (Bool.eq_false_iff.mpr c3) (by rw[e]);obtain⟨m',rfl⟩:∃m',m=m'+1:=⟨m-1,by omega⟩;have bb:=bn m' Z;subst bb;obtain⟨p1,q1,h1⟩:=ae.feed;refine(dO a p1 q1 6 Z h1 (by decide) (by decide) (λt6 H2 a0 a1 g2=>?_));have a8:=ae.fed g2;obtain⟨p2,q2,h2⟩:=a8.feed;refine(dO a p2 q2 4 Z h2 (by decide) (by decide) (λt4 H3 b0 b1 g3=>?_));have b4:=a8.fed g3;refine(eZ (by walk_at"s") (λl hl=>?_));obtain⟨mk,bq,ca,bi,b9,k5,k6⟩:=O1 (f:=f1) (by omega) c4 a0 a1 b0 b1;refine(aE (nR (zC aC) bq ?_));have s4:=zA hl (.lst [V.int 0,.int 2,.int t6,.int 1,.int 1,.int (2+t4),.int 3,.int 2]);have a7:=b4.same s4;have g4:Fed a H (upd H3 l (.lst [V.int 0,.int 2,.int t6,.int 1,.int 1,.int (2+t4),.int 3,.int 2])):=(g1.trans (g2.trans g3)).new hl _;generalize upd H3 l (.lst [V.int 0,.int 2,.int t6,.int 1,.int 1,.int (2+t4),.int 3,.int 2])=H4 at s4 a7 g4⊢;obtain⟨q,hq⟩:∃q:Int,q=(r-1) / (if (mk:Int) > 1 then (mk:Int) else 1):=⟨_,Z⟩
 have bp:1<=q/\mk*q.toNat<=r.toNat-1/\q.toNat<=r.toNat-1:=by
  obtain⟨dv,be⟩:∃dv:Int,dv=(if (mk:Int) > 1 then (mk:Int) else 1):=⟨_,Z⟩;rw[<- be]at hq;have v1:1<=dv/\dv<=5/\(mk:Int)<=dv:=by rw[be];split <;> omega
  have h1:q*dv<=r-1:=by rw[hq];exact Int.ediv_mul_le _ (by omega)
  have h2:1<=q:=by rw[hq];exact(Int.le_ediv_iff_mul_le (by omega)).mpr (by omega)
  have h3:(mk:Int)*q<=q*dv:=by rw[Int.mul_comm q dv];exact Int.mul_le_mul_of_nonneg_right v1.2.2 (by omega)
  have h4:q<=q*dv:=by
   have:=Int.mul_le_mul_of_nonneg_left v1.1 (show 0<=q by omega);rw[Int.mul_one]at this;exact this
  obtain⟨qn,rfl⟩:∃n:Nat,q=(n:Int):=⟨q.toNat,by omega⟩;have h5:((mk*qn:Nat):Int)=(mk:Int)*(qn:Int):=by rw[Int.natCast_mul]
  rw[Int.toNat_natCast];refine(jAA h2 ?_ (by omega));omega
 obtain⟨q1,qm,qs⟩:=bp;refine(mW (aV (by omega) (by omega) ?_));rw[Int.toNat_natCast];refine Au (j:=0) (λi ys H'=>Fed a H4 H'/\∃ds ts,RelDs H' ys ds/\All2 (T2 m') ds ts/\ds.length=i/\∀t∈ts,t.cs.length<=80*q.toNat) (by rfl) ⟨a7.refl,(dW ([]) ([]) Z (.nil) Z (λ_ h=>nomatch h))⟩ (cQ (by omega)) ?_ ?_
 ·rintro i ys H5 hi bd ⟨g5,ds,ts,rd,al,el,lb⟩
  have C:=a7.fed g5;refine(aE (dS (eC (mW (bA Z (eC (eS ?_ (eC (bG a b (bU (fN (by omega) ?_ ((((Y.fed g2).fed g3).same s4).fed g5) (λv d t H6 h6 l6 r6 g6=>hZ hi bd ⟨g5.trans g6,(dW (ds++[d]) (ts++[t]) ?_ (al.append (.cons h6 .nil)) (by rw[bK,el];rfl) ?_)⟩))))))))))))
  ·unfold D6
   split <;> omega
  ·rw[<- hq]
   exact q1
  ·exact(C.relDs g6 rd).append (bT r6 Z)
  ·intro u hu
   rcases eA hu with hu |hu
   ·exact lb u hu
   ·rw[eG hu,hq];exact l6
 rintro ys H5 bd ⟨g5,ds,ts,rd,al,el,lb⟩ D hD;have sD:=zA hD (.lst ys);have C:=(a7.fed g5).same sD;have g6:Fed a H (upd H5 D (.lst ys)):=(g4.trans g5).new hD _;have a9:=rd.same sD _
 have af:D≠a:=λe=>by
  obtain⟨p5,q5,h5⟩:=(a7.fed g5).feed;rw[e,h5]at hD;cases hD
 have M:(upd H5 D (.lst ys)) D=some (.lst ys):=aC;have b8:=al.length;have b7:=rd.length;generalize upd H5 D (.lst ys)=H6 at sD C g6 a9 M⊢
 have item:∀(j:Nat),j<mk->∃v d t,ys[j]?=some v/\ds[j]?=some d/\ts[j]?=some t/\RelD H6 v d/\T2 m' d t/\t.cs.length<=80*q.toNat:=λj hj=>by
  have hv:ys[j]?=some ys[j]:=bV (by omega);obtain⟨d,hd,rv⟩:=a9.get hv;obtain⟨t,ht,h2⟩:=al.get hd;exact(dY d (mZ t hv hd ht rv h2 (lb t (cZ ht))))
 refine(bE Z Z ?_);refine bC (λc=>?_) (λc=>?_)
 ·refine(fS a nb (bB C (λx H7 hx g7=>?_)))
  refine(aE (cX D ys Z (.inl ⟨zC (g7.1 D _ M af),λt2 aa=>⟨(by walk_at"s"),λl3 I=>?_⟩⟩)));have st:=zA aa (.tup ys);have sl:=zA I (.tup [.str (S "rec"),.str x,.ref t2]);refine k _ _ _ _ (.inr (.inr (.inl (eW x ds ts hx (by omega) al Z Z)))) ?_ (fR aC Z Z Z Z (bT (cT ys (sl _ _ aC) ?_) Z)) (((g6.trans g7).new aa _).new I _)
  ·have e1:=Ar lb
   have e2:=Lf qm;have e3:=qT hx;have e4:(tx (S "rec")).cs.length=3:=by walk_at"k"
   rw[gQ,cU];rw[show ts.length=mk by omega]at e1;omega
  ·exact(C.relDs g7 a9).same (st.trans sl) _
 refine(bE Z Z ?_);refine bC (λc'=>?_) (λc'=>?_)
 ·have ef:f1=3:=V.int.inj (z6 c')
  have hk:=b9 (.inl ef);obtain⟨v0,d0,t0,J,a3,a2,r0,h0,ai⟩:=item 0 (by omega);refine(eM D ys 0 ⟨v0,Z,(aV (zC M) (eQ (j:=0) J) ?_)⟩);refine(fS a nb (bB C (λx H7 hx g7=>⟨(by walk_at"s"),λl3 I=>?_⟩)));have e3:=qT hx;have e4:(tx (S "get")).cs.length=3:=by walk_at"k"
  exact k _ _ _ _ (.inr (.inr (.inr (.inl ⟨d0,(dW t0 x hx h0 Z Z)⟩)))) (by rw[gQ,cU,cU,lK];omega) (iR aC Z Z v0 Z ((C.relD g7 r0).same (zA I _) _) (bT Z Z)) ((g6.trans g7).new I _)
 refine(bE Z Z ?_);refine bC (λb2=>?_) (λb2=>?_)
 ·have ef:f1=4:=V.int.inj (z6 b2)
  have hk:=b9 (.inr ef);obtain⟨v0,d0,t0,J,a3,a2,r0,h0,ai⟩:=item 0 (by omega);refine(fS a nb (bB C (λx H7 hx g7=>?_)));refine(fS a nb (bB (C.fed g7) (λy H8 hy g8=>?_)));have az:=g7.trans g8;refine(eM D ys 0 ⟨v0,Z,(fN (zC (az.1 D _ M af)) (eQ (j:=0) J) (by walk_at"s") (λl3 I=>?_))⟩);have e3:=qT hx;have e5:=qT hy;have e4:(tx (S "tag")).cs.length=3:=by walk_at"k"
  exact k _ _ _ _ (.inr (.inr (.inr (.inr (.inl (fQ x y d0 t0 hx hy h0 Z Z)))))) (by rw[gQ,cU,cU,cU,lK];omega) (fR aC Z Z Z Z (bT Z (bT ((C.relD az r0).same (zA I _) _) Z))) ((g6.trans az).new I _)
 refine(bE Z Z ?_);refine bC (λc5=>?_) (λc5=>?_)
 ·have ef:f1=5:=V.int.inj (z6 c5)
  have hk:=k5 ef;obtain⟨v0,d0,t0,J,a3,a2,r0,h0,ai⟩:=item 0 (by omega)
  match ys,ds,ts,a9,al,J,a3,a2,lb with
  | u0::us,e0::es,w0::ws,a9,.cons c9 al,J,a3,a2,lb=>
   cases J;cases a3;cases a2;obtain⟨_,_,e1,_,b5⟩:=a9;cases e1;refine(oU (zC M) (λc hc=>?_));rw[Cq];have sc:=zA hc (.lst us);have a6:=C.same sc;have g7:Fed a H (upd H6 c (.lst us)):=g6.new hc _
   have bu:c≠a:=λz=>by
    obtain⟨p5,q5,h5⟩:=C.feed;rw[z,h5]at hc;cases hc
   have ax:(upd H6 c (.lst us)) c=some (.lst us):=aC;have ba:(upd H6 c (.lst us)) D=some (.lst (v0::us)):=sc _ _ M;have ak:=b5.same sc _;have b6:=r0.same sc _;have lU:=b5.length;have lA:=al.length;simp only[List.length_cons]at el b8 b7;generalize upd H6 c (.lst us)=H7 at sc a6 g7 ax ba ak b6⊢;refine(eB ⟨_,zC ax⟩ ?_);refine sR (j:=0) (xs:=us) (λi zs H'=>Fed a H7 H'/\∃O U,RelDs H' zs O/\All2 (mT (T2 m')) O U/\O.length=i/\∀t∈U,t.cs.length<=16+80*q.toNat) (by rfl) ⟨a6.refl,(dW ([]) ([]) Z (.nil) Z (λ_ h=>nomatch h))⟩ (cQ (by omega)) (λi zs H' _ p=>zC (p.1.1 c _ ax bu)) ?_ ?_
   ·rintro i u zs H8 hu bc ⟨g8,O,U,aq,aj,bf,au⟩
    obtain⟨du,br,ru⟩:=ak.get hu;obtain⟨tu,bl,bx⟩:=al.get br;have hi:i<us.length:=(dC hu).1;have ac:=a6.fed g8;refine(fS a nb (bB ac (λx H9 hx g9=>?_)));have b3:=ac.fed g9;refine(fS a nb (bB b3 (λy cf hy c0=>?_)));refine(cJ (by walk_at"s") (λl3 I=>?_));have sl:=zA I (.tup [.str x,.str y,u]);have ag:=g9.trans c0;refine hZ hi bc ⟨(g8.trans ag).new I _,(dW (O++[.tup [.str x,.str y,du]]) (U++[.l [tx x,tx y,tu]]) ?_ (aj.append (.cons (fQ x y du tu hx hy bx Z Z) .nil)) (by rw[bK,bf];rfl) ?_)⟩
    ·refine((ac.relDs ag aq).same sl _).append (bT (fR aC Z Z Z Z (bT ((a6.relD (g8.trans ag) ru).same sl _) Z)) Z)
    ·intro z hz
     rcases eA hz with hz |hz
     ·exact au z hz
     ·have e1:=qT hx
      have e2:=qT hy;have e3:=lb tu (qG _ (cZ bl));rw[eG hz,gQ,cU,cU,lK];omega
   ·rintro zs H8 bc ⟨g8,O,U,aq,aj,bf,au⟩ Da am
    have ao:=zA am (.lst zs);have yD:D≠a:=af;refine(dB D (bG 0 v0 ⟨Z,(aV (zC (ao _ _ (g8.1 D _ ba yD))) (eQ (j:=0) Z) ?_)⟩));refine(aE (cX Da zs Z (.inl ⟨zC aC,λt2 aa=>⟨(by walk_at"s"),λl3 I=>?_⟩⟩)));have st:=zA aa (.tup zs);have sl:=zA I (.tup [.str (S "case"),v0,.ref t2]);refine k _ _ _ _ (.inr (.inr (.inr (.inr (.inr (.inl (fQ d0 t0 O U c9 (by omega) (by omega) aj ⟨Z,Z⟩))))))) ?_ (iR aC Z Z v0 Z ?_ (bT (cT zs (sl _ _ aC) ?_) Z)) ((((g7.trans g8).new am _).new aa _).new I _)
    ·have e1:=Ar au
     have lT:=aj.length;have e4:(tx (S "case")).cs.length=4:=by walk_at"k"
     have e5:U.length+1=mk:=by omega
     have e6:U.length*q.toNat+q.toNat<=r.toNat-1:=by rw[<- Nat.succ_mul,show U.length.succ=mk from e5];exact qm
     have e2:=N7 (k:=U.length) (q:=q.toNat) (r:=r.toNat-1-q.toNat) (by omega);rw[gQ,cU];omega
    ·exact(a6.relD g8 b6).same (ao.trans (st.trans sl)) _
    ·exact aq.same (ao.trans (st.trans sl)) _
  |[],_,_,_,_,J,_,_,_=>cases J
  |_::_,[],_,_,_,_,a3,_,_=>cases a3
  |_::_,_::_,[],_,_,_,_,a2,_=>cases a2
 refine(bE Z Z ?_);refine bC (λc6=>?_) (λc6=>?_)
 ·have ef:f1=6:=V.int.inj (z6 c6)
  have hk:=k6 ef;obtain⟨v0,d0,t0,J,a3,a2,r0,h0,ai⟩:=item 0 (by omega);obtain⟨v1,d1,t1,av,bt,bm,ar,ay,c8⟩:=item 1 (by omega);obtain⟨v2,c7,t2,bj,cb,aa,r2,bz,ce⟩:=item 2 (by omega);refine(eM D ys 0 ⟨v0,Z,(aV (zC M) (eQ (j:=0) J) (eM D ys 1 ⟨v1,Z,(aV (zC M) (eQ (j:=1) av) (eM D ys 2 ⟨v2,Z,(fN (zC M) (eQ (j:=2) bj) (by walk_at"s") (λl3 I=>?_))⟩))⟩))⟩);have sl:=zA I (.tup [.str (S "if"),v0,v1,v2]);have e4:(tx (S "if")).cs.length=2:=by walk_at"k"
  rw[hk]at qm;exact k _ _ _ _ (.inr (.inr (.inr (.inr (.inr (.inr (bG d0 d1 (fQ c7 t0 t1 t2 h0 ay bz Z Z)))))))) (by rw[gQ,cU,cU,cU,lK];omega) (iR aC Z Z v0 Z (r0.same sl _) (bT (ar.same sl _) (bT (r2.same sl _) Z))) (g6.new I _)
 ·have ef:f1=1\/f1=7:=by
   have n2:f1≠2:=λe=>of_decide_eq_false (Bool.eq_false_iff.mpr c) (by rw[e]);have n3:f1≠3:=λe=>of_decide_eq_false (Bool.eq_false_iff.mpr c') (by rw[e]);have n4:f1≠4:=λe=>of_decide_eq_false (Bool.eq_false_iff.mpr b2) (by rw[e]);have n5:f1≠5:=λe=>of_decide_eq_false (Bool.eq_false_iff.mpr c5) (by rw[e]);have n6:f1≠6:=λe=>of_decide_eq_false (Bool.eq_false_iff.mpr c6) (by rw[e]);omega
  have hk:=bi ef;obtain⟨v0,d0,t0,J,a3,a2,r0,h0,ai⟩:=item 0 (by omega);obtain⟨v1,d1,t1,av,bt,bm,ar,ay,c8⟩:=item 1 (by omega);obtain⟨p5,q5,h5⟩:=C.feed;refine(dO a p5 q5 5 Z h5 (by decide) (by decide) (λr7 H7 bh bg g7=>?_));obtain⟨ch,_,hc⟩:=wQ (cs:=(Str.ofString "+-*<=").cps.toList) bh (by rw[show(Str.ofString "+-*<=").cps.toList.length=5 by walk_at"k"];exact bg);refine(bU ⟨ch,Z,(aV (by walk_at"k") hc ?_)⟩);refine(eM D ys 0 ⟨v0,Z,(aV (zC (g7.1 D _ M af)) (eQ (j:=0) J) (eM D ys 1 ⟨v1,Z,(fN (zC (g7.1 D _ M af)) (eQ (j:=1) av) (by walk_at"s") (λl3 I=>?_))⟩))⟩);have sl:=zA I (.tup [.str (S "op"),.str ⟨#[ch]⟩,v0,v1]);have e4:(tx (⟨#[ch]⟩:Str)).cs.length=1:=Z;rw[hk]at qm;exact k _ _ _ _ (.inr (.inl (dY d0 (eW d1 t0 t1 (Ml hc) h0 ay Z Z)))) (by rw[gQ,cU,cU,lK];omega) (fR aC Z Z Z Z (bT ((C.relD g7 r0).same sl _) (bT ((C.relD g7 ar).same sl _) Z))) ((g6.trans g7).new I _)
inductive Left(H:Hp):List V->List D->Prop where
 |nil:Left H [] []
 |cons {T:Addr} {u v:V} {d:D} {vs:List V} {ds:List D} (hT:H T=some (.tup [u,v])) (h1:RelD H u d) (h2:RelD H v d) (r:Left H vs ds):Left H (.ref T::vs) (d::ds)
theorem Left.tups{H a:Hp}{vs:List V}{ds:List D}(h:Left H vs ds)(s:∀b vs,H b=some (.tup vs)->a b=some (.tup vs)):Left a vs ds:=by
 induction h with
 |nil=>exact .nil
 |cons e g f _ c=>exact .cons (s _ _ e) (g.tups s _) (f.tups s _) c
theorem Left.append{H:Hp}{vs us:List V}{ds es:List D}(h:Left H vs ds)(k:Left H us es):Left H (vs++us) (ds++es):=by
 induction h with
 |nil=>exact k
 |cons b e c _ a=>exact .cons b e c a
theorem Left.length{H:Hp}{vs:List V}{ds:List D}(h:Left H vs ds):vs.length=ds.length:=by
 induction h with
 |nil=>rfl
 |cons _ _ _ _ a=>simp[a]
theorem Left.last{H:Hp}:∀{vs:List V} {ds:List D},Left H vs ds->vs≠[]->∃a b T u v d,vs=a++[.ref T]/\ds=b++[d]/\Left H a b/\H T=some (.tup [u,v])/\RelD H u d/\RelD H v d
 |_,_,.nil,h=>absurd Z h
 | _,_,.cons (T:=T) (u:=u) (v:=v) (d:=d) (vs:=vs) (ds:=ds) g l j r,_=>by
  by_cases hn:vs=[]
  ·subst hn
   have:ds=[]:=List.eq_nil_of_length_eq_zero (by rw[<- r.length];rfl);subst this;exact(bG ([]) ([]) (fQ T u v d Z Z (.nil) g ⟨l,j⟩))
  ·obtain⟨a,b,C,p,o,d',z,y,x,c,f,e⟩:=Left.last r hn
   exact(bG (.ref T::a) (d::b) (bG C p (cX o d' (by rw[z];rfl) (fM (by rw[y];rfl) (.cons g l j x) c f e))))
theorem Gp{H:Hp}:∀{Ts:List Addr} {us vs:List V} {ds:List D},Ts.length=us.length->RelDs H us ds->RelDs H vs ds->(∀(j:Nat) T u v,Ts[j]?=some T->us[j]?=some u->vs[j]?=some v->H T=some (.tup [u,v]))->Left H (Ts.map V.ref) ds
 |[],us,vs,ds,hl,h1,h2,_=>by
  have e:us=[]:=List.eq_nil_of_length_eq_zero hl.symm;subst e;have:=h1.length;have e2:ds=[]:=List.eq_nil_of_length_eq_zero this.symm;subst e2;exact .nil
 |T::Ts,us,vs,[],hl,h1,h2,hp=>by
  rw[show us=[] from h1]at hl;simp at hl
 |T::Ts,us,vs,d::ds,hl,⟨u,us',e1,r1,h1⟩,⟨v,vs',e2,r2,h2⟩,hp=>by
  subst e1 e2;exact .cons (hp 0 T u v rfl rfl rfl) r1 r2 (Gp (Ts:=Ts) (by simpa using hl) h1 h2 λj T' u' v' a b c=>hp (j+1) T' u' v' (by simpa using a) (by simpa using b) (by simpa using c))
def Fd:Sp:=λvs H Q _=>∃u v d,vs=[u,v]/\RelD H u d/\RelD H v d/\d.size<=1000000/\∀H',Same H H'->Q (.bl true) H'
def Tg(T:Tx K mg):DefIs P w K mg base (n+1) "_law_alike" qa2 Fd:=by
 refine DefIs.of T.kY scl_alike (by walk_at"l") (λf ak A outer s H vs Q E hr h=>?_);obtain⟨u,v,d,rfl,a,ae,hd,k⟩:=h;have nd:=scl_alike.nd;have hu:=lD hr
 refine⟨_,(aF (bI (i:=2) nd Z (by first |exact Or.inl Z |exact Or.inr rfl) (cA (pc (cG (pc (pv 0) (pc (pv 1) pN aA) aA)) pN sT)))
   (aF (G2 zF (pR (Mi (Nat.lt_of_succ_lt hu)) (pv 2) (cA pN) (nM _))
   (aF (vP (Dy zD PySem.F.slot_list_pop PySem.F.type_list_pop Dx (pv 2)) (oE Z (dN (bS (i:=3) nd Z (by first |exact Or.inl Z |exact Or.inr rfl)) (dN (bS (i:=4) nd Z (by first |exact Or.inl Z |exact Or.inr rfl)) iI))))
   (aH (bM (fO (bP gU Z T.uQ PyProof.Rows.boot_isinstance (pc (pv 4) (pc (gP T.uX zK) pN aA) aA))) (aF (bM (PW.pt (iT (mB (fO (bP gU Z T.uQ PyProof.Rows.boot_isinstance (pc (pv 3) (pc (gP T.uX zK) pN aA) aA)))) (oF (pR pX (bP dH Z T.uR zE (pc (pv 3) pN aA)) (bP dH Z T.uR zE (pc (pv 4) pN aA)) (nM _))))) (aH (aO iS)) pQ)
   (aH (bI (i:=2) nd Z (by first |exact Or.inl Z |exact Or.inr rfl) (aU eK (pv 2) (V2 Z Z T.uS Z T.uY (pv 3) (pv 4)))))) (aH (bM (PW.pt (iT (fO (bP gU Z T.uQ PyProof.Rows.boot_isinstance (pc (pv 3) (pc (gP T.uM PyProof.Rows.boot_bool) pN aA) aA))) (iT (pR pX (bP gU Z T.uQ PyProof.Rows.boot_isinstance (pc (pv 3) (pc (gP T.uP PyProof.Rows.boot_int) pN aA) aA)) (bP gU Z T.uQ PyProof.Rows.boot_isinstance (pc (pv 4) (pc (gP T.uP PyProof.Rows.boot_int) pN aA) aA)) (nM _)) (oF (pR pX (pv 3) (pv 4) (nM _)))))) (aH (aO iS)) pQ))))))
   (aH (aO iS)))),?_⟩
 refine(aE (cJ (by walk_at"s") (λt0 a6=>⟨(by walk_at"s"),λl0 O=>?_⟩)));have s0:=(zA a6 (.tup [u,v])).trans (zA O (.lst [.ref t0]));refine(bL (λj σ J=>∃l vs ds o3 o4,j=cF ds/\σ=[some u,some v,some (.ref l),o3,o4]/\H l=none/\J l=some (.lst vs)/\Left J vs ds/\cF ds<=1000000/\Same H J) (dY l0 (bG ([.ref t0]) ([d]) (dW none none Z Z (hJ (zA a6 _) O) (jAAA aC ?_ ?_ s0)))) ?_)
 ·exact .cons (zA O _ _ _ aC) (a.same s0 _) (ae.same s0 _) .nil
 ·show d.size+0<=_
  omega
 rintro j σ H1 ⟨l,vs,ds,o3,o4,rfl,rfl,hl,a8,hL,hsz,sm⟩;refine(cJ (qR _) (λe he=>?_));have se:=zA he (.lst []);refine(bG l e ⟨vs,Z,(bB (zC (se _ _ a8)) (lF (zC aC) ?_))⟩);have ab:=hL.tups (λb us z=>se b _ z);have C:=se _ _ a8;have M:=sm.trans se;generalize upd H1 e (.lst [])=H2 at ab C M⊢;by_cases hn:vs=[]
 ·subst hn
  exact iteF (k H2 M)
 have af:(!vs.isEmpty)=true:=by
  cases vs with
  |nil=>exact absurd Z hn
  |cons _ _=>rfl
 refine iteBT af ?_;refine(bL (λσ' J=>∃l vs c o3 o4,cF c<cF ds/\σ'=[some u,some v,some (.ref l),o3,o4]/\H l=none/\J l=some (.lst vs)/\Left J vs c/\cF c<=1000000/\Same H J) (λσ' J ⟨l',g,c,p3,p4,q0,q1,q2,q3,q4,q5,q6⟩=>(bA q0 (bG l' g (bG c p3 (iM p4 q1 q2 q3 q4 q5 q6))))) ?_);obtain⟨g,c,T1,u1,v1,d1,rfl,rfl,aa,ag,r1,r2⟩:=ab.last hn;have lL:=aa.length;have lS:=Bk c;rw[xE]at hsz⊢;have e1:cF [d1]=d1.size:=by show d1.size+0=d1.size;omega
 rw[e1]at hsz⊢;refine(cJ (.inl (dZ (zC C))) ⟨l,(dY (.ref T1) ⟨Z,(aV C ?_ ?_)⟩)⟩)
 ·rw[bK,List.length_singleton,Nat.add_sub_cancel,List.getElem?_append_right (zZ _),Nat.sub_self]
  rfl
 rw[List.dropLast_concat]
 have tp:∀b us,H2 b=some (.tup us)->(upd H2 l (.lst g)) b=some (.tup us):=λb us z=>by
  rw[aG (λq=>by rw[q,C]at z;cases z)];exact z
 have a9:=tp _ _ ag;have a5:=r1.tups tp _;have a4:=r2.tups tp _;have I:=aa.tups tp;have y:(upd H2 l (.lst g)) l=some (.lst g):=aC
 have r:Same H (upd H2 l (.lst g)):=λb o z=>by
  rw[aG (λq=>by rw[q,hl]at z;cases z)];exact M b o z
 generalize upd H2 l (.lst g)=H4 at a9 a5 a4 I y r⊢;refine(cT ([u1,v1]) (zB a9) (dZ (aM (bT Z ?_))))
 match d1,a5,a4,hsz with
 | .tup es,⟨a1,us,e3,Y,h1⟩,⟨a2,ws,e4,U,h2⟩,hsz=>
  subst e3 e4;have l1:=h1.length;have l2:=h2.length;refine(eE (bA Z (jAAA (λu a=>a) (TyOf.tup U) Z (bA Z (iteT ?_)))));refine(eE (bA Z (jAAA (λu a=>a) (TyOf.tup Y) Z (bA Z (iteF ?_)))));refine(dB a1 (jAA Z (.inr (zB Y)) (dB a2 (oI Z (.inr (zB U)) Z (iteBF ?_ ?_)))))
  ·rw[cM]
   ·rfl
   ·rw[l1,l2]
  refine(aE (dS (nO us ws (zB Y) (zB U) (by omega) (λz H5 Ts hz s5 lT ac hp=>?_))));have ai:=Bk es;have aj:(D.tup es).size=cF es+1:=Z;refine(nO g (Ts.map V.ref) (s5 _ _ y) ac ?_ (λp a7=>?_))
  ·rw[aR];exact aI (by omega)
  have sp:=zA a7 (.lst (g++Ts.map V.ref));refine⟨p,(dY (c++es) ⟨_,(lV ?_ Z (hJ (r.trans s5) a7) (jAAA aC ?_ ?_ (r.trans (s5.trans sp))))⟩)⟩
  ·rw[xE];omega
  ·refine(I.tups λb ah z'=>(s5.trans sp) _ _ z').append (Gp (by omega) (h1.same (s5.trans sp) _) (h2.same (s5.trans sp) _) λj T' u' v' b1 b2 b3=>sp _ _ (hp j T' u' v' b1 b2 b3))
  ·rw[xE];omega
 |.int i,e3,e4,hsz=>
  have a3:u1=.int i:=e3;have a0:v1=.int i:=e4;subst a3 a0;refine(eE (bA Z (jAAA (λu a=>a) (TyOf.int _) Z (bA Z (iteF ?_)))));refine(eE (bA Z (jAAA (λu a=>a) (TyOf.int _) Z (bA Z (iteF ?_)))));refine(eE (bA Z (jAAA (λu a=>a) (TyOf.int _) Z (eE (bA Z (jAAA (λu a=>a) (TyOf.int _) Z (lF Z (iteBF (by walk_at"k") ?_))))))));refine(dS (lF Z (iteBF ?_ ?_)))
  ·rw[cM Z];rfl
  exact(bG l g (iB c ⟨by show cF c<cF c+1;omega,(bB hl (jAAA y I (by omega) r))⟩))
 |.str x,e3,e4,hsz=>
  have a3:u1=.str x:=e3;have a0:v1=.str x:=e4;subst a3 a0;refine(eE (bA Z (jAAA (λu a=>a) (TyOf.str _) Z (bA Z (iteF ?_)))));refine(eE (bA Z (jAAA (λu a=>a) (TyOf.str _) Z (bA Z (iteF ?_)))));refine(eE (bA Z (jAAA (λu a=>a) (TyOf.str _) Z (eE (bA Z (jAAA (λu a=>a) (TyOf.str _) Z (lF Z (iteBF (by walk_at"k") ?_))))))));refine(dS (lF Z (iteBF ?_ ?_)))
  ·rw[cM Z];rfl
  exact(bG l g (iB c ⟨by show cF c<cF c+1;omega,(bB hl (jAAA y I (by omega) r))⟩))
def A0:Sp:=λvs H Q E=>∃m,m<=7/\qQ m vs H Q E
def xS:Sp:=λvs H Q _=>∃(a b c:Addr),vs=[.ref a,.ref b,.ref c]/\Src H a b/\SrcI H a c/\∀(v:V) (w:Tw) (H':Hp),fG w->RelD H' v (twD w)->Fed a H H'->Q v H'
def Ma{i:Int}(h0:0<=i)(a:i<4):∃x:Int,cV [V.int 1,.int 7,.int 16,.int 40] i=some (.int x)/\1<=x/\x<=40:=by
 rcases(show i=0\/i=1\/i=2\/i=3 by omega) with rfl |rfl |rfl |rfl
 ·exact(bH 1 Z (by decide) (by decide))
 ·exact(bH 7 Z (by decide) (by decide))
 ·exact(bH 16 Z (by decide) (by decide))
 ·exact(bH 40 Z (by decide) (by decide))
def E5{i:Int}(h0:0<=i)(a:i<4):∃x:Int,cV [V.int 1,.int 1,.int 7,.int 11] i=some (.int x)/\1<=x/\x<=11:=by
 rcases(show i=0\/i=1\/i=2\/i=3 by omega) with rfl |rfl |rfl |rfl
 ·exact(bH 1 Z (by decide) (by decide))
 ·exact(bH 1 Z (by decide) (by decide))
 ·exact(bH 7 Z (by decide) (by decide))
 ·exact(bH 11 Z (by decide) (by decide))
def Si{ys:List Str}(b:∀y∈ys,Name y):∀x∈S "num"::ys,pL x:=λx a=>by
 rcases cE a with rfl |a
 ·exact .inl Z
 ·exact .inr (b x a)
def Qu{a D:Addr}{H b:Hp}(f:Fed a H b)(h:b D=none):H D=none:=by
 cases e:H D with
 |none=>rfl
 |some o=>
  obtain⟨p,q,c⟩:=f.2;have:=f.1 D o e λz=>by rw[z,c]at h;cases h
  rw[h]at this;cases this
def P9(T:Tx K mg)(y:DefIs P w K mg base n "_law_take" qai mC)(I:DefIs P w K mg base n "_law_some" qad rH)(C:DefIs P w K mg base n "_law_term" qan A0):DefIs P w K mg base (n+1) "_law_way" qaz xS:=by
 refine DefIs.of T.kS scl_way (by walk_at"l") (λf be A outer s H vs Q E hr h=>?_);obtain⟨a,b,c,rfl,av,au,q⟩:=h;have nd:=scl_way.nd;obtain⟨ys,hb,h8,hN⟩:=av.pool
 refine⟨_,(aF (bI (i:=3) nd Z (by first |exact Or.inl Z |exact Or.inr rfl) (pd I hr (pc (pv 0) (pc (aU eK (cA (pc pS pN so)) (pv 1)) pN hG) aA)))
   (aF (bM (pR bQ (pd y hr (pc (pv 0) (pc aB pN so) aA)) aB (nM _)) (aH (aO (cG (pc (pv 3) (pc (pd C hr (pc (pv 0) (pc (pv 2) (pc (aL iL (cA (pc aB (pc aB (pc aB (pc aB pN so) so) so) so)) (pd y hr (pc (pv 0) (pc aB pN so) aA)) (λ_ _=>Z)) (pc aB pN so) aS) aA) aA)) pN aZ) aA)))) pQ)
   (aF (bI (i:=4) nd Z (by first |exact Or.inl Z |exact Or.inr rfl) (cA pN))
   (aF (gX zF Z (oR Z T.uU (pc (aU gO aB (pd y hr (pc (pv 0) (pc aB pN so) aA))) pN hG)) (bS (i:=5) nd Z (by first |exact Or.inl Z |exact Or.inr rfl))
   (aH (cI (dJ zD zH zG oQ (pv 4) (pc (cG (pc (pd I hr (pc (pv 0) (pc (pv 1) pN aA) aA)) (pc (pd C hr (pc (pv 0) (pc (pv 2) (pc (aL iL (cA (pc aB (pc aB (pc aB (pc aB pN so) so) so) so)) (pd y hr (pc (pv 0) (pc aB pN so) aA)) (λ_ _=>Z)) (pc aB pN so) aS) aA) aA)) pN aZ) aZ)) pN sT)))))
   (aH (aO (cG (pc (pv 3) (pc (iQ nP Z T.uX zK (pc (pv 4) pN aA)) pN aZ) aA)))))))),?_⟩
 refine(cJ (by walk_at"s") (λl1 b7=>?_));have y1:=zA b7 (.lst [.str (S "num")]);refine(aE (hU aC (y1 _ _ hb) (aI (by rw[aR];show 1+_<=_;omega)) (λl2 b6=>?_)));have y2:=y1.trans (zA b6 (.lst ([.str (S "num")]++ys.map V.str)));have az:upd (upd H l1 (.lst [.str (S "num")])) l2 (.lst ([.str (S "num")]++ys.map V.str)) l2=some (.lst ([.str (S "num")]++ys.map V.str)):=aC;have aa:Same H (upd (upd H l1 (.lst [.str (Str.ofString "num")])) l2 (.lst ([.str (Str.ofString "num")]++ys.map V.str))):=y2;have a0:upd (upd H l1 (.lst [.str (Str.ofString "num")])) l2 (.lst ([.str (Str.ofString "num")]++ys.map V.str)) l2=some (.lst ([.str (S "num")]++ys.map V.str)):=az;generalize upd (upd H l1 (.lst [.str (Str.ofString "num")])) l2 (.lst ([.str (Str.ofString "num")]++ys.map V.str))=H2 at aa a0⊢;have a7:=av.same aa;have an:=au.same aa
 have al:a≠l2:=λz=>by
  obtain⟨p,q,e⟩:=a7.feed;rw[z,a0]at e;injection e with e;injection e with e;injection e with e1 _;cases e1
 refine(bG a l2 (iM (S "num"::ys) al a7.feed a0 (by rw[List.length_cons];omega) (by rw[List.length_cons];omega) (λg H3 hg f3=>?_)));have gk:=Si hN g hg;have ah:=a7.fed f3;have am:=an.fed f3;obtain⟨p3,q3,h3⟩:=ah.feed;refine(dO a p3 q3 2 Z h3 (by decide) (by decide) (λz H4 z0 z1 f4=>(lF Z ?_)));have a6:=ah.fed f4;have U:=am.fed f4;have g4:Fed a H H4:=⟨λx o hx nx=>f4.1 _ _ (f3.1 _ _ (aa _ _ hx) nx) nx,f4.2⟩;obtain⟨p4,q4,h4⟩:=a6.feed;refine bC (λ_=>?_) (λ_=>?_)
 ·refine(dS (cJ (by walk_at"s") (λl hl=>?_)))
  have y5:=zA hl (.lst [.int 1,.int 7,.int 16,.int 40]);have la:l≠a:=Ne.symm (bN h4 hl);refine(dO a p4 q4 4 Z (y5 _ _ h4) (by decide) (by decide) (λi H5 i0 i1 f5=>?_));obtain⟨x,hx,x0,x1⟩:=Ma i0 i1;have b5:=f5.1 _ _ aC la;refine(nR (zC b5) hx (bL 7 (zZ _) (fQ a c x 7 Z Z x0 ((U.same y5).fed f5) (λv d t H6 ht ay rv f6=>⟨(by walk_at"s"),λr Y=>?_⟩))));refine q _ (g,.one (d,t)) _ (jAA gk ht (by show t.cs.length<=3200;omega)) (iR aC Z Z v Z (rv.same (zA Y _) _) Z) ?_;exact(g4.trans (((Fed.refl h4).same y5).trans (f5.trans f6))).new Y _
 ·refine⟨(by walk_at"s"),λD hD=>?_⟩
  have yD:=zA hD (.lst []);have Da:D≠a:=Ne.symm (bN h4 hD);have D0:H D=none:=Qu g4 hD;have g5:Fed a H (upd H4 D (.lst [])):=g4.new hD _;have a5:=a6.same yD;have a4:=U.same yD
  have bD:b≠D:=λz=>by
   obtain⟨_,e,_⟩:=a6.pool;rw[z,hD]at e;cases e
  have cD:c≠D:=λz=>by
   obtain⟨_,e,_⟩:=U.pool;rw[z,hD]at e;cases e
  have b0:upd H4 D (.lst []) D=some (.lst []):=aC;generalize upd H4 D (.lst [])=H5 at g5 a5 a4 b0⊢;obtain⟨p5,q5,h5⟩:=a5.feed;refine(dO a p5 q5 4 Z h5 (by decide) (by decide) (λz2 H6 bc bb f6=>(eC ?_)));obtain⟨N,ba,n1,n4⟩:∃N:Nat,1+z2=(N:Int)/\1<=N/\N<=4:=(bH ((1+z2).toNat) (by omega) (by omega) (by omega));refine(lV Z (by omega) (by omega) ?_);rw[ba,Int.toNat_natCast]
  refine wU (λi σ H'=>∃o5 us,∃l:List (Str×Tt),σ=[some (.ref a),some (.ref b),some (.ref c),some (.str g),some (.ref D),o5]/\Fed a H H'/\Src H' a b/\SrcI H' a c/\H' D=some (.lst us)/\RelDs H' us (l.map cY)/\l.length=i/\∀p∈l,TagOk p)
   (bG none ([]) (oO ([]) (g5.trans f6) (a5.fed f6) (a4.fed f6) (f6.1 _ _ b0 Da) Z Z (λ_ h=>nomatch h))) ?_ ?_
  ·rintro i σ H7 hi ⟨o5,us,l,rfl,g7,M,a3,ac,ab,hl,ho⟩
   obtain⟨b4,b8,bd,b9⟩:=M.pool;refine(cJ (.inl (dZ (zC ac))) ?_);refine(fS a b (iM b4 M.ne M.feed b8 (by omega) (by omega) (λx H8 hx f8=>?_)));have ag:=M.fed f8;have ak:=a3.fed f8;obtain⟨p8,q8,aq⟩:=ag.feed;refine(aE (cJ (by walk_at"s") (λk hk=>?_)));have y9:=zA hk (.lst [.int 1,.int 1,.int 7,.int 11]);have ka:k≠a:=Ne.symm (bN aq hk);refine(dO a p8 q8 4 Z (y9 _ _ aq) (by decide) (by decide) (λj bf j0 j1 ae=>?_));obtain⟨r,Y,r0,r1⟩:=E5 j0 j1;have ao:=(ag.same y9).fed ae;have a1:=(ak.same y9).fed ae;refine(nR (zC (ae.1 _ _ aC ka)) Y (bL 6 (by decide) (fQ a c r 6 Z Z r0 a1 (λv d t af ht ay rv ar=>⟨(by walk_at"s"),λpp ax=>?_⟩))));have a2:=zA ax (.tup [.str x,v]);have F1:Fed a H7 af:=f8.trans (((Fed.refl aq).same y9).trans (ae.trans ar));have b1:=F1.1 _ _ ac Da;have a9:=a2 _ _ b1;have t7:∀b us,H7 b=some (.tup us)->upd af pp (.tup [.str x,v]) b=some (.tup us):=λb us e=>a2 _ _ (iX M.feed F1 b us e);have a8:upd af pp (.tup [.str x,v]) pp=some (.tup [.str x,v]):=aC;have b2:=(g7.trans F1).new ax (.tup [.str x,v]);have O:=(ao.fed ar).same a2;have J:=(a1.fed ar).same a2;have ai:=rv.same a2 _;generalize upd af pp (.tup [.str x,v])=b3 at a9 t7 a8 b2 O J ai⊢;have ul:=ab.length;rw[aR]at ul;refine(sS us Z a9 (cQ (by omega)) ?_)
   have aj:∀b ws,b3 b=some (.tup ws)->upd b3 D (.lst (us++[.ref pp])) b=some (.tup ws):=λb ws e=>by
    rw[aG λz=>by rw[z,a9]at e;cases e];exact e
   refine(dY (us++[.ref pp]) (oO (l++[(x,d,t)]) (Fed.put b2 D0 Da _) ?_ ?_ aC ?_ (by rw[bK,hl];rfl) (λu hu=>?_)))
   ·obtain⟨zs,e1,e2⟩:=O.pool
    obtain⟨p,q,e3⟩:=O.feed;exact⟨O.ne,(bG p q (by rw[aG (Ne.symm Da)];exact e3)),(bL zs (by rw[aG bD];exact e1) e2)⟩
   ·obtain⟨zs,e1,e2⟩:=J.pool
    obtain⟨p,q,e3⟩:=J.feed;exact⟨J.ne,(bG p q (by rw[aG (Ne.symm Da)];exact e3)),(bL zs (by rw[aG cD];exact e1) e2)⟩
   ·rw[dG]
    exact(ab.tups (λb us e=>aj _ _ (t7 _ _ e)) _).append (bT (iR (aj _ _ a8) Z Z v Z (ai.tups aj _) Z) Z)
   ·rcases eA hu with hu |hu
    ·exact ho u hu
    ·rw[eG hu]
     exact(jAA (b9 x hx) (ht.mono (by decide)) (by show t.cs.length<=880;omega))
  ·rintro σ H7 ⟨o5,us,l,rfl,g7,M,a3,ac,ab,hl,ho⟩
   refine(dS (cX D us Z (.inl ⟨zC ac,λtp aw=>⟨(by walk_at"s"),λr Y=>?_⟩⟩)));have s8:=zA aw (.tup us);have s9:=zA Y (.tup [.str g,.ref tp]);refine q _ (g,.tags l) _ (jAAA gk (by omega) (by omega) ho) (fR aC Z Z Z (cT us (s9 _ _ aC) (ab.same (s8.trans s9) _)) Z) ?_;exact(g7.new aw _).new Y _
def yG(K:Fg):Sp:=λvs H Q _=>∃(sa b:Addr) (ns:List Int) (e:Int) (ys:List Str),vs=[.ref sa,.int e,.ref b]/\SqL K H sa (ns.map V.int)/\ns.length<=63/\0<=e/\H b=some (.lst (ys.map V.str))/\ys.length=8/\(∀y∈ys,Name y) ∧
 ∀(r a' b':Addr) (t:Td) (H':Hp),Same H H'->H' r=some (.tup [.ref a',.ref b'])->TdAt H' a' b' t->TdOk t->Q (.ref r) H'
theorem Ph{κ α β:Type}[DecidableEq κ][DecidableEq α]{R:κ×V->α×β->Prop}{f:α->κ}(g:∀a b,f a=f b->a=b)(j:∀p e,R p e->p.1=f e.1){kvs:List (κ×V)}{ws:List (α×β)}(h:All2 R kvs ws)(a:α):(kvs.any λp=>decide (p.1=f a))=(ws.any λe=>decide (e.1=a)):=by
 induction h with
 |nil=>rfl
 |cons h _ c=>
  rw[List.any_cons,List.any_cons,c,j _ _ h];congr 1;rw[Bool.eq_iff_iff];simp only[decide_eq_true_eq];exact⟨λz=>g _ _ z,λz=>by rw[z]⟩
def Pg{κ α β:Type}[DecidableEq κ][DecidableEq α]{R:κ×V->α×β->Prop}{f:α->κ}(r:∀a b,f a=f b->a=b)(g:∀p e,R p e->p.1=f e.1){kvs:List (κ×V)}{ws:List (α×β)}(h:All2 R kvs ws){a:α}{b:β}{v:V}(o:R (f a,v) (a,b)):All2 R (kvs.map λc=>if c.1=f a then (c.1,v) else c) (ws.map λe=>if e.1=a then (e.1,b) else e):=by
 induction h with
 |nil=>exact .nil
 | @cons p e kvs ws h _ l=>
  rw[List.map_cons,List.map_cons];refine .cons ?_ l;by_cases z:e.1=a
  ·rw[if_pos z,if_pos (by rw[g _ _ h,z]),g _ _ h,z]
   exact o
  ·rw[if_neg z,if_neg λj=>z (r _ _ ((g _ _ h).symm.trans j))]
   exact h
def Fn{κ α β:Type}[DecidableEq κ][DecidableEq α]{R:κ×V->α×β->Prop}{f:α->κ}(g:∀a b,f a=f b->a=b)(j:∀p e,R p e->p.1=f e.1){kvs:List (κ×V)}{ws:List (α×β)}(h:All2 R kvs ws){a:α}{b:β}{v:V}(c:R (f a,v) (a,b)):All2 R (bX kvs (f a) v) (dQ ws a b):=by
 unfold bX dQ;rw[Ph g j h a];split
 ·exact Pg g j h c
 ·exact h.append (.cons c .nil)
def Rl{H:Hp}{kvs:List (aK×V)}{ws:List (Str×Tw)}(h:All2 (WayAt H) kvs ws){x:Str}{w:Tw}{v:V}(c:RelD H v (twD w)):All2 (WayAt H) (bX kvs (.inr x) v) (dQ ws x w):=
 Fn (f:=λa:Str=>(Sum.inr a:aK)) (λa b z=>Sum.inr.inj z) (λp e h=>h.1) h ⟨Z,c⟩
def Rx{H:Hp}{kvs:List (List aK×V)}{ps:List ((Str×Str)×Pl)}(h:All2 (PlAt H) kvs ps){x:Str×Str}{w:Pl}{v:V}(c:RelD H v (oY w)):All2 (PlAt H) (bX kvs (kP x) v) (dQ ps x w):=
 Fn (f:=kP) (λa b z=>xY z) (λp e h=>h.1) h ⟨Z,c⟩
def But2(r d:Addr)(H H':Hp):Prop:=∀x o,H x=some o->x≠r->x≠d->H' x=some o
def But2.fed{r d:Addr}{H c a:Hp}(k:But2 r d H c)(f:Fed r c a):But2 r d H a:=λx o e b g=>f.1 _ _ (k x o e b g) b
theorem But2.same{r d:Addr}{H b a:Hp}(k:But2 r d H b)(s:Same b a):But2 r d H a:=λx o e f c=>s _ _ (k x o e f c)
def But2.put{r d:Addr}{H b:Hp}(k:But2 r d H b)(o:HO):But2 r d H (upd b d o):=λx u e c a=>by rw[aG a];exact k x u e c a
def Qh (T:Tx K mg) (I:DefIs P w K mg base n "_law_feed" qat (vR K)) (y:DefIs P w K mg base n "_law_take" qai mC) (g:DefIs P w K mg base n "_law_some" qad rH) (O:DefIs P w K mg base n "_law_term" qan A0) (Y:DefIs P w K mg base n "_law_way" qaz xS) :
  DefIs P w K mg base (n+1) "_law_told" qa0 (yG K):=by
 refine DefIs.of T.kT scl_told (by walk_at"l") (λf dr A outer s H vs Q E hr h=>?_);obtain⟨sa,b,ns,e,ys,rfl,hS,c7,e0,hb,h8,hN,q⟩:=h;have nd:=scl_told.nd;have hu:=lD hr
 refine⟨_,(aF (bI (i:=3) nd Z (by first |exact Or.inl Z |exact Or.inr rfl) (aU eK (pv 2) (cA (pc pS pN so))))
   (aF (bI (i:=4) nd Z (by first |exact Or.inl Z |exact Or.inr rfl) Aa)
   (aF (bI (i:=5) nd Z (by first |exact Or.inl Z |exact Or.inr rfl) (pd I hr (pc (pv 0) (pc (pv 1) pN aA) aA)))
   (aF (gX zF Z (oR Z T.uU (pc (pd y hr (pc (pv 5) (pc aB pN so) aA)) pN aZ)) (bS (i:=6) nd Z (by first |exact Or.inl Z |exact Or.inr rfl))
   (aH (wB hu (pv 4) (pd g hr (pc (pv 5) (pc (pv 2) pN aA) aA)) (pd Y hr (pc (pv 5) (pc (pv 2) (pc (pv 3) pN aA) aA) aA)) Z)))
   (aF (bI (i:=7) nd Z (by first |exact Or.inl Z |exact Or.inr rfl) Ab)
   (aF (bI (i:=5) nd Z (by first |exact Or.inl Z |exact Or.inr rfl) (pd I hr (pc (pv 0) (pc (aU gO (pv 1) aB) pN hG) aA)))
   (aF (gX zF Z (oR Z T.uU (pc (pd y hr (pc (pv 5) (pc aB pN so) aA)) pN aZ)) (bS (i:=6) nd Z (by first |exact Or.inl Z |exact Or.inr rfl))
   (aF (bI (i:=8) nd Z (by first |exact Or.inl Z |exact Or.inr rfl) (cG (pc (pd g hr (pc (pv 5) (pc (pv 2) pN aA) aA)) (pc (pd g hr (pc (pv 5) (pc (pv 2) pN aA) aA)) pN aZ) aZ)))
   (aF (bI (i:=9) nd Z (by first |exact Or.inl Z |exact Or.inr rfl) (cA pN))
   (aF (gX zF Z (oR Z T.uU (pc (pd y hr (pc (pv 5) (pc aB pN so) aA)) pN aZ)) (bS (i:=10) nd Z (by first |exact Or.inl Z |exact Or.inr rfl))
   (aH (cI (dJ zD zH zG oQ (pv 9) (pc (cG (pc (pd g hr (pc (pv 5) (pc (pv 2) pN aA) aA)) (pc (pd O hr (pc (pv 5) (pc (pv 3) (pc (aL iL (cA (pc aB (pc aB (pc aB (pc aB pN so) so) so) so)) (pd y hr (pc (pv 5) (pc aB pN so) aA)) (λ_ _=>Z)) (pc aB pN so) aS) aA) aA)) pN aZ) aZ)) pN sT)))))
   (aH (wB hu (pv 7) (pv 8) (cG (pc (pd g hr (pc (pv 5) (pc (pv 2) pN aA) aA)) (pc (iQ nP Z T.uX zK (pc (pv 9) pN aA)) pN aZ) aZ)) Z))))))
   (aH (aO (cG (pc (pv 4) (pc (pv 7) pN aA) aA))))))))))),?_⟩
 refine(cJ (by walk_at"s") (λl hl=>?_));have y1:=zA hl (.lst [.str (S "it")]);refine(hU (y1 _ _ hb) aC (aI (by rw[aR];show _+1<=_;omega)) (λtm cp=>?_));have y2:Same H (upd (upd H l (.lst [.str (Str.ofString "it")])) tm (.lst (ys.map V.str++[.str (Str.ofString "it")]))):=y1.trans (zA cp _)
 have ac:upd (upd H l (.lst [.str (Str.ofString "it")])) tm (.lst (ys.map V.str++[.str (Str.ofString "it")])) tm=some (.lst ((ys++[S "it"]).map V.str)):=by
  rw[aC,dG];rfl
 generalize upd (upd H l (.lst [.str (Str.ofString "it")])) tm (.lst (ys.map V.str++[.str (Str.ofString "it")]))=H2 at y2 ac⊢;intro U be;have y3:=zA be (.dK []);have ah:upd H2 U (.dK []) U=some (.dK []):=aC;have s3:=y2.trans y3;have ab:=y3 _ _ ac;have bq:tm≠U:=bN ac be;have c9:H U=none:=hJ y2 be;generalize upd H2 U (.dK [])=H3 at ah s3 ab⊢;refine(dS (eW sa ns e Z (s3.seq hS) c7 e0 (λr p q' nr=>?_)));have y4:=zA nr (.lst [.int p,.int q']);have c2:upd H3 r (.lst [.int p,.int q']) r=some (.lst [.int p,.int q']):=aC;have rd:r≠U:=Ne.symm (bN ah nr);have rt:r≠tm:=Ne.symm (bN ab nr);have d3:=s3 _ _ hb;have rb:r≠b:=Ne.symm (bN d3 nr);have bd:b≠U:=bN hb c9;have r0:H r=none:=hJ s3 nr;have s4:=s3.trans y4;have b7:=y4 _ _ ah;have aa:=y4 _ _ ab;have c6:=s4 _ _ hb;generalize upd H3 r (.lst [.int p,.int q'])=H4 at y4 c2 s4 b7 aa c6⊢;have bw:∀{J:Hp},But2 r U H4 J->(∃p q:Int,J r=some (.lst [.int p,.int q]))->Src J r b/\SrcI J r tm:=λk fd=>⟨⟨rb,fd,(bH ys (k _ _ c6 (Ne.symm rb) bd) h8 hN)⟩,⟨rt,fd,(bH ys (k _ _ aa (Ne.symm rt) bq) h8 hN)⟩⟩;refine(dO r p q' 7 Z c2 (by decide) (by decide) (λz H5 z0 z1 f5=>?_));obtain⟨N,d9,n6⟩:∃N:Nat,z=(N:Int)/\N<=6:=(bL z.toNat (by omega) (by omega));refine(lV Z (by omega) (by omega) ?_);rw[d9,Int.toNat_natCast]
 refine wU (λi σ J=>∃o6 kvs,∃ws:List (Str×Tw),σ=[some (.ref sa),some (.int e),some (.ref b),some (.ref tm),some (.ref U),some (.ref r),o6,none,none,none,none]/\But2 r U H4 J/\(∃p q:Int,J r=some (.lst [.int p,.int q]))/\J U=some (.dK kvs)/\All2 (WayAt J) kvs ws/\ws.length<=i/\(ws.map (·.1)).Nodup/\∀e∈ws,Name e.1/\fG e.2)
  (bG none ([]) (oO ([]) (λx o hx n1 _=>f5.1 _ _ hx n1) f5.2 (f5.1 _ _ b7 (Ne.symm rd)) (.nil) (zZ _) List.nodup_nil (λ_ h=>nomatch h))) ?_ ?_
 ·rintro i σ H6 hi ⟨o6,kvs,ws,rfl,k6,bn,av,aw,wl,wn,wo⟩
  obtain⟨br,bb⟩:=bw k6 bn;refine(dS (gC r b tm Z br bb (λv w' H7 hw rv f7=>?_)));have k7:=k6.fed f7;have al:=f7.1 _ _ av (Ne.symm rd);have ay:=aw.imp λ_ _ h=>h.tups (iX bn f7);obtain⟨a7,_⟩:=bw k7 f7.2;obtain⟨ce,d2,dq,d6⟩:=a7.pool;refine(aE (fS r b (iM ce a7.ne a7.feed d2 (by omega) (by omega) (λx H8 hx f8=>?_))));have k8:=k7.fed f8;have ak:=f8.1 _ _ al (Ne.symm rd);have ax:=ay.imp λ_ _ h=>h.tups (iX f7.2 f8);have ci:=rv.tups (iX f7.2 f8) _;have kl:=aw.length;refine(pT ⟨DPut.k (k:=.inr x) ak (cQ (by omega)),?_⟩)
  have t9:∀b us,H8 b=some (.tup us)->upd H8 U (.dK (bX kvs (.inr x) v)) b=some (.tup us):=λb us e=>by
   rw[aG λz=>by rw[z,ak]at e;cases e];exact e
  obtain⟨p8,q8,af⟩:=f8.2;refine(bU (oO (dQ ws x w') (k8.put _) (bG p8 q8 (by rw[aG rd];exact af)) aC ?_ ?_ (Hv wn) (G3 wo ⟨d6 x hx,hw⟩)))
  ·exact Rl (ax.imp λ_ _ h=>h.tups t9) (ci.tups t9 _)
  ·have:=G7 ws x w'
   omega
 rintro σ H6 ⟨o6,kw,ws,rfl,k6,bn,av,aw,wl,wn,wo⟩;have s6:Same H H6:=λx o hx=>k6 _ _ (s4 _ _ hx) (bN hx r0) (bN hx c9);have b2:=k6 _ _ aa (Ne.symm rt) bq;have dk:=s6 _ _ hb;intro dp au;have y7:=zA au (.dT []);have aj:upd H6 dp (.dT []) dp=some (.dT []):=aC;have s7:=s6.trans y7;have ca:H dp=none:=hJ s6 au;have bp:b≠dp:=bN hb ca;have cf:tm≠dp:=bN b2 au;have db:U≠dp:=bN av au;have al:=y7 _ _ av;have a9:=y7 _ _ b2;have ay:=aw.imp λ_ _ h=>h.tups λa us e=>y7 _ _ e;generalize upd H6 dp (.dT [])=H7 at aj s7 al a9 ay⊢;refine(dS (eC (eW sa ns (e+1) Z (s7.seq hS) c7 (by omega) (λC p2 q2 a2=>?_))));have y8:=zA a2 (.lst [.int p2,.int q2]);have af:upd H7 C (.lst [.int p2,.int q2]) C=some (.lst [.int p2,.int q2]):=aC;have rp:C≠dp:=Ne.symm (bN aj a2);have bu:C≠tm:=Ne.symm (bN a9 a2);have bv:C≠b:=Ne.symm (bN (s7 _ _ hb) a2);have ch:C≠U:=Ne.symm (bN al a2);have ck:H C=none:=hJ s7 a2;have s8:=s7.trans y8;have ai:=y8 _ _ aj;have b1:=y8 _ _ a9;have ak:=y8 _ _ al;have c5:=s8 _ _ hb;have ax:=ay.imp λ_ _ h=>h.tups λa us e=>y8 _ _ e;generalize upd H7 C (.lst [.int p2,.int q2])=H8 at y8 af s8 ai b1 ak c5 ax⊢;have a1:∀{J:Hp},But2 C dp H8 J->(∃p q:Int,J C=some (.lst [.int p,.int q]))->Src J C b/\SrcI J C tm:=λk fd=>⟨⟨bv,fd,(bH ys (k _ _ c5 (Ne.symm bv) bp) h8 hN)⟩,⟨bu,fd,(bH ys (k _ _ b1 (Ne.symm bu) cf) h8 hN)⟩⟩;refine(dO C p2 q2 7 Z af (by decide) (by decide) (λz2 H9 dg df f9=>?_))
 obtain⟨N2,d8,dj⟩:∃N:Nat,z2=(N:Int)/\N<=6:=(bL z2.toNat (by omega) (by omega));refine(lV Z (by omega) (by omega) ?_);rw[d8,Int.toNat_natCast]
 refine wU (λi σ J=>∃o6 o8 o9 a0 kvs,∃ps:List ((Str×Str)×Pl),σ=[some (.ref sa),some (.int e),some (.ref b),some (.ref tm),some (.ref U),some (.ref C),o6,some (.ref dp),o8,o9,a0]/\But2 C dp H8 J/\(∃p q:Int,J C=some (.lst [.int p,.int q]))/\J dp=some (.dT kvs)/\All2 (PlAt J) kvs ps/\ps.length<=i/\(ps.map (·.1)).Nodup/\∀e∈ps,Name e.1.1/\Name e.1.2/\iD e.2)
  (dY none (fQ none none ([]) ([]) Z (λx o hx n1 _=>f9.1 _ _ hx n1) f9.2 (f9.1 _ _ ai (Ne.symm rp)) (jAAA (.nil) (zZ _) List.nodup_nil (λ_ h=>nomatch h)))) ?_ ?_
 ·rintro i σ HA hi ⟨o6,o8,o9,a0,kvs,ps,rfl,kA,bm,bi,ap,pl,pn,po⟩
  obtain⟨a6,_⟩:=a1 kA bm;obtain⟨cd,d1,dn,d5⟩:=a6.pool;refine(fS C b (iM cd a6.ne a6.feed d1 (by omega) (by omega) (λx1 HB cm fB=>?_)));have kB:=kA.fed fB;obtain⟨a5,_⟩:=a1 kB fB.2;obtain⟨cc,d0,dl,d4⟩:=a5.pool;refine(fS C b (iM cc a5.ne a5.feed d0 (by omega) (by omega) (λx2 HC cl fC=>⟨(by walk_at"s"),λpa cy=>?_⟩)));have FC:=fB.trans fC;have yC:=zA cy (.tup [.str x1,.str x2]);have b6:upd HC pa (.tup [.str x1,.str x2]) pa=some (.tup [.str x1,.str x2]):=aC;have kC:=(kB.fed fC).same yC;have tC:∀b us,HA b=some (.tup us)->upd HC pa (.tup [.str x1,.str x2]) b=some (.tup us):=λb us e=>yC _ _ (iX bm FC b us e);have bh:=yC _ _ (FC.1 _ _ bi (Ne.symm rp));obtain⟨pC,qC,cw⟩:=fC.2;have c8:∃p q:Int,upd HC pa (.tup [.str x1,.str x2]) C=some (.lst [.int p,.int q]):=(bG pC qC (yC _ _ cw));generalize upd HC pa (.tup [.str x1,.str x2])=HD at b6 kC tC bh c8⊢;refine⟨(by walk_at"s"),λss ao=>?_⟩;have yS:=zA ao (.lst []);have b3:upd HD ss (.lst []) ss=some (.lst []):=aC;have kE:=kC.same yS;have c4:=yS _ _ bh;have b5:=yS _ _ b6;obtain⟨pD,qD,c1⟩:=c8;have ar:=yS _ _ c1;have sp:ss≠dp:=Ne.symm (bN bh ao);have sr:ss≠C:=Ne.symm (bN c1 ao);have cb:=ap.imp λ_ _ h=>h.tups λb us e=>yS _ _ (tC _ _ e)
  have cg:H8 ss=none:=by
   cases z:H8 ss with
   |none=>rfl
   |some o=>
    have:=kC _ _ z sr sp;rw[ao]at this;cases this
  generalize upd HD ss (.lst [])=HE at b3 kE c4 b5 ar cb⊢;refine(dO C pD qD 6 Z ar (by decide) (by decide) (λz3 HF de dd fF=>?_));obtain⟨N3,d7,di⟩:∃N:Nat,z3=(N:Int)/\N<=5:=(bL z3.toNat (by omega) (by omega));refine(lV Z (by omega) (by omega) ?_);rw[d7,Int.toNat_natCast]
  refine wU (λj σ J=>∃a0 us,∃es:List (Str×Tt),σ=[some (.ref sa),some (.int e),some (.ref b),some (.ref tm),some (.ref U),some (.ref C),some (.int (0+(i:Nat))),some (.ref dp),some (.ref pa),some (.ref ss),a0]/\But2 C dp H8 J/\(∃p q:Int,J C=some (.lst [.int p,.int q]))/\J dp=some (.dT kvs)/\All2 (PlAt J) kvs ps/\J pa=some (.tup [.str x1,.str x2])/\J ss=some (.lst us)/\RelDs J us (es.map cY)/\es.length=j/\∀p∈es,TagOk p)
   (dY ([]) (rB ([]) (kE.fed fF) fF.2 (fF.1 _ _ c4 (Ne.symm rp)) (fM (cb.imp λ_ _ h=>h.tups (iX (bG pD qD ar) fF)) (iX (bG pD qD ar) fF _ _ b5) (fF.1 _ _ b3 sr) Z ⟨Z,λ_ h=>nomatch h⟩))) ?_ ?_
  ·rintro j σ HG hj ⟨a0,us,es,rfl,kG,am,bg,bo,ag,aq,an,el,eo⟩
   obtain⟨M,ba⟩:=a1 kG am;obtain⟨b8,bj,da,bl⟩:=M.pool;refine(cJ (.inl (dZ (zC aq))) ?_);refine(fS C b (iM b8 M.ne M.feed bj (by omega) (by omega) (λx HI hx fI=>?_)));obtain⟨pI,qI,ae⟩:=fI.2;refine(aE (cJ (by walk_at"s") (λk hk=>?_)));have y9:=zA hk (.lst [.int 1,.int 1,.int 7,.int 11]);have ka:k≠C:=Ne.symm (bN ae hk);refine(dO C pI qI 4 Z (y9 _ _ ae) (by decide) (by decide) (λjj HJ j0 j1 fJ=>?_));obtain⟨rm,cu,cj,dh⟩:=E5 j0 j1;have b9:=((ba.fed fI).same y9).fed fJ;refine(nR (zC (fJ.1 _ _ aC ka)) cu (bL 7 (zZ _) (fQ C tm rm 7 Z Z cj b9 (λv d t HK ht dc rv fK=>⟨(by walk_at"s"),λpp cx=>?_⟩))));have yK:=zA cx (.tup [.str x,v]);have F1:Fed C HG HK:=fI.trans (((Fed.refl ae).same y9).trans (fJ.trans fK));have t7:∀b us,HG b=some (.tup us)->upd HK pp (.tup [.str x,v]) b=some (.tup us):=λb us e=>yK _ _ (iX am F1 b us e);have bc:=yK _ _ (F1.1 _ _ aq sr);have c3:=yK _ _ (F1.1 _ _ bg (Ne.symm rp));have b4:upd HK pp (.tup [.str x,v]) pp=some (.tup [.str x,v]):=aC;have kL:=(kG.fed F1).same yK;obtain⟨pK,qK,cv⟩:=F1.2;have bz:=yK _ _ cv;have bt:=rv.same yK _;generalize upd HK pp (.tup [.str x,v])=HL at t7 bc c3 b4 kL bz bt⊢;have ul:=an.length;rw[aR]at ul;refine(sS us Z bc (cQ (by omega)) ?_)
   have a4:∀b ws,HL b=some (.tup ws)->upd HL ss (.lst (us++[.ref pp])) b=some (.tup ws):=λb ws e=>by
    rw[aG λz=>by rw[z,bc]at e;cases e];exact e
   refine(dY (us++[.ref pp]) (iM (es++[(x,d,t)]) (λc o hc n1 n2=>?_) (bG pK qK ?_) ?_ (bo.imp λ_ _ h=>h.tups λb us e=>a4 _ _ (t7 _ _ e)) (a4 _ _ (t7 _ _ ag)) (jAAA aC ?_ (by rw[bK,el];rfl) (λu a8=>?_))))
   ·rw[aG (bN hc cg)]
    exact kL _ _ hc n1 n2
   ·rw[aG (Ne.symm sr)]
    exact bz
   ·rw[aG (Ne.symm sp)]
    exact c3
   ·rw[dG]
    exact(an.tups (λb us e=>a4 _ _ (t7 _ _ e)) _).append (bT (iR (a4 _ _ b4) Z Z v Z (bt.tups a4 _) Z) Z)
   ·rcases eA a8 with a8 |a8
    ·exact eo u a8
    ·rw[eG a8]
     exact(jAA (bl x hx) ht (by show t.cs.length<=880;omega))
  ·rintro σ HG ⟨a0,us,es,rfl,kG,am,bg,bo,ag,aq,an,el,eo⟩
   obtain⟨M,_⟩:=a1 kG am;obtain⟨b8,bj,da,bl⟩:=M.pool;refine(fS C b (iM b8 M.ne M.feed bj (by omega) (by omega) (λmk HI cz fI=>?_)));have cq:=fI.1 _ _ aq sr;refine(aE (cX ss us Z (.inl ⟨zC cq,λtp co=>⟨(by walk_at"s"),λtv bx=>?_⟩⟩)));have yJ:=(zA co (.tup us)).trans (zA bx (.tup [.str mk,.ref tp]));have b0:upd (upd HI tp (.tup us)) tv (.tup [.str mk,.ref tp]) tp=some (.tup us):=zA bx _ _ _ aC;have az:upd (upd HI tp (.tup us)) tv (.tup [.str mk,.ref tp]) tv=some (.tup [.str mk,.ref tp]):=aC;have t7:∀b a3,HG b=some (.tup a3)->upd (upd HI tp (.tup us)) tv (.tup [.str mk,.ref tp]) b=some (.tup a3):=λb us e=>yJ _ _ (iX am fI b us e);have kJ:=(kG.fed fI).same yJ;have bf:=yJ _ _ (fI.1 _ _ bg (Ne.symm rp));obtain⟨pI,qI,ae⟩:=fI.2;have c0:=yJ _ _ ae;generalize upd (upd HI tp (.tup us)) tv (.tup [.str mk,.ref tp])=HJ at b0 az t7 kJ bf c0⊢;have kl:=ap.length;refine(aE (dB dp (bB (DPut.t (k:=kP (x1,x2)) bf (t7 _ _ ag) (cQ (by omega))) ?_)))
   have t9:∀b a3,HJ b=some (.tup a3)->upd HJ dp (.dT (bX kvs (kP (x1,x2)) (.ref tv))) b=some (.tup a3):=λb us e=>by
    rw[aG λz=>by rw[z,bf]at e;cases e];exact e
   refine(bU (bU (dY (dQ ps (x1,x2) (mk,es)) (aV (kJ.put _) (bG pI qI (by rw[aG rp];exact c0)) (fM aC ?_ ?_ (Hv pn) (G3 po (fM (d5 x1 cm) (d4 x2 cl) (bl mk cz) (by show es.length<=5;omega) eo)))))))
   ·refine Rx (bo.imp λ_ _ h=>h.tups λb us e=>t9 _ _ (t7 _ _ e)) (fR (t9 _ _ az) Z Z Z (cT us (t9 _ _ b0) ?_) Z)
    exact an.tups (λb us e=>t9 _ _ (t7 _ _ e)) _
   ·have:=G7 ps (x1,x2) (mk,es)
    omega
 ·rintro σ HA ⟨o6,o8,o9,a0,kvs,ps,rfl,kA,bm,bi,ap,pl,pn,po⟩
  refine(aE (cJ (by walk_at"s") (λrr cr=>?_)));have yR:=zA cr (.tup [.ref U,.ref dp]);have tA:∀b us,H8 b=some (.tup us)->HA b=some (.tup us):=λb us e=>kA _ _ e (λz=>by rw[z,af]at e;cases e) (λz=>by rw[z,ai]at e;cases e);refine q rr U dp ⟨ws,ps⟩ _ (λx o hx=>yR _ _ (kA _ _ (s8 _ _ hx) (bN hx ck) (bN hx ca))) aC ⟨(bL kw (yR _ _ (kA _ _ ak (Ne.symm ch) db)) (ax.imp λ_ _ h=>h.tups λb us e=>yR _ _ (tA _ _ e))),(bL kvs (yR _ _ bi) (ap.imp λ_ _ h=>h.tups λb us e=>yR _ _ e))⟩ ⟨by show ws.length<=6;omega,by show ps.length<=6;omega,wn,pn,wo,po⟩
def yY:Sp:=λvs H Q _=>∃(r a' b' a b:Addr) (t' t:Td),vs=[.ref r,.ref a,.ref b]/\H r=some (.tup [.ref a',.ref b'])/\TdAt H a' b' t'/\TdAt H a b t/\TdOk t'/\TdOk t/\t'.ways.Perm t.ways/\t'.places.Perm t.places/\a'≠a/\b'≠b/\∀H',Same H H'->Q (.bl true) H'
def Th(T:Tx K mg)(g:DefIs P w K mg base n "_law_alike" qa2 Fd):DefIs P w K mg base (n+1) "_law_dicts" qa1 yY:=by
 refine DefIs.of T.kZ scl_dicts (by walk_at"l") (λf b3 A outer s H vs Q E hr h=>?_);obtain⟨r,a',b',a,b,t',t,rfl,I,b0,az,C,ok,pw,pp,na,nb,q⟩:=h;have nd:=scl_dicts.nd;have hu:=lD hr;have ac:=Ds hr;obtain⟨⟨aa,a6,a7⟩,ab,a5,a8⟩:=b0;obtain⟨⟨kw,ha,aw⟩,kp,hb,ap⟩:=az;have b1:aa.length<=6:=by rw[a7.length];exact C.w6
 have b2:ab.length<=6:=by rw[a8.length];exact C.p6
 have lw:kw.length<=6:=by rw[aw.length];exact ok.w6
 have lp:kp.length<=6:=by rw[ap.length];exact ok.p6
 have hS:∀{M:Hp},Same H M->SqT K M r [.ref a',.ref b']:=λs=>zB (s _ _ I)
 refine⟨_,(aF (bM (PW.pt (iT (mB (fO (bP gU Z T.uQ PyProof.Rows.boot_isinstance (pc (pv 0) (pc (gP T.uX zK) pN aA) aA)))) (iT (pR pX (bP dH Z T.uR zE (pc (pv 0) pN aA)) aB (nM _)) (oF (pR (Ey ac) (bP (xC Z) Z T.uV PyProof.Rows.boot_sorted (pc (aL bO (pv 0) aB (λ_ _=>Z)) pN aS)) (bP (xC Z) Z T.uV PyProof.Rows.boot_sorted (pc (pv 1) pN aA)) (nM _)))))) (aH (aO iS)) pQ)
   (aF (bM (PW.pt (iT (mB (fO (bP gU Z T.uQ PyProof.Rows.boot_isinstance (pc (aL bO (pv 0) aB (λ_ _=>Z)) (pc (gP T.uN zL) pN aA) aS)))) (iT (mB (fO (bP gU Z T.uQ PyProof.Rows.boot_isinstance (pc (aL bO (pv 0) aB (λ_ _=>Z)) (pc (gP T.uN zL) pN aA) aS)))) (oF (pR (Ey ac) (bP (xD Z) Z T.uV PyProof.Rows.boot_sorted (pc (aL bO (pv 0) aB (λ_ _=>Z)) pN aS)) (bP (xD Z) Z T.uV PyProof.Rows.boot_sorted (pc (pv 2) pN aA)) (nM _)))))) (aH (aO iS)) pQ)
   (aF (F8 (gX zF Z (Pf (pv 1)) (bS (i:=3) nd Z (by first |exact Or.inl Z |exact Or.inr rfl))
   (aH (bM (mB (fO (pd g hr (pc (nE hu (aL bO (pv 0) aB (λ_ _=>Z)) (pv 3) (λ_ _=>Z)) (pc (nE hu (pv 1) (pv 3) (λ_ _=>Z)) pN aS) aS)))) (aH (aO iS)) pQ))))
   (aH (aO (dI (Na (Nat.lt_of_succ_lt hu)) (Rq (iP ["_law_place","_law_places","_law_found"] [none,some 2,some 0] Z (by kernel_rfl) (Rt (pv 2)) (λ_ _ _ _=>(bS (i:=0) (by show List.Nodup (["_law_place","_law_places","_law_found"]:List Str);decide +kernel) Z (Or.inl Z))) (λ_ _ _ _=>(Od (mB (fO (pd g hr (pc (nE hu (aL (zV (K:=K) Z) (pv 2) aB (λ_ _=>Z)) (pv 0) (λ_ _=>Z)) (pc (nE hu (pv 1) (pv 0) (λ_ _=>Z)) pN aS) aS)))))) (λ_ _ _ _=>(pv 0)))) (cA pN) (nM _))))))),?_⟩
 refine(eE (bA Z (jAAA (λu j=>j) (TyOf.tup I) Z (bA Z ?_))));refine iteBF Z ?_;refine(dB r (oI Z (.inr (hS (Same.refl _))) Z (iteBF Z ?_)));refine(bF (hS (Same.refl _)) eO (bL a' Z (dW aa (t'.ways.map (·.1)) a6 (wY a7) (by omega) (λl1 m1 ay ar am=>?_))));have s1:=zA ay (.lst (m1.map V.str));refine(aE (bL a Z (dW kw (t.ways.map (·.1)) (s1 _ _ ha) (wY aw) (by omega) (λl2 m2 af aq al=>?_))));obtain rfl:m2=m1:=B3 al am (aq.trans ((pw.map _).symm.trans ar.symm));have y:=s1.trans (zA af (.lst (m2.map V.str)));refine(cO l1 l2 (dY (m2.map D.str) ⟨Z,(aV (zC (zA af _ _ _ aC)) (zC aC) (oI (B9 _ _) (B9 _ _) (Iz _) (iteBF Z ?_)))⟩));generalize upd (upd H l1 (.lst (m2.map V.str))) l2 (.lst (m2.map V.str))=H2 at y⊢;refine(eD (jAAA Z (hS y) eO (bU (bU (bA Z (jAAA (λu j=>j) (TyOf.dK (y _ _ a6)) Z (bA Z (iteBF Z ?_))))))));refine(eD (jAAA Z (hS y) at1 (bU (bU (bA Z (jAAA (λu j=>j) (TyOf.dT (y _ _ a5)) Z (bA Z (iteBF Z ?_))))))));refine(bF (hS y) at1 (bL b' Z (dW ab (t'.places.map (·.1)) (y _ _ a5) (sU a8) (by omega) (λl3 z3 m3 ax ai ao ak=>?_))));have s3:=zA ax (.lst z3);refine(aE (bL b Z (dW kp (t.places.map (·.1)) (s3 _ _ (y _ _ hb)) (sU ap) (by omega) (λl4 z4 m4 av ah an aj=>?_))));obtain rfl:m4=m3:=B2 aj ak (an.trans ((pp.map _).symm.trans ao.symm));have s4:=zA av (.lst z4)
 refine(cO l3 l4 (dY (m4.map xN) ⟨Z,(aV (zC (s4 _ _ aC)) (zC aC) (oI ((Ba ai).same (s3.trans s4) _) ((Ba ah).same s4 _) (Ft _) (iteBF Z ?_)))⟩));have s5:=y.trans (s3.trans s4);generalize upd (upd H2 l3 (.lst z3)) l4 (.lst z4)=H5 at s5⊢;refine(aE (cT kw (s5 _ _ ha) (λo nz=>?_)));have kf:∀x u,H5 x=some u->x≠a->upd H5 a (.frz o (.dK kw)) x=some u:=λx u e ne=>by rw[aG ne];exact e
 have J:upd H5 a (.frz o (.dK kw)) a=some (.frz o (.dK kw)):=aC;generalize upd H5 a (.frz o (.dK kw))=Hf at kf J⊢;have tf:∀x us,H x=some (.tup us)->Hf x=some (.tup us):=λx us e=>kf x _ (s5 _ _ e) λz=>by rw[z,ha]at e;cases e
 have wl:=aw.length;have pl:=ap.length;refine Pp (λi σ M=>∃o3,σ=[some (.ref r),some (.ref a),some (.ref b),o3]/\Same Hf M) (bL none Z (Same.refl _)) (λi σ M _ h=>by obtain⟨_,_,sm⟩:=h;exact sm _ _ J) ?_ ?_
 ·rintro i kv σ H6 a4 ⟨o3,rfl,Y⟩
  obtain⟨e,he,hk,rv⟩:=aw.get a4;have me:=cZ he;obtain⟨v',a3,a1⟩:=wN a7 C.wn (pw.mem_iff.mpr me);obtain⟨v2,a2,a0⟩:=wN aw ok.wn me;have g6:∀x us,H x=some (.tup us)->H6 x=some (.tup us):=λx us e=>Y _ _ (tf _ _ e);rw[hk];refine(bF (zB (g6 _ _ I)) eO (aE (cT v' ?_ (dS (cT v2 ?_ (eW v' v2 (twD e.2) Z (a1.tups g6 _) (a0.tups g6 _) (Oy (ok.ws e me).2) (λH7 U=>(aM (iteBF Z ?_)))))))))
  ·rw[<- a3]
   exact DGet.k (k:=.inr e.1) (Y _ _ (kf _ _ (s5 _ _ a6) na))
  ·exact .inl (cX kw (.inr e.1) (.inr ⟨o,Y _ _ J⟩) ⟨Z,a2.symm⟩)
  ·exact(aM (Y.trans U))
 rintro σ H6 ⟨o3,rfl,Y⟩;refine(lZ a o kw (Y _ _ J) nz ?_)
 have U:Same H (upd H6 a (.dK kw)):=λx u e=>by
  by_cases z:x=a
  ·subst z
   rw[aC,<- ha,e]
  ·rw[aG z]
   exact Y _ _ (kf _ _ (s5 _ _ e) z)
 generalize upd H6 a (.dK kw)=H7 at U⊢;refine(aE (cT kp (U _ _ hb) (λo2 au=>?_)));have kg:∀x u,H7 x=some u->x≠b->upd H7 b (.frz o2 (.dT kp)) x=some u:=λx u e ne=>by rw[aG ne];exact e
 have p:upd H7 b (.frz o2 (.dT kp)) b=some (.frz o2 (.dT kp)):=aC;generalize upd H7 b (.frz o2 (.dT kp))=Hg at kg p⊢;have tg:∀x us,H x=some (.tup us)->Hg x=some (.tup us):=λx us e=>kg x _ (U _ _ e) λz=>by rw[z,hb]at e;cases e
 refine Tq (λi ys M=>Same Hg M/\ys=[]) ⟨Same.refl _,Z⟩ (cQ (by omega)) (λi ys M _ h=>h.1 _ _ p) ?_ ?_
 ·rintro i kv c ys H8 a4 hi ae hc ⟨O,rfl⟩
  obtain⟨e,he,hk,rv⟩:=ap.get a4;have me:=cZ he;obtain⟨v',a3,a1⟩:=wL a8 C.pn (pp.mem_iff.mpr me);obtain⟨v2,a2,a0⟩:=wL ap ok.pn me;have g8:∀x us,H x=some (.tup us)->H8 x=some (.tup us):=λx us e=>O _ _ (tg _ _ e);rw[hk]at hc;refine⟨Cm Z,?_⟩;refine(bF (zB (g8 _ _ I)) at1 (aE (cT v' ?_ (dS (cT v2 ?_ (eW v' v2 (oY e.2) Z (a1.tups g8 _) (a0.tups g8 _) (Ob (ok.ps e me).2.2) (λH9 s9=>(aM (iteBF Z ?_)))))))))
  ·rw[<- a3]
   exact DGet.t (k:=kP e.1) (O _ _ (kg _ _ (U _ _ a5) nb)) hc
  ·exact .inr (bG kp (kP e.1) (bL c (.inr ⟨o2,O _ _ p⟩) (bB hc a2.symm)))
  ·exact Cc hi ae ⟨O.trans s9,Z⟩
 ·rintro ys H8 ae ⟨O,rfl⟩ D hD
  have sD:=O.trans (zA hD (.lst []));refine(lZ b o2 kp (sD _ _ p) au ?_);have bD:D≠b:=λz=>by rw[z,O _ _ p]at hD;cases hD
  have s9:Same H (upd (upd H8 D (.lst [])) b (.dT kp)):=λx u e=>by
   by_cases z:x=b
   ·subst z
    rw[aC,<- hb,e]
   ·rw[aG z]
    exact sD _ _ (kg _ _ (U _ _ e) z)
  have ag:upd (upd H8 D (.lst [])) b (.dT kp) D=some (.lst []):=by rw[aG bD];exact aC
  generalize upd (upd H8 D (.lst [])) b (.dT kp)=H9 at s9 ag⊢;refine⟨(by walk_at"s"),λl hl=>?_⟩;have a9:=zA hl (.lst []);exact(bG D l ⟨[],Z,(aV (zC (a9 _ _ ag)) (zC aC) (q _ (s9.trans a9)))⟩)
def zI:Sp:=λvs H Q _=>∃(a b:Addr) (t:Td),vs=[.ref a,.ref b]/\TdAt H a b t/\TdOk t/\∀H',Same H H'->Q (.bl true) H'
def spLaw(K:Fg):Sp:=λvs H Q _=>∃(a:Addr) (ns:List Int),vs=[.ref a]/\SqL K H a (ns.map V.int)/\ns.length<=63/\∀H',Q (.bl true) H'
def Bn:Td:=⟨[],[]⟩
def Nf:TdOk Bn:=⟨qR _,qR _,List.nodup_nil,List.nodup_nil,(λ_ h=>nomatch h),(λ_ h=>nomatch h)⟩
def Ol(D:DefXs P w K a base n "read_told" qaa sY):DefIs P w K a base n "read_told" qaa sY:=D.is λvs H Q E h=>h
def Ti (T:Tx K mg) (g:DefIs P w K mg base n "_law_told_lines" qah Bj) (c:DefIs P w K mg base n "_law_drawn_lines" qah Bg) (j:DefIs P w K mg base n "told_shown" qay zW) (y:DefIs P w K mg base n "read_told" qaa sY) (l:DefIs P w K mg base n "_law_dicts" qa1 yY) :
  DefIs P w K mg base (n+1) "_law_right" qah zI:=by
 refine DefIs.of T.k9 scl_right (by walk_at"l") (λf al A outer s H vs Q E hr h=>?_);obtain⟨a,b,t,rfl,I,ok,q⟩:=h;have nd:=scl_right.nd;obtain⟨t',C⟩:=O5 t;have a5:=C.ok ok
 refine⟨_,(aF (bI (i:=2) nd Z (by first |exact Or.inl Z |exact Or.inr rfl) (dJ PySem.F.plainAttrs_str PySem.F.slot_str_join PySem.F.type_str_join gZ pS (pc (pd g hr (pc (pv 0) (pc (pv 1) pN aA) aA)) pN aZ)))
   (aF (bM (pR pX (pd j hr (pc (pv 0) (pc (pv 1) pN aA) aA)) (pv 2) (nM _)) (aH (aO iS)) pQ)
   (aF (gX zF Z (iW (cG (pc (pv 2) (pc (dJ PySem.F.plainAttrs_str PySem.F.slot_str_join PySem.F.type_str_join gZ pS (pc (pd c hr (pc (pv 0) (pc (pv 1) pN aA) aA)) pN aZ)) pN aZ) aA))) (bS (i:=3) nd Z (by first |exact Or.inl Z |exact Or.inr rfl))
   (aF (bI (i:=4) nd Z (by first |exact Or.inl Z |exact Or.inr rfl) (pd y hr (pc (pv 3) pN aA)))
   (aF (bM (mB (fO (pd l hr (pc (pv 4) (pc (pv 0) (pc (pv 1) pN aA) aA) aA)))) (aH (aO iS)) pQ)
   (aF (cI (Sw (aL bO (pv 4) aB (λ_ _=>Z))))
   (aH (cI (V1 (aL bO (pv 4) aB (λ_ _=>Z)))))))))
   (aH (aO iS))))),?_⟩
 refine(eS Z (dO a b t t' Z I ok C (λl1 H1 s1 ah=>(eW (S "\n") l1 (t'.lns.map Tl.line) Z Z (zC ah) (Td.sum a5) ?_))));refine(aE (dO a b t t' Z (I.same s1) ok C (λH2 s2=>?_)));refine⟨_,Z,Z,_,Z,iteBF ?_ ?_⟩
 ·rw[show Td.text t'=Txt.join (S "\n") (t'.lns.map Tl.line) from Z,cM Z];rfl
 have a3:=s1.trans s2;refine(aE (eS Z (gC a b t Z (I.same a3) ok (λl3 H3 s3 ag=>(eW (S "\n") l3 (t.lns.map Tl.line) Z Z (zC ag) (Td.sum ok) ⟨(by walk_at"s"),λtp af=>(bH tp Z ⟨_,zB aC⟩ ?_)⟩)))));have J:=a3.trans (s3.trans (zA af (.tup [.str t'.text,.str t.text])));have O:upd H3 tp (.tup [.str t'.text,.str t.text]) tp=some (.tup [.str t'.text,.str t.text]):=aC;have e0:upd H3 tp (.tup [.str (Txt.join (S "\n") (t'.lns.map Tl.line)),.str (Txt.join (S "\n") (t.lns.map Tl.line))])=upd H3 tp (.tup [.str t'.text,.str t.text]):=Z;rw[e0];generalize upd H3 tp (.tup [.str t'.text,.str t.text])=H4 at J O⊢;refine zS (xs:=[.str t'.text,.str t.text]) (λi σ H'=>∃o3 o4,σ=[some (.ref a),some (.ref b),some (.str t'.text),o3,o4]/\Same H4 H') (cX none none Z (Same.refl _)) (λi σ H' _ p=>by obtain⟨_,_,_,sm⟩:=p;exact zB (sm _ _ O)) ?_ ?_
 ·rintro i v σ H5 Y ⟨o3,o4,rfl,s5⟩
  have ae:∃u,v=.str u.text/\TdOk u/\u.ways.Perm t.ways/\u.places.Perm t.places:=by
   match i,Y with
   |0,Y=>cases Y;exact(bL t' Z (jAA a5 C.wp C.pp))
   |1,Y=>cases Y;exact(bL t Z (jAA ok (.refl _) (.refl _)))
   |i+2,Y=>simp at Y
  obtain⟨u,rfl,a4,pw,pp⟩:=ae;refine(oJ u Z a4 (λr U b' H6 s6 na nb a7 a2=>?_));have aa:=s5.trans s6;have ak:=I.same (J.trans aa);have a9:=I.same (J.trans s5)
  have ac:U≠a:=λz=>by
   obtain⟨⟨_,e,_⟩,_⟩:=a9;rw[<- z,na]at e;cases e
  have ab:b'≠b:=λz=>by
   obtain⟨_,_,e,_⟩:=a9;rw[<- z,nb]at e;cases e
  refine(aE (nQ r U b' a (bG b u (iM t a7 a2 ak a4 ok (fM pw pp ac ab (λH7 s7=>(aM (iteBF Z ?_))))))));obtain⟨⟨kw,aj,_⟩,kp,ai,_⟩:=a2;have a1:=s7 _ _ aj;have a0:=s7 _ _ ai;have M:=s7 _ _ a7;refine(bF (zB M) eO (cT kw a1 ?_));have ba:b'≠U:=λz=>by rw[z,a1]at a0;cases a0
  have a6:upd H7 U (.dK []) r=some (.tup [.ref U,.ref b']):=by
   rw[aG λz=>by rw[z,a1]at M;cases M];exact M
  have a8:upd H7 U (.dK []) b'=some (.dT kp):=by rw[aG ba];exact a0
  have s8:Same H5 (upd H7 U (.dK [])):=λx o e=>by
   rw[aG (bN e na)];exact s7 _ _ (s6 _ _ e)
  generalize upd H7 U (.dK [])=H8 at a6 a8 s8⊢;refine(bF (zB a6) at1 (cT kp a8 ?_));refine⟨_,(aM (s5.trans λx o e=>?_))⟩;rw[aG (bN e nb)];exact s8 _ _ e
 ·rintro σ H5 ⟨o3,o4,rfl,s5⟩
  exact q _ (J.trans s5)
def N9 (T:Tx K mg) (l:DefIs P w K mg base n "_law_feed" qat (vR K)) (g:DefIs P w K mg base n "_law_name" qaj yZ) (c:DefIs P w K mg base n "_law_told" qa0 (yG K)) (e:DefIs P w K mg base n "_law_right" qah zI) :
  DefIs P w K mg base (n+1) "law" ["_law_script"] (spLaw K):=by
 refine DefIs.of T.uA sc_law (by walk_at"l") (λf ar A outer s H vs Q E hr h=>?_);obtain⟨a,ns,rfl,hS,a7,k⟩:=h;have nd:=sc_law.nd
 refine⟨_,(aF (bI (i:=1) nd Z (by first |exact Or.inl Z |exact Or.inr Z) (pd l hr (pc (pv 0) (pc aB pN so) aA)))
   (aF (mJ (i:=2) ["_law_k","_law_names"] [none,some 1] Z (by kernel_rfl) nd Z (by first |exact Or.inl Z |exact Or.inr rfl) (oR Z T.uU (pc aB pN so)) (λ_ _ _ _=>(bS (i:=0) (by show List.Nodup (["_law_k","_law_names"]:List Str);decide +kernel) Z (Or.inl Z))) (λ_ _ _ _=>eN) (λ_ _ _ _=>(pd g hr (pc (pv 1) pN aA))))
   (aF (bI (i:=3) nd Z (by first |exact Or.inl Z |exact Or.inr rfl) (pd c hr (pc (pv 0) (pc aB (pc (pv 2) pN aA) so) aA)))
   (aF (bI (i:=4) nd Z (by first |exact Or.inl Z |exact Or.inr rfl) (pd c hr (pc (pv 0) (pc aB (pc (pv 2) pN aA) so) aA)))
   (aF (gX zF Z (iW (cG (pc (pv 3) (pc (pv 4) (pc (pv 3) (pc (cG (pc Aa (pc Ab pN Ib) Ib)) pN sT) aA) aA) aA))) (oE Z (dN (bS (i:=5) nd Z (by first |exact Or.inl Z |exact Or.inr rfl)) (dN (bS (i:=6) nd Z (by first |exact Or.inl Z |exact Or.inr rfl)) iI)))
   (aH (bM (mB (fO (pd e hr (pc (pv 5) (pc (pv 6) pN aA) aA)))) (aH (aO iS)) pQ)))
   (aH (aO iS))))))),?_⟩
 refine(eM a ns 1 (fN hS a7 (by decide) (λr1 p1 q1 n1=>?_)));have s1:=zA n1 (.lst [.int p1,.int q1]);have f1:(upd H r1 (.lst [.int p1,.int q1])) r1=some (.lst [.int p1,.int q1]):=aC;refine(lV Z (by decide) (by decide) ?_);refine Au (j:=0) (λi ys H'=>Fed r1 (upd H r1 (.lst [.int p1,.int q1])) H'/\∃zs:List Str,ys=zs.map V.str/\∀z∈zs,Name z) (by rfl) (jAEA (Fed.refl f1) ([]) Z (λ_ h=>nomatch h)) (cQ (by decide)) ?_ ?_
 ·rintro i ys H2 hi hl ⟨g2,zs,rfl,hz⟩
  obtain⟨p2,q2,h2⟩:=g2.2;refine(eM r1 p2 q2 (bB h2 (λx H3 hx g3=>hZ hi hl (jAEA (g2.trans g3) (zs++[x]) (by simp) (λz u=>?_)))));rcases eA u with u |u
  ·exact hz z u
  ·rw[eG u];exact hx
 rintro ys H2 hl ⟨g2,zs,rfl,hz⟩ b hb;have ac:Same H H2:=Fed.back n1 s1 g2;have sb:=zA hb (.lst (zs.map V.str));have s2:=ac.trans sb;have h8:zs.length=8:=by rw[aR]at hl;exact hl
 have a6:(upd H2 b (.lst (zs.map V.str))) b=some (.lst (zs.map V.str)):=aC;generalize upd H2 b (.lst (zs.map V.str))=H3 at sb s2 a6⊢;refine(nQ a b ns 2 (oO zs (s2.seq hS) a7 (by decide) a6 h8 hz (λx1 a1 b1 t1 H4 s4 aj at1 ab=>?_)));have ae:=s2.trans s4;refine(nQ a b ns 4 (oO zs (ae.seq hS) a7 (by decide) (s4 _ _ a6) h8 hz (λY a2 b2 t2 H5 s5 ai at2 ag=>?_)));refine(aE (dS (λM ao J an=>⟨(by walk_at"s"),λI am=>⟨(by walk_at"s"),λtp al=>(eB ⟨_,zB aC⟩ ?_)⟩⟩)));have z1:=zA ao (.dK []);have z2:=zA an (.dT []);have z3:=zA am (.tup [.ref M,.ref J]);have z4:=zA al (.tup [.ref x1,.ref Y,.ref x1,.ref I]);have a8:=z3.trans z4;have a9:=z2.trans a8;have U:=z1.trans a9;have a4:upd (upd (upd (upd H5 M (.dK [])) J (.dT [])) I (.tup [.ref M,.ref J])) tp (.tup [.ref x1,.ref Y,.ref x1,.ref I]) tp=some (.tup [.ref x1,.ref Y,.ref x1,.ref I]):=aC;have a5:=z4 _ _ (aC (H:=upd (upd H5 M (.dK [])) J (.dT [])) (a:=I) (o:=.tup [.ref M,.ref J]));have a0:TdAt (upd (upd (upd (upd H5 M (.dK [])) J (.dT [])) I (.tup [.ref M,.ref J])) tp (.tup [.ref x1,.ref Y,.ref x1,.ref I])) M J Bn:=⟨(bL ([]) (a9 _ _ aC) (.nil)),(bL ([]) (a8 _ _ aC) (.nil))⟩;have O:=at1.same (s5.trans U);have at26:=at2.same U;have y:=(s5.trans U) _ _ aj;have a3:=U _ _ ai;generalize upd (upd (upd (upd H5 M (.dK [])) J (.dT [])) I (.tup [.ref M,.ref J])) tp (.tup [.ref x1,.ref Y,.ref x1,.ref I])=H6 at a4 a5 a0 O at26 y a3⊢
 refine zS (xs:=[.ref x1,.ref Y,.ref x1,.ref I]) (λi σ H'=>∃o5 o6,σ=[some (.ref a),some (.ref r1),some (.ref b),some (.ref x1),some (.ref Y),o5,o6]/\Same H6 H') (cX none none Z (Same.refl _)) (λi σ H' _ p=>?_) ?_ ?_
 ·obtain⟨_,_,_,r⟩:=p
  exact zB (r _ _ a4)
 ·rintro i v σ H7 C ⟨o5,o6,rfl,r⟩
  have ak:∃x aa bb tt,v=.ref x/\H7 x=some (.tup [.ref aa,.ref bb])/\TdAt H7 aa bb tt/\TdOk tt:=by
   match i,C with
   |0,C=>cases C;exact(bG x1 a1 (bG b1 t1 (aV (r _ _ y) (O.same r) ab)))
   |1,C=>cases C;exact(bG Y a2 (bG b2 t2 (aV (r _ _ a3) (at26.same r) ag)))
   |2,C=>cases C;exact(bG x1 a1 (bG b1 t1 (aV (r _ _ y) (O.same r) ab)))
   |3,C=>cases C;exact(bG I M (bG J Bn (aV (r _ _ a5) (a0.same r) Nf)))
   |i+4,C=>simp at C
  obtain⟨x,aa,bb,tt,rfl,ah,aq,af⟩:=ak;refine(gA (zB ah) Z (bU (dZ (eB Z ?_))));refine(aE (gC aa bb tt Z aq af (λH8 s8=>(aM (iteBF Z ?_)))));exact⟨_,(aM (r.trans s8))⟩
 ·rintro σ H7 ⟨o5,o6,rfl,r⟩
  exact k H7
def law_is(T:Tx K a):DefIs P w K a base 30 "law" ["_law_script"] (spLaw K):=by
 have g:∀k,DefIs P w K a base (k+1) "_law_feed" qat (vR K):=λk=>Qc T;have take:∀k,DefIs P w K a base (k+1) "_law_take" qai mC:=λk=>Qg T;have name:∀k,DefIs P w K a base (k+2) "_law_name" qaj yZ:=λk=>Qe T (take k);have j:∀k,DefIs P w K a base (k+2) "_law_whole" qaj A1:=λk=>Tj T (take k);have c:∀k,DefIs P w K a base (k+2) "_law_some" qad rH:=λk=>Qf T (take k);have leaf:∀k,DefIs P w K a base (k+3) "_law_leaf" qad vS:=λk=>Qd T (take (k+1)) (j k) (c k)
 have l:∀m:Nat,DefIs P w K a base (m+4) "_law_term" qan (qQ m):=by
  intro m
  induction m with
  |zero=>exact Gs (n:=3) T (λ_ _ _ _=>False) (take 2) (leaf 0) (Ir (c 1)) (DefIs.none T.kQ λ_ _ _ _ h=>h) (λk e=>by cases e)
  |succ m ih=>exact Gs (n:=m+4) T (qQ m) (take (m+3)) (leaf (m+1)) (Ir (c (m+2))) ih (λk e=>by cases e;rfl)
 have z:DefIs P w K a base 11 "_law_term" qan A0:=DefIs.any (N:=7) (sps:=qQ) λm hm=>(l m).mono (by omega);have way:DefIs P w K a base 12 "_law_way" qaz xS:=P9 (n:=11) T (take 10) (c 9) z;have told:DefIs P w K a base 13 "_law_told" qa0 (yG K):=Qh (n:=12) T (g 11) (take 11) (c 10) (z.mono (by omega)) way;have x:DefIs P w K a base 9 "_law_way_line" qal oS:=Wi (n:=8) T (Ay T 7 (by omega));have pl:DefIs P w K a base 9 "_law_place_lines" qau oV:=X3 (n:=8) T (Ay T 7 (by omega));have I:DefIs P w K a base 10 "_law_told_lines" qah Bj:=Wz (n:=9) T x pl;have dl:DefIs P w K a base 10 "_law_drawn_lines" qah Bg:=X2 (n:=9) T x pl;have wt:DefIs P w K a base 24 "way_text" ["K","way"] oS:=Vh (n:=23) T (U9 T) (yL T 7 (by omega)) (Be T);have pt:DefIs P w K a base 24 "place_texts" qam oV:=Wy (n:=23) T (yL T 7 (by omega));have O:DefIs P w K a base 25 "told_shown" qay zW:=Wl (n:=24) T wt pt;have made:∀k,DefIs P w K a base (k+1) "is_made_of" qak qL:=λk=>Bl T;have f:∀k,DefIs P w K a base (k+2) "is_name" qaa qP:=λk=>B6 T (made k);have b:∀k,DefIs P w K a base (k+1) "need" qac eV:=λk=>vY T;have o:∀k,DefIs P w K a base (k+3) "name_from" qab iY:=λk=>Bf T (b (k+1)) (f k);have Y:∀k,DefIs P w K a base (k+4) "kind_from" ["word"] Bb:=λk=>We T (b (k+2)) (U8 T (f k));have cb:∀k,DefIs P w K a base (k+2) "close_brackets" qas wD:=λk=>Jx T (b k);have U:∀k,DefIs P w K a base (k+3) "put_word" qar vL:=λk=>Jd T (b (k+1)) (cb k)
 have C:∀k,DefIs P w K a base (k+4) "trees_of" qaa sV:=λk=>Je T (b (k+2)) (U k);have M:DefIs P w K a base 21 "tag_from" qab B1:=Vg (n:=20) T (b 19) (o 17) (yE T 7 (by omega));have J:DefIs P w K a base 22 "tags_in" qaa Ad:=Uc (n:=21) T (b 20) (C 17) M;have y:DefIs P w K a base 22 "term_with" qao (sZ K 7):=(Wa T (m:=7) (by omega)).mono (by omega);have p:DefIs P w K a base 23 "put_way" qag (Ac K):=Ua (n:=22) T (b 21) (o 19) (Y 18) y J;have u:DefIs P w K a base 23 "put_place" qag (Bc K):=Wf (n:=22) T (b 21) (o 19);have r:DefIs P w K a base 24 "put_told" qag (B0 K):=Vf (n:=23) T (b 22) (o 20) (y.mono (by omega)) p u;have rd:DefXs P w K a base 25 "read_told" qaa sY:=Wg (n:=23) T (Qa T) (Qb T) (Ub T) r.xs;have di:DefIs P w K a base 25 "_law_dicts" qa1 yY:=Th (n:=24) T (Tg T);have rt:DefIs P w K a base 29 "_law_right" qah zI:=Ti (n:=28) T (I.mono (by omega)) (dl.mono (by omega)) (O.mono (by omega)) ((Ol rd).mono (by omega)) (di.mono (by omega));exact N9 (n:=29) T (g 28) (name 27) (told.mono (by omega)) rt
end
end K84
end
end
namespace PySem.W.Fast
def tw6403935642075791813:0=0:=Z
def tw6913640982723407990:0=0:=Z
def tw6109984046726381888:0=0:=Z
def tw270153784341172045:0=0:=Z
def tw6685639233376224820:0=0:=Z
def tw4117230403137880881:0=0:=Z
def tw15262842410672104769:0=0:=Z
def tw5322745245414002596:0=0:=Z
def tw17689991946059715019:0=0:=Z
def tw5205894475049693016:0=0:=Z
def tw15412956662256106987:0=0:=Z
def tw13061370437277134290:0=0:=Z
def tw3114660571851231217:0=0:=Z
def tw13729671967950726021:0=0:=Z
def tw9075962248583750063:0=0:=Z
def tw13326234180752097076:0=0:=Z
def tw3772934577471429211:0=0:=Z
def tw3633286069054435257:0=0:=Z
def tw6426909417625163393:0=0:=Z
def tw15164737555967881796:0=0:=Z
def tw2815849359285145962:0=0:=Z
def tw8944444864078134852:0=0:=Z
def tw5636782801201218863:0=0:=Z
def tw13231739701894629124:0=0:=Z
def tw1592868344899372045:0=0:=Z
def tw1293017893678770118:0=0:=Z
def tw7817411360007264383:0=0:=Z
def tw3673121500580537872:0=0:=Z
def tw12865284086065842404:0=0:=Z
def tw4689291694963827602:0=0:=Z
def tw764146980615590309:0=0:=Z
def tw12376565907926307349:0=0:=Z
def tw17360351377237090399:0=0:=Z
def tw11452107168620063665:0=0:=Z
def tw4705292314112183781:0=0:=Z
def tw9296522636750295995:0=0:=Z
def tw7502246514461326912:0=0:=Z
def tw12583462951357732625:0=0:=Z
def tw14206955691719488366:0=0:=Z
def tw10783568969948386167:0=0:=Z
def tw16332470172428948141:0=0:=Z
def tw16472665656221543000:0=0:=Z
def tw1242650691836586016:0=0:=Z
def tw3968288632175803176:0=0:=Z
def tw1619975491630485877:0=0:=Z
def tw3052799938991374981:0=0:=Z
def tw15660890282760795553:0=0:=Z
def tw18323378938606808368:0=0:=Z
def tw12894119078004087176:0=0:=Z
def tw8864500784890732154:0=0:=Z
def tw622691908517106001:0=0:=Z
def tw5663251878356352776:0=0:=Z
def tw1606379774777733278:0=0:=Z
def tw18006273754726244130:0=0:=Z
def tw5872876125590146634:0=0:=Z
def tw11635215435034127307:0=0:=Z
def tw8247911958153728414:0=0:=Z
def tw9547302068043005290:0=0:=Z
def tw16351635888018964203:0=0:=Z
def tw8361396553582489168:0=0:=Z
def tw2324277987633654293:0=0:=Z
def tw9539878632522635929:0=0:=Z
def tw2266236942731879620:0=0:=Z
def tw16347652656543442094:0=0:=Z
def tw7213992733110193439:0=0:=Z
def tw8785987367625917894:0=0:=Z
def tw4187689102785440094:0=0:=Z
def tw13708459308454139455:0=0:=Z
def tw4609027196333674449:0=0:=Z
def tw6342140993275425742:0=0:=Z
def tw5102074425218148085:0=0:=Z
def tw12924944338259265767:0=0:=Z
def tw4814287472845407955:0=0:=Z
def tw7100386498755554857:0=0:=Z
def tw4456604861251637992:0=0:=Z
def tw863043231475263580:0=0:=Z
def tw14217270562473160450:0=0:=Z
def tw14909028787205405206:0=0:=Z
def tw17998953575914316836:0=0:=Z
def tw5385155250242450859:0=0:=Z
def tw13971560435791440090:0=0:=Z
def tw4205486289796398230:0=0:=Z
def tw12335495551567629337:0=0:=Z
def tw10777349861088437216:0=0:=Z
def tw6647033643033970456:0=0:=Z
def tw14189752385717322518:0=0:=Z
def tw11599257751172707305:0=0:=Z
def tw7704833327369999076:0=0:=Z
def tw3743555316448068904:0=0:=Z
def tw7564367288411364095:0=0:=Z
def tw16966574927358504907:0=0:=Z
def tw15072503917130375430:0=0:=Z
def tw12792841723704835392:0=0:=Z
def tw9150457163252017225:0=0:=Z
def tw387660565481068068:0=0:=Z
def tw17063332114455911683:0=0:=Z
def tw7638457781671058177:0=0:=Z
def tw13473577179878837761:0=0:=Z
def tw11942600123083355525:0=0:=Z
def tw8953135107442687523:0=0:=Z
def tw3271057384133492281:0=0:=Z
def tw13380740519137101955:0=0:=Z
def tw14117282561357944004:0=0:=Z
def tw14311908921583121721:0=0:=Z
def tw7176312203147053495:0=0:=Z
def tw11343189786942698053:0=0:=Z
def tw16774144413219792298:0=0:=Z
def tw7132891163994486425:0=0:=Z
def tw14530221831079069697:0=0:=Z
def tw4445751097393673883:0=0:=Z
def tw9694177184740403299:0=0:=Z
def tw5297345723072931789:0=0:=Z
def tw14663101877775140504:0=0:=Z
def tw14365433407137015935:0=0:=Z
def tw15966137083667444227:0=0:=Z
def tw10142603107196375194:0=0:=Z
def tw2947160980466835917:0=0:=Z
def tw15828874354117434954:0=0:=Z
def tw2111144606120318401:0=0:=Z
def tw15178121222542842193:0=0:=Z
def tw9884960042550290546:0=0:=Z
def tw1508645746138308347:0=0:=Z
def tw14532431324146595931:0=0:=Z
def tw16018947454571670353:0=0:=Z
def tw7180055868969682130:0=0:=Z
def tw13874153250492765486:0=0:=Z
def tw451030430121795661:0=0:=Z
def tw12284069162675099416:0=0:=Z
def tw10200094030372736921:0=0:=Z
def tw4537239800809826318:0=0:=Z
def tw11338195715794003524:0=0:=Z
def tw4311650568480538590:0=0:=Z
def tw5864496780465211936:0=0:=Z
def tw10166833981473514899:0=0:=Z
def tw9517192620394893024:0=0:=Z
def tw1820676826549666158:0=0:=Z
def tw18238707480046742899:0=0:=Z
def tw8068063847707377446:0=0:=Z
def tw7153792970545632300:0=0:=Z
def tw797132429996922244:0=0:=Z
def tw6469723725807841105:0=0:=Z
def tw8600904744235729182:0=0:=Z
def tw17760826339043844338:0=0:=Z
def tw12408450840099715294:0=0:=Z
def tw17269466135423339751:0=0:=Z
def tw8993721845377536451:0=0:=Z
def tw12060857412183661241:0=0:=Z
def tw1882095721471606858:0=0:=Z
def tw7665762848771994517:0=0:=Z
def tw16797427292118999595:0=0:=Z
def tw14889094647965868101:0=0:=Z
def tw5011844615069842627:0=0:=Z
def tw5589694348218745317:0=0:=Z
def tw8241004398240070016:0=0:=Z
def tw2910495597256979849:0=0:=Z
def tw3709119392668231863:0=0:=Z
def tw1966613063504295161:0=0:=Z
def tw3990175308064359309:0=0:=Z
def tw4882092605973362802:0=0:=Z
def tw7673526258660011869:0=0:=Z
def tw4304513437527029895:0=0:=Z
def tw7169482953327769924:0=0:=Z
def tw15741817323526664293:0=0:=Z
def tw16550401632070070534:0=0:=Z
def tw2412301230744904170:0=0:=Z
def tw13892985611887083175:0=0:=Z
def tw17370269970016716011:0=0:=Z
def tw11259596973710932880:0=0:=Z
def tw7233902600259244533:0=0:=Z
def tw144771365413405282:0=0:=Z
def tw14495726938014773891:0=0:=Z
def tw2546791264919080675:0=0:=Z
def tw4856304640926115083:0=0:=Z
def tw5657642825552640317:0=0:=Z
def tw5410510907048854613:0=0:=Z
def tw8413274689197968889:0=0:=Z
def tw17834955228771607634:0=0:=Z
def tw15211516999373957415:0=0:=Z
def tw12658946697842308817:0=0:=Z
def tw13381676481604366287:0=0:=Z
def tw7748545303546928518:0=0:=Z
def tw17126211232586459110:0=0:=Z
def tw851178306193926681:0=0:=Z
def tw7558381607376761941:0=0:=Z
def tw5030427802284098064:0=0:=Z
def tw9382687949564459778:0=0:=Z
def tw7278396142110197177:0=0:=Z
def tw5480092481105231504:0=0:=Z
def tw1103382139740539032:0=0:=Z
def tw3804004617460371652:0=0:=Z
def tw15778228663706109224:0=0:=Z
def tw14912877953556933284:0=0:=Z
def tw18385522883211079910:0=0:=Z
def tw18362463463267186681:0=0:=Z
def tw8470584170422761106:0=0:=Z
def tw13435362699734786706:0=0:=Z
def tw9567913728940046247:0=0:=Z
def tw2139245498217333922:0=0:=Z
def tw5700086539546603064:0=0:=Z
def tw9615798323507190672:0=0:=Z
def tw15201025620189898501:0=0:=Z
def tw10557671035507611329:0=0:=Z
def tw10915265375772665554:0=0:=Z
def tw18079918266523344947:0=0:=Z
def tw10749882670694968917:0=0:=Z
def tw14999298584296241795:0=0:=Z
def tw555593063783437661:0=0:=Z
def tw14052948485058400733:0=0:=Z
def tw15844594834125002163:0=0:=Z
def tw3886618533583784098:0=0:=Z
def tw18250874136050332489:0=0:=Z
def tw9443401734251392254:0=0:=Z
def tw3002587277665509169:0=0:=Z
def tw8522485701568978775:0=0:=Z
def tw8357001530281859272:0=0:=Z
def tw3103060112846174205:0=0:=Z
def tw1826081230636596452:0=0:=Z
def tw17534725330215581189:0=0:=Z
def tw6078296041401291022:0=0:=Z
def tw7241498107851778612:0=0:=Z
def tw840473137753905400:0=0:=Z
def tw6091112562094033889:0=0:=Z
def tw3827829270473822041:0=0:=Z
def tw10508344509731152837:0=0:=Z
def tw3350483842403044239:0=0:=Z
end PySem.W.Fast
open PySem PySem.W PyProof.Rows
set_option maxRecDepth 100000 in
set_option maxHeartbeats 0 in
theorem PySem.Challenge.cw_swapstride_k84_whole_told_ways_written_a_holds : PySem.Challenge.rw_swapstride_k84_whole_told_ways_written_a.Holds := by
 w_on;o_law;k_head;(case hw=>w_witness2)
 k_fill
 refine L2.walk_of (l:=PySem.Challenge.rw_swapstride_k84_whole_told_ways_written_a) (n:=63) (k:=30) (x:="_law_script") (CX:=λ_=>L2.CX0) (sp:=λ_=>K84.spLaw _) rfl (by decide) rfl ⟨rfl,by decide,by decide⟩ (λw h Y=>PySem.W.kIn_of Y) ?F (λ_ _ a ns hl _ hS=>⟨a,ns,rfl,hS,hl,λ_=>rfl⟩) λ_ _ _ _ _ z=>z
 case F=>
  intro w mg fa h KX G hmg
  have jA:L2.DefTx (L2.KOf KX) mg "is_name" K84.s_is_name L2.qaa:=by
   walk_at"d"
  have jB:L2.DefTx (L2.KOf KX) mg "is_number" K84.s_is_number L2.qaa:=by
   walk_at"d"
  have jC:L2.DefTx (L2.KOf KX) mg "is_kind" K84.s_is_kind L2.qaa:=by
   walk_at"d"
  have jD:L2.DefTx (L2.KOf KX) mg "is_made_of" K84.s_is_made_of L2.qak:=by
   walk_at"d"
  have jE:L2.DefTx (L2.KOf KX) mg "term_text" K84.s_term_text L2.qae:=by
   walk_at"d"
  have jF:L2.DefTx (L2.KOf KX) mg "bracketed" K84.s_bracketed ["texts"]:=by
   walk_at"d"
  have jG:L2.DefTx (L2.KOf KX) mg "inner_texts" K84.s_inner_texts L2.qae:=by
   walk_at"d"
  have jH:L2.DefTx (L2.KOf KX) mg "term_texts" K84.s_term_texts ["terms"]:=by
   walk_at"d"
  have jI:L2.DefTx (L2.KOf KX) mg "arm_text" K84.s_arm_text ["arm"]:=by
   walk_at"d"
  have jJ:L2.DefTx (L2.KOf KX) mg "term_with" K84.s_term_with L2.qao:=by
   walk_at"d"
  have jK:L2.DefTx (L2.KOf KX) mg "need" K84.s_need L2.qac:=by
   walk_at"d"
  have jL:L2.DefTx (L2.KOf KX) mg "trees_of" K84.s_trees_of L2.qaa:=by
   walk_at"d"
  have jM:L2.DefTx (L2.KOf KX) mg "put_word" K84.s_put_word L2.qar:=by
   walk_at"d"
  have jN:L2.DefTx (L2.KOf KX) mg "close_brackets" K84.s_close_brackets L2.qas:=by
   walk_at"d"
  have jO:L2.DefTx (L2.KOf KX) mg "term_from" K84.s_term_from L2.qaf:=by
   walk_at"d"
  have jP:L2.DefTx (L2.KOf KX) mg "terms_from" K84.s_terms_from L2.qax:=by
   walk_at"d"
  have jQ:L2.DefTx (L2.KOf KX) mg "leaf_from" K84.s_leaf_from L2.qap:=by
   walk_at"d"
  have jR:L2.DefTx (L2.KOf KX) mg "name_from" K84.s_name_from L2.qab:=by
   walk_at"d"
  have jS:L2.DefTx (L2.KOf KX) mg "arm_from" K84.s_arm_from L2.qaf:=by
   walk_at"d"
  have jT:L2.DefTx (L2.KOf KX) mg "rows_in" K84.s_rows_in L2.qaa:=by
   walk_at"d"
  have jU:L2.DefTx (L2.KOf KX) mg "kind_from" K84.s_kind_from ["word"]:=by
   walk_at"d"
  have jV:L2.DefTx (L2.KOf KX) mg "is_term" K84.s_is_term ["how"]:=by
   walk_at"d"
  have jW:L2.DefTx (L2.KOf KX) mg "read_told" K84.s_read_told L2.qaa:=by
   walk_at"d"
  have jX:L2.DefTx (L2.KOf KX) mg "put_told" K84.s_put_told L2.qag:=by
   walk_at"d"
  have jY:L2.DefTx (L2.KOf KX) mg "put_way" K84.s_put_way L2.qag:=by
   walk_at"d"
  have jZ:L2.DefTx (L2.KOf KX) mg "tags_in" K84.s_tags_in L2.qaa:=by
   walk_at"d"
  have j7:L2.DefTx (L2.KOf KX) mg "tag_from" K84.s_tag_from L2.qab:=by
   walk_at"d"
  have j8:L2.DefTx (L2.KOf KX) mg "put_place" K84.s_put_place L2.qag:=by
   walk_at"d"
  have j9:L2.DefTx (L2.KOf KX) mg "told_shown" K84.s_told_shown L2.qay:=by
   walk_at"d"
  have kD:L2.DefTx (L2.KOf KX) mg "way_text" K84.s_way_text ["K","way"]:=by
   walk_at"d"
  have kF:L2.DefTx (L2.KOf KX) mg "place_texts" K84.s_place_texts L2.qam:=by
   walk_at"d"
  have kH:L2.DefTx (L2.KOf KX) mg "_law_feed" K84.sl_feed L2.qat:=by
   walk_at"d"
  have kI:L2.DefTx (L2.KOf KX) mg "_law_take" K84.sl_take L2.qai:=by
   walk_at"d"
  have kK:L2.DefTx (L2.KOf KX) mg "_law_name" K84.sl_name L2.qaj:=by
   walk_at"d"
  have kM:L2.DefTx (L2.KOf KX) mg "_law_whole" K84.sl_whole L2.qaj:=by
   walk_at"d"
  have kN:L2.DefTx (L2.KOf KX) mg "_law_some" K84.sl_some L2.qad:=by
   walk_at"d"
  have kO:L2.DefTx (L2.KOf KX) mg "_law_leaf" K84.sl_leaf L2.qad:=by
   walk_at"d"
  have kQ:L2.DefTx (L2.KOf KX) mg "_law_term" K84.sl_term L2.qan:=by
   walk_at"d"
  have kR:L2.DefTx (L2.KOf KX) mg "_law_text" K84.sl_text L2.qaq:=by
   walk_at"d"
  have kS:L2.DefTx (L2.KOf KX) mg "_law_way" K84.sl_way L2.qaz:=by
   walk_at"d"
  have kT:L2.DefTx (L2.KOf KX) mg "_law_told" K84.sl_told L2.qa0:=by
   walk_at"d"
  have kU:L2.DefTx (L2.KOf KX) mg "_law_way_line" K84.sl_way_line L2.qal:=by
   walk_at"d"
  have kW:L2.DefTx (L2.KOf KX) mg "_law_place_lines" K84.sl_place_lines L2.qau:=by
   walk_at"d"
  have kX:L2.DefTx (L2.KOf KX) mg "_law_told_lines" K84.sl_told_lines L2.qah:=by
   walk_at"d"
  have kY:L2.DefTx (L2.KOf KX) mg "_law_alike" K84.sl_alike L2.qa2:=by
   walk_at"d"
  have kZ:L2.DefTx (L2.KOf KX) mg "_law_dicts" K84.sl_dicts L2.qa1:=by
   walk_at"d"
  have k4:L2.DefTx (L2.KOf KX) mg "_law_drawn_lines" K84.sl_drawn_lines L2.qah:=by
   walk_at"d"
  have k9:L2.DefTx (L2.KOf KX) mg "_law_right" K84.sl_right L2.qah:=by
   walk_at"d"
  have uA:L2.DefTx (L2.KOf KX) mg "law" K84.s_law ["_law_script"]:=by
   walk_at"d"
  have uB:∃t,mg "LONGEST_NAME"=some (.int 6 t):=by
   refine' L2.gint_mk KX G ?a
   (case a=>k_is)
  have uC:∃t,mg "LONGEST_NUMBER"=some (.int 10 t):=by
   refine' L2.gint_mk KX G ?a
   (case a=>k_is)
  have uD:∃t,mg "DEEPEST"=some (.int 20 t):=by
   refine' L2.gint_mk KX G ?a
   (case a=>k_is)
  have uE:∃t,mg "MOST_ARMS"=some (.int 4 t):=by
   refine' L2.gint_mk KX G ?a
   (case a=>k_is)
  have uF:∃t,mg "MOST_TAGS"=some (.int 4 t):=by
   refine' L2.gint_mk KX G ?a
   (case a=>k_is)
  have uG:∃t,mg "LETTERS"=some (.str (PySem.Str.ofString "abcdefghijklmnopqrstuvwxyz") t):=by
   refine' L2.gstr_mk KX G ?a
   (case a=>k_is)
  have uH:∃t,mg "FIGURES"=some (.str (PySem.Str.ofString "0123456789") t):=by
   refine' L2.gstr_mk KX G ?a
   (case a=>k_is)
  have uI:∃a,mg "NO_NAMES"=some (.ref a)/\∀H,L2.SqT (L2.KOf KX) H a [.str (PySem.Str.ofString "num"),.str (PySem.Str.ofString "it")]:=by
   dsimp only[L2.KOf];refine' L2.gtup_mk KX G ?a ?l ?z ?r
   (case a=>k_is);(case l=>k_is);(case z=>decide)
   (case r=>exact(.cons ⟨_,rfl⟩ (.cons ⟨_,rfl⟩ .nil)))
  have uJ:∃a,mg "OPS"=some (.ref a)/\∀H,L2.SqT (L2.KOf KX) H a [.str (PySem.Str.ofString "+"),.str (PySem.Str.ofString "-"),.str (PySem.Str.ofString "*"),.str (PySem.Str.ofString "<"),.str (PySem.Str.ofString "=")]:=by
   dsimp only[L2.KOf];refine' L2.gtup_mk KX G ?a ?l ?z ?r
   (case a=>k_is);(case l=>k_is);(case z=>decide)
   (case r=>exact(.cons ⟨_,rfl⟩ (.cons ⟨_,rfl⟩ (.cons ⟨_,rfl⟩ (.cons ⟨_,rfl⟩ (.cons ⟨_,rfl⟩ .nil))))))
  have uK:∃a,mg "IT"=some (.ref a)/\∀H,L2.SqT (L2.KOf KX) H a [.str (PySem.Str.ofString "it")]:=by
   dsimp only[L2.KOf];refine' L2.gtup_mk KX G ?a ?l ?z ?r
   (case a=>k_is);(case l=>k_is);(case z=>decide)
   (case r=>exact(.cons ⟨_,rfl⟩ .nil))
  have uL:mg "all"=none:=by
   refine' PySem.W.mg_none_of KX G ?a
   (case a=>k_is)
  have uM:mg "bool"=none:=by
   refine' PySem.W.mg_none_of KX G ?a
   (case a=>k_is)
  have uN:mg "dict"=none:=by
   refine' PySem.W.mg_none_of KX G ?a
   (case a=>k_is)
  have uO:mg "enumerate"=none:=by
   refine' PySem.W.mg_none_of KX G ?a
   (case a=>k_is)
  have uP:mg "int"=none:=by
   refine' PySem.W.mg_none_of KX G ?a
   (case a=>k_is)
  have uQ:mg "isinstance"=none:=by
   refine' PySem.W.mg_none_of KX G ?a
   (case a=>k_is)
  have uR:mg "len"=none:=by
   refine' PySem.W.mg_none_of KX G ?a
   (case a=>k_is)
  have uS:mg "list"=none:=by
   refine' PySem.W.mg_none_of KX G ?a
   (case a=>k_is)
  have uT:mg "max"=none:=by
   refine' PySem.W.mg_none_of KX G ?a
   (case a=>k_is)
  have uU:mg "range"=none:=by
   refine' PySem.W.mg_none_of KX G ?a
   (case a=>k_is)
  have uV:mg "sorted"=none:=by
   refine' PySem.W.mg_none_of KX G ?a
   (case a=>k_is)
  have uW:mg "str"=none:=by
   refine' PySem.W.mg_none_of KX G ?a
   (case a=>k_is)
  have uX:mg "tuple"=none:=by
   refine' PySem.W.mg_none_of KX G ?a
   (case a=>k_is)
  have uY:mg "zip"=none:=by
   refine' PySem.W.mg_none_of KX G ?a
   (case a=>k_is)
  have uZ:mg "BadText"=some (.ref (L2.cAt (L2.KOf KX) 0)):=by
   refine' PySem.W.mg_of KX G ?a
   (case a=>kernel_rfl)
  have u4:mg "SwapError"=some (.ref (L2.ad (L2.KOf KX) "SwapError")):=by
   refine' PySem.W.mg_of KX G ?a
   (case a=>kernel_rfl)
  have u5:mg "ToldDraft"=some (.ref (L2.ad (L2.KOf KX) "ToldDraft")):=by
   refine' PySem.W.mg_of KX G ?a
   (case a=>kernel_rfl)
  have dt:L2.DTab (L2.KOf KX) "ToldDraft" L2.qaw:=by
   refine' L2.dtab_of ?a
   (case a=>kernel_rfl)
  have di:L2.InitTx (L2.KOf KX) "ToldDraft.__init__" (L2.ad (L2.KOf KX) "ToldDraft") K84.s_dinit ["self"]:=by
   dsimp only[L2.KOf];refine' L2.init_mk ?a ?i ?n ?l ?c ?k ?b
   (case a=>k_is);(case i=>k_is);(case n=>k_is);(case l=>k_is);(case c=>k_is);(case k=>k_is)
   (case b=>exact λ_ _ _ _ _ _ us hl=>match us,hl with |[_],_=>rfl)
  have xt:L2.XTabA (L2.KOf KX):=by
   refine' L2.xtabA_of ?a
   (case a=>kernel_rfl)
  have it:L2.InitTx (L2.KOf KX) "BadText.__init__" (L2.ad (L2.KOf KX) "BadText") K84.s_init L2.qav:=by
   dsimp only[L2.KOf];refine' L2.init_mk ?a ?i ?n ?l ?c ?k ?b
   (case a=>k_is);(case i=>k_is);(case n=>k_is);(case l=>k_is);(case c=>k_is);(case k=>k_is)
   (case b=>exact λ_ _ _ _ _ _ us hl=>match us,hl with |[_,_],_=>rfl)
  have T:K84.Tx (L2.KOf KX) mg:=⟨jA,jB,jC,jD,jE,jF,jG,jH,jI,jJ,jK,jL,jM,jN,jO,jP,jQ,jR,jS,jT,jU,jV,jW,jX,jY,jZ,j7,j8,j9,kD,kF,kH,kI,kK,kM,kN,kO,kQ,kR,kS,kT,kU,kW,kX,kY,kZ,k4,k9,uA,uB,uC,uD,uE,uF,uG,uH,uI,uJ,uK,uL,uM,uN,uO,uP,uQ,uR,uS,uT,uU,uV,uW,uX,uY,uZ,u4,u5,dt,di,xt,it⟩;exact L2.law_top uA hmg λbase=>K84.law_is T
